import PyProof.Rows.All
import Wide.All
import OpenK.AllK
import Wide.FinOn
import Lean
import PyProof.EqAt
import PyProof.EqKinds
import PyProof.TupleCall
import KE.KItemsList
import KE.KDictList
import PySem.Challenge.RW_greywalk_k31_no_dark_holds_pale
set_option Elab.async false
set_option linter.all false
set_option maxRecDepth 100000
abbrev aC:=PySem.W.Frag
theorem bW {α:Type}{l:List α}{i:Nat} (h:i < l.length):l[i]? =some l[i]:=List.getElem?_eq_getElem h
theorem dN {α:Type}{l:List α}{i:Nat}{a:α} (h:l[i]? =some a):∃ h:i < l.length,l[i]=a:=List.getElem?_eq_some_iff.mp h
theorem cP {α β:Type}{f:α→β}{l:List α}{i:Nat}:(l.map f)[i]? =l[i]?.map f:=List.getElem?_map
theorem bD {α β:Type}{l:List α} (f:α→β):(l.map f).length=l.length:=List.length_map f
namespace L2
open PySem PySem.Spec PyProof.Rows
abbrev Key:=Sum Int Str
def En:Key→Value→Bool
 | .inl k,v=>Value.isInt k v
 | .inr x,v=>Value.isStrOf x v
def Zpw (w:World):Key→Int
 | .inl k=>hashInt k
 | .inr x=>hashStr w x
theorem eU:∀ {k:Key}{v:Value},En k v=true→(∃ i t,k=Sum.inl i∧v=Value.int i t)∨(∃ x t,k=Sum.inr x∧v=Value.str x t)
 | .inl i,v,h=>by
  obtain ⟨t,e⟩:=Value.isInt_shape (k:=i) (v:=v) h;exact .inl ⟨i,t,rfl,e⟩
 | .inr x,v,h=>by
  obtain ⟨t,e⟩:=Value.isStrOf_shape (x:=x) (v:=v) h;exact .inr ⟨x,t,rfl,e⟩
theorem Zd8 (i:Int) (t:Tok):En (.inl i) (.int i t)=true:=by simp [En,Value.isInt]
theorem Zd7 (x:Str) (t:Tok):En (.inr x) (.str x t)=true:=by simp [En,Value.isStrOf]
theorem Znn (a b:Int):decide ((Sum.inl a:Key)=Sum.inl b)=(a == b):=by
 by_cases e:a=b
 ·subst e;simp
 ·have h:¬ (Sum.inl a:Key)=Sum.inl b:=fun q=>e (Sum.inl.inj q);rw [decide_eq_false h];exact (beq_eq_false_iff_ne.mpr e).symm
theorem Znk (a b:Str):decide ((Sum.inr a:Key)=Sum.inr b)=decide (a=b):=by
 by_cases e:a=b
 ·subst e;simp
 ·have h:¬ (Sum.inr a:Key)=Sum.inr b:=fun q=>e (Sum.inr.inj q);rw [decide_eq_false h,decide_eq_false e]
theorem Znm (a:Int) (b:Str):decide ((Sum.inl a:Key)=Sum.inr b)=false:=decide_eq_false (fun q=>nomatch q)
theorem Znl (a:Str) (b:Int):decide ((Sum.inr a:Key)=Sum.inl b)=false:=decide_eq_false (fun q=>nomatch q)
def eO (prog:Program) (w:World):PySem.KeyKind prog w Key where
  is:=En
  hash:=Zpw w
  inj:=fun v a b ha hb=>by
    rcases eU ha with ⟨i,t,rfl,rfl⟩ | ⟨x,t,rfl,rfl⟩
    · rcases eU hb with ⟨j,u,rfl,e⟩ | ⟨y,u,rfl,e⟩
      · injection e with e1 _;rw [e1]
      · exact nomatch e
    · rcases eU hb with ⟨j,u,rfl,e⟩ | ⟨y,u,rfl,e⟩
      · exact nomatch e
      · injection e with e1 _;rw [e1]
  byValue:=fun k v h=>by
    rcases eU h with ⟨i,t,rfl,rfl⟩ | ⟨x,t,rfl,rfl⟩<;>rfl
  pyHash:=fun hv h=>by
    rcases eU hv with ⟨i,t,rfl,rfl⟩ | ⟨x,t,rfl,rfl⟩
    · exact wpAny_pyHash_int h
    · exact wpAny_pyHash_str h
  eqBool:=fun hu hv h=>by
    rcases eU hu with ⟨i,t,rfl,rfl⟩ | ⟨x,t,rfl,rfl⟩
    · rcases eU hv with ⟨j,u,rfl,rfl⟩ | ⟨y,u,rfl,rfl⟩
      · rw [Znn] at h;exact wpAny_eqBool_int h
      · rw [Znm] at h;exact SeqAt.EqAt.int_str i t y u _ _ _ _ h
    · rcases eU hv with ⟨j,u,rfl,rfl⟩ | ⟨y,u,rfl,rfl⟩
      · rw [Znl] at h;exact SeqAt.EqAt.str_int x t j u _ _ _ _ h
      · rw [Znk] at h;exact wpAny_eqBool_str h
  «strs»:=fun k x t v h=>by
    rcases eU h with ⟨i,u,rfl,e⟩ | ⟨y,u,rfl,e⟩
    · exact nomatch e
    · injection e with e1 _
      subst e1;cases v<;>rfl
theorem Xa (prog:Program) (w:World) (i:Int) (t:Tok):(eO prog w).is (.inl i) (.int i t)=true:=Zd8 i t
theorem W9 (prog:Program) (w:World) (x:Str) (t:Tok):(eO prog w).is (.inr x) (.str x t)=true:=Zd7 x t
end L2
namespace L2
open PySem PySem.Spec PyProof.Rows
inductive V where
 | non | bl (b:Bool) | int (i:Int) | str (x:Str) | byt (b:Array UInt8) | flt (b:UInt64) | ref (a:Addr) | ty (n:String)
 deriving DecidableEq
def RelV:V→Value→Prop
 | .non,u=>u=Value.none
 | .bl b,u=>u=Value.bool b
 | .int i,u=>∃ t,u=Value.int i t
 | .str x,u=>∃ t,u=Value.str x t
 | .byt b,u=>∃ t,u=Value.bytes b t
 | .flt b,u=>∃ t,u=Value.float b t
 | .ref a,u=>u=Value.ref a
 | .ty n,u=>u=Value.type n
abbrev Vals:List V→List Value→Prop:=Paired RelV
theorem Vals.length {xs:List V}{us:List Value} (r:Vals xs us):xs.length=us.length:=Paired.length r
theorem Vals.get:∀ {xs:List V}{us:List Value}{i:Nat}{x:V},Vals xs us→xs[i]? =some x→∃ u,us[i]? =some u∧RelV x u
 | _,_,_,_,.nil,e=>by simp at e
 | _,_,0,_,.cons r _,e=>by simp at e;subst e;exact ⟨_,rfl,r⟩
 | _,_,i + 1,x,.cons _ t,e=>by
  obtain ⟨u,h1,h2⟩:=Vals.get (i:=i) (x:=x) t (by simpa using e);exact ⟨u,by simpa using h1,h2⟩
theorem Vals.set {x:V}{u:Value} (r:RelV x u):∀ {xs:List V}{us:List Value} (i:Nat),Vals xs us→Vals (xs.set i x) (us.set i u)
 | _,_,_,.nil=>.nil
 | _,_,0,.cons _ t=>.cons r t
 | _,_,i + 1,.cons q t=>.cons q (Vals.set r i t)
theorem Vals.append:∀ {xs ys:List V}{us ws:List Value},Vals xs us→Vals ys ws→Vals (xs ++ ys) (us ++ ws)
 | _,_,_,_,.nil,s=>s
 | _,_,_,_,.cons r t,s=>.cons r (Vals.append t s)
theorem Vals.take:∀ {xs:List V}{us:List Value} (n:Nat),Vals xs us→Vals (xs.take n) (us.take n)
 | _,_,0,_=>.nil
 | _,_,_ + 1,.nil=>.nil
 | _,_,n + 1,.cons r t=>.cons r (Vals.take n t)
theorem Vals.drop:∀ {xs:List V}{us:List Value} (n:Nat),Vals xs us→Vals (xs.drop n) (us.drop n)
 | _,_,0,r=>r
 | _,_,_ + 1,.nil=>.nil
 | _,_,n + 1,.cons _ t=>Vals.drop n t
def Bg:Option V→Option Value→Prop
 | some v,some u=>RelV v u
 | none,none=>True
 | _,_=>False
def KV {κ:Type}:List (κ×V)→List (κ×Value)→Prop:=Paired fun (p:κ×V) (q:κ×Value)=>p.1=q.1∧RelV p.2 q.2
def kV:Key→V
 | .inl i=>.int i
 | .inr x=>.str x
inductive HO where
  | lst (xs:List V)
  | tup (xs:List V)
  | dK (kvs:List (Key×V)) | dT (kvs:List (List Key×V))
  | set (S:Int→Bool) (n:Nat)
  | ins (C dx:Addr) (fs:List (Str×V))
  | own (x:Addr)
  | xd (fs:List (Str×V))
  | met (f x:Addr)
  | rng (lo hi:Int)
  | Bc (o:Obj) (u:HO)
  | Ks (ps:Array Value)
  | ext (φ:Heap→Prop)
abbrev Hp:=Addr→Option HO
def upd (H:Hp) (a:Addr) (o:HO):Hp:=fun b=>if b=a then some o else H b
theorem aq {H:Hp}{a:Addr}{o:HO}:upd H a o a=some o:=by unfold upd;rw [if_pos rfl]
theorem aB {H:Hp}{a b:Addr}{o:HO} (h:b≠a):upd H a o b=H b:=by unfold upd;rw [if_neg h]
theorem dY {H:Hp}{a:Addr}{o u:HO}:upd (upd H a o) a u=upd H a u:=by
 funext b;unfold upd;split<;>rfl
theorem pI {H:Hp}{a b:Addr}{o u:HO} (h:H a=some o) (h':H b=some u) (d:o≠u):a≠b:=by
 intro e;subst e;rw [h] at h';exact d (Option.some.inj h')
theorem aD {H:Hp}{a b:Addr}{o:HO} (h:H a=some o) (h':H b=none):a≠b:=by
 intro e;subst e;rw [h] at h';cases h'
section
variable (P:Program) (w:World)
def kZ (H:Hp) (h:Heap) (a:Addr):HO→Prop
 | .lst xs=>xs.length≤sizeLine∧∃ (its:List Value) (n:Nat),Vals xs its∧h.get? a=some { cls:=.type "list",data:=.seq its.toArray n }
 | .tup xs=>xs.length≤sizeLine∧∃ its:List Value,Vals xs its∧IsTup h a its.toArray
 | .dK kvs=>kvs.length≤sizeLine∧(a == sysModules)=false∧∃ vs,KV kvs vs∧h.DictOf (eO P w) a vs
 | .dT kvs=>kvs.length≤sizeLine∧(a == sysModules)=false∧∃ xs:List (List Key×Addr×Value),
   Paired (fun (p:List Key×V) (q:List Key×Addr×Value)=>p.1=q.1∧H q.2.1=some (.tup (p.1.map kV))∧RelV p.2 q.2.2) kvs xs∧
   ∃ o es ep,h.get? a=some o∧o.ExactDict∧o.data=.dict es ep∧es.toList=xs.map (entryOfKey (tupleKind (eO P w)))∧(xs.map (·.1)).Nodup
 | .set S n=>h.SetOf (intKind P w) a S n
 | .ins C dx fs=>H dx=some (.own a)∧fs.length≤1000∧dx≠a∧h.get? a=some (PySem.W.instObj C dx)∧
   ∃ mA,h.Ns1 dx mA∧(∀ f,Bg (fs.lookup f) (mA f))∧PySem.Within mA (fs.map (·.1))
 | .own _=>∃ o,h.get? a=some o
 | .xd fs=>∃ mA,h.Ns1 a mA∧∀ f,Bg (fs.lookup f) (mA f)
 | .rng lo hi=>∃ t u v,h.get? a=some { cls:=.type "range",data:=.fields #[.int lo t,.int hi u,.int 1 v] }
 | .Bc o u=>h.get? a=some o∧kZ H h a u
 | .Ks ps=>h.get? a=some { cls:=.none,data:=.fields ps }
 | .met f x=>h.get? a=some (PySem.W.methodObj (.ref f) (.ref x))
 | .ext φ=>φ h∧(∃ o,h.get? a=some o)∧∀ h1 h2:Heap,φ h1→(∀ o,h1.get? a=some o→h2.get? a=some o)→φ h2
def yx (H:Hp) (h:Heap):Prop:=∀ a o,H a=some o→kZ P w H h a o
end
section
variable {P:Program}{w:World}{H H':Hp}{h h':Heap}{a:Addr}{o:HO}
theorem kZ.lt (x:kZ P w H h a o):a < h.objs.size:=by
 cases o with
 | lst xs=>obtain ⟨_,_,_,_,e⟩:=x;exact Heap.lt_size e
 | tup xs=>obtain ⟨_,_,_,p⟩:=x;exact p.lt
 | dK kvs=>obtain ⟨_,_,_,_,o,_,_,e,_⟩:=x;exact Heap.lt_size e
 | dT kvs=>obtain ⟨_,_,_,_,o,_,_,e,_⟩:=x;exact Heap.lt_size e
 | set S n=>obtain ⟨o,_,_,_,e,_⟩:=x;exact Heap.lt_size e
 | ins C dx fs=>obtain ⟨_,_,_,e,_⟩:=x;exact Heap.lt_size e
 | own y=>obtain ⟨_,e⟩:=x;exact Heap.lt_size e
 | xd fs=>obtain ⟨_,⟨_,_,_,e,_⟩,_⟩:=x;exact Heap.lt_size e
 | rng lo hi=>obtain ⟨_,_,_,e⟩:=x;exact Heap.lt_size e
 | Bc ob u=>obtain ⟨e,_⟩:=x;exact Heap.lt_size e
 | Ks ps=>exact Heap.lt_size (show h.get? a=some _ from x)
 | met f y=>exact Heap.lt_size (show h.get? a=some _ from x)
 | ext φ=>obtain ⟨_,⟨_,e⟩,_⟩:=x;exact Heap.lt_size e
theorem Paired.Zne {α β:Type}{F G:α→β→Prop}:∀ {l₁:List α}{l₂:List β},Paired F l₁ l₂→(∀ a b,F a b→G a b)→Paired G l₁ l₂
 | _,_,.nil,_=>.nil
 | _,_,.cons r t,f=>.cons (f _ _ r) (Paired.Zne t f)
theorem kZ.stay (x:kZ P w H h a o) (k:∀ b u,(b=a∨H b=some (.own a))→h.get? b=some u→h'.get? b=some u)
  (ho:∀ b,H b=some (.own a)→H' b=some (.own a)) (ht:∀ b xs,H b=some (.tup xs)→H' b=some (.tup xs)):kZ P w H' h' a o:=by
 induction o with
 | lst xs=>obtain ⟨z,its,n,r,e⟩:=x;exact ⟨z,its,n,r,k _ _ (.inl rfl) e⟩
 | tup xs=>obtain ⟨z,its,r,ob,e,c⟩:=x;exact ⟨z,its,r,ob,k _ _ (.inl rfl) e,c⟩
 | dK kvs=>obtain ⟨z,y,vs,r,ob,es,ep,e,c⟩:=x;exact ⟨z,y,vs,r,ob,es,ep,k _ _ (.inl rfl) e,c⟩
 | dT kvs=>
  obtain ⟨z,y,xs,r,ob,es,ep,e,c⟩:=x;exact ⟨z,y,xs,Paired.Zne r fun p q z=>⟨z.1,ht _ _ z.2.1,z.2.2⟩,ob,es,ep,k _ _ (.inl rfl) e,c⟩
 | set S n=>obtain ⟨ob,es,ep,t,e,c⟩:=x;exact ⟨ob,es,ep,t,k _ _ (.inl rfl) e,c⟩
 | ins C dx fs=>
  obtain ⟨d,z,ne,e,mA,⟨od,es,ep,e2,c⟩,r⟩:=x;exact ⟨ho _ d,z,ne,k _ _ (.inl rfl) e,mA,⟨od,es,ep,k _ _ (.inr d) e2,c⟩,r⟩
 | own y=>obtain ⟨ob,e⟩:=x;exact ⟨ob,k _ _ (.inl rfl) e⟩
 | xd fs=>obtain ⟨mA,⟨od,es,ep,e,c⟩,r⟩:=x;exact ⟨mA,⟨od,es,ep,k _ _ (.inl rfl) e,c⟩,r⟩
 | rng lo hi=>obtain ⟨t,u,v,e⟩:=x;exact ⟨t,u,v,k _ _ (.inl rfl) e⟩
 | Bc ob u ih=>obtain ⟨e,q⟩:=x;exact ⟨k _ _ (.inl rfl) e,ih q⟩
 | Ks ps=>
  have e:h.get? a=some { cls:=.none,data:=.fields ps }:=x;show h'.get? a=some { cls:=.none,data:=.fields ps };exact k a _ (.inl rfl) e
 | met f y=>
  have e:h.get? a=some (PySem.W.methodObj (.ref f) (.ref y)):=x;show h'.get? a=some (PySem.W.methodObj (.ref f) (.ref y));exact k a _ (.inl rfl) e
 | ext φ=>obtain ⟨p,⟨o,e⟩,st⟩:=x;exact ⟨st _ _ p fun o q=>k _ _ (.inl rfl) q,⟨o,k _ _ (.inl rfl) e⟩,st⟩
theorem yx.lt (x:yx P w H h) (e:H a=some o):a < h.objs.size:=(x a o e).lt
theorem yx.fresh (x:yx P w H h) (e:h.objs.size≤a):H a=none:=by
 cases q:H a with
 | none=>rfl
 | some u=>exact absurd (Nat.lt_of_lt_of_le (x.lt q) e) (Nat.lt_irrefl _)
theorem yx.kept (x:yx P w H h) (k:∀ b u,h.get? b=some u→h'.get? b=some u):yx P w H h':=fun a o e=>
 (x a o e).stay (fun b u _ q=>k b u q) (fun _ q=>q) fun _ _ q=>q
theorem yx.laid (x:yx P w H h) (k:∀ b u,h.get? b=some u→h'.get? b=some u) (hp:h.objs.size≤a) (new:kZ P w (upd H a o) h' a o):yx P w (upd H a o) h':=fun b u e=>by
 have hn:=x.fresh hp
 by_cases hb:b=a
 ·subst hb;rw [aq] at e;cases e;exact new
 ·rw [aB hb] at e;exact (x b u e).stay (fun c v _ q=>k c v q) (fun c q=>by rw [aB (aD q hn)];exact q) fun c xs q=>by rw [aB (aD q hn)];exact q
end
def Rd (H:Hp) (a:Addr) (u:HO):Prop:=H a=some u∨∃ o,H a=some (.Bc o u)
theorem Rd.ok {P:Program}{w:World}{H:Hp}{h:Heap}{a:Addr}{u:HO} (r:Rd H a u) (x:yx P w H h):kZ P w H h a u:=by
 rcases r with r | ⟨o,r⟩
 ·exact x a u r
 ·obtain ⟨_,q⟩:=x a _ r;exact q
def Mut:Option HO→Prop
 | some (.lst _)=>True
 | some (.dK _)=>True
 | some (.dT _)=>True
 | some (.set _ _)=>True
 | some (.ins _ _ _)=>True
 | some (.ext _)=>True
 | _=>False
section
variable {P:Program}{w:World}{H:Hp}{h h':Heap}{x e:Addr}{o':HO}
theorem yx.write (ok:yx P w H h) (mu:Mut (H x)) (he:e=x∨H e=some (.own x)) (k:∀ b u,b≠e→h.get? b=some u→h'.get? b=some u) (heo:∃ u,h'.get? e=some u)
  (new:kZ P w (upd H x o') h' x o'):yx P w (upd H x o') h':=fun b u q=>by
 have Zpr:∀ c y,H c=some (.own y)→c≠x:=fun c y r z=>by subst z;rw [r] at mu;exact mu
 have Zrd:∀ c xs,H c=some (.tup xs)→c≠x:=fun c xs r z=>by subst z;rw [r] at mu;exact mu
 by_cases hb:b=x
 ·subst hb;rw [aq] at q;cases q;exact new
 ·rw [aB hb] at q
  by_cases hbe:b=e
  ·have q':H b=some (.own x):=by
    rcases he with z | z
    ·exact absurd (hbe.trans z) hb
    ·rw [hbe];exact z
   rw [q] at q';cases q';obtain ⟨v,hv⟩:=heo;exact ⟨v,by rw [hbe];exact hv⟩
  ·refine (ok b u q).stay (fun c v hc r=>k c v ?_ r) (fun c r=>by rw [aB (Zpr c b r)];exact r) fun c xs r=>by rw [aB (Zrd c xs r)];exact r
   rcases hc with rfl | hc
   ·exact hbe
   ·rintro rfl;rcases he with z | z
    ·exact Zpr c b hc z
    ·rw [hc] at z;cases z;exact hb rfl
end
structure Un (fs ex:List Addr) (H H':Hp) (h h':Heap):Prop where
 keep:∀ b o,h.get? b=some o→H b=none→b∉fs→b∉ex→h'.get? b=some o
 slot:∀ b o,h.get? b=some o→H b=none→b∈fs→b∉ex→∃ sl,h'.get? b=some { o with slots:=sl }
 free:∀ b o,h.get? b=some o→H b=none→b∉ex→H' b=none
 there:∀ b o,h.get? b=some o→b∉ex→∃ o',h'.get? b=some o'
 tups:∀ b xs,H b=some (.tup xs)→H' b=some (.tup xs)
 Cy:∀ b o u,H b=some (.Bc o u)→H' b=some (.Bc o u)
 Dd:∀ b ps,H b=some (.Ks ps)→∃ more,H' b=some (.Ks (ps ++ more))
section
variable {fs fs' ex ex':List Addr}{H H1 H2:Hp}{h h1 h2 h':Heap}{a x e:Addr}{o:HO}
theorem Un.any (u:Un fs ex H H1 h h1) {b:Addr}{ob:Obj} (q:h.get? b=some ob) (n:H b=none) (hx:b∉ex):∃ sl,h1.get? b=some { ob with slots:=sl }:=by
 by_cases hb:b∈fs
 ·exact u.slot b ob q n hb hx
 ·exact ⟨ob.slots,u.keep b ob q n hb hx⟩
theorem Un.kept (k:∀ b u,h.get? b=some u→h'.get? b=some u):Un fs ex H H h h':=
 ⟨fun b ob q _ _ _=>k b ob q,fun b ob q _ _ _=>⟨ob.slots,k b ob q⟩,fun _ _ _ n _=>n,fun b ob q _=>⟨ob,k b ob q⟩,fun _ _ q=>q,fun _ _ _ q=>q,fun _ ps q=>⟨#[],by rw [q];simp⟩⟩
theorem Un.refl:Un fs ex H H h h:=Un.kept fun _ _ q=>q
theorem Un.laid (k:∀ b u,h.get? b=some u→h'.get? b=some u) (hp:h.objs.size≤a) (hn:H a=none):Un fs ex H (upd H a o) h h' where
 keep:=fun b u q _ _ _=>k b u q
 slot:=fun b u q _ _ _=>⟨u.slots,k b u q⟩
 free:=fun b u q n _=>by rw [aB (Nat.ne_of_lt (Nat.lt_of_lt_of_le (Heap.lt_size q) hp))];exact n
 there:=fun b u q _=>⟨u,k b u q⟩
 tups:=fun b xs q=>by rw [aB (aD q hn)];exact q
 Cy:=fun b u xs q=>by rw [aB (aD q hn)];exact q
 Dd:=fun b ps q=>⟨#[],by rw [aB (aD q hn),q];simp⟩
theorem Un.write (mu:Mut (H x)) (he:e=x∨H e=some (.own x)) (k:∀ b u,b≠e→h.get? b=some u→h'.get? b=some u) (heo:∃ u,h'.get? e=some u):Un fs ex H (upd H x o) h h':=by
 have hx:∀ b,H b=none→b≠x:=fun b n z=>by subst z;rw [n] at mu;exact mu
 have hb:∀ b,H b=none→b≠e:=fun b n z=>by
  subst z;rcases he with r | r
  ·exact hx b n r
  ·rw [n] at r;cases r
 have hm:∀ b u,H b=some u→¬ Mut (some u)→b≠x:=fun b u q nm z=>by subst z;rw [q] at mu;exact nm mu
 refine ⟨fun b u q n _ _=>k b u (hb b n) q,fun b u q n _ _=>⟨u.slots,k b u (hb b n) q⟩,fun b u q n _=>by rw [aB (hx b n)];exact n,fun b u q _=>?_,
  fun b xs q=>by rw [aB (hm b _ q fun z=>z)];exact q,fun b u xs q=>by rw [aB (hm b _ q fun z=>z)];exact q,fun b ps q=>⟨#[],by rw [aB (hm b _ q fun z=>z),q];simp⟩⟩
 by_cases hbe:b=e
 ·subst hbe;exact heo
 ·exact ⟨u,k b u hbe q⟩
end
def trk (h:Heap) (H:Hp):List Addr:=(List.range h.objs.size).filter fun a=>(H a).isSome
def Uw (h:Heap) (H:Hp):Heap:=PySem.W.hideAll h (trk h H)
theorem Zdq (h:Heap) (H:Hp):(Uw h H).objs.size=h.objs.size:=PySem.W.hideAll_size _ _
theorem Zh9 {h:Heap}{H:Hp}{b:Addr}{o:Obj} (e:h.get? b=some o) (n:H b=none):(Uw h H).get? b=some o:=
 PySem.W.hideAll_get _ e fun hm=>by
  have q:(H b).isSome=true:=(List.mem_filter.mp hm).2;rw [n] at q;simp at q
theorem Zjx {h:Heap}{H:Hp}{b:Addr}{o:Obj} (e:(Uw h H).get? b=some o):h.get? b=some o∧H b=none:=by
 have e':h.get? b=some o:=PySem.W.of_hideAll (trk h H) e;refine ⟨e',?_⟩;cases q:H b with
 | none=>rfl
 | some x=>
  have hm:b∈trk h H:=List.mem_filter.mpr ⟨List.mem_range.mpr (Heap.lt_size e'),by simp [q]⟩;have z:(Uw h H).get? b=none:=PySem.W.hideAll_none (trk h H) hm;rw [z] at e;cases e
def Zlg (g h:Heap) (L:Addr):List (Addr×Obj):=(List.range h.objs.size).filterMap fun a=>if a=L∨(g.get? a).isSome=true then none else (h.get? a).map fun o=>(a,o)
def rest (g h:Heap) (L d:Addr):List (Addr×Obj):=(Zlg g h L).filter fun p=>decide (p.1≠d)
end L2
namespace L2
open PySem PySem.Spec PyProof.Rows
structure Mod (K:aC) (mg:Str→Option Value) (base:Heap):Prop where
 kin:K.In base
 glob:base.Ns mainGlobals mg
 blt:∃ mb,base.Ns builtinsNs mb∧∀ x:Str,x≠"__name__"→mb x=bootBuiltins x
 nolimit:base.NoLimit
structure Cx where
 prog:Program
 w:World
 K:aC
 mg:Str→Option Value
 base:Heap
 A:Around
 N:List Str
 s₀:Shared
 H₀:Hp
 env:Env
 outer:List Env
 stack:List Env
 ex:List Addr
 fn:Str→Bool
 calm:Bool
 pn:List (Addr×Obj)
 xe:Value→Shared→Prop
def frs (l:List Env):List Addr:=l.filterMap (·.frame)
abbrev Cx.fs (X:Cx):List Addr:=frs X.outer
def Vis (sc:Scope) (x:Str):Prop:=sc.names.lookup x=some .local∨sc.names.lookup x=some .cell∨sc.names.lookup x=some .free
def Loc (sc:Scope) (x:Str):Prop:=sc.names.lookup x=some .local∨sc.names.lookup x=some .cell
def Look (env:Env) (h:Heap) (m:Str→Option Value) (x:Str) (u:Value):Prop:=
 (env.kindOf x=some .local∧m x=some u)∨((env.kindOf x=some .cell∨env.kindOf x=some .free)∧∃ c,env.cells.lookup x=some c∧h.IsCell c (some u))
structure Cx.Ok (X:Cx):Prop where
 mod:Mod X.K X.mg X.base
 kind:X.env.scope.kind=.function
 glob:X.env.globals=mainGlobals
 blt:X.env.builtins=builtinsNs
 above:X.s₀.heap.objs.size≤X.env.locals
 inj:∀ x y c,X.env.cells.lookup x=some c→X.env.cells.lookup y=some c→x=y
 has:∀ x,(X.env.kindOf x=some .cell∨X.env.kindOf x=some .free)→∃ c,X.env.cells.lookup x=some c
 cab:∀ x c,X.fn x=true→X.env.cells.lookup x=some c→X.s₀.heap.objs.size≤c
 hd:X.calm=true→X.A.handled=none
 frames:X.A.frames=some X.stack
 stk:X.stack=X.outer∨(X.stack=X.env :: X.outer∧X.env.frame=some X.env.locals)
 exf:∀ b∈X.ex,b≠X.env.locals∧∀ x c,X.env.cells.lookup x=some c→c≠b
 bs:∀ b o,X.base.get? b=some o→X.s₀.heap.get? b=some o∧X.H₀ b=none
 bsz:X.base.objs.size≤X.s₀.heap.objs.size
 O7:∀ b o,X.base.get? b=some o→b∉X.ex
 Xp:∀ b∈X.ex,b∉X.fs
 vX:X.s₀.heap.FunFrames X.base X.outer
 frf:∀ b∈X.fs,X.H₀ b=none
structure Inv (X:Cx) (pins:List (Addr×Obj)) (σ:List (Option V)) (H:Hp) (s:Shared):Prop where
 ok:X.Ok
 os:s.os=X.s₀.os
 bare:AllBare s.gens
 base:Un X.fs X.ex X.H₀ H X.s₀.heap s.heap
 loc:∃ m,s.heap.Ns X.env.locals m∧∀ (i:Nat) (x:Str) (v:V),X.N[i]? =some x→σ[i]? =some (some v)→Vis X.env.scope x→∃ u,RelV v u∧Look X.env s.heap m x u
 cell:∀ x c,X.env.cells.lookup x=some c→∃ v,s.heap.IsCell c v
 free:H X.env.locals=none
 qH:∀ x c,X.env.cells.lookup x=some c→H c=none
 pin:∀ p∈X.pn ++ pins,s.heap.get? p.1=some p.2∧H p.1=none∧p.1≠X.env.locals∧p.1∉X.fs∧∀ v,p.2.data≠.cell v
 hok:yx X.prog X.w H s.heap
 len:σ.length=X.N.length
section
variable {X:Cx}{pins:List (Addr×Obj)}{σ:List (Option V)}{H H':Hp}{s:Shared}{h':Heap}
theorem Cx.Ok.Zrf (ok:X.Ok) {b:Addr}{o:Obj} (e:X.base.get? b=some o):b∉X.fs:=fun hb=>by
 have:=(ok.vX.mem hb).1;rw [e] at this;cases this
theorem Inv.bs (I:Inv X pins σ H s):∀ b o,X.base.get? b=some o→s.heap.get? b=some o∧H b=none:=fun b o e=>
 ⟨I.base.keep b o (I.ok.bs b o e).1 (I.ok.bs b o e).2 (I.ok.Zrf e) (I.ok.O7 b o e),I.base.free b o (I.ok.bs b o e).1 (I.ok.bs b o e).2 (I.ok.O7 b o e)⟩
theorem Inv.bk (I:Inv X pins σ H s):∀ b o,X.base.get? b=some o→s.heap.get? b=some o:=fun b o e=>(I.bs b o e).1
theorem Inv.mod (I:Inv X pins σ H s):Mod X.K X.mg X.base:=I.ok.mod
theorem Inv.J7 (I:Inv X pins σ H s):X.K.In s.heap:=I.ok.mod.kin.keeps I.bk
theorem Inv.lt (I:Inv X pins σ H s):X.env.locals < s.heap.objs.size:=let ⟨_,hn,_⟩:=I.loc;hn.lt
theorem Inv.sz (I:Inv X pins σ H s):X.s₀.heap.objs.size≤s.heap.objs.size:=Nat.le_trans I.ok.above (Nat.le_of_lt I.lt)
theorem Inv.Zre (I:Inv X pins σ H s) {a:Addr} (h:s.heap.objs.size≤a):a∉X.fs:=fun hb=>by
 obtain ⟨_,o,ho,_⟩:=I.ok.vX.mem hb;exact absurd (Nat.lt_of_lt_of_le (Heap.lt_size ho) (Nat.le_trans I.sz h)) (Nat.lt_irrefl _)
theorem Inv.cne (I:Inv X pins σ H s):∀ x c,X.env.cells.lookup x=some c→c≠X.env.locals:=fun x c e z=>by
 obtain ⟨v,o,ho,hd⟩:=I.cell x c e;obtain ⟨m,⟨o',es,ep,ho',hd',_⟩,_⟩:=I.loc;rw [z,ho'] at ho;cases ho;rw [hd'] at hd;cases hd
theorem Inv.vX (I:Inv X pins σ H s):s.heap.FunFrames X.base X.outer:=by
 have all:∀ (l:List Env),(∀ b∈frs l,b∈X.fs)→X.s₀.heap.FunFrames X.base l→s.heap.FunFrames X.base l:=by
  intro l
  induction l with
  | nil=>intro _ _;trivial
  | cons env r ih=>
   intro hs hl;obtain ⟨hk,⟨L,o,hf,hn,ho,hd⟩,hr⟩:=hl;have hL:L∈X.fs:=hs L (by unfold frs;rw [List.filterMap_cons,hf];exact List.mem_cons_self);obtain ⟨sl,e⟩:=I.base.slot L o ho (I.ok.frf L hL) hL fun z=>I.ok.Xp L z hL;exact ⟨hk,⟨L,_,hf,hn,e,hd⟩,ih (fun b hb=>hs b (by unfold frs;rw [List.filterMap_cons,hf];exact List.mem_cons_of_mem _ hb)) hr⟩
 exact all X.outer (fun _ hb=>hb) I.ok.vX
theorem Inv.stack (I:Inv X pins σ H s):s.heap.FunFrames X.base X.stack:=by
 rcases I.ok.stk with e | ⟨e,hf⟩
 ·rw [e];exact I.vX
 ·rw [e];obtain ⟨m,hn,_⟩:=I.loc;refine .cons (by rw [I.ok.kind];decide) hf hn ?_ I.vX;exact Heap.get?_none_of_le (Nat.le_trans I.ok.bsz I.ok.above)
theorem Inv.yG (I:Inv X pins σ H s):∀ b∈frs X.stack,b∈X.env.locals :: X.fs:=fun b hb=>by
 rcases I.ok.stk with e | ⟨e,hf⟩
 ·rw [e] at hb;exact List.mem_cons_of_mem _ hb
 ·rw [e] at hb;unfold frs at hb;rw [List.filterMap_cons,hf] at hb;exact hb
theorem Inv.JT (I:Inv X pins σ H s):∀ b∈frs X.stack,H b=none:=fun b hb=>by
 rcases List.mem_cons.mp (I.yG b hb) with e | hb
 ·rw [e];exact I.free
 ·obtain ⟨_,o,ho,_⟩:=I.ok.vX.mem hb;exact I.base.free b o ho (I.ok.frf b hb) fun z=>I.ok.Xp b z hb
theorem Inv.step {g':Array GenState}{t':Nat}{d':Drawn}{ch:List Addr} (I:Inv X pins σ H s)
  (hch:∀ b∈ch,(b∈X.ex∨X.s₀.heap.objs.size≤b)∧b≠X.env.locals∧(∀ x c,X.env.cells.lookup x=some c→c≠b)∧∀ p∈X.pn ++ pins,p.1≠b)
  (keep:∀ b o,b≠X.env.locals→b∉X.fs→b∉ch→s.heap.get? b=some o→H b=none→h'.get? b=some o)
  (slot:∀ b o,b≠X.env.locals→b∈X.fs→b∉ch→s.heap.get? b=some o→H b=none→∃ sl,h'.get? b=some { o with slots:=sl }) (free:∀ b o,b∉ch→s.heap.get? b=some o→H b=none→H' b=none)
  (there:∀ b o,b∉ch→s.heap.get? b=some o→∃ o',h'.get? b=some o')
  (tups:∀ b xs,H b=some (.tup xs)→H' b=some (.tup xs)) (Cy:∀ b o u,H b=some (.Bc o u)→H' b=some (.Bc o u)) (Dd:∀ b ps,H b=some (.Ks ps)→∃ more,H' b=some (.Ks (ps ++ more)))
  (ns:∀ m,s.heap.Ns X.env.locals m→h'.Ns X.env.locals m) (hok:yx X.prog X.w H' h') (hg:AllBare g'):
  Inv X pins σ H' { s with heap:=h',gens:=g',drawn:=d',toks:=t' }:=by
 have neL:∀ b o,X.s₀.heap.get? b=some o→b≠X.env.locals:=fun b o e=>Nat.ne_of_lt (Nat.lt_of_lt_of_le (Heap.lt_size e) I.ok.above);have neC:∀ b o,X.s₀.heap.get? b=some o→b∉X.ex→b∉ch:=fun b o e hx hb=>by
  rcases (hch b hb).1 with z | z
  ·exact hx z
  ·exact absurd (Nat.lt_of_lt_of_le (Heap.lt_size e) z) (Nat.lt_irrefl _)
 have cellK:∀ x c,X.env.cells.lookup x=some c→∀ v,s.heap.IsCell c v→h'.IsCell c v:=fun x c e v ⟨o,ho,hd⟩=>by
  have nch:c∉ch:=fun z=>(hch c z).2.2.1 x c e rfl
  by_cases hc:c∈X.fs
  ·obtain ⟨sl,q⟩:=slot c o (I.cne x c e) hc nch ho (I.qH x c e);exact ⟨_,q,hd⟩
  ·exact ⟨o,keep c o (I.cne x c e) hc nch ho (I.qH x c e),hd⟩
 refine ⟨I.ok,I.os,hg,⟨fun b o e n hb hx=>?_,fun b o e n hb hx=>?_,fun b o e n hx=>?_,fun b o e hx=>?_,fun b xs e=>tups b xs (I.base.tups b xs e),fun b o xs e=>Cy b o xs (I.base.Cy b o xs e),fun b ps e=>?_⟩,?_,fun x c e=>?_,?_,fun x c e=>?_,fun p hp=>?_,hok,I.len⟩
 ·exact keep b o (neL b o e) hb (neC b o e hx) (I.base.keep b o e n hb hx) (I.base.free b o e n hx)
 ·obtain ⟨sl,e1⟩:=I.base.slot b o e n hb hx;obtain ⟨sl',e2⟩:=slot b _ (neL b o e) hb (neC b o e hx) e1 (I.base.free b o e n hx);exact ⟨sl',e2⟩
 ·obtain ⟨o',e1⟩:=I.base.there b o e hx;exact free b o' (neC b o e hx) e1 (I.base.free b o e n hx)
 ·obtain ⟨o',e1⟩:=I.base.there b o e hx;exact there b o' (neC b o e hx) e1
 ·obtain ⟨m1,e1⟩:=I.base.Dd b ps e;obtain ⟨m2,e2⟩:=Dd b _ e1;exact ⟨m1 ++ m2,by rw [e2,Array.append_assoc]⟩
 ·obtain ⟨m,hn,hl⟩:=I.loc;refine ⟨m,ns m hn,fun i x v e1 e2 e3=>?_⟩;obtain ⟨u,r,l⟩:=hl i x v e1 e2 e3;refine ⟨u,r,?_⟩;rcases l with l | ⟨k,c,e,z⟩
  ·exact .inl l
  ·exact .inr ⟨k,c,e,cellK x c e _ z⟩
 ·obtain ⟨v,z⟩:=I.cell x c e;exact ⟨v,cellK x c e v z⟩
 ·obtain ⟨m,⟨o,_,_,ho,_⟩,_⟩:=I.loc;exact free _ o (fun z=>(hch _ z).2.1 rfl) ho I.free
 ·obtain ⟨v,o,ho,hd⟩:=I.cell x c e;exact free c o (fun z=>(hch c z).2.2.1 x c e rfl) ho (I.qH x c e)
 ·obtain ⟨e,n,ne,nf,d⟩:=I.pin p hp;have nch:p.1∉ch:=fun z=>(hch p.1 z).2.2.2 p hp rfl;exact ⟨keep p.1 p.2 ne nf nch e n,free p.1 p.2 nch e n,ne,nf,d⟩
theorem Inv.un {t':Nat} (I:Inv X pins σ H s) (u:Un X.fs [] H H' s.heap h') (hok:yx X.prog X.w H' h'):Inv X pins σ H' { s with heap:=h',toks:=t' }:=by
 obtain ⟨m,⟨o,es,ep,ho,r⟩,_⟩:=id I.loc;obtain ⟨sl,hL⟩:=u.any ho I.free (by simp);exact I.step (g':=s.gens) (d':=s.drawn) (ch:=[]) (fun _ z=>nomatch z) (fun b o _ hb _ e n=>u.keep b o e n hb (by simp)) (fun b o _ hb _ e n=>u.slot b o e n hb (by simp)) (fun b o _ e n=>u.free b o e n (by simp)) (fun b o _ e=>u.there b o e (by simp)) u.tups u.Cy u.Dd (fun m' hm=>by
  obtain ⟨o',es',ep',ho',r'⟩:=hm;rw [ho] at ho';cases ho';exact ⟨_,es',ep',hL,r'⟩) hok I.bare
theorem Inv.call {g':Array GenState}{t':Nat}{d':Drawn}{ch:List Addr} (I:Inv X pins σ H s) (u:Un (frs X.stack) ch H H' s.heap h') (hok:yx X.prog X.w H' h') (hg:AllBare g')
  (hch:∀ b∈ch,(b∈X.ex∨X.s₀.heap.objs.size≤b)∧b≠X.env.locals∧(∀ x c,X.env.cells.lookup x=some c→c≠b)∧∀ p∈X.pn ++ pins,p.1≠b):
  Inv X pins σ H' { s with heap:=h',gens:=g',drawn:=d',toks:=t' }:=by
 obtain ⟨m,⟨o,es,ep,ho,r⟩,_⟩:=id I.loc;obtain ⟨sl,hL⟩:=u.any ho I.free fun z=>(hch _ z).2.1 rfl;exact I.step (ch:=ch) hch (fun b o hL hb hc e n=>u.keep b o e n (fun z=>(List.mem_cons.mp (I.yG b z)).elim hL hb) hc) (fun b o _ _ hc e n=>u.any e n hc) (fun b o hc e n=>u.free b o e n hc) (fun b o hc e=>u.there b o e hc) u.tups u.Cy u.Dd (fun m' hm=>by
  obtain ⟨o',es',ep',ho',r'⟩:=hm;rw [ho] at ho';cases ho';exact ⟨_,es',ep',hL,r'⟩) hok hg
theorem Inv.turned {t':Nat}{it:Addr} (I:Inv X pins σ H s) (k:∀ b o,b≠it→s.heap.get? b=some o→h'.get? b=some o) (hn:H it=none) (hL:it≠X.env.locals)
  (h1:it∈X.ex∨X.s₀.heap.objs.size≤it) (h2:∀ x c,X.env.cells.lookup x=some c→c≠it) (h3:∀ p∈X.pn ++ pins,p.1≠it):Inv X pins σ H { s with heap:=h',toks:=t' }:=by
 have nit:∀ b u,H b=some u→b≠it:=fun b u e z=>by rw [z,hn] at e;cases e
 refine I.step (g':=s.gens) (d':=s.drawn) (ch:=[it]) (fun b hb=>?_) (fun b o _ _ hc e _=>k b o (fun z=>hc (by simp [z])) e) (fun b o _ _ hc e _=>⟨o.slots,k b o (fun z=>hc (by simp [z])) e⟩) (fun _ _ _ _ n=>n)
  (fun b o hc e=>⟨o,k b o (fun z=>hc (by simp [z])) e⟩) (fun _ _ e=>e) (fun _ _ _ e=>e) (fun b ps e=>⟨#[],by rw [e];simp⟩) (fun m hm=>?_) (fun b u e=>?_) I.bare
 ·have e:b=it:=by simpa using hb
  subst e;exact ⟨h1,hL,h2,h3⟩
 ·obtain ⟨o,es,ep,ho,r⟩:=hm;exact ⟨o,es,ep,k _ o (Ne.symm hL) ho,r⟩
 ·refine (I.hok b u e).stay (fun c v hc q=>k c v ?_ q) (fun _ q=>q) fun _ _ q=>q;rcases hc with z | z
  ·rw [z];exact nit b u e
  ·exact nit c _ z
theorem Inv.tok (I:Inv X pins σ H s) (t:Nat):Inv X pins σ H { s with toks:=t }:=I.un (h':=s.heap) (t':=t) Un.refl I.hok
theorem Inv.kept {t':Nat} (I:Inv X pins σ H s) (k:∀ b u,s.heap.get? b=some u→h'.get? b=some u):Inv X pins σ H { s with heap:=h',toks:=t' }:=I.un (Un.kept k) (I.hok.kept k)
theorem Inv.laid {a:Addr}{o:HO}{t':Nat} (I:Inv X pins σ H s) (k:∀ b u,s.heap.get? b=some u→h'.get? b=some u) (hp:s.heap.objs.size≤a) (new:kZ X.prog X.w (upd H a o) h' a o):
  Inv X pins σ (upd H a o) { s with heap:=h',toks:=t' }:=I.un (Un.laid k hp (I.hok.fresh hp)) (I.hok.laid k hp new)
theorem Inv.write {x e:Addr}{o:HO}{t':Nat} (I:Inv X pins σ H s) (mu:Mut (H x)) (he:e=x∨H e=some (.own x)) (k:∀ b u,b≠e→s.heap.get? b=some u→h'.get? b=some u) (heo:∃ u,h'.get? e=some u)
  (new:kZ X.prog X.w (upd H x o) h' x o):Inv X pins σ (upd H x o) { s with heap:=h',toks:=t' }:=I.un (Un.write mu he k heo) (I.hok.write mu he k heo new)
theorem Inv.rC {Zlt:List (Addr×Obj)} (I:Inv X pins σ H s) (h:∀ p∈Zlt,s.heap.get? p.1=some p.2∧H p.1=none∧p.1≠X.env.locals∧p.1∉X.fs∧∀ v,p.2.data≠.cell v):Inv X Zlt σ H s:=
 ⟨I.ok,I.os,I.bare,I.base,I.loc,I.cell,I.free,I.qH,fun p hp=>(List.mem_append.mp hp).elim (fun z=>I.pin p (List.mem_append_left _ z)) (h p),I.hok,I.len⟩
theorem W5 {N:List Str} (hN:N.Nodup) {i j:Nat}{x:Str} (a:N[i]? =some x) (b:N[j]? =some x):i=j:=by
 obtain ⟨h1,e1⟩:=dN a;obtain ⟨h2,e2⟩:=dN b;exact (List.getElem_inj hN).mp (e1.trans e2.symm)
theorem Zc1 {M:Model}{A:Around}{E:Value→Shared→Prop}{i:Nat}{x:Str}{v:V}{u:Value}{Q:Unit→Shared→Prop} (I:Inv X pins σ H s) (hN:X.N.Nodup) (hi:X.N[i]? =some x) (hx:Loc X.env.scope x) (r:RelV v u)
  (h:∀ s',Inv X pins (σ.set i (some v)) H s'→(∃ a,Heap.SameBut a s.heap s'.heap∧(a=X.env.locals∨X.env.cells.lookup x=some a))→Q () s') (hf:X.fn x=true∨X.env.scope.names.lookup x=some .local:=by first | exact .inl rfl | exact .inr rfl | assumption):wpAny M A (storeName X.env x u) Q E s:=by
 obtain ⟨m,hn,hl⟩:=id I.loc;have hcls:(X.env.scope.kind == .class || (X.env.scope.kind == .module && X.env.locals != X.env.globals))=false:=by rw [I.ok.kind];rfl
 have hiσ:i < σ.length:=by rw [I.len];exact (dN hi).1
 have cne:=I.cne;have tracked:∀ {a:Addr}{h':Heap},(∃ o,s.heap.get? a=some o∧H a=none)→Heap.SameBut a s.heap h'→yx X.prog X.w H h':=fun {a h'} ha hs b ob e=>by
  obtain ⟨_,_,hfree⟩:=ha;refine (I.hok b ob e).stay (fun c w' hc q=>(hs.2 c ?_).trans q) (fun _ q=>q) fun _ _ q=>q;rintro rfl;rcases hc with rfl | hc
  ·rw [hfree] at e;cases e
  ·rw [hfree] at hc;cases hc
 rcases hx with hk | hk
 ·refine wpAny_storeName_local hk hn (fun h' hn' hs=>?_) hcls;obtain ⟨oL,_,_,hoL,_⟩:=id hn;refine h _ ⟨I.ok,I.os,I.bare,⟨fun b o e n hb hx=>?_,fun b o e n hb hx=>?_,I.base.free,fun b o e hx=>?_,I.base.tups,I.base.Cy,I.base.Dd⟩,⟨_,hn',fun j y v' e1 e2 e3=>?_⟩,fun y c e=>?_,I.free,I.qH,fun p hp=>?_,tracked ⟨oL,hoL,I.free⟩ hs,by simpa using I.len⟩ ⟨_,hs,.inl rfl⟩
  ·exact (hs.2 b (Nat.ne_of_lt (Nat.lt_of_lt_of_le (Heap.lt_size e) I.ok.above))).trans (I.base.keep b o e n hb hx)
  ·obtain ⟨sl,e1⟩:=I.base.slot b o e n hb hx;exact ⟨sl,(hs.2 b (Nat.ne_of_lt (Nat.lt_of_lt_of_le (Heap.lt_size e) I.ok.above))).trans e1⟩
  ·obtain ⟨o',e1⟩:=I.base.there b o e hx;exact ⟨o',(hs.2 b (Nat.ne_of_lt (Nat.lt_of_lt_of_le (Heap.lt_size e) I.ok.above))).trans e1⟩
  ·by_cases hj:j=i
   ·subst hj;rw [hi] at e1;cases e1;rw [List.getElem?_set_self hiσ] at e2;cases e2;exact ⟨u,r,.inl ⟨hk,by simp⟩⟩
   ·rw [List.getElem?_set_ne (Ne.symm hj)] at e2;obtain ⟨u',r',q⟩:=hl j y v' e1 e2 e3;refine ⟨u',r',?_⟩;rcases q with ⟨k,e⟩ | ⟨k,c,e,z⟩
    ·refine .inl ⟨k,?_⟩;have:y≠x:=fun e=>hj (W5 hN e1 (e ▸ hi));simp [this,e]
    ·exact .inr ⟨k,c,e,z.sameBut hs (cne y c e)⟩
  ·obtain ⟨w',z⟩:=I.cell y c e;exact ⟨w',z.sameBut hs (cne y c e)⟩
  ·obtain ⟨e,n,ne,nf,d⟩:=I.pin p hp;exact ⟨(hs.2 p.1 ne).trans e,n,ne,nf,d⟩
 ·have hfn:X.fn x=true:=by
   rcases hf with z | z
   ·exact z
   ·rw [z] at hk;cases hk
  obtain ⟨c,hc⟩:=I.ok.has x (.inl hk);obtain ⟨w',z⟩:=I.cell x c hc;refine wpAny_storeName_cell I.ok.kind hk hc z (fun h' hc' hs=>?_);obtain ⟨oc,hoc,Zs8⟩:=id z;refine h { s with heap:=h' } ⟨I.ok,I.os,I.bare,⟨fun b o e n hb hx=>?_,fun b o e n hb hx=>?_,I.base.free,fun b o e hx=>?_,I.base.tups,I.base.Cy,I.base.Dd⟩,⟨m,hn.sameBut hs (Ne.symm (cne x c hc)),fun j y v' e1 e2 e3=>?_⟩,fun y c' e=>?_,I.free,I.qH,fun p hp=>?_,tracked ⟨oc,hoc,I.qH x c hc⟩ hs,by simpa using I.len⟩ ⟨c,hs,.inr hc⟩
  ·exact (hs.2 b (Nat.ne_of_lt (Nat.lt_of_lt_of_le (Heap.lt_size e) (I.ok.cab x c hfn hc)))).trans (I.base.keep b o e n hb hx)
  ·obtain ⟨sl,e1⟩:=I.base.slot b o e n hb hx;exact ⟨sl,(hs.2 b (Nat.ne_of_lt (Nat.lt_of_lt_of_le (Heap.lt_size e) (I.ok.cab x c hfn hc)))).trans e1⟩
  ·obtain ⟨o',e1⟩:=I.base.there b o e hx;exact ⟨o',(hs.2 b (Nat.ne_of_lt (Nat.lt_of_lt_of_le (Heap.lt_size e) (I.ok.cab x c hfn hc)))).trans e1⟩
  ·by_cases hj:j=i
   ·subst hj;rw [hi] at e1;cases e1;rw [List.getElem?_set_self hiσ] at e2;cases e2;exact ⟨u,r,.inr ⟨.inl hk,c,hc,hc'⟩⟩
   ·rw [List.getElem?_set_ne (Ne.symm hj)] at e2;obtain ⟨u',r',q⟩:=hl j y v' e1 e2 e3;refine ⟨u',r',?_⟩;rcases q with q | ⟨k,c',e,z'⟩
    ·exact .inl q
    ·refine .inr ⟨k,c',e,z'.sameBut hs ?_⟩;rintro rfl;exact hj (W5 hN e1 (I.ok.inj _ _ _ e hc ▸ hi))
  ·by_cases hcc:c'=c
   ·subst hcc;exact ⟨_,hc'⟩
   ·obtain ⟨w2,z2⟩:=I.cell y c' e;exact ⟨w2,z2.sameBut hs hcc⟩
  ·obtain ⟨e,n,ne,nf,d⟩:=I.pin p hp;refine ⟨(hs.2 p.1 ?_).trans e,n,ne,nf,d⟩;intro q;rw [q,hoc] at e;have q':oc=p.2:=Option.some.inj e;exact d w' (by rw [← q'];exact Zs8)
theorem Dh {M:Model}{A:Around}{E:Value→Shared→Prop}{i:Nat}{x:Str}{v:V}{u:Value}{Q:Unit→Shared→Prop} (I:Inv X pins σ H s) (hN:X.N.Nodup) (hi:X.N[i]? =some x) (hx:Loc X.env.scope x) (r:RelV v u)
  (h:∀ s',Inv X pins (σ.set i (some v)) H s'→Q () s') (hf:X.fn x=true∨X.env.scope.names.lookup x=some .local:=by first | exact .inl rfl | exact .inr rfl | assumption):wpAny M A (storeName X.env x u) Q E s:=
 Zc1 I hN hi hx r (fun s' I' _=>h s' I') hf
theorem Inv.call' {s':Shared}{ch:List Addr} (I:Inv X pins σ H s) (ho:s'.os=s.os) (u:Un (frs X.stack) ch H H' s.heap s'.heap) (hok:yx X.prog X.w H' s'.heap) (hg:AllBare s'.gens)
  (hch:∀ b∈ch,(b∈X.ex∨X.s₀.heap.objs.size≤b)∧b≠X.env.locals∧(∀ x c,X.env.cells.lookup x=some c→c≠b)∧∀ p∈X.pn ++ pins,p.1≠b):Inv X pins σ H' s':=by
 obtain ⟨h',g',d',t',o'⟩:=s';have e:o'=s.os:=ho;subst e;exact I.call (g':=g') (t':=t') (d':=d') u hok hg hch
end
abbrev XK:=Value→Option Addr→Hp→Prop
abbrev St:=List (Option V)
abbrev VK:=V→Hp→Prop
abbrev TE:=St→Hp→VK→Prop
abbrev TT:=St→Hp→(Bool→Hp→Prop)→Prop
abbrev TA:=St→Hp→(List V→Hp→Prop)→Prop
structure Ends where
 nx:St→Hp→Prop
 rt:VK
 bk:St→Hp→Prop:=fun _ _=>False
 ct:St→Hp→Prop:=fun _ _=>False
abbrev TS:=Ends→St→Hp→Prop
def EP (X:Cx) (pins:List (Addr×Obj)) (σ:St) (Q:VK) (u:Value) (s':Shared):Prop:=∃ v H',Inv X pins σ H' s'∧RelV v u∧Q v H'
def TP (X:Cx) (pins:List (Addr×Obj)) (σ:St) (Q:Bool→Hp→Prop) (b:Bool) (s':Shared):Prop:=∃ H',Inv X pins σ H' s'∧Q b H'
def AP (X:Cx) (pins:List (Addr×Obj)) (σ:St) (Q:List V→Hp→Prop) (us:List Value) (s':Shared):Prop:=∃ vs H',Inv X pins σ H' s'∧Vals vs us∧Q vs H'
def SP (X:Cx) (pins:List (Addr×Obj)) (D:Ends) (f:Flow) (s':Shared):Prop:=
 match f with
 | .next=>∃ σ' H',Inv X pins σ' H' s'∧D.nx σ' H'
 | .brk=>∃ σ' H',Inv X pins σ' H' s'∧D.bk σ' H'
 | .cont=>∃ σ' H',Inv X pins σ' H' s'∧D.ct σ' H'
 | .ret u=>∃ v σ' H',Inv X pins σ' H' s'∧RelV v u∧D.rt v H'
def PE (X:Cx) (e:Expr) (t:TE):Prop:=
 ∀ (pins:List (Addr×Obj)) (s:Shared) (σ:St) (H:Hp) (Q:VK),Inv X pins σ H s→t σ H Q→wpAny (model X.prog X.w) X.A (eval e X.env) (EP X pins σ Q) X.xe s
def PT (X:Cx) (e:Expr) (t:TT):Prop:=
 ∀ (pins:List (Addr×Obj)) (s:Shared) (σ:St) (H:Hp) (Q:Bool→Hp→Prop),Inv X pins σ H s→t σ H Q→wpAny (model X.prog X.w) X.A (isTrue e X.env (eval e X.env)) (TP X pins σ Q) X.xe s
def PW (X:Cx) (e:Expr) (t:TT):Prop:=
 ∀ (whole:Sem Value) (pins:List (Addr×Obj)) (s:Shared) (σ:St) (H:Hp) (Q:Bool→Hp→Prop),Inv X pins σ H s→t σ H Q→wpAny (model X.prog X.w) X.A (isTrue e X.env whole) (TP X pins σ Q) X.xe s
theorem PW.pt {X:Cx}{e:Expr}{t:TT} (h:PW X e t):PT X e t:=h _
def PA (X:Cx) (es:List Expr) (t:TA):Prop:=
 ∀ (pos:Pos) (pins:List (Addr×Obj)) (s:Shared) (σ:St) (H:Hp) (Q:List V→Hp→Prop),Inv X pins σ H s→t σ H Q→wpAny (model X.prog X.w) X.A (spliced (backTo pos (starEach es X.env))) (AP X pins σ Q) X.xe s
def PS (X:Cx) (st:Stmt) (t:TS):Prop:=
 ∀ (pins:List (Addr×Obj)) (s:Shared) (σ:St) (H:Hp) (D:Ends),Inv X pins σ H s→t D σ H→wpAny (model X.prog X.w) X.A (exec st X.env) (SP X pins D) X.xe s
def VR (X:Cx) (st:List Stmt) (t:TS):Prop:=
 ∀ (pins:List (Addr×Obj)) (s:Shared) (σ:St) (H:Hp) (D:Ends),Inv X pins σ H s→t D σ H→wpAny (model X.prog X.w) X.A (execs st X.env) (SP X pins D) X.xe s
theorem iy {α:Type}{t:Sem α}{Q Q':α→Shared→Prop}{M:Model}{A:Around}{E:Value→Shared→Prop}{s:Shared} (h:wpAny M A t Q E s) (hQ:∀ a s,Q a s→Q' a s):wpAny M A t Q' E s:=wpAny_mono h hQ fun _ _ x=>x
end L2
namespace L2
open PySem PySem.Spec PyProof.Rows
section
variable {X:Cx}
def ak (i:Nat):TE:=fun σ H Q=>∃ v,σ[i]? =some (some v)∧Q v H
def tC (v:V):TE:=fun _ H Q=>Q v H
theorem Zfh {i:Nat}{x:Str}{pos:Pos} (hN:X.N[i]? =some x) (hv:Vis X.env.scope x) (hd:(x == ("__debug__":Str))=false:=by decide) (hcd:(x == ("__classdict__":Str))=false:=by decide):PE X (.Name x pos) (ak i):=by
 intro pins s σ H Q I h;obtain ⟨v,e,h⟩:=h;obtain ⟨m,hn,hl⟩:=I.loc;obtain ⟨u,r,l⟩:=hl i x v hN e hv;have fin:EP X pins σ Q u s:=⟨v,H,I,r,h⟩;rcases l with ⟨hk,hm⟩ | ⟨hk,c,hc,hcell⟩
 ·exact wpAny_Name (wpAny_loadName_local I.ok.kind hk hn hm fin) hd
 ·rcases hk with hk | hk
  ·exact wpAny_Name (wpAny_loadName_cell I.ok.kind hk hc hcell fin) hd
  ·exact wpAny_Name (wpAny_loadName_free I.ok.kind hk hc hcell fin hcd) hd
theorem az {i j pos}:PE X (.Constant (.int i) j pos) (tC (.int i)):=fun _ _ _ H _ I h=>wpAny_Constant_int ⟨.int i,H,I.tok _,⟨_,rfl⟩,h⟩
theorem QS {b j pos}:PE X (.Constant (.bool b) j pos) (tC (.bl b)):=fun _ _ _ H _ I h=>Constant_bool ⟨.bl b,H,I,rfl,h⟩
theorem fB {j pos}:PE X (.Constant .none j pos) (tC .non):=fun _ _ _ H _ I h=>Constant_none ⟨.non,H,I,rfl,h⟩
theorem bB {x j pos}:PE X (.Constant (.str x) j pos) (tC (.str x)):=fun _ _ _ H _ I h=>Calls.Constant_str ⟨.str x,H,I.tok _,⟨_,rfl⟩,h⟩
def Gl (X:Cx) (x:Str):Prop:=X.env.kindOf x=some .globalImplicit
theorem rK {E:Value→Shared→Prop}{pins:List (Addr×Obj)}{s:Shared}{σ:St}{H:Hp}{x:Str}{u:Value}{pos:Pos}{Q:Value→Shared→Prop} (I:Inv X pins σ H s) (hg:Gl X x) (hm:X.mg x=some u) (h:Q u s)
  (hd:(x == ("__debug__":Str))=false:=by decide):wpAny (model X.prog X.w) X.A (eval (.Name x pos) X.env) Q E s:=
 Calls.Name_function_global I.ok.kind hg (Calls.loadGlobal_global (by rw [I.ok.glob];exact I.mod.glob.keeps I.bk) hm h) hd
theorem Ur {E:Value→Shared→Prop}{pins:List (Addr×Obj)}{s:Shared}{σ:St}{H:Hp}{x:Str}{u:Value}{pos:Pos}{Q:Value→Shared→Prop} (I:Inv X pins σ H s) (hg:Gl X x) (hm:X.mg x=none) (hv:bootBuiltins x=some u) (h:Q u s)
  (hn:x≠"__name__":=by decide) (hd:(x == ("__debug__":Str))=false:=by decide):wpAny (model X.prog X.w) X.A (eval (.Name x pos) X.env) Q E s:=by
 obtain ⟨mb,h1,h2⟩:=I.mod.blt;exact Calls.Name_function_global I.ok.kind hg (Calls.loadGlobal_builtin (by rw [I.ok.glob];exact I.mod.glob.keeps I.bk) hm (by rw [I.ok.blt];exact h1.keeps I.bk) ((h2 x hn).trans hv) h) hd
theorem Zjk {x:Str}{v:V}{u:Value}{pos:Pos} (hg:Gl X x) (hm:X.mg x=some u) (r:RelV v u) (hd:(x == ("__debug__":Str))=false:=by decide):PE X (.Name x pos) (tC v):=
 fun _ _ _ H _ I h=>rK I hg hm ⟨v,H,I,r,h⟩ hd
variable {a b:Expr}{ta tb:TE}{pos:Pos}
def PC (X:Cx) (op:CmpOp) (a b:Expr) (t:TE):Prop:=
 ∀ (pins:List (Addr×Obj)) (s:Shared) (σ:St) (H:Hp) (Q:VK),Inv X pins σ H s→t σ H Q→
  wpAny (model X.prog X.w) X.A (eval a X.env) (fun v s₁=>wpAny (model X.prog X.w) X.A (eval b X.env) (fun u s₂=>wpAny (model X.prog X.w) X.A (compareOp op v u) (EP X pins σ Q) X.xe s₂) X.xe s₁) X.xe s
theorem Zg0 (b:Expr) {op:CmpOp} (h:op≠.In) (h2:op≠.NotIn):behindInMarks op b=false:=by
 have e1:(op == CmpOp.In)=false:=by cases op<;>first | rfl | exact absurd rfl h
 have e2:(op == CmpOp.NotIn)=false:=by cases op<;>first | rfl | exact absurd rfl h2
 cases b<;>simp [behindInMarks,e1,e2]
def tB (t:TE):TT:=fun σ H Q=>t σ H fun x H1=>∃ c,x=.bl c∧Q c H1
theorem Zfa {op:CmpOp}{t:TE} (h:PC X op a b t) (h1:behindInMarks op b=false:=by first | exact Zg0 _ (by decide) (by decide) | rfl):PT X (.Compare a [op] [b] pos) (tB t):=by
 intro pins s σ H Q I hw;refine wpAny_isTrue_Compare1 (iy (h pins s σ H _ I hw) fun v s1 h1=>iy h1 fun u s2 h2=>iy h2 fun c s3 ⟨x,H1,I1,r1,q1⟩=>?_) h1;obtain ⟨d,rfl,q⟩:=q1;cases r1;exact wpAny_truthy_bool ⟨H1,I1,q⟩
theorem nO {e:Expr}{t:TE} (h:PE X e t) (he:∀ whole,isTrue e X.env whole=(do let v ← whole;standAt e.pos;holding [v] (truthy v)):=by intro _;rfl):PT X e (tB t):=by
 intro pins s σ H Q I hw;refine isTrue_plain (iy (h pins s σ H _ I hw) fun v s1 ⟨x,H1,I1,r1,q1⟩=>?_) (he _);obtain ⟨d,rfl,q⟩:=q1;cases r1;exact wpAny_truthy_bool ⟨H1,I1,q⟩
variable {tA tB':TT}{rest:List Expr}
def V2 (t u:TT):TT:=fun σ H Q=>t σ H fun c H1=>if c=true then u σ H1 Q else Q false H1
def tOr (t u:TT):TT:=fun σ H Q=>t σ H fun c H1=>if c=true then Q true H1 else u σ H1 Q
def RK (t:TT):TT:=fun σ H Q=>t σ H fun c H1=>Q (!c) H1
theorem Dt (ha:PT X a tA):PW X (.BoolOp .And [a] pos) tA:=by
 intro wh pins s σ H Q I h;refine isTrue_and (iy (ha pins s σ H Q I h) fun c s1 e=>?_);cases c with
 | true=>exact isTrue_and_nil e
 | false=>exact e
theorem Cq (ha:PT X a tA):PW X (.BoolOp .Or [a] pos) tA:=by
 intro wh pins s σ H Q I h;refine isTrue_or (iy (ha pins s σ H Q I h) fun c s1 e=>?_);cases c with
 | false=>exact isTrue_or_nil e
 | true=>exact e
theorem K9 (ha:PT X a tA) (hb:PW X (.BoolOp .And (b :: rest) pos) tB'):PW X (.BoolOp .And (a :: b :: rest) pos) (V2 tA tB'):=by
 intro wh pins s σ H Q I h;refine isTrue_and (iy (ha pins s σ H _ I h) fun c s1 ⟨H1,I1,q1⟩=>?_);cases c with
 | true=>exact hb wh pins s1 σ H1 Q I1 q1
 | false=>exact ⟨H1,I1,q1⟩
theorem Ds (ha:PT X a tA) (hb:PW X (.BoolOp .Or (b :: rest) pos) tB'):PW X (.BoolOp .Or (a :: b :: rest) pos) (tOr tA tB'):=by
 intro wh pins s σ H Q I h;refine isTrue_or (iy (ha pins s σ H _ I h) fun c s1 ⟨H1,I1,q1⟩=>?_);cases c with
 | true=>exact ⟨H1,I1,q1⟩
 | false=>exact hb wh pins s1 σ H1 Q I1 q1
theorem Cr (ha:PT X a tA):PT X (.UnaryOp .Not a pos) (RK tA):=by
 intro pins s σ H Q I h;exact isTrue_not (ha pins s σ H (fun c H1=>Q (!c) H1) I h)
def Zes (ta tb:TE):TE:=fun σ H Q=>ta σ H fun x H1=>∃ c,x=.bl c∧if c=true then tb σ H1 Q else Q (.bl false) H1
def Zep (ta:TE):TE:=fun σ H Q=>ta σ H fun x H1=>∃ c,x=.bl c∧Q (.bl (!c)) H1
theorem Zms {op}{t:TE} (h:PE X a t):PE X (.BoolOp op [a] pos) t:=fun pins s σ H Q I hw=>BoolOp_one (h pins s σ H Q I hw)
theorem Zmu (ha:PE X a ta) (hb:PE X (.BoolOp .And (b :: rest) pos) tb):PE X (.BoolOp .And (a :: b :: rest) pos) (Zes ta tb):=by
 intro pins s σ H Q I h;refine BoolOp_and (iy (ha pins s σ H _ I h) fun v s1 ⟨x,H1,I1,r1,q1⟩=>?_);obtain ⟨c,rfl,q1⟩:=q1;cases r1;refine wpAny_truthy_bool ?_;cases c with
 | true=>exact hb pins s1 σ H1 Q I1 q1
 | false=>exact ⟨.bl false,H1,I1,rfl,q1⟩
theorem Zmt (ha:PE X a ta):PE X (.UnaryOp .Not a pos) (Zep ta):=by
 intro pins s σ H Q I h;refine UnaryOp_ (iy (ha pins s σ H _ I h) fun v s1 ⟨x,H1,I1,r1,q1⟩=>?_);obtain ⟨c,rfl,q1⟩:=q1;cases r1;exact not_of (wpAny_truthy_bool ⟨.bl (!c),H1,I1,rfl,q1⟩)
def tIf (t:TT) (ta tb:TE):TE:=fun σ H Q=>t σ H fun c H1=>if c=true then ta σ H1 Q else tb σ H1 Q
theorem Wn {c:Expr} (hc:PT X c tA) (ha:PE X a ta) (hb:PE X b tb):PE X (.IfExp c a b pos) (tIf tA ta tb):=by
 intro pins s σ H Q I h;refine wpAny_IfExp (iy (hc pins s σ H _ I h) fun d s1 ⟨H1,I1,q1⟩=>?_);cases d with
 | true=>exact ha pins s1 σ H1 Q I1 q1
 | false=>exact hb pins s1 σ H1 Q I1 q1
end
end L2
namespace L2
open PySem PySem.Spec PyProof.Rows
def dz (K:aC) (H:Hp) (a:Addr) (xs:List V):Prop:=
 Rd H a (.lst xs)∨
  ∃ (o:Obj) (its:Array Value) (n:Nat),K.lookup a=some o∧o.cls=.type "list"∧o.dict=none∧o.data=.seq its n∧its.size≤sizeLine∧Vals xs its.toList
def iQ (K:aC) (H:Hp) (a:Addr) (xs:List V):Prop:=
 Rd H a (.tup xs)∨
  ∃ (o:Obj) (its:Array Value) (n:Nat),K.lookup a=some o∧o.cls=.type "tuple"∧o.data=.seq its n∧its.size≤sizeLine∧Vals xs its.toList
def Zy4:Value→Option V
 | .none=>some .non
 | .bool b=>some (.bl b)
 | .int i _=>some (.int i)
 | .str x _=>some (.str x)
 | .bytes b _=>some (.byt b)
 | .float b _=>some (.flt b)
 | .ref a=>some (.ref a)
 | .type n=>some (.ty n)
 | _=>none
theorem RelV.abs {x:V}{u:Value} (r:RelV x u):Zy4 u=some x:=by
 cases x with
 | non=>cases r;rfl
 | bl _=>cases r;rfl
 | int _=>obtain ⟨t,rfl⟩:=r;rfl
 | str _=>obtain ⟨t,rfl⟩:=r;rfl
 | byt _=>obtain ⟨t,rfl⟩:=r;rfl
 | flt _=>obtain ⟨t,rfl⟩:=r;rfl
 | ref _=>cases r;rfl
 | ty _=>cases r;rfl
theorem RelV.inj {x y:V}{u:Value} (r:RelV x u) (q:RelV y u):x=y:=Option.some.inj (r.abs.symm.trans q.abs)
theorem Vals.inj:∀ {xs ys:List V}{us:List Value},Vals xs us→Vals ys us→xs=ys
 | _,_,_,.nil,.nil=>rfl
 | _,_,_,.cons r t,.cons r' t'=>by rw [r.inj r',Vals.inj t t']
section
variable {X:Cx}{pins:List (Addr×Obj)}{σ:St}{H:Hp}{s:Shared}{a:Addr}{xs ys:List V}
theorem dz.of {K:aC} (h:H a=some (.lst xs)):dz K H a xs:=.inl (.inl h)
theorem iQ.of {K:aC} (h:H a=some (.tup xs)):iQ K H a xs:=.inl (.inl h)
theorem Inv.list (I:Inv X pins σ H s) (h:dz X.K H a xs):∃ its:List Value,Vals xs its∧PlainL s.heap a its.toArray∧xs.length≤sizeLine:=by
 rcases h with h | ⟨o,its,n,hk,hc,hd,hs,hz,r⟩
 ·obtain ⟨z,its,n,r,e⟩:=h.ok I.hok;exact ⟨its,r,⟨_,n,e,rfl,rfl,rfl⟩,z⟩
 ·refine ⟨its.toList,r,⟨o,n,I.J7 a o hk,hc,hd,by simpa using hs⟩,?_⟩;have e:=r.length;simp only [Array.length_toList] at e;omega
theorem Inv.tuple (I:Inv X pins σ H s) (h:iQ X.K H a xs):∃ its:List Value,Vals xs its∧IsTup s.heap a its.toArray∧xs.length≤sizeLine:=by
 rcases h with h | ⟨o,its,n,hk,hc,hs,hz,r⟩
 ·obtain ⟨z,its,r,p⟩:=h.ok I.hok;exact ⟨its,r,p,z⟩
 ·refine ⟨its.toList,r,⟨o,I.J7 a o hk,hc,n,by simpa using hs⟩,?_⟩;have e:=r.length;simp only [Array.length_toList] at e;omega
theorem Inv.Xd (I:Inv X pins σ H s) (h:dz X.K H a xs) (h':dz X.K H a ys):xs=ys:=by
 obtain ⟨its,r,⟨o,n,e,_,_,d⟩,_⟩:=I.list h;obtain ⟨its',r',⟨o',n',e',_,_,d'⟩,_⟩:=I.list h';rw [e] at e';cases e';rw [d] at d'
 injection d' with d1 _
 have:its=its':=by simpa using congrArg Array.toList d1
 subst this;exact r.inj r'
end
abbrev Cx.wish (X:Cx) (E:Value→Shared→Prop):Cx:={ X with xe:=E }
abbrev Cx.nox (X:Cx):Cx:=X.wish fun _ _=>False
theorem Cx.Ok.wish {X:Cx} (ok:X.Ok) (E:Value→Shared→Prop):(X.wish E).Ok:=
 ⟨ok.mod,ok.kind,ok.glob,ok.blt,ok.above,ok.inj,ok.has,ok.cab,ok.hd,ok.frames,ok.stk,ok.exf,ok.bs,ok.bsz,ok.O7,ok.Xp,ok.vX,ok.frf⟩
theorem Cx.Ok.yE {X:Cx}{E:Value→Shared→Prop} (ok:(X.wish E).Ok):X.Ok:=
 ⟨ok.mod,ok.kind,ok.glob,ok.blt,ok.above,ok.inj,ok.has,ok.cab,ok.hd,ok.frames,ok.stk,ok.exf,ok.bs,ok.bsz,ok.O7,ok.Xp,ok.vX,ok.frf⟩
section
variable {X:Cx}{pins:List (Addr×Obj)}{σ:St}{H:Hp}{s:Shared}{E:Value→Shared→Prop}
theorem Inv.wish (I:Inv X pins σ H s) (E:Value→Shared→Prop):Inv (X.wish E) pins σ H s:=⟨I.ok.wish E,I.os,I.bare,I.base,I.loc,I.cell,I.free,I.qH,I.pin,I.hok,I.len⟩
theorem Inv.yE (I:Inv (X.wish E) pins σ H s):Inv X pins σ H s:=⟨I.ok.yE,I.os,I.bare,I.base,I.loc,I.cell,I.free,I.qH,I.pin,I.hok,I.len⟩
theorem SP.yE {D:Ends}{f:Flow}{s':Shared} (h:SP (X.wish E) pins D f s'):SP X pins D f s':=by
 cases f with
 | next=>obtain ⟨σ',H',I,q⟩:=h;exact ⟨σ',H',I.yE,q⟩
 | brk=>obtain ⟨σ',H',I,q⟩:=h;exact ⟨σ',H',I.yE,q⟩
 | cont=>obtain ⟨σ',H',I,q⟩:=h;exact ⟨σ',H',I.yE,q⟩
 | ret u=>obtain ⟨v,σ',H',I,r,q⟩:=h;exact ⟨v,σ',H',I.yE,r,q⟩
theorem VR.nox {st:List Stmt}{t:TS} (h:VR X.nox st t):VR X st t:=fun pins s σ H D I hw=>
 wpAny_mono (h pins s σ H D (I.wish _) hw) (fun _ _ q=>q.yE) fun _ _ z=>False.elim z
end
section
variable {X:Cx}{st:Stmt}{rest:List Stmt}{t u:TS}{e:Expr}{te:TE}{pos:Pos}
def cT:TS:=fun D σ H=>D.nx σ H
def aN (t u:TS):TS:=fun D σ H=>t { D with nx:=u D } σ H
theorem bJ:VR X [] cT:=fun _ _ σ H _ I h=>wpAny_execs_nil ⟨σ,H,I,h⟩
theorem ao (h1:PS X st t) (h2:VR X rest u):VR X (st :: rest) (aN t u):=by
 intro pins s σ H D I h;refine wpAny_execs_cons (iy (h1 pins s σ H { D with nx:=u D } I h) fun f s1 q=>?_);cases f with
 | next=>
  obtain ⟨σ',H',I',q⟩:=q;exact h2 pins s1 σ' H' D I' q
 | ret v=>exact q
 | brk=>exact q
 | cont=>exact q
theorem aA (h1:PS X st t):VR X [st] t:=by
 intro pins s σ H D I h;refine wpAny_execs_cons (iy (h1 pins s σ H D I h) fun f s1 q=>?_);cases f with
 | next=>exact wpAny_execs_nil q
 | ret v=>exact q
 | brk=>exact q
 | cont=>exact q
theorem Inv.quiet {pins:List (Addr×Obj)}{σ:St}{H:Hp}{s:Shared} (I:Inv X pins σ H s):interactive X.env=false:=by simp [interactive,I.ok.kind]
def yg (te:TE):TS:=fun D σ H=>te σ H fun _ H1=>D.nx σ H1
theorem rB (he:PE X e te) (hs:swapsWith e none pos.line X.env=pure false:=by rfl):PS X (.Expr e pos) (yg te):=by
 intro pins s σ H D I h;exact wpAny_Expr_any (iy (he pins s σ H _ I h) fun v s1 ⟨x,H1,I1,r1,q1⟩=>⟨σ,H1,I1,q1⟩) I.quiet hs
def bM (te:TE):TS:=fun D σ H=>te σ H D.rt
theorem aP (he:PE X e te):PS X (.Return (some e) pos) (bM te):=by
 intro pins s σ H D I h;exact wpAny_Return_some (iy (he pins s σ H _ I h) fun v s1 ⟨x,H1,I1,r1,q1⟩=>⟨x,σ,H1,I1,r1,q1⟩)
def fM (c:TT) (t u:TS):TS:=fun D σ H=>c σ H fun b H1=>if b=true then t D σ H1 else u D σ H1
theorem dB {c:Expr}{a b:List Stmt}{tc:TT} (hc:PT X c tc) (ha:VR X a t) (hb:VR X b u):PS X (.If c a b pos) (fM tc t u):=by
 intro pins s σ H D I h;refine wpAny_If (iy (hc pins s σ H _ I h) fun d s1 ⟨H1,I1,q1⟩=>?_);cases d with
 | true=>exact ha pins s1 σ H1 D I1 q1
 | false=>exact hb pins s1 σ H1 D I1 q1
end
abbrev TG:=V→St→Hp→(St→Hp→Prop)→Prop
abbrev TGs:=List V→St→Hp→(St→Hp→Prop)→Prop
def PG (X:Cx) (target:Expr) (t:TG):Prop:=
 ∀ (pins:List (Addr×Obj)) (s:Shared) (σ:St) (H:Hp) (v:V) (u:Value) (Q:St→Hp→Prop),Inv X pins σ H s→RelV v u→t v σ H Q→
  wpAny (model X.prog X.w) X.A (assign target X.env u) (fun _ s'=>∃ σ' H',Inv X pins σ' H' s'∧Q σ' H') X.xe s
def PGs (X:Cx) (ts:List Expr) (t:TGs):Prop:=
 ∀ (pins:List (Addr×Obj)) (s:Shared) (σ:St) (H:Hp) (vs:List V) (us:List Value) (Q:St→Hp→Prop),Inv X pins σ H s→Vals vs us→t vs σ H Q→
  wpAny (model X.prog X.w) X.A (assignInOrder ((assignEach ts X.env).map (·.2)) us) (fun _ s'=>∃ σ' H',Inv X pins σ' H' s'∧Q σ' H') X.xe s
abbrev Zli:=V→V→V→Hp→(Hp→Prop)→Prop
def Zr3 (X:Cx) (t:Zli):Prop:=
 ∀ (pins:List (Addr×Obj)) (s:Shared) (σ:St) (H:Hp) (o i v:V) (ov iv u:Value) (Q:Hp→Prop),Inv X pins σ H s→RelV o ov→RelV i iv→RelV v u→t o i v H Q→
  wpAny (model X.prog X.w) X.A (setItem ov iv u) (fun _ s'=>∃ H',Inv X pins σ H' s'∧Q H') X.xe s
abbrev TIp:=V→V→Hp→VK→Prop
def PIp (X:Cx) (op:Operator) (t:TIp):Prop:=
 ∀ (pins:List (Addr×Obj)) (s:Shared) (σ:St) (H:Hp) (x y:V) (v u:Value) (Q:VK),Inv X pins σ H s→RelV x v→RelV y u→t x y H Q→
  wpAny (model X.prog X.w) X.A (inplaceOp op v u) (EP X pins σ Q) X.xe s
section
variable {X:Cx}{pos:Pos}
def aL (i:Nat):TG:=fun v σ H Q=>Q (σ.set i (some v)) H
theorem iD {i:Nat}{x:Str} (hN:X.N.Nodup) (hi:X.N[i]? =some x) (hx:Loc X.env.scope x) (hf:X.fn x=true∨X.env.scope.names.lookup x=some .local:=by first | exact .inl rfl | exact .inr rfl | assumption):PG X (.Name x pos) (aL i):=by
 intro pins s σ H v u Q I r h;exact wpAny_assign_Name (Dh I hN hi hx r (fun s' I'=>⟨_,H,I',h⟩) hf)
def Zhi:TGs:=fun vs σ H Q=>vs=[]∧Q σ H
def Eo (t:TG) (u:TGs):TGs:=fun vs σ H Q=>∃ v r,vs=v :: r∧t v σ H fun σ' H'=>u r σ' H' Q
theorem JX:PGs X [] Zhi:=by
 intro pins s σ H vs us Q I r h;obtain ⟨e,h⟩:=h;subst e;cases r;exact assignInOrder_nil ⟨σ,H,I,h⟩
theorem qz {e:Expr}{es:List Expr}{t:TG}{u:TGs} (h1:PG X e t) (h2:PGs X es u)
  (hs:(assignEach (e :: es) X.env).map (·.2)=assign e X.env :: (assignEach es X.env).map (·.2):=by rfl):PGs X (e :: es) (Eo t u):=by
 intro pins s σ H vs us Q I r h;obtain ⟨v,vr,e1,h⟩:=h;subst e1;cases r with
 | cons r rr=>
  rw [hs];refine assignInOrder_cons (iy (h1 pins s σ H _ _ _ I r h) fun _ s1 ⟨σ1,H1,I1,q1⟩=>?_);exact h2 pins s1 σ1 H1 _ _ Q I1 rr q1
def Zhh (K:aC) (n:Nat) (t:TGs):TG:=fun v σ H Q=>∃ a xs,v=.ref a∧iQ K H a xs∧xs.length=n∧t xs σ H Q
theorem Tq {es:List Expr}{k:Nat}{t:TGs}{n:Nat} (hc:X.calm=true) (h:PGs X es t)
  (hn:(assignEach es X.env).length=n:=by rfl) (hst:(assignEach es X.env).findIdx? (·.1)=none:=by rfl):PG X (.Tuple es k pos) (Zhh X.K n t):=by
 intro pins s σ H v u Q I r hw;obtain ⟨a,xs,e1,hq,hl,hw⟩:=hw;subst e1;cases r;obtain ⟨its,rv,ht,hz⟩:=I.tuple hq;refine assign_Tuple_tuple (I.ok.hd hc) ht (by simp [hn,← hl,rv.length]) hst fun h' hx=>?_;have I1:Inv X pins σ H { s with heap:=h' }:=I.kept (t':=s.toks) fun b o e=>hx b o (Nat.ne_of_lt (Heap.lt_size e)) e;exact h pins _ σ H xs _ Q I1 (by simpa using rv) hw
def MF (to ti:TE) (t:Zli):TG:=fun v σ H Q=>to σ H fun o H1=>ti σ H1 fun i H2=>t o i v H2 fun H3=>Q σ H3
theorem xH {o i:Expr}{to ti:TE}{t:Zli} (ho:PE X o to) (hi:PE X i ti) (hs:Zr3 X t)
  (ha:∀ v,assign (.Subscript o i pos) X.env v=(do
   let ov ← holding [v] (eval o X.env)
   let iv ← holding [v,ov] (eval i X.env)
   standAt pos
   holding [v,ov,iv] (setItem ov iv v)
   release [v,ov,iv] []):=by intro _;rfl):PG X (.Subscript o i pos) (MF to ti t):=by
 intro pins s σ H v u Q I r h;rw [ha];refine wpAny_bind (wpAny_holding (iy (ho pins s σ H _ I h) fun ov s1 ⟨x,H1,I1,r1,q1⟩=>?_));refine wpAny_bind (wpAny_holding (iy (hi pins s1 σ H1 _ I1 q1) fun iv s2 ⟨y,H2,I2,r2,q2⟩=>?_));refine wpAny_bind (wpAny_standAt (wpAny_bind (wpAny_holding (iy (hs pins s2 σ H2 x y v ov iv u _ I2 r1 r2 r q2) fun _ s3 ⟨H3,I3,q3⟩=>?_))));exact wpAny_release ⟨σ,H3,I3,q3⟩
def bC (te:TE) (g:TG):TS:=fun D σ H=>te σ H fun x H1=>g x σ H1 D.nx
theorem xG {tg e:Expr}{te:TE}{g:TG} (he:PE X e te) (hg:PG X tg g) (hs:swapsWithSole [tg] e pos.line X.env=pure false:=by rfl) (hw:swappedStores [tg] e X.env=pure none:=by rfl)
  (h1:(assignEach [tg] X.env).map (·.2)=[assign tg X.env]:=by rfl):PS X (.Assign [tg] e pos) (bC te g):=by
 intro pins s σ H D I h;refine wpAny_Assign_stores (iy (he pins s σ H _ I h) fun v s1 ⟨x,H1,I1,r1,q1⟩=>?_) hs hw;rw [h1];exact iy (hg pins s1 σ H1 x v _ I1 r1 q1) fun _ s2 q=>q
theorem Zh {i:Nat}{x:Str}{e:Expr}{te:TE}{pos':Pos} (hN:X.N.Nodup) (hi:X.N[i]? =some x) (hx:Loc X.env.scope x) (he:PE X e te) (hs:swapsWith e (some (.Name x pos')) pos.line X.env=pure false:=by rfl) (hf:X.fn x=true∨X.env.scope.names.lookup x=some .local:=by first | exact .inl rfl | exact .inr rfl | assumption):
  PS X (.Assign [.Name x pos'] e pos) (bC te (aL i)):=by
 intro pins s σ H D I h;refine wpAny_Assign_Name (iy (he pins s σ H _ I h) fun v s1 ⟨y,H1,I1,r1,q1⟩=>?_) hs;exact Dh I1 hN hi hx r1 (fun s2 I2=>⟨_,H1,I2,q1⟩) hf
def Zmd (i:Nat) (te:TE) (ti:TIp):TS:=fun D σ H=>∃ x,σ[i]? =some (some x)∧te σ H fun y H1=>ti x y H1 fun z H2=>D.nx (σ.set i (some z)) H2
theorem Zmr {i:Nat}{x:Str}{e:Expr}{te:TE}{op:Operator}{ti:TIp}{pos':Pos} (hN:X.N.Nodup) (hi:X.N[i]? =some x) (hx:Loc X.env.scope x) (he:PE X e te) (ho:PIp X op ti) (hf:X.fn x=true∨X.env.scope.names.lookup x=some .local:=by first | exact .inl rfl | exact .inr rfl | assumption):
  PS X (.AugAssign (.Name x pos') op e pos) (Zmd i te ti):=by
 intro pins s σ H D I h;obtain ⟨v,e1,h⟩:=h;obtain ⟨m,hn,hl⟩:=I.loc;have vis:Vis X.env.scope x:=by rcases hx with k | k;exact .inl k;exact .inr (.inl k)
 obtain ⟨u,r,l⟩:=hl i x v hi e1 vis;refine wpAny_AugAssign_Name ?_;have go:wpAny (model X.prog X.w) X.A (eval e X.env) (fun w s₂=>wpAny (model X.prog X.w) X.A (inplaceOp op u w) (fun r s₃=>wpAny (model X.prog X.w) X.A (storeName X.env x r) (fun _=>SP X pins D .next) X.xe s₃) X.xe s₂) X.xe s:=by
  refine iy (he pins s σ H _ I h) fun w s1 ⟨y,H1,I1,r1,q1⟩=>?_;refine iy (ho pins s1 σ H1 v y u w _ I1 r r1 q1) fun z s2 ⟨zv,H2,I2,r2,q2⟩=>?_;exact Dh I2 hN hi hx r2 (fun s3 I3=>⟨_,H2,I3,q2⟩) hf
 rcases l with ⟨hk,hm⟩ | ⟨hk,c,hc,hcell⟩
 ·exact wpAny_loadName_local I.ok.kind hk hn hm go
 ·rcases hk with hk | hk
  ·exact wpAny_loadName_cell I.ok.kind hk hc hcell go
  ·rcases hx with k | k
   ·have:X.env.scope.names.lookup x=some .free:=hk;rw [k] at this;cases this
   ·have:X.env.scope.names.lookup x=some .free:=hk;rw [k] at this;cases this
def ipI (f:Int→Int→Int):TIp:=fun x y H Q=>∃ i j,x=.int i∧y=.int j∧Q (.int (f i j)) H
theorem Znq:PIp X .Add (ipI fun i j=>i + j):=by
 intro pins s σ H x y v u Q I r1 r2 h;obtain ⟨i,j,e1,e2,q⟩:=h;subst e1;subst e2;obtain ⟨t,rfl⟩:=r1;obtain ⟨t',rfl⟩:=r2;exact iadd_int ⟨.int _,H,I.tok _,⟨_,rfl⟩,q⟩
end
section
variable {X:Cx}{pos:Pos}
def Zel (c:TT) (tb:TS):TS:=fun D σ H=>∃ W:Nat→St→Hp→Prop,(∃ m,W m σ H)∧∀ m σ H,W m σ H→
 c σ H fun b H1=>if b=true then ∃ N:St→Hp→Prop,(∀ σ' H',N σ' H'→∃ m',m' < m∧W m' σ' H')∧tb { D with nx:=N,ct:=N,bk:=D.nx } σ H1 else D.nx σ H1
theorem Zfb {c:Expr}{body:List Stmt}{tc:TT}{tb:TS} (hp:PassesOwn (model X.prog X.w) X.A X.env X.xe) (hc:PT X c tc) (hb:VR X body tb):PS X (.While c body [] pos) (Zel tc tb):=by
 intro pins s σ H D I h;obtain ⟨W,⟨m0,w0⟩,turn⟩:=h;refine wpAny_While (codeAny_whileLoop (fun n s'=>∃ σ' H',Inv X pins σ' H' s'∧W n σ' H') ?_ m0 ⟨σ,H,I,w0⟩);rintro n s1 ⟨σ1,H1,I1,w1⟩;refine wpAny_passesOwn hp (iy (hc pins s1 σ1 H1 _ I1 (turn n σ1 H1 w1)) fun b s2 ⟨H2,I2,q2⟩=>?_);cases b with
 | true=>
  obtain ⟨N,hN,q2⟩:=q2;rw [if_pos rfl];refine wpAny_passesOwn hp (iy (hb pins s2 σ1 H2 _ I2 q2) fun f s3 q3=>?_);cases f with
  | next=>
   obtain ⟨σ3,H3,I3,n3⟩:=q3;obtain ⟨m',hm,w3⟩:=hN σ3 H3 n3;exact ⟨m',hm,σ3,H3,I3,w3⟩
  | cont=>
   obtain ⟨σ3,H3,I3,n3⟩:=q3;obtain ⟨m',hm,w3⟩:=hN σ3 H3 n3;exact ⟨m',hm,σ3,H3,I3,w3⟩
  | brk=>exact q3
  | ret v=>exact q3
 | false=>
  rw [if_neg Bool.false_ne_true];exact wpAny_execs_nil ⟨σ1,H2,I2,q2⟩
end
structure It where
 go:Nat→Hp→Prop
 Yj:Nat→Hp→V→Hp→Prop
 stop:Nat→Hp→Prop
def pF (X:Cx) (pins:List (Addr×Obj)) (H:Hp) (b:Addr):Prop:=
 H b=none∧b≠X.env.locals∧b∉X.fs∧(b∈X.ex∨X.s₀.heap.objs.size≤b)∧(∀ x c,X.env.cells.lookup x=some c→c≠b)∧∀ p∈X.pn ++ pins,p.1≠b
theorem Inv.Xl {X:Cx}{pins:List (Addr×Obj)}{σ:St}{H H':Hp}{s:Shared}{b:Addr} (I:Inv X pins σ H s) (hb:s.heap.objs.size≤b) (hn:H' b=none):pF X pins H' b:=by
 refine ⟨hn,Nat.ne_of_gt (Nat.lt_of_lt_of_le I.lt hb),I.Zre hb,.inr (Nat.le_trans I.sz hb),fun x c e z=>?_,fun p hp z=>?_⟩
 ·obtain ⟨v,q⟩:=I.cell x c e;exact absurd (Nat.lt_of_lt_of_le q.lt (by rw [z];exact hb)) (Nat.lt_irrefl _)
 ·exact absurd (Nat.lt_of_lt_of_le (Heap.lt_size (I.pin p hp).1) (by rw [z];exact hb)) (Nat.lt_irrefl _)
structure Turn (P:Program) (w:World) (K:aC) (tg:Expr) (J:It) (fp:List Addr) (it:Addr) (tn:Nat→Heap→Prop):Prop where
  mem:it∈fp
  obj:∀ i h,tn i h→∀ b∈fp,∃ o,h.get? b=some o∧∀ v,o.data≠.cell v
  keep:∀ i h h',tn i h→(∀ b∈fp,∀ o,h.get? b=some o→h'.get? b=some o)→tn i h'
  item:∀ (X:Cx),X.prog=P→X.w=w→X.K=K→X.calm=true→∀ (i:Nat) (pins:List (Addr×Obj)) (s:Shared) (σ:St) (H:Hp) (E:Value→Shared→Prop),Inv X pins σ H s→(∀ b∈fp,pF X pins H b)→tn i s.heap→J.go i H→
    wpAny (model P w) X.A (pyNext (.ref it)) (fun r s1=>∃ u,r=some u∧
      wpAny (model P w) X.A (letOwnedTupleGo tg (.ref it) u) (fun _ s2=>∃ x H',Inv X pins σ H' s2∧RelV x u∧J.Yj i H x H'∧tn (i + 1) s2.heap∧∀ b∈fp,H' b=none) E s1) E s
  done:∀ (X:Cx),X.prog=P→X.w=w→X.K=K→X.calm=true→∀ (i:Nat) (pins:List (Addr×Obj)) (s:Shared) (σ:St) (H:Hp) (E:Value→Shared→Prop),Inv X pins σ H s→(∀ b∈fp,pF X pins H b)→tn i s.heap→J.stop i H→
    wpAny (model P w) X.A (pyNext (.ref it)) (fun r s1=>r=none∧Inv X pins σ H s1) E s
  self:∀ (A:Around) (i:Nat) (s:Shared) (Q:Value→Shared→Prop) (E:Value→Shared→Prop),tn i s.heap→Q (.ref it) s→wpAny (model P w) A (pyIter (.ref it)) Q E s
abbrev TI:=St→Hp→(It→Hp→Prop)→Prop
def PIE (X:Cx) (pins:List (Addr×Obj)) (σ:St) (tg:Expr) (R:It→Hp→Prop) (itv:Value) (s2:Shared):Prop:=
 ∃ (it:Addr) (fp:List Addr) (tn:Nat→Heap→Prop) (J:It) (H':Hp),itv=.ref it∧Inv X pins σ H' s2∧Turn X.prog X.w X.K tg J fp it tn∧tn 0 s2.heap∧(∀ b∈fp,pF X pins H' b)∧R J H'
def PI (X:Cx) (tg iter:Expr) (wi:TI):Prop:=
 ∀ (pins:List (Addr×Obj)) (s:Shared) (σ:St) (H:Hp) (R:It→Hp→Prop),Inv X pins σ H s→wi σ H R→
  wpAny (model X.prog X.w) X.A (eval iter X.env) (fun v s1=>wpAny (model X.prog X.w) X.A (pyIter v) (PIE X pins σ tg R) X.xe s1) X.xe s
theorem Zhf {M:Model}{A:Around}{E:Value→Shared→Prop}{s:Shared}{tg:Expr}{it:Addr}{u:Value}{o:Obj}{n:String}{vs:Array Value}{Q:Unit→Shared→Prop} (ho:s.heap.get? it=some o) (hc:o.cls=.type n) (hd:o.data=.fields vs)
    (hn:["enumerate","zip","dict_itemiterator","dict_reverseitemiterator","odict_iterator","itertools.zip_longest","itertools.pairwise"].contains n=false) (hQ:Q () s):wpAny M A (letOwnedTupleGo tg (.ref it) u) Q E s:=by
  unfold letOwnedTupleGo;cases tg<;>first
    | exact wpAny_pure hQ
    | (cases u<;>first
        | exact wpAny_pure hQ
        | (refine wpAny_bind (wpAny_load ho ?_)
           rw [hc,hd];show wpAny M A (if (["enumerate","zip","dict_itemiterator","dict_reverseitemiterator","odict_iterator","itertools.zip_longest","itertools.pairwise"].contains n && vs[0]? == some (rawInt _))=true then _ else _) Q E s;rw [if_neg (by intro h;rw [hn,Bool.false_and] at h;cases h)];exact wpAny_pure hQ))
def Itl (K:aC) (a:Addr):It:=
 ⟨fun i H=>∃ xs x,dz K H a xs∧xs[i]? =some x,fun i H x H'=>H'=H∧∀ xs,dz K H a xs→xs[i]? =some x,fun i H=>∃ xs,dz K H a xs∧xs.length≤i⟩
def Itr (lo:Int) (n:Nat):It:=⟨fun i _=>i < n,fun i H x H'=>H'=H∧x=.int (lo + i),fun i _=>n≤i⟩
theorem Zbx {P:Program}{w:World}{K:aC}{tg:Expr} (a it:Addr):Turn P w K tg (Itl K a) [it] it (fun i h=>h.IsListIter it a i) where
  mem:=by simp
  obj:=fun i h st b hb=>by
    have e:b=it:=by simpa using hb
    subst e;obtain ⟨o,e,c,d⟩:=st;exact ⟨o,e,fun v z=>by rw [d] at z;cases z⟩
  keep:=fun i h h' st k=>st.at fun o e=>k it (by simp) o e
  item:=by
    intro X hP hw hK hc i pins s σ H E I hf st hg;subst hP hw hK;obtain ⟨xs,x,hq,hx⟩:=hg;obtain ⟨its,rv,p,hz⟩:=I.list hq;obtain ⟨u,hu,ru⟩:=rv.get hx;obtain ⟨f0,f1,f2,f3,f4,f5⟩:=hf it (by simp);refine wpAny_pyNext_list_item st p.isList (x:=u) (by simpa using hu) fun h' st' sb=>?_;have I1:Inv X pins σ H { s with heap:=h' }:=I.turned (t':=s.toks) (fun b o hb e=>(sb.2 b hb).trans e) f0 f1 f3 f4 f5;obtain ⟨o,e,c,d⟩:=id st';exact ⟨u,rfl,Zhf (s:={ s with heap:=h' }) e c d (by decide) ⟨x,H,I1,ru,⟨rfl,fun ys hy=>by rw [I.Xd hy hq];exact hx⟩,st',fun b hb=>(hf b hb).1⟩⟩
  done:=by
    intro X hP hw hK hc i pins s σ H E I hf st hg;subst hP hw hK;obtain ⟨xs,hq,hx⟩:=hg;obtain ⟨its,rv,p,hz⟩:=I.list hq;obtain ⟨f0,f1,f2,f3,f4,f5⟩:=hf it (by simp);have hl:=rv.length;exact wpAny_pyNext_list_end (I.ok.hd hc) st p.isList (by simp;omega) fun h' eb=>⟨rfl,I.turned (t':=s.toks) (fun b o hb e=>eb b o hb e) f0 f1 f3 f4 f5⟩
  self:=fun _ _ _ _ _ st h=>wpAny_pyIter_listiter st h
theorem Yn {P:Program}{w:World}{K:aC}{tg:Expr} (it:Addr) (lo:Int) (n:Nat):Turn P w K tg (Itr lo n) [it] it (fun i h=>IsRangeIter h it (lo + (i:Nat) * 1) ((n:Int) - (i:Nat)) 1) where
  mem:=by simp
  obj:=fun i h st b hb=>by
    have e:b=it:=by simpa using hb
    subst e;exact ⟨_,st,fun v z=>by
      have z':Data.fields _=Data.cell v:=z;cases z'⟩
  keep:=fun i h h' st k=>k it (by simp) _ st
  item:=by
    intro X hP hw hK hc i pins s σ H E I hf st hg;subst hP hw hK;obtain ⟨f0,f1,f2,f3,f4,f5⟩:=hf it (by simp);have W:=Walks.range (prog:=X.prog) (w:=X.w) (I.ok.hd hc) it lo 1 n;refine W.item i s _ _ hg st fun v h' tk hv st' kk=>?_;obtain ⟨t,rfl⟩:=hv;have I1:Inv X pins σ H { s with heap:=h',toks:=tk }:=I.turned (fun b o hb e=>kk b o (by simpa using hb) e) f0 f1 f3 f4 f5;refine ⟨_,rfl,Zhf (s:={ s with heap:=h',toks:=tk }) (n:="range_iterator") st' rfl rfl (by decide) ⟨.int (lo + i),H,I1,⟨t,?_⟩,⟨rfl,rfl⟩,st',fun b hb=>(hf b hb).1⟩⟩;rw [Int.mul_one]
  done:=by
    intro X hP hw hK hc i pins s σ H E I hf st hg;subst hP hw hK;obtain ⟨f0,f1,f2,f3,f4,f5⟩:=hf it (by simp);exact wpAny_pyNext_range_end (I.ok.hd hc) st (by have:n≤i:=hg;omega) fun h' eb=>⟨rfl,I.turned (t':=s.toks) (fun b o hb e=>eb b o hb e) f0 f1 f3 f4 f5⟩
  self:=fun _ _ _ _ _ st h=>wpAny_pyIter_rangeiter st h
end L2
namespace L2
open PySem PySem.Spec PyProof.Rows
section
variable {X:Cx}{tg:Expr}
def qG (K:aC) (tl:TE):TI:=fun σ H R=>tl σ H fun x H1=>∃ a,x=.ref a∧(∃ xs,dz K H1 a xs)∧R (Itl K a) H1
theorem lq {l:Expr}{tl:TE} (hl:PE X l tl):PI X tg l (qG X.K tl):=by
 intro pins s σ H R I h;refine iy (hl pins s σ H _ I h) fun v s1 ⟨x,H1,I1,r1,q1⟩=>?_;obtain ⟨a,e,⟨xs,hq⟩,q⟩:=q1;subst e;cases r1;obtain ⟨its,rv,p,hz⟩:=I1.list hq;refine wpAny_pyIter_list p.isList ?_;refine ⟨s1.heap.objs.size,[s1.heap.objs.size],_,_,H1,rfl,I1.kept (t':=s1.toks) fun b o e=>Heap.get?_push_of_some _ e,Zbx a _,⟨_,Heap.get?_push_size _ rfl,rfl,rfl⟩,fun b hb=>?_,q⟩;have e:b=s1.heap.objs.size:=by simpa using hb
 subst e;exact I1.Xl (Nat.le_refl _) (I1.hok.fresh (Nat.le_refl _))
theorem Zf3 {pins:List (Addr×Obj)}{σ:St}{H:Hp}{s:Shared}{R:It→Hp→Prop}{E:Value→Shared→Prop}{lo hi:Int}{t u v:Tok}{tk:Nat} (I:Inv X pins σ H s) (h1:-(2 ^ 62)≤lo) (h2:lo < 2 ^ 62) (h3:-(2 ^ 62)≤hi) (h4:hi < 2 ^ 62)
  (q:R (Itr lo (hi - lo).toNat) H):wpAny (model X.prog X.w) X.A (pyIter (.ref s.heap.objs.size)) (PIE X pins σ tg R) E { s with heap:=s.heap.push { cls:=.type "range",data:=.fields #[.int lo t,.int hi u,.int 1 v] },toks:=tk }:=by
 refine wpAny_pyIter_range (IsRange.new ..) (small_one h1 h2 h3 h4) ?_;have I1:Inv X pins σ H { s with heap:=s.heap.push { cls:=.type "range",data:=.fields #[.int lo t,.int hi u,.int 1 v] },toks:=tk }:=I.kept fun b o e=>Heap.get?_push_of_some _ e;refine ⟨(s.heap.push { cls:=.type "range",data:=.fields #[.int lo t,.int hi u,.int 1 v] }).objs.size,[(s.heap.push { cls:=.type "range",data:=.fields #[.int lo t,.int hi u,.int 1 v] }).objs.size],_,_,H,rfl,
  I1.kept (t':=tk) fun b o e=>Heap.get?_push_of_some _ e,Yn _ lo (hi - lo).toNat,?_,fun b hb=>?_,q⟩
 ·have e1:lo + ((0:Nat):Int) * 1=lo:=by simp
  have e2:(((hi - lo).toNat:Nat):Int) - ((0:Nat):Int)=Builtin.Range.rangeSize lo hi 1:=by rw [rangeSize_one];split<;>omega
  show IsRangeIter _ _ (lo + ((0:Nat):Int) * 1) ((((hi - lo).toNat:Nat):Int) - ((0:Nat):Int)) 1;rw [e1,e2];exact Heap.get?_push_size _ rfl
 ·have e:b=(s.heap.push { cls:=.type "range",data:=.fields #[.int lo t,.int hi u,.int 1 v] }).objs.size:=by simpa using hb
  subst e;exact I1.Xl (Nat.le_refl _) (I1.hok.fresh (Nat.le_refl _))
def Mx (ta:TA):TI:=fun σ H R=>ta σ H fun vs H1=>∃ j:Int,vs=[.int j]∧-(2 ^ 62)≤j∧j < 2 ^ 62∧R (Itr 0 j.toNat) H1
theorem vL {a:Expr}{ta:TA}{p pos:Pos} (hg:Gl X "range") (hm:X.mg "range"=none) (ha:PA X [a] ta) (hs:starEach [a] X.env=[(false,eval a X.env)]:=by rfl):PI X tg (.Call (.Name "range" p) [a] [] pos) (Mx ta):=by
 intro pins s σ H R I h;refine Call_ (Ur I hg hm boot_range (PyProof.Rows.callWith_type1 (iy (ha pos pins s σ H _ I h) fun us s1 ⟨vs,H1,I1,r1,q1⟩=>?_) hs rfl));obtain ⟨j,e,q1,q2,q⟩:=q1;subst e;cases r1 with
 | cons r rr=>
  cases rr;obtain ⟨t,rfl⟩:=r;exact call_range_1 (Zf3 I1 (by omega) (by omega) q1 q2 (by simpa using q))
def Bw (wi:TI) (g:TG) (tb:TS):TS:=fun D σ H=>wi σ H fun J H1=>∃ W:Nat→Nat→St→Hp→Prop,(∃ m,W 0 m σ H1)∧∀ i m σ H,W i m σ H→
 (J.stop i H∧D.nx σ H)∨(J.go i H∧∃ N:St→Hp→Prop,(∀ σ' H',N σ' H'→∃ m',m' < m∧W (i + 1) m' σ' H')∧∀ x H',J.Yj i H x H'→g x σ H' fun σ2 H2=>tb { D with nx:=N,ct:=N,bk:=D.nx } σ2 H2)
def uT (fp:List Addr) (h:Heap):List (Addr×Obj):=fp.filterMap fun b=>(h.get? b).map fun o=>(b,o)
theorem lZ {fp:List Addr}{h:Heap}{b:Addr}{o:Obj} (hb:b∈fp) (e:h.get? b=some o):(b,o)∈uT fp h:=List.mem_filterMap.mpr ⟨b,hb,by rw [e];rfl⟩
theorem GP {fp:List Addr}{h:Heap}{p:Addr×Obj} (hp:p∈uT fp h):p.1∈fp∧h.get? p.1=some p.2:=by
 obtain ⟨b,hb,e⟩:=List.mem_filterMap.mp hp;cases q:h.get? b with
 | none=>rw [q] at e;cases e
 | some o=>
  rw [q] at e;have e':(b,o)=p:=Option.some.inj e;subst e';exact ⟨hb,q⟩
theorem Inv.pinned {pins:List (Addr×Obj)}{σ:St}{H:Hp}{s:Shared}{fp:List Addr} (I:Inv X pins σ H s) (hf:∀ b∈fp,pF X pins H b) (ho:∀ b∈fp,∃ o,s.heap.get? b=some o∧∀ v,o.data≠.cell v):Inv X (pins ++ uT fp s.heap) σ H s:=
 I.rC fun p hp=>(List.mem_append.mp hp).elim (fun z=>I.pin p (List.mem_append_right _ z)) fun z=>by
  obtain ⟨hb,e⟩:=GP z;obtain ⟨f0,f1,f2,_⟩:=hf p.1 hb;obtain ⟨o,e',d⟩:=ho p.1 hb;rw [e] at e';cases e';exact ⟨e,f0,f1,f2,d⟩
theorem Inv.Dc {pins pl:List (Addr×Obj)}{σ:St}{H:Hp}{s:Shared} (I:Inv X (pins ++ pl) σ H s):Inv X pins σ H s:=I.rC fun p hp=>I.pin p (List.mem_append_right _ (List.mem_append_left _ hp))
theorem pY {iter:Expr}{body:List Stmt}{wi:TI}{g:TG}{tb:TS}{pos:Pos} (hp:PassesOwn (model X.prog X.w) X.A X.env X.xe) (hc:X.calm=true) (hi:PI X tg iter wi) (hg:PG X tg g) (hb:VR X body tb)
  (hs:∀ x,foldedSetIterable iter X.env x=pure x:=by intro _;rfl):PS X (.For tg iter body [] pos) (Bw wi g tb):=by
 intro pins s σ H D I h;refine wpAny_For (iy (hi pins s σ H _ I h) fun v s1 h1=>iy h1 fun itv s2 h2=>?_) hs;obtain ⟨it,fp,tn,J,H2,e,I2,T,st2,f2,W,⟨m0,w0⟩,turn⟩:=h2;subst e;have stat:∀ {H':Hp},(∀ b∈fp,H' b=none)→∀ b∈fp,pF X pins H' b:=fun hn b hb=>⟨hn b hb,(f2 b hb).2⟩;refine codeAny_forLoop_any (fun n s'=>∃ i σ' H',Inv X pins σ' H' s'∧tn i s'.heap∧(∀ b∈fp,H' b=none)∧W i n σ' H') ?_ m0 ⟨0,σ,H2,I2,st2,fun b hb=>(f2 b hb).1,w0⟩;rintro n s3 ⟨i,σ3,H3,I3,st3,fr3,w3⟩;rcases turn i n σ3 H3 w3 with ⟨stop,qn⟩ | ⟨go,N,hN,step⟩
 ·refine wpAny_passesOwn hp (iy (T.done X rfl rfl rfl hc i pins s3 σ3 H3 X.xe I3 (stat fr3) st3 stop) fun r s4 ⟨hr,I4⟩=>?_);subst hr;exact wpAny_execs_nil ⟨σ3,H3,I4,qn⟩
 ·refine wpAny_passesOwn hp (iy (T.item X rfl rfl rfl hc i pins s3 σ3 H3 X.xe I3 (stat fr3) st3 go) fun r s4 ⟨u,hr,h4⟩=>?_);subst hr;refine wpAny_passesOwn hp (iy h4 fun _ s5 ⟨x,H5,I5,r5,y5,st5,fr5⟩=>?_);have I5':=I5.pinned (stat fr5) (T.obj _ _ st5);refine wpAny_passesOwn hp (iy (hg _ s5 σ3 H5 x u _ I5' r5 (step x H5 y5)) fun _ s6 ⟨σ6,H6,I6,q6⟩=>?_);refine wpAny_passesOwn hp (iy (hb _ s6 σ6 H6 _ I6 q6) fun f s7 q7=>?_);have again:∀ {σ7:St}{H7:Hp},Inv X (pins ++ uT fp s5.heap) σ7 H7 s7→N σ7 H7→∃ m,m < n∧∃ i σ' H',Inv X pins σ' H' s7∧tn i s7.heap∧(∀ b∈fp,H' b=none)∧W i m σ' H':=fun {σ7 H7} I7 n7=>by
   obtain ⟨m',hm,w7⟩:=hN σ7 H7 n7;refine ⟨m',hm,i + 1,σ7,H7,I7.Dc,T.keep _ _ _ st5 fun b hb o e=>(I7.pin (b,o) (List.mem_append_right _ (List.mem_append_right _ (lZ hb e)))).1,fun b hb=>?_,w7⟩;obtain ⟨o,e,d⟩:=T.obj _ _ st5 b hb;exact (I7.pin (b,o) (List.mem_append_right _ (List.mem_append_right _ (lZ hb e)))).2.1
  cases f with
  | next=>obtain ⟨σ7,H7,I7,n7⟩:=q7;exact again I7 n7
  | cont=>obtain ⟨σ7,H7,I7,n7⟩:=q7;exact again I7 n7
  | brk=>obtain ⟨σ7,H7,I7,q7⟩:=q7;exact ⟨σ7,H7,I7.Dc,q7⟩
  | ret v=>obtain ⟨x7,σ7,H7,I7,r7,q7⟩:=q7;exact ⟨x7,σ7,H7,I7.Dc,r7,q7⟩
end
theorem Zhl {K:aC}{a:Addr}{xs:List V}{g:TG}{tb:TS}{D:Ends}{σ:St}{H:Hp} (Pv:Nat→St→Hp→Prop) (h0:Pv 0 σ H) (hl:∀ i σ H,i≤xs.length→Pv i σ H→dz K H a xs)
  (hs:∀ i x σ H,xs[i]? =some x→Pv i σ H→g x σ H fun σ2 H2=>tb { D with nx:=Pv (i + 1),ct:=Pv (i + 1),bk:=D.nx } σ2 H2) (hd:∀ σ H,Pv xs.length σ H→D.nx σ H):
  ∃ W:Nat→Nat→St→Hp→Prop,(∃ m,W 0 m σ H)∧∀ i m σ H,W i m σ H→
   ((Itl K a).stop i H∧D.nx σ H)∨((Itl K a).go i H∧∃ N:St→Hp→Prop,(∀ σ' H',N σ' H'→∃ m',m' < m∧W (i + 1) m' σ' H')∧∀ x H',(Itl K a).Yj i H x H'→g x σ H' fun σ2 H2=>tb { D with nx:=N,ct:=N,bk:=D.nx } σ2 H2):=by
 refine ⟨fun i m σ H=>m=xs.length - i∧i≤xs.length∧Pv i σ H,⟨xs.length,by simp,Nat.zero_le _,h0⟩,?_⟩;rintro i m σ H ⟨rfl,hi,p⟩;have q:=hl i σ H hi p
 by_cases hlt:i < xs.length
 ·refine .inr ⟨⟨xs,xs[i],q,by simp [hlt]⟩,Pv (i + 1),fun σ' H' p'=>⟨xs.length - (i + 1),by omega,rfl,hlt,p'⟩,fun x H' y=>?_⟩;obtain ⟨e,y⟩:=y;subst e;exact hs i x σ _ (y xs q) p
 ·have e:i=xs.length:=by omega
  subst e;exact .inl ⟨⟨xs,q,Nat.le_refl _⟩,hd σ H p⟩
theorem Zdt {lo:Int}{n:Nat}{g:TG}{tb:TS}{D:Ends}{σ:St}{H:Hp} (Pv:Nat→St→Hp→Prop) (h0:Pv 0 σ H)
  (hs:∀ i σ H,i < n→Pv i σ H→g (.int (lo + i)) σ H fun σ2 H2=>tb { D with nx:=Pv (i + 1),ct:=Pv (i + 1),bk:=D.nx } σ2 H2) (hd:∀ σ H,Pv n σ H→D.nx σ H):
  ∃ W:Nat→Nat→St→Hp→Prop,(∃ m,W 0 m σ H)∧∀ i m σ H,W i m σ H→
   ((Itr lo n).stop i H∧D.nx σ H)∨((Itr lo n).go i H∧∃ N:St→Hp→Prop,(∀ σ' H',N σ' H'→∃ m',m' < m∧W (i + 1) m' σ' H')∧∀ x H',(Itr lo n).Yj i H x H'→g x σ H' fun σ2 H2=>tb { D with nx:=N,ct:=N,bk:=D.nx } σ2 H2):=by
 refine ⟨fun i m σ H=>m=n - i∧i≤n∧Pv i σ H,⟨n,by simp,Nat.zero_le _,h0⟩,?_⟩;rintro i m σ H ⟨rfl,hi,p⟩
 by_cases hlt:i < n
 ·refine .inr ⟨hlt,Pv (i + 1),fun σ' H' p'=>⟨n - (i + 1),by omega,rfl,hlt,p'⟩,fun x H' y=>?_⟩;obtain ⟨e,y⟩:=y;subst e y;exact hs i σ _ hlt p
 ·have e:i=n:=by omega
  subst e;exact .inl ⟨Nat.le_refl _,hd σ H p⟩
end L2
namespace L2
open PySem PySem.Spec PyProof.Rows
abbrev R2:=V→V→Hp→VK→Prop
def yt (X:Cx) (f:Value→Value→Sem Value) (r:R2):Prop:=
 ∀ (pins:List (Addr×Obj)) (s:Shared) (σ:St) (H:Hp) (x y:V) (v u:Value) (Q:VK),Inv X pins σ H s→RelV x v→RelV y u→r x y H Q→
  wpAny (model X.prog X.w) X.A (f v u) (EP X pins σ Q) X.xe s
def UnR (X:Cx) (f:Value→Sem Value) (r:V→Hp→VK→Prop):Prop:=
 ∀ (pins:List (Addr×Obj)) (s:Shared) (σ:St) (H:Hp) (x:V) (v:Value) (Q:VK),Inv X pins σ H s→RelV x v→r x H Q→
  wpAny (model X.prog X.w) X.A (f v) (EP X pins σ Q) X.xe s
def Np (X:Cx) (f:Value) (r:List V→Hp→VK→Prop):Prop:=
 ∀ (pins:List (Addr×Obj)) (s:Shared) (σ:St) (H:Hp) (xs:List V) (us:List Value) (Q:VK),Inv X pins σ H s→Vals xs us→r xs H Q→
  wpAny (model X.prog X.w) X.A (call f us) (EP X pins σ Q) X.xe s
def Zy5 (X:Cx) (r:V→Hp→(Bool→Hp→Prop)→Prop):Prop:=
 ∀ (pins:List (Addr×Obj)) (s:Shared) (σ:St) (H:Hp) (x:V) (v:Value) (Q:Bool→Hp→Prop),Inv X pins σ H s→RelV x v→r x H Q→
  wpAny (model X.prog X.w) X.A (truthy v) (TP X pins σ Q) X.xe s
def bH (r:R2) (ta tb:TE):TE:=fun σ H Q=>ta σ H fun x H1=>tb σ H1 fun y H2=>r x y H2 Q
def tUn (r:V→Hp→VK→Prop) (ta:TE):TE:=fun σ H Q=>ta σ H fun x H1=>r x H1 Q
def rI (C:Int→Int→Prop) (g:Int→Int→V):R2:=fun x y H Q=>∃ i j,x=.int i∧y=.int j∧C i j∧Q (g i j) H
def mX (g:Int→Int→V):R2:=fun x y H Q=>∃ i j,x=.int i∧y=.int j∧Q (g i j) H
def rU (g:Int→V):V→Hp→VK→Prop:=fun x H Q=>∃ i,x=.int i∧Q (g i) H
section
variable {X:Cx}{a b c:Expr}{ta tb tc:TE}{pos:Pos}
theorem Zov (ha:PE X a ta) (hb:PE X b tb) {pins:List (Addr×Obj)}{s:Shared}{σ:St}{H:Hp}{R:V→V→Hp→Prop} (I:Inv X pins σ H s)
  (h:ta σ H fun x H1=>tb σ H1 fun y H2=>R x y H2) {Q:Value→Shared→Prop}{f:Value→Value→Sem Value}
  (hf:∀ v u s2 x y H2,Inv X pins σ H2 s2→RelV x v→RelV y u→R x y H2→wpAny (model X.prog X.w) X.A (f v u) Q X.xe s2):
  wpAny (model X.prog X.w) X.A (eval a X.env) (fun v s₁=>wpAny (model X.prog X.w) X.A (eval b X.env) (fun u s₂=>wpAny (model X.prog X.w) X.A (f v u) Q X.xe s₂) X.xe s₁) X.xe s:=by
 refine iy (ha pins s σ H _ I h) fun v s1 ⟨x,H1,I1,r1,q1⟩=>?_;refine iy (hb pins s1 σ H1 _ I1 q1) fun u s2 ⟨y,H2,I2,r2,q2⟩=>?_;exact hf v u s2 x y H2 I2 r1 r2 q2
theorem bz {op:Operator}{r:R2} (ho:yt X (binaryOp op) r) (ha:PE X a ta) (hb:PE X b tb):PE X (.BinOp a op b pos) (bH r ta tb):=by
 intro pins s σ H Q I h;exact wpAny_BinOp (Zov ha hb I h fun v u s2 x y H2 I2 rx ry q=>ho pins s2 σ H2 x y v u Q I2 rx ry q)
theorem Zpm {op:UnaryOp}{r:V→Hp→VK→Prop} (ho:UnR X (unaryOp op) r) (ha:PE X a ta):PE X (.UnaryOp op a pos) (tUn r ta):=by
 intro pins s σ H Q I h;exact UnaryOp_ (iy (ha pins s σ H _ I h) fun v s1 ⟨x,H1,I1,r1,q1⟩=>ho pins s1 σ H1 x v Q I1 r1 q1)
theorem opI {f:Value→Value→Sem Value}{C:Int→Int→Prop}{g:Int→Int→Int}
  (rule:∀ (i j:Int) (t u:Tok) (s:Shared) (Q:Value→Shared→Prop) (E:Value→Shared→Prop),C i j→Q (.int (g i j) s.toks) { s with toks:=s.toks + 1 }→wpAny (model X.prog X.w) X.A (f (.int i t) (.int j u)) Q E s):
  yt X f (rI C fun i j=>.int (g i j)):=by
 intro pins s σ H x y v u Q I rx ry h;obtain ⟨i,j,rfl,rfl,hc,q⟩:=h;obtain ⟨t,rfl⟩:=rx;obtain ⟨t',rfl⟩:=ry;exact rule i j t t' s _ _ hc ⟨.int (g i j),H,I.tok _,⟨_,rfl⟩,q⟩
theorem Zjp {f:Value→Value→Sem Value}{g:Int→Int→Int}
  (rule:∀ (i j:Int) (t u:Tok) (s:Shared) (Q:Value→Shared→Prop) (E:Value→Shared→Prop),Q (.int (g i j) s.toks) { s with toks:=s.toks + 1 }→wpAny (model X.prog X.w) X.A (f (.int i t) (.int j u)) Q E s):
  yt X f (mX fun i j=>.int (g i j)):=by
 intro pins s σ H x y v u Q I rx ry h;obtain ⟨i,j,rfl,rfl,q⟩:=h;obtain ⟨t,rfl⟩:=rx;obtain ⟨t',rfl⟩:=ry;exact rule i j t t' s _ _ ⟨.int (g i j),H,I.tok _,⟨_,rfl⟩,q⟩
theorem Zjq {f:Value→Value→Sem Value}{g:Int→Int→Bool}
  (rule:∀ (i j:Int) (t u:Tok) (s:Shared) (Q:Value→Shared→Prop) (E:Value→Shared→Prop),Q (.bool (g i j)) s→wpAny (model X.prog X.w) X.A (f (.int i t) (.int j u)) Q E s):
  yt X f (mX fun i j=>.bl (g i j)):=by
 intro pins s σ H x y v u Q I rx ry h;obtain ⟨i,j,rfl,rfl,q⟩:=h;obtain ⟨t,rfl⟩:=rx;obtain ⟨t',rfl⟩:=ry;exact rule i j t t' s _ _ ⟨.bl (g i j),H,I,rfl,q⟩
def Ql (i j:Int):Prop:=0 < j∧j < 1073741824
def Yg (i j:Int):Prop:=0≤j∧j≤1000000∧i.natAbs < 2 ^ 64
def Nr (i j:Int):Prop:=(-(2 ^ 64) < i∧i < 2 ^ 64)∨(-(2 ^ 64) < j∧j < 2 ^ 64)
theorem Nr.ok {i j:Int} (h:Nr i j):IntMulOk i j:=by
 rcases h with ⟨h1,h2⟩ | ⟨h1,h2⟩
 ·exact .of_left (intBits_le_64 h1 h2)
 ·exact .of_right (intBits_le_64 h1 h2)
theorem Ym (k:Nat):(0:Int)≤2 ^ k:=by
 rw [two_pow_cast];exact Int.natCast_nonneg _
theorem jC:yt X (binaryOp .Add) (mX fun i j=>.int (i + j)):=Zjp fun _ _ _ _ _ _ _ q=>add_int q
theorem zN:yt X (binaryOp .Sub) (mX fun i j=>.int (i - j)):=Zjp fun _ _ _ _ _ _ _ q=>sub_int q
theorem Gy:yt X (binaryOp .Mult) (rI Nr fun i j=>.int (i * j)):=opI fun _ _ _ _ _ _ _ hc q=>mul_int q hc.ok
theorem tW:yt X (binaryOp .FloorDiv) (rI Ql fun i j=>.int (i / j)):=opI fun i j _ _ _ _ _ hc q=>by
 have h1:(0:Int) < j:=hc.1;have h2:j < 1073741824:=hc.2;exact floordiv_int (by omega) (by rw [Int.fdiv_eq_ediv_of_nonneg i (by omega)];exact q) (.inl (PyProof.noPylong_small (by omega)))
theorem iR:yt X (binaryOp .Mod) (rI (fun _ j=>0 < j) fun i j=>.int (i % j)):=opI fun i j _ _ _ _ _ hc q=>by
 have h1:(0:Int) < j:=hc;exact mod_int' (by omega) (by rw [Int.fmod_eq_emod_of_nonneg i (by omega)];exact q)
theorem Tw:yt X (binaryOp .Pow) (rI Yg fun i j=>.int (i ^ j.toNat)):=opI fun _ _ _ _ _ _ _ hc q=>pow_int_small hc.1 hc.2.1 hc.2.2 q
theorem Zmx:yt X (binaryOp .LShift) (rI Yg fun i j=>.int (i * 2 ^ j.toNat)):=opI fun _ _ _ _ _ _ _ hc q=>lshift_int_small hc.1 hc.2.1 hc.2.2 q
theorem Zfr:yt X (binaryOp .RShift) (rI (fun _ j=>0≤j) fun i j=>.int (i / 2 ^ j.toNat)):=opI fun i j _ _ _ _ _ hc q=>
 rshift_int hc (by rw [Int.fdiv_eq_ediv_of_nonneg i (Ym _)];exact q)
theorem Tz:yt X (binaryOp .BitAnd) (mX fun i j=>.int (Builtin.bitAnd i j)):=Zjp fun _ _ _ _ _ _ _ q=>and_int q
theorem Zpn:yt X (binaryOp .BitOr) (mX fun i j=>.int (Builtin.bitOr i j)):=Zjp fun _ _ _ _ _ _ _ q=>or_int q
theorem unI {f:Value→Sem Value}{g:Int→Int}
  (rule:∀ (i:Int) (t:Tok) (s:Shared) (Q:Value→Shared→Prop) (E:Value→Shared→Prop),Q (.int (g i) s.toks) { s with toks:=s.toks + 1 }→wpAny (model X.prog X.w) X.A (f (.int i t)) Q E s):
  UnR X f (rU fun i=>.int (g i)):=by
 intro pins s σ H x v Q I rx h;obtain ⟨i,rfl,q⟩:=h;obtain ⟨t,rfl⟩:=rx;exact rule i t s _ _ ⟨.int (g i),H,I.tok _,⟨_,rfl⟩,q⟩
theorem Zm4:UnR X (unaryOp .USub) (rU fun i=>.int (-i)):=unI fun _ _ _ _ _ q=>neg_int q
end
def Zph:V→V→Bool
 | .non,.non=>true | .non,.int _=>true | .int _,.non=>true | .non,.bl _=>true | .bl _,.non=>true | .non,.str _=>true | .str _,.non=>true
 | .int _,.int _=>true | .bl _,.bl _=>true | .str _,.str _=>true | .byt _,.byt _=>true
 | .int _,.str _=>true | .str _,.int _=>true | .bl _,.str _=>true | .str _,.bl _=>true
 | _,_=>false
def Av:R2:=fun x y H Q=>Zph x y=true∧Q (.bl (decide (x=y))) H
def rNe:R2:=fun x y H Q=>Zph x y=true∧Q (.bl (!decide (x=y))) H
theorem Zbm {i j:Int}:decide (V.int i=V.int j)=(i == j):=by
 rw [Bool.eq_iff_iff];simp
theorem Zi0 {i j:Bool}:decide (V.bl i=V.bl j)=(i == j):=by
 rw [Bool.eq_iff_iff];simp
theorem Zbl {i j:Str}:decide (V.str i=V.str j)=(i == j):=by
 rw [Bool.eq_iff_iff];simp
theorem Zbn {i j:Array UInt8}:decide (V.byt i=V.byt j)=(i.toList == j.toList):=by
 rw [Bool.eq_iff_iff];cases i;cases j;simp
section
variable {X:Cx}{a b c:Expr}{ta tb tc:TE}{pos:Pos}
theorem eY {pins:List (Addr×Obj)}{σ:St}{H:Hp}{s:Shared}{Q:VK}{k k':Bool} (I:Inv X pins σ H s) (q:Q (.bl k) H) (e:k=k'):EP X pins σ Q (.bool k') s:=by
 subst e;exact ⟨.bl k,H,I,rfl,q⟩
theorem kj:yt X (compareOp .Eq) Av:=by
 intro pins s σ H x y v u Q I rx ry h;obtain ⟨hs,q⟩:=h;cases x with
 | non=>
  cases rx;cases y with
  | non=>cases ry;exact PySem.EqNone.eq_none_none (eY I q (by simp))
  | bl j=>cases ry;exact PySem.EqNone.eq_none_bool (eY I q (by simp))
  | int j=>obtain ⟨t',rfl⟩:=ry;exact PySem.EqNone.eq_none_int (eY I q (by simp))
  | str j=>obtain ⟨t',rfl⟩:=ry;exact PySem.EqNone.eq_none_str (eY I q (by simp))
  | _=>exact absurd (show false=true from hs) Bool.false_ne_true
 | bl i=>
  cases rx;cases y with
  | non=>cases ry;exact PySem.EqNone.eq_bool_none (eY I q (by simp))
  | bl j=>cases ry;exact eq_bool (eY I q Zi0)
  | str j=>obtain ⟨t',rfl⟩:=ry;exact PySem.EqMixed.eq_bool_str (eY I q (by simp))
  | _=>exact absurd (show false=true from hs) Bool.false_ne_true
 | int i=>
  obtain ⟨t,rfl⟩:=rx;cases y with
  | non=>cases ry;exact PySem.EqNone.eq_int_none (eY I q (by simp))
  | int j=>obtain ⟨t',rfl⟩:=ry;exact eq_int (eY I q Zbm)
  | str j=>obtain ⟨t',rfl⟩:=ry;exact PySem.EqMixed.eq_int_str (eY I q (by simp))
  | _=>exact absurd (show false=true from hs) Bool.false_ne_true
 | str i=>
  obtain ⟨t,rfl⟩:=rx;cases y with
  | non=>cases ry;exact PySem.EqNone.eq_str_none (eY I q (by simp))
  | bl j=>cases ry;exact PySem.EqMixed.eq_str_bool (eY I q (by simp))
  | int j=>obtain ⟨t',rfl⟩:=ry;exact PySem.EqMixed.eq_str_int (eY I q (by simp))
  | str j=>obtain ⟨t',rfl⟩:=ry;exact eq_str (eY I q Zbl)
  | _=>exact absurd (show false=true from hs) Bool.false_ne_true
 | byt i=>
  obtain ⟨t,rfl⟩:=rx;cases y with
  | byt j=>obtain ⟨t',rfl⟩:=ry;exact PySem.W.eq_bytes (eY I q Zbn)
  | _=>exact absurd (show false=true from hs) Bool.false_ne_true
 | _=>cases y<;>exact absurd (show false=true from hs) Bool.false_ne_true
theorem Zb8:yt X (compareOp .NotEq) rNe:=by
 intro pins s σ H x y v u Q I rx ry h;obtain ⟨hs,q⟩:=h;cases x with
 | non=>
  cases rx;cases y with
  | non=>cases ry;exact PySem.EqNone.ne_none_none (eY I q (by simp))
  | bl j=>cases ry;exact PySem.EqNone.ne_none_bool (eY I q (by simp))
  | int j=>obtain ⟨t',rfl⟩:=ry;exact PySem.EqNone.ne_none_int (eY I q (by simp))
  | str j=>obtain ⟨t',rfl⟩:=ry;exact PySem.EqNone.ne_none_str (eY I q (by simp))
  | _=>exact absurd (show false=true from hs) Bool.false_ne_true
 | bl i=>
  cases rx;cases y with
  | non=>cases ry;exact PySem.EqNone.ne_bool_none (eY I q (by simp))
  | bl j=>cases ry;exact ne_bool (eY I q (congrArg not Zi0))
  | str j=>obtain ⟨t',rfl⟩:=ry;exact PySem.EqMixed.ne_bool_str (eY I q (by simp))
  | _=>exact absurd (show false=true from hs) Bool.false_ne_true
 | int i=>
  obtain ⟨t,rfl⟩:=rx;cases y with
  | non=>cases ry;exact PySem.EqNone.ne_int_none (eY I q (by simp))
  | int j=>obtain ⟨t',rfl⟩:=ry;exact ne_int (eY I q (congrArg not Zbm))
  | str j=>obtain ⟨t',rfl⟩:=ry;exact PySem.EqMixed.ne_int_str (eY I q (by simp))
  | _=>exact absurd (show false=true from hs) Bool.false_ne_true
 | str i=>
  obtain ⟨t,rfl⟩:=rx;cases y with
  | non=>cases ry;exact PySem.EqNone.ne_str_none (eY I q (by simp))
  | bl j=>cases ry;exact PySem.EqMixed.ne_str_bool (eY I q (by simp))
  | int j=>obtain ⟨t',rfl⟩:=ry;exact PySem.EqMixed.ne_str_int (eY I q (by simp))
  | str j=>obtain ⟨t',rfl⟩:=ry;exact ne_str (eY I q (congrArg not Zbl))
  | _=>exact absurd (show false=true from hs) Bool.false_ne_true
 | byt i=>
  obtain ⟨t,rfl⟩:=rx;cases y with
  | byt j=>obtain ⟨t',rfl⟩:=ry;exact PySem.W.ne_bytes (eY I q (congrArg not Zbn))
  | _=>exact absurd (show false=true from hs) Bool.false_ne_true
 | _=>cases y<;>exact absurd (show false=true from hs) Bool.false_ne_true
theorem Bm:yt X (compareOp .Lt) (mX fun i j=>.bl (decide (i < j))):=Zjq fun _ _ _ _ _ _ _ q=>lt_int q
theorem Zpo:yt X (compareOp .LtE) (mX fun i j=>.bl (decide (i≤j))):=Zjq fun _ _ _ _ _ _ _ q=>le_int q
theorem Zb9:yt X (compareOp .Gt) (mX fun i j=>.bl (decide (j < i))):=Zjq fun _ _ _ _ _ _ _ q=>gt_int q
theorem Zpp:yt X (compareOp .GtE) (mX fun i j=>.bl (decide (j≤i))):=Zjq fun _ _ _ _ _ _ _ q=>ge_int q
theorem Zmy:yt X (compareOp .Is) (fun x y H Q=>y=.non∧Q (.bl (decide (x=.non))) H):=by
 intro pins s σ H x y v u Q I rx ry h;obtain ⟨rfl,q⟩:=h;cases ry;refine is_none_gen (eY I q ?_);cases x<;>first
  | (cases rx;rfl)
  | (obtain ⟨t,rfl⟩:=rx;rfl)
theorem Zjn:yt X (compareOp .IsNot) (fun x y H Q=>y=.non∧Q (.bl (!decide (x=.non))) H):=by
 intro pins s σ H x y v u Q I rx ry h;obtain ⟨rfl,q⟩:=h;cases ry;refine isnot_none_gen (eY I q ?_);cases x<;>first
  | (cases rx;rfl)
  | (obtain ⟨t,rfl⟩:=rx;rfl)
def isObj:HO→Bool
 | .lst _=>true
 | .ins _ _ _=>true
 | _=>false
theorem GQ {pins:List (Addr×Obj)}{s:Shared}{σ:St}{H:Hp}{a:Addr}{o:HO} (I:Inv X pins σ H s) (h:H a=some o) (p:isObj o=true):∃ ob,s.heap.get? a=some ob∧ob.cls≠.type "tuple":=by
 cases o with
 | lst xs=>
  obtain ⟨_,its,n,_,e⟩:xs.length≤sizeLine∧∃ (its:List Value) (n:Nat),Vals xs its∧s.heap.get? a=some { cls:=.type "list",data:=.seq its.toArray n }:=I.hok a _ h;exact ⟨_,e,(by show Value.type "list"≠.type "tuple";decide +kernel)⟩
 | ins C dx fs=>
  have x:=I.hok a _ h;obtain ⟨_,_,_,e,_⟩:=x;exact ⟨_,e,(by show Value.ref C≠.type "tuple";exact fun z=>by cases z)⟩
 | _=>exact absurd (show false=true from p) Bool.false_ne_true
theorem LQ (b:Expr) {op:CmpOp} (h:op≠.In:=by decide) (h2:op≠.NotIn:=by decide):behindInMarks op b=false:=by
 have e1:(op == CmpOp.In)=false:=by cases op<;>first | rfl | exact absurd rfl h
 have e2:(op == CmpOp.NotIn)=false:=by cases op<;>first | rfl | exact absurd rfl h2
 cases b<;>simp [behindInMarks,e1,e2]
theorem Dy {op:CmpOp}{r:R2} (ho:yt X (compareOp op) r) (ha:PE X a ta) (hb:PE X b tb) (hm:behindInMarks op b=false):PE X (.Compare a [op] [b] pos) (bH r ta tb):=by
 intro pins s σ H Q I h;exact wpAny_Compare1 (Zov ha hb I h fun v u s2 x y H2 I2 rx ry q=>ho pins s2 σ H2 x y v u Q I2 rx ry q) hm
def cL (t:TE):TT:=fun σ H Q=>t σ H fun x H'=>∃ k,x=.bl k∧Q k H'
theorem Zj5 {op:CmpOp}{r:R2} (ho:yt X (compareOp op) r) (ha:PE X a ta) (hb:PE X b tb) (hm:behindInMarks op b=false):PT X (.Compare a [op] [b] pos) (cL (bH r ta tb)):=by
 intro pins s σ H Q I h;refine wpAny_isTrue_Compare1 (iy (ha pins s σ H _ I h) fun v s1 ⟨x,H1,I1,r1,q1⟩=>iy (hb pins s1 σ H1 _ I1 q1) fun u s2 ⟨y,H2,I2,r2,q2⟩=>
  iy (ho pins s2 σ H2 x y v u _ I2 r1 r2 q2) fun c s3 ⟨z,H3,I3,r3,k,e,q3⟩=>?_) hm
 subst e;cases r3;exact wpAny_truthy_bool ⟨H3,I3,q3⟩
def Ys (r r':R2) (ta tb tc:TE):TE:=fun σ H Q=>ta σ H fun x H1=>tb σ H1 fun y H2=>r x y H2 fun z H3=>∃ k,z=.bl k∧
 (if k=true then tc σ H3 fun w' H4=>r' y w' H4 Q else Q (.bl false) H3)
theorem Zfn {op op':CmpOp}{r r':R2} (ho:yt X (compareOp op) r) (ho':yt X (compareOp op') r') (ha:PE X a ta) (hb:PE X b tb) (hc:PE X c tc)
  (hm:lastMarks [op,op'] [b,c]=false:=by with_unfolding_all rfl):PE X (.Compare a [op,op'] [b,c] pos) (Ys r r' ta tb tc):=by
 intro pins s σ H Q I h;refine Compare_chain (iy (ha pins s σ H _ I h) fun v s1 ⟨x,H1,I1,r1,q1⟩=>chain_link (iy (hb pins s1 σ H1 _ I1 q1) fun u s2 ⟨y,H2,I2,r2,q2⟩=>
  iy (ho pins s2 σ H2 x y v u _ I2 r1 r2 q2) fun d s3 ⟨z,H3,I3,r3,k,e,q3⟩=>?_)) hm
 subst e;cases r3;refine wpAny_truthy_bool ?_;cases k with
 | false=>exact ite_ff ⟨.bl false,H3,I3,rfl,q3⟩
 | true=>exact ite_tt (chain_last (iy (hc pins s3 σ H3 _ I3 q3) fun w' s4 ⟨z',H4,I4,r4,q4⟩=>ho' pins s4 σ H4 y z' u w' Q I4 r2 r4 q4))
def Zi6 (K:aC) (x:V) (H:Hp) (k:Bool):Prop:=
 match x with
 | .non=>k=false
 | .bl b=>k=b
 | .int i=>k=(i != 0)
 | .str y=>y.length≤sizeLine∧k=((y.length:Int) != 0)
 | .byt y=>y.size≤sizeLine∧k=((y.size:Int) != 0)
 | .ref p=>(∃ xs,dz K H p xs∧k=!xs.isEmpty)∨(∃ xs,iQ K H p xs∧k=!xs.isEmpty)∨∃ kvs,H p=some (.dK kvs)∧k=!kvs.isEmpty
 | _=>False
theorem Z2 {κ:Type}{kvs:List (κ×V)}{vs:List (κ×Value)} (r:KV kvs vs):(!vs.isEmpty)=!kvs.isEmpty:=by
 cases r<;>rfl
theorem Ms {xs:List V}{its:List Value} (r:Vals xs its):(!its.toArray.isEmpty)=!xs.isEmpty:=by
 cases r<;>simp
theorem Hl:(sizeLine:Nat) < 2 ^ 63:=by rw [sizeLine_eq];decide
theorem Zm7:Zy5 X (fun x H Q=>∃ k,Zi6 X.K x H k∧Q k H):=by
 intro pins s σ H x v Q I rx h;obtain ⟨k,e,q⟩:=h;have hl:=Hl;have hs:sizeLine=16777216:=sizeLine_eq;cases x with
 | non=>
  cases rx;have e':k=false:=e;subst e';exact truthy_none ⟨H,I,q⟩
 | bl b=>
  cases rx;have e':k=b:=e;subst e';exact wpAny_truthy_bool ⟨H,I,q⟩
 | int i=>
  obtain ⟨t,rfl⟩:=rx;have e':k=(i != 0):=e;subst e';exact PySem.P.truthy_int ⟨H,I,q⟩
 | str y=>
  obtain ⟨t,rfl⟩:=rx;obtain ⟨hy,e'⟩:y.length≤sizeLine∧k=((y.length:Int) != 0):=e;subst e';exact PySem.P.truthy_str (by omega) ⟨H,I.tok _,q⟩
 | byt y=>
  obtain ⟨t,rfl⟩:=rx;obtain ⟨hy,e'⟩:y.size≤sizeLine∧k=((y.size:Int) != 0):=e;subst e';exact PySem.W.truthy_bytes (by omega) ⟨H,I.tok _,q⟩
 | ref p=>
  cases rx;have e':(∃ xs,dz X.K H p xs∧k=!xs.isEmpty)∨(∃ xs,iQ X.K H p xs∧k=!xs.isEmpty)∨∃ kvs,H p=some (.dK kvs)∧k=!kvs.isEmpty:=e;rcases e' with ⟨xs,hx,e'⟩ | ⟨xs,hx,e'⟩ | ⟨kvs,hx,e'⟩
  ·subst e';obtain ⟨its,r,pl,hz⟩:=I.list hx;have hlen:=r.length;exact wpAny_truthy_list pl.isList (by simp only [List.size_toArray];omega) ⟨H,I.tok _,by rw [Ms r];exact q⟩
  ·subst e';obtain ⟨its,r,pl,hz⟩:=I.tuple hx;have hlen:=r.length;exact truthy_tuple pl (by simp only [List.size_toArray];omega) ⟨H,I.tok _,by rw [Ms r];exact q⟩
  ·subst e';obtain ⟨hz,hS,vs,r,m⟩:kvs.length≤sizeLine∧(p == sysModules)=false∧∃ vs,KV kvs vs∧s.heap.DictOf (eO X.prog X.w) p vs:=I.hok p _ hx;have hlen:kvs.length=vs.length:=Paired.length r;exact wpAny_truthy_dict hS m (by omega) ⟨H,I.tok _,by rw [Z2 r];exact q⟩
 | _=>exact (show False from e).elim
theorem Wk (ha:PE X a ta) (he:∀ whole,isTrue a X.env whole=(do let v ← whole;standAt a.pos;holding [v] (truthy v))):
  PT X a (fun σ H Q=>ta σ H fun x H'=>∃ k,Zi6 X.K x H' k∧Q k H'):=by
 intro pins s σ H Q I h;exact isTrue_plain (iy (ha pins s σ H _ I h) fun v s1 ⟨x,H1,I1,r1,q1⟩=>Zm7 pins s1 σ H1 x v Q I1 r1 q1) (he _)
theorem Lj:yt X (binaryOp .Add) (fun x y H Q=>∃ i j,x=.str i∧y=.str j∧i.length + j.length≤sizeLine∧Q (.str (i ++ j)) H):=by
 intro pins s σ H x y v u Q I rx ry h;obtain ⟨i,j,rfl,rfl,hz,q⟩:=h;obtain ⟨t,rfl⟩:=rx;obtain ⟨t',rfl⟩:=ry;exact add_str (fun t' tk=>⟨.str (i ++ j),H,I.tok _,⟨_,rfl⟩,q⟩) hz
theorem vals1 {x:V}{us:List Value} (r:Vals [x] us):∃ u,us=[u]∧RelV x u:=by
 cases r with
 | cons r1 r2=>cases r2;exact ⟨_,rfl,r1⟩
end
end L2
namespace L2
open PySem PySem.Spec PyProof.Rows
structure Zau (h:Heap) (x dx C:Addr) (mA:Str→Option Value):Prop where
 obj:h.get? x=some (PySem.W.instObj C dx)
 ns:h.Ns1 dx mA
 ne:dx≠x
theorem Zd6 {h:Heap}{dx:Addr}{mA:Str→Option Value} (n:h.Ns1 dx mA):∃ od,h.get? dx=some od∧∀ name,PySem.W.lookIn name od=some (mA name):=by
 obtain ⟨o,es,ep,ho,hd,hk,_,hm⟩:=n;refine ⟨o,ho,fun name=>?_⟩;have e:=hm name;unfold nsFind findBy at e;rw [← Array.find?_toList] at e;unfold PySem.W.lookIn;rw [hd];dsimp only;split
 ·rename_i y q
  rw [q] at e;exact congrArg some e
 ·rename_i q
  rw [q] at e;have a:es.toList.any (·.refKey)=false:=by
   rw [List.any_eq_false];intro y hy;obtain ⟨z,t,hkey⟩:=hk y (Array.mem_toList_iff.mp hy);simp [DictEntry.refKey,hkey]
  have a':¬ es.toList.any (·.refKey)=true:=by rw [a];exact Bool.false_ne_true
  rw [if_neg a'];exact congrArg some e
theorem Zau.look {h:Heap}{x dx C:Addr}{mA:Str→Option Value} (I:Zau h x dx C mA):∃ od,PySem.W.InstAt h x (PySem.W.instObj C dx) C (some od)∧∀ name,PySem.W.lookIn name od=some (mA name):=
 let ⟨od,ho,hl⟩:=Zd6 I.ns
 ⟨od,⟨I.obj,rfl,rfl,ho⟩,hl⟩
section
variable {prog:Program}{w:World}{A:Around}{E:Value→Shared→Prop}{s:Shared}{K:aC}{x dx C f:Addr}{mA:Str→Option Value}{name:Str}{v:Value}
theorem get_map {expr:Bool}{Q:Value→Shared→Prop} (X:K.In s.heap) (I:Zau s.heap x dx C mA) (hg:PySem.W.plainGet K C name=true) (hh:PySem.W.hasDictIn K C=true)
  (ha:PySem.W.findIn K (.ref C) name=some none) (hv:mA name=some v) (hv':PySem.W.handedIn v=true) (h:Q v { s with toks:=s.toks + 1 }):
  wpAny (model prog w) A (getAttr (.ref x) name expr) Q E s:=by
 obtain ⟨od,J,hl⟩:=I.look;exact PySem.W.get_value X J (PySem.W.plainGet_of hg).1 (PySem.W.findObj_own hh ha rfl (by rw [hl,hv])) hv' h
theorem Zhg {pl:Sem Bool}{Q:Value×List Value→Shared→Prop} (X:K.In s.heap) (I:Zau s.heap x dx C mA) (hg:PySem.W.plainGet K C name=true)
  (hf:PySem.W.findIn K (.ref C) name=some (some (.ref f))) (ht:PySem.W.isFn K (.ref f)=true) (hv:mA name=none) (h:Q (.ref f,[.ref x]) s):
  wpAny (model prog w) A (getMethod (.ref x) name pl) Q E s:=by
 obtain ⟨od,J,hl⟩:=I.look;exact PySem.W.method_fn X J (PySem.W.plainGet_of hg).1 (PySem.W.plainGet_of hg).2 hf (beq_iff_eq.mp ht) (by show (PySem.W.lookIn name od).map (·.isSome)=some false;rw [hl,hv];rfl) h
theorem Zin {ns:List Str}{Q:Unit→Shared→Prop} (X:K.In s.heap) (I:Zau s.heap x dx C mA)
  (hs:PySem.W.findIn K (.ref C) "__setattr__"=some (some (.builtin "object.__setattr__"))) (hp:PySem.W.plainOver K C=true) (ht:PySem.W.takerIn K C name=some none) (hh:PySem.W.hasDictIn K C=true)
  (hw:PySem.Within mA ns) (hsz:ns.length≤sizeLine)
  (h:∀ h',Zau h' x dx C (fun y=>if y=name then some v else mA y)→Heap.SameBut dx s.heap h'→Q () { s with heap:=h',toks:=s.toks + 2 }):
  wpAny (model prog w) A (setAttr (.ref x) name v) Q E s:=by
 obtain ⟨od,J,hl⟩:=I.look;refine PySem.W.set_plain X J hs (PySem.W.osa_open (s:={ s with toks:=s.toks + 1 }) (r:=none) X J hp ht fun b=>?_);obtain ⟨cd,hc,hd'⟩:=PySem.W.any_some hh;have hx:s.heap.get? x=some ⟨.ref C,some dx,.plain,#[]⟩:=I.obj;refine wpAny_bind (wpAny_pure (wpAny_bind (wpAny_bind (wpAny_loadPart hx (wpAny_bind (PySem.W.Looks.here (s:={ s with toks:=s.toks + 1 }) (PySem.W.looks_clsIn X hc) ?_))))));rw [hd'];refine wpAny_pure (a:=some dx) (wpAny_bind (wpAny_pure (wpAny_bind ?_)));refine wpAny_nsSet1 (s:={ s with toks:=s.toks + 1 }) I.ns fun h' hn2 hs2=>?_;obtain ⟨oD,esD,epD,hoD,hdD,hcD⟩:=hn2.count (PySem.Within.cons name v hw);refine wpAny_bind (wpAny_lookBehind hoD (by rw [hdD];exact pastItsLine_dict (Nat.le_trans hcD (by rw [List.length_cons];omega))) ?_);exact wpAny_pure (h _ ⟨(hs2.2 _ (Ne.symm I.ne)).trans I.obj,hn2,I.ne⟩ hs2)
theorem Zg8 {R:Result→Shared→Prop}{vs:List Value}{kw:List (Str×Value)} (X:K.In s.heap) (hm:PySem.W.makesIn K C=true)
  (hi:PySem.W.findIn K (.ref C) "__init__"=some (some (.ref f))) (hf:PySem.W.typeIn K (.ref f)=some (.type "function"))
  (h:codeAny (model prog w) (A.under (.builtin "type.__call__" ⟨.ref C :: vs,kw⟩)) (.call (.ref f) ⟨.ref (s.heap.objs.size + 1) :: vs,kw⟩) (PySem.W.InitBack (s.heap.objs.size + 1) R)
   { s with heap:=(s.heap.push PySem.W.emptyDict).push (PySem.W.instObj C s.heap.objs.size) }):
  codeAny (model prog w) A (.call (.ref C) ⟨vs,kw⟩) R s:=by
 obtain ⟨hh,g,d,t,os⟩:=s;exact PySem.W.make_core (PySem.W.makes_of X hm) (PySem.W.looks_findIn X hi) (fun self=>PySem.W.bind_fn X self hf) (.inl rfl) h
theorem Zcw {R:Result→Shared→Prop} (X:K.In s.heap) (hm:PySem.W.makesIn K C=true)
  (hi:PySem.W.findIn K (.ref C) "__init__"=some (some (.builtin "object.__init__")))
  (hb:∀ self,PySem.W.Looks (model prog w) s.heap (bindSpecial (.builtin "object.__init__") self) (.builtin "object.__init__",[self]))
  (h:codeAny (model prog w) (A.under (.builtin "type.__call__" ⟨[.ref C],[]⟩)) (.call (.builtin "object.__init__") ⟨[.ref (s.heap.objs.size + 1)],[]⟩) (PySem.W.InitBack (s.heap.objs.size + 1) R)
   { s with heap:=(s.heap.push PySem.W.emptyDict).push (PySem.W.instObj C s.heap.objs.size) }):
  codeAny (model prog w) A (.call (.ref C) ⟨[],[]⟩) R s:=by
 obtain ⟨hh,g,d,t,os⟩:=s;exact PySem.W.make_core (PySem.W.makes_of X hm) (PySem.W.looks_findIn X hi) hb (.inr ⟨rfl,rfl⟩) h
end
def cg (f:Str) (v:V):List (Str×V)→List (Str×V)
 | []=>[(f,v)]
 | (g,x) :: r=>if g=f then (g,v) :: r else (g,x) :: cg f v r
theorem Jk (f g:Str) (v:V):∀ fs:List (Str×V),(cg f v fs).lookup g=if g=f then some v else fs.lookup g
 | []=>by
  show List.lookup g [(f,v)]=_
  by_cases h:g=f
  ·have hb:(g == f)=true:=beq_iff_eq.mpr h;simp only [List.lookup,hb,if_pos h]
  ·have hb:(g == f)=false:=beq_eq_false_iff_ne.mpr h;simp only [List.lookup,hb,if_neg h]
 | (k,x) :: r=>by
  have ih:=Jk f g v r;rw [show cg f v ((k,x) :: r)=(if k=f then (k,v) :: r else (k,x) :: cg f v r) from rfl]
  by_cases hk:k=f
  ·rw [if_pos hk]
   by_cases h:g=k
   ·have hb:(g == k)=true:=beq_iff_eq.mpr h;simp only [List.lookup,hb,if_pos (h.trans hk)]
   ·have hb:(g == k)=false:=beq_eq_false_iff_ne.mpr h;simp only [List.lookup,hb,if_neg (fun e:g=f=>h (e.trans hk.symm))]
  ·rw [if_neg hk]
   by_cases h:g=k
   ·have hb:(g == k)=true:=beq_iff_eq.mpr h;simp only [List.lookup,hb,if_neg (fun e:g=f=>hk (h.symm.trans e))]
   ·have hb:(g == k)=false:=beq_eq_false_iff_ne.mpr h;simp only [List.lookup,hb];exact ih
theorem Ho (f:Str) (v:V):∀ fs:List (Str×V),f∈(cg f v fs).map (·.1)∧∀ g,g∈fs.map (·.1)→g∈(cg f v fs).map (·.1)
 | []=>⟨by simp [cg],fun g h=>by simp at h⟩
 | (k,x) :: r=>by
  obtain ⟨i1,i2⟩:=Ho f v r;rw [show cg f v ((k,x) :: r)=(if k=f then (k,v) :: r else (k,x) :: cg f v r) from rfl]
  by_cases hk:k=f
  ·rw [if_pos hk];subst hk;exact ⟨by simp,fun g h=>by simpa using h⟩
  ·rw [if_neg hk];refine ⟨?_,fun g h=>?_⟩
   ·rw [List.map_cons];exact List.mem_cons_of_mem _ i1
   ·rw [List.map_cons] at h ⊢;rcases List.mem_cons.mp h with e | e
    ·exact List.mem_cons.mpr (.inl e)
    ·exact List.mem_cons_of_mem _ (i2 g e)
theorem Jl (f:Str) (v:V):∀ fs:List (Str×V),(cg f v fs).length≤fs.length + 1
 | []=>by simp [cg]
 | (k,x) :: r=>by
  have ih:=Jl f v r;rw [show cg f v ((k,x) :: r)=(if k=f then (k,v) :: r else (k,x) :: cg f v r) from rfl]
  by_cases hk:k=f
  ·rw [if_pos hk,List.length_cons,List.length_cons];omega
  ·rw [if_neg hk,List.length_cons,List.length_cons];omega
theorem Bg.some_of {v:V}{o:Option Value} (r:Bg (some v) o):∃ u,o=some u∧RelV v u:=by
 cases o with
 | none=>exact (show False from r).elim
 | some u=>exact ⟨u,rfl,r⟩
theorem Bg.none_of {o:Option Value} (r:Bg none o):o=none:=by
 cases o with
 | none=>rfl
 | some u=>exact (show False from r).elim
theorem Zds {v:V}{u:Value} (r:RelV v u):PySem.W.handedIn u=true:=by
 cases v with
 | non=>cases (show u=Value.none from r);rfl
 | bl b=>cases (show u=Value.bool b from r);rfl
 | int i=>obtain ⟨t,e⟩:=(show ∃ t,u=Value.int i t from r);cases e;rfl
 | str x=>obtain ⟨t,e⟩:=(show ∃ t,u=Value.str x t from r);cases e;rfl
 | byt b=>obtain ⟨t,e⟩:=(show ∃ t,u=Value.bytes b t from r);cases e;rfl
 | flt b=>obtain ⟨t,e⟩:=(show ∃ t,u=Value.float b t from r);cases e;rfl
 | ref a=>cases (show u=Value.ref a from r);rfl
 | ty n=>cases (show u=Value.type n from r);rfl
section
variable {P:Program}{w:World}{H H':Hp}{h h':Heap}{a C dx:Addr}{fs fs':List (Str×V)}
theorem Ut (hok:yx P w H h) (e:H a=some (.ins C dx fs)):∃ mA,Zau h a dx C mA∧(∀ f,Bg (fs.lookup f) (mA f))∧PySem.Within mA (fs.map (·.1))∧fs.length≤1000∧H dx=some (.own a):=by
 obtain ⟨d,z,ne,ob,mA,n,r,q⟩:=(show kZ P w H h a (.ins C dx fs) from hok a _ e);exact ⟨mA,⟨ob,n,ne⟩,r,q,z,d⟩
end
structure CW (K:aC) (C:Addr):Prop where
 pg:PySem.W.plainGet K C Str.empty=true
 hd:PySem.W.hasDictIn K C=true
 po:PySem.W.plainOver K C=true
 sa:PySem.W.findIn K (.ref C) "__setattr__"=some (some (.builtin "object.__setattr__"))
theorem CW.get {K:aC}{C:Addr} (c:CW K C) (f:Str):PySem.W.plainGet K C f=true:=c.pg
def bI (K:aC) (C:Addr) (f:Str):Prop:=PySem.W.findIn K (.ref C) f=some none
theorem bI.taker {K:aC}{C:Addr}{f:Str} (n:bI K C f):PySem.W.takerIn K C f=some none:=by
 unfold PySem.W.takerIn;rw [show PySem.W.findIn K (.ref C) f=some none from n];rfl
structure Con (K:aC) (C:Addr) (f:Str) (v:V) (u:Value):Prop where
 at_:PySem.W.findIn K (.ref C) f=some (some u)
 rel:RelV v u
 get:PySem.W.specialIn K u "__get__"=some none
 cp:PySem.W.copiedNames.contains f=false
structure Meth (K:aC) (C:Addr) (m:Str) (f:Addr):Prop where
 at_:PySem.W.findIn K (.ref C) m=some (some (.ref f))
 fn:PySem.W.isFn K (.ref f)=true
 kp:PySem.W.keepIn K (.ref f)=true
section
variable {X:Cx}{pins:List (Addr×Obj)}{σ:St}{H:Hp}{s:Shared}{a C dx:Addr}{fs:List (Str×V)}{f:Str}{v:V}{A:Around}{E:Value→Shared→Prop}
theorem Z9 {b:Bool}{Q:Value→Shared→Prop} (I:Inv X pins σ H s) (e:H a=some (.ins C dx fs)) (c:CW X.K C) (n:bI X.K C f) (l:fs.lookup f=some v)
  (h:∀ u s',Inv X pins σ H s'→RelV v u→Q u s'):wpAny (model X.prog X.w) A (getAttr (.ref a) f b) Q E s:=by
 obtain ⟨mA,O,r,_,_,_⟩:=Ut I.hok e;obtain ⟨u,hu,ru⟩:=Bg.some_of (v:=v) (o:=mA f) (by rw [← l];exact r f);exact get_map I.J7 O (c.get f) c.hd n hu (Zds ru) (h u _ (I.tok _) ru)
theorem Mz {m:Str}{g:Addr}{pl:Sem Bool}{Q:Value×List Value→Shared→Prop} (I:Inv X pins σ H s) (e:H a=some (.ins C dx fs)) (c:CW X.K C) (k:Meth X.K C m g) (l:fs.lookup m=none)
  (h:Q (.ref g,[.ref a]) s):wpAny (model X.prog X.w) A (getMethod (.ref a) m pl) Q E s:=by
 obtain ⟨mA,O,r,_,_,_⟩:=Ut I.hok e;have hn:mA m=none:=Bg.none_of (by rw [← l];exact r m);exact Zhg I.J7 O (c.get m) k.at_ k.fn hn h
theorem YH {y:V}{u:Value}{Q:Unit→Shared→Prop} (I:Inv X pins σ H s) (e:H a=some (.ins C dx fs)) (c:CW X.K C) (n:bI X.K C f) (hl:fs.length < 1000) (ry:RelV y u)
  (h:∀ s',Inv X pins σ (upd H a (.ins C dx (cg f y fs))) s'→Q () s'):wpAny (model X.prog X.w) A (setAttr (.ref a) f u) Q E s:=by
 obtain ⟨mA,O,r,wi,_,ho⟩:=Ut I.hok e;have hz:(fs.map (·.1)).length≤sizeLine:=by rw [bD,sizeLine_eq];omega
 refine Zin I.J7 O c.sa c.po n.taker c.hd wi hz fun h' O' sb=>h _ ?_;have hd:∃ o,h'.get? dx=some o:=let ⟨o,_,_,e',_⟩:=O'.ns;⟨o,e'⟩
 refine I.write (x:=a) (e:=dx) (by rw [e];exact True.intro) (.inr ho) (fun b q hb z=>(sb.2 b hb).trans z) hd ?_;refine ⟨by rw [aB O.ne];exact ho,?_,O.ne,O'.obj,_,O'.ns,fun g=>?_,fun g hg=>?_⟩
 ·have:=Jl f y fs;omega
 ·show Bg ((cg f y fs).lookup g) (if g=f then some u else mA g);rw [Jk]
  by_cases q:g=f
  ·rw [if_pos q,if_pos q];exact ry
  ·rw [if_neg q,if_neg q];exact r g
 ·by_cases q:g=f
  ·rw [q];exact (Ho f y fs).1
  ·refine (Ho f y fs).2 g (wi g fun z=>hg ?_);show (if g=f then some u else mA g)=none;rw [if_neg q];exact z
theorem Inv.made (I:Inv X pins σ H s):Inv X pins σ (upd (upd H s.heap.objs.size (.own (s.heap.objs.size + 1))) (s.heap.objs.size + 1) (.ins C s.heap.objs.size []))
  { s with heap:=(s.heap.push PySem.W.emptyDict).push (PySem.W.instObj C s.heap.objs.size) }:=by
 have e1:(s.heap.push PySem.W.emptyDict).get? s.heap.objs.size=some PySem.W.emptyDict:=Heap.get?_push_size s.heap rfl;have e2:((s.heap.push PySem.W.emptyDict).push (PySem.W.instObj C s.heap.objs.size)).get? (s.heap.objs.size + 1)=some (PySem.W.instObj C s.heap.objs.size):=by
  have:=Heap.get?_push_size (s.heap.push PySem.W.emptyDict) (o:=PySem.W.instObj C s.heap.objs.size) rfl
  rwa [Heap.size_push] at this
 have e3:(s.heap.push PySem.W.emptyDict).Ns s.heap.objs.size (fun _=>none):=⟨PySem.W.emptyDict,#[],_,e1,rfl,(fun e he=>absurd he (by simp)),fun _=>rfl⟩;have I1:=I.laid (a:=s.heap.objs.size) (o:=.own (s.heap.objs.size + 1)) (h':=s.heap.push PySem.W.emptyDict) (t':=s.toks) (fun b u q=>Heap.get?_push_of_some _ q) (Nat.le_refl _) ⟨_,e1⟩;refine I1.laid (a:=s.heap.objs.size + 1) (o:=.ins C s.heap.objs.size []) (t':=s.toks) (fun b u q=>Heap.get?_push_of_some _ q) (Nat.le_of_eq (Heap.size_push _ _)) ?_;have ne:s.heap.objs.size≠s.heap.objs.size + 1:=Nat.ne_of_lt (Nat.lt_succ_self _);refine ⟨by rw [aB ne,aq],Nat.zero_le _,ne,e2,fun _=>none,(Heap.Ns1.of_empty e3).at fun o q=>Heap.get?_push_of_some _ q,fun _=>True.intro,fun y hy=>absurd rfl hy⟩
theorem Zle {prog:Program}{w:World}{env:Env}{e:Expr}{f:Str}{pos:Pos}{s:Shared}{Q:Value→Shared→Prop} (hb:attributeBase e f env (eval e env)=eval e env)
  (h:wpAny (model prog w) A (eval e env) (fun o s₁=>wpAny (model prog w) A (getAttr o f true) Q E s₁) E s):wpAny (model prog w) A (eval (.Attribute e f pos) env) Q E s:=
 Attribute_any_ h (by rw [arm_eval_Attribute,hb])
end
def bA (K:aC) (ta:TE) (f:Str):TE:=fun σ H Q=>ta σ H fun x H1=>∃ a C dx fs v,x=.ref a∧H1 a=some (.ins C dx fs)∧CW K C∧bI K C f∧fs.lookup f=some v∧Q v H1
def gA (K:aC) (ta tv:TE) (f:Str):TS:=fun D σ H=>tv σ H fun y H1=>ta σ H1 fun x H2=>∃ a C dx fs,x=.ref a∧H2 a=some (.ins C dx fs)∧CW K C∧bI K C f∧fs.length < 1000∧
 D.nx σ (upd H2 a (.ins C dx (cg f y fs)))
section
variable {X:Cx}{o e value:Expr}{f:Str}{pos pos' tpos:Pos}{ta tv:TE}
theorem aJ (he:PE X e ta) (hb:attributeBase e f X.env (eval e X.env)=eval e X.env):PE X (.Attribute e f pos) (bA X.K ta f):=by
 intro pins s σ H Q I h;refine Zle hb (iy (he pins s σ H _ I h) fun u s1 ⟨x,H1,I1,rx,a,C,dx,fs,v,ex,ea,c,n,l,q⟩=>?_);subst ex;obtain rfl:u=Value.ref a:=rx;exact Z9 I1 ea c n l fun u' s2 I2 ru=>⟨v,H1,I2,ru,q⟩
theorem cj (ha:PE X o ta) (hv:PE X value tv) (hs:swapsWith value (some (.Attribute o f pos')) pos.line X.env=pure false):PS X (.Assign [.Attribute o f pos'] value pos) (gA X.K ta tv f):=by
 intro pins s σ H D I h;refine plainObj_wpAny_Assign_Attribute (iy (hv pins s σ H _ I h) fun u s1 ⟨y,H1,I1,ry,q⟩=>iy (ha pins s1 σ H1 _ I1 q) fun ov s2 ⟨x,H2,I2,rx,a,C,dx,fs,ex,ea,c,n,l,q2⟩=>?_) hs;subst ex;obtain rfl:ov=Value.ref a:=rx;exact YH I2 ea c n l ry fun s3 I3=>⟨σ,_,I3,q2⟩
end
section
variable {X:Cx}{pins:List (Addr×Obj)}{σ:St}{H:Hp}{s:Shared}{A:Around}{E:Value→Shared→Prop}{Q:Value→Shared→Prop}{c:Value}{b:Bool}
inductive Ni (K:aC) (H:Hp):V→Value→Prop where
 | non:Ni K H .non (.type "NoneType")
 | bl (x:Bool):Ni K H (.bl x) (.type "bool")
 | int (i:Int):Ni K H (.int i) (.type "int")
 | str (x:Str):Ni K H (.str x) (.type "str")
 | flt (x:UInt64):Ni K H (.flt x) (.type "float")
 | lst {a:Addr}{xs:List V} (e:H a=some (.lst xs)):Ni K H (.ref a) (.type "list")
 | Bc {a:Addr}{o:Obj}{xs:List V} (e:H a=some (.Bc o (.lst xs))):Ni K H (.ref a) (.type "list")
 | tup {a:Addr}{xs:List V} (e:H a=some (.tup xs)):Ni K H (.ref a) (.type "tuple")
 | dK {a:Addr}{kvs:List (Key×V)} (e:H a=some (.dK kvs)):Ni K H (.ref a) (.type "dict")
 | dT {a:Addr}{kvs:List (List Key×V)} (e:H a=some (.dT kvs)):Ni K H (.ref a) (.type "dict")
 | ins {a C dx:Addr}{fs:List (Str×V)} (e:H a=some (.ins C dx fs)) (cl:CW K C) (ha:PySem.W.findIn K (.ref C) "__class__"=some (some (.builtin "object.__class__")))
   (hn:PySem.W.specialIn K (.builtin "object.__class__") "__get__"=some (some (.builtin "getset_descriptor.__get__"))) (htk:PySem.W.takesIn K (.builtin "object.__class__")=some true)
   (hm:PySem.W.mroIn K C (.type "object")=some true):Ni K H (.ref a) (.ref C)
end
end L2
namespace L2
open PySem PySem.Spec PyProof.Rows
structure Room (k:Nat) (A:Around):Prop where
 hd:A.handled=none
 dp:A.depth + 3 * k + 5 < recursionLimit
 un:A.units + 16 * k + 200 < cLine
theorem Room.mono {j k:Nat}{A:Around} (r:Room k A) (h:j≤k):Room j A:=⟨r.hd,by have:=r.dp;omega,by have:=r.un;omega⟩
theorem Room.deeper {k:Nat}{A:Around} (r:Room (k + 1) A) (env:Env):Room k (A.deeper env):=
 ⟨r.hd,by have:=r.dp;show A.depth + 1 + 3 * k + 5 < _;omega,by have:=r.un;show A.units + 3 + 16 * k + 200 < _;omega⟩
theorem ZW {A:Around}{C:Addr}{us:List Value}{kw:List (Str×Value)}:(A.under (.builtin "type.__call__" ⟨.ref C :: us,kw⟩)).depth=A.depth + 1:=by
 first | rfl | simp [Around.under,Code.weight,Code.isCreation,Code.isGuard,Code.isCaller,Code.frames,Code.isFrame,guardIds]
theorem ZV {A:Around}{C:Addr}{us:List Value}{kw:List (Str×Value)}:(A.under (.builtin "type.__call__" ⟨.ref C :: us,kw⟩)).units=A.units + 1:=by
 first | rfl | simp [Around.under,Code.cUnits,Code.frames,Code.isFrame]
theorem Room.make {k:Nat}{A:Around} (r:Room (k + 1) A) (C:Addr) (us:List Value) (kw:List (Str×Value)):Room k (A.under (.builtin "type.__call__" ⟨.ref C :: us,kw⟩)):=
 ⟨r.hd,by have:=r.dp;rw [ZW];omega,by have:=r.un;rw [ZV];omega⟩
theorem Room.depth {k:Nat}{A:Around} (r:Room k A):A.depth < recursionLimit:=by have:=r.dp;omega
theorem Room.units {k:Nat}{A:Around} (r:Room k A):A.units + 64 < cLine:=by have:=r.un;omega
def aG:TA:=fun _ H Q=>Q [] H
def aj (ta:TE) (tr:TA):TA:=fun σ H Q=>ta σ H fun x H1=>tr σ H1 fun xs H2=>Q (x :: xs) H2
section
variable {X:Cx}{e:Expr}{es:List Expr}{te:TE}{t:TA}{pos:Pos}
theorem au:PA X [] aG:=fun _ _ _ _ H Q I h=>Calls.spliced_nil ⟨[],H,I,.nil,h⟩
theorem aa (ha:PE X e te) (hr:PA X es t) (hs:starEach (e :: es) X.env=(false,eval e X.env) :: starEach es X.env:=by rfl):PA X (e :: es) (aj te t):=by
 intro pos pins s σ H Q I h;rw [hs];show wpAny _ _ (spliced ((false,eval e X.env) :: backTo pos (starEach es X.env))) _ _ s;refine Calls.spliced_cons (iy (ha pins s σ H _ I h) fun u s1 ⟨x,H1,I1,r1,q1⟩=>?_);exact iy (hr pos pins s1 σ H1 _ I1 q1) fun us s2 ⟨xs,H2,I2,r2,q2⟩=>⟨x :: xs,H2,I2,.cons r1 r2,q2⟩
def fG (t:TA):TE:=fun σ H Q=>t σ H fun xs H1=>xs.length≤sizeLine∧∀ p,H1 p=none→Q (.ref p) (upd H1 p (.tup xs))
def gK (t:TA):TE:=fun σ H Q=>t σ H fun xs H1=>xs.length≤sizeLine∧∀ p,H1 p=none→Q (.ref p) (upd H1 p (.lst xs))
theorem cG {x1} (h:PA X es t):PE X (.Tuple es x1 pos) (fG t):=by
 intro pins s σ H Q I hq;refine wpAny_Tuple_spliced (iy (h pos pins s σ H _ I hq) fun us s1 ⟨xs,H1,I1,r,z,q⟩=>⟨by rw [← r.length];exact z,?_⟩);have hf:H1 s1.heap.objs.size=none:=I1.hok.fresh (Nat.le_refl _);refine ⟨.ref s1.heap.objs.size,upd H1 s1.heap.objs.size (.tup xs),I1.laid (t':=s1.toks) (fun b u e=>Heap.get?_push_of_some _ e) (Nat.le_refl _) ?_,rfl,q _ hf⟩;exact ⟨z,us,r,⟨_,Heap.get?_push_size _ rfl,rfl,_,rfl⟩⟩
theorem cU (h:PA X es t):PE X (.List es pos) (gK t):=by
 intro pins s σ H Q I hq;refine wpAny_List_spliced (iy (h pos pins s σ H _ I hq) fun us s1 ⟨xs,H1,I1,r,z,q⟩=>⟨by rw [← r.length];exact z,?_⟩);have hf:H1 s1.heap.objs.size=none:=I1.hok.fresh (Nat.le_refl _);refine ⟨.ref s1.heap.objs.size,upd H1 s1.heap.objs.size (.lst xs),I1.laid (t':=s1.toks) (fun b u e=>Heap.get?_push_of_some _ e) (Nat.le_refl _) ?_,rfl,q _ hf⟩;exact ⟨z,us,0,r,Heap.get?_push_size _ rfl⟩
end
abbrev Sp:=List V→Hp→VK→XK→Prop
abbrev V0:=List Env→Hp→Shared→XK→Value→Shared→Prop
structure Zax (P:Program) (w:World) (K:aC) (mg:Str→Option Value) (base:Heap) (A:Around) (outer:List Env) (s:Shared) (H:Hp):Prop where
 frames:A.frames=some outer
 mod:Mod K mg base
 bs:∀ b o,base.get? b=some o→s.heap.get? b=some o∧H b=none
 bsz:base.objs.size≤s.heap.objs.size
 vX:s.heap.FunFrames base outer
 frf:∀ b∈frs outer,H b=none
 hok:yx P w H s.heap
 bare:AllBare s.gens
def CE (outer:List Env) (P:Program) (w:World) (H:Hp) (s:Shared) (Q:VK) (u:Value) (s':Shared):Prop:=
 ∃ v H',s'.os=s.os∧AllBare s'.gens∧Un (frs outer) [] H H' s.heap s'.heap∧yx P w H' s'.heap∧RelV v u∧Q v H'
def CR (CX:V0) (outer:List Env) (P:Program) (w:World) (H:Hp) (s:Shared) (Q:VK) (E:XK) (r:Result) (s':Shared):Prop:=
 match r with
 | .ok (.ret u)=>CE outer P w H s Q u s'
 | .ok _=>False
 | .error e=>CX outer H s E e s'
structure tG (P:Program) (w:World) (K:aC) (mg:Str→Option Value) (base:Heap) (CX:V0) (k:Nat) (f:Addr) (fd:FuncData) (ps:List Str) (sp:Sp):Prop where
 len:∀ vs H Q E,sp vs H Q E→vs.length=ps.length
 run:∀ (A:Around) (outer:List Env) (s:Shared) (H:Hp) (args:Args) (us:List Value) (vs:List V) (Q:VK) (E:XK),Room k A→Zax P w K mg base A outer s H→BindsTo s fd args (ps.zip us)→Vals vs us→sp vs H Q E→
  codeAny (model P w) A (.call (.ref f) args) (CR CX outer P w H s Q E) s
theorem Zax.make {P:Program}{w:World}{K:aC}{mg:Str→Option Value}{base:Heap}{A:Around}{outer:List Env}{s:Shared}{H:Hp} (e:Zax P w K mg base A outer s H) (C:Addr) (us:List Value) (kw:List (Str×Value)):
  Zax P w K mg base (A.under (.builtin "type.__call__" ⟨.ref C :: us,kw⟩)) outer s H:=⟨by first | exact e.frames | (simpa [Around.under,Code.envs,Code.isFrame,pushEnvs] using e.frames),e.mod,e.bs,e.bsz,e.vX,e.frf,e.hok,e.bare⟩
section
variable {X:Cx}{pins:List (Addr×Obj)}{σ:St}{H:Hp}{s s':Shared}
theorem Inv.env0 (I:Inv X pins σ H s):Zax X.prog X.w X.K X.mg X.base X.A X.stack s H:=
 ⟨I.ok.frames,I.ok.mod,I.bs,Nat.le_trans I.ok.bsz I.sz,I.stack,I.JT,I.hok,I.bare⟩
theorem Inv.after {Q:VK}{u:Value} (I:Inv X pins σ H s) (h:CE X.stack X.prog X.w H s Q u s'):EP X pins σ Q u s':=by
 obtain ⟨v,H',os,bare,un,hok,r,q⟩:=h;obtain ⟨hh,g,d,t,os'⟩:=s';obtain rfl:os'=s.os:=os;exact ⟨v,H',I.call (h':=hh) (g':=g) (d':=d) (t':=t) (ch:=[]) un hok bare (fun b z=>absurd z (by simp)),r,q⟩
end
def aV (sp:Sp) (tH:List V) (E:XK) (t:TA):TE:=fun σ H Q=>t σ H fun vs H1=>sp (vs ++ tH) H1 Q E
def pG (C:Addr) (m:Str) (sp:Sp) (tH:List V) (E:XK) (ta:TE) (t:TA):TE:=fun σ H Q=>ta σ H fun x H1=>∃ a dx fs,x=.ref a∧H1 a=some (.ins C dx fs)∧fs.lookup m=none∧
 t σ H1 fun vs H2=>sp (x :: (vs ++ tH)) H2 Q E
def De (C:Addr) (sp:Sp) (tH:List V) (E:XK) (t:TA):TE:=fun σ H Q=>t σ H fun vs H1=>∀ x dx,H1 x=none→H1 dx=none→dx≠x→
 sp (.ref x :: (vs ++ tH)) (upd (upd H1 dx (.own x)) x (.ins C dx [])) (fun v H2=>v=.non∧Q (.ref x) H2) E
def Binds (K:aC) (fd:FuncData) (ps:List Str) (ds:List Value):Prop:=
 ∀ (s:Shared) (us:List Value),K.In s.heap→(us ++ ds).length=ps.length→BindsTo s fd ⟨us,[]⟩ (ps.zip (us ++ ds))
theorem Binds.all {K:aC}{fd:FuncData}{ps:List Str} (h:∀ us:List Value,us.length=ps.length→bindArgs fd ⟨us,[]⟩=pure (ps.zip us)):Binds K fd ps []:=fun s us _ hl=>by
 rw [List.append_nil] at hl ⊢;exact .of_eq (h us hl)
def Passes (CX:V0) (X:Cx) (E:XK):Prop:=∀ (pins:List (Addr×Obj)) (σ:St) (H:Hp) (s:Shared) (e:Value) (s':Shared),Inv X pins σ H s→CX X.stack H s E e s'→X.xe e s'
section
variable {X:Cx}{CX:V0}{k:Nat}{f C:Addr}{fd:FuncData}{ps:List Str}{sp:Sp}{tH:List V}{ds:List Value}{E:XK}{x m:Str}{p pos apos:Pos}{e o:Expr}{es:List Expr}{ta:TE}{t:TA}
theorem Td {pins:List (Addr×Obj)}{σ:St}{H:Hp}{s:Shared}{Q:VK}{us:List Value}{vs:List V} (F:tG X.prog X.w X.K X.mg X.base CX k f fd ps sp) (hr:Room k X.A) (hb:Binds X.K fd ps ds) (hd:Vals tH ds) (hx:Passes CX X E)
  (I:Inv X pins σ H s) (r:Vals vs us) (h:sp (vs ++ tH) H Q E):wpAny (model X.prog X.w) X.A (call (.ref f) us) (EP X pins σ Q) X.xe s:=by
 have r2:Vals (vs ++ tH) (us ++ ds):=r.append hd;have hl:(us ++ ds).length=ps.length:=by rw [← r2.length];exact F.len _ _ _ _ h
 refine wpAny_call (codeAny_mono (F.run X.A X.stack s H ⟨us,[]⟩ (us ++ ds) (vs ++ tH) Q E hr I.env0 (hb s us I.J7 hl) r2 h) fun r s' hq=>?_);cases r with
 | error e=>exact hx pins σ H s e s' I hq
 | ok fl=>
  cases fl with
  | ret u=>exact I.after hq
  | next=>exact False.elim hq
  | brk=>exact False.elim hq
  | cont=>exact False.elim hq
theorem tR (F:tG X.prog X.w X.K X.mg X.base CX k f fd ps sp) (hr:Room k X.A) (hg:Gl X x) (hm:X.mg x=some (.ref f)) (hk:PySem.W.keepIn X.K (.ref f)=true) (hb:Binds X.K fd ps ds) (hd:Vals tH ds) (hx:Passes CX X E)
  (ha:PA X (e :: es) t) (hdb:(x == ("__debug__":Str))=false:=by decide) (he:starEach (e :: es) X.env=(false,eval e X.env) :: starEach es X.env:=by rfl) (hpl:(backTo pos (starEach es X.env)).any (·.1)=false:=by rfl):
  PE X (.Call (.Name x p) (e :: es) [] pos) (aV sp tH E t):=by
 intro pins s σ H Q I h;refine wpAny_Call_Name_kw (rK I hg hm ?_ hdb);refine PySem.W.callWith_K (h₀:=X.base) I.ok.mod.kin hk (iy (ha pos pins s σ H _ I h) fun us s1 ⟨vs,H1,I1,r,q⟩=>⟨I1.J7,?_⟩) he hpl;exact Td F hr hb hd hx I1 r q
theorem Af {pl:Sem Bool} (he:PE X o ta) (c:CW X.K C) (hm:Meth X.K C m f) (F:tG X.prog X.w X.K X.mg X.base CX k f fd ps sp) (hr:Room k X.A) (hb:Binds X.K fd ps ds) (hd:Vals tH ds) (hx:Passes CX X E) (ha:PA X (e :: es) t)
  (hst:starEach (e :: es) X.env=(false,eval e X.env) :: starEach es X.env:=by rfl) (hpl:(backTo pos (starEach es X.env)).any (·.1)=false:=by rfl)
  (ht:eval (.Call (.Attribute o m apos) (e :: es) [] pos) X.env=(do
   let ov ← eval o X.env
   standAt apos.atName
   let (f,first) ← holding [ov] (getMethod ov m pl)
   callWith pos f first (backTo pos (starEach (e :: es) X.env)) (backToKw pos (keywordEach [] X.env))):=by rfl):
  PE X (.Call (.Attribute o m apos) (e :: es) [] pos) (pG C m sp tH E ta t):=by
 intro pins s σ H Q I h;refine PySem.W.methodCall_KW (pl:=pl) (iy (he pins s σ H _ I h) fun u s1 ⟨x,H1,I1,rx,a,dx,fs,ex,ea,l,q⟩=>?_) ht;subst ex;obtain rfl:u=Value.ref a:=rx;refine Mz I1 ea c hm l ?_;refine PySem.W.callWith_K (first:=[.ref a]) (h₀:=X.base) I.ok.mod.kin hm.kp (iy (ha pos pins s1 σ H1 _ I1 q) fun us s2 ⟨vs,H2,I2,r,q2⟩=>⟨I2.J7,?_⟩) hst hpl;exact Td (us:=.ref a :: us) (vs:=.ref a :: vs) F hr hb hd hx I2 (.cons rfl r) q2
theorem qC {pl:Sem Bool} (he:PE X o ta) (c:CW X.K C) (hm:Meth X.K C m f) (F:tG X.prog X.w X.K X.mg X.base CX k f fd ps sp) (hr:Room k X.A) (hb:Binds X.K fd ps ds) (hd:Vals tH ds) (hx:Passes CX X E)
  (ht:eval (.Call (.Attribute o m apos) [] [] pos) X.env=(do
   let ov ← eval o X.env
   standAt apos.atName
   let (f,first) ← holding [ov] (getMethod ov m pl)
   callWith pos f first (backTo pos (starEach [] X.env)) (backToKw pos (keywordEach [] X.env))):=by rfl):
  PE X (.Call (.Attribute o m apos) [] [] pos) (pG C m sp tH E ta aG):=by
 intro pins s σ H Q I h;refine PySem.W.methodCall_KW (pl:=pl) (iy (he pins s σ H _ I h) fun u s1 ⟨x,H1,I1,rx,a,dx,fs,ex,ea,l,q⟩=>?_) ht;subst ex;obtain rfl:u=Value.ref a:=rx;refine Mz I1 ea c hm l ?_;exact PySem.W.callWith_K0 (first:=[.ref a]) I1.J7 hm.kp (Td (us:=[.ref a]) (vs:=[.ref a]) F hr hb hd hx I1 (.cons rfl .nil) q)
structure Mk (K:aC) (C f:Addr):Prop where
 makes:PySem.W.makesIn K C=true
 init:PySem.W.findIn K (.ref C) "__init__"=some (some (.ref f))
 fn:PySem.W.isFn K (.ref f)=true
 kp:PySem.W.keepIn K (.ref C)=true
theorem Wg {pins:List (Addr×Obj)}{σ:St}{H:Hp}{s:Shared}{Q:VK}{us:List Value}{vs:List V} (M:Mk X.K C f) (F:tG X.prog X.w X.K X.mg X.base CX k f fd ps sp) (hr:Room (k + 1) X.A) (hb:Binds X.K fd ps ds) (hd:Vals tH ds)
  (hx:Passes CX X E) (I:Inv X pins σ H s) (r:Vals vs us)
  (h:∀ x dx,H x=none→H dx=none→dx≠x→sp (.ref x :: (vs ++ tH)) (upd (upd H dx (.own x)) x (.ins C dx [])) (fun v H2=>v=.non∧Q (.ref x) H2) E):
  wpAny (model X.prog X.w) X.A (call (.ref C) us) (EP X pins σ Q) X.xe s:=by
 have hq:=h (s.heap.objs.size + 1) s.heap.objs.size (I.hok.fresh (Nat.le_succ _)) (I.hok.fresh (Nat.le_refl _)) (Nat.ne_of_lt (Nat.lt_succ_self _));have I2:=Inv.made (C:=C) I;have r2:Vals (V.ref (s.heap.objs.size + 1) :: (vs ++ tH)) (Value.ref (s.heap.objs.size + 1) :: (us ++ ds)):=.cons rfl (r.append hd);have hl:(Value.ref (s.heap.objs.size + 1) :: us ++ ds).length=ps.length:=by
  have e:=r2.length;rw [F.len _ _ _ _ hq] at e;exact e.symm
 refine wpAny_call (Zg8 (f:=f) I.J7 M.makes M.init (beq_iff_eq.mp M.fn) (codeAny_mono (F.run _ X.stack _ _ ⟨Value.ref (s.heap.objs.size + 1) :: us,[]⟩ (Value.ref (s.heap.objs.size + 1) :: (us ++ ds)) _ _ E (hr.make C us [])
  (I2.env0.make C us []) (hb _ (Value.ref (s.heap.objs.size + 1) :: us) I2.J7 hl) r2 hq) fun r s' hq'=>?_))
 cases r with
 | error e=>exact hx pins σ _ _ e s' I2 hq'
 | ok fl=>
  cases fl with
  | ret u=>
   obtain ⟨v,H',I3,rv,ev,q3⟩:=I2.after hq';subst ev;exact ⟨rv,⟨V.ref (s.heap.objs.size + 1),H',I3,rfl,q3⟩⟩
  | next=>exact False.elim hq'
  | brk=>exact False.elim hq'
  | cont=>exact False.elim hq'
theorem Dw (M:Mk X.K C f) (F:tG X.prog X.w X.K X.mg X.base CX k f fd ps sp) (hr:Room (k + 1) X.A) (hg:Gl X x) (hm:X.mg x=some (.ref C)) (hb:Binds X.K fd ps ds) (hd:Vals tH ds) (hx:Passes CX X E)
  (ha:PA X (e :: es) t) (hdb:(x == ("__debug__":Str))=false:=by decide) (he:starEach (e :: es) X.env=(false,eval e X.env) :: starEach es X.env:=by rfl) (hpl:(backTo pos (starEach es X.env)).any (·.1)=false:=by rfl):
  PE X (.Call (.Name x p) (e :: es) [] pos) (De C sp tH E t):=by
 intro pins s σ H Q I h;refine wpAny_Call_Name_kw (rK I hg hm ?_ hdb);refine PySem.W.callWith_K (h₀:=X.base) I.ok.mod.kin M.kp (iy (ha pos pins s σ H _ I h) fun us s1 ⟨vs,H1,I1,r,q⟩=>⟨I1.J7,?_⟩) he hpl;exact Wg M F hr hb hd hx I1 r q
theorem Zfk (M:Mk X.K C f) (F:tG X.prog X.w X.K X.mg X.base CX k f fd ps sp) (hr:Room (k + 1) X.A) (hg:Gl X x) (hm:X.mg x=some (.ref C)) (hb:Binds X.K fd ps ds) (hd:Vals tH ds) (hx:Passes CX X E)
  (hdb:(x == ("__debug__":Str))=false:=by decide):PE X (.Call (.Name x p) [] [] pos) (De C sp tH E aG):=by
 intro pins s σ H Q I h;refine wpAny_Call_Name_kw (rK I hg hm ?_ hdb);exact PySem.W.callWith_K0 I.J7 M.kp (Wg (us:=[]) M F hr hb hd hx I .nil h)
end
section
variable {X:Cx}{CX:V0}{k:Nat}{f C:Addr}{fd:FuncData}{ps ks:List Str}{sp:Sp}{E:XK}{x m:Str}{p pos apos kpos:Pos}{e o:Expr}{es:List Expr}{kws:List Keyword}{te ta:TE}{t tk:TA}{nm:Option Str}
structure Zy7 (K:aC) (fd:FuncData) (ps ks:List Str) (g:List Value→List Value→List Value) (gV:List V→List V→List V):Prop where
 to:∀ (s:Shared) (us ws:List Value),K.In s.heap→(g us ws).length=ps.length→BindsTo s fd ⟨us,ks.zip ws⟩ (ps.zip (g us ws))
 rel:∀ {vs:List V}{us:List Value}{zs:List V}{ws:List Value},Vals vs us→Vals zs ws→Vals (gV vs zs) (g us ws)
variable {g:List Value→List Value→List Value}{gV:List V→List V→List V}
end
structure aO (N P:List Str) (sc:Scope):Prop where
 kind:sc.kind=.function
 co:sc.isCoroutine=false
 gen:sc.isGenerator=false
 nd:N.Nodup
 pre:N.take P.length=P
 par:∀ x∈P,sc.names.lookup x=some .local∨sc.names.lookup x=some .cell
 Zn7:∀ y∈sc.names,y.2≠.free
theorem Rv {kindOf:Str→Option NameKind}{x:Str}:∀ {binds:List (Str×Value)}{m:Str→Option Value},(∀ v,(x,v)∉binds)→bindL kindOf binds m x=m x
 | [],_,_=>rfl
 | (n,v) :: r,m,h=>by
  unfold bindL;rw [Rv fun w hw=>h w (List.mem_cons_of_mem _ hw)];split
  ·have:x≠n:=by rintro rfl;exact h v List.mem_cons_self
   simp [this]
  ·rfl
theorem Ry {kindOf:Str→Option NameKind}{x:Str}:∀ {binds:List (Str×Value)}{m:Str→Option Value},(∀ v,(x,v)∉binds)→bindC kindOf binds m x=m x
 | [],_,_=>rfl
 | (n,v) :: r,m,h=>by
  unfold bindC;rw [Ry fun w hw=>h w (List.mem_cons_of_mem _ hw)];split
  ·rfl
  ·have:x≠n:=by rintro rfl;exact h v List.mem_cons_self
   simp [this]
theorem Rx {kindOf:Str→Option NameKind}{x:Str}{v:Value}:∀ {P:List Str}{vs:List Value}{i:Nat}{m:Str→Option Value},P.Nodup→P[i]? =some x→vs[i]? =some v→kindOf x=some .local→
  bindL kindOf (P.zip vs) m x=some v
 | [],_,_,_,_,h,_,_=>by simp at h
 | _ :: _,[],_,_,_,_,h,_=>by simp at h
 | p :: P,w :: vs,0,m,nd,h1,h2,hk=>by
  simp at h1 h2;subst h1;subst h2;show bindL kindOf ((p,w) :: P.zip vs) m p=_;unfold bindL;rw [Rv fun v hv=>(List.nodup_cons.mp nd).1 (List.of_mem_zip hv).1,if_pos hk];simp
 | p :: P,w :: vs,i + 1,m,nd,h1,h2,hk=>by
  show bindL kindOf ((p,w) :: P.zip vs) m x=_;unfold bindL;exact Rx (i:=i) (List.nodup_cons.mp nd).2 (by simpa using h1) (by simpa using h2) hk
theorem Rz {kindOf:Str→Option NameKind}{x:Str}{v:Value}:∀ {P:List Str}{vs:List Value}{i:Nat}{m:Str→Option Value},P.Nodup→P[i]? =some x→vs[i]? =some v→kindOf x≠some .local→
  bindC kindOf (P.zip vs) m x=some v
 | [],_,_,_,_,h,_,_=>by simp at h
 | _ :: _,[],_,_,_,_,h,_=>by simp at h
 | p :: P,w :: vs,0,m,nd,h1,h2,hk=>by
  simp at h1 h2;subst h1;subst h2;show bindC kindOf ((p,w) :: P.zip vs) m p=_;unfold bindC;rw [Ry fun v hv=>(List.nodup_cons.mp nd).1 (List.of_mem_zip hv).1,if_neg hk];simp
 | p :: P,w :: vs,i + 1,m,nd,h1,h2,hk=>by
  show bindC kindOf ((p,w) :: P.zip vs) m x=_;unfold bindC;exact Rz (i:=i) (List.nodup_cons.mp nd).2 (by simpa using h1) (by simpa using h2) hk
def start (N:List Str) (vs:List V):St:=vs.map some ++ List.replicate (N.length - vs.length) none
def HR (CX:V0) (P:Program) (w:World) (K:aC) (mg:Str→Option Value) (base:Heap) (N:List Str) (qual:Str) (scope:Scope) (f:Addr) (cd:Value) (A:Around) (outer:List Env) (s:Shared) (H:Hp) (E:XK):Cx where
 prog:=P
 w:=w
 K:=K
 mg:=mg
 base:=base
 A:=A.deeper (envOfC qual scope s.heap.objs.size f cd)
 N:=N
 s₀:=s
 H₀:=H
 env:=envOfC qual scope s.heap.objs.size f cd
 outer:=outer
 stack:=envOfC qual scope s.heap.objs.size f cd :: outer
 ex:=[]
 calm:=true
 fn:=fun _=>true
 pn:=[]
 xe:=fun e s'=>wpAny (model P w) (A.deeper (envOfC qual scope s.heap.objs.size f cd)) (leaving (envOfC qual scope s.heap.objs.size f cd) e) (fun _ s''=>CX outer H s E e s'') (fun e' s''=>CX outer H s E e' s'') s'
theorem XD {sc:Scope}{n:Nat}{x:Str} (h:sc.names.lookup x=some .cell):∃ c,(cellsFrom n sc.names []).lookup x=some c:=by
 have q:=PySem.W.cellsFrom_some sc.names n [] (.inl h);exact Option.isSome_iff_exists.mp q
theorem Zdb {CX:V0}{P:Program}{w:World}{K:aC}{mg:Str→Option Value}{base:Heap}{N ps:List Str}{qual:Str}{scope:Scope}{f:Addr}{cd:Value}{A:Around}{outer:List Env}{s s1:Shared}{H:Hp}{E:XK}{us:List Value}{vs:List V}
  (S:aO N ps scope) (hd:A.handled=none) (e0:Zax P w K mg base A outer s H) (hl:vs.length=ps.length) (r:Vals vs us)
  (x:InCallC s s.heap.objs.size (bindL (envOfC qual scope s.heap.objs.size f cd).kindOf (ps.zip us) fun _=>none) (cellsFrom (s.heap.objs.size + 1) scope.names []) (bindC (envOfC qual scope s.heap.objs.size f cd).kindOf (ps.zip us) fun _=>none) s1):
  Inv (HR CX P w K mg base N qual scope f cd A outer s H E) [] (start N vs) H s1:=by
 have hpl:ps.length≤N.length:=by have:=congrArg List.length S.pre;rw [List.length_take] at this;omega
 obtain ⟨h1,tk,rfl,hk⟩:=x.done;have noA:∀ b:Addr,b∉(HR CX P w K mg base N qual scope f cd A outer s H E).ex:=fun b z=>absurd (show b∈([]:List Addr) from z) (by simp);refine ⟨⟨e0.mod,S.kind,rfl,rfl,Nat.le_refl _,fun y z c h1 h2=>?_,fun y hy=>?_,fun y c _ h=>?_,fun _=>hd,Around.frames_deeper e0.frames,.inr ⟨rfl,rfl⟩,fun b z=>absurd z (noA b),e0.bs,e0.bsz,fun b _ _=>noA b,fun b z=>absurd z (noA b),e0.vX,e0.frf⟩,
  rfl,e0.bare,Un.kept hk,⟨_,x.toInCall.ns,fun i y v h1 h2 h3=>?_⟩,fun y c h=>⟨_,x.cell y c h⟩,e0.hok.fresh (Nat.le_refl _),fun y c h=>?_,fun p hp=>absurd (show p∈([]:List (Addr×Obj)) from hp) (by simp),e0.hok.kept hk,?_⟩
 ·exact name_of_addr x.apart (PySem.mem_of_lookup h1) (PySem.mem_of_lookup h2)
 ·have hy:scope.names.lookup y=some .cell∨scope.names.lookup y=some .free:=hy;rcases hy with hy | hy
  ·exact XD hy
  ·exact absurd rfl (S.Zn7 _ (PySem.mem_of_lookup hy))
 ·exact Nat.le_of_lt (x.above y c (PySem.mem_of_lookup h))
 ·have hi:i < vs.length:=by
   unfold start at h2
   by_cases hi:i < vs.length
   ·exact hi
   ·rw [List.getElem?_append_right (by simpa using hi)] at h2;rw [List.getElem?_replicate] at h2;split at h2<;>cases h2
  have ha:vs[i]? =some v:=by
   unfold start at h2;rw [List.getElem?_append_left (by simpa using hi),cP] at h2;cases e:vs[i]? with
   | none=>rw [e] at h2;cases h2
   | some a=>rw [e] at h2;cases h2;rfl
  obtain ⟨u,hu,rv⟩:=r.get ha;have hp:ps[i]? =some y:=by
   rw [← S.pre,List.getElem?_take_of_lt (by omega)];exact h1
  have ndP:ps.Nodup:=by rw [← S.pre];exact S.nd.sublist (List.take_sublist _ _)
  refine ⟨u,rv,?_⟩;rcases S.par y (List.mem_of_getElem? hp) with k | k
  ·exact .inl ⟨k,Rx ndP hp hu k⟩
  ·obtain ⟨c,e⟩:=XD (n:=s.heap.objs.size + 1) k;refine .inr ⟨.inl k,c,e,?_⟩;have q:=x.cell y c e;rw [Rz ndP hp hu (by show scope.names.lookup y≠_;rw [k];decide)] at q;exact q
 ·exact e0.hok.fresh (Nat.le_of_lt (x.above y c (PySem.mem_of_lookup h)))
 ·unfold start;show _=N.length;rw [List.length_append,bD,List.length_replicate];omega
theorem Zhm {CX:V0}{P:Program}{w:World}{K:aC}{mg:Str→Option Value}{base:Heap}{k:Nat}{f:Addr}{name qual:Str}{params:Arguments}{body:List Stmt}{scope:Scope}{dV kV doc pm cdv ct oc:Value}{an od:Option Addr}
  {osl:Array (Option Value)}{N ps:List Str}{sp:Sp} (lk:K.lookup f=some ⟨oc,od,.func (PySem.W.fnOf name qual params body scope dV kV doc pm an cdv ct),osl⟩) (hcd:PySem.W.codeIn K cdv qual=true) (S:aO N ps scope)
  (len:∀ vs H Q E,sp vs H Q E→vs.length=ps.length)
  (hbody:∀ (A:Around) (outer:List Env) (s:Shared) (H:Hp) (vs:List V) (Q:VK) (E:XK),Room k (A.deeper (envOfC qual scope s.heap.objs.size f cdv))→sp vs H Q E→
   ∃ t,VR (HR CX P w K mg base N qual scope f cdv A outer s H E) body t∧t { nx:=fun _ H'=>Q .non H',rt:=Q } (start N vs) H):
  tG P w K mg base CX (k + 1) f (PySem.W.fnOf name qual params body scope dV kV doc pm an cdv ct) ps sp:=by
 refine ⟨len,fun A outer s H args us vs Q E hr e0 hb r hsp=>?_⟩;have hl:=len _ _ _ _ hsp;have KX:K.In s.heap:=e0.mod.kin.keeps fun b o e=>(e0.bs b o e).1;have lim:s.heap.NoLimit:=e0.mod.nolimit.keeps fun b o e=>(e0.bs b o e).1;have hkind:∀ y∈ps.zip us,scope.names.lookup y.1=some .local∨(scope.names.lookup y.1=some .cell∧((cellsFrom (s.heap.objs.size + 1) scope.names []).lookup y.1).isSome=true):=fun ⟨n,v⟩ hy=>by
  rcases S.par n (List.of_mem_zip hy).1 with q | q
  ·exact .inl q
  ·exact .inr ⟨q,PySem.W.cellsFrom_some _ _ _ (.inl q)⟩
 refine codeAny_call_function hr.depth (KX _ _ lk) rfl S.co S.gen rfl (PySem.W.codeRec_of KX hcd) (hb _ _ _ _ ?_);refine wpAny_newFunctionEnv_cells S.kind hkind fun env he s1 x=>?_;subst he;refine ⟨lim.keeps x.toInCall.keep,codeAny_func ?_⟩;obtain ⟨t,ht,hq⟩:=hbody A outer s H vs Q E (hr.deeper _) hsp;have I:Inv (HR CX P w K mg base N qual scope f cdv A outer s H E) [] (start N vs) H s1:=Zdb S hr.hd e0 hl r x;refine wpAny_mono (ht [] s1 (start N vs) H _ I hq) (fun fl s' hs=>?_) fun e s' hs=>hs;have fin:∀ {σ':St}{H':Hp}{v:V}{u:Value},Inv (HR CX P w K mg base N qual scope f cdv A outer s H E) [] σ' H' s'→RelV v u→Q v H'→CE outer P w H s Q u s':=
  fun {σ' H' v u} J rv q=>⟨v,H',J.os,J.bare,J.base,J.hok,rv,q⟩
 cases fl with
 | ret u=>
  obtain ⟨v,σ',H',J,rv,q⟩:=hs;exact fin J rv q
 | next=>
  obtain ⟨σ',H',J,q⟩:=hs;exact fin (v:=V.non) (u:=Value.none) J rfl q
 | brk=>
  obtain ⟨_,_,_,q⟩:=hs;exact False.elim q
 | cont=>
  obtain ⟨_,_,_,q⟩:=hs;exact False.elim q
end L2
namespace L2
open PySem PySem.Spec PyProof.Rows
section
variable {X:Cx}{x:Str}{p pos:Pos}{e:Expr}{es:List Expr}{t:TA}{id T:String}{r:List V→Hp→VK→Prop}
def JS (r:List V→Hp→VK→Prop) (t:TA):TE:=fun σ H Q=>t σ H fun vs H1=>r vs H1 Q
theorem iJ (hc:Np X (.builtin id) r) (hg:Gl X x) (hm:X.mg x=none) (hv:bootBuiltins x=some (.builtin id)) (ha:PA X (e :: es) t) (hn:x≠"__name__":=by decide) (hdb:(x == ("__debug__":Str))=false:=by decide)
  (he:starEach (e :: es) X.env=(false,eval e X.env) :: starEach es X.env:=by rfl) (hpl:(backTo pos (starEach es X.env)).any (·.1)=false:=by rfl):PE X (.Call (.Name x p) (e :: es) [] pos) (JS r t):=by
 intro pins s σ H Q I h;refine wpAny_Call_Name_kw (Ur I hg hm hv ?_ hn hdb);exact PyProof.Rows.callWith_builtin1 (iy (ha pos pins s σ H _ I h) fun us s1 ⟨vs,H1,I1,r1,q1⟩=>hc pins s1 σ H1 vs us Q I1 r1 q1) he hpl
theorem vM (hc:Np X (.type T) r) (hg:Gl X x) (hm:X.mg x=none) (hv:bootBuiltins x=some (.type T)) (ha:PA X (e :: es) t) (hn:x≠"__name__":=by decide) (hdb:(x == ("__debug__":Str))=false:=by decide)
  (he:starEach (e :: es) X.env=(false,eval e X.env) :: starEach es X.env:=by rfl) (hpl:(backTo pos (starEach es X.env)).any (·.1)=false:=by rfl):PE X (.Call (.Name x p) (e :: es) [] pos) (JS r t):=by
 intro pins s σ H Q I h;refine wpAny_Call_Name_kw (Ur I hg hm hv ?_ hn hdb);exact PyProof.Rows.callWith_type1 (iy (ha pos pins s σ H _ I h) fun us s1 ⟨vs,H1,I1,r1,q1⟩=>hc pins s1 σ H1 vs us Q I1 r1 q1) he hpl
end
end L2
namespace HT
open PySem PyProof.Rows
section
open PySem.SeqAt
open PySem.AutoSeq1 (wpAny_loadPart')
open PySem.MeetsSeq PySem.MeetsSeq2 PySem.MeetsSeq3
end
section
variable {prog:Program}{w:World}{A:Around}{E:Value→Shared→Prop}{s:Shared}
theorem Zlc {t b:Addr}{vs ws:List Value}{Q:Value→Shared→Prop} (ht:IsTup s.heap t vs.toArray) (hb:IsTup s.heap b ws.toArray) (hv:vs≠[])
  (h1:ws=[]→Q (.ref t) s) (h2:ws≠[]→Q (.ref s.heap.objs.size) { s with heap:=s.heap.push { cls:=.type "tuple",data:=.seq (vs ++ ws).toArray } })
  (hsz:vs.length + ws.length≤sizeLine):wpAny (model prog w) A (binaryOp .Add (.ref t) (.ref b)) Q E s:=by
 obtain ⟨⟨cls,dd,data,sl⟩,ho,hc,n,hd⟩:=id ht;obtain ⟨⟨cls2,dd2,data2,sl2⟩,ho2,hc2,n2,hd2⟩:=id hb;simp only at hc hd hc2 hd2;subst hc hd hc2 hd2;have e:vs.toArray ++ ws.toArray=(vs ++ ws).toArray:=by simp
 by_cases hw:ws=[]
 ·exact concat_meets ⟨_,ho,rfl⟩ ⟨_,ho2,rfl⟩ noFill_tuple_add seq_tuple_add PySem.F.slot_tuple_add PySem.F.entry_tuple_add (PySem.F.args_tuple_add_2 _ _)
   (tuple_addW1 t b vs.toArray ws.toArray n n2 dd dd2 sl sl2 (by simpa using hv) (by simp [hw])) ⟨ho,ho2,h1 hw⟩
 ·refine concat_meets ⟨_,ho,rfl⟩ ⟨_,ho2,rfl⟩ noFill_tuple_add seq_tuple_add PySem.F.slot_tuple_add PySem.F.entry_tuple_add (PySem.F.args_tuple_add_2 _ _)
   (tuple_addW2 t b vs.toArray ws.toArray n n2 dd dd2 sl sl2 (by simpa using hv) (by simpa using hw) (by rw [List.size_toArray,List.size_toArray];exact hsz)) ⟨ho,ho2,?_⟩
  rw [e];exact h2 hw
def VP (n d:Nat):Option Int→Nat
 | none=>d
 | some v=>if v < 0 then (v + (n:Int)).toNat else min v.toNat n
end
end HT
namespace L2
open PySem PySem.Spec PyProof.Rows
abbrev TO:=St→Hp→(Option Int→Hp→Prop)→Prop
def PO (X:Cx) (e:Option Expr) (t:TO):Prop:=
 ∀ (pins:List (Addr×Obj)) (s:Shared) (σ:St) (H:Hp) (Q:Option Int→Hp→Prop),Inv X pins σ H s→t σ H Q→
  wpAny (model X.prog X.w) X.A (evalPart e X.env) (fun u s'=>∃ o H',Inv X pins σ H' s'∧IsPart u o∧Q o H') X.xe s
def Zb0 (t:TE):TO:=fun σ H Q=>t σ H fun x H1=>∃ i,x=.int i∧Q (some i) H1
section
variable {X:Cx}{e:Expr}{te:TE}{lo hi:Option Expr}{tl th:TO}{pos p2:Pos}
theorem Zb6 (h:PE X e te):PO X (some e) (Zb0 te):=by
 intro pins s σ H Q I hw;rw [evalPart_some];refine iy (h pins s σ H _ I hw) fun u s1 ⟨x,H1,I1,r1,q1⟩=>?_;obtain ⟨i,rfl,q⟩:=q1;obtain ⟨t,rfl⟩:=r1;exact ⟨some i,H1,I1,.int i t,q⟩
def SlR (X:Cx) (r:V→Option Int→Option Int→Hp→VK→Prop):Prop:=
 ∀ (pins:List (Addr×Obj)) (s:Shared) (σ:St) (H:Hp) (x:V) (v vl vu:Value) (lo hi:Option Int) (sl:Addr) (Q:VK),Inv X pins σ H s→RelV x v→s.heap.IsSliceOf sl vl vu .none→IsPart vl lo→IsPart vu hi→r x lo hi H Q→
  ∃ T id,typeLookup (.type T) "__getitem__"=pure (some (.builtin id))∧s.TypeIs v T∧wpAny (model X.prog X.w) X.A (getItem v (.ref sl)) (EP X pins σ Q) X.xe s
def tSl (r:V→Option Int→Option Int→Hp→VK→Prop) (te:TE) (tl th:TO):TE:=fun σ H Q=>te σ H fun x H1=>tl σ H1 fun l H2=>th σ H2 fun u H3=>r x l u H3 Q
theorem Zfj {r:V→Option Int→Option Int→Hp→VK→Prop} (hr:SlR X r) (he:PE X e te) (hl:PO X lo tl) (hu:PO X hi th):PE X (.Subscript e (.Slice lo hi none p2) pos) (tSl r te tl th):=by
 intro pins s σ H Q I h;refine Subscript_ (iy (he pins s σ H _ I h) fun v s1 ⟨x,H1,I1,r1,q1⟩=>?_);refine wpAny_Slice (iy (hl pins s1 σ H1 _ I1 q1) fun vl s2 ⟨l,H2,I2,pl,q2⟩=>iy (hu pins s2 σ H2 _ I2 q2) fun vu s3 ⟨u,H3,I3,pu,q3⟩=>?_);rw [evalPart_none];refine wpAny_pure ?_;have I4:Inv X pins σ H3 { s3 with heap:=s3.heap.push { cls:=.type "slice",data:=.fields #[vl,vu,.none] } }:=I3.kept (t':=s3.toks) fun b ob q=>Heap.get?_push_of_some _ q;obtain ⟨T,id,hT,ht,hg⟩:=hr pins { s3 with heap:=s3.heap.push { cls:=.type "slice",data:=.fields #[vl,vu,.none] } } σ H3 x v vl vu l u s3.heap.objs.size Q I4 r1 (Heap.IsSliceOf.new ..) pl pu q3;show wpAny (model X.prog X.w) X.A (subscriptTail e (.Slice lo hi none p2) v (.ref s3.heap.objs.size)) (EP X pins σ Q) X.xe { s3 with heap:=s3.heap.push { cls:=.type "slice",data:=.fields #[vl,vu,.none] } };exact tail_any (ops:=[.ref s3.heap.objs.size,v]) ht hT hg (by with_unfolding_all rfl)
def Ze7 (xs:List V) (lo hi:Option Int):List V:=(xs.drop (HT.VP xs.length 0 lo)).take (HT.VP xs.length xs.length hi - HT.VP xs.length 0 lo)
theorem Xz (xs:List V) (lo hi:Option Int):(Ze7 xs lo hi).length≤xs.length:=by
 unfold Ze7;rw [List.length_take,List.length_drop];omega
def Zls (K:aC):R2:=fun x y H Q=>∃ a b xs ys,x=.ref a∧y=.ref b∧iQ K H a xs∧iQ K H b ys∧xs≠[]∧xs.length + ys.length≤sizeLine∧
 (ys=[]→Q (.ref a) H)∧(ys≠[]→∀ p,H p=none→Q (.ref p) (upd H p (.tup (xs ++ ys))))
theorem Vals.Um {xs:List V}{us:List Value} (r:Vals xs us):us=[]↔xs=[]:=by
 cases r with
 | nil=>simp
 | cons _ _=>simp
theorem Zjo:yt X (binaryOp .Add) (Zls X.K):=by
 intro pins s σ H x y v u Q I rx ry h;obtain ⟨a,b,xs,ys,rfl,rfl,ha,hb,hx,hz,q1,q2⟩:=h;cases rx;cases ry;obtain ⟨its,r1,p1,_⟩:=I.tuple ha;obtain ⟨its2,r2,p2,_⟩:=I.tuple hb;refine HT.Zlc p1 p2 (fun z=>hx (r1.Um.mp z)) (fun z=>⟨.ref a,H,I,rfl,q1 (r2.Um.mp z)⟩) (fun z=>?_) (by rw [← r1.length,← r2.length];exact hz);refine ⟨.ref s.heap.objs.size,_,I.laid (t':=s.toks) (o:=.tup (xs ++ ys)) (fun b ob q=>Heap.get?_push_of_some _ q) (Nat.le_refl _) ?_,rfl,q2 (fun w=>z (r2.Um.mpr w)) _ (I.hok.fresh (Nat.le_refl _))⟩;exact ⟨by rw [List.length_append];exact hz,_,r1.append r2,IsTup.new _ _⟩
end
end L2
namespace L2
open PySem PySem.Spec PyProof.Rows
def ixN (n:Nat) (i:Int):Option Nat:=if 0≤i then (if i < n then some i.toNat else none) else if -(n:Int)≤i then some (i + n).toNat else none
def Yi {α:Type} (xs:List α) (i:Int):Option α:=(ixN xs.length i).bind fun j=>xs[j]?
theorem Zbj {n:Nat}{i:Int}{j:Nat} (h:ixN n i=some j):seqIndex? i n=some j∧j < n∧-(n:Int)≤i∧i < n:=by
 unfold ixN at h
 by_cases h0:0≤i
 ·rw [if_pos h0] at h
  by_cases h1:i < n
  ·rw [if_pos h1] at h;have e:i.toNat=j:=Option.some.inj h;exact ⟨by rw [seqIndex_of h0 h1,e],by omega,by omega,h1⟩
  ·rw [if_neg h1] at h;cases h
 ·rw [if_neg h0] at h
  by_cases h1:-(n:Int)≤i
  ·rw [if_pos h1] at h;have e:(i + n).toNat=j:=Option.some.inj h;exact ⟨by rw [seqIndex_neg (by omega) h1,e],by omega,h1,by omega⟩
  ·rw [if_neg h1] at h;cases h
theorem Ve {α:Type}{xs:List α}{i:Int}{v:α} (h:Yi xs i=some v):∃ j,seqIndex? i xs.length=some j∧xs[j]? =some v∧j < xs.length∧-(xs.length:Int)≤i∧i < xs.length:=by
 unfold Yi at h;cases e:ixN xs.length i with
 | none=>rw [e] at h;cases h
 | some j=>
  rw [e] at h;obtain ⟨h1,h2,h3,h4⟩:=Zbj e;exact ⟨j,h1,h,h2,h3,h4⟩
theorem jL {α:Type}{xs:List α}{j:Nat}{v:α} (h:xs[j]? =some v):Yi xs (j:Int)=some v:=by
 have hj:j < xs.length:=(dN h).1;have e:ixN xs.length (j:Int)=some j:=by
  unfold ixN;rw [if_pos (by omega),if_pos (by omega)];simp
 unfold Yi;rw [e];exact h
def Vx (b:Expr):Prop:=∀ o i,subscripted b false o i=operate [o,i] (getItem o i)
def IxR (X:Cx) (r:R2):Prop:=
 ∀ (value slice:Expr) (pins:List (Addr×Obj)) (s:Shared) (σ:St) (H:Hp) (x y:V) (v u:Value) (Q:VK),Inv X pins σ H s→RelV x v→RelV y u→r x y H Q→
  subscripted slice false v u=operate [v,u] (getItem v u)→wpAny (model X.prog X.w) X.A (subscriptTail value slice v u) (EP X pins σ Q) X.xe s
def MtR (X:Cx) (id:String) (r:V→List V→Hp→VK→Prop):Prop:=
 ∀ (pins:List (Addr×Obj)) (s:Shared) (σ:St) (H:Hp) (x:V) (xs:List V) (v:Value) (us:List Value) (Q:VK),Inv X pins σ H s→RelV x v→Vals xs us→r x xs H Q→
  wpAny (model X.prog X.w) X.A (call (.builtin id) (v :: us)) (EP X pins σ Q) X.xe s
section
variable {X:Cx}{a b:Expr}{ta tb:TE}{pos:Pos}
theorem Zlu {r:R2} (hr:IxR X r) (ha:PE X a ta) (hb:PE X b tb) (hs:Vx b):PE X (.Subscript a b pos) (bH r ta tb):=by
 intro pins s σ H Q I h;exact Subscript_ (Zov ha hb I h fun v u s2 x y H2 I2 rx ry q=>hr a b pins s2 σ H2 x y v u Q I2 rx ry q (hs _ _))
def nM (K:aC):R2:=fun x y H Q=>∃ p xs i v,x=.ref p∧y=.int i∧dz K H p xs∧Yi xs i=some v∧Q v H
def fH (K:aC):R2:=fun x y H Q=>∃ p xs i v,x=.ref p∧y=.int i∧iQ K H p xs∧Yi xs i=some v∧Q v H
def Zf5:R2:=fun x y H Q=>∃ z i c,x=.str z∧y=.int i∧z.length≤sizeLine∧Yi z.cps.toList i=some c∧Q (.str ⟨#[c]⟩) H
theorem d7:IxR X (nM X.K):=by
 intro value slice pins s σ H x y v u Q I rx ry h hs;obtain ⟨p,xs,i,z,rfl,rfl,hq,he,q⟩:=h;cases rx;obtain ⟨t,rfl⟩:=ry;obtain ⟨its,r,pl,hz⟩:=I.list hq;obtain ⟨j,h1,h2,h3,h4,h5⟩:=Ve he;obtain ⟨w,ew,rw'⟩:=r.get h2;have hl:=r.length;have hn:=Hl;have fin:EP X pins σ Q w s:=⟨z,H,I,rw',q⟩
 by_cases h0:0≤i
 ·have hj:i.toNat=j:=by
   rw [seqIndex_of h0 h5] at h1;exact Option.some.inj h1
  exact item_listR pl.isList h0 (by omega) (by rw [hj];simpa using ew) fin hs
 ·have hj:(i + (its.toArray.size:Int)).toNat=j:=by
   rw [seqIndex_neg (by omega) h4] at h1;rw [List.size_toArray,← hl];exact Option.some.inj h1
  exact subscriptTail_builtinR (x:=w) pl.isList.typeIs slot_list_getitem.lookup
   (wpAny_getItem_list_neg (Q:=fun r s'=>r=w∧EP X pins σ Q r s') pl.isList (by omega) (by rw [List.size_toArray]<;>omega) (by omega) (by rw [hj];simpa using ew) ⟨rfl,fin⟩) hs
theorem bU:IxR X (fH X.K):=by
 intro value slice pins s σ H x y v u Q I rx ry h hs;obtain ⟨p,xs,i,z,rfl,rfl,hq,he,q⟩:=h;cases rx;obtain ⟨t,rfl⟩:=ry;obtain ⟨its,r,pl,hz⟩:=I.tuple hq;obtain ⟨j,h1,h2,h3,h4,h5⟩:=Ve he;obtain ⟨w,ew,rw'⟩:=r.get h2;have hl:=r.length;have hn:=Hl;have fin:EP X pins σ Q w s:=⟨z,H,I,rw',q⟩;exact subscriptTail_builtinR (x:=w) pl.typeIs slot_tuple_getitem.lookup
  (getItem_tuple (j:=j) (Q:=fun r s'=>r=w∧EP X pins σ Q r s') pl (by omega) (by omega) (by rw [List.size_toArray,← hl];exact h1) (by simpa using ew) ⟨rfl,fin⟩) hs
theorem Zgw:IxR X Zf5:=by
 intro value slice pins s σ H x y v u Q I rx ry h hs;obtain ⟨z,i,c,rfl,rfl,hz,he,q⟩:=h;obtain ⟨t,rfl⟩:=rx;obtain ⟨t',rfl⟩:=ry;obtain ⟨j,h1,h2,h3,h4,h5⟩:=Ve he;have hl:z.cps.toList.length=z.length:=by simp [Str.length]
 rw [hl] at h1 h4 h5;have hn:=Hl;exact tail_any (typeIs_str s z t) slot_str_getitem.lookup (getItem_str (c:=c) (by
  have e1:decide (i < -(2 ^ 63:Int))=false:=decide_eq_false (by omega);have e2:decide (i≥2 ^ 63)=false:=decide_eq_false (by omega);rw [e1,e2,Bool.or_false]) (by rw [h1];simpa using h2) ⟨.str ⟨#[c]⟩,H,I.tok _,⟨_,rfl⟩,q⟩) hs
theorem ZS (its:List Value) (n j:Nat) (u:Value):Obj.mapSeq (·.setIfInBounds j u) { cls:=.type "list",data:=.seq its.toArray n }={ cls:=.type "list",data:=.seq (its.set j u).toArray n }:=by
 simp [Obj.mapSeq]
theorem Inv.lst {pins:List (Addr×Obj)}{σ:St}{H:Hp}{s:Shared}{p:Addr}{xs:List V} (I:Inv X pins σ H s) (h:H p=some (.lst xs)):
  ∃ (its:List Value) (n:Nat),Vals xs its∧s.heap.get? p=some { cls:=.type "list",data:=.seq its.toArray n }∧xs.length≤sizeLine:=by
 obtain ⟨z,its,n,r,e⟩:=I.hok p _ h;exact ⟨its,n,r,e,z⟩
theorem Inv.Znf {pins:List (Addr×Obj)}{σ:St}{H:Hp}{s:Shared}{p:Addr}{xs ys:List V}{its its':List Value}{n n':Nat}{f:Obj→Obj} (I:Inv X pins σ H s) (h:H p=some (.lst xs))
  (ho:s.heap.get? p=some { cls:=.type "list",data:=.seq its.toArray n }) (hf:f { cls:=.type "list",data:=.seq its.toArray n }={ cls:=.type "list",data:=.seq its'.toArray n' }) (r:Vals ys its') (hz:ys.length≤sizeLine) (t:Nat):
  Inv X pins σ (upd H p (.lst ys)) { s with heap:=s.heap.update p f,toks:=t }:=by
 have e:(s.heap.update p f).get? p=some { cls:=.type "list",data:=.seq its'.toArray n' }:=by
  rw [Heap.get?_update_self f ho (by rw [hf]<;>rfl),hf]
 refine I.write (x:=p) (e:=p) (by rw [h];trivial) (.inl rfl) (fun b u hb q=>(Heap.get?_update_other _ _ (Ne.symm hb)).trans q) ⟨_,e⟩ ?_;exact ⟨hz,its',n',r,e⟩
def Bk:V→V→V→Hp→(Hp→Prop)→Prop:=fun o i v H Q=>∃ p xs k j,o=.ref p∧i=.int k∧H p=some (.lst xs)∧ixN xs.length k=some j∧Q (upd H p (.lst (xs.set j v)))
theorem set_list:Zr3 X Bk:=by
 intro pins s σ H o i v ov iv u Q I ro ri rv h;obtain ⟨p,xs,k,j,rfl,rfl,hp,hj,q⟩:=h;cases ro;obtain ⟨t,rfl⟩:=ri;obtain ⟨its,n,r,ho,hz⟩:=I.lst hp;obtain ⟨h1,h2,h3,h4⟩:=Zbj hj;have hl:=r.length;have hn:=Hl;have I':Inv X pins σ (upd H p (.lst (xs.set j v))) { s with heap:=s.heap.update p (Obj.mapSeq (·.setIfInBounds j u)) }:=
  I.Znf hp ho (ZS its n j u) (r.set rv j) (by rw [List.length_set];exact hz) s.toks
 by_cases h0:0≤k
 ·have hk:k.toNat=j:=by
   rw [seqIndex_of h0 h4] at h1;exact Option.some.inj h1
  exact PySem.W.ki_setAt ho h0 (by omega) (by rw [List.size_toArray,← hl];exact h4) (by rw [hk];exact ⟨_,I',q⟩)
 ·have hk:(k + (its.toArray.size:Int)).toNat=j:=by
   rw [seqIndex_neg (by omega) h3] at h1;rw [List.size_toArray,← hl];exact Option.some.inj h1
  exact PySem.W.ki_setBack ho (by omega) (by rw [List.size_toArray,← hl];exact h3) (by omega) (by rw [hk];exact ⟨_,I',q⟩)
theorem R8 (lo hi:Option Int) (n:Nat):(sliceBounds lo hi none n).1=((HT.VP n 0 lo:Nat):Int)∧(sliceBounds lo hi none n).2.1=((HT.VP n n hi:Nat):Int)∧(sliceBounds lo hi none n).2.2=1:=by
 refine ⟨?_,?_,rfl⟩
 ·cases lo with
  | none=>simp [sliceBounds,HT.VP]
  | some i=>
   simp only [sliceBounds,HT.VP,Option.getD_none,show (1:Int) > 0 by decide,if_true]
   by_cases h:i < 0
   ·simp only [h,if_true]<;>omega
   ·simp only [h,if_false]<;>omega
 ·cases hi with
  | none=>simp [sliceBounds,HT.VP]
  | some i=>
   simp only [sliceBounds,HT.VP,Option.getD_none,show (1:Int) > 0 by decide,if_true]
   by_cases h:i < 0
   ·simp only [h,if_true]<;>omega
   ·simp only [h,if_false]<;>omega
theorem N5 (its:List Value) (lo hi:Option Int):slicePick its.toArray lo hi none=((its.drop (HT.VP its.length 0 lo)).take (HT.VP its.length its.length hi - HT.VP its.length 0 lo)).toArray:=by
 obtain ⟨h1,h2,h3⟩:=R8 lo hi its.toArray.size;unfold slicePick;rw [h1,h2,h3];simp only [sliceRange_one,pick_run,List.size_toArray]<;>rfl
def Zpj (K:aC):V→Option Int→Option Int→Hp→VK→Prop:=fun x lo hi H Q=>∃ a xs,x=.ref a∧dz K H a xs∧∀ p,H p=none→Q (.ref p) (upd H p (.lst (Ze7 xs lo hi)))
theorem Zim:SlR X (Zpj X.K):=by
 intro pins s σ H x v vl vu lo hi sl Q I rx hs pl pu h;obtain ⟨a,xs,rfl,hx,q⟩:=h;cases rx;obtain ⟨its,r,ht,hz⟩:=I.list hx;have hlen:=r.length;refine ⟨"list",_,slot_list_getitem.lookup,ht.isList.typeIs,?_⟩;refine wpAny_getItem_list_slice ht.isList hs pl pu .none (by simp) ?_ (by rw [List.size_toArray]<;>omega);rw [N5,← hlen];refine ⟨.ref s.heap.objs.size,_,I.laid (t':=s.toks) (o:=.lst (Ze7 xs lo hi)) (fun b ob q=>Heap.get?_push_of_some _ q) (Nat.le_refl _) ?_,rfl,q _ (I.hok.fresh (Nat.le_refl _))⟩;exact ⟨Nat.le_trans (Xz xs lo hi) hz,_,0,(r.drop (HT.VP xs.length 0 lo)).take (HT.VP xs.length xs.length hi - HT.VP xs.length 0 lo),Heap.get?_push_size _ rfl⟩
def yl:V→Bool
 | .non=>true
 | .bl _=>true
 | .int _=>true
 | .str _=>true
 | _=>false
def Yh:V→V→Bool
 | .non,.non=>true
 | .bl a,.bl b=>a == b
 | .bl a,.int b=>(if a then 1 else 0) == b
 | .int a,.bl b=>a == (if b then 1 else 0)
 | .int a,.int b=>a == b
 | .str a,.str b=>a == b
 | _,_=>false
theorem Cz {A:Around}{s:Shared}{y x:V}{u v:Value} (ry:RelV y u) (rx:RelV x v) (fy:yl y=true) (fx:yl x=true):SeqAt.EqAt A s u v (Yh y x):=by
 cases y with
 | non=>
  cases ry;cases x with
  | non=>cases rx;exact SeqAt.EqAt.same _
  | bl b=>cases rx;exact SeqAt.EqAt.none_bool b
  | int b=>obtain ⟨t,rfl⟩:=rx;exact SeqAt.EqAt.none_int b t
  | str b=>obtain ⟨t,rfl⟩:=rx;exact SeqAt.EqAt.none_str b t
  | _=>exact absurd (show false=true from fx) Bool.false_ne_true
 | bl a=>
  cases ry;cases x with
  | non=>cases rx;exact SeqAt.EqAt.bool_none a
  | bl b=>cases rx;exact SeqAt.EqAt.bool_bool a b
  | int b=>obtain ⟨t,rfl⟩:=rx;exact SeqAt.EqAt.bool_int a b t
  | str b=>obtain ⟨t,rfl⟩:=rx;exact SeqAt.EqAt.bool_str a b t
  | _=>exact absurd (show false=true from fx) Bool.false_ne_true
 | int a=>
  obtain ⟨t',rfl⟩:=ry;cases x with
  | non=>cases rx;exact SeqAt.EqAt.int_none a t'
  | bl b=>cases rx;exact SeqAt.EqAt.int_bool a t' b
  | int b=>obtain ⟨t,rfl⟩:=rx;exact SeqAt.EqAt.int_int a t' b t
  | str b=>obtain ⟨t,rfl⟩:=rx;exact SeqAt.EqAt.int_str a t' b t
  | _=>exact absurd (show false=true from fx) Bool.false_ne_true
 | str a=>
  obtain ⟨t',rfl⟩:=ry;cases x with
  | non=>cases rx;exact SeqAt.EqAt.str_none a t'
  | bl b=>cases rx;exact SeqAt.EqAt.str_bool a t' b
  | int b=>obtain ⟨t,rfl⟩:=rx;exact SeqAt.EqAt.str_int a t' b t
  | str b=>obtain ⟨t,rfl⟩:=rx;exact SeqAt.EqAt.str_str a t' b t
  | _=>exact absurd (show false=true from fx) Bool.false_ne_true
 | _=>exact absurd (show false=true from fy) Bool.false_ne_true
def eqU (x:V) (u:Value):Bool:=match u with
 | .none=>Yh .non x
 | .bool b=>Yh (.bl b) x
 | .int i _=>Yh (.int i) x
 | .str z _=>Yh (.str z) x
 | _=>false
theorem Zhq {x y:V}{u:Value} (r:RelV y u) (f:yl y=true):eqU x u=Yh y x:=by
 cases y with
 | non=>cases r;rfl
 | bl b=>cases r;rfl
 | int i=>obtain ⟨t,rfl⟩:=r;rfl
 | str z=>obtain ⟨t,rfl⟩:=r;rfl
 | _=>exact absurd (show false=true from f) Bool.false_ne_true
theorem Vf {x:V}:∀ {xs:List V}{us:List Value},Vals xs us→xs.all yl=true→us.any (eqU x)=xs.any fun y=>Yh y x
 | _,_,.nil,_=>rfl
 | y :: xs,u :: us,.cons r t,f=>by
  rw [List.all_cons,Bool.and_eq_true] at f;rw [List.any_cons,List.any_cons,Zhq r f.1,Vf t f.2]
theorem Mf {A:Around}{s:Shared}{x:V}{v:Value} (rx:RelV x v) (fx:yl x=true):∀ {xs:List V}{us:List Value},Vals xs us→xs.all yl=true→∀ u∈us,SeqAt.EqAt A s u v (eqU x u)
 | _,_,.nil,_=>fun u hu=>by cases hu
 | y :: xs,u :: us,.cons r t,f=>fun u' hu=>by
  rw [List.all_cons,Bool.and_eq_true] at f;rcases List.mem_cons.mp hu with rfl | hu
  ·rw [Zhq r f.1];exact Cz r rx f.1 fx
  ·exact Mf rx fx t f.2 u' hu
def inV (x:V) (xs:List V):Bool:=xs.any fun y=>Yh y x
def rIn (K:aC) (neg:Bool):R2:=fun x y H Q=>∃ p xs,y=.ref p∧(dz K H p xs∨iQ K H p xs)∧yl x=true∧xs.all yl=true∧Q (.bl (if neg then !inV x xs else inV x xs)) H
theorem Gz:yt X (compareOp .In) (rIn X.K false):=by
 intro pins s σ H x y v u Q I rx ry h;obtain ⟨p,xs,rfl,hq,fx,fs,q⟩:=h;cases ry;rcases hq with hq | hq
 ·obtain ⟨its,r,pl,hz⟩:=I.list hq;refine SeqAt.in_listAt (eqU x) pl.isList (fun w hw=>Mf rx fx r fs w (by simpa using hw)) ⟨.bl _,H,I,rfl,?_⟩;rw [show its.toArray.any (eqU x)=its.any (eqU x) by simp,Vf r fs];exact q
 ·obtain ⟨its,r,pl,hz⟩:=I.tuple hq;refine SeqAt.in_tupleAt (eqU x) pl (fun w hw=>Mf rx fx r fs w (by simpa using hw)) ⟨.bl _,H,I,rfl,?_⟩;rw [show its.toArray.any (eqU x)=its.any (eqU x) by simp,Vf r fs];exact q
theorem Vc:Np X (.builtin "len") (fun xs H Q=>∃ p ys,xs=[.ref p]∧(dz X.K H p ys∨iQ X.K H p ys)∧Q (.int ys.length) H):=by
 intro pins s σ H xs us Q I r h;obtain ⟨p,ys,rfl,hq,q⟩:=h;obtain ⟨u,rfl,rx⟩:=vals1 r;cases rx;have hn:=Hl;rcases hq with hq | hq
 ·obtain ⟨its,r',pl,hz⟩:=I.list hq;have hlen:=r'.length;exact Calls.call_len_list pl.isList (by simp only [List.size_toArray]<;>omega) ⟨.int ys.length,H,I.tok _,⟨s.toks + 1,by rw [List.size_toArray,hlen]⟩,q⟩
 ·obtain ⟨its,r',pl,hz⟩:=I.tuple hq;have hlen:=r'.length;exact len_tuple pl (by simp only [List.size_toArray]<;>omega) ⟨.int ys.length,H,I.tok _,⟨s.toks + 1,by rw [List.size_toArray,hlen]⟩,q⟩
theorem Ey:Np X (.type "list") (fun xs H Q=>∃ p ys,xs=[.ref p]∧(dz X.K H p ys∨iQ X.K H p ys)∧∀ l,H l=none→Q (.ref l) (upd H l (.lst ys))):=by
 intro pins s σ H xs us Q I r h;obtain ⟨p,ys,rfl,hq,q⟩:=h;obtain ⟨u,rfl,rx⟩:=vals1 r;cases rx;have fin:∀ (its:List Value),Vals ys its→ys.length≤sizeLine→∀ (h':Heap) (c':Nat),(∀ b o',s.heap.get? b=some o'→h'.get? b=some o')→
   h'.get? s.heap.objs.size=some { cls:=.type "list",dict:=none,data:=.seq its.toArray c',slots:=#[] }→EP X pins σ Q (.ref s.heap.objs.size) { s with heap:=h' }:=fun its r' hz h' c' kp e=>
  ⟨.ref s.heap.objs.size,_,I.laid (t':=s.toks) kp (Nat.le_refl _) (show kZ X.prog X.w _ h' _ (.lst ys) from ⟨hz,its,c',r',e⟩),rfl,q _ (I.hok.fresh (Nat.le_refl _))⟩
 rcases hq with hq | hq
 ·obtain ⟨its,r',pl,hz⟩:=I.list hq;have hlen:=r'.length;obtain ⟨o,ho,hc,n,hd⟩:=pl.isList;exact call_list_seq p (.inl rfl) ho hc hd (fun h' c' kp e=>fin its r' hz h' c' kp e) (by simp only [List.size_toArray]<;>omega)
 ·obtain ⟨its,r',pl,hz⟩:=I.tuple hq;have hlen:=r'.length;obtain ⟨o,ho,hc,n,hd⟩:=pl;exact call_list_seq p (.inr rfl) ho hc hd (fun h' c' kp e=>fin its r' hz h' c' kp e) (by simp only [List.size_toArray]<;>omega)
def tyV (K:aC) (T:String) (x:V) (H:Hp):Prop:=match x with
 | .str _=>T="str"
 | .int _=>T="int"
 | .ref p=>(T="list"∧∃ xs,dz K H p xs)∨(T="tuple"∧∃ o,K.lookup p=some o∧o.cls=.type "tuple"∧o.dict=none)∨
   (T="dict"∧((∃ kvs,H p=some (.dK kvs))∨∃ kvs,H p=some (.dT kvs)))∨(T="set"∧∃ S n,H p=some (.set S n))
 | _=>False
theorem Zm5 {pins:List (Addr×Obj)}{σ:St}{H:Hp}{s:Shared}{T:String}{x:V}{v:Value} (I:Inv X pins σ H s) (r:RelV x v) (ty:tyV X.K T x H):
  s.TypeIs v T∧∀ a,v=.ref a→∃ ob,s.heap.get? a=some ob∧ob.dict=none:=by
 cases x with
 | str z=>
  obtain ⟨t,rfl⟩:=r;cases (show T="str" from ty);exact ⟨typeIs_str s z t,fun _ e=>nomatch e⟩
 | int i=>
  obtain ⟨t,rfl⟩:=r;cases (show T="int" from ty);exact ⟨typeIs_int s i t,fun _ e=>nomatch e⟩
 | ref p=>
  cases r;rcases ty with ⟨rfl,xs,hq⟩ | ⟨rfl,o,hk,hc,hd⟩ | ⟨rfl,hk⟩ | ⟨rfl,S,n,hk⟩
  ·obtain ⟨its,_,pl,_⟩:=I.list hq;refine ⟨pl.isList.typeIs,fun a e=>?_⟩;cases e;obtain ⟨o,n,e,c,hd,_⟩:=pl;exact ⟨o,e,hd⟩
  ·refine ⟨⟨o,I.J7 p o hk,hc⟩,fun a e=>?_⟩;cases e;exact ⟨o,I.J7 _ o hk,hd⟩
  ·have z:∃ o,s.heap.get? p=some o∧o.ExactDict:=by
    rcases hk with ⟨kvs,hk⟩ | ⟨kvs,hk⟩
    ·obtain ⟨_,_,_,_,o,_,_,e,ex,_⟩:=I.hok p _ hk;exact ⟨o,e,ex⟩
    ·obtain ⟨_,_,_,_,o,_,_,e,ex,_⟩:=I.hok p _ hk;exact ⟨o,e,ex⟩
   obtain ⟨o,e,ex⟩:=z;refine ⟨⟨o,e,ex.1⟩,fun a e2=>?_⟩;cases e2;exact ⟨o,e,ex.2.1⟩
  ·obtain ⟨o,_,_,_,e,ex,_⟩:=I.hok p _ hk;refine ⟨⟨o,e,ex.1⟩,fun a e2=>?_⟩;cases e2;exact ⟨o,e,ex.2.1⟩
 | _=>exact False.elim ty
def tBM (K:aC) (T:String) (r:V→List V→Hp→VK→Prop) (to:TE) (t:TA):TE:=fun σ H Q=>to σ H fun x H1=>tyV K T x H1∧t σ H1 fun xs H2=>r x xs H2 Q
variable {o e:Expr}{es:List Expr}{to:TE}{t:TA}{name:Str}{apos cpos:Pos}{T id:String}{r:V→List V→Hp→VK→Prop}
theorem Dz (pa:PlainAttrs T) (slot:Slot T name id) (hty:typeOf (.builtin id)=pure (.type "method_descriptor")) (hm:MtR X id r) (ho:PE X o to) (ha:PA X (e :: es) t)
  (hbase:attributeBase o name X.env (eval o X.env)=eval o X.env:=by rfl)
  (hfew:((backTo cpos (starEach (e :: es) X.env)).all (fun x=>!x.1) && (backToKw cpos (keywordEach [] X.env)).all (fun x=>x.1.isSome)
   && decide ((e :: es).length + ([]:List Keyword).length + (if ([]:List Keyword).isEmpty then 0 else 1) < 30))=true:=by rfl)
  (hline:(apos.endLine == cpos.line)=true:=by rfl) (hs:starEach (e :: es) X.env=(false,eval e X.env) :: starEach es X.env:=by rfl) (hplain:(backTo cpos (starEach es X.env)).any (·.1)=false:=by rfl):
  PE X (.Call (.Attribute o name apos) (e :: es) [] cpos) (tBM X.K T r to t):=by
 intro pins s σ H Q I h;refine wpAny_Call_method_late hbase hfew hline rfl (iy (ho pins s σ H _ I h) fun v s1 ⟨x,H1,I1,r1,ty,q1⟩=>?_);obtain ⟨h1,h2⟩:=Zm5 I1 r1 ty;refine ⟨T,id,pa,slot,hty,h1,h2,?_⟩;have hA:=ha cpos pins s1 σ H1 _ I1 q1;rw [hs] at hA ⊢;refine Calls.callWith_builtin (by show (false || (backTo cpos (starEach es X.env)).any (·.1))=false;rw [hplain]<;>rfl) (Calls.evalArgs_plain ?_);exact iy hA fun us s2 ⟨vs,H2,I2,r2,q2⟩=>hm pins s2 σ H2 x vs v us Q I2 r1 r2 q2
end
end L2
namespace L2
open PySem PySem.Spec PyProof.Rows
def MtM (X:Cx) (id:String) (r:V→List V→Hp→VK→Prop):Prop:=
 ∀ (pins:List (Addr×Obj)) (s:Shared) (σ:St) (H:Hp) (x:V) (xs:List V) (v:Value) (us:List Value) (Q:VK),Inv X pins σ H s→RelV x v→Vals xs us→r x xs H Q→
  wpAny (model X.prog X.w) X.A (call (.builtin id) (v :: us)) (EP X pins σ Q) X.xe s
theorem Vals.one:∀ {x:V}{us:List Value},Vals [x] us→∃ u,us=[u]∧RelV x u
 | _,_,.cons r .nil=>⟨_,rfl,r⟩
theorem Vals.eraseIdx:∀ {xs:List V}{us:List Value} (i:Nat),Vals xs us→Vals (xs.eraseIdx i) (us.eraseIdx i)
 | _,_,_,.nil=>.nil
 | _,_,0,.cons _ t=>t
 | _,_,i + 1,.cons r t=>.cons r (Vals.eraseIdx i t)
theorem Vals.rep {xs:List V}{us:List Value} (h:Vals xs us):∀ k:Nat,Vals (List.replicate k xs).flatten (List.replicate k us).flatten
 | 0=>.nil
 | k + 1=>by
  rw [List.replicate_succ,List.replicate_succ,List.flatten_cons,List.flatten_cons];exact Vals.append h (Vals.rep h k)
theorem Q6 {α:Type}:∀ (l:List α) (i:Nat),(l.eraseIdx i).length≤l.length
 | [],_=>Nat.le_refl _
 | _ :: _,0=>Nat.le_succ _
 | _ :: r,i + 1=>Nat.succ_le_succ (Q6 r i)
theorem foldl_rep (its:List Value):∀ (k:Nat) (acc:List Value),
  List.foldl (fun x1 x2=>x1 ++ x2) acc.toArray (List.replicate k its.toArray)=(acc ++ (List.replicate k its).flatten).toArray
 | 0,acc=>by simp
 | k + 1,acc=>by
  have e:acc.toArray ++ its.toArray=(acc ++ its).toArray:=by simp
  have e2:(acc ++ its) ++ (List.replicate k its).flatten=acc ++ (List.replicate (k + 1) its).flatten:=by
   rw [List.replicate_succ,List.flatten_cons,List.append_assoc]
  rw [← e2,← foldl_rep its k (acc ++ its),← e,List.replicate_succ,List.foldl_cons]
section
variable {X:Cx}{pins:List (Addr×Obj)}{σ:St}{H:Hp}{s:Shared}{l b:Addr}{xs ys zs:List V}
theorem Inv.Zng {its its':List Value}{n:Nat}{f:Array Value→Array Value}{t':Nat} (I:Inv X pins σ H s) (hH:H l=some (.lst xs))
  (e:s.heap.get? l=some { cls:=.type "list",data:=.seq its.toArray n }) (hf:f its.toArray=its'.toArray) (hv:Vals ys its') (hz:ys.length≤sizeLine):
  Inv X pins σ (upd H l (.lst ys)) { s with heap:=s.heap.update l (Obj.mapSeq f),toks:=t' }:=by
 have q:=PySem.IsL.update e f;rw [hf] at q;refine I.write (x:=l) (e:=l) (by rw [hH];exact trivial) (.inl rfl) (fun b' u hb hu=>(Heap.get?_update_other s.heap (Obj.mapSeq f) (Ne.symm hb)).trans hu) ⟨_,q⟩ ?_;exact ⟨hz,its',_,hv,q⟩
theorem Inv.Zpv {its:List Value}{t':Nat} (I:Inv X pins σ H s) (hv:Vals ys its) (hz:ys.length≤sizeLine):
  Inv X pins σ (upd H s.heap.objs.size (.lst ys)) { s with heap:=s.heap.push { cls:=.type "list",data:=.seq its.toArray },toks:=t' }:=
 I.laid (fun _ _ q=>Heap.get?_push_of_some _ q) (Nat.le_refl _) ⟨hz,its,0,hv,Heap.get?_push_size _ rfl⟩
theorem Inv.fresh (I:Inv X pins σ H s):H s.heap.objs.size=none:=I.hok.fresh (Nat.le_refl _)
theorem Inv.Z0 (I:Inv X pins σ H s) (hH:H l=some (.lst xs)):xs.length≤sizeLine∧∃ (its:List Value) (n:Nat),Vals xs its∧xs.length=its.length∧s.heap.get? l=some { cls:=.type "list",data:=.seq its.toArray n }:=by
 obtain ⟨z,its,n,r,e⟩:=I.hok l _ hH;exact ⟨z,its,n,r,r.length,e⟩
theorem WW {n:Nat} (h:n≤sizeLine):Builtin.List.listTooLong n=false:=by
 unfold Builtin.List.listTooLong;exact decide_eq_false (by omega)
end
section
variable {X:Cx}
def Ae:V→List V→Hp→VK→Prop:=fun x vs H Q=>∃ l xs y,x=.ref l∧vs=[y]∧H l=some (.lst xs)∧xs.length < sizeLine∧Q .non (upd H l (.lst (xs ++ [y])))
theorem rT:MtM X "list.append" Ae:=by
 intro pins s σ H x vs v us Q I rx rv h;obtain ⟨l,xs,y,rfl,rfl,hH,hz,q⟩:=h;cases rx;obtain ⟨u,rfl,ru⟩:=rv.one;obtain ⟨z,its,n,r,hl,e⟩:=I.Z0 hH;refine call_meets F.slot_list_append ⟨_,e,rfl⟩ F.entry_list_append (F.args_list_append_2 _ _) (PySem.list_append l its.toArray n u (by rw [List.size_toArray];omega)) ⟨e,?_⟩;refine ⟨.non,_,I.Zng (its':=its ++ [u]) hH e (by simp) (r.append (.cons ru .nil)) ?_,rfl,q⟩;rw [List.length_append,List.length_singleton];omega
def JV:V→List V→Hp→VK→Prop:=fun x vs H Q=>∃ l b xs zs,x=.ref l∧vs=[.ref b]∧H l=some (.lst xs)∧H b=some (.lst zs)∧xs.length + zs.length≤sizeLine∧Q .non (upd H l (.lst (xs ++ zs)))
theorem GR:MtM X "list.extend" JV:=by
 intro pins s σ H x vs v us Q I rx rv h;obtain ⟨l,b,xs,zs,rfl,rfl,hH,hB,hz,q⟩:=h;cases rx;obtain ⟨u,rfl,ru⟩:=rv.one;cases ru;obtain ⟨z,its,n,r,hl,e⟩:=I.Z0 hH;obtain ⟨z2,its2,n2,r2,hl2,e2⟩:=I.Z0 hB;have hsz:its.toArray.size + its2.toArray.size≤sizeLine:=by rw [List.size_toArray,List.size_toArray];omega
 have Zh8:¬ (!its.toArray.isEmpty && Builtin.List.listTooLong (its.toArray.size + its2.toArray.size))=true:=by
  rw [WW hsz,Bool.and_false];exact Bool.false_ne_true
 refine call_meets F.slot_list_extend ⟨_,e,rfl⟩ F.entry_list_extend (F.args_list_extend_2 _ _)
  (AutoSeq1.list_extend_list_list_0 l its.toArray n b its2.toArray n2 Zh8 (by rw [List.size_toArray];omega) (by omega)) ⟨e,e2,?_⟩
 refine ⟨.non,_,I.Zng (its':=its ++ its2) hH e (by simp) (r.append r2) ?_,rfl,q⟩;rw [List.length_append];omega
def Zf4:V→List V→Hp→VK→Prop:=fun x vs H Q=>∃ l xs i k y,x=.ref l∧vs=[.int i]∧H l=some (.lst xs)∧-(2 ^ 63)≤i∧i < 2 ^ 63∧seqIndex? i xs.length=some k∧xs[k]? =some y∧Q y (upd H l (.lst (xs.eraseIdx k)))
theorem Zg5:MtM X "list.pop" Zf4:=by
 intro pins s σ H x vs v us Q I rx rv h;obtain ⟨l,xs,i,k,y,rfl,rfl,hH,h1,h2,hk,hy,q⟩:=h;cases rx;obtain ⟨u,rfl,ru⟩:=rv.one;obtain ⟨t,rfl⟩:=ru;obtain ⟨z,its,n,r,hl,e⟩:=I.Z0 hH;obtain ⟨w,hw,rw'⟩:=r.get hy;refine call_meets F.slot_list_pop ⟨_,e,rfl⟩ F.entry_list_pop (F.args_list_pop_2 _ _)
  (MeetsSeq.list_pop_at l its.toArray n i t k w (fitsIndex_both h1 h2) (by rw [List.size_toArray,← hl];exact hk) (by rw [← Array.getElem?_toList];exact hw) (by rw [List.size_toArray];omega)) ⟨e,?_⟩
 refine ⟨y,_,I.Zng (its':=its.eraseIdx k) hH e ?_ (r.eraseIdx k) ?_,rw',q⟩
 ·show its.toArray.eraseIdxIfInBounds k=(its.eraseIdx k).toArray;rw [List.eraseIdxIfInBounds_toArray]
 ·have:=Q6 xs k;omega
def vK:R2:=fun x y H Q=>∃ l b xs zs,x=.ref l∧y=.ref b∧H l=some (.lst xs)∧H b=some (.lst zs)∧xs.length + zs.length≤sizeLine∧∀ p,H p=none→Q (.ref p) (upd H p (.lst (xs ++ zs)))
theorem p8:yt X (binaryOp .Add) vK:=by
 intro pins s σ H x y v u Q I rx ry h;obtain ⟨l,b,xs,zs,rfl,rfl,hH,hB,hz,q⟩:=h;cases rx;cases ry;obtain ⟨z,its,n,r,hl,e⟩:=I.Z0 hH;obtain ⟨z2,its2,n2,r2,hl2,e2⟩:=I.Z0 hB;refine PySem.P.add_list e e2 ?_ (by rw [List.size_toArray,List.size_toArray];omega);have ea:its.toArray ++ its2.toArray=(its ++ its2).toArray:=by simp
 rw [ea];exact ⟨.ref _,_,I.Zpv (t':=s.toks) (r.append r2) (by rw [List.length_append];omega),rfl,q _ I.fresh⟩
def Wj:R2:=fun x y H Q=>∃ l k xs,x=.ref l∧y=.int k∧H l=some (.lst xs)∧-(2 ^ 63)≤k∧k < 2 ^ 63∧xs.length * k.toNat≤sizeLine∧
 ∀ p,H p=none→Q (.ref p) (upd H p (.lst (List.replicate k.toNat xs).flatten))
theorem len_rep {α:Type} (xs:List α) (k:Nat):(List.replicate k xs).flatten.length=k * xs.length:=by
 induction k with
 | zero=>simp
 | succ k ih=>rw [List.replicate_succ,List.flatten_cons,List.length_append,ih,Nat.succ_mul,Nat.add_comm]
theorem Li:yt X (binaryOp .Mult) Wj:=by
 intro pins s σ H x y v u Q I rx ry h;obtain ⟨l,k,xs,rfl,rfl,hH,h1,h2,hz,q⟩:=h;cases rx;obtain ⟨t,rfl⟩:=ry;obtain ⟨z,its,n,r,hl,e⟩:=I.Z0 hH;have hlen:its.toArray.size * k.toNat≤sizeLine:=by rw [List.size_toArray,← hl];exact hz
 have hcap:¬ its.toArray.size * k.toNat > (2 ^ 63 - 1) / 8:=by
  have:(sizeLine:Nat)≤(2 ^ 63 - 1) / 8:=by decide
  omega
 have hfit:¬ (!Builtin.List.listFitsIndex k)=true:=by
  rw [fitsIndex_both h1 h2];exact Bool.false_ne_true
 have Zh8:¬ Builtin.List.listTooLong (its.toArray.size * k.toNat)=true:=by
  rw [WW hlen];exact Bool.false_ne_true
 have hnew:List.foldl (fun x1 x2=>x1 ++ x2) #[] (List.replicate (if its.toArray.isEmpty=true then 0 else k.toNat) its.toArray)=(List.replicate k.toNat its).flatten.toArray:=by
  have f0:∀ m:Nat,List.foldl (fun x1 x2=>x1 ++ x2) #[] (List.replicate m its.toArray)=(List.replicate m its).flatten.toArray:=fun m=>by
   have:=foldl_rep its m [];rw [List.nil_append] at this;exact this
  rw [f0];cases its with
  | nil=>simp
  | cons a r'=>rw [if_neg (by simp)]
 refine wpAny_binaryOp_repeat_ref (T:="list") (U:="int") (by decide) ⟨_,e,rfl⟩ (fun s'=>typeIs_int s' k t) noFill_list_mul F.fills_int_mul F.slot_int_rmul repeat_list F.slot_int_index.lookup
  (call_meets F.slot_int_rmul (typeIs_int s k t) F.entry_int_rmul (F.args_int_rmul_2 _ _) (int___rmul___int_list k t l its.toArray n)
   ⟨e,rfl,⟨_,e,rfl⟩,call_meets F.slot_list_mul ⟨_,e,rfl⟩ F.entry_list_mul (F.args_list_mul_2 _ _) (AutoListH.list___mul___list_int_3 l its.toArray n k t hfit hcap Zh8) ⟨e,?_⟩⟩)
 rw [hnew];exact ⟨.ref _,_,I.Zpv (t':=s.toks) (r.rep k.toNat) (by rw [len_rep,Nat.mul_comm];exact hz),rfl,q _ I.fresh⟩
end
section
variable {prog:Program}{w:World}{A:Around}{E:Value→Shared→Prop}{s:Shared}
end
section
variable {X:Cx}
end
end L2
namespace Att
open PySem PySem.W PySem.Calls PyProof.Rows
theorem JM {P:Params}{h:Heap}:∀ (ns:List Int) (vs:List Value),WellAll P h vs (ns.map WData.int)→IntsAre vs ns:=by
 intro ns
 induction ns with
 | nil=>
  intro vs w;rw [List.map_nil] at w;cases w;exact .nil
 | cons n ns ih=>
  intro vs w;rw [List.map_cons] at w;cases w with
  | cons a b=>
   cases a;exact .cons _ _ (ih _ b)
theorem Zc6 {l:OpenLaw}{n:Nat} (hn:l.most=some n) {P:Params}{h:Heap}{args:List WData}{vals:List Value}
  (hpre:l.row.toRowW.claim.pre args=true) (hwl:WellAll P h vals args):
  ∃ a vs ns,vals=[Value.ref a]∧args=[WData.list (ns.map WData.int)]∧h.get? a=some { cls:=.type "list",data:=.seq vs.toArray }∧IntsAre vs ns∧ns.length≤n:=by
 have hsh:WShape.hasAll [] args [.list .int]=true:=(pre_splitW hpre).1;have hc:l.pre.holds [] { args:=args }=true:=(pre_splitW hpre).2;obtain ⟨d,r,rfl,h1,h2⟩:=hasAllW_cons hsh;obtain rfl:=hasAllW_nil h2;obtain ⟨xs,rfl,h3⟩:=hasW_list h1;obtain ⟨ns,rfl⟩:=items_int h3;have hlen:ns.length≤n:=by
  unfold OpenLaw.pre at hc;have h4:(WTm.not (.lt (.lit (.int (n:Int))) (.len (.arg 0)))).holds [] { args:=[.list (ns.map .int)] }=true:=by
   have h4:=(holds_andW hc).1;rw [hn] at h4;exact h4
  have h5:=condW_of h4 (w_not (w_lt w_lit (w_len_list (w_arg rfl))));rw [bD] at h5;refine Nat.le_of_not_lt fun q=>?_;have q':(n:Int) < ((ns.length:Nat):Int):=by omega
  first
   | (rw [decide_eq_true q'] at h5;exact absurd h5 (by decide))
   | (simp at h5;omega)
 cases hwl with
 | cons w1 w2=>
  cases w2;cases w1 with
  | list ho hall=>exact ⟨_,_,ns,rfl,rfl,ho,JM ns _ hall,hlen⟩
theorem Zce (l:OpenLaw) (args:List WData):l.row.toRowW.claim.post args (.bool true) args=true:=
 postW_of (r:=l.row.toRowW) (X:=(true == true))
  (show WShape.has [] (.bool true) .bool=true by first | rfl | decide | simp [WShape.has,WShape.arms,WShape.armsAll])
  (show (WTm.eq .res (.lit (.bool true))).value [] { args:=args,res:=some (.bool true),after:=args }=some (.bool (true == true)) from w_eq_bool (w_res rfl) w_lit) rfl
theorem XJ {l:OpenLaw}{n:Nat}{q:Program}{loose:List Str}{XP:(Str→Option Value)→Heap→Prop}{YP:World→Heap→Prop}{d:DefRec}
  (hn:l.most=some n) (hdf:d.params.defaults=[])
  (call:∀ (w:World) (s₀ s₁:Shared) (mg mb:Str→Option Value) (fa:Addr) (o:Obj) (pm cd doc:Value) (a:Addr) (vs:List Value) (ns:List Int),
   Ground q loose [] XP w s₀ mg mb s₁.heap→YP w s₁.heap→
   s₁.heap.get? fa=some o→o.data=.func (docDef d.name d.params d.body d.scope pm cd doc)→s₁.heap.CodeRec cd d.name→mg d.name=some (.ref fa)→
   s₁.heap.get? a=some { cls:=.type "list",data:=.seq vs.toArray }→IntsAre vs ns→ns.length≤n→s₁.gens=#[]→
   codeAny (model l.prog w) callerA (.call (.ref fa) ⟨[.ref a],[]⟩) (fun r s'=>r=.ok (.ret (.bool true))∧OldK s₁.heap s'.heap∧s'.os=s₁.os∧AllBare s'.gens) s₁):
  WalkO q loose XP YP l.row.toRowW d [] (fun f vs=>PySem.call f vs):=by
 intro w s₀ s₁ mg mb G Y fa o pm cd doc dV kV ho hd hcd hD hmg hg args vals as hpre hlay hrd hwl hlo;obtain rfl:dV=.none:=Dflts.none hD hdf;obtain rfl:kV=.none:=Dflts.noKw hD;obtain ⟨a,vs,ns,rfl,rfl,hobj,hints,hlen⟩:=Zc6 hn hpre hwl;refine enter_call (codeAny_mono (call w s₀ s₁ mg mb fa o pm cd doc a vs ns G Y ho (fd_plain hd) hcd hmg hobj hints hlen hg) fun r s' hq=>?_);obtain ⟨rfl,h2,h3,h4⟩:=hq;exact ⟨.inl ⟨.bool true,.bool true,[],rfl,fun _=>rfl,.bool true,Zce l _,fun _=>⟨List.Pairwise.nil,fun _ hm=>(nomatch hm)⟩⟩,h2,h3,h4⟩
section
variable {prog:Program}{w:World}{A:Around}{E:Value→Shared→Prop}{s:Shared}{K:Frag}
end
end Att
namespace L2
open PySem PySem.Spec PyProof.Rows
theorem Qm:∀ {vs:List Value}{ns:List Int},IntsAre vs ns→Vals (ns.map V.int) vs
 | _,_,.nil=>.nil
 | _,_,.cons n t h=>.cons ⟨t,rfl⟩ (Qm h)
def Only (H:Hp):Prop:=∀ b,H b=none∨∃ o xs,H b=some (.Bc o (.lst xs))
theorem Zgt {P:Program}{w:World}{K:aC}{mg mb:Str→Option Value}{CX:V0}{k:Nat}{fa a:Addr}{fd:FuncData}{x:Str}{sp:Sp}{s₁:Shared}{vs:List Value}{ns:List Int}
  (KX:K.In s₁.heap) (hns:s₁.heap.Ns mainGlobals mg) (hb:s₁.heap.Ns builtinsNs mb) (hbb:∀ x:Str,x≠"__name__"→mb x=bootBuiltins x) (hlim:s₁.heap.NoLimit) (hg:s₁.gens=#[])
  (ha:s₁.heap.get? a=some { cls:=.type "list",data:=.seq vs.toArray }) (hi:IntsAre vs ns) (hl:ns.length≤sizeLine) (hr:Room k callerA)
  (F:∀ base:Heap,K.In base→base.Ns mainGlobals mg→tG P w K mg base CX k fa fd [x] sp) (hbind:∀ (s:Shared) (u:Value),BindsTo s fd ⟨[u],[]⟩ [(x,u)])
  (hsp:∀ H:Hp,Only H→dz K H a (ns.map V.int)→sp [.ref a] H (fun v _=>v=.bl true) fun _ _ _=>False)
  (hCX:∀ H e s',CX [] H s₁ (fun _ _ _=>False) e s'→False):
  codeAny (model P w) callerA (.call (.ref fa) ⟨[.ref a],[]⟩) (fun r s'=>r=.ok (.ret (.bool true))∧OldK s₁.heap s'.heap∧s'.os=s₁.os∧AllBare s'.gens) s₁:=by
 have rv:=Qm hi;have lenV:=hi.length;have core:∀ H:Hp,Only H→dz K H a (ns.map V.int)→yx P w H s₁.heap→(∀ b,H b≠none→b=a)→(H a≠none→K.lookup a=none)→
   codeAny (model P w) callerA (.call (.ref fa) ⟨[.ref a],[]⟩) (fun r s'=>r=.ok (.ret (.bool true))∧OldK s₁.heap s'.heap∧s'.os=s₁.os∧AllBare s'.gens) s₁:=by
  intro H hO hS hok hA hK;have Zbs:∀ {b:Addr}{o:Obj},s₁.heap.get? b=some o→H b=none→(Uw s₁.heap H).get? b=some o:=fun e n=>Zh9 e n;have noA:∀ {b:Addr}{o:Obj}{es:Array DictEntry}{ep:Nat},s₁.heap.get? b=some o→o.data=.dict es ep→H b=none:=fun {b o es ep} e d=>by
   cases q:H b with
   | none=>rfl
   | some u=>
    have e':b=a:=hA b (by rw [q];simp);subst e';rw [ha] at e;cases e;have d':Data.seq vs.toArray _=Data.dict es ep:=d;cases d'
  have nsK:∀ {b:Addr}{m:Str→Option Value},s₁.heap.Ns b m→(Uw s₁.heap H).Ns b m:=fun {b m} ⟨o,es,ep,e,d,r⟩=>⟨o,es,ep,Zbs e (noA e d),d,r⟩;have hKb:K.In (Uw s₁.heap H):=fun b o e=>Zbs (KX b o e) (by
   cases q:H b with
   | none=>rfl
   | some u=>
    have e':b=a:=hA b (by rw [q];simp);subst e';rw [hK (by rw [q];simp)] at e;cases e)
  have hM:Mod K mg (Uw s₁.heap H):=⟨hKb,nsK hns,⟨mb,nsK hb,hbb⟩,let ⟨mc,h1,h2⟩:=hlim;⟨mc,nsK h1,h2⟩⟩;have e0:Zax P w K mg (Uw s₁.heap H) callerA [] s₁ H:=⟨rfl,hM,fun b o e=>Zjx e,Nat.le_of_eq (Zdq _ _),trivial,fun b hb=>absurd (show b∈([]:List Addr) from hb) (by simp),hok,.of_eq hg⟩;refine codeAny_mono ((F _ hKb (nsK hns)).run callerA [] s₁ H ⟨[.ref a],[]⟩ [.ref a] [.ref a] _ _ hr e0 (hbind s₁ (.ref a)) (.cons rfl .nil) (hsp H hO hS)) fun r s' h=>?_;cases r with
  | error e=>exact (hCX H e s' h).elim
  | ok fl=>
   cases fl with
   | next=>exact False.elim h
   | brk=>exact False.elim h
   | cont=>exact False.elim h
   | ret u=>
    obtain ⟨v,H',os,bare,un,hok',r',q⟩:=h;have q':v=.bl true:=q;subst q';obtain rfl:u=Value.bool true:=r';refine ⟨rfl,OldK.of_keep fun b o e=>?_,os,bare⟩;cases q:H b with
    | none=>exact un.keep b o e q (by intro z;exact absurd (show b∈([]:List Addr) from z) (by simp)) (by simp)
    | some u=>
     rcases hO b with z | ⟨ob,xs,z⟩
     ·rw [q] at z;cases z
     ·have z2:=un.Cy b ob _ z;obtain ⟨e1,_⟩:=hok b _ z;obtain ⟨e2,_⟩:=hok' b _ z2;rw [e] at e1;cases e1;exact e2
 cases hk:K.lookup a with
 | some o=>
  have e:=KX a o hk;rw [ha] at e;cases e;refine core (fun _=>none) (fun _=>.inl rfl) (.inr ⟨_,vs.toArray,_,hk,rfl,rfl,rfl,by rw [List.size_toArray,lenV];exact hl,by simpa using rv⟩) (fun b u z=>by have z':(none:Option HO)=some u:=z;cases z') (fun b z=>absurd rfl z) fun z=>absurd rfl z
 | none=>
  refine core (fun b=>if b=a then some (.Bc { cls:=.type "list",data:=.seq vs.toArray } (.lst (ns.map V.int))) else none) (fun b=>?_) (.inl (.inr ⟨{ cls:=.type "list",data:=.seq vs.toArray },if_pos rfl⟩)) (fun b u z=>?_) (fun b z=>?_) fun _=>hk
  ·by_cases hb:b=a
   ·exact .inr ⟨_,_,if_pos hb⟩
   ·exact .inl (if_neg hb)
  ·by_cases hb:b=a
   ·have z':=(if_pos hb).symm.trans z;cases z';subst hb;exact ⟨ha,by rw [bD];exact hl,vs,_,rv,ha⟩
   ·have z':=(if_neg hb).symm.trans z;cases z'
  ·by_cases hb:b=a
   ·exact hb
   ·exact absurd (if_neg hb) z
end L2
namespace L2
open PySem PySem.Spec PyProof.Rows
theorem Zie {l:PySem.W.OpenLaw}{n k:Nat}{q:Program}{loose:List Str}{XP:(Str→Option Value)→Heap→Prop}{YP:World→Heap→Prop}{d:DefRec}{K:Params→aC}{CX:World→V0}{sp:World→Sp}{x:Str}
  (hn:l.most=some n) (hn2:n≤sizeLine) (hdf:d.params.defaults=[]) (hr:Room k callerA)
  (hY:∀ (w:World) (h:Heap),YP w h→(K w.params).In h)
  (F:∀ (w:World) (mg:Str→Option Value) (fa:Addr) (h:Heap),(K w.params).In h→h.Ns mainGlobals mg→mg d.name=some (.ref fa)→
   ∃ fd:FuncData,(∀ (s:Shared) (u:Value),BindsTo s fd ⟨[u],[]⟩ [(x,u)])∧
    ∀ base:Heap,(K w.params).In base→base.Ns mainGlobals mg→tG l.prog w (K w.params) mg base (CX w) k fa fd [x] (sp w))
  (hsp:∀ (w:World) (H:Hp) (a:Addr) (ns:List Int),ns.length≤n→Only H→dz (K w.params) H a (ns.map V.int)→sp w [.ref a] H (fun v _=>v=.bl true) fun _ _ _=>False)
  (hCX:∀ (w:World) (H:Hp) (s:Shared) (e:Value) (s':Shared),CX w [] H s (fun _ _ _=>False) e s'→False):
  PySem.W.WalkO q loose XP YP l.row.toRowW d [] (fun f vs=>PySem.call f vs):=by
 refine Att.XJ hn hdf fun w s₀ s₁ mg mb fa o pm cd doc a vs ns G Y ho hd hcd hmg hobj hints hlen hg=>?_;have KX:=hY w _ Y;obtain ⟨fd,hb,hF⟩:=F w mg fa _ KX G.T.g hmg;exact Zgt KX G.T.g G.T.b G.T.builtins G.T.nolimit hg hobj hints (Nat.le_trans hlen hn2) hr hF hb (fun H hO hS=>hsp w H a ns hlen hO hS) fun H e s'=>hCX w H s₁ e s'
end L2
namespace L2
open PySem PySem.Spec PyProof.Rows
def inClass (s:Stmt) (j:Nat):Stmt:=match s with
 | .ClassDef _ _ _ body _ _ _ _ _ _ _=>body.getD j (.Pass ⟨0,0,0,0⟩)
 | _=>.Pass ⟨0,0,0,0⟩
def lV (s:Stmt):Arguments:=match s with
 | .FunctionDef _ a _ _ _ _ _ _ _ _=>a
 | _=>{ posonlyargs:=[],args:=[],vararg:=none,kwonlyargs:=[],kw_defaults:=[],kwarg:=none,defaults:=[] }
def jz (s:Stmt):List Stmt:=match s with
 | .FunctionDef _ _ b _ _ _ _ _ _ _=>b
 | _=>[]
def aF (s:Stmt):Scope:=match s with
 | .FunctionDef _ _ _ _ _ _ sc _ _ _=>sc
 | _=>{ kind:=.function,names:=[],isGenerator:=false,isCoroutine:=false }
abbrev E0:XK:=fun _ _ _=>False
structure jA (K:aC) (x qual:Str) (st:Stmt) (f:Addr) (fd:FuncData):Prop where
 ex:∃ (oc:Value) (od:Option Addr) (kV doc pm:Value) (an:Option Addr) (cdv ct:Value) (osl:Array (Option Value)),
  fd=PySem.W.fnOf x qual (lV st) (jz st) (aF st) .none kV doc pm an cdv ct∧K.lookup f=some ⟨oc,od,.func fd,osl⟩∧PySem.W.codeIn K cdv qual=true
 kp:PySem.W.keepIn K (.ref f)=true
section
variable {P:Program}{w:World}{K:aC}{mg:Str→Option Value}{base:Heap}
theorem jA.binds {x qual:Str}{st:Stmt}{f:Addr}{fd:FuncData}{ps:List Str} (F:jA K x qual st f fd)
  (h:∀ (kV doc pm:Value) (an:Option Addr) (cdv ct:Value) (us:List Value),us.length=ps.length→bindArgs (PySem.W.fnOf x qual (lV st) (jz st) (aF st) .none kV doc pm an cdv ct) ⟨us,[]⟩=pure (ps.zip us)):Binds K fd ps []:=by
 obtain ⟨oc,od,kV,doc,pm,an,cdv,ct,osl,rfl,lk,hcd⟩:=F.ex;exact .all (h kV doc pm an cdv ct)
theorem Zhj {x qual:Str}{st:Stmt}{f:Addr}{oc:Value}{od an:Option Addr}{osl:Array (Option Value)}{kV doc pm cdv ct:Value} (l:K.lookup f=some ⟨oc,od,.func (PySem.W.fnOf x qual (lV st) (jz st) (aF st) .none kV doc pm an cdv ct),osl⟩)
  (c:PySem.W.codeIn K cdv qual=true) (k:PySem.W.keepIn K (.ref f)=true):jA K x qual st f (PySem.W.fnOf x qual (lV st) (jz st) (aF st) .none kV doc pm an cdv ct):=⟨⟨oc,od,kV,doc,pm,an,cdv,ct,osl,rfl,l,c⟩,k⟩
end
theorem Bs {A:Around}{k:Nat} (hr:Room k A):A.units + 1 < cLine:=Nat.lt_of_le_of_lt (Nat.add_le_add_left (by decide:1≤64) _) hr.units
section
variable {X:Cx}
theorem pv (i:Nat) {x:Str}{pos:Pos} (hN:X.N[i]? =some x:=by rfl) (hv:Vis X.env.scope x:=by first | exact Or.inl rfl | exact Or.inr (Or.inl rfl) | exact Or.inr (Or.inr rfl)) (hd:(x == ("__debug__":Str))=false:=by decide)
  (hcd:(x == ("__classdict__":Str))=false:=by decide):PE X (.Name x pos) (ak i):=Zfh hN hv hd hcd
end
theorem Zgx {A B:Prop} (h:B):if false=true then A else B:=by
 rw [if_neg Bool.false_ne_true];exact h
theorem Xe {A B:Prop} (h:A):if true=true then A else B:=by
 rw [if_pos rfl];exact h
theorem Znp {c A B:Prop} [Decidable c] (h1:c→A) (h2:¬ c→B):if c then A else B:=by
 by_cases h:c
 ·rw [if_pos h];exact h1 h
 ·rw [if_neg h];exact h2 h
def aX (H H':Hp):Prop:=∀ b o,H b=some o→H' b=some o
theorem aX.refl (H:Hp):aX H H:=fun _ _ h=>h
theorem aX.trans {H H1 H2:Hp} (a:aX H H1) (b:aX H1 H2):aX H H2:=fun c o h=>b c o (a c o h)
theorem aX.free {H H':Hp} (e:aX H H') {l:Addr} (h:H' l=Option.none):H l=Option.none:=by
 cases q:H l with
 | none=>rfl
 | some o=>
  rw [e l o q] at h;cases h
theorem aX.seq {K:aC}{H H':Hp}{a:Addr}{xs:List V} (e:aX H H') (h:dz K H a xs):dz K H' a xs:=by
 rcases h with (h | ⟨o,h⟩) | h
 ·exact .inl (.inl (e _ _ h))
 ·exact .inl (.inr ⟨o,e _ _ h⟩)
 ·exact .inr h
end L2
namespace L2
open PySem PySem.Spec PyProof.Rows
end L2
namespace L2
open PySem PySem.Spec PyProof.Rows
end L2
namespace L2
open PySem PySem.Spec PyProof.Rows
section
variable {X:Cx}{pins:List (Addr×Obj)}{σ:List (Option V)}{H H':Hp}{s:Shared}{h':Heap}
end
end L2
namespace L2
open PySem PySem.Spec PyProof.Rows
section
variable {X:Cx}
variable {a b:Expr}{ta tb:TE}{pos:Pos}
variable {tA tB':TT}{rest:List Expr}
end
end L2
namespace L2
open PySem PySem.Spec PyProof.Rows
end L2
namespace L2
open PySem PySem.Spec PyProof.Rows
end L2
namespace L2
open PySem PySem.Spec PyProof.Rows
section
variable {X:Cx}{a b c:Expr}{ta tb tc:TE}{pos:Pos}
end
end L2
namespace L2
open PySem PySem.Spec PyProof.Rows
section
variable {prog:Program}{w:World}{A:Around}{E:Value→Shared→Prop}{s:Shared}{K:aC}{x dx C f:Addr}{mA:Str→Option Value}{name:Str}{v:Value}
end
section
variable {X:Cx}{pins:List (Addr×Obj)}{σ:St}{H:Hp}{s:Shared}{a C dx:Addr}{fs:List (Str×V)}{f:Str}{v:V}{A:Around}{E:Value→Shared→Prop}
end
end L2
namespace L2
open PySem PySem.Spec PyProof.Rows
section
variable {X:Cx}{CX:V0}{k:Nat}{f C:Addr}{fd:FuncData}{ps:List Str}{sp:Sp}{tH:List V}{ds:List Value}{E:XK}{x m:Str}{p pos apos:Pos}{e o:Expr}{es:List Expr}{ta:TE}{t:TA}
end
end L2
namespace L2
open PySem PySem.Spec PyProof.Rows
section
variable {X:Cx}{x:Str}{p pos:Pos}{e:Expr}{es:List Expr}{t:TA}{id T:String}{r:List V→Hp→VK→Prop}
end
end L2
namespace L2
open PySem PySem.Spec PyProof.Rows
section
variable {κ:Type} [DecidableEq κ]
def lX (kvs:List (κ×V)) (k:κ):Option V:=(kvs.find? fun kv=>decide (kv.1=k)).map (·.2)
def putK (kvs:List (κ×V)) (k:κ) (v:V):List (κ×V):=
 if (kvs.any fun kv=>decide (kv.1=k))=true then kvs.map (fun kv=>if kv.1=k then (kv.1,v) else kv) else kvs ++ [(k,v)]
theorem lM {p:κ×V}{r:List (κ×V)}{k:κ} (e:p.1=k):lX (p :: r) k=some p.2:=by simp [lX,List.find?_cons,e]
theorem lN {p:κ×V}{r:List (κ×V)}{k:κ} (e:¬ p.1=k):lX (p :: r) k=lX r k:=by simp [lX,List.find?_cons,e]
theorem yD (k:κ):∀ kvs:List (κ×V),(kvs.any fun kv=>decide (kv.1=k))=(lX kvs k).isSome
 | []=>rfl
 | p :: r=>by
  rw [List.any_cons]
  by_cases e:p.1=k
  ·simp only [lM e,decide_eq_true e,Bool.true_or,Option.isSome_some]
  ·rw [lN e,decide_eq_false e,Bool.false_or];exact yD k r
theorem V1 (k j:κ) (y:V):∀ kvs:List (κ×V),lX (kvs.map fun kv=>if kv.1=k then (kv.1,y) else kv) j=(lX kvs j).map fun x=>if j=k then y else x
 | []=>rfl
 | p :: r=>by
  have ih:=V1 k j y r;rw [List.map_cons]
  by_cases h:p.1=k
  ·rw [if_pos h]
   by_cases e:p.1=j
   ·rw [lM (p:=(p.1,y)) e,lM e,Option.map_some,if_pos (e.symm.trans h)]
   ·rw [lN (p:=(p.1,y)) e,lN e,ih]
  ·rw [if_neg h]
   by_cases e:p.1=j
   ·rw [lM (p:=p) e,lM e,Option.map_some,if_neg (fun z=>h (e.trans z))]
   ·rw [lN (p:=p) e,lN e,ih]
theorem Qn (k j:κ) (y:V):∀ kvs:List (κ×V),lX kvs k=none→lX (kvs ++ [(k,y)]) j=if j=k then some y else lX kvs j
 | [],_=>by
  by_cases e:k=j
  ·rw [if_pos e.symm];exact lM (p:=(k,y)) e
  ·rw [if_neg (fun z=>e z.symm)];exact lN (p:=(k,y)) e
 | p :: r,hn=>by
  rw [List.cons_append];have hk:¬ p.1=k:=fun z=>by rw [lM z] at hn;cases hn
  rw [lN hk] at hn;have ih:=Qn k j y r hn
  by_cases e:p.1=j
  ·rw [lM e,lM e,if_neg (fun z=>hk (e.trans z))]
  ·rw [lN e,lN e,ih]
theorem Zef (kvs:List (κ×V)) (k j:κ) (y:V):lX (putK kvs k y) j=if j=k then some y else lX kvs j:=by
 unfold putK
 by_cases a:(kvs.any fun kv=>decide (kv.1=k))=true
 ·rw [if_pos a,V1];rw [yD] at a
  by_cases e:j=k
  ·obtain ⟨x,hx⟩:=Option.isSome_iff_exists.mp a;rw [if_pos e,e,hx,Option.map_some,if_pos rfl]
  ·rw [if_neg e];cases lX kvs j with
   | none=>rfl
   | some x=>rw [Option.map_some,if_neg e]
 ·rw [if_neg a];refine Qn k j y kvs ?_;rw [yD] at a;cases q:lX kvs k with
  | none=>rfl
  | some x=>rw [q] at a;exact (a rfl).elim
theorem zU (kvs:List (κ×V)) (k:κ) (v:V):(putK kvs k v).length≤kvs.length + 1:=by
 unfold putK;split
 ·rw [bD];omega
 ·rw [List.length_append,List.length_cons,List.length_nil];omega
theorem Zf9 {kvs:List (κ×V)}{k:κ} (v:V) (h:lX kvs k=none):putK kvs k v=kvs ++ [(k,v)]:=by
 unfold putK;rw [yD,h];exact if_neg (by decide)
theorem Bg.Hr {o:Option V}{u:Option Value} (r:Bg o u):o.isSome=u.isSome:=by
 cases o with
 | none=>cases u with
  | none=>rfl
  | some _=>exact (show False from r).elim
 | some _=>cases u with
  | none=>exact (show False from r).elim
  | some _=>rfl
theorem KV.val {kvs:List (κ×V)}{vs:List (κ×Value)} (r:KV kvs vs) (k:κ):Bg (lX kvs k) (valueAt vs k):=by
 unfold KV at r
 induction r with
 | nil=>exact True.intro
 | @cons p q ps qs h t ih=>
  obtain ⟨h1,h2⟩:=h
  by_cases e:p.1=k
  ·have e':q.1=k:=h1.symm.trans e;have b:valueAt (q :: qs) k=some q.2:=by simp [valueAt,List.find?_cons,e']
   rw [lM e,b];exact h2
  ·have e':¬ q.1=k:=fun z=>e (h1.trans z);have b:valueAt (q :: qs) k=valueAt qs k:=by simp [valueAt,List.find?_cons,e']
   rw [lN e,b];exact ih
theorem KV.any {kvs:List (κ×V)}{vs:List (κ×Value)} (r:KV kvs vs) (k:κ):(kvs.any fun kv=>decide (kv.1=k))=vs.any fun kv=>decide (kv.1=k):=by
 unfold KV at r
 induction r with
 | nil=>rfl
 | cons h t ih=>rw [List.any_cons,List.any_cons,ih,h.1]
theorem KV.repl {kvs:List (κ×V)}{vs:List (κ×Value)} (r:KV kvs vs) (k:κ) {y:V}{u:Value} (ry:RelV y u):
  KV (kvs.map fun kv=>if kv.1=k then (kv.1,y) else kv) (vs.map fun kv=>if kv.1=k then (kv.1,u) else kv):=by
 unfold KV at r ⊢
 induction r with
 | nil=>exact .nil
 | @cons p q ps qs h t ih=>
  rw [List.map_cons,List.map_cons];refine .cons ?_ ih;obtain ⟨h1,h2⟩:=h
  by_cases e:p.1=k
  ·rw [if_pos e,if_pos (h1.symm.trans e)];exact ⟨h1,ry⟩
  ·rw [if_neg e,if_neg (fun z=>e (h1.trans z))];exact ⟨h1,h2⟩
theorem KV.put {kvs:List (κ×V)}{vs:List (κ×Value)} (r:KV kvs vs) (k:κ) {y:V}{u:Value} (ry:RelV y u):KV (putK kvs k y) (stored vs k u):=by
 unfold putK stored;rw [r.any k]
 by_cases e:(vs.any fun kv=>decide (kv.1=k))=true
 ·rw [if_pos e,if_pos e];exact r.repl k ry
 ·rw [if_neg e,if_neg e];exact Paired.snoc r ⟨rfl,ry⟩
theorem KV.length {kvs:List (κ×V)}{vs:List (κ×Value)} (r:KV kvs vs):kvs.length=vs.length:=Paired.length r
end
theorem Zbi {P:Program}{w:World}{k:Key}{u:Value} (r:RelV (kV k) u):(eO P w).is k u=true:=by
 cases k with
 | inl i=>obtain ⟨t,e⟩:=(show ∃ t,u=Value.int i t from r);subst e;exact Xa P w i t
 | inr x=>obtain ⟨t,e⟩:=(show ∃ t,u=Value.str x t from r);subst e;exact W9 P w x t
theorem Q7 {P:Program}{w:World}:∀ {ks:List Key}{us:List Value},Vals (ks.map kV) us→ItemsAre (eO P w) ks us
 | [],_,r=>by rw [List.map_nil] at r;cases r;exact .nil
 | k :: ks,_,r=>by
  rw [List.map_cons] at r;cases r with
  | cons h t=>exact .cons (Zbi h) (Q7 t)
abbrev KT (H:Hp):List (List Key×V)→List (List Key×Addr×Value)→Prop:=Paired fun p q=>p.1=q.1∧H q.2.1=some (.tup (p.1.map kV))∧RelV p.2 q.2.2
theorem KT.val {H:Hp}{kvs:List (List Key×V)}{xs:List (List Key×Addr×Value)} (r:KT H kvs xs) (k:List Key):Bg (lX kvs k) ((atKey xs k).map (·.2)):=by
 induction r with
 | nil=>exact True.intro
 | @cons p q ps qs h t ih=>
  obtain ⟨h1,_,h2⟩:=h
  by_cases e:p.1=k
  ·have e':q.1=k:=h1.symm.trans e;have b:atKey (q :: qs) k=some q.2:=by simp [atKey,List.find?_cons,e']
   rw [lM e,b];exact h2
  ·have e':¬ q.1=k:=fun z=>e (h1.trans z);have b:atKey (q :: qs) k=atKey qs k:=by simp [atKey,List.find?_cons,e']
   rw [lN e,b];exact ih
theorem KT.repl {H:Hp}{kvs:List (List Key×V)}{xs:List (List Key×Addr×Value)} (r:KT H kvs xs) (k:List Key) {y:V}{u:Value} (ry:RelV y u):
  KT H (kvs.map fun kv=>if kv.1=k then (kv.1,y) else kv) (xs.map (putAt k u)):=by
 induction r with
 | nil=>exact .nil
 | @cons p q ps qs h t ih=>
  rw [List.map_cons,List.map_cons];refine .cons ?_ ih;obtain ⟨h1,h2,h3⟩:=h;unfold putAt
  by_cases e:p.1=k
  ·rw [if_pos e,if_pos (h1.symm.trans e)];exact ⟨h1,h2,ry⟩
  ·rw [if_neg e,if_neg (fun z=>e (h1.trans z))];exact ⟨h1,h2,h3⟩
theorem KT.put {H:Hp}{kvs:List (List Key×V)}{xs:List (List Key×Addr×Value)} (r:KT H kvs xs) (k:List Key) {b:Addr}{y:V}{u:Value} (hb:H b=some (.tup (k.map kV))) (ry:RelV y u):
  KT H (putK kvs k y) (storedH xs k b u):=by
 have e:(kvs.any fun kv=>decide (kv.1=k))=(atKey xs k).isSome:=by
  rw [yD,(r.val k).Hr,Option.isSome_map]
 unfold putK storedH;rw [e]
 by_cases q:(atKey xs k).isSome=true
 ·rw [if_pos q,if_pos q];exact r.repl k ry
 ·rw [if_neg q,if_neg q];exact Paired.snoc r ⟨rfl,hb,ry⟩
theorem KT.keeps {H H':Hp}{kvs:List (List Key×V)}{xs:List (List Key×Addr×Value)} (r:KT H kvs xs) (ht:∀ b ys,H b=some (.tup ys)→H' b=some (.tup ys)):KT H' kvs xs:=
 Paired.Zne r fun _ _ z=>⟨z.1,ht _ _ z.2.1,z.2.2⟩
section
variable {P:Program}{w:World}{H:Hp}{h:Heap}{a:Addr}
theorem Zlr {u:HO} (ok:yx P w H h) (e:Rd H a u):kZ P w H h a u:=e.ok ok
theorem Eu {kvs:List (Key×V)} (ok:yx P w H h) (e:Rd H a (.dK kvs)):kvs.length≤sizeLine∧(a == sysModules)=false∧∃ vs,KV kvs vs∧h.DictOf (eO P w) a vs:=
 show kZ P w H h a (.dK kvs) from Zlr ok e
theorem Zm3 {kvs:List (Key×V)} (ok:yx P w H h) (e:H a=some (.dK kvs)):kvs.length≤sizeLine∧(a == sysModules)=false∧∃ vs,KV kvs vs∧h.DictOf (eO P w) a vs:=Eu ok (.inl e)
theorem Us {ks:List Key} (ok:yx P w H h) (e:H a=some (.tup (ks.map kV))):(tupleKind (eO P w)).is h ks a:=by
 obtain ⟨_,its,r,o,h1,h2,n,h3⟩:=(show kZ P w H h a (.tup (ks.map kV)) from ok a _ e);exact ⟨o,its.toArray,n,h1,h2,h3,by simpa using Q7 r⟩
theorem Xu {kvs:List (List Key×V)} (ok:yx P w H h) (e:Rd H a (.dT kvs)):kvs.length≤sizeLine∧(a == sysModules)=false∧
  ∃ xs,KT H kvs xs∧h.DictOfH (tupleKind (eO P w)) a xs:=by
 obtain ⟨z,y,xs,r,o,es,ep,h1,h2,h3,h4,h5⟩:=(show kZ P w H h a (.dT kvs) from Zlr ok e);refine ⟨z,y,xs,r,o,es,ep,h1,h2,h3,h4,fun x hx=>?_,h5⟩;have all:∀ {l:List (List Key×V)}{m:List (List Key×Addr×Value)},KT H l m→∀ x∈m,(tupleKind (eO P w)).is h x.1 x.2.1:=by
  intro l m q
  induction q with
  | nil=>intro x hx;exact nomatch hx
  | @cons p q ps qs hq t ih=>
   intro x hx;rcases List.mem_cons.mp hx with e | hx
   ·subst e;exact Us ok (by rw [← hq.1];exact hq.2.1)
   ·exact ih x hx
 exact all r x hx
theorem Zqr {kvs:List (List Key×V)} (ok:yx P w H h) (e:H a=some (.dT kvs)):kvs.length≤sizeLine∧(a == sysModules)=false∧
  ∃ xs,KT H kvs xs∧h.DictOfH (tupleKind (eO P w)) a xs:=Xu ok (.inl e)
end
def Ik (H:Hp) (a:Addr) (y:V) (r:Option V):Prop:=
 (∃ kvs k,Rd H a (.dK kvs)∧y=kV k∧r=lX kvs k)∨∃ kvs k b,Rd H a (.dT kvs)∧y=.ref b∧H b=some (.tup (k.map kV))∧r=lX kvs k
def Qi (H:Hp) (a:Addr) (y v:V) (H':Hp):Prop:=
 (∃ kvs k,H a=some (.dK kvs)∧y=kV k∧kvs.length < sizeLine∧H'=upd H a (.dK (putK kvs k v)))∨
 ∃ kvs k b,H a=some (.dT kvs)∧y=.ref b∧H b=some (.tup (k.map kV))∧kvs.length < sizeLine∧H'=upd H a (.dT (putK kvs k v))
theorem Ik.k {H:Hp}{a:Addr}{kvs:List (Key×V)}{k:Key} (e:H a=some (.dK kvs)):Ik H a (kV k) (lX kvs k):=.inl ⟨kvs,k,.inl e,rfl,rfl⟩
theorem Qi.k {H:Hp}{a:Addr}{kvs:List (Key×V)}{k:Key}{v:V} (e:H a=some (.dK kvs)) (hl:kvs.length < sizeLine):Qi H a (kV k) v (upd H a (.dK (putK kvs k v))):=.inl ⟨kvs,k,e,rfl,hl,rfl⟩
section
variable {X:Cx}{pins:List (Addr×Obj)}{σ:St}{H:Hp}{s:Shared}{a:Addr}{y v:V}{u r:Value}{o:Option V}{A:Around}{E:Value→Shared→Prop}
theorem Inv.big (I:Inv X pins σ H s):sysModules < s.heap.objs.size:=by
 have h:mainGlobals < s.heap.objs.size:=(I.mod.glob.keeps I.bk).lt;exact Nat.lt_trans (by decide) h
theorem Ze6 {Q:Value→Shared→Prop} (hu:A.units + 1 < cLine) (I:Inv X pins σ H s) (g:Ik H a y (some v)) (ry:RelV y u) (h:∀ w' s',Inv X pins σ H s'→RelV v w'→Q w' s'):
  wpAny (model X.prog X.w) A (getItem (.ref a) u) Q E s:=by
 rcases g with ⟨kvs,k,e,ey,l⟩ | ⟨kvs,k,b,e,ey,eb,l⟩
 ·subst ey;obtain ⟨z,hd,vs,rel,dd⟩:=Eu I.hok e;obtain ⟨w',hw,rw'⟩:=Bg.some_of (v:=v) (o:=valueAt vs k) (by rw [l];exact rel.val k);exact wpAny_getItem_of (Zbi ry) dd.mapOf hw (h w' _ (I.tok _) rw')
 ·subst ey;cases (show u=Value.ref b from ry);obtain ⟨z,hd,xs,rel,dd⟩:=Xu I.hok e;obtain ⟨w',hw,rw'⟩:=Bg.some_of (v:=v) (o:=(atKey xs k).map (·.2)) (by rw [l];exact rel.val k);obtain ⟨p,hp,hp2⟩:=Option.map_eq_some_iff.mp hw;refine wpAny_getItem_heap (tupleKind_room_in1 hu) (Us I.hok eb) dd hp ?_;rw [hp2];exact h w' _ (I.tok _) rw'
theorem Zbp {Q:Value→Shared→Prop} (hu:A.units + 1 < cLine) (I:Inv X pins σ H s) (g:Ik H a y o) (ry:RelV y u) (h:∀ s',Inv X pins σ H s'→Q (.bool (!o.isSome)) s'):
  wpAny (model X.prog X.w) A (compareOp .NotIn u (.ref a)) Q E s:=by
 rcases g with ⟨kvs,k,e,ey,l⟩ | ⟨kvs,k,b,e,ey,eb,l⟩
 ·subst ey;obtain ⟨z,hd,vs,rel,dd⟩:=Eu I.hok e;refine wpAny_notIn_of (Zbi ry) hd dd.mapOf ?_;rw [← (rel.val k).Hr,← l];exact h _ (I.tok _)
 ·subst ey;cases (show u=Value.ref b from ry);obtain ⟨z,hd,xs,rel,dd⟩:=Xu I.hok e;refine wpAny_notIn_heap (tupleKind_room_in1 hu) (Us I.hok eb) hd dd ?_;have q:=(rel.val k).Hr;rw [Option.isSome_map] at q;rw [← q,← l];exact h _ (I.tok _)
theorem Zbo {h':Heap}{t':Nat}{ob:HO} (I:Inv X pins σ H s) (mu:Mut (H a)) (hs:Heap.SameBut a s.heap h') (he:∃ q,h'.get? a=some q) (new:kZ X.prog X.w (upd H a ob) h' a ob):
  Inv X pins σ (upd H a ob) { s with heap:=h',toks:=t' }:=
 I.write (x:=a) (e:=a) mu (.inl rfl) (fun b q hb z=>(hs.2 b hb).trans z) he new
theorem Zoq {P:Program}{w:World}{H':Hp}{h':Heap}{kvs:List (Key×V)}{vs:List (Key×Value)} (z:kvs.length≤sizeLine) (hd:(a == sysModules)=false) (rel:KV kvs vs) (dd:h'.DictOf (eO P w) a vs):
  kZ P w H' h' a (.dK kvs):=⟨z,hd,vs,rel,dd⟩
theorem Ze5 {H':Hp}{Q:Unit→Shared→Prop} (hu:A.units + 1 < cLine) (I:Inv X pins σ H s) (g:Qi H a y v H') (ry:RelV y u) (rv:RelV v r) (h:∀ s',Inv X pins σ H' s'→Q () s'):
  wpAny (model X.prog X.w) A (setItem (.ref a) u r) Q E s:=by
 rcases g with ⟨kvs,k,e,ey,l,eH⟩ | ⟨kvs,k,b,e,ey,eb,l,eH⟩
 ·subst ey eH;obtain ⟨z,hd,vs,rel,dd⟩:=Zm3 I.hok e;have hz:vs.length≤sizeLine:=by rw [← rel.length];exact z
  have hl:(putK kvs k v).length≤sizeLine:=by have:=zU kvs k v;omega
  refine wpAny_setItem_pairs (hsz:=hz) (Zbi ry) dd fun h' dd' hs=>h _ ?_;have he:∃ q,h'.get? a=some q:=let ⟨q,_,_,hq,_⟩:=dd';⟨q,hq⟩
  exact Zbo I (by rw [e];exact True.intro) hs he (Zoq hl hd (rel.put k rv) dd')
 ·subst ey eH;cases (show u=Value.ref b from ry);obtain ⟨z,hd,xs,rel,dd⟩:=Zqr I.hok e;have hz:xs.length≤sizeLine:=by rw [← Paired.length rel];exact z
  have hl:(putK kvs k v).length≤sizeLine:=by have:=zU kvs k v;omega
  refine wpAny_setItem_heap (hsz:=hz) (tupleKind_room_in1 hu) (Us I.hok eb) dd fun h' dd' hs=>h _ ?_;obtain ⟨q,es,ep,hq,h2,h3,h4,_,h5⟩:=dd';refine Zbo I (by rw [e];exact True.intro) hs ⟨q,hq⟩ ⟨hl,hd,_,(rel.put k eb rv).keeps fun c ys ec=>?_,q,es,ep,hq,h2,h3,h4,h5⟩;rw [aB (pI ec e (fun z=>nomatch z))];exact ec
end
section
variable {X:Cx}{pins:List (Addr×Obj)}{σ:St}{H:Hp}{s:Shared}{a:Addr}{kvs:List (Key×V)}{k:Key}{u:Value}{A:Around}{E:Value→Shared→Prop}
end
def Zlj (i:Expr):Prop:=∀ ov iv,subscripted i false ov iv=operate [ov,iv] (getItem ov iv)
theorem Zb1 {prog:Program}{w:World}{A:Around}{E:Value→Shared→Prop}{s:Shared}{env:Env}{value slice:Expr}{pos:Pos}{T id:String}{Q:Value→Shared→Prop}
  (hl:typeLookup (.type T) "__getitem__"=pure (some (.builtin id))) (hs:Zlj slice)
  (h:wpAny (model prog w) A (eval value env) (fun o s₁=>wpAny (model prog w) A (eval slice env) (fun i s₂=>s₂.TypeIs o T∧wpAny (model prog w) A (getItem o i) Q E s₂) E s₁) E s):
  wpAny (model prog w) A (eval (.Subscript value slice pos) env) Q E s:=by
 refine Subscript_ (wpAny_mono h (fun o s₁ h₁=>wpAny_mono h₁ (fun i s₂ h₂=>?_) fun _ _ x=>x) fun _ _ x=>x);obtain ⟨hT,h₂⟩:=h₂;unfold subscriptTail;refine wpAny_bind ?_;rw [getitemInPython_of_ne hT.not_modules];refine wpAny_bind (wpAny_specialOf hT hl ?_);have fin:wpAny (model prog w) A (subscripted slice false o i) (fun r s₃=>wpAny (model prog w) A (letTemporaryGo value o r >>= fun _=>pure r) Q E s₃) E s₂:=by
  rw [hs o i];exact wpAny_operating (wpAny_mono h₂ (fun r s₃ h₃=>wpAny_bind (wpAny_letTemporaryGo (wpAny_pure h₃))) fun _ _ x=>x)
 first
  | exact wpAny_pure (wpAny_bind fin)
  | exact wpAny_bind (wpAny_pure (wpAny_bind fin))
  | exact wpAny_bind fin
theorem Xy {X:Cx}{pins:List (Addr×Obj)}{σ:St}{H:Hp}{s:Shared}{a:Addr}{y:V}{o:Option V} (I:Inv X pins σ H s) (g:Ik H a y o):s.TypeIs (.ref a) "dict":=by
 rcases g with ⟨kvs,k,e,_,_⟩ | ⟨kvs,k,b,e,_,_,_⟩
 ·obtain ⟨_,_,vs,_,dd⟩:=Eu I.hok e;exact dd.typeIs
 ·obtain ⟨_,_,xs,_,dd⟩:=Xu I.hok e;exact dd.typeIs
def QH (td ty:TE):TE:=fun σ H Q=>td σ H fun x H1=>ty σ H1 fun y H2=>∃ a v,x=.ref a∧Ik H2 a y (some v)∧Q v H2
def RM (ty td:TE):TE:=fun σ H Q=>ty σ H fun y H1=>td σ H1 fun x H2=>∃ a o,x=.ref a∧Ik H2 a y o∧Q (.bl (!o.isSome)) H2
def QL (td ty tv:TE):TS:=fun D σ H=>tv σ H fun v H1=>td σ H1 fun x H2=>ty σ H2 fun y H3=>∃ a H4,x=.ref a∧Qi H3 a y v H4∧D.nx σ H4
section
variable {X:Cx}{o i e value:Expr}{pos pos' tpos:Pos}{td ty tv:TE}
theorem Zjl (hu:X.A.units + 1 < cLine) (ho:PE X o td) (hi:PE X i ty) (hs:Zlj i):PE X (.Subscript o i pos) (QH td ty):=by
 intro pins s σ H Q I h;refine Zb1 PySem.F.slot_dict_getitem.lookup hs (iy (ho pins s σ H _ I h) fun u s1 ⟨x,H1,I1,rx,q1⟩=>iy (hi pins s1 σ H1 _ I1 q1) fun iv s2 ⟨y,H2,I2,ry,a,v,ex,g,q2⟩=>?_);subst ex;obtain rfl:u=Value.ref a:=rx;exact ⟨Xy I2 g,Ze6 hu I2 g ry fun w' s3 I3 rw'=>⟨v,H2,I3,rw',q2⟩⟩
theorem Zci (hu:X.A.units + 1 < cLine) (hi:PE X i ty) (ho:PE X o td):PC X .NotIn i o (RM ty td):=by
 intro pins s σ H Q I h;refine iy (hi pins s σ H _ I h) fun iv s1 ⟨y,H1,I1,ry,q1⟩=>iy (ho pins s1 σ H1 _ I1 q1) fun u s2 ⟨x,H2,I2,rx,a,ov,ex,g,q2⟩=>?_;subst ex;obtain rfl:u=Value.ref a:=rx;exact Zbp hu I2 g ry fun s3 I3=>⟨.bl (!ov.isSome),H2,I3,rfl,q2⟩
theorem JW (hu:X.A.units + 1 < cLine) (ho:PE X o td) (hi:PE X i ty) (hv:PE X value tv) (hs:swapsWith value (some (.Subscript o i pos')) pos.line X.env=pure false):
  PS X (.Assign [.Subscript o i pos'] value pos) (QL td ty tv):=by
 intro pins s σ H D I h;refine wpAny_Assign_Subscript (iy (hv pins s σ H _ I h) fun r s1 ⟨v,H1,I1,rv,q1⟩=>iy (ho pins s1 σ H1 _ I1 q1) fun u s2 ⟨x,H2,I2,rx,q2⟩=>iy (hi pins s2 σ H2 _ I2 q2) fun iv s3 ⟨y,H3,I3,ry,a,H4,ex,g,q3⟩=>?_) hs;subst ex;obtain rfl:u=Value.ref a:=rx;exact Ze5 hu I3 g ry rv fun s4 I4=>⟨σ,H4,I4,q3⟩
end
theorem Zhy {P:Program}{w:World}{H:Hp} (h:Heap) (hb:sysModules < h.objs.size):kZ P w H (h.push { cls:=.type "dict",data:=.dict #[] }) h.objs.size (.dK []):=
 ⟨Nat.zero_le _,beq_eq_false_iff_ne.mpr (Ne.symm (Nat.ne_of_lt hb)),[],.nil,Heap.DictOf.new h⟩
def RN:TE:=fun _ H Q=>∀ p,H p=none→Q (.ref p) (upd H p (.dK []))
section
variable {X:Cx}{pos:Pos}
theorem Le:PE X (.Dict [] [] pos) RN:=fun pins s σ H Q I h=>
 wpAny_Dict_empty ⟨.ref s.heap.objs.size,_,I.laid (a:=s.heap.objs.size) (o:=.dK []) (t':=s.toks) (fun _ _ q=>Heap.get?_push_of_some _ q) (Nat.le_refl _) (Zhy s.heap I.big),rfl,h _ (I.hok.fresh (Nat.le_refl _))⟩
end
def Zeo:List (TE×TE)→St→Hp→(List (V×V)→Hp→Prop)→Prop
 | [],_,H,Q=>Q [] H
 | (tk,tv) :: r,σ,H,Q=>tk σ H fun x H1=>tv σ H1 fun y H2=>Zeo r σ H2 fun ps H3=>Q ((x,y) :: ps) H3
abbrev VV:List (V×V)→List (Value×Value)→Prop:=Paired fun p q=>RelV p.1 q.1∧RelV p.2 q.2
def PPs (X:Cx) (pos:Pos) (keys:List (Option Expr)) (values:List Expr) (trs:List (TE×TE)):Prop:=
 ∀ (pins:List (Addr×Obj)) (s:Shared) (σ:St) (H:Hp) (Q:List (V×V)→Hp→Prop),Inv X pins σ H s→Zeo trs σ H Q→
  wpAny (model X.prog X.w) X.A (evalPairs (pairTrees keys values X.env pos)) (fun vs s'=>∃ ps H',Inv X pins σ H' s'∧VV ps vs∧Q ps H') X.xe s
structure M1 (X:Cx) (o:Expr) (m:Str) (apos:Pos) (e:Expr) (cpos:Pos):Prop where
 base:attributeBase o m X.env (eval o X.env)=eval o X.env
 few:((backTo cpos (starEach [e] X.env)).all (fun x=>!x.1) && (backToKw cpos (keywordEach [] X.env)).all (fun x=>x.1.isSome)
  && decide (([e]:List Expr).length + ([]:List Keyword).length + (if ([]:List Keyword).isEmpty then 0 else 1) < 30))=true
 line:(apos.endLine == cpos.line)=true
 trees:backTo cpos (starEach [e] X.env)=[(false,eval e X.env)]
structure M2 (X:Cx) (o:Expr) (m:Str) (apos:Pos) (e f:Expr) (cpos:Pos):Prop where
 base:attributeBase o m X.env (eval o X.env)=eval o X.env
 few:((backTo cpos (starEach [e,f] X.env)).all (fun x=>!x.1) && (backToKw cpos (keywordEach [] X.env)).all (fun x=>x.1.isSome)
  && decide (([e,f]:List Expr).length + ([]:List Keyword).length + (if ([]:List Keyword).isEmpty then 0 else 1) < 30))=true
 line:(apos.endLine == cpos.line)=true
 trees:backTo cpos (starEach [e,f] X.env)=[(false,eval e X.env),(false,eval f X.env)]
def IsD (H:Hp) (a:Addr):Prop:=(∃ kvs,Rd H a (.dK kvs))∨∃ kvs,Rd H a (.dT kvs)
theorem Zgy {X:Cx}{pins:List (Addr×Obj)}{σ:St}{H:Hp}{s:Shared}{a:Addr} (I:Inv X pins σ H s) (d:IsD H a):
  s.TypeIs (.ref a) "dict"∧(∀ b,Value.ref a=.ref b→∃ ob,s.heap.get? b=some ob∧ob.dict=none)∧(a == sysModules)=false:=by
 rcases d with ⟨kvs,e⟩ | ⟨kvs,e⟩
 ·obtain ⟨_,hd,vs,_,dd⟩:=Eu I.hok e;refine ⟨dd.typeIs,fun b q=>?_,hd⟩;cases q;obtain ⟨ob,_,_,h1,h2,_⟩:=dd;exact ⟨ob,h1,h2.2.1⟩
 ·obtain ⟨_,hd,xs,_,dd⟩:=Xu I.hok e;refine ⟨dd.typeIs,fun b q=>?_,hd⟩;cases q;obtain ⟨ob,_,_,h1,h2,_⟩:=dd;exact ⟨ob,h1,h2.2.1⟩
section
variable {X:Cx}{pins:List (Addr×Obj)}{σ:St}{H:Hp}{s:Shared}{a:Addr}{y d:V}{u r:Value}{o:Option V}{A:Around}{E:Value→Shared→Prop}
end
section
variable {X:Cx}{o e f:Expr}{apos cpos:Pos}{td ty tx:TE}
end
section
variable {X:Cx}{pins:List (Addr×Obj)}{σ:St}{H:Hp}{s:Shared}{a:Addr}{kvs:List (Key×V)}{A:Around}{E:Value→Shared→Prop}
end
section
variable {X:Cx}{pins:List (Addr×Obj)}{σ:St}{H:Hp}{s:Shared}{a:Addr}{y:V}{u:Value}{A:Around}{E:Value→Shared→Prop}
end
end L2
namespace Att
open PySem PySem.W PySem.Calls PyProof.Rows
section
variable {prog:Program}{w:World}{A:Around}{E:Value→Shared→Prop}{s:Shared}{K:Frag}
end
end Att
namespace L2
open PySem PySem.Spec PyProof.Rows
end L2
namespace L2
open PySem PySem.Spec PyProof.Rows
end L2
namespace L2
open PySem PySem.Spec PyProof.Rows
section
variable {X:Cx}
end
section
variable {κ:Type} [DecidableEq κ]
end
end L2
set_option maxHeartbeats 40000000
namespace G
open PySem L2
section
variable {D:Ends}{σ:St}{H H1:Hp}{Q:VK}{t u:TS}{ta tb tc te:TE}{n:St→Hp→Prop}{r:VK}{b c:St→Hp→Prop}
theorem Mv (h:t ⟨u ⟨n,r,b,c⟩,r,b,c⟩ σ H):aN t u ⟨n,r,b,c⟩ σ H:=h
theorem xV (h:n σ H):cT ⟨n,r,b,c⟩ σ H:=h
theorem Zo6 (h:te σ H fun _ H1=>n σ H1):yg te ⟨n,r,b,c⟩ σ H:=h
theorem Zq4 (h:te σ H r):bM te ⟨n,r,b,c⟩ σ H:=h
theorem Zqc {c':TT} (h:c' σ H fun k H1=>if k=true then t ⟨n,r,b,c⟩ σ H1 else u ⟨n,r,b,c⟩ σ H1):fM c' t u ⟨n,r,b,c⟩ σ H:=h
theorem Mw {g:TG} (h:te σ H fun x H1=>g x σ H1 n):bC te g ⟨n,r,b,c⟩ σ H:=h
theorem i_C {v:V} (h:Q v H):tC v σ H Q:=h
theorem Z4 {f:R2} (h:ta σ H fun x H1=>tb σ H1 fun y H2=>f x y H2 Q):bH f ta tb σ H Q:=h
theorem Zrs {f:V→Hp→VK→Prop} (h:ta σ H fun x H1=>f x H1 Q):tUn f ta σ H Q:=h
def kB (q:Bool→Hp→Prop):VK:=fun x H'=>∃ k,x=.bl k∧q k H'
theorem i_B {k:Bool}{q:Bool→Hp→Prop} (h:q k H):kB q (.bl k) H:=⟨k,rfl,h⟩
theorem Znt {q:Bool→Hp→Prop} (h:te σ H (kB q)):cL te σ H q:=h
theorem Zq3 {q:Bool→Hp→Prop} (h:te σ H (kB q)):tB te σ H q:=h
theorem Zqh {t u:TT}{q:Bool→Hp→Prop} (h:t σ H fun k H1=>if k=true then u σ H1 q else q false H1):V2 t u σ H q:=h
theorem Zq5 {t u:TT}{q:Bool→Hp→Prop} (h:t σ H fun k H1=>if k=true then q true H1 else u σ H1 q):tOr t u σ H q:=h
theorem Zly {t:TT}{q:Bool→Hp→Prop} (h:t σ H fun k H1=>q (!k) H1):RK t σ H q:=h
theorem Zoc (h:ta σ H (kB fun k H1=>if k=true then tb σ H1 Q else Q (.bl false) H1)):Zes ta tb σ H Q:=h
theorem Znw (h:ta σ H (kB fun k H1=>Q (.bl (!k)) H1)):Zep ta σ H Q:=h
theorem Zqb {t:TT} (h:t σ H fun k H1=>if k=true then ta σ H1 Q else tb σ H1 Q):tIf t ta tb σ H Q:=h
theorem Zqi {g:Int→Int→V}{i j:Int} (h:Q (g i j) H):mX g (.int i) (.int j) H Q:=⟨i,j,rfl,rfl,h⟩
theorem i_I {C:Int→Int→Prop}{g:Int→Int→V}{i j:Int} (hc:C i j) (h:Q (g i j) H):rI C g (.int i) (.int j) H Q:=⟨i,j,rfl,rfl,hc,h⟩
theorem i_U {g:Int→V}{i:Int} (h:Q (g i) H):rU g (.int i) H Q:=⟨i,rfl,h⟩
theorem Zqg {i j:Int} (h:Q (.bl (decide (i=j))) H):Av (.int i) (.int j) H Q:=⟨rfl,by rw [show decide (V.int i=V.int j)=decide (i=j) from decide_eq_decide.mpr ⟨fun e=>V.int.inj e,fun e=>by rw [e]⟩];exact h⟩
theorem Zqf {i j:Str} (h:Q (.bl (decide (i=j))) H):Av (.str i) (.str j) H Q:=⟨rfl,by rw [show decide (V.str i=V.str j)=decide (i=j) from decide_eq_decide.mpr ⟨fun e=>V.str.inj e,fun e=>by rw [e]⟩];exact h⟩
theorem Zq8 {i j:Int} (h:Q (.bl (!decide (i=j))) H):rNe (.int i) (.int j) H Q:=⟨rfl,by rw [show decide (V.int i=V.int j)=decide (i=j) from decide_eq_decide.mpr ⟨fun e=>V.int.inj e,fun e=>by rw [e]⟩];exact h⟩
theorem Zq7 {i j:Str} (h:Q (.bl (!decide (i=j))) H):rNe (.str i) (.str j) H Q:=⟨rfl,by rw [show decide (V.str i=V.str j)=decide (i=j) from decide_eq_decide.mpr ⟨fun e=>V.str.inj e,fun e=>by rw [e]⟩];exact h⟩
def K8:R2:=fun x y H Q=>y=.non∧Q (.bl (decide (x=.non))) H
def Bl:R2:=fun x y H Q=>y=.non∧Q (.bl (!decide (x=.non))) H
theorem Zo2 (h:Q (.bl true) H):K8 .non .non H Q:=⟨rfl,h⟩
theorem Zo1 {i:Int} (h:Q (.bl false) H):K8 (.int i) .non H Q:=⟨rfl,h⟩
theorem Zo0 {i:Addr} (h:Q (.bl false) H):K8 (.ref i) .non H Q:=⟨rfl,h⟩
theorem Zkh (h:Q (.bl false) H):Bl .non .non H Q:=⟨rfl,h⟩
theorem Zkg {i:Int} (h:Q (.bl true) H):Bl (.int i) .non H Q:=⟨rfl,h⟩
theorem Zkf {i:Addr} (h:Q (.bl true) H):Bl (.ref i) .non H Q:=⟨rfl,h⟩
theorem Z6 {A B:Prop} (h:A):if true=true then A else B:=Xe h
theorem Uv {A B:Prop} (h:B):if false=true then A else B:=Zgx h
theorem Zkm {A B:Prop} (h:B):if (!true)=true then A else B:=Zgx h
theorem Zkn {A B:Prop} (h:A):if (!false)=true then A else B:=Xe h
theorem vB {p A B:Prop} [Decidable p] (h1:p→A) (h2:¬ p→B):if decide p=true then A else B:=Znp (fun e=>h1 (of_decide_eq_true e)) (fun e=>h2 (fun q=>e (decide_eq_true q)))
theorem Xf {p A B:Prop} [Decidable p] (h1:¬ p→A) (h2:p→B):if (!decide p)=true then A else B:=Znp (fun e=>h1 (by simpa using e)) (fun e=>h2 (by simpa using e))
theorem Zq6 {q:List V→Hp→Prop} (h:q [] H):aG σ H q:=h
theorem Zoa {q:List V→Hp→Prop}{t:TA} (h:ta σ H fun x H1=>t σ H1 fun xs H2=>q (x :: xs) H2):aj ta t σ H q:=h
theorem Zq9 {t:TA} (h:t σ H fun xs H1=>xs.length≤sizeLine∧∀ p,H1 p=none→Q (.ref p) (upd H1 p (.lst xs))):gK t σ H Q:=h
theorem Zq0 {t:TA} (h:t σ H fun xs H1=>xs.length≤sizeLine∧∀ p,H1 p=none→Q (.ref p) (upd H1 p (.tup xs))):fG t σ H Q:=h
theorem Zob {t:TA}{sp:Sp}{tH:List V}{E:XK} (h:t σ H fun vs H1=>sp (vs ++ tH) H1 Q E):aV sp tH E t σ H Q:=h
theorem Zs6 {t:TA}{f:List V→Hp→VK→Prop} (h:t σ H fun vs H1=>f vs H1 Q):JS f t σ H Q:=h
theorem Zny {t:TA}{sp:Sp}{tH:List V}{E:XK}{C:Addr} (h:t σ H fun vs H1=>∀ x dx,H1 x=none→H1 dx=none→dx≠x→sp (.ref x :: (vs ++ tH)) (upd (upd H1 dx (.own x)) x (.ins C dx [])) (fun v H2=>v=.non∧Q (.ref x) H2) E):De C sp tH E t σ H Q:=h
def Zpz (K:aC) (f:Str) (Q:VK):VK:=fun x H1=>∃ a C dx fs v,x=.ref a∧H1 a=some (.ins C dx fs)∧CW K C∧bI K C f∧fs.lookup f=some v∧Q v H1
theorem Zqe {K:aC}{f:Str} (h:ta σ H (Zpz K f Q)):bA K ta f σ H Q:=h
theorem aK {K:aC}{f:Str}{a C dx:Addr}{fs:List (Str×V)}{v:V} (h:H a=some (.ins C dx fs)) (hc:CW K C) (hn:bI K C f) (hl:fs.lookup f=some v) (q:Q v H):Zpz K f Q (.ref a) H:=⟨a,C,dx,fs,v,rfl,h,hc,hn,hl,q⟩
theorem Znu {K:aC}{f:Str}{tv:TE} (h:tv σ H fun y H1=>ta σ H1 fun x H2=>∃ a C dx fs,x=.ref a∧H2 a=some (.ins C dx fs)∧CW K C∧bI K C f∧fs.length < 1000∧n σ (upd H2 a (.ins C dx (cg f y fs)))):gA K ta tv f ⟨n,r,b,c⟩ σ H:=h
theorem Znx {C:Addr}{m:Str}{sp:Sp}{tH:List V}{E:XK}{t:TA} (h:ta σ H fun x H1=>∃ a dx fs,x=.ref a∧H1 a=some (.ins C dx fs)∧fs.lookup m=none∧t σ H1 fun vs H2=>sp (x :: (vs ++ tH)) H2 Q E):pG C m sp tH E ta t σ H Q:=h
def kI (q:Int→Hp→Prop):VK:=fun x H1=>∃ i,x=.int i∧q i H1
theorem Znv {q:Option Int→Hp→Prop} (h:te σ H (kI fun i=>q (some i))):Zb0 te σ H q:=h
theorem Zru {i:Int}{q:Int→Hp→Prop} (h:q i H):kI q (.int i) H:=⟨i,rfl,h⟩
theorem Zrt {f:V→Option Int→Option Int→Hp→VK→Prop}{tl th:TO} (h:te σ H fun x H1=>tl σ H1 fun l H2=>th σ H2 fun u H3=>f x l u H3 Q):tSl f te tl th σ H Q:=h
theorem Zs5 {K:aC}{T:String}{f:V→List V→Hp→VK→Prop}{to:TE}{t:TA} (h:to σ H fun x H1=>tyV K T x H1∧t σ H1 fun xs H2=>f x xs H2 Q):tBM K T f to t σ H Q:=h
theorem Zqd {wi:TI}{g:TG}{tb:TS} (h:wi σ H fun J H1=>∃ W:Nat→Nat→St→Hp→Prop,(∃ m,W 0 m σ H1)∧∀ i m σ H,W i m σ H→
 (J.stop i H∧n σ H)∨(J.go i H∧∃ N:St→Hp→Prop,(∀ σ' H',N σ' H'→∃ m',m' < m∧W (i + 1) m' σ' H')∧∀ x H',J.Yj i H x H'→g x σ H' fun σ2 H2=>tb ⟨N,r,n,N⟩ σ2 H2)):Bw wi g tb ⟨n,r,b,c⟩ σ H:=h
theorem Zrx {K:aC}{R:It→Hp→Prop} (h:te σ H fun x H1=>∃ a,x=.ref a∧(∃ xs,dz K H1 a xs)∧R (Itl K a) H1):qG K te σ H R:=h
theorem Zrw {ta:TA}{R:It→Hp→Prop} (h:ta σ H fun vs H1=>∃ j:Int,vs=[.int j]∧-(2 ^ 62)≤j∧j < 2 ^ 62∧R (Itr 0 j.toNat) H1):Mx ta σ H R:=h
end
theorem Zrr {v:V}{l:St}{H:Hp}{Q:VK} (h:Q v H):ak 0 (some v :: l) H Q:=⟨v,rfl,h⟩
theorem Zrq {x0:Option V}{v:V}{l:St}{H:Hp}{Q:VK} (h:Q v H):ak 1 (x0 :: some v :: l) H Q:=⟨v,rfl,h⟩
theorem Zs4 {x0:Option V}{y:Option V}{v:V}{l:St}{H:Hp}{Q:St→Hp→Prop} (h:Q (x0 :: some v :: l) H):aL 1 v (x0 :: y :: l) H Q:=h
theorem Zrp {x0 x1:Option V}{v:V}{l:St}{H:Hp}{Q:VK} (h:Q v H):ak 2 (x0 :: x1 :: some v :: l) H Q:=⟨v,rfl,h⟩
theorem Zo4 {x0 x1:Option V}{y:Option V}{v:V}{l:St}{H:Hp}{Q:St→Hp→Prop} (h:Q (x0 :: x1 :: some v :: l) H):aL 2 v (x0 :: x1 :: y :: l) H Q:=h
theorem Z3 {x0 x1 x2:Option V}{v:V}{l:St}{H:Hp}{Q:VK} (h:Q v H):ak 3 (x0 :: x1 :: x2 :: some v :: l) H Q:=⟨v,rfl,h⟩
theorem Xg {x0 x1 x2:Option V}{y:Option V}{v:V}{l:St}{H:Hp}{Q:St→Hp→Prop} (h:Q (x0 :: x1 :: x2 :: some v :: l) H):aL 3 v (x0 :: x1 :: x2 :: y :: l) H Q:=h
theorem Zro {x0 x1 x2 x3:Option V}{v:V}{l:St}{H:Hp}{Q:VK} (h:Q v H):ak 4 (x0 :: x1 :: x2 :: x3 :: some v :: l) H Q:=⟨v,rfl,h⟩
theorem Zko {x0 x1 x2 x3:Option V}{y:Option V}{v:V}{l:St}{H:Hp}{Q:St→Hp→Prop} (h:Q (x0 :: x1 :: x2 :: x3 :: some v :: l) H):aL 4 v (x0 :: x1 :: x2 :: x3 :: y :: l) H Q:=h
theorem Zrn {x0 x1 x2 x3 x4:Option V}{v:V}{l:St}{H:Hp}{Q:VK} (h:Q v H):ak 5 (x0 :: x1 :: x2 :: x3 :: x4 :: some v :: l) H Q:=⟨v,rfl,h⟩
theorem Zs3 {x0 x1 x2 x3 x4:Option V}{y:Option V}{v:V}{l:St}{H:Hp}{Q:St→Hp→Prop} (h:Q (x0 :: x1 :: x2 :: x3 :: x4 :: some v :: l) H):aL 5 v (x0 :: x1 :: x2 :: x3 :: x4 :: y :: l) H Q:=h
theorem Zrm {x0 x1 x2 x3 x4 x5:Option V}{v:V}{l:St}{H:Hp}{Q:VK} (h:Q v H):ak 6 (x0 :: x1 :: x2 :: x3 :: x4 :: x5 :: some v :: l) H Q:=⟨v,rfl,h⟩
theorem Zs2 {x0 x1 x2 x3 x4 x5:Option V}{y:Option V}{v:V}{l:St}{H:Hp}{Q:St→Hp→Prop} (h:Q (x0 :: x1 :: x2 :: x3 :: x4 :: x5 :: some v :: l) H):aL 6 v (x0 :: x1 :: x2 :: x3 :: x4 :: x5 :: y :: l) H Q:=h
theorem Zrl {x0 x1 x2 x3 x4 x5 x6:Option V}{v:V}{l:St}{H:Hp}{Q:VK} (h:Q v H):ak 7 (x0 :: x1 :: x2 :: x3 :: x4 :: x5 :: x6 :: some v :: l) H Q:=⟨v,rfl,h⟩
theorem Zs1 {x0 x1 x2 x3 x4 x5 x6:Option V}{y:Option V}{v:V}{l:St}{H:Hp}{Q:St→Hp→Prop} (h:Q (x0 :: x1 :: x2 :: x3 :: x4 :: x5 :: x6 :: some v :: l) H):aL 7 v (x0 :: x1 :: x2 :: x3 :: x4 :: x5 :: x6 :: y :: l) H Q:=h
theorem Zrk {x0 x1 x2 x3 x4 x5 x6 x7:Option V}{v:V}{l:St}{H:Hp}{Q:VK} (h:Q v H):ak 8 (x0 :: x1 :: x2 :: x3 :: x4 :: x5 :: x6 :: x7 :: some v :: l) H Q:=⟨v,rfl,h⟩
theorem Zs0 {x0 x1 x2 x3 x4 x5 x6 x7:Option V}{y:Option V}{v:V}{l:St}{H:Hp}{Q:St→Hp→Prop} (h:Q (x0 :: x1 :: x2 :: x3 :: x4 :: x5 :: x6 :: x7 :: some v :: l) H):aL 8 v (x0 :: x1 :: x2 :: x3 :: x4 :: x5 :: x6 :: x7 :: y :: l) H Q:=h
theorem Zrj {x0 x1 x2 x3 x4 x5 x6 x7 x8:Option V}{v:V}{l:St}{H:Hp}{Q:VK} (h:Q v H):ak 9 (x0 :: x1 :: x2 :: x3 :: x4 :: x5 :: x6 :: x7 :: x8 :: some v :: l) H Q:=⟨v,rfl,h⟩
theorem Zrz {x0 x1 x2 x3 x4 x5 x6 x7 x8:Option V}{y:Option V}{v:V}{l:St}{H:Hp}{Q:St→Hp→Prop} (h:Q (x0 :: x1 :: x2 :: x3 :: x4 :: x5 :: x6 :: x7 :: x8 :: some v :: l) H):aL 9 v (x0 :: x1 :: x2 :: x3 :: x4 :: x5 :: x6 :: x7 :: x8 :: y :: l) H Q:=h
end G
namespace G
open PySem L2
theorem aM {H:Hp}{p:Addr} (h:H p=none) (o:HO):aX H (upd H p o):=fun b u q=>by rw [aB (aD q h)];exact q
def pK (K:aC):List V→Hp→VK→Prop:=fun xs H Q=>∃ p ys,xs=[.ref p]∧(dz K H p ys∨iQ K H p ys)∧Q (.int ys.length) H
theorem mO {K:aC}{a:Addr}{H:Hp}{Q:VK}{xs:List V} (hp:dz K H a xs) (h:Q (.int xs.length) H):pK K [.ref a] H Q:=⟨a,xs,rfl,.inl hp,h⟩
theorem j6 {K:aC}{a:Addr}{H:Hp}{Q:VK}{xs:List V}{i:Int}{v:V} (hp:dz K H a xs) (hi:Yi xs i=some v) (h:Q v H):nM K (.ref a) (.int i) H Q:=⟨a,xs,i,v,rfl,rfl,hp,hi,h⟩
section
variable {K:aC}{a:Addr}{xs:List V}{g:TG}{tb:TS}{σ:St}{H:Hp}{n:St→Hp→Prop}{r:VK}
theorem forL (xs:List V) (Pv:Nat→St→Hp→Prop) (h0:Pv 0 σ H) (hl:∀ i σ H,i≤xs.length→Pv i σ H→dz K H a xs)
  (hs:∀ i x σ H,xs[i]? =some x→Pv i σ H→g x σ H fun σ2 H2=>tb ⟨Pv (i + 1),r,n,Pv (i + 1)⟩ σ2 H2) (hd:∀ σ H,Pv xs.length σ H→n σ H):
  ∃ W:Nat→Nat→St→Hp→Prop,(∃ m,W 0 m σ H)∧∀ i m σ H,W i m σ H→
   ((Itl K a).stop i H∧n σ H)∨((Itl K a).go i H∧∃ N:St→Hp→Prop,(∀ σ' H',N σ' H'→∃ m',m' < m∧W (i + 1) m' σ' H')∧∀ x H',(Itl K a).Yj i H x H'→g x σ H' fun σ2 H2=>tb ⟨N,r,n,N⟩ σ2 H2):=
 Zhl (D:=⟨n,r,fun _ _=>False,fun _ _=>False⟩) Pv h0 hl hs hd
theorem forR {lo:Int}{k:Nat} (Pv:Nat→St→Hp→Prop) (h0:Pv 0 σ H)
  (hs:∀ i σ H,i < k→Pv i σ H→g (.int (lo + i)) σ H fun σ2 H2=>tb ⟨Pv (i + 1),r,n,Pv (i + 1)⟩ σ2 H2) (hd:∀ σ H,Pv k σ H→n σ H):
  ∃ W:Nat→Nat→St→Hp→Prop,(∃ m,W 0 m σ H)∧∀ i m σ H,W i m σ H→
   ((Itr lo k).stop i H∧n σ H)∨((Itr lo k).go i H∧∃ N:St→Hp→Prop,(∀ σ' H',N σ' H'→∃ m',m' < m∧W (i + 1) m' σ' H')∧∀ x H',(Itr lo k).Yj i H x H'→g x σ H' fun σ2 H2=>tb ⟨N,r,n,N⟩ σ2 H2):=
 Zdt (D:=⟨n,r,fun _ _=>False,fun _ _=>False⟩) Pv h0 hs hd
end
theorem aW {n:Nat} (h:n≤1000000):n≤sizeLine:=Nat.le_trans h (by decide)
end G
namespace G
open PySem L2
def Zf6:R2:=fun x y H Q=>∃ i j,x=.str i∧y=.str j∧i.length + j.length≤sizeLine∧Q (.str (i ++ j)) H
theorem Zh5 {i j:Str}{H:Hp}{Q:VK} (hz:i.length + j.length≤sizeLine) (h:Q (.str (i ++ j)) H):Zf6 (.str i) (.str j) H Q:=⟨i,j,rfl,rfl,hz,h⟩
theorem Zqa {z:Str}{i:Int}{c:Nat}{H:Hp}{Q:VK} (hz:z.length≤sizeLine) (hi:Yi z.cps.toList i=some c) (h:Q (.str ⟨#[c]⟩) H):Zf5 (.str z) (.int i) H Q:=⟨z,i,c,rfl,rfl,hz,hi,h⟩
theorem Zh3 {z:Str}{i:Int}{H:Hp}{Q:VK} (hz:z.length≤sizeLine) (h0:0≤i) (h1:i < z.length) (h:∀ c:Nat,Q (.str ⟨#[c]⟩) H):Zf5 (.str z) (.int i) H Q:=by
 have hk:i.toNat < z.cps.toList.length:=by rw [Array.length_toList];exact (Int.toNat_lt h0).mpr h1
 have ek:i=((i.toNat:Nat):Int):=by omega
 have q:Yi z.cps.toList ((i.toNat:Nat):Int)=some z.cps.toList[i.toNat]:=jL (bW hk);rw [← ek] at q;exact Zqa hz q (h _)
theorem str_len (z:Str):z.cps.toList.length=z.length:=Array.length_toList
def pick (σ:St) (j:Nat):Option V:=match σ[j]? with
 | some v=>v
 | none=>none
def tLC (wi:TI) (caps:List Nat) (tc:TT) (te:TE):TE:=fun σ H Q=>wi σ H fun J H1=>∃ W:Nat→Nat→List V→Hp→Prop,(∃ m,W 0 m [] H1)∧∀ i m ys H,W i m ys H→
 (J.stop i H∧∀ p,H p=none→Q (.ref p) (upd H p (.lst ys)))∨
 (J.go i H∧ys.length < sizeLine∧∀ x H',J.Yj i H x H'→tc (some x :: caps.map (pick σ)) H' fun k H2=>if k=true then te (some x :: caps.map (pick σ)) H2 (fun y H3=>∃ m',m' < m∧W (i + 1) m' (ys ++ [y]) H3) else ∃ m',m' < m∧W (i + 1) m' ys H2)
def vG:TT:=fun _ H Q=>Q true H
theorem zX {σ:St}{H:Hp}{Q:Bool→Hp→Prop} (h:Q true H):vG σ H Q:=h
theorem Zkp {r r':R2}{ta tb tc:TE}{σ:St}{H:Hp}{Q:VK} (h:ta σ H fun x H1=>tb σ H1 fun y H2=>r x y H2 (kB fun k H3=>if k=true then tc σ H3 (fun w H4=>r' y w H4 Q) else Q (.bl false) H3)):Ys r r' ta tb tc σ H Q:=h
end G
namespace G
open PySem L2
def Zcb (z:Str) (n:Int):Str:=⟨(List.replicate n.toNat z.cps.toList).flatten.toArray⟩
def Zb3:R2:=fun x y H Q=>∃ z k,x=.str z∧y=.int k∧0≤k∧k≤1000∧z.length≤1000∧∀ t:Str,t.length≤1000000→t=Zcb z k→Q (.str t) H
theorem Zh1 {z:Str}{k:Int}{H:Hp}{Q:VK} (h0:0≤k) (h1:k≤1000) (h2:z.length≤1000) (h:∀ t:Str,t.length≤1000000→t=Zcb z k→Q (.str t) H):Zb3 (.str z) (.int k) H Q:=⟨z,k,rfl,rfl,h0,h1,h2,h⟩
end G
namespace G
open PySem L2
structure EqD (K:aC) (C:Addr):Prop where
 eq:PySem.W.findIn K (.ref C) "__eq__"=some (some (.builtin "object.__eq__"))
 ob:PySem.W.mroIn K C (.type "object")=some true
end G
namespace G
open PySem L2
def Fp (C:Addr) (E:XK) (ta:TA):TS:=fun _ σ H=>ta σ H fun vs H1=>vs.length≤100∧E (.ref C) none H1
def Yt (sp:Sp) (tH:List V) (E:St→XK) (t:TA):TE:=fun σ H Q=>t σ H fun vs H1=>sp (vs ++ tH) H1 Q (E σ)
def Zmb (Mt:Value→Prop) (tb:(St→XK)→TS) (th:TS):TS:=fun D σ H=>tb (fun σ' cls _ H'=>Mt cls∧th D σ' H') D σ H
section
variable {σ:St}{H:Hp}{Q:VK}{n:St→Hp→Prop}{r:VK}{b c:St→Hp→Prop}{te:TE}{t:TA}
theorem Zke {C:Addr}{E:XK} (h:t σ H fun vs H1=>vs.length≤100∧E (.ref C) none H1):Fp C E t ⟨n,r,b,c⟩ σ H:=h
theorem Zkq {sp:Sp}{tH:List V}{E:St→XK} (h:t σ H fun vs H1=>sp (vs ++ tH) H1 Q (E σ)):Yt sp tH E t σ H Q:=h
theorem Zq1 {Mt:Value→Prop}{tb:(St→XK)→TS}{th:TS} (h:tb (fun σ' cls _ H'=>Mt cls∧th ⟨n,r,b,c⟩ σ' H') ⟨n,r,b,c⟩ σ H):Zmb Mt tb th ⟨n,r,b,c⟩ σ H:=h
end
theorem Zo3 {to ti:TE}{ts:Zli}{x:V}{σ:St}{H:Hp}{Q:St→Hp→Prop} (h:to σ H fun o H1=>ti σ H1 fun i H2=>ts o i x H2 fun H3=>Q σ H3):MF to ti ts x σ H Q:=h
def Ng (K:aC):List V→Hp→VK→Prop:=fun xs H Q=>∃ (p:Addr) (ys:List V),xs=[.ref p]∧dz K H p ys∧∀ l,H l=none→Q (.ref l) (upd H l (.lst ys))
theorem Uu {K:aC}{H:Hp}{Q:VK}{p:Addr}{ys:List V} (h1:dz K H p ys) (h:∀ l,H l=none→Q (.ref l) (upd H l (.lst ys))):Ng K [.ref p] H Q:=⟨p,ys,rfl,h1,h⟩
def OkN (K:aC) (H:Hp) (xs:List V):Prop:=∀ y∈xs,y=.non∨∃ a C dx fs,y=.ref a∧H a=some (.ins C dx fs)∧CW K C∧EqD K C
def Zmn (K:aC) (neg:Bool):R2:=fun x y H Q=>∃ p xs,x=.non∧y=.ref p∧dz K H p xs∧OkN K H xs∧Q (.bl (if neg then !decide (V.non∈xs) else decide (V.non∈xs))) H
theorem Zh2 {K:aC}{H:Hp}{Q:VK}{p:Addr}{xs:List V} (h1:dz K H p xs) (h2:OkN K H xs) (h:Q (.bl (!decide (V.non∈xs))) H):Zmn K true .non (.ref p) H Q:=⟨p,xs,rfl,rfl,h1,h2,h⟩
def Zb4 (K:aC):V→List V→Hp→VK→Prop:=fun x vs H Q=>∃ p xs,x=.ref p∧vs=[.non]∧dz K H p xs∧OkN K H xs∧V.non∈xs∧Q (.int (xs.idxOf V.non)) H
def eqL (xs ys:List V):Bool:=xs.length == ys.length && (xs.zip ys).all fun p=>Yh p.1 p.2
def Zmo (K:aC) (neg:Bool):R2:=fun x y H Q=>∃ p q xs ys,x=.ref p∧y=.ref q∧dz K H p xs∧dz K H q ys∧(xs.length=ys.length→xs.all yl=true∧ys.all yl=true)∧Q (.bl (if neg then !eqL xs ys else eqL xs ys)) H
theorem Zo5 {K:aC}{H:Hp}{Q:VK}{p q:Addr}{xs:List V} (h1:dz K H p xs) (h2:dz K H q []) (h:Q (.bl (decide (xs=[]))) H):Zmo K false (.ref p) (.ref q) H Q:=by
 refine ⟨p,q,_,_,rfl,rfl,h1,h2,fun e=>?_,?_⟩
 ·have:xs=[]:=List.length_eq_zero_iff.mp e;subst this;exact ⟨rfl,rfl⟩
 ·have e:eqL xs []=decide (xs=[]):=by cases xs<;>rfl
  show Q (.bl (eqL xs [])) H;rw [e];exact h
def Fm (S:List Addr) (H H':Hp):Prop:=∀ b o,H b=some o→b∉S→H' b=some o
theorem Fm.same {H H':Hp} (a:Fm [] H H'):aX H H':=fun c o h=>a c o h (fun z=>nomatch z)
def fz (S:List Addr) (H:Hp):Hp:=fun b=>if b∈S then none else H b
theorem Z5 {x:V}{H:Hp}{Q:VK} (h:Q (.bl (!decide (x=.non))) H):Bl x .non H Q:=⟨rfl,h⟩
def LCg (J:It) (caps:List Nat) (tc:TT) (te:TE) (σ:St) (H:Hp) (Q:VK):Prop:=∃ W:Nat→Nat→List V→Hp→Prop,(∃ m,W 0 m [] H)∧∀ i m ys H,W i m ys H→
 (J.stop i H∧∀ p,H p=none→Q (.ref p) (upd H p (.lst ys)))∨
 (J.go i H∧ys.length < sizeLine∧∀ x H',J.Yj i H x H'→tc (some x :: caps.map (pick σ)) H' fun k H2=>if k=true then te (some x :: caps.map (pick σ)) H2 (fun y H3=>∃ m',m' < m∧W (i + 1) m' (ys ++ [y]) H3) else ∃ m',m' < m∧W (i + 1) m' ys H2)
theorem Jm {wi:TI}{caps:List Nat}{tc:TT}{te:TE}{σ:St}{H:Hp}{Q:VK} (h:wi σ H fun J H1=>LCg J caps tc te σ H1 Q):tLC wi caps tc te σ H Q:=h
theorem Zgq {J:It}{caps:List Nat}{tc:TT}{te:TE}{σ:St}{H:Hp}{Q:VK} (k:Nat) (hz:k≤1000000) (g:Nat→Option V)
  (hstop:J.stop k H) (hgo:∀ i,i < k→J.go i H) (hy:∀ i x H',i < k→J.Yj i H x H'→H'=H∧(∀ q:Bool→Hp→Prop,q (g i).isSome H→tc (some x :: caps.map (pick σ)) H q)∧∀ (y:V) (q:VK),g i=some y→q y H→te (some x :: caps.map (pick σ)) H q)
  (q:∀ p,H p=none→Q (.ref p) (upd H p (.lst ((List.range k).filterMap g)))):
  LCg J caps tc te σ H Q:=by
 refine ⟨fun i m ys H'=>H'=H∧i≤k∧m=k - i∧ys=(List.range i).filterMap g,⟨k,rfl,Nat.zero_le _,rfl,rfl⟩,?_⟩;rintro i m ys _ ⟨rfl,hi,rfl,rfl⟩
 by_cases hk:i=k
 ·subst hk;exact .inl ⟨hstop,q⟩
 ·have hlt:i < k:=by omega
  refine .inr ⟨hgo i hlt,?_,fun x H' y=>?_⟩
  ·refine Nat.lt_of_le_of_lt (Nat.le_trans (List.length_filterMap_le _ _) ?_) (show 1000000 < sizeLine by decide);rw [List.length_range];omega
  ·obtain ⟨rfl,h1,h2⟩:=hy i x H' hlt y;refine h1 _ ?_;have er:List.filterMap g (List.range (i + 1))=List.filterMap g (List.range i) ++ (match g i with | some y=>[y] | none=>[]):=by
    rw [List.range_succ,List.filterMap_append];cases e:g i with
    | none=>rw [List.filterMap_cons_none e];rfl
    | some y=>rw [List.filterMap_cons_some e];rfl
   cases e:g i with
   | none=>
    rw [e] at er;dsimp only [Option.isSome];refine Zgx ⟨k - (i + 1),by omega,rfl,by omega,rfl,?_⟩;rw [er,List.append_nil]
   | some y=>
    rw [e] at er;dsimp only [Option.isSome];refine Xe (h2 y _ e ⟨k - (i + 1),by omega,rfl,by omega,rfl,?_⟩);rw [er]
theorem UG (l:List Nat) (p:Nat→Bool) (f:Nat→V):l.filterMap (fun i=>if p i=true then some (f i) else none)=(l.filter p).map f:=by
 induction l with
 | nil=>rfl
 | cons a l ih=>
  by_cases h:p a=true
  ·rw [List.filterMap_cons_some (by rw [if_pos h]),List.filter_cons_of_pos h,List.map_cons,ih]
  ·rw [List.filterMap_cons_none (by rw [if_neg h]),List.filter_cons_of_neg h,ih]
theorem Zgr {caps:List Nat}{tc:TT}{te:TE}{σ:St}{H:Hp}{Q:VK}{n:Nat}{z:Int} (ez:z.toNat=n) (p:Nat→Bool) (f:Nat→V) (hz:n≤1000000)
  (htc:∀ i,i < n→∀ q:Bool→Hp→Prop,q (p i) H→tc (some (.int i) :: caps.map (pick σ)) H q)
  (hte:∀ i,i < n→p i=true→∀ q:VK,q (f i) H→te (some (.int i) :: caps.map (pick σ)) H q)
  (q:∀ l,H l=none→Q (.ref l) (upd H l (.lst (((List.range n).filter p).map f)))):
  LCg (Itr 0 z.toNat) caps tc te σ H Q:=by
 subst ez;refine Zgq z.toNat hz (fun i=>if p i=true then some (f i) else none) (Nat.le_refl _) (fun i hi=>hi) (fun i x H' hi y=>?_) ?_
 ·obtain ⟨e1,e2⟩:=y;have ex:x=.int i:=by rw [e2];simp
  refine ⟨e1,fun q hq=>?_,fun y q hy hq=>?_⟩
  ·rw [ex];refine htc i hi q ?_;cases e:p i with
   | true=>rw [e] at hq;exact hq
   | false=>rw [e] at hq;exact hq
  ·rw [ex];cases e:p i with
   | true=>
    rw [e] at hy;have ey:f i=y:=by simpa using hy
    exact hte i hi e q (by rw [ey];exact hq)
   | false=>rw [e] at hy;simp at hy
 ·rw [UG];exact q
theorem Zbg {K:aC}{a:Addr}{xs:List V}{caps:List Nat}{tc:TT}{te:TE}{σ:St}{H:Hp}{Q:VK} (hs:dz K H a xs) (g:Nat→Option V) (hz:xs.length≤1000000)
  (hy:∀ i x,xs[i]? =some x→(∀ q:Bool→Hp→Prop,q (g i).isSome H→tc (some x :: caps.map (pick σ)) H q)∧∀ (y:V) (q:VK),g i=some y→q y H→te (some x :: caps.map (pick σ)) H q)
  (q:∀ p,H p=none→Q (.ref p) (upd H p (.lst ((List.range xs.length).filterMap g)))):
  LCg (Itl K a) caps tc te σ H Q:=by
 refine Zgq xs.length hz g ⟨xs,hs,Nat.le_refl _⟩ (fun i hi=>⟨xs,xs[i],hs,bW hi⟩) (fun i x H' hi y=>?_) q;obtain ⟨e1,e2⟩:=y;exact ⟨e1,hy i x (e2 xs hs)⟩
theorem rM {n i:Nat} (h:i < n):ixN n (i:Int)=some i:=by
 unfold ixN;rw [if_pos (by omega),if_pos (by omega)];simp
theorem Zkd {n:Nat}{i:Int} (h0:0≤i) (h:i.toNat < n):ixN n i=some i.toNat:=by
 have e:i=((i.toNat:Nat):Int):=by omega
 have:=rM h;rw [← e] at this;exact this
theorem o9 {α:Type}{xs:List α}{i:Int}{v:α} (h0:0≤i) (h:xs[i.toNat]? =some v):Yi xs i=some v:=by
 have e:i=((i.toNat:Nat):Int):=by omega
 have:=jL h;rw [← e] at this;exact this
end G
namespace G
open PySem L2
inductive Al {α β:Type} (P:α→β→Prop):List α→List β→Prop
 | nil:Al P [] []
 | cons {x:α}{y:β}{xs:List α}{ys:List β}:P x y→Al P xs ys→Al P (x :: xs) (y :: ys)
section
variable {α β:Type}{P P':α→β→Prop}{xs:List α}{ys:List β}
theorem Al.length (h:Al P xs ys):xs.length=ys.length:=by
 induction h with
 | nil=>rfl
 | cons _ _ ih=>rw [List.length_cons,List.length_cons,ih]
theorem Al.mono (h:Al P xs ys) (f:∀ x y,P x y→P' x y):Al P' xs ys:=by
 induction h with
 | nil=>exact .nil
 | cons p _ ih=>exact .cons (f _ _ p) ih
theorem Al.get (h:Al P xs ys):∀ {i:Nat}{y:β},ys[i]? =some y→∃ x,xs[i]? =some x∧P x y:=by
 induction h with
 | nil=>intro i y e;simp at e
 | cons p _ ih=>
  intro i y e;cases i with
  | zero=>simp at e;subst e;exact ⟨_,rfl,p⟩
  | succ i=>
   obtain ⟨x,e1,e2⟩:=ih (i:=i) (y:=y) (by simpa using e);exact ⟨x,by simpa using e1,e2⟩
end
end G
namespace G
open PySem L2
abbrev Tg:=Addr→Nat×Nat
def WT (H:Hp) (T:Tg):Prop:=∀ b,H b=none→T b=(0,0)
structure iG (s:Nat) (H H':Hp) (T T':Tg):Prop where
 kp:∀ b o,H b=some o→(T b).1≠s→H' b=some o
 al:∀ b o,H b=some o→∃ o',H' b=some o'
 tg:∀ b o,H b=some o→T' b=T b
 wt:WT H' T'
def jq (T:Tg) (a:Addr) (v:Nat×Nat):Tg:=fun x=>if x=a then v else T x
theorem iB {T:Tg}{a:Addr}{v:Nat×Nat}:jq T a v a=v:=by unfold jq;rw [if_pos rfl]
theorem jX {T:Tg}{a b:Addr}{v:Nat×Nat} (h:b≠a):jq T a v b=T b:=by unfold jq;rw [if_neg h]
theorem WT.same {H H':Hp}{T:Tg} (w:WT H T) (s:aX H H'):WT H' T:=fun b h=>w b (s.free h)
theorem iG.refl {s:Nat}{H:Hp}{T:Tg} (w:WT H T):iG s H H T T:=⟨fun _ _ h _=>h,fun _ o h=>⟨o,h⟩,fun _ _ _=>rfl,w⟩
theorem iG.same {s:Nat}{H H':Hp}{T:Tg} (w:WT H T) (e:aX H H'):iG s H H' T T:=⟨fun b o h _=>e b o h,fun b o h=>⟨o,e b o h⟩,fun _ _ _=>rfl,w.same e⟩
theorem iG.trans {s:Nat}{H H1 H2:Hp}{T T1 T2:Tg} (a:iG s H H1 T T1) (b:iG s H1 H2 T1 T2):iG s H H2 T T2 where
 kp:=fun x o h n=>b.kp x o (a.kp x o h n) (by rw [a.tg x o h];exact n)
 al:=fun x o h=>by
  obtain ⟨o1,h1⟩:=a.al x o h;exact b.al x o1 h1
 tg:=fun x o h=>by
  obtain ⟨o1,h1⟩:=a.al x o h;rw [b.tg x o1 h1,a.tg x o h]
 wt:=b.wt
theorem iG.upd {s:Nat}{H:Hp}{T:Tg}{a:Addr}{o o':HO} (w:WT H T) (ha:H a=some o) (ht:(T a).1=s):iG s H (L2.upd H a o') T T where
 kp:=fun x u h n=>by
  have:x≠a:=fun e=>n (by rw [e];exact ht);rw [aB this];exact h
 al:=fun x u h=>by
  by_cases e:x=a
  ·exact ⟨o',by rw [e,aq]⟩
  ·exact ⟨u,by rw [aB e];exact h⟩
 tg:=fun _ _ _=>rfl
 wt:=fun b h=>w b (by
  by_cases e:b=a
  ·rw [e,aq] at h;cases h
  ·rw [aB e] at h;exact h)
theorem Ma {T:Tg}{a b:Addr}{x y:Nat×Nat} (ha:T a=x) (hb:T b=y) (h:x≠y):a≠b:=fun e=>h (by rw [← ha,← hb,e])
end G
namespace G
open PySem L2
theorem Zgs {J:It}{caps:List Nat}{tc:TT}{te:TE}{σ:St}{H:Hp}{Q:VK} (k:Nat) (hz:k≤1000000) (R:Nat→V→Hp→Prop) (mono:∀ i y H1 H2,R i y H1→aX H1 H2→R i y H2)
  (hstop:∀ H',aX H H'→J.stop k H') (hgo:∀ i H',i < k→aX H H'→J.go i H')
  (hy:∀ i x H1 H',i < k→aX H H1→J.Yj i H1 x H'→H'=H1∧(∀ q:Bool→Hp→Prop,q true H1→tc (some x :: caps.map (pick σ)) H1 q)∧∀ q:VK,(∀ y H2,aX H1 H2→R i y H2→q y H2)→te (some x :: caps.map (pick σ)) H1 q)
  (q:∀ ys H',aX H H'→ys.length=k→(∀ (i:Nat) y,ys[i]? =some y→R i y H')→∀ p,H' p=none→Q (.ref p) (upd H' p (.lst ys))):
  LCg J caps tc te σ H Q:=by
 refine ⟨fun i m ys H'=>aX H H'∧i≤k∧m=k - i∧ys.length=i∧∀ (j:Nat) y,ys[j]? =some y→R j y H',⟨k,aX.refl _,Nat.zero_le _,rfl,rfl,fun j y e=>by simp at e⟩,?_⟩;rintro i m ys H1 ⟨s1,hi,rfl,hl,hr⟩
 by_cases hk:i=k
 ·subst hk;exact .inl ⟨hstop H1 s1,q ys H1 s1 hl hr⟩
 ·have hlt:i < k:=by omega
  refine .inr ⟨hgo i H1 hlt s1,Nat.lt_of_le_of_lt (show ys.length≤1000000 by omega) (show 1000000 < sizeLine by decide),fun x H' y=>?_⟩;obtain ⟨rfl,h1,h2⟩:=hy i x H1 H' hlt s1 y;refine h1 _ (Xe (h2 _ fun y H2 s2 r=>⟨k - (i + 1),by omega,s1.trans s2,by omega,rfl,by rw [List.length_append,hl];rfl,fun j z e=>?_⟩))
  by_cases hj:j < ys.length
  ·rw [List.getElem?_append_left hj] at e;exact mono j z _ _ (hr j z e) s2
  ·have hj':=(dN e).1;rw [List.length_append,List.length_singleton] at hj';have ej:j=ys.length:=by omega
   subst ej;rw [List.getElem?_append_right (Nat.le_refl _),Nat.sub_self] at e;cases e;rw [hl];exact r
theorem Zk5 {caps:List Nat}{tc:TT}{te:TE}{σ:St}{H:Hp}{Q:VK}{n:Nat}{z:Int} (ez:z.toNat=n) (hz:n≤1000000) (R:Nat→V→Hp→Prop) (mono:∀ i y H1 H2,R i y H1→aX H1 H2→R i y H2)
  (htc:∀ i H1,∀ q:Bool→Hp→Prop,q true H1→tc (some (.int i) :: caps.map (pick σ)) H1 q)
  (hte:∀ (i:Nat) H1,i < n→aX H H1→∀ q:VK,(∀ y H2,aX H1 H2→R i y H2→q y H2)→te (some (.int i) :: caps.map (pick σ)) H1 q)
  (q:∀ ys H',aX H H'→ys.length=n→(∀ (i:Nat) y,ys[i]? =some y→R i y H')→∀ p,H' p=none→Q (.ref p) (upd H' p (.lst ys))):LCg (Itr 0 z.toNat) caps tc te σ H Q:=by
 subst ez;refine Zgs z.toNat hz R mono (fun _ _=>Nat.le_refl _) (fun i _ hi _=>hi) (fun i x H1 H' hi s1 y=>?_) q;obtain ⟨e1,e2⟩:=y;have ex:x=.int i:=by rw [e2];simp
 subst ex;exact ⟨e1,htc i H1,fun q hq=>hte i H1 hi s1 q hq⟩
theorem Zk6 {J:It}{caps:List Nat}{tc:TT}{te:TE}{σ:St}{H:Hp}{Q:VK} (k:Nat) (hz:k≤1000000) (R:Nat→Addr→Hp→Prop) (mono:∀ i y H1 H2,R i y H1→aX H1 H2→R i y H2) (al:∀ i y H1,R i y H1→∃ o,H1 y=some o)
  (hstop:∀ H',aX H H'→J.stop k H') (hgo:∀ i H',i < k→aX H H'→J.go i H')
  (hy:∀ i x H1 H',i < k→aX H H1→J.Yj i H1 x H'→H'=H1∧(∀ q:Bool→Hp→Prop,q true H1→tc (some x :: caps.map (pick σ)) H1 q)∧∀ q:VK,(∀ r H2,aX H1 H2→H1 r=none→R i r H2→q (.ref r) H2)→te (some x :: caps.map (pick σ)) H1 q)
  (q:∀ (rs:List Addr) H',aX H H'→rs.length=k→rs.Nodup→(∀ r∈rs,H r=none)→(∀ (i:Nat) r,rs[i]? =some r→R i r H')→∀ p,H' p=none→Q (.ref p) (upd H' p (.lst (rs.map V.ref)))):
  LCg J caps tc te σ H Q:=by
 refine ⟨fun i m ys H'=>∃ rs:List Addr,ys=rs.map V.ref∧aX H H'∧i≤k∧m=k - i∧rs.length=i∧rs.Nodup∧(∀ r∈rs,H r=none)∧∀ (j:Nat) r,rs[j]? =some r→R j r H',⟨k,[],rfl,aX.refl _,Nat.zero_le _,rfl,rfl,List.nodup_nil,fun r hr=>(nomatch hr),fun j y e=>by simp at e⟩,?_⟩;rintro i m _ H1 ⟨rs,rfl,s1,hi,rfl,hl,nd,nn,hr⟩
 by_cases hk:i=k
 ·subst hk;exact .inl ⟨hstop H1 s1,q rs H1 s1 hl nd nn hr⟩
 ·have hlt:i < k:=by omega
  refine .inr ⟨hgo i H1 hlt s1,Nat.lt_of_le_of_lt (show (rs.map V.ref).length≤1000000 by rw [bD];omega) (show 1000000 < sizeLine by decide),fun x H' y=>?_⟩;obtain ⟨rfl,h1,h2⟩:=hy i x H1 H' hlt s1 y;refine h1 _ (Xe (h2 _ fun r H2 s2 nr rr=>⟨k - (i + 1),by omega,rs ++ [r],by rw [List.map_append];rfl,s1.trans s2,by omega,rfl,by rw [List.length_append,hl];rfl,?_,fun z hz=>?_,fun j z e=>?_⟩))
  ·rw [List.nodup_append];refine ⟨nd,by simp,fun a ha b hb e=>?_⟩;rw [List.mem_singleton.mp hb] at e;subst e;obtain ⟨j,hj,ej⟩:=List.getElem_of_mem ha;obtain ⟨o,ho⟩:=al j a _ (hr j a (by rw [bW hj,ej]));rw [nr] at ho;cases ho
  ·rcases List.mem_append.mp hz with hz | hz
   ·exact nn z hz
   ·rw [List.mem_singleton.mp hz];exact s1.free nr
  ·by_cases hj:j < rs.length
   ·rw [List.getElem?_append_left hj] at e;exact mono j z _ _ (hr j z e) s2
   ·have hj':=(dN e).1;rw [List.length_append,List.length_singleton] at hj';have ej:j=rs.length:=by omega
    subst ej;rw [List.getElem?_append_right (Nat.le_refl _),Nat.sub_self] at e;cases e;rw [hl];exact rr
theorem Mp {K:aC}{a:Addr}{xs:List V}{caps:List Nat}{tc:TT}{te:TE}{σ:St}{H:Hp}{Q:VK} (hs:dz K H a xs) (hz:xs.length≤1000000) (R:Nat→Addr→Hp→Prop) (mono:∀ i y H1 H2,R i y H1→aX H1 H2→R i y H2) (al:∀ i y H1,R i y H1→∃ o,H1 y=some o)
  (htc:∀ x H1,∀ q:Bool→Hp→Prop,q true H1→tc (some x :: caps.map (pick σ)) H1 q)
  (hte:∀ (i:Nat) x H1,xs[i]? =some x→aX H H1→∀ q:VK,(∀ r H2,aX H1 H2→H1 r=none→R i r H2→q (.ref r) H2)→te (some x :: caps.map (pick σ)) H1 q)
  (q:∀ (rs:List Addr) H',aX H H'→rs.length=xs.length→rs.Nodup→(∀ r∈rs,H r=none)→(∀ (i:Nat) r,rs[i]? =some r→R i r H')→∀ p,H' p=none→Q (.ref p) (upd H' p (.lst (rs.map V.ref)))):LCg (Itl K a) caps tc te σ H Q:=by
 refine Zk6 xs.length hz R mono al (fun H' s=>⟨xs,s.seq hs,Nat.le_refl _⟩) (fun i H' hi s=>⟨xs,xs[i],s.seq hs,bW hi⟩) (fun i x H1 H' hi s1 y=>?_) q;obtain ⟨e1,e2⟩:=y;exact ⟨e1,htc x H1,fun q hq=>hte i x H1 (e2 xs (s1.seq hs)) s1 q hq⟩
end G
namespace G
open PySem L2 PySem.Spec PyProof.Rows
theorem boot_len:bootBuiltins "len"=some (.builtin "len"):=by decide +kernel
theorem boot_list:bootBuiltins "list"=some (.type "list"):=by decide +kernel
structure Zp9 (K:aC) (x qual:Str) (st:Stmt) (f:Addr) (fd:FuncData):Prop where
 ex:∃ (oc:Value) (od:Option Addr) (dV kV doc pm:Value) (an:Option Addr) (cdv ct:Value) (osl:Array (Option Value)),
  fd=PySem.W.fnOf x qual (lV st) (jz st) (aF st) dV kV doc pm an cdv ct∧K.lookup f=some ⟨oc,od,.func fd,osl⟩∧PySem.W.codeIn K cdv qual=true
 kp:PySem.W.keepIn K (.ref f)=true
section
variable {P:Program}{w:World}{K:aC}{mg:Str→Option Value}{base:Heap}
theorem Zl1 {x qual:Str}{st:Stmt}{f:Addr}{oc dV:Value}{od an:Option Addr}{osl:Array (Option Value)}{kV doc pm cdv ct:Value} (l:K.lookup f=some ⟨oc,od,.func (PySem.W.fnOf x qual (lV st) (jz st) (aF st) dV kV doc pm an cdv ct),osl⟩)
  (c:PySem.W.codeIn K cdv qual=true) (k:PySem.W.keepIn K (.ref f)=true):Zp9 K x qual st f (PySem.W.fnOf x qual (lV st) (jz st) (aF st) dV kV doc pm an cdv ct):=⟨⟨oc,od,dV,kV,doc,pm,an,cdv,ct,osl,rfl,l,c⟩,k⟩
theorem Zat {f td:Addr}{oc tc:Value}{od to_:Option Addr}{osl ts:Array (Option Value)}{fd:FuncData}{items:Array Value}{tn:Nat}{ps:List Str}{ds:List Value} (_:K.lookup f=some ⟨oc,od,.func fd,osl⟩) (t:K.lookup td=some ⟨tc,to_,.seq items tn,ts⟩)
  (h:∀ us:List Value,us.length + ds.length=ps.length→∃ k,bindArgs fd ⟨us,[]⟩=seqItems? (.ref td) >>= k∧k (some items)=pure (ps.zip (us ++ ds))) (hd:fd.defaults=.ref td:=by rfl):Binds K fd ps ds:=by
 intro s us KX hl;obtain ⟨k,h1,h2⟩:=h us (by rw [List.length_append] at hl;exact hl);exact BindsTo.of_defaults hd (KX _ _ t) rfl (by rw [h1,hd]) h2
end
section
variable {X:Cx}
theorem xO:yt X (compareOp .Is) K8:=Zmy
theorem zO:yt X (compareOp .IsNot) Bl:=Zjn
theorem gw:Np X (.builtin "len") (pK X.K):=Vc
def kk (t n:String):Option Bool:=if (Value.type t == Value.type n)=true then some true else if PySem.W.kitMeta n=true then (fastBuiltinMro t).map (·.contains (.type n)) else none
end
end G
namespace G
open PySem L2 PySem.Spec PyProof.Rows
section
variable {X:Cx}
def GC (mg:Str→Option Value) (x:Str) (v:V):Prop:=∃ u,mg x=some u∧RelV v u
theorem GC.pe {x:Str}{v:V}{pos:Pos} (h:GC X.mg x v) (hg:Gl X x) (hd:(x == ("__debug__":Str))=false:=by decide):PE X (.Name x pos) (tC v):=by
 obtain ⟨u,hm,r⟩:=h;exact Zjk hg hm r hd
end
end G
namespace G
open PySem L2 PySem.Spec PyProof.Rows
section
variable {X:Cx}
theorem Zk1 (z:Str) (k:Int):Txt.mul z k=Zcb z k:=by
 unfold Txt.mul Zcb;have fl:∀ (n:Nat) (acc:List Nat),List.foldl (fun x1 x2=>x1 ++ x2) acc.toArray (List.replicate n z.cps)=(acc ++ (List.replicate n z.cps.toList).flatten).toArray:=by
  intro n
  induction n with
  | zero=>intro acc;simp
  | succ n ih=>
   intro acc;rw [List.replicate_succ,List.replicate_succ,List.foldl_cons,List.flatten_cons];have e:acc.toArray ++ z.cps=(acc ++ z.cps.toList).toArray:=by simp
   rw [e,ih,List.append_assoc]
 split
 ·rename_i h
  have e:k.toNat=0:=by omega
  rw [e];rfl
 ·rename_i h
  split
  ·rename_i h2
   rw [Bool.or_eq_true] at h2;rcases h2 with h2 | h2
   ·have e:k.toNat=1:=by have:=beq_iff_eq.mp h2;omega
    rw [e];simp
   ·have e:z.cps=#[]:=Array.eq_empty_of_size_eq_zero (beq_iff_eq.mp h2);obtain ⟨zc⟩:=z;dsimp only at e;subst e;have:∀ n:Nat,(List.replicate n ([]:List Nat)).flatten=[]:=fun n=>by
     induction n with
     | zero=>rfl
     | succ n ih=>rw [List.replicate_succ,List.flatten_cons,ih];rfl
    simp [this]
  ·have:=fl k.toNat [];simp only [List.nil_append] at this;show (⟨List.foldl (fun x1 x2=>x1 ++ x2) #[] (List.replicate k.toNat z.cps)⟩:Str)=_;rw [this]
theorem K5 (z:Str) (k:Int):(Zcb z k).length=k.toNat * z.length:=by
 show (List.toArray _).size=_;rw [List.size_toArray];have:∀ n:Nat,(List.replicate n z.cps.toList).flatten.length=n * z.length:=fun n=>by
  induction n with
  | zero=>simp
  | succ n ih=>rw [List.replicate_succ,List.flatten_cons,List.length_append,ih,str_len,Nat.succ_mul,Nat.add_comm]
 exact this _
theorem Zb7:yt X (binaryOp .Mult) Zb3:=by
 intro pins s σ H x y v u Q I rx ry h;obtain ⟨z,k,rfl,rfl,h0,h1,h2,q⟩:=h;obtain ⟨t,rfl⟩:=rx;obtain ⟨t',rfl⟩:=ry;have hb:k.toNat * z.length≤1000000:=Nat.le_trans (Nat.mul_le_mul (show k.toNat≤1000 by omega) h2) (by decide);refine SB.mul ⟨?_,fun h3 _=>?_,fun h3 _=>?_⟩ fun t'' kk=>?_
 ·simp;omega
 ·intro z1;have:(z.length:Int)≤1000:=by omega
  have e:(1000:Int) < (2 ^ 63 - 1) / k:=by
   have hk:0 < k:=by omega
   rw [Int.lt_iff_add_one_le,Int.le_ediv_iff_mul_le hk];omega
  omega
 ·unfold Builtin.Str.tooLong;have:z.length * k.toNat≤1000000:=by rw [Nat.mul_comm];exact hb
  simp;exact Nat.le_trans this (by decide)
 ·rw [Zk1];exact ⟨.str (Zcb z k),H,I.tok _,⟨_,rfl⟩,q _ (by rw [K5];exact hb) rfl⟩
end
end G
namespace G
open PySem L2
end G
namespace G
open PySem L2 PySem.Spec PyProof.Rows
section
variable {X:Cx}{pins:List (Addr×Obj)}{σ:L2.St}{H:Hp}{s:Shared}{acc:Addr}{ys:List V}{its:List Value}{n:Nat}
theorem adopt (I:Inv X pins σ H s) (hf:pF X pins H acc) (ho:s.heap.get? acc=some { cls:=.type "list",data:=.seq its.toArray n }) (hv:Vals ys its) (hz:ys.length≤sizeLine):Inv X pins σ (upd H acc (.lst ys)) s:=by
 obtain ⟨f0,f1,f2,f3,f4,f5⟩:=hf;have ne:∀ b u,H b=some u→b≠acc:=fun b u e=>aD e f0;refine I.step (h':=s.heap) (g':=s.gens) (t':=s.toks) (d':=s.drawn) (ch:=[acc]) (fun b hb=>?_) (fun _ _ _ _ _ e _=>e) (fun b o _ _ _ e _=>⟨o.slots,e⟩) (fun b o hb e h0=>?_) (fun b o _ e=>⟨o,e⟩)
  (fun b xs e=>by rw [aB (ne b _ e)];exact e) (fun b o u e=>by rw [aB (ne b _ e)];exact e) (fun b ps e=>⟨#[],by rw [aB (ne b _ e),e];simp⟩) (fun m hm=>hm) (fun b u e=>?_) I.bare
 ·have e:b=acc:=by simpa using hb
  subst e;exact ⟨f3,f1,f4,f5⟩
 ·have e:b≠acc:=by simpa using hb
  rw [aB e];exact h0
 ·by_cases hb:b=acc
  ·subst hb;rw [aq] at e;cases e;exact ⟨hz,its,n,hv,ho⟩
  ·rw [aB hb] at e;exact (I.hok b u e).stay (fun _ _ _ q=>q) (fun c q=>by rw [aB (ne c _ q)];exact q) fun c xs q=>by rw [aB (ne c _ q)];exact q
theorem disown (I:Inv X pins σ (upd H acc (.lst ys)) s) (hf:pF X pins H acc):Inv X pins σ H s:=by
 obtain ⟨f0,f1,f2,f3,f4,f5⟩:=hf;have back:∀ b u,upd H acc (.lst ys) b=some u→u≠.lst ys→H b=some u:=fun b u e hne=>by
  by_cases hb:b=acc
  ·subst hb;rw [aq] at e;cases e;exact absurd rfl hne
  ·rw [aB hb] at e;exact e
 refine I.step (h':=s.heap) (g':=s.gens) (t':=s.toks) (d':=s.drawn) (ch:=[acc]) (fun b hb=>?_) (fun _ _ _ _ _ e _=>e) (fun b o _ _ _ e _=>⟨o.slots,e⟩) (fun b o hb e h0=>?_) (fun b o _ e=>⟨o,e⟩)
  (fun b xs e=>back b _ e (fun z=>nomatch z)) (fun b o u e=>back b _ e (fun z=>nomatch z)) (fun b ps e=>⟨#[],by rw [back b _ e (fun z=>nomatch z)];simp⟩) (fun m hm=>hm) (fun b u e=>?_) I.bare
 ·have e:b=acc:=by simpa using hb
  subst e;exact ⟨f3,f1,f4,f5⟩
 ·have e:b≠acc:=by simpa using hb
  rw [aB e] at h0;exact h0
 ·have hb:b≠acc:=aD e f0;have e':upd H acc (.lst ys) b=some u:=by rw [aB hb];exact e
  exact (I.hok b u e').stay (fun _ _ _ q=>q) (fun c q=>back c _ q (fun z=>nomatch z)) fun c xs q=>back c _ q (fun z=>nomatch z)
end
def PF (X:Cx) (ifs:List Expr) (t:TT):Prop:=
 ∀ (pins:List (Addr×Obj)) (s:Shared) (σ:L2.St) (H:Hp) (Q:Bool→Hp→Prop),Inv X pins σ H s→t σ H Q→
  wpAny (model X.prog X.w) X.A (forIn ifs true fun c r=>if r=true then do let ok ← isTrue c X.env (eval c X.env);pure (ForInStep.yield ok) else pure (ForInStep.yield r)) (TP X pins σ Q) X.xe s
theorem Cu {X:Cx}:PF X [] vG:=fun _ _ _ H _ I h=>wpAny_tests_nil ⟨H,I,h⟩
theorem Tt {X:Cx}{c:Expr}{t:TT} (h:PT X c t):PF X [c] t:=fun pins s σ H Q I q=>wpAny_tests_one (h pins s σ H Q I q)
def M7 (X:Cx) (scope:Scope) (cl:List (Str×Addr)) (N:List Str) (C:Addr) (s:Shared) (H:Hp) (ex:List Addr) (pn:List (Addr×Obj)):Cx:=
 { X with N:=N,s₀:=s,H₀:=H,env:=compEnvC scope cl C X.env,outer:=X.stack,ex:=ex,fn:=fun _=>false,pn:=pn,xe:=fun _ _=>False }
def AllIn (cells:List (Str×Addr)):List (Str×Addr)→Prop
 | []=>True
 | p :: r=>cells.lookup p.1=some p.2∧AllIn cells r
theorem AllIn.get {cells:List (Str×Addr)}:∀ {cl:List (Str×Addr)},AllIn cells cl→∀ {x:Str}{c:Addr},cl.lookup x=some c→cells.lookup x=some c
 | [],_,x,c,h=>by cases h
 | (y,d) :: r,a,x,c,h=>by
  cases e:(x == y) with
  | true=>
   rw [List.lookup_cons,e] at h;have e':x=y:=beq_iff_eq.mp e;subst e';cases h;exact a.1
  | false=>
   rw [List.lookup_cons,e] at h;exact AllIn.get a.2 h
def Ab (X:Cx):List Str→List Nat→Prop
 | [],[]=>True
 | y :: r,j :: js=>X.N[j]? =some y∧X.env.kindOf y=some .cell∧Ab X r js
 | _,_=>False
theorem Ab.len {X:Cx}:∀ {ns:List Str}{js:List Nat},Ab X ns js→ns.length=js.length
 | [],[],_=>rfl
 | [],_ :: _,h=>h.elim
 | _ :: _,[],h=>h.elim
 | _ :: r,_ :: js,h=>by rw [List.length_cons,List.length_cons,Ab.len h.2.2]
theorem Ab.get {X:Cx}{σ:L2.St}:∀ {ns:List Str}{js:List Nat},Ab X ns js→∀ {i:Nat}{x:Str}{v:V},ns[i]? =some x→(js.map (pick σ))[i]? =some (some v)→∃ j:Nat,X.N[j]? =some x∧X.env.kindOf x=some .cell∧σ[j]? =some (some v)
 | [],_,_,i,x,v,h,_=>by simp at h
 | _ :: _,[],h,_,_,_,_,_=>h.elim
 | y :: r,j :: js,h,0,x,v,h1,h2=>by
  simp at h1 h2;subst h1;refine ⟨j,h.1,h.2.1,?_⟩;unfold pick at h2;split at h2
  ·rename_i e;rw [e,h2]
  ·cases h2
 | y :: r,j :: js,h,i + 1,x,v,h1,h2=>Ab.get (i:=i) h.2.2 (by simpa using h1) (by simpa using h2)
theorem Zgm {x n:Str}{k:NameKind}{r:List (Str×NameKind)} (h:(x == n)=false):List.lookup x ((n,k) :: r)=List.lookup x r:=by rw [List.lookup_cons,h]
theorem Zgn {x n:Str}{k:NameKind}{r:List (Str×NameKind)} (h:(x == n)=true):List.lookup x ((n,k) :: r)=some k:=by rw [List.lookup_cons,h]
def za (env:Env) (x:Str) (k:NameKind):NameKind:=if (k == NameKind.free && env.scope.kind == .function && env.kindOf x == some .cell)=true then .cell else k
theorem mj {env:Env}{x:Str}:∀ {names:List (Str×NameKind)},
  (names.map fun (n,k)=>if (k == NameKind.free && env.scope.kind == .function && env.kindOf n == some .cell) then (n,NameKind.cell) else (n,k)).lookup x=(names.lookup x).map (za env x)
 | []=>rfl
 | (n,k') :: r=>by
  have ih:=@mj env x r;show List.lookup x ((if (k' == NameKind.free && env.scope.kind == .function && env.kindOf n == some .cell)=true then (n,NameKind.cell) else (n,k')) :: r.map fun (n,k)=>if (k == NameKind.free && env.scope.kind == .function && env.kindOf n == some .cell) then (n,NameKind.cell) else (n,k))=_;cases hx:x == n with
  | true=>
   have e:=beq_iff_eq.mp hx;subst e;rw [Zgn (k:=k') hx]
   by_cases hc:(k' == NameKind.free && env.scope.kind == .function && env.kindOf x == some .cell)=true
   ·rw [if_pos hc,Zgn hx];show some NameKind.cell=some (za env x k');unfold za;rw [if_pos hc]
   ·rw [if_neg hc,Zgn hx];show some k'=some (za env x k');unfold za;rw [if_neg hc]
  | false=>
   rw [Zgm (k:=k') (r:=r) hx]
   by_cases hc:(k' == NameKind.free && env.scope.kind == .function && env.kindOf n == some .cell)=true
   ·rw [if_pos hc,Zgm hx];exact ih
   ·rw [if_neg hc,Zgm hx];exact ih
theorem lookup_all {names:List (Str×NameKind)}{p:Str×NameKind→Bool}:∀ {x:Str}{k:NameKind},names.all p=true→names.lookup x=some k→p (x,k)=true:=by
 induction names with
 | nil=>intro x k _ h;simp at h
 | cons y r ih=>
  intro x k ha h;obtain ⟨n,k'⟩:=y;rw [List.all_cons,Bool.and_eq_true] at ha;cases hx:x == n with
  | true=>
   rw [List.lookup_cons,hx] at h;have e1:x=n:=beq_iff_eq.mp hx;have e2:k'=k:=Option.some.inj h;rw [e1,← e2];exact ha.1
  | false=>
   rw [List.lookup_cons,hx] at h;exact ih ha.2 h
theorem Jo {prog:Program}{w:World}{A:Around}{R:Result→Shared→Prop}{s:Shared}{elt target iter:Expr}{ifs:List Expr}{scope:Scope}{pos:Pos}{it acc:Value}{env:Env} (I:Nat→Shared→Prop)
  (turn:∀ n s,I n s→wpAny (model prog w) A (pyNext it) (fun r s₁=>match r with
   | none=>R (.ok .next) s₁
   | some v=>wpAny (model prog w) A (letOwnedTupleGo target it v) (fun _ s₁'=>wpAny (model prog w) A (assign target env v) (fun _ s₂=>
     wpAny (model prog w) A (forIn ifs true fun c r=>if r=true then do let ok ← isTrue c env (eval c env);pure (ForInStep.yield ok) else pure (ForInStep.yield r)) (fun ok s₃=>
      if ok=true then wpAny (model prog w) A (eval elt env) (fun x s₄=>
       wpAny (model prog w) A (call (.builtin "list.append") [acc,x]) (fun _ s₅=>∃ m,m < n∧I m s₅) (fun _ _=>False) s₄) (fun _ _=>False) s₃
      else ∃ m,m < n∧I m s₃) (fun _ _=>False) s₂) (fun _ _=>False) s₁') (fun _ _=>False) s₁) (fun _ _=>False) s)
  (n:Nat) (h:I n s):
  codeAny (model prog w) A (.compLoop (.ListComp elt [⟨target,iter,ifs,0⟩] scope pos) 0 it acc env) R s:=by
 refine codeAny_loop rfl I (fun n s hI=>?_) n h;show wpAny _ A ((compTurn (.ListComp elt [⟨target,iter,ifs,0⟩] scope pos) 0 it acc env).onRaise (fun x=>do noteFrame x env;theTreesLotGoes x)) _ _ s;refine wpAny_noted ?_;rw [compTurn_list];refine wpAny_bind (wpAny_standAt (wpAny_bind (wpAny_mono (turn n s hI) (fun r s₁ h₁=>?_) fun _ _ h'=>h'.elim)));cases r with
 | none=>exact wpAny_pure h₁
 | some v=>
  refine wpAny_bind (wpAny_mono h₁ (fun _ s₁' h₁'=>?_) fun _ _ h'=>h'.elim);refine wpAny_bind (wpAny_mono h₁' (fun _ s₂ h₂=>wpAny_bind (wpAny_mono h₂ (fun ok s₃ h₃=>?_) fun _ _ h'=>h'.elim)) fun _ _ h'=>h'.elim);cases ok with
  | false=>exact wpAny_pure ⟨rfl,h₃⟩
  | true=>
   exact wpAny_bind (wpAny_bind (wpAny_mono h₃ (fun x s₄ h₄=>wpAny_bind (wpAny_mono h₄ (fun _ s₅ h₅=>wpAny_pure (wpAny_pure ⟨rfl,h₅⟩)) fun _ _ h'=>h'.elim)) fun _ _ h'=>h'.elim))
theorem Zfl {X:Cx}{elt iter tg:Expr}{pos:Pos}{ifs:List Expr}{scope:Scope}{cl:List (Str×Addr)}{wi:TI}{tc:TT}{te:TE}{cns:List Str}{ns:List Str}{gt:TG}{R:It→L2.St→Hp→VK→Prop} (caps:List Nat)
  (hR:∀ J σ H Q,R J σ H Q→∃ W:Nat→Nat→List V→Hp→Prop,(∃ m,W 0 m [] H)∧∀ i m ys H,W i m ys H→
   (J.stop i H∧∀ p,H p=none→Q (.ref p) (upd H p (.lst ys)))∨
   (J.go i H∧ys.length < sizeLine∧∀ x H',J.Yj i H x H'→∀ vs:L2.St,vs.length=ns.length→∃ us:L2.St,us.length=ns.length∧gt x (vs ++ caps.map (pick σ)) H' (fun σ2 H2=>σ2=us ++ caps.map (pick σ)∧H2=H')∧tc (us ++ caps.map (pick σ)) H' fun k H2=>if k=true then te (us ++ caps.map (pick σ)) H2 (fun y H3=>∃ m',m' < m∧W (i + 1) m' (ys ++ [y]) H3) else ∃ m',m' < m∧W (i + 1) m' ys H2))
  (hi:PI X tg iter wi) (hg:∀ C s H ex pn,PG (M7 X scope cl (ns ++ cns) C s H ex pn) tg gt)
  (hf:∀ C s H ex pn,PF (M7 X scope cl (ns ++ cns) C s H ex pn) ifs tc) (he:∀ C s H ex pn,PE (M7 X scope cl (ns ++ cns) C s H ex pn) elt te) (hc:X.calm=true)
  (hclos:closureFor scope X.env=pure cl) (hcl:AllIn X.env.cells cl) (hcap:Ab X cns caps)
  (hkind:scope.kind=.function) (hcell:(scope.names.all fun p=>p.2 != .cell)=true) (hfree:(scope.names.all fun p=>p.2 != .free || (cl.lookup p.1).isSome)=true)
  (hcf:(cns.all fun y=>scope.names.lookup y == some .free)=true) (hnames:∀ y∈scope.names,y.2=.local→scope.names.lookup y.1=some .local)
  (hs:∀ v,foldedSetIterable iter X.env v=pure v):
  PE X (.ListComp elt [⟨tg,iter,ifs,0⟩] scope pos) (fun σ H Q=>wi σ H fun J H1=>R J σ H1 Q):=by
 intro pins s σ H Q I h;rw [eval_ListComp];refine wpAny_comprehension_free (use:=none) rfl hs hclos hkind hnames (iy (hi pins s σ H _ I h) fun xv s1 h1=>iy h1 fun itv s2 h2=>?_);obtain ⟨it,fp,tn,J,H2,rfl,I2,T,st2,f2,hr⟩:=h2;obtain ⟨W,⟨m0,w0⟩,turn⟩:=hR _ _ _ _ hr;have hne:∀ y∈scope.names,y.2≠.cell:=fun y hy e=>by
  have:=List.all_eq_true.mp hcell y hy;rw [e] at this;simp at this
 refine wpAny_newObj_type (wpAny_newFunctionEnv hne (by intro y hy;simp at hy) (fun h₁ hns₁ hsb₁=>?_) hkind);dsimp only at hns₁ hsb₁ ⊢;generalize hacc:s2.heap.objs.size=acc;generalize hH3:s2.heap.push { cls:=.type "list",dict:=none,data:=.seq ([]:List Value).toArray }=h3 at hns₁ hsb₁ ⊢;have hC:h3.objs.size=acc + 1:=by rw [← hH3,Heap.size_push,hacc]
 have Bb:∀ b o,s2.heap.get? b=some o→h3.get? b=some o:=fun b o e=>hH3 ▸ Heap.get?_push_of_some _ e;have O9:∀ b o,h3.get? b=some o→h₁.get? b=some o:=fun b o e=>hsb₁.extBut b o (Nat.ne_of_lt (Heap.lt_size e)) (Heap.get?_push_of_some _ e);have Zn5:h3.get? acc=some { cls:=.type "list",dict:=none,data:=.seq ([]:List Value).toArray }:=by
  rw [← hH3,← hacc];exact Heap.get?_push_size _ rfl
 have I3:Inv X pins σ H2 { s2 with heap:=h3 }:=I2.kept (t':=s2.toks) Bb;have Zac:pF X pins H2 acc:=I2.Xl (Nat.le_of_eq hacc) (I2.hok.fresh (Nat.le_of_eq hacc));have fpl:∀ b∈fp,b < acc:=fun b hb=>by
  obtain ⟨o,e,_⟩:=T.obj _ _ st2 b hb;rw [← hacc];exact Heap.lt_size e
 have HQ:∀ b∈acc :: fp,pF X pins H2 b:=fun b hb=>(List.mem_cons.mp hb).elim (fun e=>e ▸ Zac) (f2 b);have exC:∀ b∈acc :: fp,b≠h3.objs.size:=fun b hb=>by
  rcases List.mem_cons.mp hb with e | hb
  ·rw [hC,e];exact Nat.ne_of_lt (Nat.lt_succ_self _)
  ·rw [hC];exact Nat.ne_of_lt (Nat.lt_succ_of_lt (fpl b hb))
 have Bx:∀ b∈acc :: fp,b∉frs X.stack:=fun b hb hm=>by
  obtain ⟨_,g1,g2,_⟩:=HQ b hb;exact (List.mem_cons.mp (I2.yG b hm)).elim g1 g2
 let Y:Cx:=M7 X scope cl (ns ++ cns) h3.objs.size { s2 with heap:=h3 } H2 (acc :: fp) (X.pn ++ pins)
 have cellsOf:∀ y c,cl.lookup y=some c→X.env.cells.lookup y=some c:=fun y c e=>hcl.get e;have Em:∀ y k,Y.env.kindOf y=some k→(k=.cell∨k=.free)→∃ c,cl.lookup y=some c:=fun y k e hk=>by
  have e0:(scope.names.lookup y).map (za X.env y)=some k:=mj.symm.trans e;obtain ⟨k0,e1,e2⟩:=Option.map_eq_some_iff.mp e0;have e3:=lookup_all hfree e1;have e4:=lookup_all hcell e1
  by_cases hf:k0=.free
  ·subst hf;rw [Bool.or_eq_true] at e3;rcases e3 with e3 | e3
   ·exact absurd rfl (bne_iff_ne.mp e3)
   ·exact Option.isSome_iff_exists.mp e3
  ·exfalso
   have e5:za X.env y k0=k0:=by
    unfold za;rw [if_neg];intro z;rw [Bool.and_eq_true,Bool.and_eq_true] at z;exact hf (beq_iff_eq.mp z.1.1)
   rw [e5] at e2;subst e2;rcases hk with rfl | rfl
   ·simp at e4
   ·exact hf rfl
 have okY:Y.Ok:={
  mod:=I2.ok.mod
  kind:=hkind
  glob:=I2.ok.glob
  blt:=I2.ok.blt
  above:=Nat.le_refl _
  inj:=fun a b c e1 e2=>I2.ok.inj a b c (cellsOf _ _ e1) (cellsOf _ _ e2)
  has:=fun y hy=>hy.elim (fun e=>Em y _ e (.inl rfl)) (fun e=>Em y _ e (.inr rfl))
  cab:=fun y c e=>nomatch e
  hd:=I2.ok.hd
  frames:=I2.ok.frames
  stk:=.inl rfl
  exf:=fun b hb=>⟨exC b hb,fun y c e=>(HQ b hb).2.2.2.2.1 y c (cellsOf _ _ e)⟩
  bs:=fun b o e=>⟨Bb b o (I2.bs b o e).1,(I2.bs b o e).2⟩
  bsz:=by
   show X.base.objs.size≤h3.objs.size;rw [hC,← hacc];exact Nat.le_succ_of_le (Nat.le_trans I2.ok.bsz I2.sz)
  O7:=fun b o e hb=>by
   rcases (HQ b hb).2.2.2.1 with z | z
   ·exact I2.ok.O7 b o e z
   ·exact absurd (Nat.lt_of_lt_of_le (Heap.lt_size e) (Nat.le_trans I2.ok.bsz z)) (Nat.lt_irrefl _)
  Xp:=Bx
  vX:=I3.stack
  frf:=I3.JT }
 have Znh:(List.replicate ns.length none ++ caps.map (pick σ):L2.St).length=(ns ++ cns).length:=by rw [List.length_append,List.length_append,List.length_replicate,bD,hcap.len]
 have I4:Inv Y [] (List.replicate ns.length none ++ caps.map (pick σ)) H2 { s2 with heap:=h₁,toks:=s2.toks + ([]:List (Str×Value)).length }:={
  ok:=okY
  os:=rfl
  bare:=I2.bare
  base:=Un.kept O9
  loc:=by
   refine ⟨_,hns₁,fun i y v e1 e2 e3=>?_⟩
   by_cases hlt:i < ns.length
   ·have e2:(List.replicate ns.length none ++ caps.map (pick σ):L2.St)[i]? =some (some v):=e2;rw [List.getElem?_append_left (by rw [List.length_replicate];exact hlt),List.getElem?_replicate,if_pos hlt] at e2;cases e2
   ·have e1':cns[i - ns.length]? =some y:=by
     have e1':(ns ++ cns)[i]? =some y:=e1;rw [List.getElem?_append_right (by omega)] at e1';exact e1'
    have e2':(caps.map (pick σ):L2.St)[i - ns.length]? =some (some v):=by
     have e2:(List.replicate ns.length none ++ caps.map (pick σ):L2.St)[i]? =some (some v):=e2;rw [List.getElem?_append_right (by rw [List.length_replicate];omega),List.length_replicate] at e2;exact e2
    obtain ⟨j,j1,j2,j3⟩:=hcap.get (σ:=σ) (i:=i - ns.length) (x:=y) (v:=v) e1' e2';obtain ⟨m,hn,hl⟩:=I2.loc;obtain ⟨u,r,l⟩:=hl j y v j1 j3 (.inr (.inl j2));rcases l with ⟨l,_⟩ | ⟨_,c,l1,l2⟩
    ·rw [j2] at l;cases l
    ·refine ⟨u,r,.inr ?_⟩;rcases e3 with e3 | e3 | e3
     ·exfalso
      have hm:y∈cns:=List.mem_of_getElem? e1';have hl:scope.names.lookup y=some .free:=beq_iff_eq.mp (List.all_eq_true.mp hcf y hm);have e0:(scope.names.lookup y).map (za X.env y)=some .local:=mj.symm.trans e3;rw [hl] at e0;have e5:za X.env y .free=.local:=Option.some.inj e0;unfold za at e5;split at e5<;>cases e5
     ·obtain ⟨c',hc'⟩:=Em y _ e3 (.inl rfl);have:=cellsOf _ _ hc';rw [l1] at this;cases this;exact ⟨.inl e3,c,hc',l2.keeps fun b o e=>O9 _ _ (Bb _ _ e)⟩
     ·obtain ⟨c',hc'⟩:=Em y _ e3 (.inr rfl);have:=cellsOf _ _ hc';rw [l1] at this;cases this;exact ⟨.inr e3,c,hc',l2.keeps fun b o e=>O9 _ _ (Bb _ _ e)⟩
  cell:=fun y c e=>by
   obtain ⟨v,z⟩:=I2.cell y c (cellsOf _ _ e);exact ⟨v,z.keeps fun b o e=>O9 _ _ (Bb _ _ e)⟩
  free:=I2.hok.fresh (by rw [hacc];show acc≤h3.objs.size;rw [hC];exact Nat.le_succ _)
  qH:=fun y c e=>I2.qH y c (cellsOf _ _ e)
  pin:=fun p hp=>by
   have hp2:p∈(X.pn ++ pins) ++ []:=hp;have hp':p∈X.pn ++ pins:=by rw [List.append_nil] at hp2;exact hp2
   obtain ⟨p1,p2,p3,p4,p5⟩:=I2.pin p hp';refine ⟨O9 _ _ (Bb _ _ p1),p2,?_,fun hm=>(List.mem_cons.mp (I2.yG _ hm)).elim p3 p4,p5⟩;exact Nat.ne_of_lt (by show p.1 < h3.objs.size;exact Heap.lt_size (Bb _ _ p1))
  hok:=I2.hok.kept fun b u e=>O9 _ _ (Bb _ _ e)
  len:=Znh }
 have fpY:∀ {H':Hp}{pl:List (Addr×Obj)}{b:Addr},b∈acc :: fp→H' b=none→(∀ p∈pl,p.1≠b)→pF Y pl H' b:=fun {H' pl b} hb hn hp=>
  ⟨hn,exC b hb,Bx b hb,.inl hb,fun y c e=>(HQ b hb).2.2.2.2.1 y c (cellsOf _ _ e),fun p hm=>(List.mem_append.mp hm).elim (fun z=>(HQ b hb).2.2.2.2.2 p z) (hp p)⟩
 have fin:∀ {σ':L2.St}{H':Hp}{s':Shared}{ys:List V}{its:List Value}{kk:Nat}{pl:List (Addr×Obj)},Inv Y pl σ' H' s'→H' acc=none→Vals ys its→ys.length≤sizeLine→
   s'.heap.get? acc=some { cls:=.type "list",data:=.seq its.toArray kk }→(∀ p,H' p=none→Q (.ref p) (upd H' p (.lst ys)))→
   ∀ h',Heap.SameBut h3.objs.size s'.heap h'→EP X pins σ Q (.ref acc) { s' with heap:=h' }:=fun {σ' H' s' ys its kk pl} J ha hv hz ho hq h' hs'=>by
  have Zky:acc≠h3.objs.size:=exC acc (List.mem_cons_self);have zW:∀ b o,b≠h3.objs.size→s'.heap.get? b=some o→h'.get? b=some o:=fun b o hb e=>hs'.extBut b o hb e;have ltC:∀ b o,s2.heap.get? b=some o→b≠h3.objs.size:=fun b o e=>Nat.ne_of_lt (Heap.lt_size (Bb b o e));have HD:H' h3.objs.size=none:=J.free;have un:Un (frs X.stack) (acc :: fp) H2 H' s2.heap h':={
   keep:=fun b o e n hb hx=>zW b o (ltC b o e) (J.base.keep b o (Bb b o e) n hb hx)
   slot:=fun b o e n hb hx=>by
    obtain ⟨sl,q⟩:=J.base.slot b o (Bb b o e) n hb hx;exact ⟨sl,zW b _ (ltC b o e) q⟩
   free:=fun b o e n hx=>J.base.free b o (Bb b o e) n hx
   there:=fun b o e hx=>by
    obtain ⟨o',q⟩:=J.base.there b o (Bb b o e) hx;exact ⟨o',zW b o' (ltC b o e) q⟩
   tups:=J.base.tups
   Cy:=J.base.Cy
   Dd:=J.base.Dd }
  have hok:yx X.prog X.w H' h':=fun b u e=>by
   refine (J.hok b u e).stay (fun c v hc q=>zW c v ?_ q) (fun _ q=>q) fun _ _ q=>q;rintro rfl;rcases hc with rfl | hc
   ·rw [HD] at e;cases e
   ·rw [HD] at hc;cases hc
  have I5:Inv X pins σ H' { s' with heap:=h' }:=I2.call' (ch:=acc :: fp) J.os un hok J.bare fun b hb=>by
   obtain ⟨g0,g1,g2,g3,g4,g5⟩:=HQ b hb;exact ⟨g3,g1,g4,g5⟩
  refine ⟨.ref acc,_,adopt (acc:=acc) I5 ?_ (zW _ _ Zky ho) hv hz,rfl,hq acc ha⟩;obtain ⟨g0,g1,g2,g3,g4,g5⟩:=Zac;exact ⟨ha,g1,g2,g3,g4,g5⟩
 have loop:codeAny (model X.prog X.w) X.A (.compLoop (.ListComp elt [⟨tg,iter,ifs,0⟩] scope pos) 0 (.ref it) (.ref acc) Y.env) (compPost (model X.prog X.w) X.A X.xe none (EP X pins σ Q) (.ref acc) h3.objs.size)
   { s2 with heap:=h₁,toks:=s2.toks + ([]:List (Str×Value)).length }:=by
  refine Jo (fun n s'=>∃ (i:Nat) (v:L2.St) (ys:List V) (its:List Value) (kk:Nat) (H':Hp),v.length=ns.length∧Inv Y [] (v ++ caps.map (pick σ)) H' s'∧tn i s'.heap∧(∀ b∈fp,H' b=none)∧H' acc=none∧Vals ys its∧ys.length≤sizeLine∧
   s'.heap.get? acc=some { cls:=.type "list",data:=.seq its.toArray kk }∧W i n ys H') ?_ m0 ⟨0,List.replicate ns.length none,[],[],0,H2,List.length_replicate,I4,T.keep _ _ _ st2 (fun b _ o e=>O9 _ _ (Bb _ _ e)),fun b hb=>(f2 b hb).1,Zac.1,.nil,Nat.zero_le _,O9 _ _ Zn5,w0⟩
  rintro n s5 ⟨i,v,ys,its,kk,H5,lv,I5,st5,fr5,ha5,hv5,hz5,ho5,w5⟩;have Zff:Inv Y [(acc,{ cls:=.type "list",data:=.seq its.toArray kk })] (v ++ caps.map (pick σ)) H5 s5:=I5.rC fun p hp=>by
   have e:p=(acc,{ cls:=.type "list",data:=.seq its.toArray kk }):=by simpa using hp
   subst e;exact ⟨ho5,ha5,exC acc List.mem_cons_self,Bx acc List.mem_cons_self,fun v=>by intro z;cases z⟩
  have fpA:∀ {H':Hp},(∀ b∈fp,H' b=none)→∀ b∈fp,pF Y [(acc,{ cls:=.type "list",data:=.seq its.toArray kk })] H' b:=fun hn b hb=>fpY (List.mem_cons_of_mem _ hb) (hn b hb) fun p hp=>by
   have e:p=(acc,{ cls:=.type "list",data:=.seq its.toArray kk }):=by simpa using hp
   subst e;exact (Nat.ne_of_lt (fpl b hb)).symm
  rcases turn i n ys H5 w5 with ⟨stop,qn⟩ | ⟨go,hlt,step⟩
  ·refine iy (T.done Y rfl rfl rfl hc i _ s5 _ H5 (fun _ _=>False) Zff (fpA fr5) st5 stop) fun r s6 ⟨hr,I6⟩=>?_;subst hr;obtain ⟨m,hm,_⟩:=I6.loc;have ho6:=(I6.pin (acc,{ cls:=.type "list",data:=.seq its.toArray kk }) (List.mem_append_right _ List.mem_cons_self)).1;exact ⟨m,hm,fin I6 ha5 hv5 hz5 ho6 qn⟩
  ·refine iy (T.item Y rfl rfl rfl hc i _ s5 _ H5 (fun _ _=>False) Zff (fpA fr5) st5 go) fun r s6 ⟨u,hr,h6⟩=>?_;subst hr;refine iy h6 fun _ s7 ⟨z,H7,I7,r7,y7,st7,fr7⟩=>?_;have I7':=I7.pinned (fpA fr7) (T.obj _ _ st7);obtain ⟨us,lu,hgt,step⟩:=step z H7 y7 v lv;have pg:PG Y tg gt:=hg _ _ _ _ _;refine iy (pg _ s7 _ H7 z u (fun σ2 H2'=>σ2=us ++ caps.map (pick σ)∧H2'=H7) I7' r7 hgt) fun _ s8 ⟨σ8,H8,I8,e8,e8'⟩=>?_;subst e8 e8';refine iy (hf _ _ _ _ _ _ s8 _ H8 _ I8 step) fun ok s9 ⟨H9,I9,q9⟩=>?_;have stat:∀ {H':Hp}{s':Shared}{σ':L2.St},Inv Y ([(acc,{ cls:=.type "list",data:=.seq its.toArray kk })] ++ uT fp s7.heap) σ' H' s'→tn (i + 1) s'.heap∧(∀ b∈fp,H' b=none)∧H' acc=none∧s'.heap.get? acc=some { cls:=.type "list",data:=.seq its.toArray kk }:=fun {H' s' σ'} J=>by
    have pa:=J.pin (acc,{ cls:=.type "list",data:=.seq its.toArray kk }) (List.mem_append_right _ (List.mem_append_left _ List.mem_cons_self));refine ⟨T.keep _ _ _ st7 fun b hb o e=>(J.pin (b,o) (List.mem_append_right _ (List.mem_append_right _ (lZ hb e)))).1,fun b hb=>?_,pa.2.1,pa.1⟩;obtain ⟨o,e,d⟩:=T.obj _ _ st7 b hb;exact (J.pin (b,o) (List.mem_append_right _ (List.mem_append_right _ (lZ hb e)))).2.1
   have WX:∀ {H':Hp}{s':Shared}{σ':L2.St}{pl:List (Addr×Obj)},Inv Y pl σ' H' s'→Inv Y [] σ' H' s':=fun J=>J.rC fun p hp=>nomatch hp;cases ok with
   | false=>
    obtain ⟨m',hm,w9⟩:=q9;obtain ⟨t1,t2,t3,t4⟩:=stat I9;exact ⟨m',hm,i + 1,us,ys,its,kk,H9,lu,WX I9,t1,t2,t3,hv5,hz5,t4,w9⟩
   | true=>
    show wpAny _ _ (eval elt Y.env) _ _ s9;refine iy (he _ _ _ _ _ _ s9 _ H9 _ I9 q9) fun y s10 ⟨yv,H10,I10,r10,m',hm,w10⟩=>?_;obtain ⟨t1,t2,t3,t4⟩:=stat I10;have Zp2:Inv Y (uT fp s7.heap) (us ++ caps.map (pick σ)) H10 s10:=I10.rC fun p hp=>I10.pin p (List.mem_append_right _ (List.mem_append_right _ hp));have fA:pF Y (uT fp s7.heap) H10 acc:=fpY List.mem_cons_self t3 fun p hp=>Nat.ne_of_lt (fpl _ (GP hp).1);have Ja:=adopt Zp2 fA t4 hv5 hz5;refine iy (rT (X:=Y) _ s10 _ _ (.ref acc) [yv] (.ref acc) [y] (fun _ H'=>H'=upd (upd H10 acc (.lst ys)) acc (.lst (ys ++ [yv]))) Ja rfl (.cons r10 .nil) ⟨acc,ys,yv,rfl,rfl,aq,hlt,rfl⟩) fun _ s11 ⟨_,H11,I11,_,e11⟩=>?_;rw [dY] at e11;subst e11;obtain ⟨Zod,its',kk',Zoe,Zof⟩:=I11.hok acc _ aq;have Jd:=disown I11 fA;have Zme:tn (i + 1) s11.heap:=T.keep _ _ _ st7 fun b hb o e=>(Jd.pin (b,o) (List.mem_append_right _ (lZ hb e))).1;exact ⟨m',hm,i + 1,us,ys ++ [yv],its',kk',H10,lu,WX Jd,Zme,t2,t3,Zoe,Zod,Zof,w10⟩
 exact codeAny_compStart_list loop (T.self X.A 0 _ _ _ (T.keep _ _ _ st2 (fun b _ o e=>O9 _ _ (Bb _ _ e))) loop)
theorem Ld {X:Cx}{elt iter:Expr}{x:Str}{px pos:Pos}{ifs:List Expr}{scope:Scope}{cl:List (Str×Addr)}{wi:TI}{tc:TT}{te:TE}{cns:List Str} (caps:List Nat)
  (hi:PI X (.Name x px) iter wi)
  (hf:∀ C s H ex pn,PF (M7 X scope cl (x :: cns) C s H ex pn) ifs tc) (he:∀ C s H ex pn,PE (M7 X scope cl (x :: cns) C s H ex pn) elt te) (hc:X.calm=true)
  (hclos:closureFor scope X.env=pure cl) (hcl:AllIn X.env.cells cl) (hcap:Ab X cns caps)
  (hkind:scope.kind=.function) (hcell:(scope.names.all fun p=>p.2 != .cell)=true) (hfree:(scope.names.all fun p=>p.2 != .free || (cl.lookup p.1).isSome)=true)
  (hcf:(cns.all fun y=>scope.names.lookup y == some .free)=true) (hnames:∀ y∈scope.names,y.2=.local→scope.names.lookup y.1=some .local) (hx:scope.names.lookup x=some .local) (hnd:(x :: cns).Nodup)
  (hs:∀ v,foldedSetIterable iter X.env v=pure v:=by intro _;rfl):
  PE X (.ListComp elt [⟨.Name x px,iter,ifs,0⟩] scope pos) (tLC wi caps tc te):=by
 refine Zfl (ns:=[x]) (gt:=aL 0) caps (fun J σ H Q h=>?_) hi (fun C s H ex pn=>iD hnd rfl (.inl (lookup_relabel_local hx)) (.inr (lookup_relabel_local hx))) hf he hc hclos hcl hcap hkind hcell hfree hcf hnames hs;obtain ⟨W,w0,turn⟩:=h;refine ⟨W,w0,fun i m ys H hw=>(turn i m ys H hw).imp id fun ⟨g,l,st⟩=>⟨g,l,fun z H' y vs hv=>?_⟩⟩
 match vs,hv with
 | [v],_=>exact ⟨[some z],rfl,⟨rfl,rfl⟩,st z H' y⟩
end G
namespace G
open PySem L2 PySem.Spec PyProof.Rows
theorem GQ {P:Program}{w:World}{H:Hp}{h:Heap}{a:Addr}{o:HO} (x:kZ P w H h a o):∃ ob,h.get? a=some ob:=by
 induction o with
 | lst xs=>obtain ⟨_,_,_,_,e⟩:=x;exact ⟨_,e⟩
 | tup xs=>obtain ⟨_,_,_,ob,e,_⟩:=x;exact ⟨ob,e⟩
 | dK kvs=>obtain ⟨_,_,_,_,ob,_,_,e,_⟩:=x;exact ⟨ob,e⟩
 | dT kvs=>obtain ⟨_,_,_,_,ob,_,_,e,_⟩:=x;exact ⟨ob,e⟩
 | set S n=>obtain ⟨ob,_,_,_,e,_⟩:=x;exact ⟨ob,e⟩
 | ins C dx fs=>obtain ⟨_,_,_,e,_⟩:=x;exact ⟨_,e⟩
 | own y=>exact x
 | xd fs=>obtain ⟨_,⟨ob,_,_,e,_⟩,_⟩:=x;exact ⟨ob,e⟩
 | rng lo hi=>obtain ⟨_,_,_,e⟩:=x;exact ⟨_,e⟩
 | Bc ob u ih=>exact ⟨_,x.1⟩
 | Ks ps=>exact ⟨_,x⟩
 | met f y=>exact ⟨_,x⟩
 | ext φ=>obtain ⟨_,e,_⟩:=x;exact e
theorem RD {P:Program}{w:World}{fs:List Addr}{H0 H1:Hp}{h0 h1 h2:Heap} (u:Un fs [] H0 H1 h0 h1) (ok:yx P w H1 h1) (fr:∀ b∈fs,H1 b=none)
  (kp:∀ b o,h1.get? b=some o→((∃ v,h0.get? b=some v)∨∃ v,H1 b=some v)→b∉fs→h2.get? b=some o) (sl:∀ b o,h1.get? b=some o→b∈fs→∃ z,h2.get? b=some { o with slots:=z }):
  Un fs [] H0 H1 h0 h2∧yx P w H1 h2:=by
 refine ⟨⟨fun b o e n hb hx=>kp b o (u.keep b o e n hb hx) (.inl ⟨o,e⟩) hb,fun b o e n hb hx=>?_,u.free,fun b o e hx=>?_,u.tups,u.Cy,u.Dd⟩,fun a o e=>?_⟩
 ·obtain ⟨z,e1⟩:=u.slot b o e n hb hx;obtain ⟨z2,e2⟩:=sl b _ e1 hb;exact ⟨z2,e2⟩
 ·obtain ⟨o',e1⟩:=u.there b o e hx
  by_cases hb:b∈fs
  ·obtain ⟨z,e2⟩:=sl b _ e1 hb;exact ⟨_,e2⟩
  ·exact ⟨o',kp b o' e1 (.inl ⟨o,e⟩) hb⟩
 ·refine (ok a o e).stay (fun b v hb q=>?_) (fun _ q=>q) fun _ _ q=>q;have hs:∃ v,H1 b=some v:=by
   rcases hb with z | z
   ·exact ⟨o,by rw [z];exact e⟩
   ·exact ⟨_,z⟩
  refine kp b v q (.inr hs) fun z=>?_;obtain ⟨v',e'⟩:=hs;rw [fr b z] at e';cases e'
def Nq (P:Program) (w:World):V0:=fun outer H s E e s'=>
 ∃ (ea:Addr) (cls a0:Value) (B:Heap) (H':Hp),e=.ref ea∧s'.os=s.os∧AllBare s'.gens∧Un (frs outer) [] H H' s.heap s'.heap∧yx P w H' s'.heap∧Heap.FlyingW B outer ea cls a0 s'.heap∧
  (∀ b o,s'.heap.get? b=some o→((∃ v,s.heap.get? b=some v)∨∃ v,H' b=some v)→b∉frs outer→B.get? b=some o)∧E cls none H'
theorem jN {P:Program}{w:World}{X:Cx}:Passes (Nq P w) X E0:=fun _ _ _ _ _ _ _ h=>by
 obtain ⟨_,_,_,_,_,_,_,_,_,_,_,_,z⟩:=h;exact z.elim
section
variable {P:Program}{w:World}{K:aC}{mg:Str→Option Value}{base:Heap}{N:List Str}{qual:Str}{scope:Scope}{f:Addr}{cd:Value}{A:Around}{outer:List Env}{s:Shared}{H:Hp}{E:XK}
theorem DG:Passes (Nq P w) (HR (Nq P w) P w K mg base N qual scope f cd A outer s H E) E:=by
 intro pins σ H1 s1 e s2 I h;obtain ⟨ea,cls,a0,B,H2,rfl,os,bare,un,ok,fl,hB,hE⟩:=h;have J:Inv (HR (Nq P w) P w K mg base N qual scope f cd A outer s H E) pins σ H2 s2:=I.call' os un ok bare (fun b z=>nomatch z);have L0:∀ b o,s.heap.get? b=some o→b≠(envOfC qual scope s.heap.objs.size f cd).locals:=fun b o e=>Nat.ne_of_lt (Nat.lt_of_lt_of_le (Heap.lt_size e) I.ok.above);have nin:∀ b,((∃ v,s.heap.get? b=some v)∨∃ v,H2 b=some v)→b∉frs outer→b∉frs (envOfC qual scope s.heap.objs.size f cd :: outer):=fun b hb hn hm=>by
  rcases List.mem_cons.mp (J.yG b hm) with z | z
  ·rcases hb with ⟨v,e⟩ | ⟨v,e⟩
   ·exact L0 b v e z
   ·rw [z] at e;have:=J.free;rw [e] at this;cases this
  ·exact hn z
 have was:∀ b,((∃ v,s.heap.get? b=some v)∨∃ v,H2 b=some v)→(∃ v,s1.heap.get? b=some v)∨∃ v,H2 b=some v:=fun b hb=>by
  rcases hb with ⟨v,e⟩ | hb
  ·exact .inl (I.base.there b v e (fun z=>nomatch z))
  ·exact .inr hb
 refine wpAny_leaves_onW I.ok.frames rfl fl fun h' fl' sm=>?_;have dat:∀ b o,s2.heap.get? b=some o→b∈frs outer→∀ vs,o.data≠.fields vs:=fun b o e hb=>by
  obtain ⟨_,o',ho',hd⟩:=J.vX.mem hb;rw [e] at ho';cases ho';exact hd
 have inB:∀ b o,s2.heap.get? b=some o→((∃ v,s.heap.get? b=some v)∨∃ v,H2 b=some v)→b∉frs outer→B.get? b=some o:=fun b o e hb hn=>hB b o e (was b hb) (nin b hb hn);have U:=RD (P:=P) (w:=w) (h2:=h') J.base J.hok (fun b hb=>by
   obtain ⟨_,o,ho,_⟩:=J.ok.vX.mem hb;exact J.base.free b o ho (J.ok.frf b hb) (fun z=>nomatch z)) (fun b o e hb hn=>fl'.1 _ _ (inB b o e hb hn)) fun b o e hb=>sm b o e (dat b o e hb)
 refine ⟨ea,cls,a0,B,H2,rfl,J.os,J.bare,U.1,U.2,fl',fun b o e hb hn=>?_,hE⟩;have there:∃ v,s2.heap.get? b=some v:=by
  rcases hb with ⟨v,z⟩ | ⟨v,z⟩
  ·exact J.base.there b v z (fun z=>nomatch z)
  ·exact GQ (J.hok b v z)
 obtain ⟨v,z⟩:=there;have q:=inB b v z hb hn;have:=fl'.1 _ _ q;rw [e] at this;cases this;exact q
theorem Tn {pins:List (Addr×Obj)}{σ:L2.St}{H1:Hp}{s1:Shared}{C e:Addr}{vs:List Value}{h1:Heap} (I:Inv (HR (Nq P w) P w K mg base N qual scope f cd A outer s H E) pins σ H1 s1)
  (hx:Heap.MadeExcOf s1.heap h1 e (.ref C) vs) (hE:E (.ref C) none H1):(HR (Nq P w) P w K mg base N qual scope f cd A outer s H E).xe (.ref e) { s1 with heap:=h1 }:=by
 have L0:∀ b o,s.heap.get? b=some o→b≠(envOfC qual scope s.heap.objs.size f cd).locals:=fun b o e=>Nat.ne_of_lt (Nat.lt_of_lt_of_le (Heap.lt_size e) I.ok.above);have nin:∀ b,((∃ v,s.heap.get? b=some v)∨∃ v,H1 b=some v)→b∉frs outer→b∉frs (envOfC qual scope s.heap.objs.size f cd :: outer):=fun b hb hn hm=>by
  rcases List.mem_cons.mp (I.yG b hm) with z | z
  ·rcases hb with ⟨v,e⟩ | ⟨v,e⟩
   ·exact L0 b v e z
   ·rw [z] at e;have:=I.free;rw [e] at this;cases this
  ·exact hn z
 have fh:s1.heap.FunFrames (PySem.W.hideAll s1.heap (frs (envOfC qual scope s.heap.objs.size f cd :: outer))) (envOfC qual scope s.heap.objs.size f cd :: outer):=
  PySem.W.funFrames_hide I.stack fun env he b hb=>List.mem_filterMap.mpr ⟨env,he,hb⟩
 refine wpAny_leaves_madeW (s:={ s1 with heap:=h1 }) I.ok.frames rfl (fun b o q=>PySem.W.of_hideAll _ q) fh hx fun h' t fl _ _ sm=>?_;have inB:∀ b o,s1.heap.get? b=some o→((∃ v,s.heap.get? b=some v)∨∃ v,H1 b=some v)→b∉frs outer→(PySem.W.hideAll s1.heap (frs (envOfC qual scope s.heap.objs.size f cd :: outer))).get? b=some o:=
  fun b o e hb hn=>PySem.W.hideAll_get _ e (nin b hb hn)
 have dat:∀ b o,s1.heap.get? b=some o→b∈frs outer→∀ vs,o.data≠.fields vs:=fun b o e hb=>by
  obtain ⟨_,o',ho',hd⟩:=I.vX.mem hb;rw [e] at ho';cases ho';exact hd
 have U:=RD (P:=P) (w:=w) (h2:=h') I.base I.hok (fun b hb=>by
   obtain ⟨_,o,ho,_⟩:=I.ok.vX.mem hb;exact I.base.free b o ho (I.ok.frf b hb) (fun z=>nomatch z)) (fun b o e hb hn=>fl.1 _ _ (inB b o e hb hn)) fun b o e hb=>sm b o (hx.keeps b o e) (dat b o e hb)
 refine ⟨e,.ref C,.ref t,_,H1,rfl,I.os,I.bare,U.1,U.2,fl,fun b o q hb hn=>?_,hE⟩;have there:∃ v,s1.heap.get? b=some v:=by
  rcases hb with ⟨v,z⟩ | ⟨v,z⟩
  ·exact I.base.there b v z (fun z=>nomatch z)
  ·exact GQ (I.hok b v z)
 obtain ⟨v,z⟩:=there;have q2:=inB b v z hb hn;have:=fl.1 _ _ q2;rw [q] at this;cases this;exact q2
end
abbrev Zi9 (K:aC) (C:Addr):Prop:=PySem.W.excIn K C [.type "ValueError",.type "Exception",.type "BaseException",.type "object"] "ValueError.__new__"=true
theorem Zl8 {K:aC}{h:Heap}{C:Addr}{ms:List Value}{ni:String} (X:K.In h) (q:PySem.W.excIn K C ms ni=true):
  ∃ tl N nm ql bs hd sn sub ab col dd j0 j1 j2 j3 j5 mN,h.get? C=some (excClassObj nm ql C N bs tl hd sn sub ab col dd j0 j1 j2 j3 j5 ni)∧h.Ns N mN∧mN "__init__"=none∧OwnTail h ms tl:=by
 unfold PySem.W.excIn at q;split at q
 ·rename_i dd Zy3 slots hob
  split at q
  ·rename_i C2 tl j0 j1 j2 j3 n2 j5 em es
   simp only [Bool.and_eq_true,beq_iff_eq,Bool.not_eq_true'] at q;obtain ⟨⟨⟨⟨⟨e1,e2⟩,e3⟩,e4⟩,e5⟩,e6⟩:=q;subst e1 e2;obtain ⟨c1,c2,c3,c4,c5,c6,c7,c8,c9,c10,c11⟩:=Zy3;dsimp only at em e3 e5 e6;subst em e3;have Zon:slots=#[j0,j1,j2,j3,some (.builtin n2),j5]:=by
    obtain ⟨ls⟩:=slots;simp only at es;rw [es]
   subst Zon;refine ⟨tl,c4,c1,c5,c2,c6,c7,c8,c9,c10,dd,j0,j1,j2,j3,j5,h.nsMap c4,X _ _ hob,?_,PySem.W.nsMap_none_of_in X e5 e6,PySem.W.tail_of_in X e4⟩;exact .of_isNs (PySem.W.isNs_of_in X e5)
  ·cases q
 ·cases q
section
variable {X:Cx}{x:Str}{C:Addr}{np cpos pos:Pos}{e:Expr}{es:List Expr}{ta:TA}{E:XK}
theorem Dv (hc:X.calm=true) (hg:Gl X x) (hm:X.mg x=some (.ref C)) (hx:Zi9 X.K C) (ha:PA X (e :: es) ta)
  (hE:∀ (pins:List (Addr×Obj)) (σ:L2.St) (H:Hp) (s:Shared) (ea:Addr) (vs:List Value) (h1:Heap),Inv X pins σ H s→Heap.MadeExcOf s.heap h1 ea (.ref C) vs→E (.ref C) none H→X.xe (.ref ea) { s with heap:=h1 })
  (hs:starEach (e :: es) X.env=(false,eval e X.env) :: starEach es X.env:=by rfl) (hpl:(backTo cpos (starEach es X.env)).any (·.1)=false:=by rfl) (hd:(x == ("__debug__":Str))=false:=by decide):
  PS X (.Raise (some (.Call (.Name x np) (e :: es) [] cpos)) none pos) (Fp C E ta):=by
 intro pins s σ H D I h;obtain ⟨tl,N,nm,ql,bs,hdd,sn,sub,ab,col,dd,j0,j1,j2,j3,j5,mN,hC,hN,hni,T⟩:=Zl8 I.ok.mod.kin hx;refine wpAny_Raise_call_subT (C:=C) (nm:=nm) (q:=ql) (N:=N) (bs:=bs) (bm:=tl) (hdct:=hdd) (sn:=sn) (sub:=sub) (ab:=ab) (col:=col) (dd:=dd) (k0:=j0) (k1:=j1) (k2:=j2) (k3:=j3) (k5:=j5) PySem.F.excBase_ValueError (mN:=mN)
  (T.hasType PySem.F.excBase_ValueError.hasBase) (I.ok.hd hc) ?_ hni (rK I hg hm ⟨rfl,?_⟩ hd)
 ·rw [hs];show (false || (backTo cpos (starEach es X.env)).any (·.1))=false;rw [hpl];rfl
 ·have q:=ha cpos pins s σ H _ I h;rw [hs] at q ⊢;refine Calls.evalArgs_plain (iy q fun us s1 ⟨vs,H1,I1,r,l1,hE1⟩=>⟨rfl,?_,I1.bk _ _ hC,hN.keeps I1.bk,T.keeps I1.bk,fun h1 ea hmade=>hE pins σ H1 s1 ea _ h1 I1 hmade hE1⟩);rw [← r.length];exact Nat.le_trans l1 (by decide)
end
end G
namespace G
open PySem L2 PySem.Spec PyProof.Rows
def Zbu (CX:V0) (X:Cx) (E:L2.St→XK):Prop:=∀ (pins:List (Addr×Obj)) (σ:L2.St) (H:Hp) (s:Shared) (e:Value) (s':Shared),Inv X pins σ H s→CX X.stack H s (E σ) e s'→X.xe e s'
section
variable {X:Cx}{CX:V0}{k:Nat}{f C:Addr}{fd:FuncData}{ps:List Str}{sp:Sp}{tH:List V}{ds:List Value}{E:L2.St→XK}{x m:Str}{p pos apos:Pos}{e o:Expr}{es:List Expr}{ta:TE}{t:TA}
theorem Ziz {pins:List (Addr×Obj)}{σ:L2.St}{H:Hp}{s:Shared}{Q:VK}{us:List Value}{vs:List V} (F:tG X.prog X.w X.K X.mg X.base CX k f fd ps sp) (hr:Room k X.A) (hb:Binds X.K fd ps ds) (hd:Vals tH ds) (hx:Zbu CX X E)
  (I:Inv X pins σ H s) (r:Vals vs us) (h:sp (vs ++ tH) H Q (E σ)):wpAny (model X.prog X.w) X.A (call (.ref f) us) (EP X pins σ Q) X.xe s:=by
 have r2:Vals (vs ++ tH) (us ++ ds):=r.append hd;have hl:(us ++ ds).length=ps.length:=by rw [← r2.length];exact F.len _ _ _ _ h
 refine wpAny_call (codeAny_mono (F.run X.A X.stack s H ⟨us,[]⟩ (us ++ ds) (vs ++ tH) Q (E σ) hr I.env0 (hb s us I.J7 hl) r2 h) fun r s' hq=>?_);cases r with
 | error e=>exact hx pins σ H s e s' I hq
 | ok fl=>
  cases fl with
  | ret u=>exact I.after hq
  | next=>exact False.elim hq
  | brk=>exact False.elim hq
  | cont=>exact False.elim hq
theorem Zfo (F:tG X.prog X.w X.K X.mg X.base CX k f fd ps sp) (hr:Room k X.A) (hg:Gl X x) (hm:X.mg x=some (.ref f)) (hk:PySem.W.keepIn X.K (.ref f)=true) (hb:Binds X.K fd ps ds) (hd:Vals tH ds) (hx:Zbu CX X E)
  (ha:PA X (e :: es) t) (hdb:(x == ("__debug__":Str))=false:=by decide) (he:starEach (e :: es) X.env=(false,eval e X.env) :: starEach es X.env:=by rfl) (hpl:(backTo pos (starEach es X.env)).any (·.1)=false:=by rfl):
  PE X (.Call (.Name x p) (e :: es) [] pos) (Yt sp tH E t):=by
 intro pins s σ H Q I h;refine wpAny_Call_Name_kw (rK I hg hm ?_ hdb);refine PySem.W.callWith_K (h₀:=X.base) I.ok.mod.kin hk (iy (ha pos pins s σ H _ I h) fun us s1 ⟨vs,H1,I1,r,q⟩=>⟨I1.J7,?_⟩) he hpl;exact Ziz F hr hb hd hx I1 r q
end
abbrev cxB (X:Cx) (pn:List (Addr×Obj)) (xe:Value→Shared→Prop):Cx:={ X with pn:=pn,xe:=xe }
abbrev cxH (X:Cx) (ea:Value) (pn:List (Addr×Obj)):Cx:={ X with A:=X.A.mark (some ea),calm:=false,pn:=pn,xe:=fun _ _=>False }
section
variable {X:Cx}{pins:List (Addr×Obj)}{σ:L2.St}{H:Hp}{s:Shared}
theorem Zn3 (ok:X.Ok) (pn:List (Addr×Obj)) (xe:Value→Shared→Prop):(cxB X pn xe).Ok:=
 ⟨ok.mod,ok.kind,ok.glob,ok.blt,ok.above,ok.inj,ok.has,ok.cab,ok.hd,ok.frames,ok.stk,ok.exf,ok.bs,ok.bsz,ok.O7,ok.Xp,ok.vX,ok.frf⟩
theorem Zn2 (ok:X.Ok) (ea:Value) (pn:List (Addr×Obj)):(cxH X ea pn).Ok:=
 ⟨ok.mod,ok.kind,ok.glob,ok.blt,ok.above,ok.inj,ok.has,ok.cab,fun z=>(nomatch z),ok.frames,ok.stk,ok.exf,ok.bs,ok.bsz,ok.O7,ok.Xp,ok.vX,ok.frf⟩
theorem Zm8 (I:Inv X pins σ H s) (xe:Value→Shared→Prop):Inv (cxB X (X.pn ++ pins) xe) [] σ H s:=
 ⟨Zn3 I.ok _ _,I.os,I.bare,I.base,I.loc,I.cell,I.free,I.qH,fun p hp=>I.pin p (by simpa using hp),I.hok,I.len⟩
theorem Lx {xe:Value→Shared→Prop}{pl:List (Addr×Obj)} (ok:X.Ok) (I:Inv (cxB X (X.pn ++ pins) xe) pl σ H s):Inv X pins σ H s:=
 ⟨ok,I.os,I.bare,I.base,I.loc,I.cell,I.free,I.qH,fun p hp=>I.pin p (List.mem_append_left _ hp),I.hok,I.len⟩
theorem Zej (I:Inv X pins σ H s) (ea:Value):Inv (cxH X ea (X.pn ++ pins)) [] σ H s:=
 ⟨Zn2 I.ok _ _,I.os,I.bare,I.base,I.loc,I.cell,I.free,I.qH,fun p hp=>I.pin p (by simpa using hp),I.hok,I.len⟩
theorem Ul {ea:Value}{pl:List (Addr×Obj)} (ok:X.Ok) (I:Inv (cxH X ea (X.pn ++ pins)) pl σ H s):Inv X pins σ H s:=
 ⟨ok,I.os,I.bare,I.base,I.loc,I.cell,I.free,I.qH,fun p hp=>I.pin p (List.mem_append_left _ hp),I.hok,I.len⟩
theorem Zmh {xe:Value→Shared→Prop}{D:Ends}{f:Flow} (ok:X.Ok) (h:SP (cxB X (X.pn ++ pins) xe) [] D f s):SP X pins D f s:=by
 cases f with
 | next=>obtain ⟨σ',H',I,q⟩:=h;exact ⟨σ',H',Lx ok I,q⟩
 | brk=>obtain ⟨σ',H',I,q⟩:=h;exact ⟨σ',H',Lx ok I,q⟩
 | cont=>obtain ⟨σ',H',I,q⟩:=h;exact ⟨σ',H',Lx ok I,q⟩
 | ret u=>obtain ⟨v,σ',H',I,r,q⟩:=h;exact ⟨v,σ',H',Lx ok I,r,q⟩
theorem Zmg {ea:Value}{D:Ends}{f:Flow} (ok:X.Ok) (h:SP (cxH X ea (X.pn ++ pins)) [] D f s):SP X pins D f s:=by
 cases f with
 | next=>obtain ⟨σ',H',I,q⟩:=h;exact ⟨σ',H',Ul ok I,q⟩
 | brk=>obtain ⟨σ',H',I,q⟩:=h;exact ⟨σ',H',Ul ok I,q⟩
 | cont=>obtain ⟨σ',H',I,q⟩:=h;exact ⟨σ',H',Ul ok I,q⟩
 | ret u=>obtain ⟨v,σ',H',I,r,q⟩:=h;exact ⟨v,σ',H',Ul ok I,r,q⟩
theorem flown {ea:Addr}{cls a0:Value}{B:Heap}{H2:Hp}{s2:Shared}{h3:Heap} (I:Inv X pins σ H s) (os:s2.os=s.os) (bare:AllBare s2.gens) (un:Un (frs X.stack) [] H H2 s.heap s2.heap) (ok:yx X.prog X.w H2 s2.heap)
  (fl:Heap.FlyingW B X.stack ea cls a0 s2.heap) (hB:∀ b o,s2.heap.get? b=some o→((∃ v,s.heap.get? b=some v)∨∃ v,H2 b=some v)→b∉frs X.stack→B.get? b=some o)
  (st:B.StaysIn h3) (sm:s2.heap.UpToSlots h3):Inv X pins σ H2 { s2 with heap:=h3 }:=by
 have fr:∀ b∈frs X.stack,H2 b=none:=fun b hb=>by
  obtain ⟨_,o,ho,_⟩:=I.stack.mem hb;exact un.free b o ho (I.JT b hb) (fun z=>nomatch z)
 have U:=RD (P:=X.prog) (w:=X.w) (h2:=h3) un ok fr (fun b o e hb hn=>st _ _ (hB b o e hb hn)) fun b o e hb=>by
  obtain ⟨_,o',ho',hd⟩:=fl.2.2.1.mem hb;rw [e] at ho';cases ho';exact sm b o e hd
 exact I.call' (s':={ s2 with heap:=h3 }) (ch:=[]) os U.1 U.2 bare (fun b z=>nomatch z)
end
section
variable {X:Cx}{x:Str}{C:Addr}{np pos hpos:Pos}{body suite:List Stmt}{b₀:Stmt}{Mt:Value→Prop}{tb:(L2.St→XK)→TS}{th:TS}
theorem Zmq (hst:X.stack=X.env :: X.outer∧X.env.frame=some X.env.locals) (hg:Gl X x) (hm:X.mg x=some (.ref C)) (hMt:∀ c,Mt c→PySem.W.exmOne X.K c (.ref C)=some true)
  (hb:∀ (E:L2.St→XK) (pn:List (Addr×Obj)) (xe:Value→Shared→Prop),Zbu (Nq X.prog X.w) (cxB X pn xe) E→VR (cxB X pn xe) body (tb E))
  (hs:∀ (ea:Value) (pn:List (Addr×Obj)),VR (cxH X ea pn) (b₀ :: suite) th) (hd:(x == ("__debug__":Str))=false:=by decide):
  PS X (.Try body [.ExceptHandler (some (.Name x np)) none (b₀ :: suite) hpos] [] [] pos) (Zmb Mt tb th):=by
 intro pins s σ H D I h;refine wpAny_Try_except ?_;have hx:Zbu (Nq X.prog X.w) (cxB X (X.pn ++ pins) fun e s'=>∃ σ H s,Inv X pins σ H s∧Nq X.prog X.w X.stack H s (fun cls _ H'=>Mt cls∧th D σ H') e s') (fun σ' cls _ H'=>Mt cls∧th D σ' H'):=
  fun pl σ H s e s' J z=>⟨σ,H,s,Lx I.ok J,z⟩
 refine wpAny_mono (hb _ _ _ hx [] s σ H D (Zm8 I _) h) (fun f s1 q=>?_) fun e s1 q=>?_
 ·have q:=Zmh I.ok q;cases f with
  | next=>exact wpAny_execs_nil q
  | ret v=>exact q
  | brk=>exact q
  | cont=>exact q
 ·obtain ⟨σ1,H1,s0,J,ea,cls,a0,B,H2,rfl,os,bare,un,ok,fl,hB,hM,hth⟩:=q;have fl0:=fl;rw [hst.1] at fl0;refine wpAny_looks_onW (hst.1 ▸ J.ok.frames) hst.2 fl0 fun h4 Zqn sm4=>?_;refine wpAny_landsW Zqn fun h5 fl5 sm5=>?_;have Zpf:s1.heap.UpToSlots h5:=sm4.trans sm5;have J5:=flown J os bare un ok fl hB fl5.1 Zpf;refine wpAny_handleBy_cons (codeAny_handlers_test (rK (X:=cxH X (.ref ea) (X.pn ++ pins)) (Zej J5 (.ref ea)) hg hm ?_ hd)) (by intro z;cases z);obtain ⟨ob,hob,hoc⟩:=fl5.there;have LT:PySem.W.Looks (model X.prog X.w) h5 (typeOf (.ref ea)) cls:=hoc ▸ (PySem.W.Looks.ld hob).andThen .now;refine (PySem.W.exm_one J5.J7 LT (hMt cls hM)).here ?_;refine codeAny_handlers_suite ?_;refine lands_againW fl5 fun h6 fl6 sm6=>?_;have J6:=flown J os bare un ok fl hB fl6.1 (Zpf.trans sm6);refine wpAny_mono (hs (.ref ea) (X.pn ++ pins) [] _ σ1 H2 D (Zej J6 (.ref ea)) hth) (fun f s2 q=>Zmg I.ok q) fun _ _ z=>z.elim
end
end G
namespace G
open PySem L2 PySem.Spec PyProof.Rows
section
variable {P:Program}{w:World}{K:aC}{mg:Str→Option Value}{base:Heap}{x qual:Str}{st:Stmt}{f:Addr}{fd:FuncData}{N ps:List Str}{k:Nat}{sp:Sp}
theorem fok (F:jA K x qual st f fd) (S:aO N ps (aF st)) (len:∀ vs H Q E,sp vs H Q E→vs.length=ps.length)
  (hbody:∀ (cdv:Value) (A:Around) (outer:List Env) (s:Shared) (H:Hp) (vs:List V) (Q:VK) (E:XK),Room k (A.deeper (envOfC qual (aF st) s.heap.objs.size f cdv))→sp vs H Q E→
   ∃ t,VR (HR (Nq P w) P w K mg base N qual (aF st) f cdv A outer s H E).nox (jz st) t∧t { nx:=fun _ H'=>Q .non H',rt:=Q } (start N vs) H):tG P w K mg base (Nq P w) (k + 1) f fd ps sp:=by
 obtain ⟨oc,od,kV,doc,pm,an,cdv,ct,osl,rfl,lk,hcd⟩:=F.ex;refine Zhm lk hcd S len fun A outer s H vs Q E hr hsp=>?_;obtain ⟨t,h,q⟩:=hbody cdv A outer s H vs Q E hr hsp;exact ⟨t,h.nox,q⟩
theorem Zy2 (F:jA K x qual st f fd) (S:aO N ps (aF st)) (len:∀ vs H Q E,sp vs H Q E→vs.length=ps.length)
  (hbody:∀ (cdv:Value) (A:Around) (outer:List Env) (s:Shared) (H:Hp) (vs:List V) (Q:VK) (E:XK),Room k (A.deeper (envOfC qual (aF st) s.heap.objs.size f cdv))→sp vs H Q E→
   ∃ t,VR (HR (Nq P w) P w K mg base N qual (aF st) f cdv A outer s H E) (jz st) t∧t { nx:=fun _ H'=>Q .non H',rt:=Q } (start N vs) H):tG P w K mg base (Nq P w) (k + 1) f fd ps sp:=by
 obtain ⟨oc,od,kV,doc,pm,an,cdv,ct,osl,rfl,lk,hcd⟩:=F.ex;exact Zhm lk hcd S len fun A outer s H vs Q E hr hsp=>hbody cdv A outer s H vs Q E hr hsp
theorem Zqp (F:Zp9 K x qual st f fd) (S:aO N ps (aF st)) (len:∀ vs H Q E,sp vs H Q E→vs.length=ps.length)
  (hbody:∀ (cdv:Value) (A:Around) (outer:List Env) (s:Shared) (H:Hp) (vs:List V) (Q:VK) (E:XK),Room k (A.deeper (envOfC qual (aF st) s.heap.objs.size f cdv))→sp vs H Q E→
   ∃ t,VR (HR (Nq P w) P w K mg base N qual (aF st) f cdv A outer s H E) (jz st) t∧t { nx:=fun _ H'=>Q .non H',rt:=Q } (start N vs) H):tG P w K mg base (Nq P w) (k + 1) f fd ps sp:=by
 obtain ⟨oc,od,dV,kV,doc,pm,an,cdv,ct,osl,rfl,lk,hcd⟩:=F.ex;exact Zhm lk hcd S len fun A outer s H vs Q E hr hsp=>hbody cdv A outer s H vs Q E hr hsp
end
end G
namespace G
open PySem L2 PySem.Spec PyProof.Rows
structure Zyh (K:aC) (C:Addr):Prop where
 ga:PySem.W.findIn K (.ref C) "__getattribute__"=some (some (.builtin "BaseException.__getattribute__"))
 no:PySem.W.findIn K (.ref C) "__getattr__"=some none
 cl:PySem.W.findIn K (.ref C) "__class__"=some (some (.builtin "object.__class__"))
 so:PySem.W.mroIn K C (.type "object")=some true
 sb:PySem.W.mroIn K C (.type "BaseException")=some true
 is:PySem.W.hasDictIn K C=true
section
variable {prog:Program}{w:World}{A:Around}{E:Value→Shared→Prop}{h:Heap}{g:Array GenState}{d:Drawn}{t:Nat}{os:OsState}{a:Addr}{o:Obj}{C:Addr}{K:aC}
end
section
variable {X:Cx}
theorem CJ:Np X (.type "list") (Ng X.K):=by
 intro pins s σ H xs us Q I r h;obtain ⟨p,ys,rfl,hs,q⟩:=h;exact Ey pins s σ H [.ref p] us Q I r ⟨p,ys,rfl,.inl hs,q⟩
theorem Zdy {xs ys:List V}{us ws:List Value} (rx:Vals xs us) (ry:Vals ys ws) (fx:xs.all yl=true) (fy:ys.all yl=true) (hl:xs.length=ys.length):
  (∀ (A:Around) (s:Shared) (j:Nat) (h1:j < us.toArray.size) (h2:j < ws.toArray.size),SeqAt.EqAt A s us.toArray[j] ws.toArray[j] (match xs[j]?,ys[j]? with | some a,some b=>Yh a b | _,_=>false))∧
  (List.range us.toArray.size).all (fun j=>match xs[j]?,ys[j]? with | some a,some b=>Yh a b | _,_=>false)=eqL xs ys:=by
 refine ⟨fun A s j h1 h2=>?_,?_⟩
 ·rw [List.size_toArray] at h1 h2;have l1:=rx.length;have l2:=ry.length;have a1:xs[j]? =some xs[j]:=bW (by omega);have a2:ys[j]? =some ys[j]:=bW (by omega);obtain ⟨u,e1,r1⟩:=rx.get a1;obtain ⟨w',e2,r2⟩:=ry.get a2;rw [bW h1] at e1;rw [bW h2] at e2;cases e1;cases e2;rw [a1,a2];exact Cz r1 r2 (List.all_eq_true.mp fx _ (List.getElem_mem (by omega))) (List.all_eq_true.mp fy _ (List.getElem_mem (by omega)))
 ·rw [List.size_toArray,← rx.length];unfold eqL;rw [beq_iff_eq.mpr hl,Bool.true_and,Bool.eq_iff_iff,List.all_eq_true,List.all_eq_true];constructor
  ·intro h p hp;obtain ⟨j,hj,e⟩:=List.getElem_of_mem hp;rw [List.length_zip] at hj;have:=h j (List.mem_range.mpr (by omega));rw [bW (show j < xs.length by omega),bW (show j < ys.length by omega)] at this;rw [List.getElem_zip] at e;rw [← e];exact this
  ·intro h j hj;have hj:=List.mem_range.mp hj;rw [bW (show j < xs.length by omega),bW (show j < ys.length by omega)];have hz:j < (xs.zip ys).length:=by rw [List.length_zip];omega
   have:=h _ (List.getElem_mem hz);rw [List.getElem_zip] at this;exact this
theorem Zlb {xs ys:List V} (h:xs.length≠ys.length):eqL xs ys=false:=by
 unfold eqL;rw [show (xs.length == ys.length)=false by simpa using h,Bool.false_and]
theorem Zmz (hu:X.A.units + 1 < cLine):yt X (compareOp .Eq) (Zmo X.K false):=by
 intro pins s σ H x y v u Q I rx ry h;obtain ⟨p,q',xs,ys,rfl,rfl,hx,hy,ff,q⟩:=h;cases rx;cases ry;obtain ⟨us,r1,pl1,_⟩:=I.list hx;obtain ⟨ws,r2,pl2,_⟩:=I.list hy;have hu':X.A.units < cLine:=by omega
 by_cases hl:xs.length=ys.length
 ·obtain ⟨e1,e2⟩:=Zdy r1 r2 (ff hl).1 (ff hl).2 hl;refine SeqAt.eq_listAt pl1.isList pl2.isList (by rw [List.size_toArray,List.size_toArray,← r1.length,← r2.length];exact hl) hu' (fun j h1 h2=>e1 _ _ j h1 h2) ?_;rw [e2];exact ⟨.bl _,H,I,rfl,q⟩
 ·refine SeqAt.eq_list_lengthsAt pl1.isList pl2.isList ?_ hu' ?_
  ·rw [List.size_toArray,List.size_toArray,← r1.length,← r2.length];simpa using hl
  ·refine ⟨.bl _,H,I,rfl,?_⟩;have:=q;rw [Zlb hl] at this;exact this
end
end G
namespace G
open PySem L2 PySem.Spec PyProof.Rows
theorem Zfx:fastBuiltinMro "NoneType"=some [.type "NoneType",.type "object"]:=by decide +kernel
section
variable {K:aC}{A:Around}{a C:Addr}{o:Obj}
theorem Zoo {M:Model}{E:Value→Shared→Prop}{s:Shared}{Q:Unit→Shared→Prop} (LI:PySem.W.Looks M s.heap (isInstance (.ref a) (.type "object")) true) (hq:Q () s):wpAny M A (checkBuiltinCall "object.__eq__" ⟨[.ref a,.none],[]⟩) Q E s:=by
 have ha:=PySem.F.cmpArgs_eq (.ref a) .none;simp only [checkBuiltinCall,PySem.F.cmpKind_eq,PySem.F.cmpSplit_eq];refine wpAny_bind (LI.here ?_);simp only [Bool.not_true,Bool.false_eq_true,if_false];cases hsig:Manifest.signature? "object.__eq__" with
 | none=>exact wpAny_pure hq
 | some sig=>
  simp only [argsOk,hsig] at ha;have h2:Bind.checkArgs "object.__eq__" sig ⟨[.ref a,.none],[]⟩=pure ():=ha;show wpAny M A (Bind.checkArgs "object.__eq__" sig ⟨[.ref a,.none],[]⟩) Q E _;rw [h2];exact wpAny_pure hq
theorem Zla {prog:Program}{w:World}{E:Value→Shared→Prop}{s:Shared}{Q:Value→Shared→Prop} (LI:PySem.W.Looks (model prog w) s.heap (isInstance (.ref a) (.type "object")) true) (hq:Q .notImplemented s):
  wpAny (model prog w) A (call (.builtin "object.__eq__") [.ref a,.none]) Q E s:=by
 refine wpAny_call (codeAny_call_builtin PySem.F.cmp_object.eq.plain PySem.F.cmpEntry_eq (Zoo LI ?_));obtain ⟨h,g,d,t,os⟩:=s;unfold Builtin.«object.__eq__»
 repeat (first | with_reducible refine wpAny_bind (m:=isSame (.ref a) .none) (wpAny_pure ?_) | wp_step)
 exact hq
theorem Zm6 {prog:Program}{w:World}{E:Value→Shared→Prop}{s:Shared}{Q:Option Value→Shared→Prop} (X:K.In s.heap) (hx:s.heap.get? a=some o) (hc:o.cls=.ref C) (hE:EqD K C) (hq:Q none s):
  wpAny (model prog w) A (tryCompare (.ref a) "__eq__" .none) Q E s:=by
 have LT:PySem.W.Looks (model prog w) s.heap (typeOf (.ref a)) (.ref C):=hc ▸ (PySem.W.Looks.ld hx).andThen .now;have LI:PySem.W.Looks (model prog w) s.heap (isInstance (.ref a) (.type "object")) true:=LT.andThen (PySem.W.looks_mroIn X hE.ob);have LS:PySem.W.Looks (model prog w) s.heap (specialOf (.ref a) "__eq__") (some (.builtin "object.__eq__")):=LT.andThen (PySem.W.looks_findIn X hE.eq);simp only [tryCompare];refine wpAny_bind ?_;simp only [callSpecialIfBound?,bindSpecialIfBound?];refine wpAny_holding (wpAny_bind (wpAny_bind (LS.here ?_)));simp only [PySem.F.cmp_object.eq.bind];have fin:wpAny (model prog w) A (call (.builtin "object.__eq__") ([.ref a] ++ [.none]) >>= fun v=>pure (some v)) (fun r s'=>wpAny (model prog w) A (match r with | some .notImplemented | none=>pure none | some v=>pure (some v)) Q E s') E s:=
  wpAny_bind (Zla LI (wpAny_pure (wpAny_pure hq)))
 refine wpAny_bind (wpAny_askSetting (wpAny_ite ?_));split
 ·exact wpAny_bind (wpAny_pure (wpAny_pure fin))
 ·exact wpAny_tryCatch (wpAny_bind (wpAny_pure (wpAny_pure fin)))
theorem Zj1 {s:Shared} (X:K.In s.heap) (hx:s.heap.get? a=some o) (hc:o.cls=.ref C) (hE:EqD K C) (hu:A.units < cLine):SeqAt.RcAt A s (.ref a) .none false:=fun prog w E Q h=>by
 have LT:PySem.W.Looks (model prog w) s.heap (typeOf (.ref a)) (.ref C):=hc ▸ (PySem.W.Looks.ld hx).andThen .now;have hi:cmpInfo CmpOp.Eq=("==",("__eq__":Str),("__eq__":Str)):=rfl;have ho:oneThing? .Eq (.ref a) .none=none:=rfl;simp only [richCompare,hi,ho]
 try with_reducible refine wpAny_holding ?_
 refine wpAny_bind (wpAny_cRoomFor_or (.inr hu) ?_);refine wpAny_bind (LT.here (wpAny_bind (m:=typeOf .none) (wpAny_pure ?_)));have hne:(Value.ref C != Value.type "NoneType")=true:=by simp
 simp only [hne,if_true];have hs:isSubtype (.type "NoneType") (.ref C)=pure false:=by
  rw [isSubtype_type,Zfx];rfl
 refine wpAny_bind (wpAny_of_eq hs ?_);simp only [Bool.false_eq_true,if_false,Bool.not_false,if_true];refine wpAny_bind (m:=tryCompare (.ref a) _ .none) (Zm6 X hx hc hE ?_);refine wpAny_bind (m:=tryCompare .none _ (.ref a)) (wpAny_tryCompare_declines (T:="NoneType") rfl PySem.F.slot_NoneType_eq_refl (call_gives PySem.F.slot_NoneType_eq_refl rfl PySem.F.entry_NoneType_eq (PySem.F.args_NoneType_eq_2 _ _) (SeqAt.NoneType___eq___none_ref_0 a) ⟨rfl,?_⟩));exact wpAny_bind (wpAny_rule (wpAny_bind (wpAny_of_eq (rfl:isSame (.ref a) .none=pure false) (wpAny_pure h))))
theorem Zl9 {s:Shared} (X:K.In s.heap) (hx:s.heap.get? a=some o) (hc:o.cls=.ref C) (hE:EqD K C) (hu:A.units < cLine):SeqAt.EqAt A s (.ref a) .none false:=fun prog w E Q h=>by
 unfold eqBool;refine wpAny_holding ?_;refine wpAny_ite_split (fun hab=>absurd (eq_of_beq hab) nofun) (fun _=>?_);exact wpAny_bind (Zj1 X hx hc hE hu prog w E _ (wpAny_truthy_bool h))
end
section
variable {X:Cx}
def zQ (u:Value):Bool:=match u with
 | .none=>true
 | _=>false
theorem W3 {H:Hp}{y:V}{u:Value} (r:RelV y u) (h:y=.non∨∃ a C dx fs,y=.ref a∧H a=some (.ins C dx fs)∧CW X.K C∧EqD X.K C):zQ u=decide (y=.non):=by
 rcases h with rfl | ⟨a,_,_,_,rfl,_⟩
 ·obtain rfl:u=Value.none:=r;rfl
 ·obtain rfl:u=Value.ref a:=r;rfl
theorem Zfz {pins:List (Addr×Obj)}{σ:L2.St}{H:Hp}{s:Shared}{A:Around}{y:V}{u:Value} (I:Inv X pins σ H s) (hu:A.units < cLine) (r:RelV y u) (h:y=.non∨∃ a C dx fs,y=.ref a∧H a=some (.ins C dx fs)∧CW X.K C∧EqD X.K C):SeqAt.EqAt A s u .none (zQ u):=by
 rcases h with rfl | ⟨a,C,dx,fs,rfl,ha,hc,he⟩
 ·obtain rfl:u=Value.none:=r;exact SeqAt.EqAt.same .none
 ·obtain rfl:u=Value.ref a:=r;obtain ⟨_,_,_,e,_⟩:=(show kZ X.prog X.w H s.heap a (.ins C dx fs) from I.hok a _ ha);exact Zl9 I.J7 e rfl he hu
theorem W2 {H:Hp}:∀ {xs:List V}{us:List Value},Vals xs us→OkN X.K H xs→us.any zQ=decide (V.non∈xs)
 | _,_,.nil,_=>rfl
 | y :: xs,u :: us,.cons r t,h=>by
  rw [List.any_cons,W2 t fun z hz=>h z (List.mem_cons_of_mem _ hz),W3 r (h y List.mem_cons_self),Bool.eq_iff_iff];simp only [Bool.or_eq_true,decide_eq_true_eq,List.mem_cons];constructor
  ·rintro (z | z)
   ·exact .inl z.symm
   ·exact .inr z
  ·rintro (z | z)
   ·exact .inl z.symm
   ·exact .inr z
theorem WY {H:Hp}{pins:List (Addr×Obj)}{σ:L2.St}{s:Shared}{A:Around}{xs:List V}{us:List Value} (I:Inv X pins σ H s) (hu:A.units < cLine) (r:Vals xs us) (h:OkN X.K H xs):∀ u∈us,SeqAt.EqAt A s u .none (zQ u):=by
 intro u hm;obtain ⟨i,hi,rfl⟩:=List.getElem_of_mem hm;have hl:=r.length;have hx:xs[i]? =some xs[i]:=bW (by omega);obtain ⟨u',e,ru⟩:=r.get hx;rw [bW hi] at e;cases e;exact Zfz I hu ru (h _ (List.getElem_mem (by omega)))
theorem Zcj (hu:X.A.units + 1 < cLine):yt X (compareOp .NotIn) (Zmn X.K true):=by
 intro pins s σ H x y v u Q I rx ry h;obtain ⟨p,xs,rfl,rfl,hs,hk,q⟩:=h;obtain rfl:v=Value.none:=rx;cases ry;obtain ⟨us,r,pl,_⟩:=I.list hs;refine SeqAt.notIn_listAt zQ pl.isList (fun w hw=>WY I (by show X.A.units + 1 < cLine;exact hu) r hk w (by simpa using hw)) ⟨.bl _,H,I,rfl,?_⟩;rw [show us.toArray.any zQ=us.any zQ by simp,W2 r hk];exact q
theorem W0 {H:Hp}{xs:List V}{us:List Value} (r:Vals xs us) (h:OkN X.K H xs) (j:Nat) (hj:j < us.length) (hj':j < xs.length):zQ us[j]=decide (xs[j]=V.non):=by
 obtain ⟨u',e,ru⟩:=r.get (bW hj');rw [bW hj] at e;cases e;exact W3 ru (h _ (List.getElem_mem hj'))
theorem Zct (hu:X.A.units + 1 < cLine):MtR X "list.index" (Zb4 X.K):=by
 intro pins s σ H x xs v us Q I rx rs h;obtain ⟨p,ys,rfl,rfl,hs,hk,hn,q⟩:=h;obtain rfl:v=Value.ref p:=rx;obtain ⟨u,rfl,ru⟩:=Vals.one rs;obtain rfl:u=Value.none:=ru;obtain ⟨ws,r,pl,hz⟩:=I.list hs;obtain ⟨⟨cls,dd,data,sl⟩,ho,hc,n,hd⟩:=pl.isList;simp only at hc hd;subst hc hd;have hl:=r.length;have hj:ys.idxOf V.non < ys.length:=List.idxOf_lt_length_iff.mpr hn;have hz2:ys.length < 2 ^ 62:=Nat.lt_of_le_of_lt hz (by decide);refine call_meets PySem.F.slot_list_index ⟨_,ho,rfl⟩ PySem.F.entry_list_index (PySem.F.args_list_index_2 _ _)
  (SeqAt.list_indexAt p ws.toArray n dd sl .none zQ (ys.idxOf V.non) (by simpa [hl] using hj) (by omega) ?_ ?_) ⟨ho,fun y hy=>WY I (by show X.A.units + 1 < cLine;exact hu) r hk y (by simpa using hy),⟨.int _,H,I.tok _,⟨_,rfl⟩,q⟩⟩
 ·show zQ ws[ys.idxOf V.non]=true;rw [W0 r hk _ (by omega) hj,decide_eq_true_eq];exact List.getElem_idxOf hj
 ·intro j hjs hlt;show zQ ws[j]=false;rw [W0 r hk j (by simpa using hjs) (by omega),decide_eq_false_iff_not];intro e;have:=List.not_of_lt_findIdx (p:=(· == V.non)) (xs:=ys) hlt;simp [e] at this
end
end G
namespace G
open PySem L2
def Yq (C:Addr):TE:=fun _ H Q=>∀ x dx,H x=none→H dx=none→dx≠x→Q (.ref x) (upd (upd H dx (.own x)) x (.ins C dx []))
theorem Zki {C:Addr}{σ:St}{H:Hp}{Q:VK} (h:∀ x dx,H x=none→H dx=none→dx≠x→Q (.ref x) (upd (upd H dx (.own x)) x (.ins C dx []))):Yq C σ H Q:=h
end G
namespace G
open PySem L2 PySem.Spec PyProof.Rows
section
variable {X:Cx}
structure Mk0 (K:aC) (C:Addr):Prop where
 makes:PySem.W.makesIn K C=true
 init:PySem.W.findIn K (.ref C) "__init__"=some (some (.builtin "object.__init__"))
 kp:PySem.W.keepIn K (.ref C)=true
theorem Zb {C:Addr}{pins:List (Addr×Obj)}{σ:L2.St}{H:Hp}{s:Shared}{Q:VK} (M:Mk0 X.K C) (I:Inv X pins σ H s)
  (h:∀ x dx,H x=none→H dx=none→dx≠x→Q (.ref x) (upd (upd H dx (.own x)) x (.ins C dx []))):wpAny (model X.prog X.w) X.A (call (.ref C) []) (EP X pins σ Q) X.xe s:=by
 have hq:=h (s.heap.objs.size + 1) s.heap.objs.size (I.hok.fresh (Nat.le_succ _)) (I.hok.fresh (Nat.le_refl _)) (Nat.ne_of_lt (Nat.lt_succ_self _));have I2:=Inv.made (C:=C) I;have Y:=PySem.W.makes_of (M:=model X.prog X.w) I.J7 M.makes;refine wpAny_call (Zcw I.J7 M.makes M.init (fun self=>PySem.W.Looks.of_pure (PySem.W.oi_bind self)) ?_);have e2:((s.heap.push PySem.W.emptyDict).push (PySem.W.instObj C s.heap.objs.size)).get? (s.heap.objs.size + 1)=some (PySem.W.instObj C s.heap.objs.size):=by
  have:=Heap.get?_push_size (s.heap.push PySem.W.emptyDict) (o:=PySem.W.instObj C s.heap.objs.size) rfl;rw [Heap.size_push] at this;exact this
 have t1:PySem.W.Looks (model X.prog X.w) ((s.heap.push PySem.W.emptyDict).push (PySem.W.instObj C s.heap.objs.size)) (typeOf (.ref (s.heap.objs.size + 1))) (.ref C):=(PySem.W.Looks.ld e2).andThen .now;have t2:PySem.W.Looks (model X.prog X.w) ((s.heap.push PySem.W.emptyDict).push (PySem.W.instObj C s.heap.objs.size)) (isInstance (.ref (s.heap.objs.size + 1)) (.type "object")) true:=t1.andThen (Y.top.keeps fun b o e=>Heap.get?_push_of_some _ (Heap.get?_push_of_some _ e));refine codeAny_call_builtin PySem.W.oi_plain PySem.W.entry_oi (@PySem.W.check_slot (model X.prog X.w) _ _ _ "object.__init__" "object" "__init__" (.ref (s.heap.objs.size + 1)) [] [] _ PySem.W.oi_kind PySem.W.oi_split t2 (PySem.W.oi_args (.ref (s.heap.objs.size + 1))) ?_);rw [PySem.W.oi_run];exact wpAny_pure (And.intro rfl ⟨V.ref (s.heap.objs.size + 1),_,I2,rfl,hq⟩)
theorem Zch {C:Addr}{x:Str}{p pos:Pos} (M:Mk0 X.K C) (hg:Gl X x) (hm:X.mg x=some (.ref C)) (hdb:(x == ("__debug__":Str))=false:=by decide):PE X (.Call (.Name x p) [] [] pos) (Yq C):=by
 intro pins s σ H Q I h;refine wpAny_Call_Name_kw (rK I hg hm ?_ hdb);exact PySem.W.callWith_K0 I.J7 M.kp (Zb M I h)
structure Zyg (K:aC) (C:Addr):Prop where
 pg:PySem.W.plainGet K C "__class__"=true
 hd:PySem.W.hasDictIn K C=true
 cl:PySem.W.findIn K (.ref C) "__class__"=some (some (.builtin "object.__class__"))
 sp:PySem.W.specialIn K (.builtin "object.__class__") "__get__"=some (some (.builtin "getset_descriptor.__get__"))
 tk:PySem.W.takesIn K (.builtin "object.__class__")=some true
 so:PySem.W.mroIn K C (.type "object")=some true
end
end G
namespace G
open PySem L2
end G
namespace G
open PySem L2 PySem.Spec PyProof.Rows
end G
namespace G
open PySem L2 PySem.Spec PyProof.Rows
def XR (w:World):List DictEntry→List (Str×Addr)→Prop
 | [],[]=>True
 | e :: es,p :: t=>e.hash=hashStr w p.1∧(∃ tk,e.key=.str p.1 tk)∧e.val=.ref p.2∧XR w es t
 | _,_=>False
def Tab (K:aC) (w:World) (mg:Str→Option Value) (nm:Str) (Ks:List (Str×Addr)):Prop:=
 ∃ dd o es ep,mg nm=some (.ref dd)∧K.lookup dd=some o∧o.ExactDict∧o.data=.dict es ep∧XR w es.toList Ks
theorem XR.keys {prog:Program}{w:World}:∀ {es:List DictEntry}{Ks:List (Str×Addr)},XR w es Ks→∀ e∈es,∃ k,(strKind prog w).is k e.key=true∧e.hash=(strKind prog w).hash k
 | [],_,_=>fun e he=>absurd he List.not_mem_nil
 | e :: es,[],h=>h.elim
 | e :: es,p :: t,h=>fun x hx=>by
  obtain ⟨h1,⟨tk,h2⟩,_,h4⟩:=h;rcases List.mem_cons.mp hx with rfl | hx
  ·refine ⟨p.1,?_,h1⟩;rw [h2];show Value.isStrOf p.1 (.str p.1 tk)=true;simp [Value.isStrOf]
  ·exact XR.keys h4 x hx
theorem XR.find {w:World}:∀ {es:List DictEntry}{Ks:List (Str×Addr)}{k:Str}{f:Addr},XR w es Ks→Ks.lookup k=some f→(es.find? fun e=>Value.isStrOf k e.key).map (·.val)=some (.ref f)
 | [],[],_,_,_,h=>by cases h
 | [],_ :: _,_,_,h,_=>h.elim
 | _ :: _,[],_,_,h,_=>h.elim
 | e :: es,p :: t,k,f,h,hl=>by
  obtain ⟨_,⟨tk,h2⟩,h3,h4⟩:=h;rw [List.find?_cons,h2]
  by_cases hk:k=p.1
  ·subst hk;have e1:Value.isStrOf p.1 (.str p.1 tk)=true:=by simp [Value.isStrOf]
   rw [e1];have e2:List.lookup p.1 (p :: t)=some p.2:=by
    obtain ⟨a,b⟩:=p;simp [List.lookup]
   rw [e2] at hl;cases hl;show some e.val=_;rw [h3]
  ·have e1:Value.isStrOf k (.str p.1 tk)=false:=by
    simp only [Value.isStrOf,beq_eq_false_iff_ne,ne_eq];exact fun z=>hk z.symm
   rw [e1];have e2:List.lookup k (p :: t)=List.lookup k t:=by
    obtain ⟨a,b⟩:=p;simp only [List.lookup];rw [beq_eq_false_iff_ne.mpr hk]
   rw [e2] at hl;exact XR.find h4 hl
def Zig (Ks:List (Str×Addr)) (ti:TE):TE:=fun σ H Q=>ti σ H fun y H1=>∃ k f,y=.str k∧Ks.lookup k=some f∧Q (.ref f) H1
theorem Zq2 {Ks:List (Str×Addr)}{ti:TE}{σ:L2.St}{H:Hp}{Q:VK} (h:ti σ H fun y H1=>∃ k f,y=.str k∧Ks.lookup k=some f∧Q (.ref f) H1):Zig Ks ti σ H Q:=h
theorem Zfi {X:Cx}{nm:Str}{Ks:List (Str×Addr)}{i:Expr}{ti:TE}{p pos:Pos} (T:Tab X.K X.w X.mg nm Ks) (hg:Gl X nm) (hi:PE X i ti) (hs:Zlj i) (hd:(nm == ("__debug__":Str))=false:=by decide):
  PE X (.Subscript (.Name nm p) i pos) (Zig Ks ti):=by
 intro pins s σ H Q I h;obtain ⟨dd,o,es,ep,hm,hk,ho,hda,te⟩:=T;refine Zb1 PySem.F.slot_dict_getitem.lookup hs (rK I hg hm ?_ hd);refine iy (hi pins s σ H _ I h) fun iv s2 ⟨y,H2,I2,ry,k,f,ey,l,q2⟩=>?_;subst ey;have hh:=I2.J7 dd o hk;refine ⟨⟨o,hh,ho.1⟩,?_⟩;obtain ⟨tk,rfl⟩:∃ tk,iv=.str k tk:=ry;refine wpAny_getItem_of (knd:=strKind X.prog X.w) (k:=k) (f:=fun k=>findBy Value.isStrOf es k) (by show Value.isStrOf k (.str k tk)=true;simp [Value.isStrOf]) ⟨o,es,ep,hh,ho,hda,fun e he=>te.keys e (by simpa using he),fun _=>rfl⟩ (v:=.ref f) ?_ ⟨.ref f,H2,I2.tok _,rfl,q2⟩;show Option.map (fun x=>x.val) (Array.find? (fun e=>Value.isStrOf k e.key) es)=_;rw [← Array.find?_toList];exact te.find l
def Nv (P:Program) (w:World) (K:aC) (mg:Str→Option Value) (base:Heap) (CX:V0) (k:Nat) (ps:List Str) (L:List (Addr×Sp)):Prop:=
 ∀ f sp,(f,sp)∈L→∃ k' fd,k'≤k∧tG P w K mg base CX k' f fd ps sp∧PySem.W.keepIn K (.ref f)=true∧L2.Binds K fd ps []
theorem Nv.nil {P:Program}{w:World}{K:aC}{mg:Str→Option Value}{base:Heap}{CX:V0}{k:Nat}{ps:List Str}:Nv P w K mg base CX k ps []:=fun _ _ h=>absurd h List.not_mem_nil
theorem Nv.cons {P:Program}{w:World}{K:aC}{mg:Str→Option Value}{base:Heap}{CX:V0}{k k':Nat}{ps:List Str}{L:List (Addr×Sp)}{f:Addr}{fd:FuncData}{sp:Sp} (hk:k'≤k) (F:tG P w K mg base CX k' f fd ps sp) (hb:L2.Binds K fd ps []) (hp:PySem.W.keepIn K (.ref f)=true) (t:Nv P w K mg base CX k ps L):Nv P w K mg base CX k ps ((f,sp) :: L):=fun g sp' h=>by
 rcases List.mem_cons.mp h with e | h
 ·cases e;exact ⟨k',fd,hk,F,hp,hb⟩
 ·exact t g sp' h
def RP (i:Nat) (L:List (Addr×Sp)) (E:XK) (t:TA):TE:=fun σ H Q=>∃ f sp,σ[i]? =some (some (.ref f))∧(f,sp)∈L∧t σ H fun vs H1=>sp vs H1 Q E
theorem lU {i:Nat}{L:List (Addr×Sp)}{E:XK}{t:TA}{σ:L2.St}{H:Hp}{Q:VK}{f:Addr} (sp:Sp) (hf:σ[i]? =some (some (.ref f))) (hm:(f,sp)∈L) (h:t σ H fun vs H1=>sp vs H1 Q E):RP i L E t σ H Q:=⟨f,sp,hf,hm,h⟩
theorem Wo {X:Cx}{CX:V0}{k i:Nat}{ps:List Str}{L:List (Addr×Sp)}{x:Str}{E:XK}{e:Expr}{es:List Expr}{t:TA}{p pos:Pos} (F:Nv X.prog X.w X.K X.mg X.base CX k ps L) (hr:Room k X.A) (hN:X.N[i]? =some x) (hv:Vis X.env.scope x) (hx:Passes CX X E)
  (ha:PA X (e :: es) t) (hd:(x == ("__debug__":Str))=false:=by decide) (hcd:(x == ("__classdict__":Str))=false:=by decide) (he:starEach (e :: es) X.env=(false,eval e X.env) :: starEach es X.env:=by rfl) (hpl:(backTo pos (starEach es X.env)).any (·.1)=false:=by rfl):
  PE X (.Call (.Name x p) (e :: es) [] pos) (RP i L E t):=by
 intro pins s σ H Q I h;obtain ⟨f,sp,ef,hm,h⟩:=h;obtain ⟨k',fd,hk,FO,hp,hb⟩:=F f sp hm;refine wpAny_Call_Name_kw (iy (Zfh hN hv hd hcd pins s σ H (fun v H'=>v=.ref f∧H'=H) I ⟨_,ef,rfl,rfl⟩) fun u s1 ⟨v,H1,I1,r,e1,e2⟩=>?_);subst e1 e2;obtain rfl:u=Value.ref f:=r;refine PySem.W.callWith_K (h₀:=X.base) I1.ok.mod.kin hp (iy (ha pos pins s1 σ H1 _ I1 h) fun us s2 ⟨vs,H2,I2,r2,q2⟩=>⟨I2.J7,?_⟩) he hpl;refine Td (tH:=[]) FO (hr.mono hk) hb .nil hx I2 r2 ?_;rw [List.append_nil];exact q2
section
variable {σ:L2.St}{H:Hp}{Q:VK}{td ty tv:TE}{n bk ct:L2.St→Hp→Prop}{r:VK}
theorem Zo9 (h:td σ H fun x H1=>ty σ H1 fun y H2=>∃ a v,x=.ref a∧Ik H2 a y (some v)∧Q v H2):QH td ty σ H Q:=h
theorem Zh4 (h:ty σ H fun y H1=>td σ H1 fun x H2=>∃ a o,x=.ref a∧Ik H2 a y o∧Q (.bl (!o.isSome)) H2):RM ty td σ H Q:=h
theorem Zo7 (h:tv σ H fun v H1=>td σ H1 fun x H2=>ty σ H2 fun y H3=>∃ a H4,x=.ref a∧Qi H3 a y v H4∧n σ H4):QL td ty tv ⟨n,r,bk,ct⟩ σ H:=h
theorem Zhz {a:Addr}{kvs:List (L2.Key×V)}{z:Str} (e:H a=some (.dK kvs)):Ik H a (.str z) (lX kvs (Sum.inr z)):=Ik.k (k:=Sum.inr z) e
theorem Zqs {a:Addr}{kvs:List (L2.Key×V)}{z:Str}{v:V} (e:H a=some (.dK kvs)) (hl:kvs.length < sizeLine):Qi H a (.str z) v (upd H a (.dK (putK kvs (Sum.inr z) v))):=Qi.k (k:=Sum.inr z) e hl
end
end G
namespace G
open PySem L2 PySem.Spec PyProof.Rows
def Zlk (K:aC) (J:It) (caps:List Nat) (tc:TT) (te:TE) (σ:L2.St) (H1:Hp) (Q:VK):Prop:=∃ W:Nat→Nat→List V→Hp→Prop,(∃ m,W 0 m [] H1)∧∀ i m ys H,W i m ys H→
 (J.stop i H∧∀ p,H p=none→Q (.ref p) (upd H p (.lst ys)))∨
 (J.go i H∧ys.length < sizeLine∧∀ x H',J.Yj i H x H'→∃ a u v,x=.ref a∧iQ K H' a [u,v]∧tc (some u :: some v :: caps.map (pick σ)) H' fun k H2=>if k=true then te (some u :: some v :: caps.map (pick σ)) H2 (fun y H3=>∃ m',m' < m∧W (i + 1) m' (ys ++ [y]) H3) else ∃ m',m' < m∧W (i + 1) m' ys H2)
def Zeq (K:aC) (wi:TI) (caps:List Nat) (tc:TT) (te:TE):TE:=fun σ H Q=>wi σ H fun J H1=>Zlk K J caps tc te σ H1 Q
theorem Znz {K:aC}{wi:TI}{caps:List Nat}{tc:TT}{te:TE}{σ:L2.St}{H:Hp}{Q:VK} (h:wi σ H fun J H1=>Zlk K J caps tc te σ H1 Q):Zeq K wi caps tc te σ H Q:=h
def Zr9 (K:aC) (te:TE):TE:=fun σ H Q=>∃ a u v r,σ=some (.ref a) :: r∧iQ K H a [u,v]∧te (some u :: some v :: r) H Q
theorem Zbf {K:aC}{J:It}{caps:List Nat}{te:TE}{σ:L2.St}{H:Hp}{Q:VK} (h:LCg J caps vG (Zr9 K te) σ H Q):Zlk K J caps vG te σ H Q:=by
 obtain ⟨W,w0,step⟩:=h;refine ⟨W,w0,fun i m ys H hw=>?_⟩;rcases step i m ys H hw with z | ⟨g,l,st⟩
 ·exact .inl z
 ·refine .inr ⟨g,l,fun x H' y=>?_⟩;have h1:=st x H' y;simp only [vG,↓reduceIte] at h1;obtain ⟨a,u,v,r,e,hs,q⟩:=h1;cases e;refine ⟨a,u,v,rfl,hs,?_⟩;simp only [vG,↓reduceIte];exact q
theorem Zk {X:Cx}{elt iter:Expr}{x y:Str}{px py pt pos:Pos}{kt:Nat}{ifs:List Expr}{scope:Scope}{cl:List (Str×Addr)}{wi:TI}{tc:TT}{te:TE}{cns:List Str} (caps:List Nat)
  (hi:PI X (.Tuple [.Name x px,.Name y py] kt pt) iter wi)
  (hf:∀ C s H ex pn,PF (M7 X scope cl (x :: y :: cns) C s H ex pn) ifs tc) (he:∀ C s H ex pn,PE (M7 X scope cl (x :: y :: cns) C s H ex pn) elt te) (hc:X.calm=true)
  (hclos:closureFor scope X.env=pure cl) (hcl:AllIn X.env.cells cl) (hcap:Ab X cns caps)
  (hkind:scope.kind=.function) (hcell:(scope.names.all fun p=>p.2 != .cell)=true) (hfree:(scope.names.all fun p=>p.2 != .free || (cl.lookup p.1).isSome)=true)
  (hcf:(cns.all fun y=>scope.names.lookup y == some .free)=true) (hnames:∀ y∈scope.names,y.2=.local→scope.names.lookup y.1=some .local) (hx:scope.names.lookup x=some .local) (hy:scope.names.lookup y=some .local) (hnd:(x :: y :: cns).Nodup)
  (hs:∀ v,foldedSetIterable iter X.env v=pure v:=by intro _;rfl):
  PE X (.ListComp elt [⟨.Tuple [.Name x px,.Name y py] kt pt,iter,ifs,0⟩] scope pos) (Zeq X.K wi caps tc te):=by
 refine Zfl (ns:=[x,y]) (gt:=Zhh X.K 2 (Eo (aL 0) (Eo (aL 1) Zhi))) caps (fun J σ H Q h=>?_) hi (fun C s H ex pn=>Tq hc (qz (iD hnd rfl (.inl (lookup_relabel_local hx)) (.inr (lookup_relabel_local hx))) (qz (iD hnd rfl (.inl (lookup_relabel_local hy)) (.inr (lookup_relabel_local hy))) JX))) hf he hc hclos hcl hcap hkind hcell hfree hcf hnames hs;obtain ⟨W,w0,turn⟩:=h;refine ⟨W,w0,fun i m ys H hw=>(turn i m ys H hw).imp id fun ⟨g,l,st⟩=>⟨g,l,fun z H' y vs hv=>?_⟩⟩;obtain ⟨ta,u1,u2,ez,hst,st⟩:=st z H' y
 match vs,hv with
 | [v,v'],_=>exact ⟨[some u1,some u2],rfl,⟨ta,_,ez,hst,rfl,_,_,rfl,_,_,rfl,rfl,rfl,rfl⟩,st⟩
end G
namespace G
open PySem L2 PySem.Spec PyProof.Rows
theorem Zfc {X:Cx}{iz:Nat}{z:Str}{pz Zpk:Pos}{elt iter:Expr}{x:Str}{px pos:Pos}{ifs:List Expr}{scope:Scope}{cl:List (Str×Addr)}{wi:TI}{tc:TT}{te:TE}{cns:List Str} (caps:List Nat)
  (hi:PI X (.Name x px) iter wi)
  (hf:∀ C s H ex pn,PF (M7 X scope cl (x :: cns) C s H ex pn) ifs tc) (he:∀ C s H ex pn,PE (M7 X scope cl (x :: cns) C s H ex pn) elt te) (hc:X.calm=true)
  (hclos:closureFor scope X.env=pure cl) (hcl:AllIn X.env.cells cl) (hcap:Ab X cns caps)
  (hkind:scope.kind=.function) (hcell:(scope.names.all fun p=>p.2 != .cell)=true) (hfree:(scope.names.all fun p=>p.2 != .free || (cl.lookup p.1).isSome)=true)
  (hcf:(cns.all fun y=>scope.names.lookup y == some .free)=true) (hnames:∀ y∈scope.names,y.2=.local→scope.names.lookup y.1=some .local) (hx:scope.names.lookup x=some .local) (hnd:(x :: cns).Nodup)
  (hN:X.N.Nodup) (hiz:X.N[iz]? =some z) (hz:Loc X.env.scope z) (hfz:X.fn z=true∨X.env.scope.names.lookup z=some .local)
  (hsw:swapsWithSole [.Name z pz] (.ListComp elt [⟨.Name x px,iter,ifs,0⟩] scope pos) Zpk.line X.env=pure true) (hs:∀ v,foldedSetIterable iter X.env v=pure v:=by intro _;rfl):
  PS X (.Assign [.Name z pz] (.ListComp elt [⟨.Name x px,iter,ifs,0⟩] scope pos) Zpk) (bC (tLC wi caps tc te) (aL iz)):=by
 intro pins s σ H D I h;generalize hQ:(fun v H1=>aL iz v σ H1 D.nx)=Q;have h:tLC wi caps tc te σ H Q:=hQ ▸ h;rw [exec_Assign_arm];refine wpAny_bind (wpAny_standAt ?_);rw [hsw];refine wpAny_bind (wpAny_pure ?_);rw [if_pos rfl];refine wpAny_bind ?_;rw [evalThenUse]
 suffices key:wpAny (model X.prog X.w) X.A (comprehension (.ListComp elt [⟨.Name x px,iter,ifs,0⟩] scope pos) scope X.env (firstIterPos [⟨.Name x px,iter,ifs,0⟩] pos) (newList []) (firstAsync [⟨.Name x px,iter,ifs,0⟩]) (firstIter [⟨.Name x px,iter,ifs,0⟩] X.env) (some fun v=>assignAll v ((assignEach [.Name z pz] X.env).map (·.2)))) (fun _ s'=>SP X pins D .next s') X.xe s from
  wpAny_bind (wpAny_mono key (fun _ s' h=>wpAny_pure (wpAny_pure h)) fun _ _ h=>h)
 refine wpAny_comprehension_free rfl hs hclos hkind hnames (iy (hi pins s σ H _ I h) fun xv s1 h1=>iy h1 fun itv s2 h2=>?_);obtain ⟨it,fp,tn,J,H2,rfl,I2,T,st2,f2,W,⟨m0,w0⟩,turn⟩:=h2;have hne:∀ y∈scope.names,y.2≠.cell:=fun y hy e=>by
  have:=List.all_eq_true.mp hcell y hy;rw [e] at this;simp at this
 refine wpAny_newObj_type (wpAny_newFunctionEnv hne (by intro y hy;simp at hy) (fun h₁ hns₁ hsb₁=>?_) hkind);dsimp only at hns₁ hsb₁ ⊢;generalize hacc:s2.heap.objs.size=acc;generalize hH3:s2.heap.push { cls:=.type "list",dict:=none,data:=.seq ([]:List Value).toArray }=h3 at hns₁ hsb₁ ⊢;have hC:h3.objs.size=acc + 1:=by rw [← hH3,Heap.size_push,hacc]
 have Bb:∀ b o,s2.heap.get? b=some o→h3.get? b=some o:=fun b o e=>hH3 ▸ Heap.get?_push_of_some _ e;have O9:∀ b o,h3.get? b=some o→h₁.get? b=some o:=fun b o e=>hsb₁.extBut b o (Nat.ne_of_lt (Heap.lt_size e)) (Heap.get?_push_of_some _ e);have Zn5:h3.get? acc=some { cls:=.type "list",dict:=none,data:=.seq ([]:List Value).toArray }:=by
  rw [← hH3,← hacc];exact Heap.get?_push_size _ rfl
 have I3:Inv X pins σ H2 { s2 with heap:=h3 }:=I2.kept (t':=s2.toks) Bb;have Zac:pF X pins H2 acc:=I2.Xl (Nat.le_of_eq hacc) (I2.hok.fresh (Nat.le_of_eq hacc));have fpl:∀ b∈fp,b < acc:=fun b hb=>by
  obtain ⟨o,e,_⟩:=T.obj _ _ st2 b hb;rw [← hacc];exact Heap.lt_size e
 have HQ:∀ b∈acc :: fp,pF X pins H2 b:=fun b hb=>(List.mem_cons.mp hb).elim (fun e=>e ▸ Zac) (f2 b);have exC:∀ b∈acc :: fp,b≠h3.objs.size:=fun b hb=>by
  rcases List.mem_cons.mp hb with e | hb
  ·rw [hC,e];exact Nat.ne_of_lt (Nat.lt_succ_self _)
  ·rw [hC];exact Nat.ne_of_lt (Nat.lt_succ_of_lt (fpl b hb))
 have Bx:∀ b∈acc :: fp,b∉frs X.stack:=fun b hb hm=>by
  obtain ⟨_,g1,g2,_⟩:=HQ b hb;exact (List.mem_cons.mp (I2.yG b hm)).elim g1 g2
 let Y:Cx:=M7 X scope cl (x :: cns) h3.objs.size { s2 with heap:=h3 } H2 (acc :: fp) (X.pn ++ pins)
 have cellsOf:∀ y c,cl.lookup y=some c→X.env.cells.lookup y=some c:=fun y c e=>hcl.get e;have Em:∀ y k,Y.env.kindOf y=some k→(k=.cell∨k=.free)→∃ c,cl.lookup y=some c:=fun y k e hk=>by
  have e0:(scope.names.lookup y).map (za X.env y)=some k:=mj.symm.trans e;obtain ⟨k0,e1,e2⟩:=Option.map_eq_some_iff.mp e0;have e3:=lookup_all hfree e1;have e4:=lookup_all hcell e1
  by_cases hf:k0=.free
  ·subst hf;rw [Bool.or_eq_true] at e3;rcases e3 with e3 | e3
   ·exact absurd rfl (bne_iff_ne.mp e3)
   ·exact Option.isSome_iff_exists.mp e3
  ·exfalso
   have e5:za X.env y k0=k0:=by
    unfold za;rw [if_neg];intro z;rw [Bool.and_eq_true,Bool.and_eq_true] at z;exact hf (beq_iff_eq.mp z.1.1)
   rw [e5] at e2;subst e2;rcases hk with rfl | rfl
   ·simp at e4
   ·exact hf rfl
 have okY:Y.Ok:={
  mod:=I2.ok.mod
  kind:=hkind
  glob:=I2.ok.glob
  blt:=I2.ok.blt
  above:=Nat.le_refl _
  inj:=fun a b c e1 e2=>I2.ok.inj a b c (cellsOf _ _ e1) (cellsOf _ _ e2)
  has:=fun y hy=>hy.elim (fun e=>Em y _ e (.inl rfl)) (fun e=>Em y _ e (.inr rfl))
  cab:=fun y c e=>nomatch e
  hd:=I2.ok.hd
  frames:=I2.ok.frames
  stk:=.inl rfl
  exf:=fun b hb=>⟨exC b hb,fun y c e=>(HQ b hb).2.2.2.2.1 y c (cellsOf _ _ e)⟩
  bs:=fun b o e=>⟨Bb b o (I2.bs b o e).1,(I2.bs b o e).2⟩
  bsz:=by
   show X.base.objs.size≤h3.objs.size;rw [hC,← hacc];exact Nat.le_succ_of_le (Nat.le_trans I2.ok.bsz I2.sz)
  O7:=fun b o e hb=>by
   rcases (HQ b hb).2.2.2.1 with z | z
   ·exact I2.ok.O7 b o e z
   ·exact absurd (Nat.lt_of_lt_of_le (Heap.lt_size e) (Nat.le_trans I2.ok.bsz z)) (Nat.lt_irrefl _)
  Xp:=Bx
  vX:=I3.stack
  frf:=I3.JT }
 have Znh:(none :: caps.map (pick σ):L2.St).length=(x :: cns).length:=by rw [List.length_cons,List.length_cons,bD,hcap.len]
 have I4:Inv Y [] (none :: caps.map (pick σ)) H2 { s2 with heap:=h₁,toks:=s2.toks + ([]:List (Str×Value)).length }:={
  ok:=okY
  os:=rfl
  bare:=I2.bare
  base:=Un.kept O9
  loc:=by
   refine ⟨_,hns₁,fun i y v e1 e2 e3=>?_⟩;cases i with
   | zero=>simp at e2
   | succ i=>
    obtain ⟨j,j1,j2,j3⟩:=hcap.get (σ:=σ) (i:=i) (x:=y) (v:=v) (by have e1':(x :: cns)[i + 1]? =some y:=e1;simpa using e1') (by simpa using e2);obtain ⟨m,hn,hl⟩:=I2.loc;obtain ⟨u,r,l⟩:=hl j y v j1 j3 (.inr (.inl j2));rcases l with ⟨l,_⟩ | ⟨_,c,l1,l2⟩
    ·rw [j2] at l;cases l
    ·refine ⟨u,r,.inr ?_⟩;rcases e3 with e3 | e3 | e3
     ·exfalso
      have hm:y∈cns:=List.mem_of_getElem? (show cns[i]? =some y by have e1':(x :: cns)[i + 1]? =some y:=e1;simpa using e1');have hl:scope.names.lookup y=some .free:=beq_iff_eq.mp (List.all_eq_true.mp hcf y hm);have e0:(scope.names.lookup y).map (za X.env y)=some .local:=mj.symm.trans e3;rw [hl] at e0;have e5:za X.env y .free=.local:=Option.some.inj e0;unfold za at e5;split at e5<;>cases e5
     ·obtain ⟨c',hc'⟩:=Em y _ e3 (.inl rfl);have:=cellsOf _ _ hc';rw [l1] at this;cases this;exact ⟨.inl e3,c,hc',l2.keeps fun b o e=>O9 _ _ (Bb _ _ e)⟩
     ·obtain ⟨c',hc'⟩:=Em y _ e3 (.inr rfl);have:=cellsOf _ _ hc';rw [l1] at this;cases this;exact ⟨.inr e3,c,hc',l2.keeps fun b o e=>O9 _ _ (Bb _ _ e)⟩
  cell:=fun y c e=>by
   obtain ⟨v,z⟩:=I2.cell y c (cellsOf _ _ e);exact ⟨v,z.keeps fun b o e=>O9 _ _ (Bb _ _ e)⟩
  free:=I2.hok.fresh (by rw [hacc];show acc≤h3.objs.size;rw [hC];exact Nat.le_succ _)
  qH:=fun y c e=>I2.qH y c (cellsOf _ _ e)
  pin:=fun p hp=>by
   have hp2:p∈(X.pn ++ pins) ++ []:=hp;have hp':p∈X.pn ++ pins:=by rw [List.append_nil] at hp2;exact hp2
   obtain ⟨p1,p2,p3,p4,p5⟩:=I2.pin p hp';refine ⟨O9 _ _ (Bb _ _ p1),p2,?_,fun hm=>(List.mem_cons.mp (I2.yG _ hm)).elim p3 p4,p5⟩;exact Nat.ne_of_lt (by show p.1 < h3.objs.size;exact Heap.lt_size (Bb _ _ p1))
  hok:=I2.hok.kept fun b u e=>O9 _ _ (Bb _ _ e)
  len:=Znh }
 have fpY:∀ {H':Hp}{pl:List (Addr×Obj)}{b:Addr},b∈acc :: fp→H' b=none→(∀ p∈pl,p.1≠b)→pF Y pl H' b:=fun {H' pl b} hb hn hp=>
  ⟨hn,exC b hb,Bx b hb,.inl hb,fun y c e=>(HQ b hb).2.2.2.2.1 y c (cellsOf _ _ e),fun p hm=>(List.mem_append.mp hm).elim (fun z=>(HQ b hb).2.2.2.2.2 p z) (hp p)⟩
 have fin:∀ {σ':L2.St}{H':Hp}{s':Shared}{ys:List V}{its:List Value}{kk:Nat}{pl:List (Addr×Obj)},Inv Y pl σ' H' s'→H' acc=none→Vals ys its→ys.length≤sizeLine→
   s'.heap.get? acc=some { cls:=.type "list",data:=.seq its.toArray kk }→(∀ p,H' p=none→Q (.ref p) (upd H' p (.lst ys)))→
   ∀ h',Heap.SameBut h3.objs.size s'.heap h'→EP X pins σ (fun v Hf=>Q v Hf∧Hf h3.objs.size=none) (.ref acc) { s' with heap:=h' }:=fun {σ' H' s' ys its kk pl} J ha hv hz ho hq h' hs'=>by
  have Zky:acc≠h3.objs.size:=exC acc (List.mem_cons_self);have zW:∀ b o,b≠h3.objs.size→s'.heap.get? b=some o→h'.get? b=some o:=fun b o hb e=>hs'.extBut b o hb e;have ltC:∀ b o,s2.heap.get? b=some o→b≠h3.objs.size:=fun b o e=>Nat.ne_of_lt (Heap.lt_size (Bb b o e));have HD:H' h3.objs.size=none:=J.free;have un:Un (frs X.stack) (acc :: fp) H2 H' s2.heap h':={
   keep:=fun b o e n hb hx=>zW b o (ltC b o e) (J.base.keep b o (Bb b o e) n hb hx)
   slot:=fun b o e n hb hx=>by
    obtain ⟨sl,q⟩:=J.base.slot b o (Bb b o e) n hb hx;exact ⟨sl,zW b _ (ltC b o e) q⟩
   free:=fun b o e n hx=>J.base.free b o (Bb b o e) n hx
   there:=fun b o e hx=>by
    obtain ⟨o',q⟩:=J.base.there b o (Bb b o e) hx;exact ⟨o',zW b o' (ltC b o e) q⟩
   tups:=J.base.tups
   Cy:=J.base.Cy
   Dd:=J.base.Dd }
  have hok:yx X.prog X.w H' h':=fun b u e=>by
   refine (J.hok b u e).stay (fun c v hc q=>zW c v ?_ q) (fun _ q=>q) fun _ _ q=>q;rintro rfl;rcases hc with rfl | hc
   ·rw [HD] at e;cases e
   ·rw [HD] at hc;cases hc
  have I5:Inv X pins σ H' { s' with heap:=h' }:=I2.call' (ch:=acc :: fp) J.os un hok J.bare fun b hb=>by
   obtain ⟨g0,g1,g2,g3,g4,g5⟩:=HQ b hb;exact ⟨g3,g1,g4,g5⟩
  refine ⟨.ref acc,_,adopt (acc:=acc) I5 ?_ (zW _ _ Zky ho) hv hz,rfl,hq acc ha,by rw [aB Zky.symm];exact HD⟩;obtain ⟨g0,g1,g2,g3,g4,g5⟩:=Zac;exact ⟨ha,g1,g2,g3,g4,g5⟩
 have loop:codeAny (model X.prog X.w) X.A (.compLoop (.ListComp elt [⟨.Name x px,iter,ifs,0⟩] scope pos) 0 (.ref it) (.ref acc) Y.env) (compPost (model X.prog X.w) X.A X.xe (some fun v=>assignAll v ((assignEach [.Name z pz] X.env).map (·.2))) (fun _ s'=>SP X pins D .next s') (.ref acc) h3.objs.size)
   { s2 with heap:=h₁,toks:=s2.toks + ([]:List (Str×Value)).length }:=by
  refine Jo (fun n s'=>∃ (i:Nat) (v:Option V) (ys:List V) (its:List Value) (kk:Nat) (H':Hp),Inv Y [] (v :: caps.map (pick σ)) H' s'∧tn i s'.heap∧(∀ b∈fp,H' b=none)∧H' acc=none∧Vals ys its∧ys.length≤sizeLine∧
   s'.heap.get? acc=some { cls:=.type "list",data:=.seq its.toArray kk }∧W i n ys H') ?_ m0 ⟨0,none,[],[],0,H2,I4,T.keep _ _ _ st2 (fun b _ o e=>O9 _ _ (Bb _ _ e)),fun b hb=>(f2 b hb).1,Zac.1,.nil,Nat.zero_le _,O9 _ _ Zn5,w0⟩
  rintro n s5 ⟨i,v,ys,its,kk,H5,I5,st5,fr5,ha5,hv5,hz5,ho5,w5⟩;have Zff:Inv Y [(acc,{ cls:=.type "list",data:=.seq its.toArray kk })] (v :: caps.map (pick σ)) H5 s5:=I5.rC fun p hp=>by
   have e:p=(acc,{ cls:=.type "list",data:=.seq its.toArray kk }):=by simpa using hp
   subst e;exact ⟨ho5,ha5,exC acc List.mem_cons_self,Bx acc List.mem_cons_self,fun v=>by intro z;cases z⟩
  have fpA:∀ {H':Hp},(∀ b∈fp,H' b=none)→∀ b∈fp,pF Y [(acc,{ cls:=.type "list",data:=.seq its.toArray kk })] H' b:=fun hn b hb=>fpY (List.mem_cons_of_mem _ hb) (hn b hb) fun p hp=>by
   have e:p=(acc,{ cls:=.type "list",data:=.seq its.toArray kk }):=by simpa using hp
   subst e;exact (Nat.ne_of_lt (fpl b hb)).symm
  rcases turn i n ys H5 w5 with ⟨stop,qn⟩ | ⟨go,hlt,step⟩
  ·refine iy (T.done Y rfl rfl rfl hc i _ s5 _ H5 (fun _ _=>False) Zff (fpA fr5) st5 stop) fun r s6 ⟨hr,I6⟩=>?_;subst hr;obtain ⟨m,hm,_⟩:=I6.loc;have ho6:=(I6.pin (acc,{ cls:=.type "list",data:=.seq its.toArray kk }) (List.mem_append_right _ List.mem_cons_self)).1;obtain ⟨v,Hf,If,rf,qf,hfC⟩:=fin I6 ha5 hv5 hz5 ho6 qn s6.heap (Heap.SameBut.refl _ _);have fC:pF X pins Hf h3.objs.size:=I2.Xl (by rw [hC,hacc];exact Nat.le_succ _) hfC;obtain ⟨oC,esC,epC,gC,dC,kC,nC⟩:=hm;have Ip:Inv X (pins ++ [(h3.objs.size,oC)]) σ Hf s6:=Inv.rC If fun p hp=>by
    rcases List.mem_append.mp hp with hp | hp
    ·exact If.pin p (List.mem_append_right _ hp)
    ·rw [List.mem_singleton.mp hp];exact ⟨gC,fC.1,fC.2.1,fC.2.2.1,fun v z=>by rw [dC] at z;cases z⟩
   show wpAny _ _ (assign (.Name z pz) X.env (.ref acc)) _ _ _;refine wpAny_assign_Name (Dh Ip hN hiz hz rf (fun s7 I7=>?_) hfz);have g7:=(I7.pin (h3.objs.size,oC) (List.mem_append_right _ (List.mem_append_right _ List.mem_cons_self))).1;refine ⟨m,⟨oC,esC,epC,g7,dC,kC,nC⟩,fun h' hs'=>?_⟩;have I8:=I7.Dc;have qf:D.nx (σ.set iz (some v)) Hf:=by rw [← hQ] at qf;exact qf
   have kb:∀ b o,b≠h3.objs.size→s7.heap.get? b=some o→h'.get? b=some o:=fun b o hb e=>hs'.extBut b o hb e;refine ⟨_,Hf,I8.step (ch:=[h3.objs.size]) (fun b hb=>?_) (fun b o _ _ hb e _=>kb b o (fun z=>hb (by rw [z];exact List.mem_cons_self)) e) (fun b o _ _ hb e _=>⟨o.slots,kb b o (fun z=>hb (by rw [z];exact List.mem_cons_self)) e⟩) (fun _ _ _ _ h=>h) (fun b o hb e=>⟨o,kb b o (fun z=>hb (by rw [z];exact List.mem_cons_self)) e⟩) (fun _ _ h=>h) (fun _ _ _ h=>h) (fun _ ps h=>⟨#[],by simpa using h⟩) (fun m' hm'=>?_) (fun b u e=>?_) I8.bare,qf⟩
   ·rw [List.mem_singleton.mp hb];exact ⟨fC.2.2.2.1,fC.2.1,fC.2.2.2.2.1,fC.2.2.2.2.2⟩
   ·obtain ⟨o',e1,e2,e3,e4,e5⟩:=hm';exact ⟨o',e1,e2,kb _ _ fC.2.1.symm e3,e4,e5⟩
   ·refine (I8.hok b u e).stay (fun c w' hc q=>kb c w' ?_ q) (fun _ q=>q) fun _ _ q=>q;rintro rfl;rcases hc with rfl | hc
    ·rw [hfC] at e;cases e
    ·rw [hfC] at hc;cases hc
  ·refine iy (T.item Y rfl rfl rfl hc i _ s5 _ H5 (fun _ _=>False) Zff (fpA fr5) st5 go) fun r s6 ⟨u,hr,h6⟩=>?_;subst hr;refine iy h6 fun _ s7 ⟨z,H7,I7,r7,y7,st7,fr7⟩=>?_;have I7':=I7.pinned (fpA fr7) (T.obj _ _ st7);have pg:PG Y (.Name x px) (aL 0):=iD hnd rfl (.inl (lookup_relabel_local hx)) (.inr (lookup_relabel_local hx));refine iy (pg _ s7 _ H7 z u (fun σ2 H2'=>σ2=some z :: caps.map (pick σ)∧H2'=H7) I7' r7 ⟨rfl,rfl⟩) fun _ s8 ⟨σ8,H8,I8,e8,e8'⟩=>?_;subst e8 e8';refine iy (hf _ _ _ _ _ _ s8 _ H8 _ I8 (step z H8 y7)) fun ok s9 ⟨H9,I9,q9⟩=>?_;have stat:∀ {H':Hp}{s':Shared}{σ':L2.St},Inv Y ([(acc,{ cls:=.type "list",data:=.seq its.toArray kk })] ++ uT fp s7.heap) σ' H' s'→tn (i + 1) s'.heap∧(∀ b∈fp,H' b=none)∧H' acc=none∧s'.heap.get? acc=some { cls:=.type "list",data:=.seq its.toArray kk }:=fun {H' s' σ'} J=>by
    have pa:=J.pin (acc,{ cls:=.type "list",data:=.seq its.toArray kk }) (List.mem_append_right _ (List.mem_append_left _ List.mem_cons_self));refine ⟨T.keep _ _ _ st7 fun b hb o e=>(J.pin (b,o) (List.mem_append_right _ (List.mem_append_right _ (lZ hb e)))).1,fun b hb=>?_,pa.2.1,pa.1⟩;obtain ⟨o,e,d⟩:=T.obj _ _ st7 b hb;exact (J.pin (b,o) (List.mem_append_right _ (List.mem_append_right _ (lZ hb e)))).2.1
   have WX:∀ {H':Hp}{s':Shared}{σ':L2.St}{pl:List (Addr×Obj)},Inv Y pl σ' H' s'→Inv Y [] σ' H' s':=fun J=>J.rC fun p hp=>nomatch hp;cases ok with
   | false=>
    obtain ⟨m',hm,w9⟩:=q9;obtain ⟨t1,t2,t3,t4⟩:=stat I9;exact ⟨m',hm,i + 1,some z,ys,its,kk,H9,WX I9,t1,t2,t3,hv5,hz5,t4,w9⟩
   | true=>
    show wpAny _ _ (eval elt Y.env) _ _ s9;refine iy (he _ _ _ _ _ _ s9 _ H9 _ I9 q9) fun y s10 ⟨yv,H10,I10,r10,m',hm,w10⟩=>?_;obtain ⟨t1,t2,t3,t4⟩:=stat I10;have Zp2:Inv Y (uT fp s7.heap) (some z :: caps.map (pick σ)) H10 s10:=I10.rC fun p hp=>I10.pin p (List.mem_append_right _ (List.mem_append_right _ hp));have fA:pF Y (uT fp s7.heap) H10 acc:=fpY List.mem_cons_self t3 fun p hp=>Nat.ne_of_lt (fpl _ (GP hp).1);have Ja:=adopt Zp2 fA t4 hv5 hz5;refine iy (rT (X:=Y) _ s10 _ _ (.ref acc) [yv] (.ref acc) [y] (fun _ H'=>H'=upd (upd H10 acc (.lst ys)) acc (.lst (ys ++ [yv]))) Ja rfl (.cons r10 .nil) ⟨acc,ys,yv,rfl,rfl,aq,hlt,rfl⟩) fun _ s11 ⟨_,H11,I11,_,e11⟩=>?_;rw [dY] at e11;subst e11;obtain ⟨Zod,its',kk',Zoe,Zof⟩:=I11.hok acc _ aq;have Jd:=disown I11 fA;have Zme:tn (i + 1) s11.heap:=T.keep _ _ _ st7 fun b hb o e=>(Jd.pin (b,o) (List.mem_append_right _ (lZ hb e))).1;exact ⟨m',hm,i + 1,some z,ys ++ [yv],its',kk',H10,WX Jd,Zme,t2,t3,Zoe,Zod,Zof,w10⟩
 exact codeAny_compStart_list loop (T.self X.A 0 _ _ _ (T.keep _ _ _ st2 (fun b _ o e=>O9 _ _ (Bb _ _ e))) loop)
end G
namespace G
open PySem L2 PySem.Spec PyProof.Rows
end G
namespace G
open PySem L2
def Ite (K:aC) (a:Addr):It:=
 ⟨fun i H=>∃ xs x,dz K H a xs∧xs[i]? =some x,fun i H x H'=>∃ t v,x=.ref t∧H t=none∧H'=upd H t (.tup [.int i,v])∧∀ xs,dz K H a xs→xs[i]? =some v,fun i H=>∃ xs,dz K H a xs∧xs.length≤i⟩
def Xh (K:aC) (ta:TA):TI:=fun σ H R=>ta σ H fun vs H1=>∃ a,vs=[.ref a]∧(∃ xs,dz K H1 a xs)∧R (Ite K a) H1
theorem Zry {K:aC}{ta:TA}{σ:L2.St}{H:Hp}{R:It→Hp→Prop} (h:ta σ H fun vs H1=>∃ a,vs=[.ref a]∧(∃ xs,dz K H1 a xs)∧R (Ite K a) H1):Xh K ta σ H R:=h
def Hq (v d:Addr):HO:=.ext fun h=>h.IsItemsView v d
def Yr (td:TE):TE:=fun σ H Q=>td σ H fun x H1=>∃ a kvs,x=.ref a∧Rd H1 a (.dK kvs)∧∀ v,H1 v=none→Q (.ref v) (upd H1 v (Hq v a))
theorem Zkl {td:TE}{σ:L2.St}{H:Hp}{Q:VK} (h:td σ H fun x H1=>∃ a kvs,x=.ref a∧Rd H1 a (.dK kvs)∧∀ v,H1 v=none→Q (.ref v) (upd H1 v (Hq v a))):Yr td σ H Q:=h
def XS (H:Hp):List Addr→List (Key×V)→Prop
 | [],[]=>True
 | t :: ts,kv :: kvs=>H t=some (.tup [kV kv.1,kv.2])∧XS H ts kvs
 | _,_=>False
def Zas:List V→Hp→VK→Prop:=fun xs H Q=>∃ v a kvs,xs=[.ref v]∧H v=some (Hq v a)∧Rd H a (.dK kvs)∧∀ l ts H',H l=none→aX H H'→H' l=some (.lst (ts.map V.ref))→XS H' ts kvs→Q (.ref l) H'
theorem Zkk {H:Hp}{Q:VK}{v a:Addr}{kvs:List (Key×V)} (h1:H v=some (Hq v a)) (h2:Rd H a (.dK kvs)) (h:∀ l ts H',H l=none→aX H H'→H' l=some (.lst (ts.map V.ref))→XS H' ts kvs→Q (.ref l) H'):Zas [.ref v] H Q:=⟨v,a,kvs,rfl,h1,h2,h⟩
def Zkx (kvs:List (Key×V)):V→Option Bool
 | .int i=>some (lX kvs (.inl i)).isSome
 | .str x=>some (lX kvs (.inr x)).isSome
 | .non=>some false
 | _=>none
def Zer (neg:Bool) (ty td:TE):TE:=fun σ H Q=>ty σ H fun y H1=>td σ H1 fun x H2=>∃ a kvs b,x=.ref a∧Rd H2 a (.dK kvs)∧Zkx kvs y=some b∧Q (.bl (if neg then !b else b)) H2
theorem Zo8 {neg:Bool}{ty td:TE}{σ:L2.St}{H:Hp}{Q:VK} (h:ty σ H fun y H1=>td σ H1 fun x H2=>∃ a kvs b,x=.ref a∧Rd H2 a (.dK kvs)∧Zkx kvs y=some b∧Q (.bl (if neg then !b else b)) H2):Zer neg ty td σ H Q:=h
section
variable {K:aC}{a:Addr}{g:TG}{tb:TS}{σ:L2.St}{H:Hp}{n:L2.St→Hp→Prop}{r:VK}
theorem Zqo (xs:List V) (Pv:Nat→L2.St→Hp→Prop) (h0:Pv 0 σ H) (hl:∀ i σ H,i≤xs.length→Pv i σ H→dz K H a xs)
  (hs:∀ i x t σ H,xs[i]? =some x→Pv i σ H→H t=none→g (.ref t) σ (upd H t (.tup [.int i,x])) fun σ2 H2=>tb ⟨Pv (i + 1),r,n,Pv (i + 1)⟩ σ2 H2) (hd:∀ σ H,Pv xs.length σ H→n σ H):
  ∃ W:Nat→Nat→L2.St→Hp→Prop,(∃ m,W 0 m σ H)∧∀ i m σ H,W i m σ H→
   ((Ite K a).stop i H∧n σ H)∨((Ite K a).go i H∧∃ N:L2.St→Hp→Prop,(∀ σ' H',N σ' H'→∃ m',m' < m∧W (i + 1) m' σ' H')∧∀ x H',(Ite K a).Yj i H x H'→g x σ H' fun σ2 H2=>tb ⟨N,r,n,N⟩ σ2 H2):=by
 refine ⟨fun i m σ H=>i≤xs.length∧m=xs.length - i∧Pv i σ H,⟨xs.length,Nat.zero_le _,rfl,h0⟩,?_⟩;rintro i m σ H ⟨hi,rfl,p⟩;have hq:=hl i σ H hi p
 by_cases hk:i=xs.length
 ·subst hk;exact .inl ⟨⟨xs,hq,Nat.le_refl _⟩,hd σ H p⟩
 ·have hlt:i < xs.length:=by omega
  have hx:xs[i]? =some xs[i]:=bW hlt;refine .inr ⟨⟨xs,_,hq,hx⟩,Pv (i + 1),fun σ' H' p'=>⟨xs.length - (i + 1),by omega,by omega,rfl,p'⟩,?_⟩;rintro x H' ⟨t,v,rfl,ht,rfl,hv⟩;exact hs i v t σ H (hv xs hq) p ht
theorem Zk7 {caps:List Nat}{tc:TT}{te:TE}{Q:VK}{xs:List V} (hs:dz K H a xs) (hz:xs.length≤1000000) (W:Nat→List V→Hp→Prop) (h0:W 0 [] H) (hst:∀ i ys H1,W i ys H1→aX H H1∧ys.length≤i)
  (step:∀ i x ys H1 t (C:List V→Hp→Prop),(∀ zs H3,W (i + 1) zs H3→C zs H3)→xs[i]? =some x→W i ys H1→H1 t=none→tc (some (.int i) :: some x :: caps.map (pick σ)) (upd H1 t (.tup [.int i,x])) fun k H2=>if k=true then te (some (.int i) :: some x :: caps.map (pick σ)) H2 (fun y H3=>C (ys ++ [y]) H3) else C ys H2)
  (q:∀ ys H1,W xs.length ys H1→∀ p,H1 p=none→Q (.ref p) (upd H1 p (.lst ys))):Zlk K (Ite K a) caps tc te σ H Q:=by
 refine ⟨fun i m ys H1=>i≤xs.length∧m=xs.length - i∧W i ys H1,⟨xs.length,Nat.zero_le _,rfl,h0⟩,?_⟩;rintro i m ys H1 ⟨hi,rfl,w⟩;obtain ⟨sm,hl⟩:=hst i ys H1 w;have hq:dz K H1 a xs:=sm.seq hs
 by_cases hk:i=xs.length
 ·subst hk;exact .inl ⟨⟨xs,hq,Nat.le_refl _⟩,q ys H1 w⟩
 ·have hlt:i < xs.length:=by omega
  refine .inr ⟨⟨xs,_,hq,bW hlt⟩,Nat.lt_of_le_of_lt (show ys.length≤1000000 by omega) (show 1000000 < sizeLine by decide),?_⟩;rintro x H' ⟨t,v,rfl,ht,rfl,hv⟩;exact ⟨t,_,_,rfl,iQ.of aq,step i v ys H1 t (fun zs H3=>∃ m',m' < xs.length - i∧i + 1≤xs.length∧m'=xs.length - (i + 1)∧W (i + 1) zs H3) (fun zs H3 w'=>⟨xs.length - (i + 1),by omega,by omega,rfl,w'⟩) (hv xs hq) w ht⟩
end
end G
namespace G
open PySem L2 PySem.Spec PyProof.Rows
theorem Zd9 {X:Cx}{pins:List (Addr×Obj)}{σ:L2.St}{H:Hp}{s:Shared}{h':Heap}{t':Nat}{e it:Addr} (I:Inv X pins σ H s) (k:∀ b u,b≠e→b≠it→s.heap.get? b=some u→h'.get? b=some u) (fe:pF X pins H e) (fi:pF X pins H it):
  Inv X pins σ H { s with heap:=h',toks:=t' }:=by
 have ne:∀ b u,H b=some u→b≠e:=fun b u q z=>by rw [z,fe.1] at q;cases q
 have ni:∀ b u,H b=some u→b≠it:=fun b u q z=>by rw [z,fi.1] at q;cases q
 have nm:∀ b,b∉[e,it]→b≠e∧b≠it:=fun b hb=>⟨fun z=>hb (by simp [z]),fun z=>hb (by simp [z])⟩;refine I.step (g':=s.gens) (d':=s.drawn) (ch:=[e,it]) (fun b hb=>?_) (fun b o _ _ hc q _=>k b o (nm b hc).1 (nm b hc).2 q) (fun b o _ _ hc q _=>⟨o.slots,k b o (nm b hc).1 (nm b hc).2 q⟩) (fun _ _ _ _ n=>n)
  (fun b o hc q=>⟨o,k b o (nm b hc).1 (nm b hc).2 q⟩) (fun _ _ q=>q) (fun _ _ _ q=>q) (fun b ps q=>⟨#[],by rw [q];simp⟩) (fun m hm=>?_) (fun b u q=>?_) I.bare
 ·rcases List.mem_cons.mp hb with z | z
  ·rw [z];exact ⟨fe.2.2.2.1,fe.2.1,fe.2.2.2.2.1,fe.2.2.2.2.2⟩
  ·have z':b=it:=by simpa using z
   rw [z'];exact ⟨fi.2.2.2.1,fi.2.1,fi.2.2.2.2.1,fi.2.2.2.2.2⟩
 ·obtain ⟨o,es,ep,ho,r⟩:=hm;exact ⟨o,es,ep,k _ o (Ne.symm fe.2.1) (Ne.symm fi.2.1) ho,r⟩
 ·refine (I.hok b u q).stay (fun c v hc z=>?_) (fun _ z=>z) fun _ _ z=>z;rcases hc with y | y
  ·rw [y] at z ⊢;exact k b v (ne b u q) (ni b u q) z
  ·exact k c v (ne c _ y) (ni c _ y) z
theorem Mu {X:Cx}{pins:List (Addr×Obj)}{σ:L2.St}{H:Hp}{s:Shared}{h':Heap}{t':Nat}{e it a:Addr}{o:HO} (I:Inv X pins σ H s) (k:∀ b u,b≠e→b≠it→s.heap.get? b=some u→h'.get? b=some u) (fe:pF X pins H e) (fi:pF X pins H it)
  (ha:s.heap.objs.size≤a) (new:kZ X.prog X.w (upd H a o) h' a o):Inv X pins σ (upd H a o) { s with heap:=h',toks:=t' }:=by
 have hn:=I.hok.fresh ha;have ne:∀ b u,H b=some u→b≠e:=fun b u q z=>by rw [z,fe.1] at q;cases q
 have ni:∀ b u,H b=some u→b≠it:=fun b u q z=>by rw [z,fi.1] at q;cases q
 have nm:∀ b,b∉[e,it]→b≠e∧b≠it:=fun b hb=>⟨fun z=>hb (by simp [z]),fun z=>hb (by simp [z])⟩;have na:∀ b u,s.heap.get? b=some u→b≠a:=fun b u q=>Nat.ne_of_lt (Nat.lt_of_lt_of_le (Heap.lt_size q) ha);refine I.step (g':=s.gens) (d':=s.drawn) (ch:=[e,it]) (fun b hb=>?_) (fun b o _ _ hc q _=>k b o (nm b hc).1 (nm b hc).2 q) (fun b o _ _ hc q _=>⟨o.slots,k b o (nm b hc).1 (nm b hc).2 q⟩) (fun b u _ q n=>(aB (na b u q)).trans n)
  (fun b o hc q=>⟨o,k b o (nm b hc).1 (nm b hc).2 q⟩) (fun b xs q=>(aB (aD q hn)).trans q) (fun b o xs q=>(aB (aD q hn)).trans q) (fun b ps q=>⟨#[],by rw [aB (aD q hn),q];simp⟩) (fun m hm=>?_) (fun b u q=>?_) I.bare
 ·rcases List.mem_cons.mp hb with z | z
  ·rw [z];exact ⟨fe.2.2.2.1,fe.2.1,fe.2.2.2.2.1,fe.2.2.2.2.2⟩
  ·have z':b=it:=by simpa using z
   rw [z'];exact ⟨fi.2.2.2.1,fi.2.1,fi.2.2.2.2.1,fi.2.2.2.2.2⟩
 ·obtain ⟨o,es,ep,ho,r⟩:=hm;exact ⟨o,es,ep,k _ o (Ne.symm fe.2.1) (Ne.symm fi.2.1) ho,r⟩
 ·by_cases hb:b=a
  ·subst hb;rw [aq] at q;cases q;exact new
  ·rw [aB hb] at q;refine (I.hok b u q).stay (fun c v hc z=>?_) (fun c z=>by rw [aB (aD z hn)];exact z) fun c xs z=>by rw [aB (aD z hn)];exact z
   rcases hc with y | y
   ·rw [y] at z ⊢;exact k b v (ne b u q) (ni b u q) z
   ·exact k c v (ne c _ y) (ni c _ y) z
theorem Zby {P:Program}{w:World}{K:aC}{elts:List Expr}{x1:Nat}{pt:Pos} (a e it:Addr) (hne:e≠it):
    Turn P w K (.Tuple elts x1 pt) (Ite K a) [e,it] e (fun i h=>(∃ old,IsEnum h e it ((i:Nat):Int) old)∧h.IsListIter it a i) where
  mem:=by simp
  obj:=fun i h st b hb=>by
    obtain ⟨⟨old,he⟩,o,ho,c,d⟩:=st;rcases List.mem_cons.mp hb with z | z
    · rw [z];exact ⟨_,he,fun v z=>by cases z⟩
    · have z':b=it:=by simpa using z
      rw [z'];exact ⟨o,ho,fun v z=>by rw [d] at z;cases z⟩
  keep:=fun i h h' st k=>⟨let ⟨old,he⟩:=st.1;⟨old,k e (by simp) _ he⟩,st.2.at fun o q=>k it (by simp) o q⟩
  item:=by
    intro X hP hw hK hc i pins s σ H E I hf st hg;subst hP hw hK;obtain ⟨xs,x,hq,hx⟩:=hg;obtain ⟨its,rv,p,hz⟩:=I.list hq;obtain ⟨u,hu,ru⟩:=rv.get hx;obtain ⟨⟨old,he⟩,hit⟩:=st;have fe:=hf e (by simp);have fi:=hf it (by simp);have hes:e < s.heap.objs.size:=Heap.lt_size he;have his:it < s.heap.objs.size:=by obtain ⟨o,q,_⟩:=hit;exact Heap.lt_size q
    refine wpAny_pyNext_enum_item he hit p.isList (x:=u) (by simpa using hu) hne fun h1 ho1 hit1 ht1 hz1 hk1=>?_;refine ⟨_,rfl,wpAny_letOwnedTupleGo_enum (s:={ s with heap:=h1,toks:=s.toks + 1 }) ho1 fun h2 he2 hs2=>?_⟩
    replace hs2:Heap.SameBut e h1 h2:=hs2
    have hn:H s.heap.objs.size=none:=I.hok.fresh (Nat.le_refl _);have I2:Inv X pins σ (upd H s.heap.objs.size (.tup [.int ((i:Nat):Int),x])) { s with heap:=h2,toks:=s.toks + 1 }:=by
      refine Mu I (fun b v hb hb' q=>hs2.extBut b v hb (hk1 b v hb hb' q)) fe fi (Nat.le_refl _) ?_;refine ⟨by show 2≤sizeLine;decide,[.int ((i:Nat):Int) s.toks,u],.cons ⟨_,rfl⟩ (.cons ru .nil),⟨_,hs2.extBut _ _ (Nat.ne_of_gt hes) ht1,rfl,_,rfl⟩⟩
    refine ⟨.ref s.heap.objs.size,_,I2,rfl,⟨_,x,rfl,hn,rfl,fun ys hy=>by rw [I.Xd hy hq];exact hx⟩,⟨⟨u,?_⟩,hit1.extBut hs2.extBut (Ne.symm hne)⟩,fun b hb=>?_⟩
    · have e1:(((i + 1:Nat)):Int)=(i:Int) + 1:=by omega
      show IsEnum h2 e it (((i + 1:Nat)):Int) u;rw [e1];exact he2
    · rcases List.mem_cons.mp hb with z | z
      · rw [z,aB (Nat.ne_of_lt hes)];exact fe.1
      · have z':b=it:=by simpa using z
        rw [z',aB (Nat.ne_of_lt his)];exact fi.1
  done:=by
    intro X hP hw hK hc i pins s σ H E I hf st hg;subst hP hw hK;obtain ⟨xs,hq,hx⟩:=hg;obtain ⟨its,rv,p,hz⟩:=I.list hq;obtain ⟨⟨old,he⟩,hit⟩:=st;have hl:=rv.length;exact wpAny_pyNext_enum_end (I.ok.hd hc) he hit p.isList (by simp;omega) fun h' hx'=>⟨rfl,Zd9 (t':=s.toks) I (fun b o _ hb' q=>hx' b o hb' q) (hf e (by simp)) (hf it (by simp))⟩
  self:=fun A i s Q E st h=>let ⟨_,he⟩:=st.1;wpAny_pyIter_enum he h
theorem Tp {X:Cx}{elts:List Expr}{x1:Nat}{pt:Pos}{l:Expr}{ta:TA}{p pos:Pos} (hg:Gl X "enumerate") (hm:X.mg "enumerate"=none) (ha:PA X [l] ta) (hs:starEach [l] X.env=[(false,eval l X.env)]:=by rfl):
  PI X (.Tuple elts x1 pt) (.Call (.Name "enumerate" p) [l] [] pos) (Xh X.K ta):=by
 intro pins s σ H R I h;refine Call_ (Ur I hg hm boot_enumerate (PyProof.Rows.callWith_type1 (iy (ha pos pins s σ H _ I h) fun us s1 ⟨vs,H1,I1,r1,q1⟩=>?_) hs rfl));obtain ⟨a,e,⟨xs,hq⟩,q⟩:=q1;subst e;cases r1 with
 | cons r rr=>
  cases rr;obtain rfl:_=Value.ref a:=r;obtain ⟨its,rv,pl,hz⟩:=I1.list hq;refine call_enumerate_list pl.isList fun h' he hit hsz hk=>?_;have I2:Inv X pins σ H1 { s1 with heap:=h' }:=I1.kept (t':=s1.toks) hk
  refine wpAny_pyIter_enum (s:={ s1 with heap:=h' }) he ?_;have hf:∀ b,s1.heap.objs.size≤b→pF X pins H1 b:=fun b hb=>I1.Xl hb (I1.hok.fresh hb);refine ⟨_,[s1.heap.objs.size + 1,s1.heap.objs.size],_,_,H1,rfl,I2,Zby a _ _ (Nat.succ_ne_self _),⟨⟨_,he⟩,hit⟩,fun b hb=>?_,q⟩;rcases List.mem_cons.mp hb with z | z
  ·rw [z];exact hf _ (Nat.le_succ _)
  ·have z':b=s1.heap.objs.size:=by simpa using z
   rw [z'];exact hf _ (Nat.le_refl _)
end G
namespace G
open PySem L2 PySem.Spec PyProof.Rows
theorem Zda {X:Cx}{pins:List (Addr×Obj)}{σ:L2.St}{H:Hp}{s:Shared}{a:Addr}{o:HO} (I:Inv X pins σ H s) (f:pF X pins H a) (new:kZ X.prog X.w (upd H a o) s.heap a o):Inv X pins σ (upd H a o) s:=by
 have hn:=f.1;have r:Inv X pins σ (upd H a o) { s with heap:=s.heap,gens:=s.gens,drawn:=s.drawn,toks:=s.toks }:=by
  refine I.step (g':=s.gens) (t':=s.toks) (d':=s.drawn) (ch:=[a]) (fun b hb=>?_) (fun b u _ _ _ q _=>q) (fun b u _ _ _ q _=>⟨u.slots,q⟩) (fun b u hc q n=>(aB (fun z=>hc (by simp [z]))).trans n) (fun b u _ q=>⟨u,q⟩)
   (fun b xs q=>(aB (aD q hn)).trans q) (fun b u xs q=>(aB (aD q hn)).trans q) (fun b ps q=>⟨#[],by rw [aB (aD q hn),q];simp⟩) (fun m hm=>hm) (fun b u q=>?_) I.bare
  ·have z:b=a:=by simpa using hb
   rw [z];exact ⟨f.2.2.2.1,f.2.1,f.2.2.2.2.1,f.2.2.2.2.2⟩
  ·by_cases hb:b=a
   ·subst hb;rw [aq] at q;cases q;exact new
   ·rw [aB hb] at q;exact (I.hok b u q).stay (fun c v _ z=>z) (fun c z=>by rw [aB (aD z hn)];exact z) fun c xs z=>by rw [aB (aD z hn)];exact z
 exact r
theorem Za0 {X:Cx}{pins:List (Addr×Obj)}{H:Hp}{a b:Addr}{o:HO} (f:pF X pins H b) (h:b≠a):pF X pins (upd H a o) b:=⟨(aB h).trans f.1,f.2⟩
theorem Zpx {P:Program}{w:World}{k:Key}{u:Value} (h:(eO P w).is k u=true):RelV (kV k) u:=by
 rcases eU h with ⟨i,t,rfl,rfl⟩ | ⟨x,t,rfl,rfl⟩
 ·exact ⟨t,rfl⟩
 ·exact ⟨t,rfl⟩
theorem Zfm {X:Cx}{o:Expr}{td:TE}{apos cpos:Pos} (ho:PE X o td) (hbase:attributeBase o "items" X.env (eval o X.env)=eval o X.env:=by rfl) (hline:(apos.endLine == cpos.line)=true:=by rfl):
  PE X (.Call (.Attribute o "items" apos) [] [] cpos) (Yr td):=by
 intro pins s σ H Q I h;refine wpAny_Call_method0_late hbase hline (iy (ho pins s σ H _ I h) fun u s1 ⟨x,H1,I1,rx,a,kvs,ex,rd,q⟩=>?_);subst ex;obtain rfl:u=Value.ref a:=rx;obtain ⟨t1,t2,hd⟩:=Zgy I1 (.inl ⟨kvs,rd⟩);obtain ⟨z,_,vs,rel,dd⟩:=Eu I1.hok rd;refine ⟨"dict","dict.items",PySem.F.plainAttrs_dict,PySem.F.slot_dict_items,PySem.F.type_dict_items,t1,t2,Calls.callWith_builtin rfl (PySem.evalArgs_none ?_)⟩;refine call_meetsIn PySem.F.slot_dict_items t1 PySem.F.entry_dict_items (PySem.F.args_dict_items_1 _) (meets_dict_items (eO X.prog X.w) a hd) ⟨⟨vs,dd⟩,?_⟩;have hn:=I1.hok.fresh (Nat.le_refl _);refine ⟨.ref s1.heap.objs.size,_,I1.laid (t':=s1.toks) (fun b u e=>Heap.get?_push_of_some _ e) (Nat.le_refl _) ?_,rfl,q _ hn⟩;exact ⟨⟨_,Heap.get?_push_size _ rfl,rfl,rfl⟩,⟨_,Heap.get?_push_size _ rfl⟩,fun h1 h2 ⟨o,ho,r⟩ k=>⟨o,k o ho,r⟩⟩
theorem Io {X:Cx}{pins:List (Addr×Obj)}{σ:L2.St}{s:Shared}:∀ (as:List Addr) (kvs:List (Key×V)) (vs:List (Key×Value)) (H:Hp),Inv X pins σ H s→as.Nodup→(∀ a∈as,pF X pins H a)→as.length=kvs.length→KV kvs vs→
  (∀ (j:Nat) (a:Addr),as[j]? =some a→∃ key k x,vs[j]? =some (k,x)∧(eO X.prog X.w).is k key=true∧s.heap.get? a=some { cls:=.type "tuple",data:=.seq #[key,x] })→
  ∃ H',Inv X pins σ H' s∧aX H H'∧XS H' as kvs
 | [],[],_,H,I,_,_,_,_,_=>⟨H,I,fun _ _ h=>h,trivial⟩
 | [],_ :: _,_,_,_,_,_,hl,_,_=>by simp at hl
 | _ :: _,[],_,_,_,_,_,hl,_,_=>by simp at hl
 | a :: as,kv :: kvs,vs,H,I,nd,fp,hl,r,pr=>by
  cases r with
  | cons rv rs=>
   rename_i q ws
   obtain ⟨key,k,x,e,hk,hg⟩:=pr 0 a rfl;have e':q=(k,x):=by simpa using e
   subst e';obtain ⟨rk,rx⟩:=rv;have fa:=fp a (by simp);have na:a∉as:=(List.nodup_cons.mp nd).1;have rk':kv.1=k:=rk;have I1:Inv X pins σ (L2.upd H a (.tup [kV kv.1,kv.2])) s:=Zda I fa ⟨by show 2≤sizeLine;decide,[key,x],.cons (by rw [rk'];exact Zpx hk) (.cons rx .nil),⟨_,hg,rfl,_,rfl⟩⟩;obtain ⟨H',I',sm,ps⟩:=Io as kvs ws _ I1 (List.nodup_cons.mp nd).2 (fun b hb=>Za0 (fp b (by simp [hb])) fun z=>na (z ▸ hb)) (by simpa using hl) rs (fun j b hb=>by simpa using pr (j + 1) b (by simpa using hb));refine ⟨H',I',fun b o hb=>sm b o ?_,sm _ _ aq,ps⟩;rw [aB (aD hb fa.1)];exact hb
theorem QM:∀ as:List Addr,Vals (as.map V.ref) (as.map Value.ref)
 | []=>.nil
 | _ :: as=>.cons rfl (QM as)
theorem Zar {X:Cx} (hc:X.calm=true):Np X (.type "list") Zas:=by
 intro pins s σ H xs us Q I r h;obtain ⟨v,a,kvs,rfl,hv,rd,q⟩:=h;obtain ⟨u,rfl,ru⟩:=Vals.one r;obtain rfl:u=Value.ref v:=ru;have hvw:s.heap.IsItemsView v a:=(show kZ X.prog X.w H s.heap v (Hq v a) from I.hok v _ hv).1;obtain ⟨z,hd,vs,rel,dd⟩:=Eu I.hok rd;obtain ⟨ep,hm⟩:=dd.dictAt;have hl:=rel.length;refine PySem.W.kdx_call (I.ok.hd hc) hvw hm (by rw [← hl];exact z) fun h' tk acc c as hk hS hal hG hacc=>?_;have hn:=I.hok.fresh (Nat.le_refl s.heap.objs.size);have I1:Inv X pins σ (upd H s.heap.objs.size (.lst (as.map V.ref))) { s with heap:=h',toks:=tk }:=by
  refine I.laid hk (Nat.le_refl _) ⟨by rw [bD,hal,← hl];exact z,acc.toList,c,by rw [hacc];exact QM as,by rw [Array.toArray_toList];exact hS⟩
 have nd:as.Nodup:=hG.rise.imp fun h=>Nat.ne_of_lt h;obtain ⟨H',I',sm,ps⟩:=Io as kvs vs _ I1 nd (fun b hb=>Za0 (I.Xl (Nat.le_of_lt (hG.above b hb)) (I.hok.fresh (Nat.le_of_lt (hG.above b hb)))) (Nat.ne_of_gt (hG.above b hb))) (by rw [hal,hl]) rel (fun j b hb=>hG.pairs j b hb);refine ⟨.ref s.heap.objs.size,H',I',rfl,q _ as H' hn (fun b o hb=>sm b o ?_) (sm _ _ aq) ps⟩;rw [aB (aD hb hn)];exact hb
theorem Zhk {X:Cx}{pins:List (Addr×Obj)}{σ:L2.St}{H:Hp}{s:Shared}{a:Addr}{o:Obj}{kvs:List (Key×V)} (I:Inv X pins σ H s) (h:H a=some (.dK kvs)) (ho:s.heap.get? a=some o):Inv X pins σ (upd H a (.Bc o (.dK kvs))) s:=by
 have ne:∀ b u,H b=some u→u≠.dK kvs→b≠a:=fun b u q n z=>n (by rw [z,h] at q;exact (Option.some.inj q).symm);have r:Inv X pins σ (upd H a (.Bc o (.dK kvs))) { s with heap:=s.heap,gens:=s.gens,drawn:=s.drawn,toks:=s.toks }:=by
  refine I.step (g':=s.gens) (t':=s.toks) (d':=s.drawn) (ch:=[]) (fun b hb=>nomatch hb) (fun b u _ _ _ q _=>q) (fun b u _ _ _ q _=>⟨u.slots,q⟩) (fun b u hc q n=>(aB (fun z=>by rw [z,h] at n;cases n)).trans n) (fun b u _ q=>⟨u,q⟩)
   (fun b xs q=>(aB (ne b _ q (fun z=>by cases z))).trans q) (fun b u xs q=>(aB (ne b _ q (fun z=>by cases z))).trans q) (fun b ps q=>⟨#[],by rw [aB (ne b _ q (fun z=>by cases z)),q];simp⟩) (fun m hm=>hm) (fun b u q=>?_) I.bare
  have hs:∀ c u,H c=some u→u≠.dK kvs→upd H a (.Bc o (.dK kvs)) c=some u:=fun c u z n=>by rw [aB (ne c u z n)];exact z
  by_cases hb:b=a
  ·subst hb;rw [aq] at q;cases q;exact ⟨ho,(I.hok b _ h).stay (fun c v _ z=>z) (fun c z=>hs c _ z (fun y=>by cases y)) fun c xs z=>hs c _ z (fun y=>by cases y)⟩
  ·rw [aB hb] at q;exact (I.hok b u q).stay (fun c v _ z=>z) (fun c z=>hs c _ z (fun y=>by cases y)) fun c xs z=>hs c _ z (fun y=>by cases y)
 exact r
def Zno:Option Key→Value→Bool
 | none,.none=>true
 | none,_=>false
 | some k,v=>En k v
theorem lB {k:Option Key}{v:Value} (h:Zno k v=true):(k=none∧v=.none)∨∃ j,k=some j∧En j v=true:=by
 cases k with
 | none=>cases v<;>first | exact .inl ⟨rfl,rfl⟩ | cases h
 | some j=>exact .inr ⟨j,rfl,h⟩
theorem Mr {j:Key} (h:En j Value.none=true):False:=by
 rcases eU h with ⟨i,t,_,e⟩ | ⟨x,t,_,e⟩<;>cases e
def Znd (P:Program) (w:World):PySem.KeyKind P w (Option Key) where
  is:=Zno
  hash:=fun k=>match k with | none=>reduceHash 0xFCA86420 | some k=>Zpw w k
  inj:=fun v a b ha hb=>by
    rcases lB ha with ⟨rfl,rfl⟩ | ⟨i,rfl,h1⟩
    · rcases lB hb with ⟨rfl,_⟩ | ⟨j,rfl,h2⟩
      · rfl
      · exact (Mr h2).elim
    · rcases lB hb with ⟨rfl,rfl⟩ | ⟨j,rfl,h2⟩
      · exact (Mr h1).elim
      · rw [(eO P w).inj v i j h1 h2]
  byValue:=fun k v h=>by
    rcases lB h with ⟨rfl,rfl⟩ | ⟨i,rfl,h1⟩
    · rfl
    · exact (eO P w).byValue i v h1
  pyHash:=fun {A E s k v Q} hv h=>by
    rcases lB hv with ⟨rfl,rfl⟩ | ⟨i,rfl,h1⟩
    · exact PySem.W.pyHash_slot (T:="NoneType") rfl F.slot_NoneType_hash F.entry_NoneType_hash (F.args_NoneType_hash_1 _) (beq_builtin_none _) (.inl rfl) (wpAny_bind (wpAny_pure (wpAny_bind (wpAny_mkInt (wpAny_pure ⟨_,_,rfl,h⟩)))))
    · exact (eO P w).pyHash h1 h
  eqBool:=fun {A E s a b u v Q} hu hv h=>by
    rcases lB hu with ⟨rfl,rfl⟩ | ⟨i,rfl,h1⟩
    · rcases lB hv with ⟨rfl,rfl⟩ | ⟨j,rfl,h2⟩
      · exact Cz (A:=A) (s:=s) (y:=.non) (x:=.non) rfl rfl rfl rfl P w E Q h
      · rcases eU h2 with ⟨n,t,rfl,rfl⟩ | ⟨x,t,rfl,rfl⟩
        · exact Cz (A:=A) (s:=s) (y:=.non) (x:=.int n) rfl ⟨t,rfl⟩ rfl rfl P w E Q h
        · exact Cz (A:=A) (s:=s) (y:=.non) (x:=.str x) rfl ⟨t,rfl⟩ rfl rfl P w E Q h
    · rcases lB hv with ⟨rfl,rfl⟩ | ⟨j,rfl,h2⟩
      · rcases eU h1 with ⟨n,t,rfl,rfl⟩ | ⟨x,t,rfl,rfl⟩
        · exact Cz (A:=A) (s:=s) (y:=.int n) (x:=.non) ⟨t,rfl⟩ rfl rfl rfl P w E Q h
        · exact Cz (A:=A) (s:=s) (y:=.str x) (x:=.non) ⟨t,rfl⟩ rfl rfl rfl P w E Q h
      · refine (eO P w).eqBool h1 h2 ?_
        have e:decide (i=j)=decide (some i=some j):=by
          by_cases z:i=j
          · subst z;simp
          · rw [decide_eq_false z,decide_eq_false (fun y=>z (Option.some.inj y))]
        rw [e];exact h
  «strs»:=fun k x t v h=>by
    rcases lB h with ⟨_,e⟩ | ⟨i,rfl,h1⟩
    · cases e
    · exact (eO P w).strs i x t v h1
theorem Zfy {P:Program}{w:World}{h:Heap}{a:Addr}{vs:List (Key×Value)} (dd:h.DictOf (eO P w) a vs):∃ f,h.MapOf (Znd P w) a f∧f none=none:=by
 obtain ⟨o,es,ep,ho,hc,hd,hk,hp,hn⟩:=dd;refine ⟨fun k=>findBy (Znd P w).is es k,⟨o,es,ep,ho,hc,hd,fun e he=>?_,fun _=>rfl⟩,?_⟩
 ·obtain ⟨k,h1,h2⟩:=hk e he;exact ⟨some k,h1,h2⟩
 ·show Option.map (fun x=>x.val) (Array.find? (fun e=>Zno none e.key) es)=none;rw [Option.map_eq_none_iff,Array.find?_eq_none];intro e he;obtain ⟨k,h1,_⟩:=hk e he;rcases eU h1 with ⟨n,t,_,z⟩ | ⟨x,t,_,z⟩<;>rw [z]<;>exact fun y=>nomatch y
section
variable {X:Cx}{i o:Expr}{ty td:TE}
theorem Z8 {kvs:List (Key×V)}{y:V}{b:Bool} (h:Zkx kvs y=some b):(∃ k,y=kV k∧b=(lX kvs k).isSome)∨(y=.non∧b=false):=by
 cases y<;>simp only [Zkx,Option.some.injEq] at h<;>first | cases h
 ·exact .inr ⟨rfl,rfl⟩
 ·exact .inl ⟨.inl _,rfl,rfl⟩
 ·exact .inl ⟨.inr _,rfl,rfl⟩
theorem Zm (hu:X.A.units + 1 < cLine) (hi:PE X i ty) (ho:PE X o td):PC X .NotIn i o (Zer true ty td):=by
 intro pins s σ H Q I h;refine iy (hi pins s σ H _ I h) fun iv s1 ⟨y,H1,I1,ry,h1⟩=>?_;refine iy (ho pins s1 σ H1 _ I1 h1) fun ov s2 ⟨x,H2,I2,rx,a,kvs,b,ex,rd,hb,q⟩=>?_;subst ex;obtain rfl:ov=Value.ref a:=rx;rcases Z8 hb with ⟨k,rfl,rfl⟩ | ⟨rfl,rfl⟩
 ·exact Zbp hu I2 (.inl ⟨kvs,k,rd,rfl,rfl⟩) ry fun s' I'=>⟨.bl _,H2,I',rfl,q⟩
 ·obtain rfl:iv=Value.none:=ry;obtain ⟨z,hd,vs,rel,dd⟩:=Eu I2.hok rd;obtain ⟨f,hm,hf⟩:=Zfy dd;refine wpAny_notIn_of (knd:=Znd X.prog X.w) (k:=none) rfl hd hm ?_;rw [hf];exact ⟨.bl _,H2,I2.tok _,rfl,q⟩
end
end G
namespace G
open PySem L2 PySem.Spec PyProof.Rows
section
variable {X:Cx}
end
end G
namespace G
open PySem L2 PySem.Spec PyProof.Rows
end G
namespace G
open PySem L2 PySem.Spec PyProof.Rows
section
variable {X:Cx}{x1 x2 x3 x4:Str}{C1 C2 C3 C4:Addr}{pos np1 np2 np3 np4 hp1 hp2 hp3 hp4:Pos}{body su1 su2 su3 su4:List Stmt}{b1 b2 b3 b4:Stmt}{M1 M2 M3 M4:Value→Prop}{tb:(L2.St→XK)→TS}{t1 t2 t3 t4:TS}
end
end G
namespace G
open PySem L2 PySem.Spec PyProof.Rows
end G
namespace G
open PySem L2
end G
namespace G
open PySem L2 PySem.Spec PyProof.Rows
def Im (v d:Addr):HO:=.ext fun h=>h.IsValuesView v d
def Zem (td:TE):TE:=fun σ H Q=>td σ H fun x H1=>∃ a kvs,x=.ref a∧Rd H1 a (.dK kvs)∧∀ v,H1 v=none→Q (.ref v) (upd H1 v (Im v a))
theorem Znr {td:TE}{σ:L2.St}{H:Hp}{Q:VK} (h:td σ H fun x H1=>∃ a kvs,x=.ref a∧Rd H1 a (.dK kvs)∧∀ v,H1 v=none→Q (.ref v) (upd H1 v (Im v a))):Zem td σ H Q:=h
theorem Zcg {X:Cx}{o:Expr}{td:TE}{apos cpos:Pos} (ho:PE X o td) (hbase:attributeBase o "values" X.env (eval o X.env)=eval o X.env:=by rfl) (hline:(apos.endLine == cpos.line)=true:=by rfl):
  PE X (.Call (.Attribute o "values" apos) [] [] cpos) (Zem td):=by
 intro pins s σ H Q I h;refine wpAny_Call_method0_late hbase hline (iy (ho pins s σ H _ I h) fun u s1 ⟨x,H1,I1,rx,a,kvs,ex,rd,q⟩=>?_);subst ex;obtain rfl:u=Value.ref a:=rx;obtain ⟨t1,t2,hd⟩:=Zgy I1 (.inl ⟨kvs,rd⟩);obtain ⟨z,_,vs,rel,dd⟩:=Eu I1.hok rd;refine ⟨"dict","dict.values",PySem.F.plainAttrs_dict,PySem.F.slot_dict_values,PySem.F.type_dict_values,t1,t2,Calls.callWith_builtin rfl (PySem.evalArgs_none ?_)⟩;refine call_meetsIn PySem.F.slot_dict_values t1 PySem.F.entry_dict_values (PySem.F.args_dict_values_1 _) (meets_dict_values (eO X.prog X.w) a hd) ⟨⟨vs,dd⟩,?_⟩;have hn:=I1.hok.fresh (Nat.le_refl _);refine ⟨.ref s1.heap.objs.size,_,I1.laid (t':=s1.toks) (fun b u e=>Heap.get?_push_of_some _ e) (Nat.le_refl _) ?_,rfl,q _ hn⟩;exact ⟨⟨_,Heap.get?_push_size _ rfl,rfl,rfl⟩,⟨_,Heap.get?_push_size _ rfl⟩,fun h1 h2 ⟨o,ho,r⟩ k=>⟨o,k o ho,r⟩⟩
def Itv (a:Addr) (o:Obj) (kvs:List (Key×V)):It:=
 ⟨fun i H=>H a=some (.Bc o (.dK kvs))∧i < kvs.length,fun i H x H'=>H'=H∧∃ kv,kvs[i]? =some kv∧x=kv.2,fun i H=>H a=some (.Bc o (.dK kvs))∧kvs.length≤i⟩
def Zh7 (te:TE):TI:=fun σ H R=>te σ H fun x H1=>∃ v a kvs,x=.ref v∧H1 v=some (Im v a)∧H1 a=some (.dK kvs)∧∀ o,R (Itv a o kvs) (upd H1 a (.Bc o (.dK kvs)))
theorem Zrv {te:TE}{σ:L2.St}{H:Hp}{R:It→Hp→Prop} (h:te σ H fun x H1=>∃ v a kvs,x=.ref v∧H1 v=some (Im v a)∧H1 a=some (.dK kvs)∧∀ o,R (Itv a o kvs) (upd H1 a (.Bc o (.dK kvs)))):Zh7 te σ H R:=h
theorem QT {α β:Type}{R:α→β→Prop}:∀ {xs:List α}{ys:List β},Paired R xs ys→∀ (i:Nat) x y,xs[i]? =some x→ys[i]? =some y→R x y
 | _,_,.nil,_,_,_,h,_=>by simp at h
 | _,_,.cons r rs,0,_,_,h1,h2=>by
  cases h1;cases h2;exact r
 | _,_,.cons r rs,i + 1,_,_,h1,h2=>QT rs i _ _ (by simpa using h1) (by simpa using h2)
theorem Zbw {P:Program}{w:World}{K:aC}{tg:Expr} (a it:Addr) (o:Obj) (kvs:List (Key×V)) (ep:Nat) (hep:∃ es,o.data=.dict es ep):Turn P w K tg (Itv a o kvs) [it] it (fun i h=>h.IsValIter it a i kvs.length ep) where
  mem:=by simp
  obj:=fun i h st b hb=>by
    have e:b=it:=by simpa using hb
    subst e;obtain ⟨o,e,c,d⟩:=st;exact ⟨o,e,fun v z=>by rw [d] at z;cases z⟩
  keep:=fun i h h' st k=>by
    obtain ⟨o,e,r⟩:=st;exact ⟨o,k it (by simp) o e,r⟩
  item:=by
    intro X hP hw hK hc i pins s σ H E I hf st hg;subst hP hw hK;obtain ⟨hz,hi⟩:=hg;obtain ⟨ho,z,hd,vs,rel,dd⟩:s.heap.get? a=some o∧kvs.length≤sizeLine∧(a == sysModules)=false∧∃ vs,KV kvs vs∧s.heap.DictOf (eO X.prog X.w) a vs:=I.hok a _ hz;obtain ⟨ep',hm⟩:=dd.dictAt;obtain ⟨es,hes⟩:=hep;have he:ep'=ep:=by
      obtain ⟨o',es',ho',_,hd',_⟩:=id hm;rw [ho] at ho';cases ho';rw [hes] at hd';injection hd' with _ e;exact e.symm
    subst he;have hl:=rel.length;have hv:vs[i]? =some vs[i]:=bW (by omega);have hv2:kvs[i]? =some kvs[i]:=bW hi;have hk:RelV kvs[i].2 vs[i].2:=(QT rel i _ _ hv2 hv).2;obtain ⟨f0,f1,f2,f3,f4,f5⟩:=hf it (by simp);rw [hl] at st;refine wpAny_pyNext_values_item st hm (k:=vs[i].1) (v:=vs[i].2) (by rw [hv]) fun h' st' sb=>?_;have I1:Inv X pins σ H { s with heap:=h' }:=I.turned (t':=s.toks) (fun b o hb e=>(sb.2 b hb).trans e) f0 f1 f3 f4 f5;obtain ⟨oi,e,c,d⟩:=id st';exact ⟨_,rfl,Zhf (s:={ s with heap:=h' }) e c d (by decide) ⟨kvs[i].2,H,I1,hk,⟨rfl,_,hv2,rfl⟩,by rw [hl];exact st',fun b hb=>(hf b hb).1⟩⟩
  done:=by
    intro X hP hw hK hc i pins s σ H E I hf st hg;subst hP hw hK;obtain ⟨hz,hi⟩:=hg;obtain ⟨ho,z,hd,vs,rel,dd⟩:s.heap.get? a=some o∧kvs.length≤sizeLine∧(a == sysModules)=false∧∃ vs,KV kvs vs∧s.heap.DictOf (eO X.prog X.w) a vs:=I.hok a _ hz;obtain ⟨ep',hm⟩:=dd.dictAt;obtain ⟨es,hes⟩:=hep;have he:ep'=ep:=by
      obtain ⟨o',es',ho',_,hd',_⟩:=id hm;rw [ho] at ho';cases ho';rw [hes] at hd';injection hd' with _ e;exact e.symm
    subst he;have hl:=rel.length;obtain ⟨f0,f1,f2,f3,f4,f5⟩:=hf it (by simp);rw [hl] at st;exact wpAny_pyNext_values_end (I.ok.hd hc) st hm (by rw [List.getElem?_eq_none];omega) fun h' eb=>⟨rfl,I.turned (t':=s.toks) (fun b o hb e=>eb b o hb e) f0 f1 f3 f4 f5⟩
  self:=fun _ _ _ _ _ st h=>wpAny_pyIter_valiter st h
theorem Zjd {X:Cx}{tg:Expr}{e:Expr}{te:TE} (he:PE X e te):PI X tg e (Zh7 te):=by
 intro pins s σ H R I h;refine iy (he pins s σ H _ I h) fun u s1 ⟨x,H1,I1,r1,q1⟩=>?_;obtain ⟨v,a,kvs,e,hv,hq,q⟩:=q1;subst e;obtain rfl:u=Value.ref v:=r1;have Zqj:s1.heap.IsValuesView v a:=(I1.hok v _ hv).1;obtain ⟨z,hs,vs,rel,dd⟩:=Zm3 I1.hok hq;obtain ⟨ep,hm⟩:=dd.dictAt;obtain ⟨o,es,ho,_,hes,_⟩:=id hm;refine wpAny_pyIter_values Zqj hm ?_;have I2:=Zhk I1 hq ho;have hne:s1.heap.objs.size≠a:=Nat.ne_of_gt (Heap.lt_size ho);refine ⟨s1.heap.objs.size,[s1.heap.objs.size],_,_,_,rfl,I2.kept (t':=s1.toks) fun b o e=>Heap.get?_push_of_some _ e,Zbw a _ o kvs ep ⟨es,hes⟩,?_,fun b hb=>?_,q o⟩
 ·rw [rel.length];exact ⟨_,Heap.get?_push_size _ rfl,rfl,rfl⟩
 ·have e:b=s1.heap.objs.size:=by simpa using hb
  subst e;exact Za0 (I1.Xl (Nat.le_refl _) (I1.hok.fresh (Nat.le_refl _))) hne
theorem Zbz {X:Cx}{pins:List (Addr×Obj)}{σ:L2.St}{H:Hp}{s:Shared}{a:Addr}{o:Obj}{kvs:List (Key×V)} (I:Inv X pins σ H s) (h:H a=some (.Bc o (.dK kvs))) (hn:∀ o' u,X.H₀ a≠some (.Bc o' u)):Inv X pins σ (upd H a (.dK kvs)) s:=by
 have ne:∀ b u,H b=some u→u≠.Bc o (.dK kvs)→b≠a:=fun b u q n z=>n (by rw [z,h] at q;exact (Option.some.inj q).symm);have n0:∀ b,H b=none→upd H a (.dK kvs) b=none:=fun b q=>(aB (fun z=>by rw [z,h] at q;cases q)).trans q;have hs:∀ c u,H c=some u→u≠.Bc o (.dK kvs)→upd H a (.dK kvs) c=some u:=fun c u z n=>by rw [aB (ne c u z n)];exact z
 obtain ⟨i1,i2,i3,i4,i5,i6,i7,i8,i9,i10,i11⟩:=I;refine ⟨i1,i2,i3,⟨i4.keep,i4.slot,fun b ob e n hx=>n0 b (i4.free b ob e n hx),i4.there,fun b xs e=>hs b _ (i4.tups b xs e) (fun z=>by cases z),fun b ob u e=>(aB (a:=a) (b:=b) (fun z=>hn ob u (by rw [← z];exact e))).trans (i4.Cy b ob u e),fun b ps e=>?_⟩,i5,i6,n0 _ i7,fun x c e=>n0 _ (i8 x c e),fun p hp=>?_,fun b u q=>?_,i11⟩
 ·obtain ⟨more,q⟩:=i4.Dd b ps e;exact ⟨more,hs b _ q (fun z=>by cases z)⟩
 ·obtain ⟨p1,p2,p3⟩:=i9 p hp;exact ⟨p1,n0 _ p2,p3⟩
 ·by_cases hb:b=a
  ·subst hb;rw [aq] at q;cases q;exact (i10 b _ h).2.stay (fun c v _ z=>z) (fun c z=>hs c _ z (fun y=>by cases y)) fun c xs z=>hs c _ z (fun y=>by cases y)
  ·rw [aB hb] at q;exact (i10 b u q).stay (fun c v _ z=>z) (fun c z=>hs c _ z (fun y=>by cases y)) fun c xs z=>hs c _ z (fun y=>by cases y)
def Zen (H0:Hp) (te:TE):TE:=fun σ H Q=>te σ H fun x H1=>∃ a o kvs,H1 a=some (.Bc o (.dK kvs))∧(∀ o' u,H0 a≠some (.Bc o' u))∧Q x (upd H1 a (.dK kvs))
theorem Zns {H0:Hp}{te:TE}{σ:L2.St}{H:Hp}{Q:VK} (h:te σ H fun x H1=>∃ a o kvs,H1 a=some (.Bc o (.dK kvs))∧(∀ o' u,H0 a≠some (.Bc o' u))∧Q x (upd H1 a (.dK kvs))):Zen H0 te σ H Q:=h
theorem Zjj {X:Cx}{e:Expr}{te:TE} (he:PE X e te):PE X e (Zen X.H₀ te):=by
 intro pins s σ H Q I h;refine iy (he pins s σ H _ I h) fun u s1 ⟨x,H1,I1,r1,a,o,kvs,ha,hn,q⟩=>?_;exact ⟨x,_,Zbz I1 ha hn,r1,q⟩
end G
namespace G
open PySem L2 PySem.Spec PyProof.Rows
def Zmc (K:aC) (te:TE):TT:=fun σ H Q=>te σ H fun x H'=>∃ k,Zi6 K x H' k∧Q k H'
theorem Zlx {K:aC}{te:TE}{σ:L2.St}{H:Hp}{Q:Bool→Hp→Prop} (h:te σ H fun x H'=>∃ k,Zi6 K x H' k∧Q k H'):Zmc K te σ H Q:=h
theorem Zpd {K:aC}{H:Hp}{a:Addr}{xs:List V}{P:Bool→Prop} (h:dz K H a xs) (q:P (!xs.isEmpty)):∃ k,Zi6 K (.ref a) H k∧P k:=⟨_,.inl ⟨xs,h,rfl⟩,q⟩
theorem Zh6 {i:Nat}{c x:Int}{f:Int→Int→Int}{n:L2.St→Hp→Prop}{r:VK}{b ct:L2.St→Hp→Prop}{σ:L2.St}{H:Hp} (e:σ[i]? =some (some (.int x))) (h:n (σ.set i (some (.int (f x c)))) H):Zmd i (tC (.int c)) (ipI f) ⟨n,r,b,ct⟩ σ H:=⟨_,e,x,c,rfl,rfl,h⟩
def Zi2 (K:aC):List V→Hp→VK→Prop:=fun xs H Q=>∃ p ys,xs=[.ref p]∧(dz K H p ys∨iQ K H p ys)∧∀ l,H l=none→Q (.ref l) (upd H l (.lst ys))
theorem Zkj {K:aC}{H:Hp}{Q:VK}{p:Addr}{ys:List V} (h1:iQ K H p ys) (h:∀ l,H l=none→Q (.ref l) (upd H l (.lst ys))):Zi2 K [.ref p] H Q:=⟨p,ys,rfl,.inr h1,h⟩
section
variable {X:Cx}
end
end G
namespace G
open PySem L2
theorem Zni {K:aC}{a:Addr}{xs:List V}{caps:List Nat}{tc:TT}{te:TE}{σ:St}{H:Hp}{Q:VK} (hs:dz K H a xs) (hz:xs.length≤1000000) (R:V→Hp→Prop) (mono:∀ y H1 H2,R y H1→aX H1 H2→R y H2)
  (hy:∀ (i:Nat) x H1,xs[i]? =some x→aX H H1→∀ q:Bool→Hp→Prop,(∀ (b:Bool) H2,aX H1 H2→(b=true→∀ q':VK,(∀ y H3,aX H2 H3→R y H3→q' y H3)→te (some x :: caps.map (pick σ)) H2 q')→q b H2)→tc (some x :: caps.map (pick σ)) H1 q)
  (q:∀ ys H',aX H H'→ys.length≤xs.length→(∀ y∈ys,R y H')→∀ p,H' p=none→Q (.ref p) (upd H' p (.lst ys))):LCg (Itl K a) caps tc te σ H Q:=by
 refine ⟨fun i m ys H'=>aX H H'∧i≤xs.length∧m=xs.length - i∧ys.length≤i∧∀ y∈ys,R y H',⟨_,aX.refl _,Nat.zero_le _,rfl,Nat.le_refl _,fun y e=>(nomatch e)⟩,?_⟩;rintro i m ys H1 ⟨s1,hi,rfl,hl,hr⟩
 by_cases hk:i=xs.length
 ·exact .inl ⟨⟨xs,s1.seq hs,by omega⟩,q ys H1 s1 (by omega) hr⟩
 ·have hlt:i < xs.length:=by omega
  refine .inr ⟨⟨xs,xs[i],s1.seq hs,bW hlt⟩,Nat.lt_of_le_of_lt (show ys.length≤1000000 by omega) (show 1000000 < sizeLine by decide),fun x H' y=>?_⟩;obtain ⟨rfl,e2⟩:=y;refine hy i x H' (e2 xs (s1.seq hs)) s1 _ fun b H2 s2 h=>?_;cases b with
  | false=>exact Zgx ⟨xs.length - (i + 1),by omega,s1.trans s2,by omega,rfl,by omega,fun y hy=>mono y _ _ (hr y hy) s2⟩
  | true=>
   refine Xe (h rfl _ fun y H3 s3 r=>⟨xs.length - (i + 1),by omega,s1.trans (s2.trans s3),by omega,rfl,by rw [List.length_append,List.length_singleton];omega,fun z hz=>?_⟩);rcases List.mem_append.mp hz with hz | hz
   ·exact mono z _ _ (hr z hz) (s2.trans s3)
   ·rw [List.mem_singleton.mp hz];exact r
end G
local macro_rules | `(tactic| walk_at "g2")=>`(tactic| with_reducible first | refine G.xV ?_ | refine G.Zo6 ?_ | refine G.Zq4 ?_ | refine G.Zqc ?_ | refine G.Mw ?_ | refine G.i_C ?_ | refine G.Z4 ?_ | refine G.Zrs ?_ | refine G.i_B ?_ | refine G.Znt ?_ | refine G.Zq3 ?_ | refine G.Zqh ?_ | refine G.Zq5 ?_ | refine G.Zly ?_ | refine G.Zoc ?_ | refine G.Znw ?_ | refine G.Zqb ?_ | refine G.Zqi ?_ | refine G.i_U ?_ | refine G.Zqg ?_ | refine G.Zqf ?_ | refine G.Zq8 ?_ | refine G.Zq7 ?_ | refine G.Zo2 ?_ | refine G.Zo1 ?_ | refine G.Zo0 ?_ | refine G.Zkh ?_ | refine G.Zkg ?_ | refine G.Zkf ?_ | refine G.Z6 ?_ | refine G.Uv ?_ | refine G.Zkm ?_ | refine G.Zkn ?_ | refine G.Zq6 ?_ | refine G.Zoa ?_ | refine G.Zq9 ?_ | refine G.Zq0 ?_ | refine G.Zob ?_ | refine G.Zs6 ?_ | refine G.Zny ?_ | refine G.Zqe ?_ | refine G.Znu ?_ | refine G.Znx ?_ | refine G.Znv ?_ | refine G.Zru ?_ | refine G.Zrt ?_ | refine G.Zs5 ?_ | refine G.Zqd ?_ | refine G.Zrx ?_ | refine G.Zrw ?_ | refine G.Zrr ?_ | refine G.Zrq ?_ | refine G.Zrp ?_ | refine G.Z3 ?_ | refine G.Zro ?_ | refine G.Zrn ?_ | refine G.Zrm ?_ | refine G.Zrl ?_ | refine G.Zrk ?_ | refine G.Zrj ?_ | refine G.Zs4 ?_ | refine G.Zo4 ?_ | refine G.Xg ?_ | refine G.Zko ?_ | refine G.Zs3 ?_ | refine G.Zs2 ?_ | refine G.Zs1 ?_ | refine G.Zs0 ?_ | refine G.Zrz ?_ | refine G.zX ?_ | refine G.Zkp ?_ | refine G.Zke ?_ | refine G.Zkq ?_ | refine G.Zq1 ?_ | refine G.Zo3 ?_ | refine G.Zki ?_ | refine G.Zq2 ?_ | refine G.Zo9 ?_ | refine G.Zh4 ?_ | refine G.Zo7 ?_ | refine G.Znz ?_ | refine G.Znr ?_ | refine G.Zrv ?_ | refine G.Zns ?_ | refine G.Zlx ?_ | refine G.Zry ?_ | refine G.Zkl ?_ | refine G.Zo8 ?_)
local macro_rules | `(tactic| walk_at "g1")=>`(tactic| first | (with_reducible refine G.Mv ?_) | walk_at "g2")
local macro_rules | `(tactic| walk_at "ne")=>`(tactic| first | assumption | (exact Ne.symm (by assumption)) | exact L2.aD (by assumption) (by assumption) | exact Ne.symm (L2.aD (by assumption) (by assumption)) | exact Nat.ne_of_lt (by assumption))
local macro_rules | `(tactic| walk_at "hp")=>`(tactic| first | assumption | exact L2.aq | (refine Eq.trans (L2.aB ?hne) ?_;(case hne=>walk_at "ne");walk_at "hp"))
local macro_rules | `(tactic| walk_at "side")=>`(tactic| first | omega | decide | (show (_:Int) < _;decide) | exact ⟨by decide,by decide⟩ | exact ⟨by decide,by decide,by decide⟩ | (unfold L2.Nr;omega) | exact .inl (by unfold L2.Nr;omega))
local macro_rules | `(tactic| walk_at "ev")=>`(tactic| repeat (first | walk_at "g1" | ((with_reducible refine G.i_I ?hc ?_);(case hc=>walk_at "side"))))
local macro_rules | `(tactic| walk_at "es")=>`(tactic| repeat (first | walk_at "g2" | ((with_reducible refine G.i_I ?hc ?_);(case hc=>walk_at "side"))))
local macro_rules | `(tactic| walk_at "caps")=>`(tactic| simp only [List.map_cons,List.map_nil,G.pick,List.getElem?_cons_zero,List.getElem?_cons_succ])
namespace K31
open PySem L2 G
def lW (birth:Int) (bulk:Int) (tone:Int) (load:Int) (fa:Addr):List (Str×V):=[("birth",.int birth),("bulk",.int bulk),("tone",.int tone),("load",.int load),("fields",.ref fa)]
theorem fZ {birth:Int}{bulk:Int}{tone:Int}{load:Int}{fa:Addr}:List.lookup ("birth":Str) (lW birth bulk tone load fa)=some (.int birth:V):=rfl
theorem Bv {birth:Int}{bulk:Int}{tone:Int}{load:Int}{fa:Addr}:List.lookup ("bulk":Str) (lW birth bulk tone load fa)=some (.int bulk:V):=rfl
theorem PN {birth:Int}{bulk:Int}{tone:Int}{load:Int}{fa:Addr}:List.lookup ("tone":Str) (lW birth bulk tone load fa)=some (.int tone:V):=rfl
theorem vo {birth:Int}{bulk:Int}{tone:Int}{load:Int}{fa:Addr}:List.lookup ("load":Str) (lW birth bulk tone load fa)=some (.int load:V):=rfl
theorem jF {birth:Int}{bulk:Int}{tone:Int}{load:Int}{fa:Addr}:List.lookup ("fields":Str) (lW birth bulk tone load fa)=some (.ref fa:V):=rfl
theorem M9 {birth:Int}{bulk:Int}{tone:Int}{load:Int}{fa:Addr} (y:Int):cg "tone" (.int y) (lW birth bulk tone load fa)=lW birth bulk y load fa:=rfl
theorem Nb {birth:Int}{bulk:Int}{tone:Int}{load:Int}{fa:Addr} (y:Int):cg "load" (.int y) (lW birth bulk tone load fa)=lW birth bulk tone y fa:=rfl
theorem Zi1 {birth:Int}{bulk:Int}{tone:Int}{load:Int}{fa:Addr}:(cg "fields" (.ref fa) (cg "load" (.int load) (cg "tone" (.int tone) (cg "bulk" (.int bulk) (cg "birth" (.int birth) [])))))=lW birth bulk tone load fa:=rfl
theorem sV {birth:Int}{bulk:Int}{tone:Int}{load:Int}{fa:Addr}:List.lookup ("units":Str) (lW birth bulk tone load fa)=none:=rfl
theorem CG {birth:Int}{bulk:Int}{tone:Int}{load:Int}{fa:Addr}:List.lookup ("has_field":Str) (lW birth bulk tone load fa)=none:=rfl
def jB (room:Int) (ca:Addr) (used:Int) (born:Int):List (Str×V):=[("room",.int room),("cells",.ref ca),("used",.int used),("born",.int born)]
theorem Pj {room:Int}{ca:Addr}{used:Int}{born:Int}:List.lookup ("room":Str) (jB room ca used born)=some (.int room:V):=rfl
theorem bO {room:Int}{ca:Addr}{used:Int}{born:Int}:List.lookup ("cells":Str) (jB room ca used born)=some (.ref ca:V):=rfl
theorem uZ {room:Int}{ca:Addr}{used:Int}{born:Int}:List.lookup ("used":Str) (jB room ca used born)=some (.int used:V):=rfl
theorem Pk {room:Int}{ca:Addr}{used:Int}{born:Int}:List.lookup ("born":Str) (jB room ca used born)=some (.int born:V):=rfl
theorem zY {room:Int}{ca:Addr}{used:Int}{born:Int} (y:Int):cg "used" (.int y) (jB room ca used born)=jB room ca y born:=rfl
theorem My {room:Int}{ca:Addr}{used:Int}{born:Int} (y:Int):cg "born" (.int y) (jB room ca used born)=jB room ca used y:=rfl
theorem Zhb {room:Int}{ca:Addr}{used:Int}{born:Int}:(cg "born" (.int born) (cg "used" (.int used) (cg "cells" (.ref ca) (cg "room" (.int room) []))))=jB room ca used born:=rfl
theorem Pb {room:Int}{ca:Addr}{used:Int}{born:Int}:List.lookup ("make":Str) (jB room ca used born)=none:=rfl
theorem Ux {room:Int}{ca:Addr}{used:Int}{born:Int}:List.lookup ("lay":Str) (jB room ca used born)=none:=rfl
theorem Ph {room:Int}{ca:Addr}{used:Int}{born:Int}:List.lookup ("back":Str) (jB room ca used born)=none:=rfl
theorem Pg {room:Int}{ca:Addr}{used:Int}{born:Int}:List.lookup ("free":Str) (jB room ca used born)=none:=rfl
theorem zZ {room:Int}{ca:Addr}{used:Int}{born:Int}:List.lookup ("there":Str) (jB room ca used born)=none:=rfl
def Mq (lk:Addr) (tl:Int):List (Str×V):=[("looking",.ref lk),("tells",.int tl)]
theorem vV {lk:Addr}{tl:Int}:List.lookup ("looking":Str) (Mq lk tl)=some (.ref lk:V):=rfl
theorem zV {lk:Addr}{tl:Int}:List.lookup ("tells":Str) (Mq lk tl)=some (.int tl:V):=rfl
theorem Zgu {lk:Addr}{tl:Int}:(cg "tells" (.int tl) (cg "looking" (.ref lk) []))=Mq lk tl:=rfl
def Xi (nm:Str) (sa:Addr):List (Str×V):=[("name",.str nm),("slots",.ref sa)]
theorem o5 {nm:Str}{sa:Addr}:List.lookup ("slots":Str) (Xi nm sa)=some (.ref sa:V):=rfl
theorem Zhd {nm:Str}{sa:Addr}:(cg "slots" (.ref sa) (cg "name" (.str nm) []))=Xi nm sa:=rfl
def yC (hp:Addr) (ki:Addr) (hl:Addr) (nm:Addr) (sw:Addr):List (Str×V):=[("heap",.ref hp),("kind",.ref ki),("hands",.ref hl),("names",.ref nm),("sweeper",.ref sw)]
theorem bx {hp:Addr}{ki:Addr}{hl:Addr}{nm:Addr}{sw:Addr}:List.lookup ("heap":Str) (yC hp ki hl nm sw)=some (.ref hp:V):=rfl
theorem oF {hp:Addr}{ki:Addr}{hl:Addr}{nm:Addr}{sw:Addr}:List.lookup ("kind":Str) (yC hp ki hl nm sw)=some (.ref ki:V):=rfl
theorem jD {hp:Addr}{ki:Addr}{hl:Addr}{nm:Addr}{sw:Addr}:List.lookup ("hands":Str) (yC hp ki hl nm sw)=some (.ref hl:V):=rfl
theorem lK {hp:Addr}{ki:Addr}{hl:Addr}{nm:Addr}{sw:Addr}:List.lookup ("names":Str) (yC hp ki hl nm sw)=some (.ref nm:V):=rfl
theorem bw {hp:Addr}{ki:Addr}{hl:Addr}{nm:Addr}{sw:Addr}:List.lookup ("sweeper":Str) (yC hp ki hl nm sw)=some (.ref sw:V):=rfl
theorem Zbv {hp:Addr}{ki:Addr}{hl:Addr}{nm:Addr}{sw:Addr}:(cg "sweeper" (.ref sw) (cg "names" (.ref nm) (cg "hands" (.ref hl) (cg "kind" (.ref ki) (cg "heap" (.ref hp) [])))))=yC hp ki hl nm sw:=rfl
def cz (se:Int) (ph:Str) (gr:Addr) (lo:Int) (tu:Int) (at_:Int) (st:Int) (wa:Int) (ls:Int) (pa:Int) (lx:V):List (Str×V):=[("sense",.int se),("phase",.str ph),("grey",.ref gr),("looked",.int lo),("turn",.int tu),("at",.int at_),("stop",.int st),("walks",.int wa),("looks",.int ls),("passes",.int pa),("loss",lx)]
theorem mW {se:Int}{ph:Str}{gr:Addr}{lo:Int}{tu:Int}{at_:Int}{st:Int}{wa:Int}{ls:Int}{pa:Int}{lx:V}:List.lookup ("sense":Str) (cz se ph gr lo tu at_ st wa ls pa lx)=some (.int se:V):=rfl
theorem iH {se:Int}{ph:Str}{gr:Addr}{lo:Int}{tu:Int}{at_:Int}{st:Int}{wa:Int}{ls:Int}{pa:Int}{lx:V}:List.lookup ("phase":Str) (cz se ph gr lo tu at_ st wa ls pa lx)=some (.str ph:V):=rfl
theorem oG {se:Int}{ph:Str}{gr:Addr}{lo:Int}{tu:Int}{at_:Int}{st:Int}{wa:Int}{ls:Int}{pa:Int}{lx:V}:List.lookup ("grey":Str) (cz se ph gr lo tu at_ st wa ls pa lx)=some (.ref gr:V):=rfl
theorem pL {se:Int}{ph:Str}{gr:Addr}{lo:Int}{tu:Int}{at_:Int}{st:Int}{wa:Int}{ls:Int}{pa:Int}{lx:V}:List.lookup ("looked":Str) (cz se ph gr lo tu at_ st wa ls pa lx)=some (.int lo:V):=rfl
theorem rW {se:Int}{ph:Str}{gr:Addr}{lo:Int}{tu:Int}{at_:Int}{st:Int}{wa:Int}{ls:Int}{pa:Int}{lx:V}:List.lookup ("turn":Str) (cz se ph gr lo tu at_ st wa ls pa lx)=some (.int tu:V):=rfl
theorem Dg {se:Int}{ph:Str}{gr:Addr}{lo:Int}{tu:Int}{at_:Int}{st:Int}{wa:Int}{ls:Int}{pa:Int}{lx:V}:List.lookup ("at":Str) (cz se ph gr lo tu at_ st wa ls pa lx)=some (.int at_:V):=rfl
theorem Ku {se:Int}{ph:Str}{gr:Addr}{lo:Int}{tu:Int}{at_:Int}{st:Int}{wa:Int}{ls:Int}{pa:Int}{lx:V}:List.lookup ("stop":Str) (cz se ph gr lo tu at_ st wa ls pa lx)=some (.int st:V):=rfl
theorem yh {se:Int}{ph:Str}{gr:Addr}{lo:Int}{tu:Int}{at_:Int}{st:Int}{wa:Int}{ls:Int}{pa:Int}{lx:V}:List.lookup ("walks":Str) (cz se ph gr lo tu at_ st wa ls pa lx)=some (.int wa:V):=rfl
theorem yj {se:Int}{ph:Str}{gr:Addr}{lo:Int}{tu:Int}{at_:Int}{st:Int}{wa:Int}{ls:Int}{pa:Int}{lx:V}:List.lookup ("looks":Str) (cz se ph gr lo tu at_ st wa ls pa lx)=some (.int ls:V):=rfl
theorem vJ {se:Int}{ph:Str}{gr:Addr}{lo:Int}{tu:Int}{at_:Int}{st:Int}{wa:Int}{ls:Int}{pa:Int}{lx:V}:List.lookup ("passes":Str) (cz se ph gr lo tu at_ st wa ls pa lx)=some (.int pa:V):=rfl
theorem Kv {se:Int}{ph:Str}{gr:Addr}{lo:Int}{tu:Int}{at_:Int}{st:Int}{wa:Int}{ls:Int}{pa:Int}{lx:V}:List.lookup ("loss":Str) (cz se ph gr lo tu at_ st wa ls pa lx)=some (lx:V):=rfl
theorem Fq {se:Int}{ph:Str}{gr:Addr}{lo:Int}{tu:Int}{at_:Int}{st:Int}{wa:Int}{ls:Int}{pa:Int}{lx:V} (y:Int):cg "sense" (.int y) (cz se ph gr lo tu at_ st wa ls pa lx)=cz y ph gr lo tu at_ st wa ls pa lx:=rfl
theorem mC {se:Int}{ph:Str}{gr:Addr}{lo:Int}{tu:Int}{at_:Int}{st:Int}{wa:Int}{ls:Int}{pa:Int}{lx:V} (y:Str):cg "phase" (.str y) (cz se ph gr lo tu at_ st wa ls pa lx)=cz se y gr lo tu at_ st wa ls pa lx:=rfl
theorem Jv {se:Int}{ph:Str}{gr:Addr}{lo:Int}{tu:Int}{at_:Int}{st:Int}{wa:Int}{ls:Int}{pa:Int}{lx:V} (y:Addr):cg "grey" (.ref y) (cz se ph gr lo tu at_ st wa ls pa lx)=cz se ph y lo tu at_ st wa ls pa lx:=rfl
theorem Df {se:Int}{ph:Str}{gr:Addr}{lo:Int}{tu:Int}{at_:Int}{st:Int}{wa:Int}{ls:Int}{pa:Int}{lx:V} (y:Int):cg "looked" (.int y) (cz se ph gr lo tu at_ st wa ls pa lx)=cz se ph gr y tu at_ st wa ls pa lx:=rfl
theorem Js {se:Int}{ph:Str}{gr:Addr}{lo:Int}{tu:Int}{at_:Int}{st:Int}{wa:Int}{ls:Int}{pa:Int}{lx:V} (y:Int):cg "turn" (.int y) (cz se ph gr lo tu at_ st wa ls pa lx)=cz se ph gr lo y at_ st wa ls pa lx:=rfl
theorem Bj {se:Int}{ph:Str}{gr:Addr}{lo:Int}{tu:Int}{at_:Int}{st:Int}{wa:Int}{ls:Int}{pa:Int}{lx:V} (y:Int):cg "at" (.int y) (cz se ph gr lo tu at_ st wa ls pa lx)=cz se ph gr lo tu y st wa ls pa lx:=rfl
theorem Jt {se:Int}{ph:Str}{gr:Addr}{lo:Int}{tu:Int}{at_:Int}{st:Int}{wa:Int}{ls:Int}{pa:Int}{lx:V} (y:Int):cg "stop" (.int y) (cz se ph gr lo tu at_ st wa ls pa lx)=cz se ph gr lo tu at_ y wa ls pa lx:=rfl
theorem vH {se:Int}{ph:Str}{gr:Addr}{lo:Int}{tu:Int}{at_:Int}{st:Int}{wa:Int}{ls:Int}{pa:Int}{lx:V} (y:Int):cg "walks" (.int y) (cz se ph gr lo tu at_ st wa ls pa lx)=cz se ph gr lo tu at_ st y ls pa lx:=rfl
theorem vI {se:Int}{ph:Str}{gr:Addr}{lo:Int}{tu:Int}{at_:Int}{st:Int}{wa:Int}{ls:Int}{pa:Int}{lx:V} (y:Int):cg "looks" (.int y) (cz se ph gr lo tu at_ st wa ls pa lx)=cz se ph gr lo tu at_ st wa y pa lx:=rfl
theorem tM {se:Int}{ph:Str}{gr:Addr}{lo:Int}{tu:Int}{at_:Int}{st:Int}{wa:Int}{ls:Int}{pa:Int}{lx:V} (y:Int):cg "passes" (.int y) (cz se ph gr lo tu at_ st wa ls pa lx)=cz se ph gr lo tu at_ st wa ls y lx:=rfl
theorem Ju {se:Int}{ph:Str}{gr:Addr}{lo:Int}{tu:Int}{at_:Int}{st:Int}{wa:Int}{ls:Int}{pa:Int}{lx:V} (y:V):cg "loss" (y) (cz se ph gr lo tu at_ st wa ls pa lx)=cz se ph gr lo tu at_ st wa ls pa y:=rfl
theorem Zc0 {se:Int}{ph:Str}{gr:Addr}{lo:Int}{tu:Int}{at_:Int}{st:Int}{wa:Int}{ls:Int}{pa:Int}{lx:V}:(cg "loss" (lx) (cg "passes" (.int pa) (cg "looks" (.int ls) (cg "walks" (.int wa) (cg "stop" (.int st) (cg "at" (.int at_) (cg "turn" (.int tu) (cg "looked" (.int lo) (cg "grey" (.ref gr) (cg "phase" (.str ph) (cg "sense" (.int se) [])))))))))))=cz se ph gr lo tu at_ st wa ls pa lx:=rfl
def pX (K:aC):TS:=
 (aN (gA K (ak 0) (ak 1) "birth")
   (aN (gA K (ak 0) (ak 3) "bulk")
   (aN (gA K (ak 0) (ak 4) "tone")
   (aN (gA K (ak 0) (tC (.int 0)) "load")
   (gA K (ak 0) (bH (Wj) (gK (aj (tC .non) aG)) (ak 2)) "fields")))))
def uR (K:aC):TS:=
 (bM (bH (mX fun i j=>.int (i + j)) (bH (mX fun i j=>.int (i + j)) (tC (.int 1)) (JS (G.pK K) (aj (bA K (ak 0) "fields") aG))) (bA K (ak 0) "bulk")))
def oO (K:aC):TS:=
 (bM (Ys (mX fun i j=>.bl (decide (i≤j))) (mX fun i j=>.bl (decide (i < j))) (tC (.int 0)) (ak 1) (JS (G.pK K) (aj (bA K (ak 0) "fields") aG))))
def pU (K:aC):TS:=
 (aN (gA K (ak 0) (ak 1) "room")
   (aN (gA K (ak 0) (gK aG) "cells")
   (aN (gA K (ak 0) (tC (.int 0)) "used")
   (gA K (ak 0) (tC (.int 0)) "born"))))
def xu (K:aC) (aZ bN aY:Addr) (Fx qi R6 V7:Sp) (E:XK):TS:=
 (aN (bC (De aZ Fx [] E0 (aj (bH (mX fun i j=>.int (i + j)) (bA K (ak 0) "born") (tC (.int 1))) (aj (ak 1) (aj (ak 2) (aj (ak 3) aG))))) (aL 4))
   (aN (fM (cL (bH (mX fun i j=>.bl (decide (j < i))) (pG aZ "units" qi [] E0 (ak 4) aG) (pG aY "free" R6 [] E0 (ak 0) aG))) (G.Fp bN E (aj (tC (.str "the room does not suffice")) aG)) cT)
   (aN (gA K (ak 0) (bA K (ak 4) "birth") "born")
   (aN (gA K (ak 0) (bH (mX fun i j=>.int (i + j)) (bA K (ak 0) "used") (pG aZ "units" qi [] E0 (ak 4) aG)) "used")
   (bM (pG aY "lay" V7 [] E0 (ak 0) (aj (ak 4) aG)))))))
def zy (K:aC):TS:=
 (aN (fM (cL (bH (G.Zmn K true) (tC .non) (bA K (ak 0) "cells"))) (aN (yg (tBM K "list" Ae (bA K (ak 0) "cells") (aj (ak 1) aG)))
   (bM (bH (mX fun i j=>.int (i - j)) (JS (G.pK K) (aj (bA K (ak 0) "cells") aG)) (tC (.int 1))))) cT)
   (aN (bC (tBM K "list" (G.Zb4 K) (bA K (ak 0) "cells") (aj (tC .non) aG)) (aL 2))
   (aN (bC (ak 1) (MF (bA K (ak 0) "cells") (ak 2) Bk))
   (bM (ak 2)))))
def xF (K:aC) (aZ:Addr) (qi:Sp):TS:=
 (aN (bC (bH (nM K) (bA K (ak 0) "cells") (ak 1)) (aL 2))
   (aN (gA K (ak 0) (bH (mX fun i j=>.int (i - j)) (bA K (ak 0) "used") (pG aZ "units" qi [] E0 (ak 2) aG)) "used")
   (aN (bC (tC .non) (MF (bA K (ak 0) "cells") (ak 1) Bk))
   (bM (bA K (ak 2) "birth")))))
def xx (K:aC):TS:=
 (bM (bH (mX fun i j=>.int (i - j)) (bA K (ak 0) "room") (bA K (ak 0) "used")))
def uQ (K:aC):TS:=
 (bM (G.tLC (Mx (aj (JS (G.pK K) (aj (bA K (ak 0) "cells") aG)) aG)) [0] (cL (bH (G.Bl) (bH (nM K) (bA K (ak 1) "cells") (ak 0)) (tC .non))) (ak 0)))
def Cp (K:aC):TS:=
 (aN (fM ((tOr (cL (bH (G.K8) (ak 1) (tC .non))) (tOr (cL (bH (mX fun i j=>.bl (decide (i < j))) (ak 1) (tC (.int 0)))) (cL (bH (mX fun i j=>.bl (decide (j≤i))) (ak 1) (JS (G.pK K) (aj (bA K (ak 0) "cells") aG))))))) (bM (tC .non)) cT)
   (bM (bH (nM K) (bA K (ak 0) "cells") (ak 1))))
def zx (K:aC) (jo:Sp):TS:=
 (aN (bC (aV jo [] E0 (aj (ak 0) (aj (ak 1) aG))) (aL 2))
   (aN (fM (cL (bH (G.K8) (ak 2) (tC .non))) (bM (tC .non)) cT)
   (bM (bA K (ak 2) "birth"))))
def wO (K:aC) (QJ:Sp):TS:=
 (aN (bC (gK aG) (aL 2))
   (aN (Bw (G.Xh K (aj (ak 1) aG)) (Zhh K 2 (Eo (aL 3) (Eo (aL 4) Zhi)))
   (yg (tBM K "list" JV (ak 2) (aj (aV QJ [] E0 (aj (ak 0) (aj (ak 4) (aj (fG (aj (ak 3) aG)) aG)))) aG))))
   (aN (bC (RN) (aL 5))
   (aN (bC (tC (.int 0)) (aL 6))
   (aN (Zel (cL (bH (mX fun i j=>.bl (decide (i < j))) (ak 6) (JS (G.pK K) (aj (ak 2) aG)))) (aN (bC (bH (fH K) (bH (nM K) (ak 2) (ak 6)) (tC (.int 0))) (aL 7))
   (aN (bC (bH (fH K) (bH (nM K) (ak 2) (ak 6)) (tC (.int 1))) (aL 8))
   (aN (bC (bH (mX fun i j=>.int (i + j)) (ak 6) (tC (.int 1))) (aL 6))
   (fM (tB (G.Zer true (ak 7) (ak 5))) (aN (QL (ak 5) (ak 7) (ak 8))
   (yg (tBM K "list" JV (ak 2) (aj (aV QJ [] E0 (aj (ak 0) (aj (bA K (bH (nM K) (bA K (ak 0) "cells") (ak 7)) "fields") (aj (ak 8) aG)))) aG)))) cT)))))
   (bM (JS (G.Zas) (aj (G.Yr (ak 5)) aG))))))))
def Ad (K:aC) (jo:Sp):TS:=
 (bM (G.Zeq K (G.Xh K (aj (ak 1) aG)) [0,2] (cL (bH (G.Bl) (aV jo [] E0 (aj (ak 2) (aj (ak 1) aG))) (tC .non))) (fG (aj (ak 1) (aj (bH (Zls K) (ak 3) (fG (aj (ak 0) aG))) aG)))))
def pW (K:aC):TS:=
 (aN (gA K (ak 0) (ak 1) "name")
   (gA K (ak 0) (bH (Wj) (gK (aj (tC .non) aG)) (ak 2)) "slots"))
def mK (K:aC):TS:=
 (aN (gA K (ak 0) (tC (.int 0)) "sense")
   (aN (gA K (ak 0) (tC (.str "rest")) "phase")
   (aN (gA K (ak 0) (gK aG) "grey")
   (aN (gA K (ak 0) (tC (.int 0)) "looked")
   (aN (gA K (ak 0) (tC (.int 0)) "turn")
   (aN (gA K (ak 0) (tC (.int 0)) "at")
   (aN (gA K (ak 0) (tC (.int 0)) "stop")
   (aN (gA K (ak 0) (tC (.int 0)) "walks")
   (aN (gA K (ak 0) (tC (.int 0)) "looks")
   (aN (gA K (ak 0) (tC (.int 0)) "passes")
   (gA K (ak 0) (tC .non) "loss")))))))))))
def oM (K:aC) (jT aY bG:Addr) (Fw Fv An:Sp):TS:=
 (aN (gA K (ak 0) (De aY Fv [] E0 (aj (ak 1) aG)) "heap")
   (aN (gA K (ak 0) (ak 2) "kind")
   (aN (gA K (ak 0) (G.Zeq K (qG K (ak 3)) [] G.vG (De jT Fw [] E0 (aj (ak 0) (aj (ak 1) aG)))) "hands")
   (aN (gA K (ak 0) (RN) "names")
   (gA K (ak 0) (De bG An [] E0 aG) "sweeper")))))
def Ti (K:aC):TS:=
 (bM (G.tLC (qG K (bA K (ak 0) "hands")) [] G.vG (JS (G.Ng K) (aj (bA K (ak 0) "slots") aG))))
def sO (K:aC) (oH:Sp):TS:=
 (bM (G.tLC (qG K (bA K (ak 0) "hands")) [0] G.vG (aV oH [] E0 (aj (bA K (ak 1) "heap") (aj (bA K (ak 0) "slots") aG)))))
def wV (K:aC) (dO:Sp):TS:=
 (bM (G.tLC (qG K (ak 1)) [0] G.vG (aV dO [] E0 (aj (ak 1) (aj (ak 0) aG)))))
def wQ (K:aC):TS:=
 (bM (bH (Av) (bH (mX fun i j=>.int (Builtin.bitAnd i j)) (bH (rI (fun _ j=>0≤j) fun i j=>.int (i / 2 ^ j.toNat)) (bA K (bA K (ak 0) "sweeper") "looked") (ak 1)) (tC (.int 1))) (tC (.int 1))))
def wR (K:aC):TS:=
 (bM (bH (Av) (bA K (ak 1) "tone") (bA K (bA K (ak 0) "sweeper") "sense")))
def uJ (K:aC):TS:=
 (bM (bH (rIn K false) (bA K (bA K (ak 0) "sweeper") "phase") (fG (aj (tC (.str "walk")) (aj (tC (.str "lost")) aG)))))
def BW (K:aC) (dZ:Sp):TS:=
 (aN (bC (bA K (ak 0) "sweeper") (aL 2))
   (aN (bC (aV dZ [] E0 (aj (ak 0) (aj (bH (nM K) (bA K (bA K (ak 0) "heap") "cells") (ak 1)) aG))) (aL 3))
   (aN (fM (cL (bH (Av) (bA K (ak 2) "phase") (tC (.str "rest")))) (bM (tC (.str "kept"))) cT)
   (aN (fM (cL (bH (Av) (bA K (ak 2) "phase") (tC (.str "give")))) (bM (tIf (tB (ak 3)) (tC (.str "kept")) (tC (.str "doomed")))) cT)
   (aN (fM (RK (tB (ak 3))) (bM (tC (.str "pale"))) cT)
   (bM (tIf (cL (bH (rIn K false) (ak 1) (bA K (ak 2) "grey"))) (tC (.str "grey")) (tC (.str "dark")))))))))
def uF (K:aC) (aY:Addr) (uz RQ:Sp):TS:=
 (bM (G.tLC (qG K (pG aY "there" uz [] E0 (bA K (ak 0) "heap") aG)) [0] G.vG (aV RQ [] E0 (aj (ak 1) (aj (ak 0) aG)))))
def wN (K:aC) (oH Yw:Sp):TS:=
 (aN (bC (bH (nM K) (bA K (bA K (ak 0) "heap") "cells") (ak 1)) (aL 2))
   (aN (bC (aV oH [] E0 (aj (bA K (ak 0) "heap") (aj (bA K (ak 2) "fields") aG))) (aL 3))
   (bM (fG (aj (ak 1) (aj (bA K (ak 2) "birth") (aj (bA K (ak 2) "bulk") (aj (bA K (ak 2) "load") (aj (ak 3) (aj (aV Yw [] E0 (aj (ak 0) (aj (ak 1) aG))) aG))))))))))
def K7 (K:aC) (eF:Addr) (Ao:Sp):TS:=
 (aN (bC (bA K (ak 0) "sweeper") (aL 1))
   (aN (gA K (ak 1) (bH (mX fun i j=>.int (i - j)) (tC (.int 1)) (bA K (ak 1) "sense")) "sense")
   (aN (gA K (ak 1) (bH (mX fun i j=>.int (i + j)) (bA K (ak 1) "turn") (tC (.int 1))) "turn")
   (aN (gA K (ak 1) (tC (.str "walk")) "phase")
   (aN (gA K (ak 1) (gK aG) "grey")
   (aN (gA K (ak 1) (pG eF "at_begin" Ao [] E0 (bA K (bA K (ak 0) "kind") "looking") (aj (JS (G.pK K) (aj (bA K (ak 0) "hands") aG)) aG)) "looked")
   (aN (gA K (ak 1) (tC (.int 0)) "walks")
   (aN (gA K (ak 1) (tC (.int 0)) "looks")
   (gA K (ak 1) (tC (.int 0)) "passes")))))))))
def Th (K:aC) (jo dZ:Sp):TS:=
 (aN (bC (bA K (ak 0) "sweeper") (aL 2))
   (aN (bC (aV jo [] E0 (aj (bA K (ak 0) "heap") (aj (ak 1) aG))) (aL 3))
   (aN (fM ((tOr (cL (bH (rNe) (bA K (ak 2) "phase") (tC (.str "walk")))) (tOr (cL (bH (G.K8) (ak 3) (tC .non))) (tB (aV dZ [] E0 (aj (ak 0) (aj (ak 3) aG))))))) (bM (tC .non)) cT)
   (aN (gA K (ak 3) (bA K (ak 2) "sense") "tone")
   (aN (yg (tBM K "list" Ae (bA K (ak 2) "grey") (aj (ak 1) aG)))
   (bM (bA K (ak 3) "birth")))))))
def zm (K:aC) (Zik:Sp):TS:=
 (aN (bC (gK aG) (aL 2))
   (aN (Bw (qG K (ak 1)) (aL 3)
   (aN (bC (aV Zik [] E0 (aj (ak 0) (aj (ak 3) aG))) (aL 4))
   (fM (cL (bH (G.Bl) (ak 4) (tC .non))) (yg (tBM K "list" Ae (ak 2) (aj (ak 4) aG))) cT)))
   (bM (ak 2))))
def Tj (K:aC) (jo dZ:Sp):TS:=
 (aN (bC (aV jo [] E0 (aj (bA K (ak 0) "heap") (aj (ak 1) aG))) (aL 3))
   (aN (fM ((tOr (cL (bH (G.K8) (ak 3) (tC .non))) (cL (bH (rNe) (bA K (ak 3) "birth") (ak 2))))) (bM (tC (.bl true))) cT)
   (bM ((Zes (bH (Av) (bA K (bA K (ak 0) "sweeper") "phase") (tC (.str "give"))) (Zep (aV dZ [] E0 (aj (ak 0) (aj (ak 3) aG)))))))))
def K6 (K:aC) (Zil Yu:Sp) (H0:Hp):TS:=
 (bM (bH (vK) (aV Zil [] E0 (aj (ak 0) aG)) (gK (aj (G.Zen H0 (G.Zeq K (G.Zh7 (G.Zem (bA K (ak 0) "names"))) [0] G.vG (aV Yu [] E0 (aj (ak 2) (aj (ak 0) (aj (ak 1) aG)))))) aG))))
def BV (K:aC) (RV dZ NK:Sp):TS:=
 (aN (fM (tB (aV RV [] E0 (aj (ak 0) (aj (ak 1) (aj (ak 2) aG))))) (bM (tC .non)) cT)
   (aN (fM ((V2 (tB (aV NK [] E0 (aj (ak 0) aG))) (RK (tB (aV dZ [] E0 (aj (ak 0) (aj (bH (nM K) (bA K (bA K (ak 0) "heap") "cells") (ak 1)) aG))))))) (bM (tC .non)) cT)
   (bM (ak 1))))
def uI (K:aC) (jG:Sp):TS:=
 (aN (bC (gK aG) (aL 2))
   (aN (Bw (G.Xh K (aj (bA K (ak 0) "hands") aG)) (Zhh K 2 (Eo (aL 3) (Eo (aL 4) Zhi)))
   (fM (cL (bH (Av) (bH (mX fun i j=>.int (Builtin.bitAnd i j)) (bH (rI (fun _ j=>0≤j) fun i j=>.int (i / 2 ^ j.toNat)) (ak 1) (ak 3)) (tC (.int 1))) (tC (.int 1)))) (yg (tBM K "list" JV (ak 2) (aj (aV jG [] E0 (aj (ak 0) (aj (bA K (ak 4) "slots") aG))) aG))) cT))
   (bM (ak 2))))
def qR (K:aC) (Zew mR:Sp):TS:=
 (aN (yg (aV Zew [] E0 (aj (ak 0) aG)))
   (aN (bC (aV mR [] E0 (aj (ak 0) (aj (bA K (bA K (ak 0) "sweeper") "looked") aG))) (aL 1))
   (bM (fG (aj (tC (.str "begin")) (aj (bA K (bA K (ak 0) "sweeper") "turn") (aj (ak 1) aG)))))))
def qP (K:aC) (Kz Zii:Sp):TS:=
 (aN (fM (G.Zmc K (bA K (bA K (ak 0) "sweeper") "grey")) (bM (aV Zii [] E0 (aj (ak 0) aG))) cT)
   (bM (aV Kz [] E0 (aj (ak 0) aG))))
def Te (K:aC) (jG:Sp):TS:=
 (aN (bC (bA K (ak 0) "sweeper") (aL 1))
   (aN (bC (bH (nM K) (bA K (bA K (ak 0) "heap") "cells") (tBM K "list" Zf4 (bA K (ak 1) "grey") (aj (tC (.int 0)) aG))) (aL 2))
   (aN (gA K (ak 1) (bH (mX fun i j=>.int (i + j)) (bA K (ak 1) "walks") (tC (.int 1))) "walks")
   (bM (fG (aj (tC (.str "walk")) (aj (bA K (ak 2) "birth") (aj (aV jG [] E0 (aj (ak 0) (aj (bA K (ak 2) "fields") aG))) aG))))))))
def mJ (K:aC) (eF:Addr) (qg YG mR:Sp):TS:=
 (aN (bC (aV mR [] E0 (aj (ak 0) (aj (ak 3) aG))) (aL 4))
   (aN (fM ((tOr (cL (bH (Av) (ak 3) (tC (.int 0)))) (RK ((tOr (tB (pG eF "stays" qg [] E0 (ak 2) aG)) (G.Zmc K (ak 4))))))) (bM (aV YG [] E0 (aj (ak 0) aG))) cT)
   (aN (gA K (ak 1) (bH (mX fun i j=>.int (i + j)) (bA K (ak 1) "looks") (tC (.int 1))) "looks")
   (aN (fM (tB (pG eF "stays" qg [] E0 (ak 2) aG)) (gA K (ak 1) (bH (mX fun i j=>.int (Builtin.bitOr i j)) (bA K (ak 1) "looked") (ak 3)) "looked") cT)
   (bM (fG (aj (tC (.str "look")) (aj (ak 3) (aj (ak 4) aG)))))))))
def sJ (K:aC) (eF:Addr) (Dl qg YG mR:Sp):TS:=
 (aN (bC (bA K (ak 0) "sweeper") (aL 1))
   (aN (bC (bA K (bA K (ak 0) "kind") "looking") (aL 2))
   (aN (bC (pG eF "next_look" Dl [] E0 (ak 2) (aj (bA K (ak 1) "looked") (aj (JS (G.pK K) (aj (bA K (ak 0) "hands") aG)) aG))) (aL 3))
   (mJ K eF qg YG mR))))
def Zg (K:aC) (oH NP V5 ux:Sp):TS:=
 (aN (bC (bA K (ak 0) "sweeper") (aL 1))
   (aN (gA K (ak 1) (JS (G.pK K) (aj (bA K (bA K (ak 0) "heap") "cells") aG)) "stop")
   (aN (gA K (ak 1) (tC (.int 0)) "at")
   (aN (bC (aV NP [] E0 (aj (ak 0) aG)) (aL 2))
   (aN (fM (cL (bH (G.Bl) (ak 2) (tC .non))) (aN (gA K (ak 1) (tC (.str "lost")) "phase")
   (aN (gA K (ak 1) (ak 2) "loss")
   (bM (aV ux [] E0 (aj (ak 2) aG))))) cT)
   (aN (gA K (ak 1) (tC (.str "give")) "phase")
   (aN (bC (aV oH [] E0 (aj (bA K (ak 0) "heap") (aj (aV V5 [] E0 (aj (ak 0) aG)) aG))) (aL 3))
   (bM (fG (aj (tC (.str "cut")) (aj (JS (G.pK K) (aj (ak 3) aG)) (aj (ak 3) aG))))))))))))
def uK (K:aC) (dZ Yv Zev:Sp):TS:=
 (aN (Bw (qG K (aV Yv [] E0 (aj (bA K (ak 0) "heap") (aj (aV Zev [] E0 (aj (ak 0) aG)) aG)))) (Zhh K 2 (Eo (aL 1) (Eo (aL 2) Zhi)))
   (aN (bC (bH (nM K) (bA K (bA K (ak 0) "heap") "cells") (ak 1)) (aL 3))
   (fM (RK (tB (aV dZ [] E0 (aj (ak 0) (aj (ak 3) aG))))) (bM (fG (aj (tC (.str "lost")) (aj (bA K (ak 3) "birth") (aj (JS (G.Zi2 K) (aj (ak 2) aG)) aG))))) cT)))
   (bM (tC .non)))
def zp (K:aC) (aY:Addr) (uz dZ:Sp):TS:=
 (aN (bC (bA K (ak 0) "heap") (aL 1))
   (bM (G.tLC (qG K (pG aY "there" uz [] E0 (ak 1) aG)) [0,1] (RK (tB (aV dZ [] E0 (aj (ak 1) (aj (bH (nM K) (bA K (ak 2) "cells") (ak 0)) aG))))) (ak 0))))
def uG (K:aC):TS:=
 (bM (fG (aj (bH (fH K) (ak 0) (tC (.int 0))) (aj (bH (fH K) (ak 0) (tC (.int 1))) (aj (JS (G.Ng K) (aj (bH (fH K) (ak 0) (tC (.int 2))) aG)) aG)))))
def qQ (K:aC) (Zmf NB:Sp):TS:=
 (aN (fM (cL (bH (mX fun i j=>.bl (decide (i < j))) (bA K (bA K (ak 0) "sweeper") "at") (bA K (bA K (ak 0) "sweeper") "stop"))) (bM (aV NB [] E0 (aj (ak 0) aG))) cT)
   (bM (aV Zmf [] E0 (aj (ak 0) aG))))
def uH (K:aC) (aY:Addr) (R7 jo dZ:Sp):TS:=
 (aN (bC (bA K (ak 0) "sweeper") (aL 1))
   (aN (bC (bA K (ak 1) "at") (aL 2))
   (aN (gA K (ak 1) (bH (mX fun i j=>.int (i + j)) (ak 2) (tC (.int 1))) "at")
   (aN (gA K (ak 1) (bH (mX fun i j=>.int (i + j)) (bA K (ak 1) "passes") (tC (.int 1))) "passes")
   (aN (bC (aV jo [] E0 (aj (bA K (ak 0) "heap") (aj (ak 2) aG))) (aL 3))
   (aN (fM ((tOr (cL (bH (G.K8) (ak 3) (tC .non))) (tB (aV dZ [] E0 (aj (ak 0) (aj (ak 3) aG)))))) (bM (fG (aj (tC (.str "pass")) (aj (ak 2) (aj (gK aG) aG))))) cT)
   (bM (fG (aj (tC (.str "back")) (aj (pG aY "back" R7 [] E0 (bA K (ak 0) "heap") (aj (ak 2) aG)) (aj (gK (aj (ak 2) aG)) aG)))))))))))
def Zf (K:aC):TS:=
 (aN (bC (bA K (ak 0) "sweeper") (aL 1))
   (aN (gA K (ak 1) (tC (.str "rest")) "phase")
   (bM (fG (aj (tC (.str "end")) (aj (bA K (ak 1) "turn") (aj (gK (aj (bA K (ak 1) "walks") (aj (bA K (ak 1) "looks") (aj (bA K (ak 1) "passes") aG)))) aG)))))))
def oJ (K:aC) (ux:Sp):TS:=
 (bM (aV ux [] E0 (aj (bA K (bA K (ak 0) "sweeper") "loss") aG)))
def Tf (K:aC) (cJ cI cH bQ:Addr) (JC JB Jz Dj:Sp):TS:=
 (aN (bC (G.Zig [("rest",cJ),("walk",cH),("give",cI),("lost",bQ)] (bA K (bA K (ak 0) "sweeper") "phase")) (aL 1))
   (bM (G.RP 1 [(cJ,JC),(cH,Jz),(cI,JB),(bQ,Dj)] E0 (aj (ak 0) aG))))
def Gk:TS:=
 (bM (bH (mX fun i j=>.int (i - j)) (bH (rI Yg fun i j=>.int (i * 2 ^ j.toNat)) (tC (.int 1)) (ak 0)) (tC (.int 1))))
def mL:TS:=
 (bM (tC (.int 0)))
def oN (Zc4:Sp):TS:=
 (bM (aV Zc4 [] E0 (aj (ak 2) aG)))
def uP:TS:=
 (bM (tC (.bl false)))
def pR (K:aC):TS:=
 (aN (gA K (ak 0) (ak 1) "looking")
   (gA K (ak 0) (ak 2) "tells"))
def zj (K:aC):TS:=
 (bM (bA K (bH (nM K) (bA K (ak 0) "hands") (ak 1)) "slots"))
def Cm (K:aC) (aH:Addr) (jo cV:Sp) (E:XK):TS:=
 (aN (bC (aV jo [] E0 (aj (bA K (ak 0) "heap") (aj (bH (nM K) (aV cV [] E0 (aj (ak 0) (aj (ak 1) aG))) (ak 2)) aG))) (aL 3))
   (aN (fM (cL (bH (G.K8) (ak 3) (tC .non))) (G.Fp aH E (aj (tC (.str "the slot holds no cell")) aG)) cT)
   (bM (ak 3))))
def wU (K:aC) (aZ aQ:Addr) (Dm nD:Sp) (E:XK):TS:=
 (aN (bC (aV nD [] E (aj (ak 0) (aj (ak 1) (aj (ak 2) aG)))) (aL 4))
   (aN (fM (RK (tB (pG aZ "has_field" Dm [] E0 (ak 4) (aj (ak 3) aG)))) (G.Fp aQ E (aj (tC (.str "the cell does not have the field")) aG)) cT)
   (bM (bA K (ak 4) "fields"))))
def sG (K:aC):TS:=
 (aN (fM (cL (bH (Av) (bH (mX fun i j=>.int (Builtin.bitAnd i j)) (bA K (bA K (ak 0) "kind") "tells") (tC (.int 1))) (tC (.int 0)))) (bM (gK aG)) cT)
   (bM (gK (aj (ak 1) aG))))
def sH (K:aC) (RT:Sp):TS:=
 (aN (fM ((tOr (cL (bH (Av) (bH (mX fun i j=>.int (Builtin.bitAnd i j)) (bA K (bA K (ak 0) "kind") "tells") (tC (.int 2))) (tC (.int 0)))) (tB (aV RT [] E0 (aj (ak 0) (aj (ak 1) aG)))))) (bM (gK aG)) cT)
   (bM (gK (aj (ak 2) aG))))
def Cd (K:aC) (aY:Addr) (R5 dO cV:Sp) (E:XK):TS:=
 (aN (bC (aV cV [] E0 (aj (ak 0) (aj (bH (fH K) (ak 1) (tC (.int 1))) aG))) (aL 2))
   (aN (bC (bH (fH K) (ak 1) (tC (.int 3))) (aL 3))
   (aN (bC (bH (fH K) (ak 1) (tC (.int 4))) (aL 4))
   (aN (bC (pG aY "make" R5 [] E (bA K (ak 0) "heap") (aj (ak 3) (aj (ak 4) (aj (bA K (bA K (ak 0) "sweeper") "sense") aG)))) (aL 5))
   (aN (bC (ak 5) (MF (ak 2) (bH (fH K) (ak 1) (tC (.int 2))) Bk))
   (bM (fG (aj (tC (.str "made")) (aj (aV dO [] E0 (aj (bA K (ak 0) "heap") (aj (ak 5) aG))) (aj (gK aG) aG))))))))))
def Gj (K:aC) (dO wu cV:Sp) (E:XK):TS:=
 (aN (bC (bH (fH K) (ak 1) (tC (.int 1))) (aL 2))
   (aN (bC (bH (fH K) (ak 1) (tC (.int 3))) (aL 3))
   (aN (bC (bH (fH K) (ak 1) (tC (.int 4))) (aL 4))
   (aN (bC (bH (nM K) (aV wu [] E (aj (ak 0) (aj (ak 2) (aj (ak 3) (aj (ak 4) aG))))) (ak 4)) (aL 5))
   (aN (bC (ak 5) (MF (aV cV [] E0 (aj (ak 0) (aj (ak 2) aG))) (bH (fH K) (ak 1) (tC (.int 2))) Bk))
   (bM (fG (aj (tC (.str "got")) (aj (aV dO [] E0 (aj (bA K (ak 0) "heap") (aj (ak 5) aG))) (aj (gK aG) aG))))))))))
def Gi (K:aC) (dO wu jG cV rY Kw:Sp) (E:XK):TS:=
 (aN (bC (bH (fH K) (ak 1) (tC (.int 1))) (aL 2))
   (aN (bC (bH (fH K) (ak 1) (tC (.int 3))) (aL 3))
   (aN (bC (aV wu [] E (aj (ak 0) (aj (ak 2) (aj (bH (fH K) (ak 1) (tC (.int 2))) (aj (ak 3) aG))))) (aL 4))
   (aN (bC (bH (nM K) (ak 4) (ak 3)) (aL 5))
   (aN (bC (bH (nM K) (aV cV [] E0 (aj (ak 0) (aj (ak 2) aG))) (bH (fH K) (ak 1) (tC (.int 4)))) (aL 6))
   (aN (bC (ak 6) (MF (ak 4) (ak 3) Bk))
   (aN (bC (aV jG [] E0 (aj (ak 0) (aj (bH (vK) (aV Kw [] E0 (aj (ak 0) (aj (ak 5) aG))) (aV rY [] E0 (aj (ak 0) (aj (ak 2) (aj (ak 6) aG))))) aG))) (aL 7))
   (bM (fG (aj (tC (.str "put")) (aj (aV dO [] E0 (aj (bA K (ak 0) "heap") (aj (ak 5) aG))) (aj (ak 7) aG))))))))))))
def Ck (K:aC) (dO cV:Sp):TS:=
 (aN (bC (aV cV [] E0 (aj (ak 0) (aj (bH (fH K) (ak 1) (tC (.int 1))) aG))) (aL 2))
   (aN (bC (bH (nM K) (ak 2) (bH (fH K) (ak 1) (tC (.int 3)))) (aL 3))
   (aN (bC (ak 3) (MF (ak 2) (bH (fH K) (ak 1) (tC (.int 2))) Bk))
   (bM (fG (aj (tC (.str "copied")) (aj (aV dO [] E0 (aj (bA K (ak 0) "heap") (aj (ak 3) aG))) (aj (gK aG) aG))))))))
def Cj (K:aC) (dO cV:Sp):TS:=
 (aN (bC (aV cV [] E0 (aj (ak 0) (aj (bH (fH K) (ak 1) (tC (.int 1))) aG))) (aL 2))
   (aN (bC (bH (nM K) (ak 2) (bH (fH K) (ak 1) (tC (.int 2)))) (aL 3))
   (aN (bC (tC .non) (MF (ak 2) (bH (fH K) (ak 1) (tC (.int 2))) Bk))
   (bM (fG (aj (tC (.str "dropped")) (aj (aV dO [] E0 (aj (bA K (ak 0) "heap") (aj (ak 3) aG))) (aj (gK aG) aG))))))))
def Cg (K:aC) (dO jG cV rY:Sp):TS:=
 (aN (bC (bH (fH K) (ak 1) (tC (.int 1))) (aL 2))
   (aN (bC (bH (fH K) (ak 1) (tC (.int 3))) (aL 3))
   (aN (bC (bH (nM K) (aV cV [] E0 (aj (ak 0) (aj (ak 2) aG))) (bH (fH K) (ak 1) (tC (.int 2)))) (aL 4))
   (aN (bC (ak 4) (MF (aV cV [] E0 (aj (ak 0) (aj (ak 3) aG))) (bH (fH K) (ak 1) (tC (.int 4))) Bk))
   (aN (bC (aV jG [] E0 (aj (ak 0) (aj (aV rY [] E0 (aj (ak 0) (aj (ak 2) (aj (ak 4) aG)))) aG))) (aL 5))
   (bM (fG (aj (tC (.str "given")) (aj (aV dO [] E0 (aj (bA K (ak 0) "heap") (aj (ak 4) aG))) (aj (ak 5) aG))))))))))
def zq (K:aC) (nD:Sp) (E:XK):TS:=
 (aN (bC (aV nD [] E (aj (ak 0) (aj (bH (fH K) (ak 1) (tC (.int 1))) (aj (bH (fH K) (ak 1) (tC (.int 2))) aG)))) (aL 2))
   (aN (bC (bA K (ak 2) "load") (aL 3))
   (aN (gA K (ak 2) (bH (fH K) (ak 1) (tC (.int 3))) "load")
   (bM (fG (aj (tC (.str "wrote")) (aj (ak 3) (aj (gK aG) aG))))))))
def BZ (K:aC) (nD:Sp) (E:XK):TS:=
 (aN (bC (aV nD [] E (aj (ak 0) (aj (bH (fH K) (ak 1) (tC (.int 1))) (aj (bH (fH K) (ak 1) (tC (.int 2))) aG)))) (aL 2))
   (bM (fG (aj (tC (.str "read")) (aj (bA K (ak 2) "load") (aj (gK aG) aG))))))
def Ca (K:aC) (nD cV:Sp) (E:XK):TS:=
 (aN (bC (bH (fH K) (ak 1) (tC (.int 1))) (aL 2))
   (aN (bC (bH (fH K) (ak 1) (tC (.int 2))) (aL 3))
   (aN (bC (bA K (aV nD [] E (aj (ak 0) (aj (ak 2) (aj (ak 3) aG)))) "birth") (aL 4))
   (aN (QL (bA K (ak 0) "names") (bH (fH K) (ak 1) (tC (.int 3))) (fG (aj (bH (nM K) (aV cV [] E0 (aj (ak 0) (aj (ak 2) aG))) (ak 3)) (aj (ak 4) aG))))
   (bM (fG (aj (tC (.str "named")) (aj (ak 4) (aj (gK aG) aG)))))))))
def BX (K:aC) (dO jG Ky cV:Sp) (E:XK):TS:=
 (aN (bC (aV Ky [] E (aj (ak 0) (aj (bH (fH K) (ak 1) (tC (.int 3))) aG))) (aL 2))
   (aN (bC (ak 2) (MF (aV cV [] E0 (aj (ak 0) (aj (bH (fH K) (ak 1) (tC (.int 1))) aG))) (bH (fH K) (ak 1) (tC (.int 2))) Bk))
   (aN (bC (aV jG [] E0 (aj (ak 0) (aj (gK (aj (ak 2) aG)) aG))) (aL 3))
   (bM (fG (aj (tC (.str "sought")) (aj (aV dO [] E0 (aj (bA K (ak 0) "heap") (aj (ak 2) aG))) (aj (ak 3) aG))))))))
def sI (K:aC) (bh:Addr) (RV:Sp) (E:XK):TS:=
 (aN (fM (tB (RM (ak 1) (bA K (ak 0) "names"))) (G.Fp bh E (aj (tC (.str "the weak name was never given")) aG)) cT)
   (aN (bC (bH (fH K) (QH (bA K (ak 0) "names") (ak 1)) (tC (.int 0))) (aL 2))
   (aN (bC (bH (fH K) (QH (bA K (ak 0) "names") (ak 1)) (tC (.int 1))) (aL 3))
   (aN (fM (tB (aV RV [] E0 (aj (ak 0) (aj (ak 2) (aj (ak 3) aG))))) (bM (tC .non)) cT)
   (bM (ak 2))))))
def Zf2 (K:aC) (gq gn iM gm gk gj iK gh gf eG:Addr) (YF YD Zc3 YC YB Yz Zc2 Yy Yx V6:Sp) (E:XK):TS:=
 (aN (bC (G.Zig [("make",gk),("get",iM),("put",iK),("copy",gq),("drop",gn),("give",gm),("write",eG),("read",gh),("name",gj),("seek",gf)] (bH (fH K) (ak 1) (tC (.int 0)))) (aL 2))
   (bM (G.RP 2 [(gk,YB),(iM,Zc3),(iK,Zc2),(gq,YF),(gn,YD),(gm,YC),(eG,V6),(gh,Yy),(gj,Yz),(gf,Yx)] E (aj (ak 0) (aj (ak 1) aG)))))
def xr (K:aC):TS:=
 (aN (fM (cL (bH (mX fun i j=>.bl (decide (i < j))) (ak 1) (JS (G.pK K) (aj (ak 0) aG)))) (bM (bH (nM K) (ak 0) (ak 1))) cT)
   (bM (tC (.int 0))))
def xm:TS:=
 (bM (bH (rI (fun _ j=>0 < j) fun i j=>.int (i % j)) (bH (rI (fun _ j=>0 < j) fun i j=>.int (i % j)) (bH (rI Nr fun i j=>.int (i * j)) (bH (rI (fun _ j=>0 < j) fun i j=>.int (i % j)) (ak 0) (ak 1)) (tC (.int 48271))) (ak 1)) (ak 2)))
def wW:TS:=
 (aN (bC (tC (.str "abcdefghijklmnopqrstuvwxyz")) (aL 2))
   (aN (bC (bH (mX fun i j=>.int (i + j)) (tC (.int 1)) (bH (rI (fun _ j=>0 < j) fun i j=>.int (i % j)) (ak 0) (tC (.int 12)))) (aL 3))
   (aN (bC (bH (rI (fun _ j=>0 < j) fun i j=>.int (i % j)) (bH (rI Ql fun i j=>.int (i / j)) (ak 0) (tC (.int 12))) (ak 3)) (aL 4))
   (aN (bC (bH (Zf5) (ak 2) (bH (rI (fun _ j=>0 < j) fun i j=>.int (i % j)) (bH (rI Ql fun i j=>.int (i / j)) (ak 0) (tC (.int 5))) (tC (.int 26)))) (aL 5))
   (aN (bC (bH (Zf5) (ak 2) (bH (rI (fun _ j=>0 < j) fun i j=>.int (i % j)) (bH (mX fun i j=>.int (i + j)) (bH (rI Ql fun i j=>.int (i / j)) (ak 0) (tC (.int 7))) (bH (rI Nr fun i j=>.int (i * j)) (tC (.int 5)) (ak 1))) (tC (.int 26)))) (aL 6))
   (bM (bH (G.Zf6) (bH (G.Zf6) (bH (G.Zb3) (ak 5) (ak 4)) (ak 6)) (bH (G.Zb3) (ak 5) (bH (mX fun i j=>.int (i - j)) (bH (mX fun i j=>.int (i - j)) (ak 3) (tC (.int 1))) (ak 4))))))))))
def uN (K:aC) (fc bF lg:Sp):TS:=
 (aN (bC (aV fc [] E0 (aj (ak 0) (aj (tC (.int 1)) aG))) (aL 1))
   (aN (bC (gK aG) (aL 2))
   (aN (Bw (Mx (aj (bH (mX fun i j=>.int (i + j)) (tC (.int 1)) (aV bF [] E0 (aj (ak 1) (aj (tC (.int 104729)) (aj (tC (.int 5)) aG))))) aG)) (aL 3)
   (aN (bC (tC (.int 3)) (aL 4))
   (aN (fM (cL (bH (Av) (bH (rI (fun _ j=>0 < j) fun i j=>.int (i % j)) (ak 1) (tC (.int 3))) (tC (.int 1)))) (bC (bH (mX fun i j=>.int (i + j)) (tC (.int 3)) (aV bF [] E0 (aj (bH (mX fun i j=>.int (i + j)) (ak 1) (bH (rI Nr fun i j=>.int (i * j)) (bH (rI Nr fun i j=>.int (i * j)) (tC (.int 7)) (ak 3)) (ak 3))) (aj (tC (.int 224737)) (aj (tC (.int 7)) aG))))) (aL 4)) cT)
   (yg (tBM K "list" Ae (ak 2) (aj (fG (aj (aV lg [] E0 (aj (ak 1) (aj (ak 3) aG))) (aj (ak 4) aG))) aG))))))
   (bM (ak 2)))))
def wZ (fc bF:Sp):TS:=
 (aN (bC (aV fc [] E0 (aj (ak 0) (aj (tC (.int 2)) aG))) (aL 1))
   (aN (fM (cL (bH (Av) (aV bF [] E0 (aj (ak 1) (aj (tC (.int 7919)) (aj (tC (.int 4)) aG)))) (tC (.int 1)))) (bM (bH (mX fun i j=>.int (i + j)) (tC (.int 4)) (bH (rI (fun _ j=>0 < j) fun i j=>.int (i % j)) (bH (rI Ql fun i j=>.int (i / j)) (ak 1) (tC (.int 4))) (tC (.int 60))))) cT)
   (bM (bH (mX fun i j=>.int (i - j)) (bH (rI Yg fun i j=>.int (i ^ j.toNat)) (tC (.int 10)) (tC (.int 15))) (bH (rI (fun _ j=>0 < j) fun i j=>.int (i % j)) (ak 1) (bH (rI Yg fun i j=>.int (i ^ j.toNat)) (tC (.int 10)) (tC (.int 12))))))))
def w6 (K:aC) (bF:Sp):TS:=
 (aN (bC (bH (nM K) (gK (aj (tC (.int 1)) (aj (tC (.int 2)) (aj (tC (.int 2)) (aj (tC (.int 3)) (aj (tC (.int 0)) (aj (tC (.int 8)) aG))))))) (aV bF [] E0 (aj (ak 0) (aj (tC (.int 611953)) (aj (tC (.int 6)) aG))))) (aL 3))
   (aN (bC (tC (.int 0)) (aL 4))
   (aN (fM (cL (bH (Av) (bH (rI (fun _ j=>0 < j) fun i j=>.int (i % j)) (ak 0) (tC (.int 3))) (tC (.int 1)))) (bC (bH (rI (fun _ j=>0 < j) fun i j=>.int (i % j)) (ak 0) (tC (.int 7))) (aL 4)) cT)
   (aN (fM (cL (bH (Av) (bH (rI (fun _ j=>0 < j) fun i j=>.int (i % j)) (ak 0) (tC (.int 3))) (tC (.int 2)))) (bC (bH (rI (fun _ j=>0 < j) fun i j=>.int (i % j)) (ak 0) (bH (mX fun i j=>.int (i + j)) (bH (rI Yg fun i j=>.int (i ^ j.toNat)) (tC (.int 10)) (tC (.int 12))) (tC (.int 1)))) (aL 4)) cT)
   (bM (fG (aj (tC (.str "make")) (aj (ak 1) (aj (ak 2) (aj (ak 3) (aj (ak 4) aG)))))))))))
def xg:TS:=
 (aN (bC (bH (rI (fun _ j=>0 < j) fun i j=>.int (i % j)) (ak 0) (bH (rI Yg fun i j=>.int (i ^ j.toNat)) (tC (.int 10)) (tC (.int 60)))) (aL 1))
   (aN (fM (cL (bH (Av) (bH (rI (fun _ j=>0 < j) fun i j=>.int (i % j)) (bH (rI Ql fun i j=>.int (i / j)) (ak 0) (tC (.int 7))) (tC (.int 2))) (tC (.int 1)))) (bM (tUn (rU fun i=>.int (-i)) (ak 1))) cT)
   (bM (ak 1))))
def xq (K:aC) (bF R1 R0 lg:Sp):TS:=
 (aN (bC (aV bF [] E0 (aj (ak 0) (aj (tC (.int 104729)) (aj (JS (G.pK K) (aj (ak 1) aG)) aG)))) (aL 3))
   (aN (bC (aV bF [] E0 (aj (ak 0) (aj (tC (.int 224737)) (aj (bH (fH K) (bH (nM K) (ak 1) (ak 3)) (tC (.int 1))) aG)))) (aL 4))
   (aN (bC (aV bF [] E0 (aj (ak 0) (aj (tC (.int 350377)) (aj (bH (fH K) (bH (nM K) (ak 1) (ak 3)) (tC (.int 1))) aG)))) (aL 5))
   (aN (bC (aV bF [] E0 (aj (ak 0) (aj (tC (.int 479909)) (aj (bH (nM K) (gK (aj (tC (.int 3)) (aj (tC (.int 8)) aG))) (bH (rI Ql fun i j=>.int (i / j)) (bH (rI (fun _ j=>0 < j) fun i j=>.int (i % j)) (ak 0) (tC (.int 5))) (tC (.int 4)))) aG)))) (aL 6))
   (aN (bC (aV bF [] E0 (aj (ak 0) (aj (tC (.int 7919)) (aj (tC (.int 20)) aG)))) (aL 7))
   (aN (fM (cL (bH (mX fun i j=>.bl (decide (i < j))) (ak 7) (tC (.int 5)))) (bM (aV R0 [] E0 (aj (ak 0) (aj (ak 3) (aj (ak 4) aG))))) cT)
   (aN (fM (cL (bH (mX fun i j=>.bl (decide (i < j))) (ak 7) (tC (.int 8)))) (bM (fG (aj (tC (.str "get")) (aj (ak 3) (aj (ak 4) (aj (ak 5) (aj (ak 6) aG))))))) cT)
   (aN (fM (cL (bH (mX fun i j=>.bl (decide (i < j))) (ak 7) (tC (.int 11)))) (bM (fG (aj (tC (.str "put")) (aj (ak 3) (aj (ak 5) (aj (ak 6) (aj (ak 4) aG))))))) cT)
   (aN (fM (cL (bH (Av) (ak 7) (tC (.int 11)))) (bM (fG (aj (tC (.str "copy")) (aj (ak 3) (aj (ak 4) (aj (ak 5) aG)))))) cT)
   (aN (fM (cL (bH (Av) (ak 7) (tC (.int 12)))) (bM (fG (aj (tC (.str "drop")) (aj (ak 3) (aj (ak 4) aG))))) cT)
   (aN (fM (cL (bH (mX fun i j=>.bl (decide (i < j))) (ak 7) (tC (.int 15)))) (aN (bC (aV bF [] E0 (aj (ak 0) (aj (tC (.int 746773)) (aj (JS (G.pK K) (aj (ak 1) aG)) aG)))) (aL 8))
   (bM (fG (aj (tC (.str "give")) (aj (ak 3) (aj (ak 4) (aj (ak 8) (aj (aV bF [] E0 (aj (ak 0) (aj (tC (.int 882377)) (aj (bH (fH K) (bH (nM K) (ak 1) (ak 8)) (tC (.int 1))) aG)))) aG)))))))) cT)
   (aN (fM (cL (bH (Av) (ak 7) (tC (.int 15)))) (bM (fG (aj (tC (.str "write")) (aj (ak 3) (aj (ak 5) (aj (aV R1 [] E0 (aj (ak 0) aG)) aG)))))) cT)
   (aN (bC (aV lg [] E0 (aj (ak 2) (aj (aV bF [] E0 (aj (ak 0) (aj (tC (.int 1299709)) (aj (tC (.int 2)) aG)))) aG))) (aL 9))
   (aN (fM (cL (bH (mX fun i j=>.bl (decide (i < j))) (ak 7) (tC (.int 18)))) (bM (fG (aj (tC (.str "name")) (aj (ak 3) (aj (ak 5) (aj (ak 9) aG)))))) cT)
   (bM (fG (aj (tC (.str "seek")) (aj (ak 3) (aj (ak 4) (aj (ak 9) aG))))))))))))))))))))
def uO (K:aC) (R4 bF:Sp):TS:=
 (aN (bC (aV R4 [] E0 (aj (ak 0) (aj (ak 1) (aj (ak 2) aG)))) (aL 3))
   (aN (fM ((V2 (cL (bH (Av) (bH (fH K) (ak 3) (tC (.int 0))) (tC (.str "put")))) (cL (bH (Av) (bH (rI (fun _ j=>0 < j) fun i j=>.int (i % j)) (bH (rI Ql fun i j=>.int (i / j)) (ak 0) (tC (.int 5))) (tC (.int 2))) (tC (.int 0)))))) (bM (gK (aj (ak 3) (aj (fG (aj (tC (.str "drop")) (aj (bH (fH K) (ak 3) (tC (.int 1))) (aj (bH (fH K) (ak 3) (tC (.int 4))) aG)))) aG)))) cT)
   (aN (fM ((V2 (cL (bH (Av) (bH (fH K) (ak 3) (tC (.int 0))) (tC (.str "get")))) (cL (bH (Av) (bH (rI (fun _ j=>0 < j) fun i j=>.int (i % j)) (bH (rI Ql fun i j=>.int (i / j)) (ak 0) (tC (.int 5))) (tC (.int 2))) (tC (.int 0)))))) (bM (gK (aj (ak 3) (aj (fG (aj (tC (.str "put")) (aj (bH (fH K) (ak 3) (tC (.int 1))) (aj (bH (fH K) (ak 3) (tC (.int 3))) (aj (bH (fH K) (ak 3) (tC (.int 4))) (aj (aV bF [] E0 (aj (ak 0) (aj (tC (.int 1159523)) (aj (tC (.int 3)) aG)))) aG)))))) aG)))) cT)
   (bM (gK (aj (ak 3) aG))))))
def nH (K:aC) (lg:Sp):TS:=
 (aN (Bw (Mx (aj (JS (G.pK K) (aj (ak 0) aG)) aG)) (aL 4)
   (aN (fM (cL (bH (Av) (ak 5) (tC (.int 1)))) (bC (bH (vK) (ak 3) (gK (aj (fG (aj (tC (.str "get")) (aj (ak 4) (aj (tC (.int 1)) (aj (tC (.int 0)) (aj (bH (rI (fun _ j=>0 < j) fun i j=>.int (i % j)) (ak 4) (tC (.int 2))) aG)))))) (aj (fG (aj (tC (.str "put")) (aj (ak 4) (aj (tC (.int 0)) (aj (bH (rI (fun _ j=>0 < j) fun i j=>.int (i % j)) (ak 4) (tC (.int 2))) (aj (tC (.int 2)) aG)))))) aG)))) (aL 3)) cT)
   (aN (fM (cL (bH (mX fun i j=>.bl (decide (j < i))) (ak 5) (tC (.int 1)))) (bC (bH (vK) (ak 3) (gK (aj (fG (aj (tC (.str "make")) (aj (ak 4) (aj (tC (.int 0)) (aj (tC (.int 1)) (aj (tC (.int 0)) aG)))))) (aj (fG (aj (tC (.str "put")) (aj (ak 4) (aj (tC (.int 0)) (aj (tC (.int 0)) (aj (tC (.int 1)) aG)))))) (aj (fG (aj (tC (.str "drop")) (aj (ak 4) (aj (tC (.int 1)) aG)))) aG))))) (aL 3)) cT)
   (fM (cL (bH (Av) (ak 5) (tC (.int 3)))) (bC (bH (vK) (ak 3) (gK (aj (fG (aj (tC (.str "name")) (aj (ak 4) (aj (tC (.int 0)) (aj (aV lg [] E0 (aj (ak 2) (aj (bH (rI (fun _ j=>0 < j) fun i j=>.int (i % j)) (ak 4) (tC (.int 2))) aG))) aG))))) (aj (fG (aj (tC (.str "drop")) (aj (ak 4) (aj (tC (.int 0)) aG)))) aG)))) (aL 3)) cT))))
   (bM (ak 3)))
def uL (K:aC) (bF lg:Sp):TS:=
 (aN (bC (gK aG) (aL 3))
   (aN (Bw (Mx (aj (JS (G.pK K) (aj (ak 0) aG)) aG)) (aL 4)
   (aN (bC (bH (vK) (ak 3) (gK (aj (fG (aj (tC (.str "make")) (aj (ak 4) (aj (tC (.int 0)) (aj (tC (.int 2)) (aj (tC (.int 0)) aG)))))) (aj (fG (aj (tC (.str "make")) (aj (ak 4) (aj (tC (.int 1)) (aj (tC (.int 1)) (aj (tC (.int 0)) aG)))))) aG)))) (aL 3))
   (bC (bH (vK) (ak 3) (gK (aj (fG (aj (tC (.str "put")) (aj (ak 4) (aj (tC (.int 0)) (aj (bH (rI (fun _ j=>0 < j) fun i j=>.int (i % j)) (ak 4) (tC (.int 2))) (aj (tC (.int 1)) aG)))))) (aj (fG (aj (tC (.str "drop")) (aj (ak 4) (aj (tC (.int 1)) aG)))) aG)))) (aL 3))))
   (aN (bC (aV bF [] E0 (aj (ak 1) (aj (tC (.int 746773)) (aj (tC (.int 4)) aG)))) (aL 5))
   (aN (fM (cL (bH (mX fun i j=>.bl (decide (j < i))) (ak 5) (tC (.int 1)))) (bC (bH (vK) (ak 3) (G.tLC (Mx (aj (JS (G.pK K) (aj (ak 0) aG)) aG)) [] G.vG (fG (aj (tC (.str "make")) (aj (ak 0) (aj (tC (.int 1)) (aj (tC (.int 0)) (aj (tC (.int 0)) aG)))))))) (aL 3)) cT)
   (aN (bC (bH (vK) (ak 3) (bH (Wj) (gK (aj (tC .non) aG)) (bH (mX fun i j=>.int (i + j)) (tC (.int 1)) (aV bF [] E0 (aj (ak 1) (aj (tC (.int 882377)) (aj (tC (.int 4)) aG))))))) (aL 3))
   (nH K lg))))))
def oK (K:aC) (fc uy bF:Sp):TS:=
 (aN (bC (aV fc [] E0 (aj (ak 0) (aj (tC (.int 2)) aG))) (aL 3))
   (aN (bC (tC (.int 0)) (aL 4))
   (aN (Bw (qG K (tSl (Zpj K) (ak 0) (Zb0 (tC (.int 3))) (Zb0 (tC (.int 43))))) (aL 5)
   (aN (bC (bH (mX fun i j=>.int (i + j)) (ak 5) (bH (rI Nr fun i j=>.int (i * j)) (bH (rI Nr fun i j=>.int (i * j)) (ak 4) (ak 4)) (tC (.int 1000003)))) (aL 6))
   (aN (fM (cL (bH (Av) (aV bF [] E0 (aj (ak 6) (aj (tC (.int 1020379)) (aj (tC (.int 3)) aG)))) (tC (.int 0)))) (bC (bH (vK) (ak 2) (bH (Wj) (gK (aj (tC .non) aG)) (bH (mX fun i j=>.int (i + j)) (tC (.int 1)) (aV bF [] E0 (aj (ak 6) (aj (tC (.int 1159523)) (aj (tC (.int 6)) aG))))))) (aL 2)) (bC (bH (vK) (ak 2) (aV uy [] E0 (aj (ak 6) (aj (ak 1) (aj (ak 3) aG))))) (aL 2)))
   (Zmd 4 (tC (.int 1)) (ipI fun i j=>i + j)))))
   (bM (bH (vK) (ak 2) (bH (Wj) (gK (aj (tC .non) aG)) (bH (mX fun i j=>.int (i + j)) (tC (.int 12)) (aV bF [] E0 (aj (ak 3) (aj (tC (.int 1020379)) (aj (tC (.int 12)) aG)))))))))))
def wY (K:aC) (fc uy bF NQ:Sp):TS:=
 (aN (bC (gK aG) (aL 2))
   (aN (fM (cL (bH (mX fun i j=>.bl (decide (j < i))) (aV bF [] E0 (aj (aV fc [] E0 (aj (ak 0) (aj (tC (.int 0)) aG))) (aj (tC (.int 611953)) (aj (tC (.int 4)) aG)))) (tC (.int 0)))) (bC (aV NQ [] E0 (aj (ak 1) (aj (aV fc [] E0 (aj (ak 0) (aj (tC (.int 0)) aG))) (aj (aV fc [] E0 (aj (ak 0) (aj (tC (.int 2)) aG))) aG)))) (aL 2)) cT)
   (oK K fc uy bF)))
def xj (aH bN aQ bh:Addr) (Zpe:Sp):TS:=
 (aN (bC (tC .non) (aL 2))
   (aN (G.Zmb (fun cls=>cls=Value.ref aH∨cls=Value.ref aQ∨cls=Value.ref bN∨cls=Value.ref bh) (fun Ex=>(bC (G.Yt Zpe [] Ex (aj (ak 0) (aj (ak 1) aG))) (aL 2))) (bC (tC .non) (aL 2)))
   (bM (ak 2))))
def wX (K:aC):TS:=
 (aN (bC (RN) (aL 3))
   (aN (Bw (qG K (ak 0)) (aL 4)
   (QL (ak 3) (bH (fH K) (ak 4) (tC (.int 1))) (bH (fH K) (ak 4) (tC (.int 5)))))
   (aN (Bw (qG K (ak 1)) (aL 5)
   (QL (ak 3) (ak 5) (ak 2)))
   (bM (ak 3)))))
def nJ (K:aC):TS:=
 (aN (Bw (qG K (ak 4)) (aL 6)
   (Bw (qG K (ak 6)) (aL 7)
   (fM ((V2 (cL (bH (G.Bl) (ak 7) (tC .non))) (cL (bH (Av) (QH (ak 2) (ak 7)) (ak 5))))) (bM (tC (.bl false))) cT)))
   (bM (bH (rNe) (ak 3) (tC (.str "lost")))))
def uM (K:aC) (RW KC Nz:Sp):TS:=
 (aN (bC (aV Nz [] E0 (aj (ak 0) aG)) (aL 1))
   (aN (bC (aV RW [] E0 (aj (ak 1) (aj (gK aG) (aj (tC (.str "")) aG)))) (aL 2))
   (aN (bC (bA K (bA K (ak 0) "sweeper") "phase") (aL 3))
   (aN (bC (G.tLC (qG K (ak 1)) [] (cL (bH (rIn K false) (bH (fH K) (ak 0) (tC (.int 5))) (fG (aj (tC (.str "dark")) (aj (tC (.str "kept")) aG))))) (bH (fH K) (ak 0) (tC (.int 4)))) (aL 4))
   (aN (bC (tC (.str "pale")) (aL 5))
   (aN (fM (cL (bH (rNe) (ak 3) (tC (.str "walk")))) (aN (bC (bH (vK) (ak 4) (aV KC [] E0 (aj (ak 0) aG))) (aL 4))
   (bC (tC (.str "doomed")) (aL 5))) cT)
   (nJ K)))))))
def Ze (K:aC) (jR eF eE:Addr) (Ft Dk fc R3 NZ NT RZ RX Zij:Sp):TS:=
 (aN (bC (aV NZ [] E0 (aj (ak 0) aG)) (aL 1))
   (aN (bC (De jR Ft [] E0 (aj (G.Yq eF) (aj (bH (mX fun i j=>.int (i + j)) (tC (.int 2)) (bH (rI (fun _ j=>0 < j) fun i j=>.int (i % j)) (aV fc [] E0 (aj (ak 0) (aj (tC (.int 0)) aG))) (tC (.int 2)))) aG))) (aL 2))
   (aN (bC (De eE Dk [] E0 (aj (aV RZ [] E0 (aj (ak 0) aG)) (aj (ak 2) (aj (JS (G.Ng K) (aj (ak 1) aG)) aG)))) (aL 3))
   (aN (Bw (qG K (aV RX [] E0 (aj (ak 0) (aj (ak 1) aG)))) (aL 4)
   (aN (fM (cL (bH (G.K8) (ak 4) (tC .non))) (aN (bC (aV Zij [] E0 (aj (ak 3) aG)) (aL 5))
   (fM ((V2 (cL (bH (Av) (bH (fH K) (ak 5) (tC (.int 0))) (tC (.str "look")))) (cL (bH (G.Zmo K false) (bH (fH K) (ak 5) (tC (.int 2))) (gK aG))))) (bM (tC (.bl false))) cT)) (yg (aV R3 [] E0 (aj (ak 3) (aj (ak 4) aG)))))
   (fM (RK (tB (aV NT [] E0 (aj (ak 3) aG)))) (bM (tC (.bl false))) cT)))
   (bM (tC (.bl true)))))))
structure TxC (K:aC) (aZ aY:Addr):Prop where
 cN:CW K aZ
 dF:bI K aZ "birth"
 kO:bI K aZ "bulk"
 kJ:bI K aZ "tone"
 iT:bI K aZ "load"
 dX:bI K aZ "fields"
 cF:CW K aY
 lY:bI K aY "room"
 bK:bI K aY "cells"
 gZ:bI K aY "used"
 kE:bI K aY "born"
 J8:EqD K aZ
structure wj (CC:Addr) (H:Hp) (p fa:Addr) (birth bulk tone load:Int) (fl:List V):Prop where
 o:∃ dx,H p=some (.ins CC dx (lW birth bulk tone load fa))
 f:H fa=some (.lst fl)
theorem wj.same {CC:Addr}{H H':Hp}{p fa:Addr}{birth bulk tone load:Int}{fl:List V} (h:wj CC H p fa birth bulk tone load fl) (s:aX H H'):wj CC H' p fa birth bulk tone load fl:=by
 obtain ⟨⟨dx,h1⟩,h2⟩:=h;exact ⟨⟨dx,s _ _ h1⟩,s _ _ h2⟩
structure HpO (CH:Addr) (H:Hp) (hp ca:Addr) (room used born:Int) (cs:List V):Prop where
 o:∃ dx,H hp=some (.ins CH dx (jB room ca used born))
 c:H ca=some (.lst cs)
theorem Nf {a b c d e f g:Int}{x y:Addr}:lW a b c d x≠jB e y f g:=fun z=>by
 have:=congrArg List.length z;cases this
def uw (CC:Addr):Sp:=fun vs H Q E=>∃ p birth many bulk tone,vs=[.ref p,.int birth,.int many,.int bulk,.int tone]∧∃ dx,H p=some (.ins CC dx [])∧0≤many∧many≤1000∧
 ∀ fa H',H fa=none→H' p=some (.ins CC dx (lW birth bulk tone 0 fa))→H' fa=some (.lst (List.replicate many.toNat V.non))→(∀ b o,H b=some o→b≠p→H' b=some o)→Q .non H'
def lG (CC:Addr):Sp:=fun vs H Q E=>∃ p,vs=[.ref p]∧∃ fa birth bulk tone load fl,wj CC H p fa birth bulk tone load fl∧Q (.int (1 + fl.length + bulk)) H
def uq (CH:Addr):Sp:=fun vs H Q E=>∃ p room,vs=[.ref p,.int room]∧∃ dx,H p=some (.ins CH dx [])∧
 ∀ ca H',H ca=none→H' p=some (.ins CH dx (jB room ca 0 0))→H' ca=some (.lst [])→(∀ b o,H b=some o→b≠p→H' b=some o)→Q .non H'
def ur (CH:Addr):Sp:=fun vs H Q E=>∃ hp,vs=[.ref hp]∧∃ ca room used born cs,HpO CH H hp ca room used born cs∧Q (.int (room - used)) H
def Wl (cs:List V):List Int:=((List.range cs.length).filter fun i=>!decide (cs[i]? =some V.non)).map fun (i:Nat)=>(i:Int)
def lF (CH:Addr):Sp:=fun vs H Q E=>∃ hp,vs=[.ref hp]∧∃ ca room used born cs,HpO CH H hp ca room used born cs∧cs.length≤1000∧∀ l,H l=none→Q (.ref l) (upd H l (.lst ((Wl cs).map V.int)))
def putN (cs:List V) (v:V):List V:=if V.non∈cs then cs.set (cs.idxOf V.non) v else cs ++ [v]
def yd (K:aC) (CH:Addr):Sp:=fun vs H Q E=>∃ hp v,vs=[.ref hp,v]∧∃ ca room used born cs,HpO CH H hp ca room used born cs∧OkN K H cs∧cs.length≤1000∧Q (.int (cs.idxOf V.non)) (upd H ca (.lst (putN cs v)))
def qI (CC CH:Addr):Sp:=fun vs H Q E=>∃ hp i,vs=[.ref hp,.int i]∧∃ ca dx room used born cs p fa birth bulk tone load fl,0≤i∧H hp=some (.ins CH dx (jB room ca used born))∧H ca=some (.lst cs)∧cs[i.toNat]? =some (.ref p)∧wj CC H p fa birth bulk tone load fl∧
 Q (.int birth) (upd (upd H hp (.ins CH dx (jB room ca (used - (1 + fl.length + bulk)) born))) ca (.lst (cs.set i.toNat V.non)))
def uo (K:aC) (CC CH CF:Addr):Sp:=fun vs H Q E=>∃ hp many bulk tone,vs=[.ref hp,.int many,.int bulk,.int tone]∧∃ ca dx room used born cs,H hp=some (.ins CH dx (jB room ca used born))∧H ca=some (.lst cs)∧OkN K H cs∧cs.length≤1000∧0≤many∧many≤1000∧
 (room - used < 1 + many + bulk→∀ H',aX H H'→E (.ref CF) none H')∧
 (1 + many + bulk≤room - used→∀ p fa H',H p=none→H fa=none→Fm [hp,ca] H H'→H' hp=some (.ins CH dx (jB room ca (used + (1 + many + bulk)) (born + 1)))→H' ca=some (.lst (putN cs (.ref p)))→
  wj CC H' p fa (born + 1) bulk tone 0 (List.replicate many.toNat V.non)→Q (.int (cs.idxOf V.non)) H')
section
variable {K:aC}{aZ aY bN:Addr}{H:Hp}{Q:VK}{E:XK}{n:St→Hp→Prop}{bk ct:St→Hp→Prop}
theorem Qj {p:Addr} (T:TxC K aZ aY) (q:∃ fa birth bulk tone load fl,wj aZ H p fa birth bulk tone load fl∧Q (.int (1 + fl.length + bulk)) H):uR K ⟨n,Q,bk,ct⟩ [some (.ref p)] H:=by
 obtain ⟨fa,birth,bulk,tone,load,fl,⟨⟨dx,h1⟩,h2⟩,h⟩:=q;unfold uR;walk_at "ev";refine aK h1 T.cN T.dX jF ?_;walk_at "ev";refine mO (dz.of h2) ?_;walk_at "ev";refine aK h1 T.cN T.kO Bv ?_;walk_at "ev";exact h
theorem Il {p:Addr}{birth many bulk tone:Int} (T:TxC K aZ aY) (q:∃ dx,H p=some (.ins aZ dx [])∧0≤many∧many≤1000∧
 ∀ fa H',H fa=none→H' p=some (.ins aZ dx (lW birth bulk tone 0 fa))→H' fa=some (.lst (List.replicate many.toNat V.non))→(∀ b o,H b=some o→b≠p→H' b=some o)→Q .non H'):
  pX K ⟨fun _ H'=>Q .non H',Q,bk,ct⟩ [some (.ref p),some (.int birth),some (.int many),some (.int bulk),some (.int tone)] H:=by
 obtain ⟨dx,hp,h0,h1,h⟩:=q;unfold pX;walk_at "ev";refine ⟨p,aZ,dx,[],rfl,hp,T.cN,T.dF,by decide,?_⟩;walk_at "ev";refine ⟨p,aZ,dx,_,rfl,aq,T.cN,T.kO,by show 1 < 1000;decide,?_⟩;rw [dY];walk_at "ev";refine ⟨p,aZ,dx,_,rfl,aq,T.cN,T.kJ,by show 2 < 1000;decide,?_⟩;rw [dY];walk_at "ev";refine ⟨p,aZ,dx,_,rfl,aq,T.cN,T.iT,by show 3 < 1000;decide,?_⟩;rw [dY];walk_at "ev";refine ⟨by decide,fun l0 hl0=>?_⟩;walk_at "ev";refine ⟨l0,many,_,rfl,rfl,aq,by omega,by omega,?_,fun fa hfa=>?_⟩
 ·show 1 * many.toNat≤sizeLine;exact aW (by omega)
 have npl:p≠l0:=aD aq hl0;have npf:p≠fa:=aD ((aB npl).trans aq) hfa;walk_at "ev";refine ⟨p,aZ,dx,_,rfl,(aB npf).trans ((aB npl).trans aq),T.cN,T.dX,by show 4 < 1000;decide,?_⟩;have nfa:H fa=none:=by
  have e:=hfa;have n1:fa≠l0:=fun z=>by rw [z,aq] at e;cases e
  rw [aB n1,aB npf.symm] at e;exact e
 refine h fa _ nfa (aq.trans (congrArg (fun l=>some (HO.ins aZ dx l)) Zi1)) ?_ fun b o hb hne=>?_
 ·rw [aB npf.symm,aq];have e:(List.replicate many.toNat [V.non]).flatten=List.replicate many.toNat V.non:=by
   generalize many.toNat=k
   induction k with
   | zero=>rfl
   | succ k ih=>rw [List.replicate_succ,List.replicate_succ,List.flatten_cons,ih];rfl
  rw [e]
 ·have e1:upd H p (HO.ins aZ dx (cg "load" (V.int 0) (cg "tone" (V.int tone) (cg "bulk" (V.int bulk) (cg "birth" (V.int birth) []))))) b=some o:=(aB hne).trans hb;have n1:b≠l0:=aD e1 hl0;have n2:b≠fa:=aD ((aB n1).trans e1) hfa;rw [aB hne,aB n2,aB n1];exact e1
theorem HX {p:Addr}{room:Int} (T:TxC K aZ aY) (q:∃ dx,H p=some (.ins aY dx [])∧
 ∀ ca H',H ca=none→H' p=some (.ins aY dx (jB room ca 0 0))→H' ca=some (.lst [])→(∀ b o,H b=some o→b≠p→H' b=some o)→Q .non H'):
  pU K ⟨fun _ H'=>Q .non H',Q,bk,ct⟩ [some (.ref p),some (.int room)] H:=by
 obtain ⟨dx,hp,h⟩:=q;unfold pU;walk_at "ev";refine ⟨p,aY,dx,[],rfl,hp,T.cF,T.lY,by decide,?_⟩;walk_at "ev";refine ⟨by decide,fun ca hca=>?_⟩;walk_at "ev";have npc:p≠ca:=aD aq hca;refine ⟨p,aY,dx,_,rfl,(aB npc).trans aq,T.cF,T.bK,by show 1 < 1000;decide,?_⟩;walk_at "ev";refine ⟨p,aY,dx,_,rfl,aq,T.cF,T.gZ,by show 2 < 1000;decide,?_⟩;rw [dY];walk_at "ev";refine ⟨p,aY,dx,_,rfl,aq,T.cF,T.kE,by show 3 < 1000;decide,?_⟩;rw [dY];have nca:H ca=none:=by
  have e:=hca;rw [aB npc.symm] at e;exact e
 refine h ca _ nca (aq.trans (congrArg (fun l=>some (HO.ins aY dx l)) Zhb)) ?_ fun b o hb hne=>?_
 ·rw [aB npc.symm,aq]
 ·rw [aB hne,aB (aD ((aB hne).trans hb) hca),aB hne];exact hb
theorem Vz {hp:Addr} (T:TxC K aZ aY) (q:∃ ca room used born cs,HpO aY H hp ca room used born cs∧Q (.int (room - used)) H):xx K ⟨n,Q,bk,ct⟩ [some (.ref hp)] H:=by
 obtain ⟨ca,room,used,born,cs,⟨⟨dx,h1⟩,h2⟩,h⟩:=q;unfold xx;walk_at "ev";refine aK h1 T.cF T.lY Pj ?_;walk_at "ev";refine aK h1 T.cF T.gZ uZ ?_;walk_at "ev";exact h
theorem Qe {hp:Addr} (T:TxC K aZ aY) (q:∃ ca room used born cs,HpO aY H hp ca room used born cs∧cs.length≤1000∧∀ l,H l=none→Q (.ref l) (upd H l (.lst ((Wl cs).map V.int)))):uQ K ⟨n,Q,bk,ct⟩ [some (.ref hp)] H:=by
 obtain ⟨ca,room,used,born,cs,⟨⟨dx,h1⟩,h2⟩,hl,h⟩:=q;unfold uQ;walk_at "ev";refine Jm ?_;walk_at "ev";refine aK h1 T.cF T.bK bO ?_;walk_at "ev";refine mO (dz.of h2) ?_;walk_at "ev";refine ⟨_,rfl,by omega,by omega,?_⟩;refine Zgr (n:=cs.length) (by omega) (p:=fun i=>!decide (cs[i]? =some V.non)) (f:=fun i=>.int i) (by omega) ?_ ?_ ?_
 ·intro i hi k hk;walk_at "caps";walk_at "ev";refine aK h1 T.cF T.bK bO ?_;walk_at "ev";refine j6 (dz.of h2) (jL (bW hi)) ?_;walk_at "ev";refine Z5 ?_;rw [bW hi] at hk;walk_at "ev";simpa using hk
 ·intro i hi _ k hk;walk_at "caps";walk_at "ev";exact hk
 ·have e:((Wl cs).map V.int)=((List.range cs.length).filter fun i=>!decide (cs[i]? =some V.non)).map fun (i:Nat)=>V.int i:=by
   unfold Wl;rw [List.map_map];rfl
  rw [← e];exact h
theorem XX {hp:Addr}{v:V} (T:TxC K aZ aY) (q:∃ ca room used born cs,HpO aY H hp ca room used born cs∧OkN K H cs∧cs.length≤1000∧Q (.int (cs.idxOf V.non)) (upd H ca (.lst (putN cs v)))):zy K ⟨n,Q,bk,ct⟩ [some (.ref hp),some v,none] H:=by
 obtain ⟨ca,room,used,born,cs,⟨⟨dx,h1⟩,h2⟩,ho,hl,h⟩:=q;unfold zy;walk_at "ev";refine aK h1 T.cF T.bK bO ?_;walk_at "ev";refine Zh2 (dz.of h2) ho ?_;walk_at "ev";refine Xf (fun hn=>?_) (fun hn=>?_)
 ·walk_at "ev";refine aK h1 T.cF T.bK bO ?_;refine ⟨.inl ⟨rfl,_,dz.of h2⟩,?_⟩;walk_at "ev";refine ⟨ca,cs,v,rfl,rfl,h2,Nat.lt_of_le_of_lt hl (by decide),?_⟩;walk_at "ev";have hne:hp≠ca:=pI h1 h2 (fun z=>by cases z);refine aK ((aB hne).trans h1) T.cF T.bK bO ?_;walk_at "ev";refine mO (dz.of aq) ?_;walk_at "ev";have e1:(((cs ++ [v]).length:Int) - 1)=(cs.idxOf V.non:Nat):=by
   rw [List.length_append,List.idxOf_eq_length hn];simp
  have e2:putN cs v=cs ++ [v]:=by unfold putN;rw [if_neg hn]
  rw [e1,← e2];exact h
 ·walk_at "ev";refine aK h1 T.cF T.bK bO ?_;refine ⟨.inl ⟨rfl,_,dz.of h2⟩,?_⟩;walk_at "ev";refine ⟨ca,cs,rfl,rfl,dz.of h2,ho,hn,?_⟩;walk_at "ev";refine aK h1 T.cF T.bK bO ?_;walk_at "ev";have hi:cs.idxOf V.non < cs.length:=List.idxOf_lt_length_iff.mpr hn;refine ⟨ca,cs,_,_,rfl,rfl,h2,rM hi,?_⟩;have e2:putN cs v=cs.set (cs.idxOf V.non) v:=by unfold putN;rw [if_pos hn]
  rw [← e2];walk_at "ev";exact h
theorem VB {hp:Addr}{i:Int} (T:TxC K aZ aY) (q:∃ ca dx room used born cs p fa birth bulk tone load fl,0≤i∧H hp=some (.ins aY dx (jB room ca used born))∧H ca=some (.lst cs)∧cs[i.toNat]? =some (.ref p)∧wj aZ H p fa birth bulk tone load fl∧
 Q (.int birth) (upd (upd H hp (.ins aY dx (jB room ca (used - (1 + fl.length + bulk)) born))) ca (.lst (cs.set i.toNat V.non)))):xF K aZ (lG aZ) ⟨n,Q,bk,ct⟩ [some (.ref hp),some (.int i),none] H:=by
 obtain ⟨ca,dx,room,used,born,cs,p,fa,birth,bulk,tone,load,fl,h0,h1,h2,hi,co,h⟩:=q;obtain ⟨⟨dp,c1⟩,c2⟩:=id co;unfold xF;walk_at "ev";refine aK h1 T.cF T.bK bO ?_;walk_at "ev";refine j6 (dz.of h2) (o9 h0 hi) ?_;walk_at "ev";refine aK h1 T.cF T.gZ uZ ?_;walk_at "ev";refine ⟨p,dp,_,rfl,c1,sV,?_⟩;walk_at "ev";refine ⟨p,rfl,fa,birth,bulk,tone,load,fl,co,?_⟩;walk_at "ev";refine ⟨hp,aY,dx,_,rfl,h1,T.cF,T.gZ,by show 4 < 1000;decide,?_⟩;rw [zY];have hne:hp≠ca:=pI h1 h2 (fun z=>by cases z);walk_at "ev";refine aK aq T.cF T.bK bO ?_;walk_at "ev";have hlt:i.toNat < cs.length:=(dN hi).1;refine ⟨ca,cs,_,_,rfl,rfl,(aB hne.symm).trans h2,Zkd h0 hlt,?_⟩;walk_at "ev";refine aK (C:=aZ) (a:=p) (dx:=dp) (fs:=lW birth bulk tone load fa) ?_ T.cN T.dF fZ ?_
 ·have n1:p≠ca:=pI c1 h2 (fun z=>by cases z);have n2:p≠hp:=pI c1 h1 (fun z=>by injection z with _ _ z;exact Nf z);rw [aB n1,aB n2];exact c1
 exact h
theorem Vy {hp:Addr}{many bulk tone:Int} (T:TxC K aZ aY) (q:∃ ca dx room used born cs,H hp=some (.ins aY dx (jB room ca used born))∧H ca=some (.lst cs)∧OkN K H cs∧cs.length≤1000∧0≤many∧many≤1000∧
 (room - used < 1 + many + bulk→∀ H',aX H H'→E (.ref bN) none H')∧
 (1 + many + bulk≤room - used→∀ p fa H',H p=none→H fa=none→Fm [hp,ca] H H'→H' hp=some (.ins aY dx (jB room ca (used + (1 + many + bulk)) (born + 1)))→H' ca=some (.lst (putN cs (.ref p)))→
  wj aZ H' p fa (born + 1) bulk tone 0 (List.replicate many.toNat V.non)→Q (.int (cs.idxOf V.non)) H')):
  xu K aZ bN aY (uw aZ) (lG aZ) (ur aY) (yd K aY) E ⟨n,Q,bk,ct⟩ [some (.ref hp),some (.int many),some (.int bulk),some (.int tone),none] H:=by
 obtain ⟨ca,dx,room,used,born,cs,h1,h2,ho,hl,m0,m1,hE,hQ⟩:=q;have hne:hp≠ca:=pI h1 h2 (fun z=>by cases z);unfold xu;walk_at "ev";refine aK h1 T.cF T.kE Pk ?_;walk_at "ev";intro p dp np ndp ned;refine ⟨p,_,many,_,_,rfl,dp,aq,m0,m1,fun fa H1 nfa c1 c2 f3=>⟨rfl,?_⟩⟩;have Znb:H fa=none:=by
  have e:=nfa
  by_cases z1:fa=p
  ·rw [z1,aq] at e;cases e
  ·rw [aB z1] at e
   by_cases z2:fa=dp
   ·rw [z2,aq] at e;cases e
   ·rw [aB z2] at e;exact e
 have sm:aX H H1:=fun b o hb=>by
  refine f3 b o ?_ (aD hb np);rw [aB (aD hb np),aB (aD hb ndp)];exact hb
 have co:wj aZ H1 p fa (born + 1) bulk tone 0 (List.replicate many.toNat V.non):=⟨⟨dp,c1⟩,c2⟩;have el:((List.replicate many.toNat V.non).length:Int)=many:=by rw [List.length_replicate];omega
 walk_at "ev";refine ⟨p,dp,_,rfl,c1,sV,?_⟩;walk_at "ev";refine ⟨p,rfl,fa,_,_,_,_,_,co,?_⟩;walk_at "ev";refine ⟨hp,dx,_,rfl,sm _ _ h1,Pg,?_⟩;walk_at "ev";refine ⟨hp,rfl,ca,room,used,born,cs,⟨⟨dx,sm _ _ h1⟩,sm _ _ h2⟩,?_⟩;walk_at "ev";rw [el];refine vB (fun hf=>?_) (fun hf=>?_)
 ·walk_at "ev";exact ⟨by decide,hE hf H1 sm⟩
 ·walk_at "ev";refine aK c1 T.cN T.dF fZ ?_;walk_at "ev";refine ⟨hp,aY,dx,_,rfl,sm _ _ h1,T.cF,T.kE,by show 4 < 1000;decide,?_⟩;rw [My];walk_at "ev";refine aK aq T.cF T.gZ uZ ?_;walk_at "ev";have n1:p≠hp:=(aD h1 np).symm;have n2:fa≠hp:=(aD h1 Znb).symm;have n3:p≠ca:=(aD h2 np).symm;have n4:fa≠ca:=(aD h2 Znb).symm;refine ⟨p,dp,_,rfl,(aB n1).trans c1,sV,?_⟩;walk_at "ev";refine ⟨p,rfl,fa,_,_,_,_,_,⟨⟨dp,(aB n1).trans c1⟩,(aB n2).trans c2⟩,?_⟩;walk_at "ev";rw [el];refine ⟨hp,aY,dx,_,rfl,aq,T.cF,T.gZ,by show 4 < 1000;decide,?_⟩;rw [zY,dY];walk_at "ev";refine ⟨hp,dx,_,rfl,aq,Ux,?_⟩;walk_at "ev";refine ⟨hp,.ref p,rfl,ca,room,_,_,cs,⟨⟨dx,aq⟩,(aB hne.symm).trans (sm _ _ h2)⟩,?_,hl,?_⟩
  ·intro y hy;rcases ho y hy with e | ⟨a,C,d,fs,e,ha,hc,he⟩
   ·exact .inl e
   ·refine .inr ?_
    by_cases z:a=hp
    ·rw [z] at ha e;rw [h1] at ha;cases ha;exact ⟨hp,_,_,_,e,aq,hc,he⟩
    ·exact ⟨a,C,d,fs,e,(aB z).trans (sm _ _ ha),hc,he⟩
  ·refine hQ (by omega) p fa _ np Znb ?_ ((aB hne).trans aq) aq ⟨⟨dp,?_⟩,?_⟩
   ·intro b o hb hn;have b1:b≠hp:=fun z=>hn (by rw [z];exact List.mem_cons_self);have b2:b≠ca:=fun z=>hn (by rw [z];exact List.mem_cons_of_mem _ List.mem_cons_self);rw [aB b2,aB b1];exact sm _ _ hb
   ·rw [aB n3,aB n1];exact c1
   ·rw [aB n4,aB n2];exact c2
end
structure Ce where
 birth:Int
 bulk:Int
 tone:Int
 load:Int
 fl:List (Option Int)
 deriving DecidableEq
structure Sw where
 sense:Int
 phase:Str
 grey:List Int
 looked:Int
 turn:Int
 at':Int
 stop:Int
 walks:Int
 looks:Int
 passes:Int
 loss:V
structure Wm where
 room:Int
 used:Int
 born:Int
 cells:List (Option Ce)
 hands:List (Str×List (Option Int))
 names:List (Str×(Int×Int))
 w:Int
 tells:Int
 sw:Sw
structure Wa where
 wo:Addr
 hp:Addr
 ca:Addr
 ki:Addr
 lk:Addr
 hl:Addr
 nm:Addr
 sw:Addr
 gr:Addr
 hs:List (Addr×Addr)
 cs:List (Option (Addr×Addr))
 ns:List Addr
def oV:Option Int→V
 | none=>.non
 | some i=>.int i
def pV:Option (Addr×Addr)→V
 | none=>.non
 | some p=>.ref p.1
structure vA (s:Nat) (t0:Nat→Prop) (H H':Hp) (T T':Tg):Prop where
 kp:∀ b o,H b=some o→(T b).1=s→¬ t0 (T b).2→H' b=some o
 tg:∀ b o,H b=some o→T' b=T b
section
variable {CHd CC:Addr}{H H':Hp}{T T':Tg}{s j i:Nat}{t0:Nat→Prop}
theorem vA.at {a:Addr}{o:HO}{m:Nat} (f:vA s t0 H H' T T') (ht:T a=(s,m)) (n:¬ t0 m) (h:H a=some o):H' a=some o:=f.kp a o h (by rw [ht]) (by rw [ht];exact n)
theorem vA.tag {a:Addr}{o:HO}{x:Nat×Nat} (f:vA s t0 H H' T T') (h:H a=some o) (ht:T a=x):T' a=x:=(f.tg a o h).trans ht
theorem vA.zP {a:Addr}{o:HO}{m:Nat} (ht:T a=(s,m)):vA s (·=m) H (upd H a o) T T:=⟨fun b u h e n=>by
  have:b≠a:=fun z=>n (by rw [z,ht]);rw [aB this];exact h,fun _ _ _=>rfl⟩
theorem vA.of_same (e:aX H H'):vA s (fun _=>False) H H' T T:=⟨fun b o h _ _=>e b o h,fun _ _ _=>rfl⟩
theorem vA.Zfu {s':Nat} (e:iG s' H H' T T') (n:s≠s'):vA s (fun _=>False) H H' T T':=⟨fun b o h z _=>e.kp b o h (by rw [z];exact n),e.tg⟩
structure HdO (CHd:Addr) (H:Hp) (T:Tg) (s j:Nat) (p:Addr×Addr) (m:Str×List (Option Int)):Prop where
 t1:T p.1=(s,20 + 2 * j)
 t2:T p.2=(s,21 + 2 * j)
 o1:∃ dx,H p.1=some (.ins CHd dx (Xi m.1 p.2))
 o2:H p.2=some (.lst (m.2.map oV))
theorem HdO.mv {p:Addr×Addr}{m:Str×List (Option Int)} (h:HdO CHd H T s j p m) (f:vA s t0 H H' T T') (n1:¬ t0 (20 + 2 * j)) (n2:¬ t0 (21 + 2 * j)):HdO CHd H' T' s j p m:=by
 obtain ⟨a1,a2,⟨dx,b1⟩,b2⟩:=h;exact ⟨f.tag b1 a1,f.tag b2 a2,⟨dx,f.at a1 n1 b1⟩,f.at a2 n2 b2⟩
structure Qk (CC:Addr) (H:Hp) (T:Tg) (s i:Nat) (p:Addr×Addr) (c:Ce):Prop where
 t1:T p.1=(s,100 + 2 * i)
 t2:T p.2=(s,101 + 2 * i)
 o1:∃ dx,H p.1=some (.ins CC dx (lW c.birth c.bulk c.tone c.load p.2))
 o2:H p.2=some (.lst (c.fl.map oV))
theorem Qk.mv {p:Addr×Addr}{c:Ce} (h:Qk CC H T s i p c) (f:vA s t0 H H' T T') (n1:¬ t0 (100 + 2 * i)) (n2:¬ t0 (101 + 2 * i)):Qk CC H' T' s i p c:=by
 obtain ⟨a1,a2,⟨dx,b1⟩,b2⟩:=h;exact ⟨f.tag b1 a1,f.tag b2 a2,⟨dx,f.at a1 n1 b1⟩,f.at a2 n2 b2⟩
def CeP (CC:Addr) (H:Hp) (T:Tg) (s i:Nat):Option (Addr×Addr)→Option Ce→Prop
 | none,none=>True
 | some p,some c=>Qk CC H T s i p c
 | _,_=>False
theorem CeP.mv {p:Option (Addr×Addr)}{c:Option Ce} (h:CeP CC H T s i p c) (f:vA s t0 H H' T T') (n1:¬ t0 (100 + 2 * i)) (n2:¬ t0 (101 + 2 * i)):CeP CC H' T' s i p c:=by
 cases p with
 | none=>cases c with
  | none=>trivial
  | some c=>exact h.elim
 | some p=>cases c with
  | none=>exact h.elim
  | some c=>exact Qk.mv h f n1 n2
end
def NmO (H:Hp) (T:Tg) (t:Addr) (m:Str×(Int×Int)):Prop:=T t=(0,0)∧H t=some (.tup [.int m.2.1,.int m.2.2])
structure Cs where
 W:Addr
 H:Addr
 C:Addr
 K:Addr
 D:Addr
 S:Addr
 F:Addr
 E:Addr
 L:Addr
structure WB (X:Cs) (H:Hp) (T:Tg) (s:Nat) (A:Wa) (w tells:Int):Prop where
 tw:T A.wo=(s,0)
 tk:T A.ki=(0,0)
 tl:T A.lk=(0,0)
 tn:T A.hl=(s,5)
 ow:∃ dx,H A.wo=some (.ins X.W dx (yC A.hp A.ki A.hl A.nm A.sw))
 ok:∃ dx,H A.ki=some (.ins X.K dx (Mq A.lk tells))
 ol:∃ dx,w=2∧H A.lk=some (.ins X.L dx [])
 on:H A.hl=some (.lst (A.hs.map fun p=>V.ref p.1))
structure WH (X:Cs) (H:Hp) (T:Tg) (s:Nat) (A:Wa) (room used born:Int):Prop where
 th:T A.hp=(s,1)
 tc:T A.ca=(s,2)
 oh:∃ dx,H A.hp=some (.ins X.H dx (jB room A.ca used born))
 oc:H A.ca=some (.lst (A.cs.map pV))
def yr (M:List (Str×(Int×Int))) (ns:List Addr):List ((Int ⊕ Str)×V):=List.zipWith (fun (m:Str×(Int×Int)) (t:Addr)=>(Sum.inr m.1,V.ref t)) M ns
structure WN (H:Hp) (T:Tg) (s:Nat) (A:Wa) (names:List (Str×(Int×Int))):Prop where
 tm:T A.nm=(s,6)
 om:H A.nm=some (.dK (yr names A.ns))
 nms:Al (NmO H T) A.ns names
structure WS (X:Cs) (H:Hp) (T:Tg) (s:Nat) (A:Wa) (S:Sw):Prop where
 ts:T A.sw=(s,7)
 tg:T A.gr=(s,8)
 os:∃ dx,H A.sw=some (.ins X.S dx (cz S.sense S.phase A.gr S.looked S.turn S.at' S.stop S.walks S.looks S.passes S.loss))
 og:H A.gr=some (.lst (S.grey.map V.int))
structure WD (X:Cs) (H:Hp) (T:Tg) (s:Nat) (hs:List (Addr×Addr)) (hands:List (Str×List (Option Int))):Prop where
 lh:hs.length=hands.length
 l5:hs.length≤30
 hd:∀ (j:Nat) p m,hs[j]? =some p→hands[j]? =some m→HdO X.D H T s j p m
structure WC (X:Cs) (H:Hp) (T:Tg) (s:Nat) (cs:List (Option (Addr×Addr))) (cells:List (Option Ce)):Prop where
 lc:cs.length=cells.length
 ce:∀ (i:Nat) p c,cs[i]? =some p→cells[i]? =some c→CeP X.C H T s i p c
structure WJ (X:Cs) (H:Hp) (T:Tg) (s:Nat) (A:Wa) (M:Wm):Prop where
 jb:WB X H T s A M.w M.tells
 jh:WH X H T s A M.room M.used M.born
 jn:WN H T s A M.names
 js:WS X H T s A M.sw
 jd:WD X H T s A.hs M.hands
 jc:WC X H T s A.cs M.cells
section
variable {X:Cs}{H H':Hp}{T T':Tg}{s:Nat}{t0:Nat→Prop}{A:Wa}{M:Wm}
theorem WB.mv {w tells:Int} (j:WB X H T s A w tells) (f:vA s t0 H H' T T') (f0:∀ b o,H b=some o→T b=(0,0)→H' b=some o) (n0:¬ t0 0) (n5:¬ t0 5):WB X H' T' s A w tells:=by
 obtain ⟨tw,tk,tl,tn,⟨d1,ow⟩,⟨d3,ok⟩,⟨d4,ol⟩,on⟩:=j;have hlk:∃ o,H A.lk=some o:=by
  exact ⟨_,ol.2⟩
 obtain ⟨olk,elk⟩:=hlk;refine ⟨f.tag ow tw,f.tag ok tk,f.tag elk tl,f.tag on tn,⟨d1,f.at tw n0 ow⟩,⟨d3,f0 _ _ ok tk⟩,⟨d4,?_⟩,f.at tn n5 on⟩;exact ⟨ol.1,f0 _ _ ol.2 tl⟩
theorem WH.mv {room used born:Int} (j:WH X H T s A room used born) (f:vA s t0 H H' T T') (n1:¬ t0 1) (n2:¬ t0 2):WH X H' T' s A room used born:=by
 obtain ⟨th,tc,⟨d,oh⟩,oc⟩:=j;exact ⟨f.tag oh th,f.tag oc tc,⟨d,f.at th n1 oh⟩,f.at tc n2 oc⟩
theorem WN.mv {names:List (Str×(Int×Int))} (j:WN H T s A names) (f:vA s t0 H H' T T') (f0:∀ b o,H b=some o→T b=(0,0)→H' b=some o) (n6:¬ t0 6):WN H' T' s A names:=by
 obtain ⟨tm,om,nms⟩:=j;exact ⟨f.tag om tm,f.at tm n6 om,nms.mono fun t m ⟨z1,z2⟩=>⟨f.tag z2 z1,f0 _ _ z2 z1⟩⟩
theorem WS.mv {S:Sw} (j:WS X H T s A S) (f:vA s t0 H H' T T') (n7:¬ t0 7) (n8:¬ t0 8):WS X H' T' s A S:=by
 obtain ⟨ts,tg,⟨d,os⟩,og⟩:=j;exact ⟨f.tag os ts,f.tag og tg,⟨d,f.at ts n7 os⟩,f.at tg n8 og⟩
theorem WD.mv {hs:List (Addr×Addr)}{hands:List (Str×List (Option Int))} (j:WD X H T s hs hands) (f:vA s t0 H H' T T') (n:∀ k,20≤k→k < 100→¬ t0 k):WD X H' T' s hs hands:=by
 obtain ⟨lh,l5,hd⟩:=j;refine ⟨lh,l5,fun j p m e1 e2=>?_⟩;have hl:j < hs.length:=(dN e1).1;exact (hd j p m e1 e2).mv f (n _ (by omega) (by omega)) (n _ (by omega) (by omega))
theorem WC.mv {cs:List (Option (Addr×Addr))}{cells:List (Option Ce)} (j:WC X H T s cs cells) (f:vA s t0 H H' T T') (n:∀ k,100≤k→¬ t0 k):WC X H' T' s cs cells:=by
 obtain ⟨lc,ce⟩:=j;exact ⟨lc,fun i p c e1 e2=>(ce i p c e1 e2).mv f (n _ (by omega)) (n _ (by omega))⟩
theorem WJ.mv (j:WJ X H T s A M) (f:vA s (fun _=>False) H H' T T') (f0:∀ b o,H b=some o→T b=(0,0)→H' b=some o):WJ X H' T' s A M:=
 ⟨j.jb.mv f f0 id id,j.jh.mv f id id,j.jn.mv f f0 id,j.js.mv f id id,j.jd.mv f fun _ _ _=>id,j.jc.mv f fun _ _=>id⟩
theorem WJ.same (j:WJ X H T s A M) (e:aX H H'):WJ X H' T s A M:=j.mv (vA.of_same e) fun b o h _=>e b o h
theorem WJ.other {s':Nat} (j:WJ X H T s A M) (e:iG s' H H' T T') (n:s≠s') (n0:s'≠0):WJ X H' T' s A M:=j.mv (vA.Zfu e n) fun b o h t=>e.kp b o h (by rw [t];exact fun z=>n0 z.symm)
theorem nT {a:Addr}{o':HO}{m:Nat} (h0:s≠0) (ta:T a=(s,m)):∀ b o,H b=some o→T b=(0,0)→upd H a o' b=some o:=fun b o e t=>by
 rw [aB (Ma t ta (fun z=>h0 (congrArg Prod.fst z).symm))];exact e
theorem WJ.slot (j:WJ X H T s A M) (w:WT H T) (h0:s≠0) {h k:Nat}{p:Addr×Addr}{m:Str×List (Option Int)}{x:Option Int} (hp:A.hs[h]? =some p) (hm:M.hands[h]? =some m):
  iG s H (upd H p.2 (.lst ((m.2.map oV).set k (oV x)))) T T∧WJ X (upd H p.2 (.lst ((m.2.map oV).set k (oV x)))) T s A { M with hands:=M.hands.set h (m.1,m.2.set k x) }:=by
 have hl:=j.jd.l5;have hh:h < A.hs.length:=(dN hp).1;have hh':h < M.hands.length:=(dN hm).1;have d:=j.jd.hd h p m hp hm;refine ⟨iG.upd w d.o2 (by rw [d.t2]),?_⟩;have f:vA s (·=21 + 2 * h) H (upd H p.2 (.lst ((m.2.map oV).set k (oV x)))) T T:=vA.zP d.t2;have b2:upd H p.2 (.lst ((m.2.map oV).set k (oV x))) p.2=some (.lst ((m.2.set k x).map oV)):=by rw [aq,List.map_set]
 refine ⟨j.jb.mv f (nT h0 d.t2) (by omega) (by omega),j.jh.mv f (by omega) (by omega),j.jn.mv f (nT h0 d.t2) (by omega),j.js.mv f (by omega) (by omega),⟨by rw [List.length_set];exact j.jd.lh,hl,fun j' p' m' e1 e2=>?_⟩,j.jc.mv f fun _ _=>by omega⟩
 by_cases hj:j'=h
 ·subst hj;dsimp only at e2;rw [List.getElem?_set_self hh'] at e2;rw [hp] at e1;cases e1;cases e2;obtain ⟨dd,o1⟩:=d.o1;exact ⟨d.t1,d.t2,⟨dd,f.at d.t1 (by omega) o1⟩,b2⟩
 ·dsimp only at e2;rw [List.getElem?_set_ne (fun z=>hj z.symm)] at e2;exact (j.jd.hd j' p' m' e1 e2).mv f (by omega) (by omega)
theorem WC.at (j:WC X H T s A.cs M.cells) {i:Nat}{c:Ce} (h:M.cells[i]? =some (some c)):∃ p,A.cs[i]? =some (some p)∧Qk X.C H T s i p c:=by
 have hl:i < A.cs.length:=by rw [j.lc];exact (dN h).1
 have e:=j.ce i _ _ (bW hl) h;cases hg:A.cs[i] with
 | none=>rw [hg] at e;exact e.elim
 | some g=>rw [hg] at e;exact ⟨g,by rw [bW hl,hg],e⟩
theorem WC.at0 (j:WC X H T s A.cs M.cells) {i:Nat} (h:M.cells[i]? =some none):A.cs[i]? =some none:=by
 have hl:i < A.cs.length:=by rw [j.lc];exact (dN h).1
 have e:=j.ce i _ _ (bW hl) h;cases hg:A.cs[i] with
 | none=>rw [bW hl,hg]
 | some g=>rw [hg] at e;exact e.elim
theorem WC.chg (j:WC X H T s A.cs M.cells) {i:Nat}{p:Addr×Addr}{c':Ce} (f:vA s t0 H H' T T') (hp:A.cs[i]? =some (some p)) (n:∀ k,100≤k→k≠100 + 2 * i→k≠101 + 2 * i→¬ t0 k) (e:Qk X.C H' T' s i p c'):
  WC X H' T' s A.cs (M.cells.set i (some c')):=by
 have hl:i < A.cs.length:=(dN hp).1;refine ⟨by rw [List.length_set];exact j.lc,fun k g c e1 e2=>?_⟩
 by_cases hk:k=i
 ·subst hk;rw [List.getElem?_set_self (by rw [← j.lc];exact hl)] at e2;rw [hp] at e1;cases e1;cases e2;exact e
 ·rw [List.getElem?_set_ne (fun z=>hk z.symm)] at e2;exact (j.ce k g c e1 e2).mv f (n _ (by omega) (by omega) (by omega)) (n _ (by omega) (by omega) (by omega))
theorem WJ.field (j:WJ X H T s A M) (w:WT H T) (h0:s≠0) {i k:Nat}{p:Addr×Addr}{c:Ce}{x:Option Int} (hp:A.cs[i]? =some (some p)) (e:Qk X.C H T s i p c):
  iG s H (upd H p.2 (.lst ((c.fl.map oV).set k (oV x)))) T T∧WJ X (upd H p.2 (.lst ((c.fl.map oV).set k (oV x)))) T s A { M with cells:=M.cells.set i (some { c with fl:=c.fl.set k x }) }:=by
 refine ⟨iG.upd w e.o2 (by rw [e.t2]),?_⟩;have f:vA s (·=101 + 2 * i) H (upd H p.2 (.lst ((c.fl.map oV).set k (oV x)))) T T:=vA.zP e.t2;have b2:upd H p.2 (.lst ((c.fl.map oV).set k (oV x))) p.2=some (.lst ((c.fl.set k x).map oV)):=by rw [aq,List.map_set]
 obtain ⟨dd,o1⟩:=e.o1;exact ⟨j.jb.mv f (nT h0 e.t2) (by omega) (by omega),j.jh.mv f (by omega) (by omega),j.jn.mv f (nT h0 e.t2) (by omega),j.js.mv f (by omega) (by omega),j.jd.mv f fun _ _ _=>by omega,
  j.jc.chg f hp (fun k _ _ n2 z=>n2 z) ⟨e.t1,e.t2,⟨dd,f.at e.t1 (by omega) o1⟩,b2⟩⟩
theorem WJ.cell (j:WJ X H T s A M) (w:WT H T) (h0:s≠0) {i:Nat}{p:Addr×Addr}{c:Ce}{dx:Addr}{tone load:Int} (hp:A.cs[i]? =some (some p)) (e:Qk X.C H T s i p c):
  iG s H (upd H p.1 (.ins X.C dx (lW c.birth c.bulk tone load p.2))) T T∧WJ X (upd H p.1 (.ins X.C dx (lW c.birth c.bulk tone load p.2))) T s A { M with cells:=M.cells.set i (some { c with tone:=tone,load:=load }) }:=by
 obtain ⟨dd,o1⟩:=e.o1;refine ⟨iG.upd w o1 (by rw [e.t1]),?_⟩;have f:vA s (·=100 + 2 * i) H (upd H p.1 (.ins X.C dx (lW c.birth c.bulk tone load p.2))) T T:=vA.zP e.t1;exact ⟨j.jb.mv f (nT h0 e.t1) (by omega) (by omega),j.jh.mv f (by omega) (by omega),j.jn.mv f (nT h0 e.t1) (by omega),j.js.mv f (by omega) (by omega),j.jd.mv f fun _ _ _=>by omega,
  j.jc.chg f hp (fun k _ n1 _ z=>n1 z) ⟨e.t1,e.t2,⟨dx,aq⟩,f.at e.t2 (by omega) e.o2⟩⟩
theorem WJ.sweep (j:WJ X H T s A M) (w:WT H T) (h0:s≠0) {dx:Addr} (S:Sw) (e9:S.grey=M.sw.grey):
  iG s H (upd H A.sw (.ins X.S dx (cz S.sense S.phase A.gr S.looked S.turn S.at' S.stop S.walks S.looks S.passes S.loss))) T T∧
  WJ X (upd H A.sw (.ins X.S dx (cz S.sense S.phase A.gr S.looked S.turn S.at' S.stop S.walks S.looks S.passes S.loss))) T s A { M with sw:=S }:=by
 obtain ⟨ts,tg,⟨dd,os⟩,og⟩:=j.js;refine ⟨iG.upd w os (by rw [ts]),?_⟩;have f:vA s (·=7) H (upd H A.sw (.ins X.S dx (cz S.sense S.phase A.gr S.looked S.turn S.at' S.stop S.walks S.looks S.passes S.loss))) T T:=vA.zP ts;exact ⟨j.jb.mv f (nT h0 ts) (by omega) (by omega),j.jh.mv f (by omega) (by omega),j.jn.mv f (nT h0 ts) (by omega),⟨ts,tg,⟨dx,aq⟩,by rw [e9];exact f.at tg (by omega) og⟩,j.jd.mv f fun _ _ _=>by omega,j.jc.mv f fun _ _=>by omega⟩
theorem WJ.Zlz (j:WJ X H T s A M) (w:WT H T) (h0:s≠0) {g:List Int}:iG s H (upd H A.gr (.lst (g.map V.int))) T T∧WJ X (upd H A.gr (.lst (g.map V.int))) T s A { M with sw:={ M.sw with grey:=g } }:=by
 obtain ⟨ts,tg,⟨dd,os⟩,og⟩:=j.js;refine ⟨iG.upd w og (by rw [tg]),?_⟩;have f:vA s (·=8) H (upd H A.gr (.lst (g.map V.int))) T T:=vA.zP tg;exact ⟨j.jb.mv f (nT h0 tg) (by omega) (by omega),j.jh.mv f (by omega) (by omega),j.jn.mv f (nT h0 tg) (by omega),⟨ts,tg,⟨dd,f.at ts (by omega) os⟩,aq⟩,j.jd.mv f fun _ _ _=>by omega,j.jc.mv f fun _ _=>by omega⟩
theorem WJ.back (j:WJ X H T s A M) (w:WT H T) (h0:s≠0) {i:Nat}{dx:Addr}{used':Int} (hi:i < A.cs.length) (H':Hp) (kp:∀ b o,H b=some o→b≠A.hp→b≠A.ca→H' b=some o) (a1:H' A.hp=some (.ins X.H dx (jB M.room A.ca used' M.born))) (a2:H' A.ca=some (.lst ((A.cs.map pV).set i V.non))):
  iG s H H' T T∧WJ X H' T s { A with cs:=A.cs.set i none } { M with used:=used',cells:=M.cells.set i none }:=by
 obtain ⟨th,tc,⟨dd,oh⟩,oc⟩:=j.jh;have al:∀ b o,H b=some o→∃ o',H' b=some o':=fun b o h=>by
  by_cases z1:b=A.hp
  ·exact ⟨_,by rw [z1];exact a1⟩
  ·by_cases z2:b=A.ca
   ·exact ⟨_,by rw [z2];exact a2⟩
   ·exact ⟨o,kp b o h z1 z2⟩
 have f:vA s (fun k=>k=1∨k=2) H H' T T:=⟨fun b o h e n=>kp b o h (fun z=>n (.inl (by rw [z,th]))) (fun z=>n (.inr (by rw [z,tc]))),fun _ _ _=>rfl⟩;have f0:∀ b o,H b=some o→T b=(0,0)→H' b=some o:=fun b o h t=>kp b o h (Ma t th (fun z=>h0 (congrArg Prod.fst z).symm)) (Ma t tc (fun z=>h0 (congrArg Prod.fst z).symm));refine ⟨⟨fun b o h n=>kp b o h (fun z=>n (by rw [z,th])) (fun z=>n (by rw [z,tc])),al,fun _ _ _=>rfl,fun b h=>w b ?_⟩,?_⟩
 ·cases z:H b with
  | none=>rfl
  | some o=>obtain ⟨o',z'⟩:=al b o z;rw [h] at z';cases z'
 ·refine ⟨?_,⟨th,tc,⟨dx,a1⟩,by rw [List.map_set];exact a2⟩,?_,?_,j.jd.mv f fun _ _ _=>by omega,⟨by rw [List.length_set,List.length_set];exact j.jc.lc,fun k g c e1 e2=>?_⟩⟩
  ·obtain ⟨b1,b2,b3,b4,b5,b6,b7,b8⟩:=j.jb.mv f f0 (by omega) (by omega);exact ⟨b1,b2,b3,b4,b5,b6,b7,b8⟩
  ·obtain ⟨b1,b2,b3⟩:=j.jn.mv f f0 (by omega);exact ⟨b1,b2,b3⟩
  ·obtain ⟨b1,b2,b3,b4⟩:=j.js.mv f (by omega) (by omega);exact ⟨b1,b2,b3,b4⟩
  ·by_cases hk:k=i
   ·subst hk;dsimp only at e1 e2;rw [List.getElem?_set_self hi] at e1;rw [List.getElem?_set_self (by rw [← j.jc.lc];exact hi)] at e2;cases e1;cases e2
    trivial
   ·dsimp only at e1 e2;rw [List.getElem?_set_ne (fun z=>hk z.symm)] at e1 e2;exact (j.jc.ce k g c e1 e2).mv f (by omega) (by omega)
end
def jW {α:Type}:List (Option α)→Nat
 | []=>0
 | none :: _=>0
 | some _ :: l=>jW l + 1
def mD {α:Type} (l:List (Option α)) (x:α):List (Option α):=if jW l < l.length then l.set (jW l) (some x) else l ++ [some x]
theorem Uz {α:Type} (l:List (Option α)):jW l≤l.length:=by
 induction l with
 | nil=>exact Nat.le_refl _
 | cons a l ih=>cases a with
  | none=>exact Nat.zero_le _
  | some a=>exact Nat.succ_le_succ ih
theorem Zl3 {α:Type}{l:List (Option α)} (h:jW l < l.length):l[jW l]? =some none:=by
 induction l with
 | nil=>exact absurd h (Nat.lt_irrefl _)
 | cons a l ih=>cases a with
  | none=>rfl
  | some a=>exact ih (Nat.lt_of_succ_lt_succ h)
theorem Xk {α:Type}{f:Option α→V} (hf:∀ x,f x=V.non↔x=none) (l:List (Option α)):(l.map f).idxOf V.non=jW l∧(V.non∈l.map f↔jW l < l.length):=by
 induction l with
 | nil=>exact ⟨rfl,⟨fun z=>(nomatch z),fun z=>absurd z (Nat.lt_irrefl _)⟩⟩
 | cons a l ih=>
  rw [List.map_cons,List.idxOf_cons];cases a with
  | none=>
   have e:f none=V.non:=(hf none).mpr rfl;rw [e];exact ⟨rfl,⟨fun _=>Nat.zero_lt_succ _,fun _=>List.mem_cons_self⟩⟩
  | some a=>
   have e:f (some a)≠V.non:=fun z=>by cases (hf (some a)).mp z
   have b:(f (some a) == V.non)=false:=beq_eq_false_iff_ne.mpr e;rw [b];refine ⟨congrArg (· + 1) ih.1,?_⟩;show _↔jW l + 1 < l.length + 1;rw [List.mem_cons,ih.2];constructor
   ·rintro (z | z)
    ·exact absurd z.symm e
    ·omega
   ·intro z;exact .inr (by omega)
theorem Zf7 {α:Type}{f:Option α→V} (hf:∀ x,f x=V.non↔x=none) (l:List (Option α)) (x:α):putN (l.map f) (f (some x))=(mD l x).map f:=by
 obtain ⟨e1,e2⟩:=Xk hf l;unfold putN mD
 by_cases z:jW l < l.length
 ·rw [if_pos z,if_pos (e2.mpr z),List.map_set];exact congrArg (fun k=>(l.map f).set k (f (some x))) e1
 ·rw [if_neg z,if_neg (fun w=>z (e2.mp w)),List.map_append];rfl
theorem Zfp (p:Option (Addr×Addr)):pV p=V.non↔p=none:=by cases p<;>simp [pV]
theorem Du {α:Type} (l:List (Option α)) (x:α):(mD l x)[jW l]? =some (some x):=by
 unfold mD
 by_cases z:jW l < l.length
 ·rw [if_pos z,List.getElem?_set_self z]
 ·have e:jW l=l.length:=Nat.le_antisymm (Uz l) (by omega);rw [if_neg z,e,List.getElem?_append_right (Nat.le_refl _),Nat.sub_self];rfl
theorem Zb5 {α:Type}{l:List (Option α)}{x:α}{i:Nat}{y:Option α} (hi:i≠jW l) (h:(mD l x)[i]? =some y):l[i]? =some y:=by
 unfold mD at h
 by_cases z:jW l < l.length
 ·rw [if_pos z,List.getElem?_set_ne (fun w=>hi w.symm)] at h;exact h
 ·rw [if_neg z] at h;have e:jW l=l.length:=Nat.le_antisymm (Uz l) (by omega);have hl:=(dN h).1;rw [List.length_append,List.length_singleton] at hl;rw [List.getElem?_append_left (by omega)] at h;exact h
theorem Zf8 {α β:Type}{l:List (Option α)}{m:List (Option β)}{x:α}{y:β} (hl:l.length=m.length) (hf:jW l=jW m):(mD l x).length=(mD m y).length:=by
 unfold mD
 by_cases z:jW l < l.length
 ·rw [if_pos z,if_pos (by omega),List.length_set,List.length_set];exact hl
 ·rw [if_neg z,if_neg (by omega),List.length_append,List.length_append,hl];rfl
theorem Zj4 {α:Type} (l:List (Option α)) (x:α):(mD l x).length≤l.length + 1:=by
 unfold mD
 by_cases z:jW l < l.length
 ·rw [if_pos z,List.length_set];omega
 ·rw [if_neg z,List.length_append];exact Nat.le_refl _
theorem Zl2 {α β:Type}:∀ (l:List (Option α)) (m:List (Option β)),l.length=m.length→(∀ (i:Nat) x y,l[i]? =some x→m[i]? =some y→(x=none↔y=none))→jW l=jW m:=by
 intro l
 induction l with
 | nil=>
  intro m hl _;cases m with
  | nil=>rfl
  | cons b m=>simp at hl
 | cons a l ih=>
  intro m hl h;cases m with
  | nil=>simp at hl
  | cons b m=>
   have ih':=ih m (by simpa using hl) fun i x y h1 h2=>h (i + 1) x y (by simpa using h1) (by simpa using h2);have e:=h 0 a b rfl rfl;cases a with
   | none=>rw [e.mp rfl];rfl
   | some a=>cases b with
    | none=>exact absurd (e.mpr rfl) (fun z=>by cases z)
    | some b=>exact congrArg (· + 1) ih'
section
variable {X:Cs}{H H':Hp}{T T':Tg}{s:Nat}{A:Wa}{M:Wm}
theorem WC.fst (j:WC X H T s A.cs M.cells):jW A.cs=jW M.cells:=Zl2 _ _ j.lc fun i p c e1 e2=>by
 have e:=j.ce i p c e1 e2;cases p with
 | none=>cases c with
  | none=>exact ⟨fun _=>rfl,fun _=>rfl⟩
  | some c=>exact e.elim
 | some p=>cases c with
  | none=>exact e.elim
  | some c=>exact ⟨fun z=>(by cases z),fun z=>(by cases z)⟩
theorem WJ.put (j:WJ X H T s A M) (w:WT H T) (h0:s≠0) {dx:Addr}{used':Int}{p fa:Addr}{c:Ce} (kp:∀ b o,H b=some o→b≠A.hp→b≠A.ca→H' b=some o) (a1:H' A.hp=some (.ins X.H dx (jB M.room A.ca used' (M.born + 1)))) (a2:H' A.ca=some (.lst (putN (A.cs.map pV) (.ref p))))
  (n1:H p=none) (n2:H fa=none) (m1:p≠fa) (o1:∃ dx,H' p=some (.ins X.C dx (lW c.birth c.bulk c.tone c.load fa))) (o2:H' fa=some (.lst (c.fl.map oV))):
  ∃ T',iG s H H' T T'∧WJ X H' T' s { A with cs:=mD A.cs (p,fa) } { M with used:=used',born:=M.born + 1,cells:=mD M.cells c }:=by
 obtain ⟨th,tc,⟨dd,oh⟩,oc⟩:=j.jh;have i1:=j.jc.fst
 let k:=jW A.cs
 let T':Tg:=jq (jq T p (s,100 + 2 * k)) fa (s,101 + 2 * k)
 have told:∀ b o,H b=some o→T' b=T b:=fun b o h=>by
  show jq _ _ _ b=_;rw [jX (aD h n2),jX (aD h n1)]
 have t1:T' p=(s,100 + 2 * k):=by show jq _ _ _ p=_;rw [jX m1,iB]
 have t2:T' fa=(s,101 + 2 * k):=by show jq _ _ _ fa=_;rw [iB]
 have al:∀ b o,H b=some o→∃ o',H' b=some o':=fun b o h=>by
  by_cases z1:b=A.hp
  ·exact ⟨_,by rw [z1];exact a1⟩
  ·by_cases z2:b=A.ca
   ·exact ⟨_,by rw [z2];exact a2⟩
   ·exact ⟨o,kp b o h z1 z2⟩
 have f:vA s (fun k=>k=1∨k=2) H H' T T':=⟨fun b o h e n=>kp b o h (fun z=>n (.inl (by rw [z,th]))) (fun z=>n (.inr (by rw [z,tc]))),told⟩;have f0:∀ b o,H b=some o→T b=(0,0)→H' b=some o:=fun b o h t=>kp b o h (Ma t th (fun z=>h0 (congrArg Prod.fst z).symm)) (Ma t tc (fun z=>h0 (congrArg Prod.fst z).symm));refine ⟨T',⟨fun b o h nn=>kp b o h (fun z=>nn (by rw [z,th])) (fun z=>nn (by rw [z,tc])),al,told,fun b h=>?_⟩,?_⟩
 ·have b1:b≠p:=fun e=>by obtain ⟨d,z⟩:=o1;rw [e,z] at h;cases h
  have b2:b≠fa:=fun e=>by rw [e,o2] at h;cases h
  have hb:H b=none:=by
   cases z:H b with
   | none=>rfl
   | some o=>obtain ⟨o',z'⟩:=al b o z;rw [h] at z';cases z'
  show jq _ _ _ b=_;rw [jX b2,jX b1];exact w b hb
 ·refine ⟨?_,⟨f.tag oh th,f.tag oc tc,⟨dx,a1⟩,?_⟩,?_,?_,j.jd.mv f fun _ _ _=>by omega,⟨Zf8 j.jc.lc i1,fun i g cc e1 e2=>?_⟩⟩
  ·obtain ⟨b1,b2,b3,b4,b5,b6,b7,b8⟩:=j.jb.mv f f0 (by omega) (by omega);exact ⟨b1,b2,b3,b4,b5,b6,b7,b8⟩
  ·show H' A.ca=some (.lst ((mD A.cs (p,fa)).map pV));rw [← Zf7 Zfp];exact a2
  ·obtain ⟨b1,b2,b3⟩:=j.jn.mv f f0 (by omega);exact ⟨b1,b2,b3⟩
  ·obtain ⟨b1,b2,b3,b4⟩:=j.js.mv f (by omega) (by omega);exact ⟨b1,b2,b3,b4⟩
  ·dsimp only at e1 e2
   by_cases hk:i=jW A.cs
   ·subst hk;rw [Du] at e1;rw [i1,Du] at e2;cases e1;cases e2;exact ⟨t1,t2,o1,o2⟩
   ·exact (j.jc.ce i g cc (Zb5 hk e1) (Zb5 (by rw [← i1];exact hk) e2)).mv f (by omega) (by omega)
end
def cellAt (M:Wm) (x:Int):Option Ce:=if 0≤x then (M.cells[x.toNat]?).join else none
def vY (M:Wm):Option Int→Option Int
 | none=>none
 | some x=>(cellAt M x).map (·.birth)
def aR (M:Wm) (h k:Nat):Option Int:=((M.hands[h]?).bind fun m=>m.2[k]?).join
def setSlot (M:Wm) (h k:Nat) (x:Option Int):Wm:={ M with hands:=M.hands.modify h fun m=>(m.1,m.2.set k x) }
def setCell (M:Wm) (i:Int) (c:Ce):Wm:={ M with cells:=M.cells.set i.toNat (some c) }
def bL (M:Wm):Option Int→Option Int×Wm
 | none=>(none,M)
 | some i=>match cellAt M i with
  | none=>(none,M)
  | some c=>if M.sw.phase="walk"∧c.tone≠M.sw.sense then (some c.birth,{ setCell M i { c with tone:=M.sw.sense } with sw:={ M.sw with grey:=M.sw.grey ++ [i] } }) else (none,M)
def cR (M:Wm) (h:Nat):Bool:=decide (M.sw.looked / 2 ^ h % 2=1)
def pJ (M:Wm) (place birth:Int):Bool:=match cellAt M place with
 | none=>true
 | some c=>if c.birth=birth then decide (M.sw.phase="give"∧c.tone≠M.sw.sense) else true
def tQ (l:List (Str×(Int×Int))) (k:Str) (v:Int×Int):List (Str×(Int×Int)):=if (l.any fun m=>decide (m.1=k))=true then l.map (fun m=>if m.1=k then (m.1,v) else m) else l ++ [(k,v)]
def vW (l:List (Str×(Int×Int))) (k:Str):Option (Int×Int):=(l.find? fun m=>decide (m.1=k)).map (·.2)
inductive Rf where
 | full | empty | qm | LK
 deriving DecidableEq
structure Ev where
 word:Str
 thing:Option Int
 notes:List Int
inductive mQ where
 | make (h s:Nat) (many bulk:Int)
 | get (h s t f:Nat)
 | put (h t f s:Nat)
 | copy (h s t:Nat)
 | drop (h s:Nat)
 | give (h s g t:Nat)
 | write (h t:Nat) (load:Int)
 | read (h t:Nat)
 | name (h t:Nat) (word:Str)
 | seek (h s:Nat) (word:Str)
def old? (M:Wm):Bool:=decide (M.tells % 2=1)
def oR (M:Wm):Bool:=decide (M.tells / 2 % 2=1)
def ZK:Option Int→List Int
 | none=>[]
 | some b=>[b]
def aU (M:Wm):List (Option Int)→List Int×Wm
 | []=>([],M)
 | x :: l=>(ZK (bL M x).1 ++ (aU (bL M x).2 l).1,(aU (bL M x).2 l).2)
def rz (M:Wm):mQ→Except Rf (Ev×Wm)
 | .make h s many bulk=>
  if M.used + (1 + many + bulk)≤M.room then
   .ok (⟨"made",some (M.born + 1),[]⟩,setSlot { M with used:=M.used + (1 + many + bulk),born:=M.born + 1,cells:=mD M.cells ⟨M.born + 1,bulk,M.sw.sense,0,List.replicate many.toNat none⟩ } h s (some (jW M.cells)))
  else .error .full
 | .get h s t f=>match aR M h t with
  | none=>.error .empty
  | some x=>match cellAt M x with
   | none=>.error .empty
   | some c=>match c.fl[f]? with
    | none=>.error .qm
    | some v=>.ok (⟨"got",vY M v,[]⟩,setSlot M h s v)
 | .put h t f s=>match aR M h t with
  | none=>.error .empty
  | some x=>match cellAt M x with
   | none=>.error .empty
   | some c=>match c.fl[f]? with
    | none=>.error .qm
    | some v=>
     let M1:=setCell M x { c with fl:=c.fl.set f (aR M h s) }
     let r:=aU M1 ((if old? M=true then [v] else []) ++ if (oR M && !cR M h)=true then [aR M h s] else [])
     .ok (⟨"put",vY M v,r.1⟩,r.2)
 | .copy h s t=>.ok (⟨"copied",vY M (aR M h t),[]⟩,setSlot M h s (aR M h t))
 | .drop h s=>.ok (⟨"dropped",vY M (aR M h s),[]⟩,setSlot M h s none)
 | .give h s g t=>
  let r:=aU (setSlot M g t (aR M h s)) (if (oR M && !cR M h)=true then [aR M h s] else [])
  .ok (⟨"given",vY M (aR M h s),r.1⟩,r.2)
 | .write h t load=>match aR M h t with
  | none=>.error .empty
  | some x=>match cellAt M x with
   | none=>.error .empty
   | some c=>.ok (⟨"wrote",some c.load,[]⟩,setCell M x { c with load:=load })
 | .read h t=>match aR M h t with
  | none=>.error .empty
  | some x=>match cellAt M x with
   | none=>.error .empty
   | some c=>.ok (⟨"read",some c.load,[]⟩,M)
 | .name h t word=>match aR M h t with
  | none=>.error .empty
  | some x=>match cellAt M x with
   | none=>.error .empty
   | some c=>.ok (⟨"named",some c.birth,[]⟩,{ M with names:=tQ M.names word (x,c.birth) })
 | .seek h s word=>match vW M.names word with
  | none=>.error .LK
  | some (p,b)=>
   if pJ M p b=true then .ok (⟨"sought",none,[]⟩,setSlot M h s none)
   else
    let r:=aU (setSlot M h s (some p)) [some p]
    .ok (⟨"sought",some b,r.1⟩,r.2)
def dV:mQ→List V
 | .make h s many bulk=>[.str "make",.int h,.int s,.int many,.int bulk]
 | .get h s t f=>[.str "get",.int h,.int s,.int t,.int f]
 | .put h t f s=>[.str "put",.int h,.int t,.int f,.int s]
 | .copy h s t=>[.str "copy",.int h,.int s,.int t]
 | .drop h s=>[.str "drop",.int h,.int s]
 | .give h s g t=>[.str "give",.int h,.int s,.int g,.int t]
 | .write h t load=>[.str "write",.int h,.int t,.int load]
 | .read h t=>[.str "read",.int h,.int t]
 | .name h t word=>[.str "name",.int h,.int t,.str word]
 | .seek h s word=>[.str "seek",.int h,.int s,.str word]
def yw (M:Wm) (h s:Nat):Prop:=∃ m,M.hands[h]? =some m∧s < m.2.length
def okD (M:Wm):mQ→Prop
 | .make h s many bulk=>yw M h s∧0≤many∧many≤1000∧0≤bulk
 | .get h s t _=>yw M h s∧yw M h t
 | .put h t _ s=>yw M h t∧yw M h s
 | .copy h s t=>yw M h s∧yw M h t
 | .drop h s=>yw M h s
 | .give h s g t=>yw M h s∧yw M g t
 | .write h t _=>yw M h t
 | .read h t=>yw M h t
 | .name h t _=>yw M h t
 | .seek h s _=>yw M h s
structure Ok (M:Wm):Prop where
 sl:∀ m∈M.hands,∀ x,some x∈m.2→∃ c,cellAt M x=some c
 fl:∀ c,some c∈M.cells→∀ x,some x∈c.fl→∃ d,cellAt M x=some d
 tn:∀ c,some c∈M.cells→c.tone=0∨c.tone=1
def yu (Zr6 Zpa Zia Zln:Addr):Rf→Addr
 | .full=>Zr6
 | .empty=>Zpa
 | .qm=>Zia
 | .LK=>Zln
def EvN (H0 H:Hp) (a:Addr) (e:Ev):Prop:=∃ l,H0 l=none∧H a=some (.tup [.str e.word,oV e.thing,.ref l])∧H l=some (.lst (e.notes.map V.int))
def bZ (X:Cs) (rf:Rf→Addr) (P:mQ→Prop):Sp:=fun vs H Q E=>∃ wo dd,vs=[.ref wo,.ref dd]∧∃ T s A M d,P d∧WT H T∧s≠0∧WJ X H T s A M∧A.wo=wo∧H dd=some (.tup (dV d))∧okD M d∧M.cells.length≤900∧(M.sw.phase="walk"→M.sw.grey.length≤10000)∧(0≤M.tells∧M.tells < 4)∧M.names.length≤1000∧
 (∀ r,rz M d=.error r→∀ H',aX H H'→E (.ref (rf r)) none H')∧
 (∀ e M',rz M d=.ok (e,M')→∀ H' T' A' a,iG s H H' T T'→WJ X H' T' s A' M'→A'.wo=wo→EvN H H' a e→Q (.ref a) H')
abbrev Zy6 (X:Cs) (rf:Rf→Addr):Sp:=bZ X rf fun _=>True
theorem Zcc {α:Type}{l:List (Option α)}{x a:α}{i:Nat} (h:l[i]? =some (some a)):(mD l x)[i]? =some (some a):=by
 have hl:=(dN h).1;unfold mD
 by_cases z:jW l < l.length
 ·have hi:i≠jW l:=fun e=>by rw [e,Zl3 z] at h;cases h
  rw [if_pos z,List.getElem?_set_ne (fun w=>hi w.symm)];exact h
 ·rw [if_neg z,List.getElem?_append_left hl];exact h
theorem cu {M:Wm}{x:Int}{c:Ce}:cellAt M x=some c↔0≤x∧M.cells[x.toNat]? =some (some c):=by
 unfold cellAt
 by_cases z:0≤x
 ·rw [if_pos z];cases e:M.cells[x.toNat]? with
  | none=>simp
  | some y=>cases y with
   | none=>simp
   | some d=>simp [z]
 ·rw [if_neg z];simp [z]
theorem sW {M:Wm}{x:Int}{c:Ce} (h:cellAt M x=some c):some c∈M.cells:=List.mem_of_getElem? (cu.mp h).2
theorem Zap {M:Wm}{x u b:Int}{c d:Ce} (h:cellAt M x=some d):cellAt { M with used:=u,born:=b,cells:=mD M.cells c } x=some d:=by
 obtain ⟨h0,h1⟩:=cu.mp h;exact cu.mpr ⟨h0,Zcc h1⟩
theorem Zaq {M:Wm}{u b:Int}{c:Ce}:cellAt { M with used:=u,born:=b,cells:=mD M.cells c } (jW M.cells)=some c:=
 cu.mpr ⟨by omega,by rw [Int.toNat_natCast];exact Du _ _⟩
theorem Zg7 {α:Type}{l:List (Option α)}{x:α}{y:Option α} (h:y∈mD l x):y∈l∨y=some x:=by
 unfold mD at h
 by_cases z:jW l < l.length
 ·rw [if_pos z] at h;rcases List.mem_or_eq_of_mem_set h with h | h
  ·exact .inl h
  ·exact .inr h
 ·rw [if_neg z] at h;rcases List.mem_append.mp h with h | h
  ·exact .inl h
  ·exact .inr (List.mem_singleton.mp h)
theorem Zc5 {M:Wm}{h k:Nat}{m:Str×List (Option Int)}{x:Option Int} (hm:M.hands[h]? =some m) (hk:m.2[k]? =some x):aR M h k=x:=by
 unfold aR;rw [hm];show (m.2[k]?).join=x;rw [hk];rfl
theorem WQ {M:Wm}{h k:Nat} (o:yw M h k):∃ m,M.hands[h]? =some m∧m.2[k]? =some (aR M h k)∧k < m.2.length:=by
 obtain ⟨m,hm,hk⟩:=o;refine ⟨m,hm,?_,hk⟩;rw [Zc5 hm (bW hk)];exact bW hk
theorem N6 {M:Wm}{h k:Nat}{x:Option Int}{m:Str×List (Option Int)} (hm:M.hands[h]? =some m):(setSlot M h k x).hands=M.hands.set h (m.1,m.2.set k x):=by
 show M.hands.modify h _=_;apply List.ext_getElem?;intro i;rw [List.getElem?_modify]
 by_cases e:h=i
 ·subst e;rw [List.getElem?_set_self (dN hm).1,hm];simp
 ·rw [List.getElem?_set_ne e];simp [e]
theorem oA {M:Wm}{h k:Nat}{x:Option Int}{y:Option Int}:vY (setSlot M h k x) y=vY M y:=by cases y<;>rfl
def rowsOf (M:Wm):List (List (Option Int)):=M.hands.map fun m=>m.2.map (vY M)
theorem ZL {M:Wm} (h:M.sw.phase≠"walk") (x:Option Int):bL M x=(none,M):=by
 cases x with
 | none=>rfl
 | some x=>
  unfold bL;dsimp only;cases cellAt M x with
  | none=>rfl
  | some c=>
   dsimp only;rw [if_neg (fun z=>h z.1)]
theorem Xw {M:Wm}{h s:Nat}{many bulk:Int} (hf:M.used + (1 + many + bulk)≤M.room):rz M (.make h s many bulk)=.ok (⟨"made",some (M.born + 1),[]⟩,setSlot { M with used:=M.used + (1 + many + bulk),born:=M.born + 1,cells:=mD M.cells ⟨M.born + 1,bulk,M.sw.sense,0,List.replicate many.toNat none⟩ } h s (some (jW M.cells))):=by
 show (if _ then _ else _)=_;rw [if_pos hf]
structure pD (K:aC) (X:Cs):Prop where
 c:TxC K X.C X.H
 cW:CW K X.W
 Iw:bI K X.W "heap"
 nWk:bI K X.W "kind"
 nWd:bI K X.W "hands"
 nWn:bI K X.W "names"
 Nu:bI K X.W "sweeper"
 cD:CW K X.D
 nDn:bI K X.D "name"
 nDs:bI K X.D "slots"
 cK:CW K X.K
 nKl:bI K X.K "looking"
 nKt:bI K X.K "tells"
 cS:CW K X.S
 n1:bI K X.S "sense"
 n2:bI K X.S "phase"
 n3:bI K X.S "grey"
 n4:bI K X.S "looked"
 n5:bI K X.S "turn"
 n6:bI K X.S "at"
 n7:bI K X.S "stop"
 n8:bI K X.S "walks"
 n9:bI K X.S "looks"
 n10:bI K X.S "passes"
 n11:bI K X.S "loss"
structure Vq (X:Cs) (H:Hp) (T:Tg) (s:Nat) (A:Wa) (M:Wm):Prop where
 jb:WB X H T s A M.w M.tells
 jh:WH X H T s A M.room M.used M.born
 js:WS X H T s A M.sw
 jd:WD X H T s A.hs M.hands
 jc:WC X H T s A.cs M.cells
theorem WJ.w0 {X:Cs}{H:Hp}{T:Tg}{s:Nat}{A:Wa}{M:Wm} (j:WJ X H T s A M):Vq X H T s A M:=⟨j.jb,j.jh,j.js,j.jd,j.jc⟩
theorem WJ.names {X:Cs}{H:Hp}{T:Tg}{s:Nat}{A:Wa}{M:Wm}{o:HO} (j:WJ X H T s A M) (h0:s≠0):Vq X (upd H A.nm o) T s A M:=by
 have f:vA s (·=6) H (upd H A.nm o) T T:=vA.zP j.jn.tm;exact ⟨j.jb.mv f (nT h0 j.jn.tm) (by omega) (by omega),j.jh.mv f (by omega) (by omega),j.js.mv f (by omega) (by omega),j.jd.mv f fun _ _ _=>by omega,j.jc.mv f fun _ _=>by omega⟩
theorem Vq.same {X:Cs}{H H':Hp}{T:Tg}{s:Nat}{A:Wa}{M:Wm} (j:Vq X H T s A M) (e:aX H H'):Vq X H' T s A M:=by
 have f:vA s (fun _=>False) H H' T T:=vA.of_same e;exact ⟨j.jb.mv f (fun b o h _=>e b o h) id id,j.jh.mv f id id,j.js.mv f id id,j.jd.mv f fun _ _ _=>id,j.jc.mv f fun _ _=>id⟩
def atO (cs:List V):V→V
 | .int i=>if 0≤i then (cs[i.toNat]?).getD .non else .non
 | _=>.non
def dG (CH:Addr):Sp:=fun vs H Q E=>∃ hp pl,vs=[.ref hp,pl]∧(pl=.non∨∃ i,pl=.int i)∧∃ ca room used born cs,HpO CH H hp ca room used born cs∧Q (atO cs pl) H
def cO (M:Wm) (x:Option Int):Option Ce:=x.bind (cellAt M)
def cB (X:Cs):Sp:=fun vs H Q E=>∃ hp pl,vs=[.ref hp,pl]∧∃ x,pl=oV x∧∃ T s A M,WJ X H T s A M∧A.hp=hp∧Q (oV (vY M x)) H
def uh (X:Cs):Sp:=fun vs H Q E=>∃ p f,vs=[.ref p,.int f]∧∃ T s i q c,Qk X.C H T s i q c∧q.1=p∧Q (.bl (decide (0≤f) && decide (f < c.fl.length))) H
def bV (X:Cs):Sp:=fun vs H Q E=>∃ wo h,vs=[.ref wo,.int h]∧∃ T s A M k p,WJ X H T s A M∧A.wo=wo∧h=((k:Nat):Int)∧A.hs[k]? =some p∧Q (.ref p.2) H
def cC (X:Cs):Sp:=fun vs H Q E=>∃ wo p,vs=[.ref wo,.ref p]∧∃ T s A M i q c,Vq X H T s A M∧A.wo=wo∧Qk X.C H T s i q c∧q.1=p∧Q (.bl (decide (c.tone=M.sw.sense))) H
def ug (X:Cs):Sp:=fun vs H Q E=>∃ wo h,vs=[.ref wo,.int h]∧∃ T s A M k,WJ X H T s A M∧A.wo=wo∧h=((k:Nat):Int)∧Q (.bl (cR M k)) H
def xY (X:Cs):Sp:=fun vs H Q E=>∃ wo v,vs=[.ref wo,v]∧∃ T s A M,WJ X H T s A M∧A.wo=wo∧(0≤M.tells∧M.tells < 4)∧∀ l,H l=none→Q (.ref l) (upd H l (.lst (if old? M=true then [v] else [])))
def nU (X:Cs):Sp:=fun vs H Q E=>∃ wo h v,vs=[.ref wo,.int h,v]∧∃ T s A M k,WJ X H T s A M∧A.wo=wo∧(0≤M.tells∧M.tells < 4)∧h=((k:Nat):Int)∧∀ l,H l=none→Q (.ref l) (upd H l (.lst (if (oR M && !cR M k)=true then [v] else [])))
def jm (X:Cs) (CE:Addr):Sp:=fun vs H Q E=>∃ wo h t,vs=[.ref wo,.int h,.int t]∧∃ T s A M hn tn,WJ X H T s A M∧A.wo=wo∧h=((hn:Nat):Int)∧t=((tn:Nat):Int)∧yw M hn tn∧
 (cO M (aR M hn tn)=none→E (.ref CE) none H)∧
 (∀ i c p,aR M hn tn=some i→0≤i→cellAt M i=some c→A.cs[i.toNat]? =some (some p)→Qk X.C H T s i.toNat p c→Q (.ref p.1) H)
def mq (X:Cs) (CE CF:Addr):Sp:=fun vs H Q E=>∃ wo h t f,vs=[.ref wo,.int h,.int t,.int f]∧∃ T s A M hn tn fn,WJ X H T s A M∧A.wo=wo∧h=((hn:Nat):Int)∧t=((tn:Nat):Int)∧f=((fn:Nat):Int)∧yw M hn tn∧
 (cO M (aR M hn tn)=none→E (.ref CE) none H)∧
 (∀ i c,aR M hn tn=some i→0≤i→cellAt M i=some c→c.fl[fn]? =none→E (.ref CF) none H)∧
 (∀ i c p,aR M hn tn=some i→0≤i→cellAt M i=some c→A.cs[i.toNat]? =some (some p)→Qk X.C H T s i.toNat p c→fn < c.fl.length→Q (.ref p.2) H)
def Vu (X:Cs):Sp:=fun vs H Q E=>∃ wo pl,vs=[.ref wo,pl]∧∃ x,pl=oV x∧∃ T s A M,WT H T∧s≠0∧WJ X H T s A M∧A.wo=wo∧(M.sw.phase="walk"→M.sw.grey.length≤20000)∧
 ∀ H',iG s H H' T T→WJ X H' T s A (bL M x).2→Q (oV (bL M x).1) H'
def PlO (H:Hp) (T:Tg) (A:Wa) (M:Wm) (pl:Addr) (xs:List (Option Int)):Prop:=(H pl=some (.lst (xs.map oV))∧T pl=(0,0))∨(∃ (k:Nat) (p:Addr×Addr) (m:Str×List (Option Int)),A.hs[k]? =some p∧M.hands[k]? =some m∧pl=p.2∧xs=m.2)∨(∃ (k:Nat) (p:Addr×Addr) (c:Ce),A.cs[k]? =some (some p)∧M.cells[k]? =some (some c)∧pl=p.2∧xs=c.fl)
theorem PlO.get {X:Cs}{H:Hp}{T:Tg}{s:Nat}{A:Wa}{M:Wm}{pl:Addr}{xs:List (Option Int)} (h:PlO H T A M pl xs) (j:WJ X H T s A M):H pl=some (.lst (xs.map oV)):=by
 rcases h with ⟨h,_⟩ | ⟨k,p,m,h1,h2,rfl,rfl⟩ | ⟨k,p,c,h1,h2,rfl,rfl⟩
 ·exact h
 ·exact (j.jd.hd k p m h1 h2).o2
 ·have e:=j.jc.ce k _ _ h1 h2;exact (show Qk X.C H T s k p c from e).o2
def eN (X:Cs):Sp:=fun vs H Q E=>∃ wo pl,vs=[.ref wo,.ref pl]∧∃ xs T s A M,WT H T∧s≠0∧WJ X H T s A M∧A.wo=wo∧PlO H T A M pl xs∧xs.length≤100∧(M.sw.phase="walk"→M.sw.grey.length≤10000)∧
 ∀ H' T' l,iG s H H' T T'→WJ X H' T' s A (aU M xs).2→H' l=some (.lst ((aU M xs).1.map V.int))→H l=none→Q (.ref l) H'
def CP (X:Cs):Sp:=fun vs H Q E=>∃ wo p b,vs=[.ref wo,.int p,.int b]∧∃ T s A M,Vq X H T s A M∧A.wo=wo∧Q (.bl (pJ M p b)) H
def qy (X:Cs) (CN:Addr):Sp:=fun vs H Q E=>∃ wo z,vs=[.ref wo,.str z]∧∃ T s A M,WJ X H T s A M∧A.wo=wo∧(vW M.names z=none→E (.ref CN) none H)∧(∀ p b,vW M.names z=some (p,b)→Q (if pJ M p b=true then .non else .int p) H)
theorem vP (x:Option Int):oV x=.non∨∃ i,oV x=.int i:=by cases x with
 | none=>exact .inl rfl
 | some i=>exact .inr ⟨i,rfl⟩
section
variable {X:Cs}{H H':Hp}{T T':Tg}{s:Nat}{A:Wa}{M:Wm}
theorem Vq.hpO (j:Vq X H T s A M):HpO X.H H A.hp A.ca M.room M.used M.born (A.cs.map pV):=⟨j.jh.oh,j.jh.oc⟩
theorem Vq.look (j:Vq X H T s A M) (x:Option Int):(cO M x=none∧atO (A.cs.map pV) (oV x)=.non)∨∃ i c p,x=some i∧0≤i∧cellAt M i=some c∧M.cells[i.toNat]? =some (some c)∧A.cs[i.toNat]? =some (some p)∧atO (A.cs.map pV) (oV x)=.ref p.1∧Qk X.C H T s i.toNat p c:=by
 cases x with
 | none=>exact .inl ⟨rfl,rfl⟩
 | some i=>
  show (cellAt M i=none∧atO _ (.int i)=_)∨_
  by_cases h0:0≤i
  ·cases hc:M.cells[i.toNat]? with
   | none=>
    have hl:A.cs[i.toNat]? =none:=by
     rw [List.getElem?_eq_none_iff] at hc ⊢;rw [j.jc.lc];exact hc
    refine .inl ⟨by unfold cellAt;rw [if_pos h0,hc];rfl,?_⟩;show (if 0≤i then _ else _)=_;rw [if_pos h0,cP,hl];rfl
   | some y=>cases y with
    | none=>
     refine .inl ⟨by unfold cellAt;rw [if_pos h0,hc];rfl,?_⟩;show (if 0≤i then _ else _)=_;rw [if_pos h0,cP,j.jc.at0 hc];rfl
    | some c=>
     obtain ⟨p,hp,e⟩:=j.jc.at hc;refine .inr ⟨i,c,p,rfl,h0,by unfold cellAt;rw [if_pos h0,hc];rfl,hc,hp,?_,e⟩;show (if 0≤i then _ else _)=_;rw [if_pos h0,cP,hp];rfl
  ·refine .inl ⟨by unfold cellAt;rw [if_neg h0],?_⟩;show (if 0≤i then _ else _)=_;rw [if_neg h0]
theorem WJ.hpO (j:WJ X H T s A M):HpO X.H H A.hp A.ca M.room M.used M.born (A.cs.map pV):=j.w0.hpO
theorem WJ.look (j:WJ X H T s A M) (x:Option Int):(cO M x=none∧atO (A.cs.map pV) (oV x)=.non)∨∃ i c p,x=some i∧0≤i∧cellAt M i=some c∧M.cells[i.toNat]? =some (some c)∧A.cs[i.toNat]? =some (some p)∧atO (A.cs.map pV) (oV x)=.ref p.1∧Qk X.C H T s i.toNat p c:=j.w0.look x
theorem WJ.hand (j:WJ X H T s A M) {k:Nat}{p:Addr×Addr} (hp:A.hs[k]? =some p):∃ m,M.hands[k]? =some m∧HdO X.D H T s k p m:=by
 have hl:k < M.hands.length:=by rw [← j.jd.lh];exact (dN hp).1
 exact ⟨_,bW hl,j.jd.hd k p _ hp (bW hl)⟩
theorem WJ.handOf (j:WJ X H T s A M) {h t:Nat} (o:yw M h t):∃ p m,A.hs[h]? =some p∧M.hands[h]? =some m∧m.2[t]? =some (aR M h t)∧t < m.2.length∧HdO X.D H T s h p m:=by
 obtain ⟨m,hm,hk,hl⟩:=WQ o;have hh:h < A.hs.length:=by rw [j.jd.lh];exact (dN hm).1
 exact ⟨_,m,bW hh,hm,hk,hl,j.jd.hd h _ m (bW hh) hm⟩
theorem WJ.fresh (j:WJ X H T s A M) {l:Addr}{o:HO}{v:Nat×Nat} (h:H l=none):WJ X (upd H l o) (jq T l v) s A M:=
 j.mv (H':=upd H l o) (T':=jq T l v) ⟨fun b u e _ _=>by rw [aB (aD e h)];exact e,fun b u e=>jX (aD e h)⟩ fun b u e _=>by rw [aB (aD e h)];exact e
end
theorem Zr1 {t:Int} (h:0≤t∧t < 4):Builtin.bitAnd t 1=t % 2∧(Builtin.bitAnd t 2=0↔¬ t / 2 % 2=1):=by
 have:t=0∨t=1∨t=2∨t=3:=by omega
 rcases this with rfl | rfl | rfl | rfl<;>decide
section
variable {K:aC}{X:Cs}{H:Hp}{Q:VK}{E:XK}{n:St→Hp→Prop}{bk ct:St→Hp→Prop}
theorem Zao {hp:Addr}{pl:V} (T:pD K X) (q:(pl=.non∨∃ i,pl=.int i)∧∃ ca room used born cs,HpO X.H H hp ca room used born cs∧Q (atO cs pl) H):Cp K ⟨n,Q,bk,ct⟩ [some (.ref hp),some pl] H:=by
 obtain ⟨hpl,ca,room,used,born,cs,⟨⟨dx,h1⟩,h2⟩,q⟩:=q;unfold Cp;rcases hpl with rfl | ⟨i,rfl⟩
 ·walk_at "ev";exact q
 ·walk_at "ev";refine vB (fun z=>?_) (fun z=>?_)
  ·walk_at "ev";rw [show atO cs (.int i)=.non from if_neg (by omega)] at q;exact q
  ·rw [show atO cs (.int i)=(cs[i.toNat]?).getD .non from if_pos (by omega)] at q;walk_at "ev";refine aK h1 T.c.cF T.c.bK bO ?_;walk_at "ev";refine mO (dz.of h2) ?_;walk_at "ev";refine vB (fun y=>?_) (fun y=>?_)
   ·walk_at "ev";rw [List.getElem?_eq_none_iff.mpr (by omega)] at q;exact q
   ·walk_at "ev";refine aK h1 T.c.cF T.c.bK bO ?_;walk_at "ev";have hl:i.toNat < cs.length:=by omega
    refine j6 (dz.of h2) (o9 (by omega) (bW hl)) ?_;rw [bW hl] at q;exact q
theorem XH {hp:Addr}{pl:V} (T:pD K X) (q:∃ x,pl=oV x∧∃ T s A M,WJ X H T s A M∧A.hp=hp∧Q (oV (vY M x)) H):zx K (dG X.H) ⟨n,Q,bk,ct⟩ [some (.ref hp),some pl,none] H:=by
 obtain ⟨x,rfl,Tg,s,A,M,j,rfl,q⟩:=q;unfold zx;walk_at "ev";refine ⟨_,_,rfl,vP x,_,_,_,_,_,j.hpO,?_⟩;rcases j.look x with ⟨e1,e2⟩ | ⟨i,c,p,rfl,h0,ec,_,_,e2,⟨t1,t2,⟨dx,o1⟩,o2⟩⟩
 ·rw [e2];have:vY M x=none:=by
   cases x with
   | none=>rfl
   | some i=>show (cellAt M i).map _=none;rw [show cellAt M i=none from e1];rfl
  rw [this] at q;walk_at "ev";exact q
 ·rw [e2];have:vY M (some i)=some c.birth:=by show (cellAt M i).map _=_;rw [ec];rfl
  rw [this] at q;walk_at "ev";refine aK o1 T.c.cN T.c.dF fZ ?_;exact q
theorem Fl {p:Addr}{f:Int} (T:pD K X) (q:∃ T s i q c,Qk X.C H T s i q c∧q.1=p∧Q (.bl (decide (0≤f) && decide (f < c.fl.length))) H):oO K ⟨n,Q,bk,ct⟩ [some (.ref p),some (.int f)] H:=by
 obtain ⟨Tg,s,i,r,c,⟨t1,t2,⟨dx,o1⟩,o2⟩,rfl,q⟩:=q;unfold oO;walk_at "ev";refine vB (fun z=>?_) (fun z=>?_)
 ·rw [decide_eq_true z,Bool.true_and] at q;walk_at "ev";refine aK o1 T.c.cN T.c.dX jF ?_;walk_at "ev";refine mO (dz.of o2) ?_;walk_at "ev";rw [bD];exact q
 ·rw [decide_eq_false z,Bool.false_and] at q;walk_at "ev";exact q
theorem V8 {wo:Addr}{h:Int} (T:pD K X) (q:∃ T s A M k p,WJ X H T s A M∧A.wo=wo∧h=((k:Nat):Int)∧A.hs[k]? =some p∧Q (.ref p.2) H):zj K ⟨n,Q,bk,ct⟩ [some (.ref wo),some (.int h)] H:=by
 obtain ⟨Tg,s,A,M,k,p,j,rfl,rfl,hp,q⟩:=q;obtain ⟨d1,ow⟩:=j.jb.ow;obtain ⟨m,hm,⟨t1,t2,⟨dx,o1⟩,o2⟩⟩:=j.hand hp;unfold zj;walk_at "ev";refine aK ow T.cW T.nWd jD ?_;walk_at "ev";refine j6 (dz.of j.jb.on) (jL (v:=.ref p.1) (by rw [cP,hp];rfl)) ?_;refine aK o1 T.cD T.nDs o5 ?_;exact q
theorem Uy {wo p:Addr} (T:pD K X) (q:∃ T s A M i q c,Vq X H T s A M∧A.wo=wo∧Qk X.C H T s i q c∧q.1=p∧Q (.bl (decide (c.tone=M.sw.sense))) H):wR K ⟨n,Q,bk,ct⟩ [some (.ref wo),some (.ref p)] H:=by
 obtain ⟨Tg,s,A,M,i,r,c,j,rfl,⟨t1,t2,⟨dx,o1⟩,o2⟩,rfl,q⟩:=q;obtain ⟨d1,ow⟩:=j.jb.ow;obtain ⟨d2,os⟩:=j.js.os;unfold wR;walk_at "ev";refine aK o1 T.c.cN T.c.kJ PN ?_;walk_at "ev";refine aK ow T.cW T.Nu bw ?_;walk_at "ev";refine aK os T.cS T.n1 mW ?_;walk_at "ev";exact q
end
theorem Zr0 {y:Int}:Builtin.bitAnd y 1=y % 2:=by
 unfold Builtin.bitAnd
 by_cases h:0≤y
 ·rw [decide_eq_true h,decide_eq_true (show (0:Int)≤1 by decide)];show ((y.toNat &&& 1:Nat):Int)=_;rw [Nat.and_one_is_mod];omega
 ·rw [decide_eq_false h,decide_eq_true (show (0:Int)≤1 by decide)];show (1:Int) - ((1 &&& (Builtin.bitNot y).toNat:Nat):Int)=_;rw [Nat.and_comm,Nat.and_one_is_mod];unfold Builtin.bitNot;omega
section
variable {K:aC}{X:Cs}{H:Hp}{Q:VK}{E:XK}{n:St→Hp→Prop}{bk ct:St→Hp→Prop}{CE CF CN:Addr}
theorem Uq {wo:Addr}{h:Int} (T:pD K X) (q:∃ T s A M k,WJ X H T s A M∧A.wo=wo∧h=((k:Nat):Int)∧Q (.bl (cR M k)) H):wQ K ⟨n,Q,bk,ct⟩ [some (.ref wo),some (.int h)] H:=by
 obtain ⟨Tg,s,A,M,k,j,rfl,rfl,q⟩:=q;obtain ⟨d1,ow⟩:=j.jb.ow;obtain ⟨d2,os⟩:=j.js.os;unfold wQ;walk_at "ev";refine aK ow T.cW T.Nu bw ?_;walk_at "ev";refine aK os T.cS T.n4 pL ?_;walk_at "ev";rw [Zr0,Int.toNat_natCast];exact q
theorem Kq {wo:Addr}{v:V} (T:pD K X) (q:∃ T s A M,WJ X H T s A M∧A.wo=wo∧(0≤M.tells∧M.tells < 4)∧∀ l,H l=none→Q (.ref l) (upd H l (.lst (if old? M=true then [v] else [])))):
  sG K ⟨n,Q,bk,ct⟩ [some (.ref wo),some v] H:=by
 obtain ⟨Tg,s,A,M,j,rfl,ht,q⟩:=q;obtain ⟨d1,ow⟩:=j.jb.ow;obtain ⟨d2,ok⟩:=j.jb.ok;obtain ⟨b1,_⟩:=Zr1 ht;unfold sG;walk_at "ev";refine aK ow T.cW T.nWk oF ?_;walk_at "ev";refine aK ok T.cK T.nKt zV ?_;walk_at "ev";rw [b1];refine vB (fun z=>?_) (fun z=>?_)
 ·walk_at "ev";refine ⟨aW (by simp),fun l hl=>?_⟩;have:=q l hl;rw [if_neg (by unfold old?;rw [decide_eq_true_iff];omega)] at this;exact this
 ·walk_at "ev";refine ⟨aW (by simp),fun l hl=>?_⟩;have:=q l hl;rw [if_pos (by unfold old?;rw [decide_eq_true_iff];omega)] at this;exact this
theorem Kr {wo:Addr}{h:Int}{v:V} (T:pD K X) (q:∃ T s A M k,WJ X H T s A M∧A.wo=wo∧(0≤M.tells∧M.tells < 4)∧h=((k:Nat):Int)∧∀ l,H l=none→Q (.ref l) (upd H l (.lst (if (oR M && !cR M k)=true then [v] else [])))):
  sH K (ug X) ⟨n,Q,bk,ct⟩ [some (.ref wo),some (.int h),some v] H:=by
 obtain ⟨Tg,s,A,M,k,j,rfl,ht,rfl,q⟩:=q;obtain ⟨d1,ow⟩:=j.jb.ow;obtain ⟨d2,ok⟩:=j.jb.ok;obtain ⟨_,b1⟩:=Zr1 ht;unfold sH;walk_at "ev";refine aK ow T.cW T.nWk oF ?_;walk_at "ev";refine aK ok T.cK T.nKt zV ?_;walk_at "ev";refine vB (fun z=>?_) (fun z=>?_)
 ·walk_at "ev";refine ⟨aW (by simp),fun l hl=>?_⟩;have:=q l hl;have e:oR M=false:=by unfold oR;exact decide_eq_false (b1.mp z)
  rw [e,Bool.false_and,if_neg (by decide)] at this;exact this
 ·have e:oR M=true:=by unfold oR;exact decide_eq_true (Decidable.not_not.mp fun w=>z (b1.mpr w))
  rw [e,Bool.true_and] at q;walk_at "ev";refine ⟨_,_,rfl,Tg,s,A,M,k,j,rfl,rfl,?_⟩;cases hl:cR M k with
  | true=>
   rw [hl] at q;walk_at "ev";refine ⟨aW (by simp),fun l hl=>?_⟩;exact q l hl
  | false=>
   rw [hl] at q;walk_at "ev";refine ⟨aW (by simp),fun l hl=>?_⟩;exact q l hl
theorem Zan {wo:Addr}{h t:Int} (T:pD K X) (q:∃ T s A M hn tn,WJ X H T s A M∧A.wo=wo∧h=((hn:Nat):Int)∧t=((tn:Nat):Int)∧yw M hn tn∧
 (cO M (aR M hn tn)=none→E (.ref CE) none H)∧
 (∀ i c p,aR M hn tn=some i→0≤i→cellAt M i=some c→A.cs[i.toNat]? =some (some p)→Qk X.C H T s i.toNat p c→Q (.ref p.1) H)):
  Cm K CE (dG X.H) (bV X) E ⟨n,Q,bk,ct⟩ [some (.ref wo),some (.int h),some (.int t),none] H:=by
 obtain ⟨Tg,s,A,M,hn,tn,j,rfl,rfl,rfl,ok,hE,hQ⟩:=q;obtain ⟨d1,ow⟩:=j.jb.ow;obtain ⟨p,m,hp,hm,hs,hl,⟨t1,t2,o1,o2⟩⟩:=j.handOf ok;unfold Cm;walk_at "ev";refine aK ow T.cW T.Iw bx ?_;walk_at "ev";refine ⟨_,_,rfl,Tg,s,A,M,hn,p,j,rfl,rfl,hp,?_⟩;walk_at "ev";refine j6 (dz.of o2) (jL (v:=oV (aR M hn tn)) (by rw [cP,hs];rfl)) ?_;walk_at "ev";refine ⟨_,_,rfl,vP _,_,_,_,_,_,j.hpO,?_⟩;rcases j.look (aR M hn tn) with ⟨e1,e2⟩ | ⟨i,c,p',e0,h0,ec,_,hp',e2,ce⟩
 ·rw [e2];walk_at "ev";exact ⟨by decide,hE e1⟩
 ·rw [e2];walk_at "ev";exact hQ i c p' e0 h0 ec hp' ce
theorem UJ {wo:Addr}{h t f:Int} (T:pD K X) (q:∃ T s A M hn tn fn,WJ X H T s A M∧A.wo=wo∧h=((hn:Nat):Int)∧t=((tn:Nat):Int)∧f=((fn:Nat):Int)∧yw M hn tn∧
 (cO M (aR M hn tn)=none→E (.ref CE) none H)∧
 (∀ i c,aR M hn tn=some i→0≤i→cellAt M i=some c→c.fl[fn]? =none→E (.ref CF) none H)∧
 (∀ i c p,aR M hn tn=some i→0≤i→cellAt M i=some c→A.cs[i.toNat]? =some (some p)→Qk X.C H T s i.toNat p c→fn < c.fl.length→Q (.ref p.2) H)):
  wU K X.C CF (uh X) (jm X CE) E ⟨n,Q,bk,ct⟩ [some (.ref wo),some (.int h),some (.int t),some (.int f),none] H:=by
 obtain ⟨Tg,s,A,M,hn,tn,fn,j,rfl,rfl,rfl,rfl,ok,hE,hF,hQ⟩:=q;unfold wU;walk_at "ev";refine ⟨_,_,_,rfl,Tg,s,A,M,hn,tn,j,rfl,rfl,rfl,ok,hE,fun i c p e0 h0 ec hp ce=>?_⟩;obtain ⟨t1,t2,⟨dx,o1⟩,o2⟩:=id ce;walk_at "ev";refine ⟨p.1,dx,_,rfl,o1,CG,?_⟩;walk_at "ev";refine ⟨_,_,rfl,Tg,s,_,p,c,ce,rfl,?_⟩
 by_cases z:fn < c.fl.length
 ·rw [show (decide ((0:Int)≤(fn:Int)) && decide ((fn:Int) < c.fl.length))=true from by simp;omega];walk_at "ev";refine aK o1 T.c.cN T.c.dX jF ?_;exact hQ i c p e0 h0 ec hp ce z
 ·rw [show (decide ((0:Int)≤(fn:Int)) && decide ((fn:Int) < c.fl.length))=false from by simp;omega];walk_at "ev";exact ⟨by decide,hF i c e0 h0 ec (List.getElem?_eq_none_iff.mpr (by omega))⟩
theorem Zl0 {wo:Addr}{pl b:Int} (T:pD K X) (q:∃ T s A M,Vq X H T s A M∧A.wo=wo∧Q (.bl (pJ M pl b)) H):Tj K (dG X.H) (cC X) ⟨n,Q,bk,ct⟩ [some (.ref wo),some (.int pl),some (.int b),none] H:=by
 obtain ⟨Tg,s,A,M,j,rfl,q⟩:=q;obtain ⟨d1,ow⟩:=j.jb.ow;obtain ⟨d2,os⟩:=j.js.os;unfold Tj;walk_at "ev";refine aK ow T.cW T.Iw bx ?_;walk_at "ev";refine ⟨_,_,rfl,vP (some pl),_,_,_,_,_,j.hpO,?_⟩;unfold pJ at q;rcases j.look (some pl) with ⟨e1,e2⟩ | ⟨i,c,p,ei,h0,ec,_,hp,e2,ce⟩
 ·rw [show atO (A.cs.map pV) (.int pl)=.non from e2];rw [show cellAt M pl=none from e1] at q;walk_at "ev";exact q
 ·cases ei;rw [show atO (A.cs.map pV) (.int pl)=.ref p.1 from e2];rw [ec] at q;dsimp only at q;obtain ⟨t1,t2,⟨dx,o1⟩,o2⟩:=id ce;walk_at "ev";refine aK o1 T.c.cN T.c.dF fZ ?_;walk_at "ev";refine Xf (fun z=>?_) (fun z=>?_)
  ·rw [if_neg z] at q;walk_at "ev";exact q
  ·rw [if_pos z] at q;walk_at "ev";refine aK ow T.cW T.Nu bw ?_;walk_at "ev";refine aK os T.cS T.n2 iH ?_;walk_at "ev";refine vB (fun y=>?_) (fun y=>?_)
   ·walk_at "ev";refine ⟨_,_,rfl,Tg,s,A,M,_,p,c,j,rfl,ce,rfl,?_⟩;walk_at "ev";have:decide (M.sw.phase="give"∧c.tone≠M.sw.sense)=!decide (c.tone=M.sw.sense):=by simp [y]
    rw [this] at q;exact q
   ·have:decide (M.sw.phase="give"∧c.tone≠M.sw.sense)=false:=decide_eq_false fun w=>y w.1;rw [this] at q;exact q
theorem Zjy {wo:Addr}{pl:V} (T:pD K X) (q:∃ x,pl=oV x∧∃ T s A M,WT H T∧s≠0∧WJ X H T s A M∧A.wo=wo∧(M.sw.phase="walk"→M.sw.grey.length≤20000)∧
 ∀ H',iG s H H' T T→WJ X H' T s A (bL M x).2→Q (oV (bL M x).1) H'):Th K (dG X.H) (cC X) ⟨n,Q,bk,ct⟩ [some (.ref wo),some pl,none,none] H:=by
 obtain ⟨x,rfl,Tg,s,A,M,w,s0,j,rfl,hg,q⟩:=q;obtain ⟨d1,ow⟩:=j.jb.ow;obtain ⟨d2,os⟩:=j.js.os;unfold Th;walk_at "ev";refine aK ow T.cW T.Nu bw ?_;walk_at "ev";refine aK ow T.cW T.Iw bx ?_;walk_at "ev";refine ⟨_,_,rfl,vP x,_,_,_,_,_,j.hpO,?_⟩;walk_at "ev";refine aK os T.cS T.n2 iH ?_;walk_at "ev";have stay:bL M x=(none,M)→Q .non H:=fun e=>by
  have:=q H (iG.refl w);rw [e] at this;exact this j
 refine Xf (fun z=>?_) (fun z=>?_)
 ·walk_at "ev";exact stay (ZL z x)
 ·rcases j.look x with ⟨e1,e2⟩ | ⟨i,c,p,rfl,h0,ec,hc,hp,e2,ce⟩
  ·rw [e2];walk_at "ev";refine stay ?_;cases x with
   | none=>rfl
   | some i=>unfold bL;dsimp only;rw [show cellAt M i=none from e1]
  ·rw [e2];obtain ⟨t1,t2,⟨dx,o1⟩,o2⟩:=id ce;walk_at "ev";refine ⟨_,_,rfl,Tg,s,A,M,_,p,c,j.w0,rfl,ce,rfl,?_⟩
   by_cases y:c.tone=M.sw.sense
   ·rw [decide_eq_true y];walk_at "ev";refine stay ?_;unfold bL;dsimp only;rw [ec];dsimp only;rw [if_neg fun w=>w.2 y]
   ·rw [decide_eq_false y];have en:bL M (some i)=(some c.birth,{ setCell M i { c with tone:=M.sw.sense } with sw:={ M.sw with grey:=M.sw.grey ++ [i] } }):=by
     unfold bL;dsimp only;rw [ec];dsimp only;rw [if_pos ⟨z,y⟩]
    rw [en] at q;walk_at "ev";refine aK os T.cS T.n1 mW ?_;walk_at "ev";refine ⟨p.1,X.C,dx,_,rfl,o1,T.c.cN,T.c.kJ,by show 5 < 1000;decide,?_⟩;rw [M9];obtain ⟨st1,j1⟩:=j.cell w s0 (dx:=dx) (tone:=M.sw.sense) (load:=c.load) hp ce;generalize upd H p.1 (.ins X.C dx (lW c.birth c.bulk M.sw.sense c.load p.2))=H1 at st1 j1 ⊢;obtain ⟨d3,os1⟩:=j1.js.os;obtain ⟨p1,hp1,ce1⟩:=j1.jc.at (i:=i.toNat) (c:={ c with tone:=M.sw.sense,load:=c.load }) (by rw [List.getElem?_set_self (dN hc).1]);rw [hp] at hp1;cases hp1;walk_at "ev";refine aK os1 T.cS T.n3 oG ?_;walk_at "ev";have hgl:=hg z;refine ⟨.inl ⟨rfl,_,dz.of j1.js.og⟩,?_⟩;walk_at "ev";refine ⟨_,_,_,rfl,rfl,j1.js.og,?_,?_⟩
    ·rw [bD];exact Nat.lt_of_le_of_lt hgl (by decide)
    obtain ⟨st2,j2⟩:=j1.Zlz st1.wt s0 (g:=M.sw.grey ++ [i]);have eg:(M.sw.grey.map V.int ++ [V.int i])=(M.sw.grey ++ [i]).map V.int:=by rw [List.map_append];rfl
    show bM _ _ _ (upd H1 A.gr (.lst (M.sw.grey.map V.int ++ [oV (some i)])));rw [show (M.sw.grey.map V.int ++ [oV (some i)])=(M.sw.grey ++ [i]).map V.int from eg];generalize upd H1 A.gr (.lst ((M.sw.grey ++ [i]).map V.int))=H2 at st2 j2 ⊢;obtain ⟨p2,hp2,ce2⟩:=j2.jc.at (i:=i.toNat) (c:={ c with tone:=M.sw.sense,load:=c.load }) (by show (M.cells.set _ _)[_]? =_;rw [List.getElem?_set_self (dN hc).1]);rw [hp] at hp2;cases hp2;obtain ⟨_,_,⟨dx2,o3⟩,_⟩:=ce2;walk_at "ev";refine aK o3 T.c.cN T.c.dF fZ ?_;exact q H2 (st1.trans st2) j2
theorem Zn9 {Tg:Tg}{z:Str}:∀ {ns:List Addr}{names:List (Str×(Int×Int))},Al (NmO H Tg) ns names→(vW names z=none∧lX (yr names ns) (Sum.inr z)=none)∨∃ p b t,vW names z=some (p,b)∧lX (yr names ns) (Sum.inr z)=some (.ref t)∧H t=some (.tup [.int p,.int b])∧Tg t=(0,0):=by
 intro ns names h
 induction h with
 | nil=>exact .inl ⟨rfl,rfl⟩
 | @cons t m ns names h1 _ ih=>
  by_cases e:m.1=z
  ·refine .inr ⟨m.2.1,m.2.2,t,?_,?_,h1.2,h1.1⟩
   ·unfold vW;rw [List.find?_cons_of_pos (by simpa using e)];rfl
   ·show (List.find? _ ((Sum.inr m.1,V.ref t) :: yr names ns)).map _=_;rw [List.find?_cons_of_pos (by simpa using e)];rfl
  ·have g:vW (m :: names) z=vW names z:=by unfold vW;rw [List.find?_cons_of_neg (by simpa using e)]
   have v:lX (yr (m :: names) (t :: ns)) (Sum.inr z)=lX (yr names ns) (Sum.inr z):=by
    show (List.find? _ ((Sum.inr m.1,V.ref t) :: yr names ns)).map _=_;rw [List.find?_cons_of_neg (by simpa using e)];rfl
   rw [g,v];exact ih
theorem Lb {wo:Addr}{z:Str} (T:pD K X) (q:∃ T s A M,WJ X H T s A M∧A.wo=wo∧(vW M.names z=none→E (.ref CN) none H)∧(∀ p b,vW M.names z=some (p,b)→Q (if pJ M p b=true then .non else .int p) H)):
  sI K CN (CP X) E ⟨n,Q,bk,ct⟩ [some (.ref wo),some (.str z),none,none] H:=by
 obtain ⟨Tg,s,A,M,j,rfl,hE,hQ⟩:=q;obtain ⟨d1,ow⟩:=j.jb.ow;obtain ⟨tm,om,nms⟩:=j.jn;unfold sI;walk_at "ev";refine aK ow T.cW T.nWn lK ?_;refine ⟨_,_,rfl,Zhz om,?_⟩;rcases Zn9 (z:=z) nms with ⟨e1,e2⟩ | ⟨p,b,t,e1,e2,ot,_⟩
 ·rw [e2];walk_at "ev";exact ⟨by decide,hE e1⟩
 ·rw [e2,show (!(some (V.ref t)).isSome)=false from rfl];walk_at "ev";refine aK ow T.cW T.nWn lK ?_;walk_at "ev";refine ⟨_,_,rfl,by have:=Zhz (z:=z) om;rw [e2] at this;exact this,?_⟩;walk_at "ev";refine ⟨t,_,0,_,rfl,rfl,iQ.of ot,rfl,?_⟩;walk_at "ev";refine aK ow T.cW T.nWn lK ?_;walk_at "ev";refine ⟨_,_,rfl,by have:=Zhz (z:=z) om;rw [e2] at this;exact this,?_⟩;walk_at "ev";refine ⟨t,_,1,_,rfl,rfl,iQ.of ot,rfl,?_⟩;walk_at "ev";refine ⟨_,_,_,rfl,Tg,s,A,M,j.w0,rfl,?_⟩;have:=hQ p b e1;cases hg:pJ M p b with
  | true=>
   rw [hg] at this;walk_at "ev";exact this
  | false=>
   rw [hg] at this;walk_at "ev";exact this
theorem iG.new {s:Nat}{H Hx:Hp}{T Tx:Tg}{l:Addr}{o o0:HO} (e:iG s H Hx T Tx) (hl:H l=none) (hx:Hx l=some o0):iG s H (upd Hx l o) T Tx where
 kp:=fun b u h z=>by rw [aB (aD h hl)];exact e.kp b u h z
 al:=fun b u h=>by rw [aB (aD h hl)];exact e.al b u h
 tg:=e.tg
 wt:=fun b h=>e.wt b (by
  by_cases z:b=l
  ·rw [z,aq] at h;cases h
  ·rw [aB z] at h;exact h)
theorem iG.fresh {s:Nat}{H:Hp}{T:Tg}{l:Addr}{o:HO}{v:Nat×Nat} (w:WT H T) (hl:H l=none):iG s H (upd H l o) T (jq T l v) where
 kp:=fun b u h z=>by rw [aB (aD h hl)];exact h
 al:=fun b u h=>⟨u,by rw [aB (aD h hl)];exact h⟩
 tg:=fun b u h=>jX (aD h hl)
 wt:=fun b h=>by
  by_cases z:b=l
  ·rw [z,aq] at h;cases h
  ·rw [aB z] at h;rw [jX z];exact w b h
theorem ZM {M:Wm}{x:Option Int}:(bL M x).2.sw.phase=M.sw.phase∧(bL M x).2.sw.grey.length≤M.sw.grey.length + 1∧(bL M x).2.tells=M.tells∧(bL M x).2.names=M.names:=by
 cases x with
 | none=>exact ⟨rfl,Nat.le_succ _,rfl,rfl⟩
 | some i=>
  unfold bL;dsimp only;cases cellAt M i with
  | none=>exact ⟨rfl,Nat.le_succ _,rfl,rfl⟩
  | some c=>
   dsimp only
   by_cases z:M.sw.phase="walk"∧c.tone≠M.sw.sense
   ·rw [if_pos z];exact ⟨rfl,by show (M.sw.grey ++ [i]).length≤_;rw [List.length_append];exact Nat.le_refl _,rfl,rfl⟩
   ·rw [if_neg z];exact ⟨rfl,Nat.le_succ _,rfl,rfl⟩
theorem Iv {M:Wm}{x:Option Int}:(bL M x).2.hands=M.hands:=by
 cases x with
 | none=>rfl
 | some i=>
  unfold bL;dsimp only;cases cellAt M i with
  | none=>rfl
  | some c=>
   dsimp only;split<;>rfl
theorem ZP {M:Wm}{x:Option Int}{k:Nat}{c:Ce} (h:M.cells[k]? =some (some c)):∃ c',(bL M x).2.cells[k]? =some (some c')∧c'.fl=c.fl∧c'.birth=c.birth∧c'.bulk=c.bulk∧c'.load=c.load:=by
 cases x with
 | none=>exact ⟨c,h,rfl,rfl,rfl,rfl⟩
 | some i=>
  unfold bL;dsimp only;cases hc:cellAt M i with
  | none=>exact ⟨c,h,rfl,rfl,rfl,rfl⟩
  | some d=>
   dsimp only;split
   ·show ∃ c',(M.cells.set i.toNat _)[k]? =_∧_
    by_cases z:i.toNat=k
    ·subst z;obtain ⟨_,hd⟩:=cu.mp hc;rw [h] at hd;cases hd;exact ⟨_,List.getElem?_set_self (dN h).1,rfl,rfl,rfl,rfl⟩
    ·rw [List.getElem?_set_ne z];exact ⟨c,h,rfl,rfl,rfl,rfl⟩
   ·exact ⟨c,h,rfl,rfl,rfl,rfl⟩
theorem jP:∀ {l:List (Option Int)}{M:Wm}{x:Option Int},aU M (l ++ [x])=((aU M l).1 ++ ZK (bL (aU M l).2 x).1,(bL (aU M l).2 x).2)
 | [],M,x=>by
  show (ZK (bL M x).1 ++ [],(bL M x).2)=([] ++ ZK (bL M x).1,(bL M x).2);rw [List.append_nil,List.nil_append]
 | y :: l,M,x=>by
  show (ZK (bL M y).1 ++ (aU (bL M y).2 (l ++ [x])).1,(aU (bL M y).2 (l ++ [x])).2)=_;rw [jP];show _=((ZK (bL M y).1 ++ (aU (bL M y).2 l).1) ++ _,_);rw [List.append_assoc];rfl
theorem tX:∀ {l:List (Option Int)}{M:Wm},(aU M l).2.sw.phase=M.sw.phase∧(aU M l).2.sw.grey.length≤M.sw.grey.length + l.length
 | [],M=>⟨rfl,Nat.le_refl _⟩
 | y :: l,M=>by
  obtain ⟨a,b,_⟩:=ZM (M:=M) (x:=y);obtain ⟨c,d⟩:=tX (l:=l) (M:=(bL M y).2);refine ⟨c.trans a,?_⟩;show (aU (bL M y).2 l).2.sw.grey.length≤_;rw [List.length_cons];omega
theorem xP:∀ {l:List (Option Int)}{M:Wm},(aU M l).1.length≤l.length
 | [],M=>Nat.le_refl _
 | y :: l,M=>by
  have:=xP (l:=l) (M:=(bL M y).2);show (ZK (bL M y).1 ++ (aU (bL M y).2 l).1).length≤_;rw [List.length_append,List.length_cons];have:(ZK (bL M y).1).length≤1:=by cases (bL M y).1<;>simp [ZK]
  omega
theorem WR {wo pl:Addr} (T:pD K X) (q:∃ xs T s A M,WT H T∧s≠0∧WJ X H T s A M∧A.wo=wo∧PlO H T A M pl xs∧xs.length≤100∧(M.sw.phase="walk"→M.sw.grey.length≤10000)∧
 ∀ H' T' l,iG s H H' T T'→WJ X H' T' s A (aU M xs).2→H' l=some (.lst ((aU M xs).1.map V.int))→H l=none→Q (.ref l) H'):zm K (Vu X) ⟨n,Q,bk,ct⟩ [some (.ref wo),some (.ref pl),none,none,none] H:=by
 obtain ⟨xs,Tg,s,A,M,w,s0,j,rfl,plo,hx,hg,q⟩:=q;have opl:=plo.get j;unfold zm;walk_at "ev";refine ⟨aW (by simp),fun l hl=>?_⟩;have npl:pl≠l:=aD opl hl;have st1:iG s H (upd H l (.lst [])) Tg (jq Tg l (s + 1,0)):=iG.fresh w hl;have j1:WJ X (upd H l (.lst [])) (jq Tg l (s + 1,0)) s A M:=j.fresh hl;have g1:upd H l (.lst []) l=some (.lst []):=aq;have tl:jq Tg l (s + 1,0) l=(s + 1,0):=iB;have po1:PlO (upd H l (.lst [])) (jq Tg l (s + 1,0)) A M pl xs:=by
  rcases plo with ⟨h1,h2⟩ | h
  ·exact .inl ⟨(aB npl).trans h1,(jX npl).trans h2⟩
  ·exact .inr h
 have op1:upd H l (.lst []) pl=some (.lst (xs.map oV)):=(aB npl).trans opl;generalize upd H l (.lst [])=H1 at st1 j1 g1 op1 po1 ⊢;generalize jq Tg l (s + 1,0)=T1 at st1 j1 tl po1;walk_at "ev";refine ⟨pl,rfl,⟨_,dz.of op1⟩,forL (xs.map oV) (fun i σ Hx=>∃ v3 v4,σ=[some (.ref A.wo),some (.ref pl),some (.ref l),v3,v4]∧iG s H Hx Tg T1∧WJ X Hx T1 s A (aU M (xs.take i)).2∧Hx l=some (.lst ((aU M (xs.take i)).1.map V.int))∧PlO Hx T1 A (aU M (xs.take i)).2 pl xs) ⟨_,_,rfl,st1,j1,g1,po1⟩ (fun _ _ _ _ ⟨_,_,_,_,j,_,e⟩=>dz.of (e.get j)) ?_ ?_⟩
 ·rintro i x σ Hx hi ⟨v3,v4,rfl,st2,j2,g2,op2⟩;obtain ⟨y,hy,rfl⟩:∃ y,xs[i]? =some y∧oV y=x:=by
   rw [cP] at hi;obtain ⟨y,a,b⟩:=Option.map_eq_some_iff.mp hi;exact ⟨y,a,b⟩
  have il:=(dN hy).1;have et:xs.take (i + 1)=xs.take i ++ [y]:=by
   rw [List.take_add_one,hy];rfl
  obtain ⟨gp,gl⟩:=tX (l:=xs.take i) (M:=M);have nl:=xP (l:=xs.take i) (M:=M);have tk:(xs.take i).length≤100:=by rw [List.length_take];omega
  walk_at "ev";refine ⟨_,_,rfl,y,rfl,T1,s,A,_,st2.wt,s0,j2,rfl,fun z=>?_,fun Hy sty jy=>?_⟩
  ·have:=hg (gp.symm.trans z);omega
  have gy:Hy l=some (.lst ((aU M (xs.take i)).1.map V.int)):=sty.kp _ _ g2 (by rw [tl];show s + 1≠s;omega);have oy:PlO Hy T1 A (bL (aU M (xs.take i)).2 y).2 pl xs:=by
   rcases op2 with ⟨h1,h2⟩ | ⟨k,p,m,h1,h2,h3,h4⟩ | ⟨k,p,c,h1,h2,h3,h4⟩
   ·exact .inl ⟨sty.kp _ _ h1 (by rw [h2];exact fun z=>s0 z.symm),h2⟩
   ·exact .inr (.inl ⟨k,p,m,h1,by rw [Iv];exact h2,h3,h4⟩)
   ·obtain ⟨c',e1,e2,_⟩:=ZP (x:=y) h2;exact .inr (.inr ⟨k,p,c',h1,e1,h3,by rw [e2];exact h4⟩)
  have stt:=st2.trans sty;walk_at "ev";cases hn:(bL (aU M (xs.take i)).2 y).1 with
  | none=>
   dsimp only [oV];walk_at "ev";refine ⟨_,_,rfl,stt,?_,?_,by rw [et,jP];exact oy⟩
   ·rw [et,jP];exact jy
   ·rw [et,jP];show Hy l=some (.lst (((aU M (xs.take i)).1 ++ ZK (bL (aU M (xs.take i)).2 y).1).map V.int));rw [hn];show Hy l=some (.lst (((aU M (xs.take i)).1 ++ []).map V.int));rw [List.append_nil];exact gy
  | some b=>
   dsimp only [oV];walk_at "ev";refine ⟨.inl ⟨rfl,_,dz.of gy⟩,?_⟩;walk_at "ev";refine ⟨_,_,_,rfl,rfl,gy,?_,?_⟩
   ·rw [bD];exact Nat.lt_of_le_of_lt (show _≤100 by omega) (by decide)
   walk_at "ev";refine ⟨_,_,rfl,iG.new stt hl gy,?_,?_,?_⟩
   ·rw [et,jP];exact jy.other (s':=s + 1) (iG.upd sty.wt gy (by rw [tl])) (by omega) (by omega)
   ·rw [et,jP,aq];show some (HO.lst _)=some (HO.lst (((aU M (xs.take i)).1 ++ ZK (bL (aU M (xs.take i)).2 y).1).map V.int));rw [hn,List.map_append];rfl
   ·rw [et,jP];rcases oy with ⟨h1,h2⟩ | h
    ·exact .inl ⟨by rw [aB npl];exact h1,h2⟩
    ·exact .inr h
 ·rintro σ Hx ⟨v3,v4,rfl,st2,j2,g2,op2⟩;walk_at "ev";rw [show (xs.map oV).length=xs.length from bD _,List.take_length] at j2 g2;exact q Hx T1 l st2 j2 g2 hl
end
theorem pM {M:Wm}{h k:Nat}{x:Option Int}{m:Str×List (Option Int)} (hm:M.hands[h]? =some m):{ M with hands:=M.hands.set h (m.1,m.2.set k x) }=setSlot M h k x:=by
 have e:=N6 (k:=k) (x:=x) hm;show _={ M with hands:=_ };rw [show (M.hands.modify h fun m=>(m.1,m.2.set k x))=M.hands.set h (m.1,m.2.set k x) from e]
def Hu (d:mQ):Prop:=∃ h s many bulk,d=.make h s many bulk
def Q9 (d:mQ):Prop:=∃ h s t f,d=.get h s t f
def Q8 (d:mQ):Prop:=∃ h t f s,d=.put h t f s
def Hz (d:mQ):Prop:=∃ h s t,d=.copy h s t
def Hw (d:mQ):Prop:=∃ h s,d=.drop h s
def Hv (d:mQ):Prop:=∃ h s g t,d=.give h s g t
def Ah (d:mQ):Prop:=∃ h t load,d=.write h t load
def Ht (d:mQ):Prop:=∃ h t,d=.read h t
def isName (d:mQ):Prop:=∃ h t word,d=.name h t word
def Hs (d:mQ):Prop:=∃ h s word,d=.seek h s word
abbrev Aa (X:Cs) (rf:Rf→Addr) (P:mQ→Prop) (wo dd:Addr) (H:Hp) (Q:VK) (E:XK):Prop:=∃ T s A M d,P d∧WT H T∧s≠0∧WJ X H T s A M∧A.wo=wo∧H dd=some (.tup (dV d))∧okD M d∧M.cells.length≤900∧(M.sw.phase="walk"→M.sw.grey.length≤10000)∧(0≤M.tells∧M.tells < 4)∧M.names.length≤1000∧
 (∀ r,rz M d=.error r→∀ H',aX H H'→E (.ref (rf r)) none H')∧
 (∀ e M',rz M d=.ok (e,M')→∀ H' T' A' a,iG s H H' T T'→WJ X H' T' s A' M'→A'.wo=wo→EvN H H' a e→Q (.ref a) H')
section
variable {X:Cs}{H Hx:Hp}{T Tx:Tg}{s:Nat}{A Ax:Wa}{M M':Wm}{d:mQ}{e:Ev}{wo:Addr}{Q:VK}
theorem iG.free {s:Nat}{H Hx:Hp}{T Tx:Tg}{l:Addr} (e:iG s H Hx T Tx) (h:Hx l=none):H l=none:=by
 cases z:H l with
 | none=>rfl
 | some o=>obtain ⟨o',z'⟩:=e.al l o z;rw [h] at z';cases z'
theorem ev0 (hQ:∀ e M',rz M d=.ok (e,M')→∀ H' T' A' a,iG s H H' T T'→WJ X H' T' s A' M'→A'.wo=wo→EvN H H' a e→Q (.ref a) H') (he:rz M d=.ok (e,M')) (hn:e.notes=[]) (st:iG s H Hx T Tx) (j:WJ X Hx Tx s Ax M') (aw:Ax.wo=wo) {l a:Addr} (hl:Hx l=none) (ha:upd Hx l (.lst []) a=none):
  Q (.ref a) (upd (upd Hx l (.lst [])) a (.tup [.str e.word,oV e.thing,.ref l])):=by
 have s1:=aM hl (.lst []);have s2:=aM ha (.tup [.str e.word,oV e.thing,.ref l]);have s3:=s1.trans s2;refine hQ e M' he _ Tx Ax a (st.trans (iG.same st.wt s3)) (j.same s3) aw ⟨l,iG.free st hl,aq,?_⟩;rw [hn];exact s2 _ _ aq
theorem ev1 {l a:Addr} (hl0:H l=none) (hQ:∀ e M',rz M d=.ok (e,M')→∀ H' T' A' a,iG s H H' T T'→WJ X H' T' s A' M'→A'.wo=wo→EvN H H' a e→Q (.ref a) H') (he:rz M d=.ok (e,M')) (st:iG s H Hx T Tx) (j:WJ X Hx Tx s Ax M') (aw:Ax.wo=wo) (hl:Hx l=some (.lst (e.notes.map V.int))) (ha:Hx a=none):
  Q (.ref a) (upd Hx a (.tup [.str e.word,oV e.thing,.ref l])):=by
 have s2:=aM ha (.tup [.str e.word,oV e.thing,.ref l]);exact hQ e M' he _ Tx Ax a (st.trans (iG.same st.wt s2)) (j.same s2) aw ⟨l,hl0,aq,s2 _ _ hl⟩
end
theorem Ir {M:Wm}{i:Int}{c c':Ce} (h:cellAt M i=some c) (hb:c'.birth=c.birth) (x:Option Int):vY (setCell M i c') x=vY M x:=by
 cases x with
 | none=>rfl
 | some y=>
  obtain ⟨h0,h1⟩:=cu.mp h;show (cellAt (setCell M i c') y).map _=(cellAt M y).map _
  by_cases e:y=i
  ·subst e;rw [h,show cellAt (setCell M y c') y=some c' from cu.mpr ⟨h0,by show (M.cells.set _ _)[_]? =_;rw [List.getElem?_set_self (dN h1).1]⟩];show some c'.birth=some c.birth;rw [hb]
  ·have:cellAt (setCell M i c') y=cellAt M y:=by
    unfold cellAt setCell
    by_cases z:0≤y
    ·rw [if_pos z,if_pos z];show ((M.cells.set _ _)[_]?).join=_;rw [List.getElem?_set_ne (by omega)]
    ·rw [if_neg z,if_neg z]
   rw [this]
theorem Zcs {M:Wm}{y:Option Int} (x:Option Int):vY (bL M y).2 x=vY M x:=by
 cases y with
 | none=>rfl
 | some i=>
  unfold bL;dsimp only;cases hc:cellAt M i with
  | none=>rfl
  | some c=>
   dsimp only
   by_cases z:M.sw.phase="walk"∧c.tone≠M.sw.sense
   ·rw [if_pos z];have e:=Ir (M:=M) (i:=i) (c:=c) (c':={ c with tone:=M.sw.sense }) hc rfl x;cases x with
    | none=>rfl
    | some y=>exact e
   ·rw [if_neg z]
theorem xQ:∀ {l:List (Option Int)}{M:Wm} (x:Option Int),vY (aU M l).2 x=vY M x
 | [],_,_=>rfl
 | y :: l,M,x=>(xQ (l:=l) (M:=(bL M y).2) x).trans (Zcs x)
theorem Zh0 {b:Bool}{x:Option Int}:(if b=true then [oV x] else [])=(if b=true then [x] else []).map oV:=by cases b<;>rfl
section
variable {K:aC}{X:Cs}{H:Hp}{Q:VK}{E:XK}{n:St→Hp→Prop}{bk ct:St→Hp→Prop}{rf:Rf→Addr}
theorem Zaj {wo dd:Addr} (T:pD K X) (q:Aa X rf Hz wo dd H Q E):Ck K (cB X) (bV X) ⟨n,Q,bk,ct⟩ [some (.ref wo),some (.ref dd),none,none] H:=by
 obtain ⟨Tg,s,A,M,_,⟨h,sl,t,rfl⟩,w,s0,j,rfl,od,⟨o1,o2⟩,hc,hg,ht,hn,hE,hQ⟩:=q;obtain ⟨p,m,hp,hm,hs,hl,hd⟩:=j.handOf o2;obtain ⟨m',hm',_,hl'⟩:=WQ o1;rw [hm] at hm';cases hm';unfold Ck;walk_at "ev";refine ⟨dd,_,1,_,rfl,rfl,iQ.of od,rfl,?_⟩;walk_at "ev";refine ⟨_,_,rfl,Tg,s,A,M,h,p,j,rfl,rfl,hp,?_⟩;walk_at "ev";refine ⟨dd,_,3,_,rfl,rfl,iQ.of od,rfl,?_⟩;refine j6 (dz.of hd.o2) (jL (v:=oV (aR M h t)) (by rw [cP,hs];rfl)) ?_;walk_at "ev";refine ⟨dd,_,2,_,rfl,rfl,iQ.of od,rfl,?_⟩;refine ⟨p.2,_,_,sl,rfl,rfl,hd.o2,rM (by rw [bD];exact hl'),?_⟩;obtain ⟨st1,j1⟩:=j.slot w s0 (k:=sl) (x:=aR M h t) hp hm;rw [pM hm] at j1;generalize upd H p.2 (.lst ((m.2.map oV).set sl (oV (aR M h t))))=H1 at st1 j1 ⊢;obtain ⟨d1,ow⟩:=j1.jb.ow;walk_at "ev";refine aK ow T.cW T.Iw bx ?_;walk_at "ev";refine ⟨_,_,rfl,aR M h t,rfl,Tg,s,A,_,j1,rfl,?_⟩;rw [oA];walk_at "ev";refine ⟨aW (by simp),fun l hl=>⟨aW (by simp),fun a ha=>?_⟩⟩;exact ev0 hQ (d:=.copy h sl t) rfl rfl st1 j1 rfl hl ha
theorem Zai {wo dd:Addr} (T:pD K X) (q:Aa X rf Hw wo dd H Q E):Cj K (cB X) (bV X) ⟨n,Q,bk,ct⟩ [some (.ref wo),some (.ref dd),none,none] H:=by
 obtain ⟨Tg,s,A,M,_,⟨h,sl,rfl⟩,w,s0,j,rfl,od,o1,hc,hg,ht,hn,hE,hQ⟩:=q;obtain ⟨p,m,hp,hm,hs,hl,hd⟩:=j.handOf o1;unfold Cj;walk_at "ev";refine ⟨dd,_,1,_,rfl,rfl,iQ.of od,rfl,?_⟩;walk_at "ev";refine ⟨_,_,rfl,Tg,s,A,M,h,p,j,rfl,rfl,hp,?_⟩;walk_at "ev";refine ⟨dd,_,2,_,rfl,rfl,iQ.of od,rfl,?_⟩;refine j6 (dz.of hd.o2) (jL (v:=oV (aR M h sl)) (by rw [cP,hs];rfl)) ?_;walk_at "ev";refine ⟨dd,_,2,_,rfl,rfl,iQ.of od,rfl,?_⟩;refine ⟨p.2,_,_,sl,rfl,rfl,hd.o2,rM (by rw [bD];exact hl),?_⟩;obtain ⟨st1,j1⟩:=j.slot w s0 (k:=sl) (x:=none) hp hm;rw [pM hm] at j1;show bM _ _ _ (upd H p.2 (.lst ((m.2.map oV).set sl (oV none))));generalize upd H p.2 (.lst ((m.2.map oV).set sl (oV none)))=H1 at st1 j1 ⊢;obtain ⟨d1,ow⟩:=j1.jb.ow;walk_at "ev";refine aK ow T.cW T.Iw bx ?_;walk_at "ev";refine ⟨_,_,rfl,aR M h sl,rfl,Tg,s,A,_,j1,rfl,?_⟩;rw [oA];walk_at "ev";refine ⟨aW (by simp),fun l hl=>⟨aW (by simp),fun a ha=>?_⟩⟩;exact ev0 hQ (d:=.drop h sl) rfl rfl st1 j1 rfl hl ha
theorem Zah {wo dd:Addr} (T:pD K X) (q:Aa X rf Hv wo dd H Q E):Cg K (cB X) (eN X) (bV X) (nU X) ⟨n,Q,bk,ct⟩ [some (.ref wo),some (.ref dd),none,none,none,none] H:=by
 obtain ⟨Tg,s,A,M,_,⟨h,sl,g,t,rfl⟩,w,s0,j,rfl,od,⟨o1,o2⟩,hc,hg,ht,hn,hE,hQ⟩:=q;obtain ⟨p,m,hp,hm,hs,hl,hd⟩:=j.handOf o1;obtain ⟨p',m',hp',hm',hs',hl',hd'⟩:=j.handOf o2;unfold Cg;walk_at "ev";refine ⟨dd,_,1,_,rfl,rfl,iQ.of od,rfl,?_⟩;walk_at "ev";refine ⟨dd,_,3,_,rfl,rfl,iQ.of od,rfl,?_⟩;walk_at "ev";refine ⟨_,_,rfl,Tg,s,A,M,h,p,j,rfl,rfl,hp,?_⟩;walk_at "ev";refine ⟨dd,_,2,_,rfl,rfl,iQ.of od,rfl,?_⟩;refine j6 (dz.of hd.o2) (jL (v:=oV (aR M h sl)) (by rw [cP,hs];rfl)) ?_;walk_at "ev";refine ⟨_,_,rfl,Tg,s,A,M,g,p',j,rfl,rfl,hp',?_⟩;walk_at "ev";refine ⟨dd,_,4,_,rfl,rfl,iQ.of od,rfl,?_⟩;refine ⟨p'.2,_,_,t,rfl,rfl,hd'.o2,rM (by rw [bD];exact hl'),?_⟩;obtain ⟨st1,j1⟩:=j.slot w s0 (k:=t) (x:=aR M h sl) hp' hm';rw [pM hm'] at j1;generalize upd H p'.2 (.lst ((m'.2.map oV).set t (oV (aR M h sl))))=H1 at st1 j1 ⊢;walk_at "ev";refine ⟨_,_,_,rfl,Tg,s,A,_,h,j1,rfl,ht,rfl,fun l1 hl1=>?_⟩;rw [show (oR (setSlot M g t (aR M h sl)) && !cR (setSlot M g t (aR M h sl)) h)=(oR M && !cR M h) from rfl,Zh0];have s1:=aM hl1 (.lst ((if (oR M && !cR M h)=true then [aR M h sl] else []).map oV));have g1:upd H1 l1 (.lst ((if (oR M && !cR M h)=true then [aR M h sl] else []).map oV)) l1=some (.lst ((if (oR M && !cR M h)=true then [aR M h sl] else []).map oV)):=aq;generalize upd H1 l1 (.lst ((if (oR M && !cR M h)=true then [aR M h sl] else []).map oV))=H2 at s1 g1 ⊢;walk_at "ev";refine ⟨_,_,rfl,_,Tg,s,A,_,st1.wt.same s1,s0,j1.same s1,rfl,.inl ⟨g1,st1.wt _ hl1⟩,by cases (oR M && !cR M h)<;>simp,hg,fun H3 T3 l3 st3 j3 g3 nl3=>?_⟩;obtain ⟨d1,ow⟩:=j3.jb.ow;walk_at "ev";refine aK ow T.cW T.Iw bx ?_;walk_at "ev";refine ⟨_,_,rfl,aR M h sl,rfl,T3,s,A,_,j3,rfl,?_⟩;rw [xQ,oA];walk_at "ev";refine ⟨aW (by simp),fun a ha=>?_⟩;exact ev1 (iG.free st1 (s1.free nl3)) hQ (d:=.give h sl g t) rfl (st1.trans ((iG.same st1.wt s1).trans st3)) j3 rfl g3 ha
theorem Zag {wo dd CF:Addr} (T:pD K X) (hF:rf .full=CF) (q:Aa X rf Hu wo dd H Q E):Cd K X.H (uo K X.C X.H CF) (cB X) (bV X) E ⟨n,Q,bk,ct⟩ [some (.ref wo),some (.ref dd),none,none,none,none] H:=by
 obtain ⟨Tg,s,A,M,_,⟨h,sl,many,bulk,rfl⟩,w,s0,j,rfl,od,⟨o1,m0,m1,b0⟩,hc,hg,ht,hn,hE,hQ⟩:=q;obtain ⟨p,m,hp,hm,hs,hl,hd⟩:=j.handOf o1;obtain ⟨d1,ow⟩:=j.jb.ow;obtain ⟨d2,os⟩:=j.js.os;obtain ⟨th,tc,⟨d3,oh⟩,oc⟩:=j.jh;have hcs:A.cs.length≤900:=by rw [j.jc.lc];exact hc
 unfold Cd;walk_at "ev";refine ⟨dd,_,1,_,rfl,rfl,iQ.of od,rfl,?_⟩;walk_at "ev";refine ⟨_,_,rfl,Tg,s,A,M,h,p,j,rfl,rfl,hp,?_⟩;walk_at "ev";refine ⟨dd,_,3,_,rfl,rfl,iQ.of od,rfl,?_⟩;walk_at "ev";refine ⟨dd,_,4,_,rfl,rfl,iQ.of od,rfl,?_⟩;walk_at "ev";refine aK ow T.cW T.Iw bx ?_;refine ⟨A.hp,d3,_,rfl,oh,Pb,?_⟩;walk_at "ev";refine aK ow T.cW T.Nu bw ?_;walk_at "ev";refine aK os T.cS T.n1 mW ?_;walk_at "ev";refine ⟨_,_,_,_,rfl,A.ca,d3,_,_,_,_,oh,oc,?_,by rw [bD];omega,m0,m1,fun hf H' sm=>?_,fun hf pc fa H1 npc nfa fm a1 a2 co=>?_⟩
 ·intro y hy;obtain ⟨o,ho,rfl⟩:=List.mem_map.mp hy;cases o with
  | none=>exact .inl rfl
  | some g=>
   obtain ⟨i,hi,ei⟩:=List.getElem_of_mem ho;have e:=j.jc.ce i _ _ (bW hi) (bW (by rw [← j.jc.lc];exact hi));rw [ei] at e;cases hcc:M.cells[i]'(by rw [← j.jc.lc];exact hi) with
   | none=>rw [hcc] at e;exact e.elim
   | some c=>
    rw [hcc] at e;obtain ⟨_,_,⟨dx,o1⟩,_⟩:=(show Qk X.C H Tg s i g c from e);exact .inr ⟨g.1,X.C,dx,_,rfl,o1,T.c.cN,T.c.J8⟩
 ·rw [← hF];refine hE .full ?_ H' sm;show (if _ then _ else _)=_;rw [if_neg (by omega)]
 ·obtain ⟨⟨dp,c1⟩,c2⟩:=co;have npf:pc≠fa:=pI c1 c2 (fun z=>by cases z);obtain ⟨T1,st1,j1⟩:=j.put w s0 (H':=H1) (dx:=d3) (used':=M.used + (1 + many + bulk)) (p:=pc) (fa:=fa) (c:=⟨M.born + 1,bulk,M.sw.sense,0,List.replicate many.toNat none⟩)
   (fun b o hb n1 n2=>fm b o hb (by simp [n1,n2])) a1 a2 npc nfa npf ⟨dp,c1⟩ (by rw [c2,List.map_replicate];rfl)
  have ei:((A.cs.map pV).idxOf V.non:Int)=(jW M.cells:Nat):=by rw [(Xk Zfp A.cs).1,j.jc.fst]
  walk_at "ev";rw [ei];refine ⟨dd,_,2,_,rfl,rfl,iQ.of (fm _ _ od ?_),rfl,?_⟩
  ·intro z;rcases List.mem_cons.mp z with z | z
   ·rw [z,oh] at od;cases od
   ·rw [List.mem_singleton.mp z,oc] at od;cases od
  have hd1:=j1.jd.hd h p m hp hm;refine ⟨p.2,_,_,sl,rfl,rfl,hd1.o2,rM (by rw [bD];exact hl),?_⟩;obtain ⟨st2,j2⟩:=j1.slot st1.wt s0 (k:=sl) (x:=some (jW M.cells:Nat)) hp hm;rw [pM (M:={ M with used:=M.used + (1 + many + bulk),born:=M.born + 1,cells:=mD M.cells ⟨M.born + 1,bulk,M.sw.sense,0,List.replicate many.toNat none⟩ }) hm] at j2;show bM _ _ _ (upd H1 p.2 (.lst ((m.2.map oV).set sl (oV (some (jW M.cells:Nat))))));generalize upd H1 p.2 (.lst ((m.2.map oV).set sl (oV (some (jW M.cells:Nat)))))=H2 at st2 j2 ⊢;obtain ⟨d5,ow2⟩:=j2.jb.ow;walk_at "ev";refine aK ow2 T.cW T.Iw bx ?_;walk_at "ev";refine ⟨_,_,rfl,some (jW M.cells:Nat),rfl,T1,s,_,_,j2,rfl,?_⟩;rw [oA];rw [show vY { M with used:=M.used + (1 + many + bulk),born:=M.born + 1,cells:=mD M.cells ⟨M.born + 1,bulk,M.sw.sense,0,List.replicate many.toNat none⟩ } (some (jW M.cells:Nat))=some (M.born + 1) from by
   show (cellAt _ _).map _=_;rw [Zaq];rfl]
  walk_at "ev";refine ⟨aW (by simp),fun l hl=>⟨aW (by simp),fun a ha=>?_⟩⟩;exact ev0 hQ (d:=.make h sl many bulk) (Xw (by omega)) rfl (st1.trans st2) j2 rfl hl ha
end
theorem Ze4 {M:Wm}{h s t f:Nat} (e:cO M (aR M h t)=none):rz M (.get h s t f)=.error .empty:=by
 show (match aR M h t with | none=>_ | some x=>_)=_;cases hs:aR M h t with
 | none=>rfl
 | some x=>
  rw [hs] at e;show (match cellAt M x with | none=>_ | some c=>_)=_;rw [show cellAt M x=none from e]
theorem Ze2 {M:Wm}{h s t f:Nat} (e:cO M (aR M h t)=none):rz M (.put h t f s)=.error .empty:=by
 show (match aR M h t with | none=>_ | some x=>_)=_;cases hs:aR M h t with
 | none=>rfl
 | some x=>
  rw [hs] at e;show (match cellAt M x with | none=>_ | some c=>_)=_;rw [show cellAt M x=none from e]
theorem Xx {M:Wm}{h t:Nat}{l:Int} (e:cO M (aR M h t)=none):rz M (.write h t l)=.error .empty:=by
 show (match aR M h t with | none=>_ | some x=>_)=_;cases hs:aR M h t with
 | none=>rfl
 | some x=>
  rw [hs] at e;show (match cellAt M x with | none=>_ | some c=>_)=_;rw [show cellAt M x=none from e]
theorem Zal {M:Wm}{h t:Nat} (e:cO M (aR M h t)=none):rz M (.read h t)=.error .empty:=by
 show (match aR M h t with | none=>_ | some x=>_)=_;cases hs:aR M h t with
 | none=>rfl
 | some x=>
  rw [hs] at e;show (match cellAt M x with | none=>_ | some c=>_)=_;rw [show cellAt M x=none from e]
theorem Zam {M:Wm}{h t:Nat}{z:Str} (e:cO M (aR M h t)=none):rz M (.name h t z)=.error .empty:=by
 show (match aR M h t with | none=>_ | some x=>_)=_;cases hs:aR M h t with
 | none=>rfl
 | some x=>
  rw [hs] at e;show (match cellAt M x with | none=>_ | some c=>_)=_;rw [show cellAt M x=none from e]
theorem Zhx {M:Wm}{h s t f:Nat}{i:Int}{c:Ce} (e0:aR M h t=some i) (ec:cellAt M i=some c) (hf:c.fl[f]? =none):rz M (.get h s t f)=.error .qm:=by
 show (match aR M h t with | none=>_ | some x=>_)=_;rw [e0];show (match cellAt M i with | none=>_ | some c=>_)=_;rw [ec];show (match c.fl[f]? with | none=>_ | some v=>_)=_;rw [hf]
theorem Zhv {M:Wm}{h s t f:Nat}{i:Int}{c:Ce} (e0:aR M h t=some i) (ec:cellAt M i=some c) (hf:c.fl[f]? =none):rz M (.put h t f s)=.error .qm:=by
 show (match aR M h t with | none=>_ | some x=>_)=_;rw [e0];show (match cellAt M i with | none=>_ | some c=>_)=_;rw [ec];show (match c.fl[f]? with | none=>_ | some v=>_)=_;rw [hf]
theorem Zhw {M:Wm}{h s t f:Nat}{i:Int}{c:Ce}{v:Option Int} (e0:aR M h t=some i) (ec:cellAt M i=some c) (hf:c.fl[f]? =some v):rz M (.get h s t f)=.ok (⟨"got",vY M v,[]⟩,setSlot M h s v):=by
 show (match aR M h t with | none=>_ | some x=>_)=_;rw [e0];show (match cellAt M i with | none=>_ | some c=>_)=_;rw [ec];show (match c.fl[f]? with | none=>_ | some v=>_)=_;rw [hf]
def putL (M:Wm) (h s:Nat) (v:Option Int):List (Option Int):=(if old? M=true then [v] else []) ++ if (oR M && !cR M h)=true then [aR M h s] else []
theorem Zhu {M:Wm}{h s t f:Nat}{i:Int}{c:Ce}{v:Option Int} (e0:aR M h t=some i) (ec:cellAt M i=some c) (hf:c.fl[f]? =some v):rz M (.put h t f s)=.ok (⟨"put",vY M v,(aU (setCell M i { c with fl:=c.fl.set f (aR M h s) }) (putL M h s v)).1⟩,(aU (setCell M i { c with fl:=c.fl.set f (aR M h s) }) (putL M h s v)).2):=by
 show (match aR M h t with | none=>_ | some x=>_)=_;rw [e0];show (match cellAt M i with | none=>_ | some c=>_)=_;rw [ec];show (match c.fl[f]? with | none=>_ | some v=>_)=_;rw [hf];rfl
theorem Zak {M:Wm}{h t:Nat}{l i:Int}{c:Ce} (e0:aR M h t=some i) (ec:cellAt M i=some c):rz M (.write h t l)=.ok (⟨"wrote",some c.load,[]⟩,setCell M i { c with load:=l }):=by
 show (match aR M h t with | none=>_ | some x=>_)=_;rw [e0];show (match cellAt M i with | none=>_ | some c=>_)=_;rw [ec]
theorem Ze1 {M:Wm}{h t:Nat}{i:Int}{c:Ce} (e0:aR M h t=some i) (ec:cellAt M i=some c):rz M (.read h t)=.ok (⟨"read",some c.load,[]⟩,M):=by
 show (match aR M h t with | none=>_ | some x=>_)=_;rw [e0];show (match cellAt M i with | none=>_ | some c=>_)=_;rw [ec]
theorem Ze3 {M:Wm}{h t:Nat}{z:Str}{i:Int}{c:Ce} (e0:aR M h t=some i) (ec:cellAt M i=some c):rz M (.name h t z)=.ok (⟨"named",some c.birth,[]⟩,{ M with names:=tQ M.names z (i,c.birth) }):=by
 show (match aR M h t with | none=>_ | some x=>_)=_;rw [e0];show (match cellAt M i with | none=>_ | some c=>_)=_;rw [ec]
section
variable {X:Cs}{H H':Hp}{T T':Tg}{s:Nat}{A:Wa}{M:Wm}
theorem Zn8 {z:Str}{v:Int×Int}{t:Addr} (ht:NmO H T t (z,v)):∀ {ns:List Addr}{names:List (Str×(Int×Int))},Al (NmO H T) ns names→(∃ ns',(yr names ns).map (fun kv=>if kv.1=Sum.inr z then (kv.1,V.ref t) else kv)=yr (names.map fun m=>if m.1=z then (m.1,v) else m) ns'∧Al (NmO H T) ns' (names.map fun m=>if m.1=z then (m.1,v) else m))∧
  ((yr names ns).any fun kv=>decide (kv.1=Sum.inr z))=(names.any fun m=>decide (m.1=z))∧yr names ns ++ [(Sum.inr z,V.ref t)]=yr (names ++ [(z,v)]) (ns ++ [t])∧Al (NmO H T) (ns ++ [t]) (names ++ [(z,v)]):=by
 intro ns names h
 induction h with
 | nil=>exact ⟨⟨[],rfl,.nil⟩,rfl,rfl,.cons ht .nil⟩
 | @cons a m ns names h1 _ ih=>
  obtain ⟨⟨ns',e1,e2⟩,e3,e4,e5⟩:=ih;refine ⟨?_,?_,?_,.cons h1 e5⟩
  ·by_cases e:m.1=z
   ·refine ⟨t :: ns',?_,?_⟩
    ·show (if (Sum.inr m.1:Int ⊕ Str)=Sum.inr z then _ else _) :: _=_;rw [if_pos (by rw [e]),List.map_cons,if_pos e];show _ :: _=(Sum.inr m.1,V.ref t) :: yr _ ns';rw [← e1];rfl
    ·rw [List.map_cons,if_pos e];exact .cons (by rw [e];exact ht) e2
   ·refine ⟨a :: ns',?_,?_⟩
    ·show (if (Sum.inr m.1:Int ⊕ Str)=Sum.inr z then _ else _) :: _=_;rw [if_neg (fun w=>e (Sum.inr.inj w)),List.map_cons,if_neg e];show _ :: _=(Sum.inr m.1,V.ref a) :: yr _ ns';rw [← e1];rfl
    ·rw [List.map_cons,if_neg e];exact .cons h1 e2
  ·show (decide ((Sum.inr m.1:Int ⊕ Str)=Sum.inr z) || (yr names ns).any _)=(decide (m.1=z) || names.any _);rw [e3];congr 1
   by_cases e:m.1=z<;>simp [e]
  ·show (Sum.inr m.1,V.ref a) :: (yr names ns ++ _)=(Sum.inr m.1,V.ref a) :: yr (names ++ _) (ns ++ _);rw [e4]
theorem Zg1 {ns:List Addr}{names:List (Str×(Int×Int))} (h:Al (NmO H T) ns names):(yr names ns).length=names.length:=by
 induction h with
 | nil=>rfl
 | @cons a m ns names h1 _ ih=>show (_ :: yr names ns).length=_;rw [List.length_cons,List.length_cons,ih]
theorem WJ.named (j:WJ X H T s A M) (w:WT H T) (h0:s≠0) {z:Str}{v:Int×Int}{t:Addr} (ht:NmO H T t (z,v)):∃ ns',iG s H (upd H A.nm (.dK (putK (yr M.names A.ns) (Sum.inr z) (.ref t)))) T T∧
  WJ X (upd H A.nm (.dK (putK (yr M.names A.ns) (Sum.inr z) (.ref t)))) T s { A with ns:=ns' } { M with names:=tQ M.names z v }:=by
 obtain ⟨tm,om,nms⟩:=j.jn;obtain ⟨⟨n1,e1,e2⟩,e3,e4,e5⟩:=Zn8 ht nms;have f:vA s (·=6) H (upd H A.nm (.dK (putK (yr M.names A.ns) (Sum.inr z) (.ref t)))) T T:=vA.zP tm;have mvn:∀ {ns:List Addr}{names:List (Str×(Int×Int))},Al (NmO H T) ns names→Al (NmO (upd H A.nm (.dK (putK (yr M.names A.ns) (Sum.inr z) (.ref t)))) T) ns names:=fun h=>h.mono fun t m ⟨z1,z2⟩=>⟨z1,nT h0 tm _ _ z2 z1⟩;have go:∀ ns',putK (yr M.names A.ns) (Sum.inr z) (.ref t)=yr (tQ M.names z v) ns'→Al (NmO H T) ns' (tQ M.names z v)→WJ X (upd H A.nm (.dK (putK (yr M.names A.ns) (Sum.inr z) (.ref t)))) T s { A with ns:=ns' } { M with names:=tQ M.names z v }:=fun ns' g1 g2=>by
  refine ⟨?_,?_,⟨tm,by show upd _ A.nm _ A.nm=_;rw [aq,g1],mvn g2⟩,?_,j.jd.mv f fun _ _ _=>by omega,j.jc.mv f fun _ _=>by omega⟩
  ·obtain ⟨b1,b2,b3,b4,b5,b6,b7,b8⟩:=j.jb.mv f (nT h0 tm) (by omega) (by omega);exact ⟨b1,b2,b3,b4,b5,b6,b7,b8⟩
  ·obtain ⟨b1,b2,b3,b4⟩:=j.jh.mv f (by omega) (by omega);exact ⟨b1,b2,b3,b4⟩
  ·obtain ⟨b1,b2,b3,b4⟩:=j.js.mv f (by omega) (by omega);exact ⟨b1,b2,b3,b4⟩
 by_cases ha:(M.names.any fun m=>decide (m.1=z))=true
 ·refine ⟨n1,iG.upd w om (by rw [tm]),go n1 ?_ ?_⟩
  ·unfold putK tQ;rw [if_pos (e3.trans ha),if_pos ha,e1]
  ·unfold tQ;rw [if_pos ha];exact e2
 ·refine ⟨A.ns ++ [t],iG.upd w om (by rw [tm]),go _ ?_ ?_⟩
  ·unfold putK tQ;rw [if_neg (fun y=>ha (e3.symm.trans y)),if_neg ha,e4]
  ·unfold tQ;rw [if_neg ha];exact e5
end
section
variable {K:aC}{X:Cs}{H:Hp}{Q:VK}{E:XK}{n:St→Hp→Prop}{bk ct:St→Hp→Prop}{rf:Rf→Addr}{CE CF CN:Addr}
theorem Ze0 {wo dd:Addr} (T:pD K X) (hE':rf .empty=CE) (hF':rf .qm=CF) (q:Aa X rf Q9 wo dd H Q E):Gj K (cB X) (mq X CE CF) (bV X) E ⟨n,Q,bk,ct⟩ [some (.ref wo),some (.ref dd),none,none,none,none] H:=by
 obtain ⟨Tg,s,A,M,_,⟨h,sl,t,f,rfl⟩,w,s0,j,rfl,od,⟨o1,o2⟩,hc,hg,ht,hn,hE,hQ⟩:=q;obtain ⟨p,m,hp,hm,hs,hl,hd⟩:=j.handOf o1;unfold Gj;walk_at "ev";refine ⟨dd,_,1,_,rfl,rfl,iQ.of od,rfl,?_⟩;walk_at "ev";refine ⟨dd,_,3,_,rfl,rfl,iQ.of od,rfl,?_⟩;walk_at "ev";refine ⟨dd,_,4,_,rfl,rfl,iQ.of od,rfl,?_⟩;walk_at "ev";refine ⟨_,_,_,_,rfl,Tg,s,A,M,h,t,f,j,rfl,rfl,rfl,rfl,o2,fun e=>?_,fun i c e0 h0 ec hf=>?_,fun i c pc e0 h0 ec hpc ce hf=>?_⟩
 ·rw [← hE'];exact hE .empty (Ze4 e) H (aX.refl _)
 ·rw [← hF'];exact hE .qm (Zhx e0 ec hf) H (aX.refl _)
 ·have hv:=bW hf;walk_at "ev";refine j6 (dz.of ce.o2) (jL (v:=oV (c.fl[f])) (by rw [cP,hv];rfl)) ?_;walk_at "ev";refine ⟨_,_,rfl,Tg,s,A,M,h,p,j,rfl,rfl,hp,?_⟩;walk_at "ev";refine ⟨dd,_,2,_,rfl,rfl,iQ.of od,rfl,?_⟩;refine ⟨p.2,_,_,sl,rfl,rfl,hd.o2,rM (by rw [bD];exact hl),?_⟩;obtain ⟨st1,j1⟩:=j.slot w s0 (k:=sl) (x:=c.fl[f]) hp hm;rw [pM hm] at j1;generalize upd H p.2 (.lst ((m.2.map oV).set sl (oV c.fl[f])))=H1 at st1 j1 ⊢;obtain ⟨d1,ow⟩:=j1.jb.ow;walk_at "ev";refine aK ow T.cW T.Iw bx ?_;walk_at "ev";refine ⟨_,_,rfl,c.fl[f],rfl,Tg,s,A,_,j1,rfl,?_⟩;rw [oA];walk_at "ev";refine ⟨aW (by simp),fun l hl=>⟨aW (by simp),fun a ha=>?_⟩⟩;exact ev0 hQ (d:=.get h sl t f) (Zhw e0 ec hv) rfl st1 j1 rfl hl ha
theorem Zdz {wo dd:Addr} (T:pD K X) (hE':rf .empty=CE) (hF':rf .qm=CF) (q:Aa X rf Q8 wo dd H Q E):Gi K (cB X) (mq X CE CF) (eN X) (bV X) (nU X) (xY X) E ⟨n,Q,bk,ct⟩ [some (.ref wo),some (.ref dd),none,none,none,none,none,none] H:=by
 obtain ⟨Tg,s,A,M,_,⟨h,t,f,sl,rfl⟩,w,s0,j,rfl,od,⟨o2,o1⟩,hc,hg,ht,hn,hE,hQ⟩:=q;obtain ⟨p,m,hp,hm,hs,hl,hd⟩:=j.handOf o1;unfold Gi;walk_at "ev";refine ⟨dd,_,1,_,rfl,rfl,iQ.of od,rfl,?_⟩;walk_at "ev";refine ⟨dd,_,3,_,rfl,rfl,iQ.of od,rfl,?_⟩;walk_at "ev";refine ⟨dd,_,2,_,rfl,rfl,iQ.of od,rfl,?_⟩;walk_at "ev";refine ⟨_,_,_,_,rfl,Tg,s,A,M,h,t,f,j,rfl,rfl,rfl,rfl,o2,fun e=>?_,fun i c e0 h0 ec hf=>?_,fun i c pc e0 h0 ec hpc ce hf=>?_⟩
 ·rw [← hE'];exact hE .empty (Ze2 e) H (aX.refl _)
 ·rw [← hF'];exact hE .qm (Zhv e0 ec hf) H (aX.refl _)
 ·have hv:=bW hf;walk_at "ev";refine j6 (dz.of ce.o2) (jL (v:=oV (c.fl[f])) (by rw [cP,hv];rfl)) ?_;walk_at "ev";refine ⟨_,_,rfl,Tg,s,A,M,h,p,j,rfl,rfl,hp,?_⟩;walk_at "ev";refine ⟨dd,_,4,_,rfl,rfl,iQ.of od,rfl,?_⟩;refine j6 (dz.of hd.o2) (jL (v:=oV (aR M h sl)) (by rw [cP,hs];rfl)) ?_;walk_at "ev";refine ⟨pc.2,_,_,f,rfl,rfl,ce.o2,rM (by rw [bD];exact hf),?_⟩;obtain ⟨st1,j1⟩:=j.field w s0 (k:=f) (x:=aR M h sl) hpc ce;have j1:WJ X _ Tg s A (setCell M i { c with fl:=c.fl.set f (aR M h sl) }):=j1;generalize upd H pc.2 (.lst ((c.fl.map oV).set f (oV (aR M h sl))))=H1 at st1 j1 ⊢;walk_at "ev";refine ⟨_,_,rfl,Tg,s,A,_,j1,rfl,ht,fun l1 hl1=>?_⟩;rw [show old? (setCell M i { c with fl:=c.fl.set f (aR M h sl) })=old? M from rfl,Zh0];have s1:=aM hl1 (.lst ((if old? M=true then [c.fl[f]] else []).map oV));have g1:upd H1 l1 (.lst ((if old? M=true then [c.fl[f]] else []).map oV)) l1=some (.lst ((if old? M=true then [c.fl[f]] else []).map oV)):=aq;generalize upd H1 l1 (.lst ((if old? M=true then [c.fl[f]] else []).map oV))=H2 at s1 g1 ⊢;walk_at "ev";refine ⟨_,_,_,rfl,Tg,s,A,_,h,j1.same s1,rfl,ht,rfl,fun l2 hl2=>?_⟩;rw [show (oR (setCell M i { c with fl:=c.fl.set f (aR M h sl) }) && !cR (setCell M i { c with fl:=c.fl.set f (aR M h sl) }) h)=(oR M && !cR M h) from rfl,Zh0];have s2:=aM hl2 (.lst ((if (oR M && !cR M h)=true then [aR M h sl] else []).map oV));have g2:upd H2 l2 (.lst ((if (oR M && !cR M h)=true then [aR M h sl] else []).map oV)) l2=some (.lst ((if (oR M && !cR M h)=true then [aR M h sl] else []).map oV)):=aq;generalize upd H2 l2 (.lst ((if (oR M && !cR M h)=true then [aR M h sl] else []).map oV))=H3 at s2 g2 ⊢;walk_at "ev";refine ⟨l1,l2,_,_,rfl,rfl,s2 _ _ g1,g2,?_,fun l3 hl3=>?_⟩
  ·refine aW ?_;cases old? M<;>cases (oR M && !cR M h)<;>simp
  rw [← List.map_append];have s3:=aM hl3 (.lst (((if old? M=true then [c.fl[f]] else []) ++ if (oR M && !cR M h)=true then [aR M h sl] else []).map oV));have g3:upd H3 l3 (.lst (((if old? M=true then [c.fl[f]] else []) ++ if (oR M && !cR M h)=true then [aR M h sl] else []).map oV)) l3=some (.lst ((putL M h sl c.fl[f]).map oV)):=aq;generalize upd H3 l3 (.lst (((if old? M=true then [c.fl[f]] else []) ++ if (oR M && !cR M h)=true then [aR M h sl] else []).map oV))=H4 at s3 g3 ⊢;have s14:=s1.trans (s2.trans s3);walk_at "ev";refine ⟨_,_,rfl,putL M h sl c.fl[f],Tg,s,A,_,st1.wt.same s14,s0,j1.same s14,rfl,.inl ⟨g3,(st1.wt.same (s1.trans s2)) _ hl3⟩,?_,hg,fun H5 T5 l5 st5 j5 g5 nl5=>?_⟩
  ·unfold putL;cases old? M<;>cases (oR M && !cR M h)<;>simp
  obtain ⟨d1,ow⟩:=j5.jb.ow;walk_at "ev";refine aK ow T.cW T.Iw bx ?_;walk_at "ev";refine ⟨_,_,rfl,c.fl[f],rfl,T5,s,A,_,j5,rfl,?_⟩;rw [xQ,Ir (c':={ c with fl:=c.fl.set f (aR M h sl) }) ec rfl];walk_at "ev";refine ⟨aW (by simp),fun a ha=>?_⟩;exact ev1 (iG.free st1 (s14.free nl5)) hQ (d:=.put h t f sl) (Zhu e0 ec hv) (st1.trans ((iG.same st1.wt s14).trans st5)) j5 rfl g5 ha
theorem Xv {wo dd:Addr} (T:pD K X) (hE':rf .empty=CE) (q:Aa X rf Ah wo dd H Q E):zq K (jm X CE) E ⟨n,Q,bk,ct⟩ [some (.ref wo),some (.ref dd),none,none] H:=by
 obtain ⟨Tg,s,A,M,_,⟨h,t,load,rfl⟩,w,s0,j,rfl,od,o1,hc,hg,ht,hn,hE,hQ⟩:=q;unfold zq;walk_at "ev";refine ⟨dd,_,1,_,rfl,rfl,iQ.of od,rfl,?_⟩;walk_at "ev";refine ⟨dd,_,2,_,rfl,rfl,iQ.of od,rfl,?_⟩;walk_at "ev";refine ⟨_,_,_,rfl,Tg,s,A,M,h,t,j,rfl,rfl,rfl,o1,fun e=>?_,fun i c pc e0 h0 ec hpc ce=>?_⟩
 ·rw [← hE'];exact hE .empty (Xx e) H (aX.refl _)
 ·obtain ⟨t1,t2,⟨dx,oo1⟩,oo2⟩:=id ce;walk_at "ev";refine aK oo1 T.c.cN T.c.iT vo ?_;walk_at "ev";refine ⟨dd,_,3,_,rfl,rfl,iQ.of od,rfl,?_⟩;walk_at "ev";refine ⟨pc.1,X.C,dx,_,rfl,oo1,T.c.cN,T.c.iT,by show 5 < 1000;decide,?_⟩;rw [Nb];obtain ⟨st1,j1⟩:=j.cell w s0 (dx:=dx) (tone:=c.tone) (load:=load) hpc ce;generalize upd H pc.1 (.ins X.C dx (lW c.birth c.bulk c.tone load pc.2))=H1 at st1 j1 ⊢;walk_at "ev";refine ⟨aW (by simp),fun l hl=>⟨aW (by simp),fun a ha=>?_⟩⟩;exact ev0 hQ (d:=.write h t load) (Zak e0 ec) rfl st1 j1 rfl hl ha
theorem Zae {wo dd:Addr} (T:pD K X) (hE':rf .empty=CE) (q:Aa X rf Ht wo dd H Q E):BZ K (jm X CE) E ⟨n,Q,bk,ct⟩ [some (.ref wo),some (.ref dd),none] H:=by
 obtain ⟨Tg,s,A,M,_,⟨h,t,rfl⟩,w,s0,j,rfl,od,o1,hc,hg,ht,hn,hE,hQ⟩:=q;unfold BZ;walk_at "ev";refine ⟨dd,_,1,_,rfl,rfl,iQ.of od,rfl,?_⟩;walk_at "ev";refine ⟨dd,_,2,_,rfl,rfl,iQ.of od,rfl,?_⟩;walk_at "ev";refine ⟨_,_,_,rfl,Tg,s,A,M,h,t,j,rfl,rfl,rfl,o1,fun e=>?_,fun i c pc e0 h0 ec hpc ce=>?_⟩
 ·rw [← hE'];exact hE .empty (Zal e) H (aX.refl _)
 ·obtain ⟨t1,t2,⟨dx,oo1⟩,oo2⟩:=id ce;walk_at "ev";refine aK oo1 T.c.cN T.c.iT vo ?_;walk_at "ev";refine ⟨aW (by simp),fun l hl=>⟨aW (by simp),fun a ha=>?_⟩⟩;exact ev0 hQ (d:=.read h t) (Ze1 e0 ec) rfl (iG.refl w) j rfl hl ha
theorem Zaf {wo dd:Addr} (T:pD K X) (hE':rf .empty=CE) (q:Aa X rf isName wo dd H Q E):Ca K (jm X CE) (bV X) E ⟨n,Q,bk,ct⟩ [some (.ref wo),some (.ref dd),none,none,none] H:=by
 obtain ⟨Tg,s,A,M,_,⟨h,t,z,rfl⟩,w,s0,j,rfl,od,o1,hc,hg,ht,hn,hE,hQ⟩:=q;obtain ⟨p,m,hp,hm,hs,hl,hd⟩:=j.handOf o1;unfold Ca;walk_at "ev";refine ⟨dd,_,1,_,rfl,rfl,iQ.of od,rfl,?_⟩;walk_at "ev";refine ⟨dd,_,2,_,rfl,rfl,iQ.of od,rfl,?_⟩;walk_at "ev";refine ⟨_,_,_,rfl,Tg,s,A,M,h,t,j,rfl,rfl,rfl,o1,fun e=>?_,fun i c pc e0 h0 ec hpc ce=>?_⟩
 ·rw [← hE'];exact hE .empty (Zam e) H (aX.refl _)
 ·obtain ⟨t1,t2,⟨dx,oo1⟩,oo2⟩:=id ce;walk_at "ev";refine aK oo1 T.c.cN T.c.dF fZ ?_;walk_at "ev";refine ⟨_,_,rfl,Tg,s,A,M,h,p,j,rfl,rfl,hp,?_⟩;walk_at "ev";refine j6 (dz.of hd.o2) (jL (v:=oV (aR M h t)) (by rw [cP,hs];rfl)) ?_;rw [e0];walk_at "ev";refine ⟨aW (by simp),fun tp htp=>?_⟩;have s1:=aM htp (.tup [oV (some i),.int c.birth]);have g1:upd H tp (.tup [oV (some i),.int c.birth]) tp=some (.tup [.int i,.int c.birth]):=aq;generalize upd H tp (.tup [oV (some i),.int c.birth])=H1 at s1 g1 ⊢;have j1:=j.same s1;have w1:=w.same s1;obtain ⟨d1,ow⟩:=j1.jb.ow;walk_at "ev";refine aK ow T.cW T.nWn lK ?_;walk_at "ev";refine ⟨dd,_,3,_,rfl,rfl,iQ.of (s1 _ _ od),rfl,?_⟩;refine ⟨_,_,rfl,Zqs j1.jn.om (by rw [Zg1 j1.jn.nms];exact Nat.lt_of_le_of_lt hn (by decide)),?_⟩;obtain ⟨ns',st2,j2⟩:=j1.named w1 s0 (z:=z) (v:=(i,c.birth)) (t:=tp) ⟨w _ htp,g1⟩;generalize upd H1 A.nm (.dK (putK (yr M.names A.ns) (Sum.inr z) (.ref tp)))=H2 at st2 j2 ⊢;walk_at "ev";refine ⟨aW (by simp),fun l hl=>⟨aW (by simp),fun a ha=>?_⟩⟩;exact ev0 hQ (d:=.name h t z) (Ze3 e0 ec) rfl ((iG.same w s1).trans st2) j2 rfl hl ha
theorem Zad {wo dd:Addr} (T:pD K X) (hN':rf .LK=CN) (q:Aa X rf Hs wo dd H Q E):BX K (cB X) (eN X) (qy X CN) (bV X) E ⟨n,Q,bk,ct⟩ [some (.ref wo),some (.ref dd),none,none] H:=by
 obtain ⟨Tg,s,A,M,_,⟨h,sl,z,rfl⟩,w,s0,j,rfl,od,o1,hc,hg,ht,hn,hE,hQ⟩:=q;obtain ⟨p,m,hp,hm,hs,hl,hd⟩:=j.handOf o1;unfold BX;walk_at "ev";refine ⟨dd,_,3,_,rfl,rfl,iQ.of od,rfl,?_⟩;walk_at "ev";refine ⟨_,_,rfl,Tg,s,A,M,j,rfl,fun e=>?_,fun pl b e=>?_⟩
 ·rw [← hN'];refine hE .LK ?_ H (aX.refl _);show (match vW M.names z with | none=>_ | some (p,b)=>_)=_;rw [e]
 ·let x:Option Int:=if pJ M pl b=true then none else some pl
  have ex:(if pJ M pl b=true then V.non else .int pl)=oV x:=by
   show _=oV (if _ then _ else _);cases pJ M pl b<;>rfl
  rw [ex];have he:rz M (.seek h sl z)=.ok (⟨"sought",vY M x,(aU (setSlot M h sl x) [x]).1⟩,(aU (setSlot M h sl x) [x]).2):=by
   show (match vW M.names z with | none=>_ | some (p,b)=>_)=_;rw [e];dsimp only;cases hgn:pJ M pl b with
   | true=>
    have:x=none:=by show (if _ then _ else _)=_;rw [hgn];rfl
    rw [this];rfl
   | false=>
    have hx:x=some pl:=by show (if _ then _ else _)=_;rw [hgn];rfl
    have:vY M (some pl)=some b:=by
     unfold pJ at hgn;show (cellAt M pl).map _=_;cases hcc:cellAt M pl with
     | none=>rw [hcc] at hgn;cases hgn
     | some c=>
      rw [hcc] at hgn;dsimp only at hgn
      by_cases y:c.birth=b
      ·rw [← y];rfl
      ·rw [if_neg y] at hgn;cases hgn
    rw [hx,this];rfl
  clear_value x;walk_at "ev";refine ⟨dd,_,1,_,rfl,rfl,iQ.of od,rfl,?_⟩;walk_at "ev";refine ⟨_,_,rfl,Tg,s,A,M,h,p,j,rfl,rfl,hp,?_⟩;walk_at "ev";refine ⟨dd,_,2,_,rfl,rfl,iQ.of od,rfl,?_⟩;refine ⟨p.2,_,_,sl,rfl,rfl,hd.o2,rM (by rw [bD];exact hl),?_⟩;obtain ⟨st1,j1⟩:=j.slot w s0 (k:=sl) (x:=x) hp hm;rw [pM hm] at j1;generalize upd H p.2 (.lst ((m.2.map oV).set sl (oV x)))=H1 at st1 j1 ⊢;walk_at "ev";refine ⟨aW (by simp),fun l1 hl1=>?_⟩;have s1:=aM hl1 (.lst [oV x]);have g1:upd H1 l1 (.lst [oV x]) l1=some (.lst ([x].map oV)):=aq;generalize upd H1 l1 (.lst [oV x])=H2 at s1 g1 ⊢;walk_at "ev";refine ⟨_,_,rfl,[x],Tg,s,A,_,st1.wt.same s1,s0,j1.same s1,rfl,.inl ⟨g1,st1.wt _ hl1⟩,by simp,hg,fun H3 T3 l3 st3 j3 g3 nl3=>?_⟩;obtain ⟨d1,ow⟩:=j3.jb.ow;walk_at "ev";refine aK ow T.cW T.Iw bx ?_;walk_at "ev";refine ⟨_,_,rfl,x,rfl,T3,s,A,_,j3,rfl,?_⟩;rw [xQ,oA];walk_at "ev";refine ⟨aW (by simp),fun a ha=>?_⟩;exact ev1 (iG.free st1 (s1.free nl3)) hQ (d:=.seek h sl z) he (st1.trans ((iG.same st1.wt s1).trans st3)) j3 rfl g3 ha
end
section
variable {K:aC}{X:Cs}{H:Hp}{Q:VK}{E:XK}{n:St→Hp→Prop}{bk ct:St→Hp→Prop}{rf:Rf→Addr}{f1 f2 f3 f4 f5 f6 f7 f8 f9 f10:Addr}
theorem Zqt {wo dd:Addr} (T:pD K X) (q:Aa X rf (fun _=>True) wo dd H Q E):
  Zf2 K f1 f2 f3 f4 f5 f6 f7 f8 f9 f10 (bZ X rf Hz) (bZ X rf Hw) (bZ X rf Q9) (bZ X rf Hv) (bZ X rf Hu) (bZ X rf isName) (bZ X rf Q8) (bZ X rf Ht) (bZ X rf Hs) (bZ X rf Ah) E ⟨n,Q,bk,ct⟩ [some (.ref wo),some (.ref dd),none] H:=by
 obtain ⟨Tg,s,A,M,d,_,w,s0,j,rfl,od,r⟩:=q;unfold Zf2;cases d with
 | make h s' many bulk=>
  walk_at "ev";refine ⟨dd,_,0,_,rfl,rfl,iQ.of od,rfl,?_⟩;refine ⟨_,f5,rfl,rfl,?_⟩;walk_at "ev";refine lU (bZ X rf Hu) rfl (by simp) ?_;walk_at "ev";exact ⟨_,_,rfl,Tg,s,A,M,_,⟨_,_,_,_,rfl⟩,w,s0,j,rfl,od,r⟩
 | get h s' t f=>
  walk_at "ev";refine ⟨dd,_,0,_,rfl,rfl,iQ.of od,rfl,?_⟩;refine ⟨_,f3,rfl,rfl,?_⟩;walk_at "ev";refine lU (bZ X rf Q9) rfl (by simp) ?_;walk_at "ev";exact ⟨_,_,rfl,Tg,s,A,M,_,⟨_,_,_,_,rfl⟩,w,s0,j,rfl,od,r⟩
 | put h t f s'=>
  walk_at "ev";refine ⟨dd,_,0,_,rfl,rfl,iQ.of od,rfl,?_⟩;refine ⟨_,f7,rfl,rfl,?_⟩;walk_at "ev";refine lU (bZ X rf Q8) rfl (by simp) ?_;walk_at "ev";exact ⟨_,_,rfl,Tg,s,A,M,_,⟨_,_,_,_,rfl⟩,w,s0,j,rfl,od,r⟩
 | copy h s' t=>
  walk_at "ev";refine ⟨dd,_,0,_,rfl,rfl,iQ.of od,rfl,?_⟩;refine ⟨_,f1,rfl,rfl,?_⟩;walk_at "ev";refine lU (bZ X rf Hz) rfl (by simp) ?_;walk_at "ev";exact ⟨_,_,rfl,Tg,s,A,M,_,⟨_,_,_,rfl⟩,w,s0,j,rfl,od,r⟩
 | drop h s'=>
  walk_at "ev";refine ⟨dd,_,0,_,rfl,rfl,iQ.of od,rfl,?_⟩;refine ⟨_,f2,rfl,rfl,?_⟩;walk_at "ev";refine lU (bZ X rf Hw) rfl (by simp) ?_;walk_at "ev";exact ⟨_,_,rfl,Tg,s,A,M,_,⟨_,_,rfl⟩,w,s0,j,rfl,od,r⟩
 | give h s' g t=>
  walk_at "ev";refine ⟨dd,_,0,_,rfl,rfl,iQ.of od,rfl,?_⟩;refine ⟨_,f4,rfl,rfl,?_⟩;walk_at "ev";refine lU (bZ X rf Hv) rfl (by simp) ?_;walk_at "ev";exact ⟨_,_,rfl,Tg,s,A,M,_,⟨_,_,_,_,rfl⟩,w,s0,j,rfl,od,r⟩
 | write h t load=>
  walk_at "ev";refine ⟨dd,_,0,_,rfl,rfl,iQ.of od,rfl,?_⟩;refine ⟨_,f10,rfl,rfl,?_⟩;walk_at "ev";refine lU (bZ X rf Ah) rfl (by simp) ?_;walk_at "ev";exact ⟨_,_,rfl,Tg,s,A,M,_,⟨_,_,_,rfl⟩,w,s0,j,rfl,od,r⟩
 | read h t=>
  walk_at "ev";refine ⟨dd,_,0,_,rfl,rfl,iQ.of od,rfl,?_⟩;refine ⟨_,f8,rfl,rfl,?_⟩;walk_at "ev";refine lU (bZ X rf Ht) rfl (by simp) ?_;walk_at "ev";exact ⟨_,_,rfl,Tg,s,A,M,_,⟨_,_,rfl⟩,w,s0,j,rfl,od,r⟩
 | name h t z=>
  walk_at "ev";refine ⟨dd,_,0,_,rfl,rfl,iQ.of od,rfl,?_⟩;refine ⟨_,f6,rfl,rfl,?_⟩;walk_at "ev";refine lU (bZ X rf isName) rfl (by simp) ?_;walk_at "ev";exact ⟨_,_,rfl,Tg,s,A,M,_,⟨_,_,_,rfl⟩,w,s0,j,rfl,od,r⟩
 | seek h s' z=>
  walk_at "ev";refine ⟨dd,_,0,_,rfl,rfl,iQ.of od,rfl,?_⟩;refine ⟨_,f9,rfl,rfl,?_⟩;walk_at "ev";refine lU (bZ X rf Hs) rfl (by simp) ?_;walk_at "ev";exact ⟨_,_,rfl,Tg,s,A,M,_,⟨_,_,_,rfl⟩,w,s0,j,rfl,od,r⟩
end
def jj (X:Cs):Sp:=fun vs H Q E=>∃ hp sl,vs=[.ref hp,.ref sl]∧∃ T s A M,∃ xs:List (Option Int),WJ X H T s A M∧A.hp=hp∧H sl=some (.lst (xs.map oV))∧xs.length≤1000∧∀ l,H l=none→Q (.ref l) (upd H l (.lst ((xs.map (vY M)).map oV)))
def Ff (X:Cs):Sp:=fun vs H Q E=>∃ wo,vs=[.ref wo]∧∃ T s A M,WJ X H T s A M∧A.wo=wo∧M.cells.length≤1000∧(∀ m∈M.hands,m.2.length≤1000)∧∀ (l:Addr) (ls:List Addr) H',aX H H'→H' l=some (.lst (ls.map V.ref))→ls.length=(rowsOf M).length→(∀ (j:Nat) r x,ls[j]? =some r→(rowsOf M)[j]? =some x→H' r=some (.lst (x.map oV)))→(H l=none∧(∀ r∈ls,H r=none)∧l∉ls)→Q (.ref l) H'
section
variable {K:aC}{X:Cs}{H:Hp}{Q:VK}{E:XK}{n:St→Hp→Prop}{bk ct:St→Hp→Prop}
theorem Vd {hp sl:Addr} (T:pD K X) (q:∃ T s A M,∃ xs:List (Option Int),WJ X H T s A M∧A.hp=hp∧H sl=some (.lst (xs.map oV))∧xs.length≤1000∧∀ l,H l=none→Q (.ref l) (upd H l (.lst ((xs.map (vY M)).map oV)))):
  wV K (cB X) ⟨n,Q,bk,ct⟩ [some (.ref hp),some (.ref sl)] H:=by
 obtain ⟨Tg,s,A,M,xs,j,rfl,o,hx,q⟩:=q;unfold wV;walk_at "ev";refine Jm ?_;walk_at "ev";refine ⟨_,rfl,⟨_,dz.of o⟩,?_⟩;refine Zbg (dz.of o) (fun i=>(xs[i]?).map fun x=>oV (vY M x)) (by rw [bD];omega) (fun i x hx=>?_) ?_
 ·rw [cP] at hx;obtain ⟨y,hy,rfl⟩:=Option.map_eq_some_iff.mp hx;refine ⟨fun q hq=>?_,fun z q hz hq=>?_⟩
  ·rw [hy] at hq;exact zX hq
  ·rw [hy] at hz;cases hz;walk_at "caps";walk_at "ev";exact ⟨_,_,rfl,y,rfl,Tg,s,A,M,j,rfl,hq⟩
 ·intro p hp;have:(List.range (xs.map oV).length).filterMap (fun i=>(xs[i]?).map fun x=>oV (vY M x))=(xs.map (vY M)).map oV:=by
   rw [bD,List.map_map];clear q o hx
   induction xs with
   | nil=>rfl
   | cons a l ih=>
    rw [List.length_cons,List.range_succ_eq_map,List.filterMap_cons];simp only [List.getElem?_cons_zero,Option.map_some,List.map_cons,List.filterMap_map];congr 1
  rw [this];exact q p hp
theorem Nh {wo:Addr} (T:pD K X) (q:∃ T s A M,WJ X H T s A M∧A.wo=wo∧M.cells.length≤1000∧(∀ m∈M.hands,m.2.length≤1000)∧∀ (l:Addr) (ls:List Addr) H',aX H H'→H' l=some (.lst (ls.map V.ref))→ls.length=(rowsOf M).length→(∀ (j:Nat) r x,ls[j]? =some r→(rowsOf M)[j]? =some x→H' r=some (.lst (x.map oV)))→(H l=none∧(∀ r∈ls,H r=none)∧l∉ls)→Q (.ref l) H'):
  sO K (jj X) ⟨n,Q,bk,ct⟩ [some (.ref wo)] H:=by
 obtain ⟨Tg,s,A,M,j,rfl,hc,hh,q⟩:=q;obtain ⟨d1,ow⟩:=j.jb.ow;have l5:=j.jd.l5;unfold sO;walk_at "ev";refine Jm ?_;walk_at "ev";refine aK ow T.cW T.nWd jD ?_;refine ⟨_,rfl,⟨_,dz.of j.jb.on⟩,?_⟩;refine Mp (dz.of j.jb.on) (by rw [bD];omega) (fun i r Hx=>∃ x,(rowsOf M)[i]? =some x∧Hx r=some (.lst (x.map oV))) (fun _ _ _ _ ⟨x,e,z⟩ s=>⟨x,e,s _ _ z⟩) (fun _ _ _ ⟨_,_,z⟩=>⟨_,z⟩) (fun x H1 q hq=>zX hq) (fun i x H1 hi s1 q' hq=>?_) ?_
 ·rw [cP] at hi;obtain ⟨p,hp,rfl⟩:=Option.map_eq_some_iff.mp hi;have j1:=j.same s1;obtain ⟨m,hm,hd⟩:=j1.hand hp;obtain ⟨dx,o1⟩:=hd.o1;obtain ⟨d2,ow1⟩:=j1.jb.ow;walk_at "caps";walk_at "ev";refine aK ow1 T.cW T.Iw bx ?_;walk_at "ev";refine aK o1 T.cD T.nDs o5 ?_;walk_at "ev";refine ⟨_,_,rfl,Tg,s,A,M,m.2,j1,rfl,hd.o2,hh m (List.mem_of_getElem? hm),fun l hl=>?_⟩;exact hq l _ (aM hl _) hl ⟨_,by unfold rowsOf;rw [cP,hm];rfl,aq⟩
 ·intro rs H' s1 hl _ nn hr p hp;have s2:=aM hp (.lst (rs.map V.ref));refine q p rs _ (s1.trans s2) aq ?_ (fun j' r x e1 e2=>?_) ⟨s1.free hp,nn,fun z=>?_⟩
  ·rw [hl,bD];unfold rowsOf;rw [bD,j.jd.lh]
  ·obtain ⟨y,e3,z⟩:=hr j' r e1;rw [e2] at e3;cases e3;exact s2 _ _ z
  ·obtain ⟨k,hk,e⟩:=List.getElem_of_mem z;obtain ⟨_,_,e4⟩:=hr k p (by rw [bW hk,e]);rw [hp] at e4;cases e4
end
def uv (CD:Addr):Sp:=fun vs H Q E=>∃ p nm many,vs=[.ref p,.str nm,.int many]∧∃ dx,H p=some (.ins CD dx [])∧0≤many∧many≤1000∧
 ∀ sa H',H sa=none→H' p=some (.ins CD dx (Xi nm sa))→H' sa=some (.lst (List.replicate many.toNat V.non))→(∀ b o,H b=some o→b≠p→H' b=some o)→Q .non H'
def pB (CS:Addr):Sp:=fun vs H Q E=>∃ p,vs=[.ref p]∧∃ dx,H p=some (.ins CS dx [])∧
 ∀ gr H',H gr=none→H' p=some (.ins CS dx (cz 0 "rest" gr 0 0 0 0 0 0 0 .non))→H' gr=some (.lst [])→(∀ b o,H b=some o→b≠p→H' b=some o)→Q .non H'
section
variable {K:aC}{X:Cs}{H:Hp}{Q:VK}{E:XK}{n:St→Hp→Prop}{bk ct:St→Hp→Prop}
theorem HY {p:Addr}{nm:Str}{many:Int} (T:pD K X) (q:∃ dx,H p=some (.ins X.D dx [])∧0≤many∧many≤1000∧
 ∀ sa H',H sa=none→H' p=some (.ins X.D dx (Xi nm sa))→H' sa=some (.lst (List.replicate many.toNat V.non))→(∀ b o,H b=some o→b≠p→H' b=some o)→Q .non H'):
  pW K ⟨fun _ H'=>Q .non H',Q,bk,ct⟩ [some (.ref p),some (.str nm),some (.int many)] H:=by
 obtain ⟨dx,hp,h0,h1,h⟩:=q;unfold pW;walk_at "ev";refine ⟨p,X.D,dx,[],rfl,hp,T.cD,T.nDn,by decide,?_⟩;walk_at "ev";refine ⟨by decide,fun l0 hl0=>?_⟩;walk_at "ev";refine ⟨l0,many,_,rfl,rfl,aq,by omega,by omega,?_,fun fa hfa=>?_⟩
 ·show 1 * many.toNat≤sizeLine;exact aW (by omega)
 have npl:p≠l0:=aD aq hl0;have npf:p≠fa:=aD (by rw [aB npl];exact aq) hfa;have Zqm:H fa=none:=by
  by_cases z:fa=l0
  ·rw [z,aq] at hfa;cases hfa
  ·rw [aB z,aB (fun e=>npf e.symm)] at hfa;exact hfa
 have Zs9:H l0=none:=by rw [aB (fun e=>npl e.symm)] at hl0;exact hl0
 walk_at "ev";refine ⟨p,X.D,dx,_,rfl,by rw [aB npf,aB npl];exact aq,T.cD,T.nDs,by show 1 < 1000;decide,?_⟩;refine h fa _ Zqm ?_ ?_ fun b o hb nb=>?_
 ·rw [aq,Zhd]
 ·rw [aB npf.symm,aq];congr 2;generalize many.toNat=k
  induction k with
  | zero=>rfl
  | succ k ih=>rw [List.replicate_succ,List.replicate_succ,List.flatten_cons,ih];rfl
 ·rw [aB nb,aB (aD hb Zqm),aB (aD hb Zs9),aB nb];exact hb
theorem Bf {p:Addr} (T:pD K X) (q:∃ dx,H p=some (.ins X.S dx [])∧
 ∀ gr H',H gr=none→H' p=some (.ins X.S dx (cz 0 "rest" gr 0 0 0 0 0 0 0 .non))→H' gr=some (.lst [])→(∀ b o,H b=some o→b≠p→H' b=some o)→Q .non H'):
  mK K ⟨fun _ H'=>Q .non H',Q,bk,ct⟩ [some (.ref p)] H:=by
 obtain ⟨dx,hp,h⟩:=q;unfold mK;walk_at "ev";refine ⟨p,X.S,dx,[],rfl,hp,T.cS,T.n1,by decide,?_⟩;walk_at "ev";refine ⟨p,X.S,dx,_,rfl,aq,T.cS,T.n2,by show 1 < 1000;decide,?_⟩;rw [dY];walk_at "ev";refine ⟨by decide,fun gr hgr=>?_⟩;have npg:p≠gr:=aD aq hgr;have Zha:H gr=none:=by rw [aB npg.symm] at hgr;exact hgr
 walk_at "ev";refine ⟨p,X.S,dx,_,rfl,by rw [aB npg];exact aq,T.cS,T.n3,by show 2 < 1000;decide,?_⟩;walk_at "ev";refine ⟨p,X.S,dx,_,rfl,aq,T.cS,T.n4,by show 3 < 1000;decide,?_⟩;rw [dY];walk_at "ev";refine ⟨p,X.S,dx,_,rfl,aq,T.cS,T.n5,by show 4 < 1000;decide,?_⟩;rw [dY];walk_at "ev";refine ⟨p,X.S,dx,_,rfl,aq,T.cS,T.n6,by show 5 < 1000;decide,?_⟩;rw [dY];walk_at "ev";refine ⟨p,X.S,dx,_,rfl,aq,T.cS,T.n7,by show 6 < 1000;decide,?_⟩;rw [dY];walk_at "ev";refine ⟨p,X.S,dx,_,rfl,aq,T.cS,T.n8,by show 7 < 1000;decide,?_⟩;rw [dY];walk_at "ev";refine ⟨p,X.S,dx,_,rfl,aq,T.cS,T.n9,by show 8 < 1000;decide,?_⟩;rw [dY];walk_at "ev";refine ⟨p,X.S,dx,_,rfl,aq,T.cS,T.n10,by show 9 < 1000;decide,?_⟩;rw [dY];walk_at "ev";refine ⟨p,X.S,dx,_,rfl,aq,T.cS,T.n11,by show 10 < 1000;decide,?_⟩;rw [dY];refine h gr _ Zha ?_ ?_ fun b o hb nb=>?_
 ·rw [aq,Zc0]
 ·rw [aB npg.symm,aq]
 ·rw [aB nb,aB (aD hb Zha),aB nb];exact hb
end
def wd (w:Int):Str:=if w=0 then "first" else if w=1 then "each" else "last"
def tlS (t:Int):Str:=if t=0 then "" else if t=1 then " old" else if t=2 then " new" else " old new"
def words (w t:Int):Str:=wd w ++ tlS t
structure KdO (X:Cs) (H:Hp) (ki lk:Addr) (w t:Int):Prop where
 ok:∃ dx,H ki=some (.ins X.K dx (Mq lk t))
 ol:∃ dx,w=2∧H lk=some (.ins X.L dx [])
theorem KdO.same {X:Cs}{H H':Hp}{ki lk:Addr}{w t:Int} (k:KdO X H ki lk w t) (s:aX H H'):KdO X H' ki lk w t:=by
 obtain ⟨⟨d1,a⟩,⟨d2,b⟩⟩:=k;refine ⟨⟨d1,s _ _ a⟩,⟨d2,?_⟩⟩;exact ⟨b.1,s _ _ b.2⟩
def O8 (room:Int) (hands:List (Str×Int)) (w t:Int):Wm:=⟨room,0,0,[],hands.map fun m=>(m.1,List.replicate m.2.toNat none),[],w,t,⟨0,"rest",[],0,0,0,0,0,0,0,.non⟩⟩
def rP (X:Cs):Sp:=fun vs H Q E=>∃ p room ki hl0,vs=[.ref p,.int room,.ref ki,.ref hl0]∧∃ dx T s lk w t ts hands,H p=some (.ins X.W dx [])∧WT H T∧s≠0∧KdO X H ki lk w t∧T ki=(0,0)∧T lk=(0,0)∧ki≠p∧lk≠p∧H hl0=some (.lst (ts.map V.ref))∧
 Al (fun (t:Addr) (m:Str×Int)=>H t=some (.tup [.str m.1,.int m.2])∧0≤m.2∧m.2≤1000) ts hands∧hands.length≤30∧
 ∀ H' T' A,(∀ b o,H b=some o→b≠p→H' b=some o)→(∀ b o,H b=some o→b≠p→T' b=T b)→WT H' T'→A.wo=p→WJ X H' T' s A (O8 room hands w t)→Q .non H'
def um (CK:Addr):Sp:=fun vs H Q E=>∃ p l t,vs=[.ref p,.ref l,.int t]∧∃ dx,H p=some (.ins CK dx [])∧∀ H',H' p=some (.ins CK dx (Mq l t))→(∀ b o,H b=some o→b≠p→H' b=some o)→Q .non H'
def HS (v:V):Sp:=fun vs H Q E=>∃ a,vs=[.ref a]∧Q v H
section
variable {K:aC}{X:Cs}{H:Hp}{Q:VK}{E:XK}{n:St→Hp→Prop}{bk ct:St→Hp→Prop}
theorem HW {p l:Addr}{t:Int} (T:pD K X) (q:∃ dx,H p=some (.ins X.K dx [])∧∀ H',H' p=some (.ins X.K dx (Mq l t))→(∀ b o,H b=some o→b≠p→H' b=some o)→Q .non H'):
  pR K ⟨fun _ H'=>Q .non H',Q,bk,ct⟩ [some (.ref p),some (.ref l),some (.int t)] H:=by
 obtain ⟨dx,hp,h⟩:=q;unfold pR;walk_at "ev";refine ⟨p,X.K,dx,[],rfl,hp,T.cK,T.nKl,by decide,?_⟩;walk_at "ev";refine ⟨p,X.K,dx,_,rfl,aq,T.cK,T.nKt,by show 1 < 1000;decide,?_⟩;rw [dY];refine h _ ?_ fun b o hb nb=>?_
 ·rw [aq,Zgu]
 ·rw [aB nb];exact hb
theorem w0 {w:Int} (hw:w=0∨w=1∨w=2):words w 0=wd w:=by rcases hw with rfl | rfl | rfl<;>decide +kernel
theorem w3 {w:Int} (hw:w=0∨w=1∨w=2):words w 3=(wd w ++ " old") ++ " new":=by rcases hw with rfl | rfl | rfl<;>decide +kernel
end
structure Ex (p:Addr) (H H':Hp) (T T':Tg):Prop where
 kp:∀ b o,H b=some o→b≠p→H' b=some o
 al:∀ b o,H b=some o→∃ o',H' b=some o'
 tg:∀ b o,H b=some o→T' b=T b
 wt:WT H' T'
section
variable {p:Addr}{H H1 H2 H':Hp}{T T1 T2 T':Tg}
theorem Ex.trans (a:Ex p H H1 T T1) (b:Ex p H1 H2 T1 T2):Ex p H H2 T T2 where
 kp:=fun x o h n=>b.kp x o (a.kp x o h n) n
 al:=fun x o h=>by obtain ⟨o1,h1⟩:=a.al x o h;exact b.al x o1 h1
 tg:=fun x o h=>by obtain ⟨o1,h1⟩:=a.al x o h;rw [b.tg x o1 h1,a.tg x o h]
 wt:=b.wt
theorem Zpc (w:WT H T) (al:∀ b o,H b=some o→∃ o',H' b=some o'):WT H' T:=fun b h=>w b (by
 cases z:H b with
 | none=>rfl
 | some o=>obtain ⟨o',e⟩:=al b o z;rw [h] at e;cases e)
theorem Yk {a:Addr}{o:HO}{v:Nat×Nat} (w:WT H T) (h:H a=some o):WT H (jq T a v):=fun b hb=>by
 rw [jX (fun e=>by rw [e,h] at hb;cases hb)];exact w b hb
theorem Ex.Zeg {o o0:HO} (w:WT H T) (h:H p=some o0):Ex p H (upd H p o) T T where
 kp:=fun x u hx n=>by rw [aB n];exact hx
 al:=fun x u hx=>by
  by_cases e:x=p
  ·exact ⟨o,by rw [e,aq]⟩
  ·exact ⟨u,by rw [aB e];exact hx⟩
 tg:=fun _ _ _=>rfl
 wt:=Zpc w fun x u hx=>by
  by_cases e:x=p
  ·exact ⟨o,by rw [e,aq]⟩
  ·exact ⟨u,by rw [aB e];exact hx⟩
theorem Ex.news {vs:List (Addr×(Nat×Nat))} (w:WT H T) (s:aX H H') (hn:∀ v∈vs,H v.1=none∧∃ o,H' v.1=some o):Ex p H H' T (vs.foldr (fun v t=>jq t v.1 v.2) T):=by
 have tg:∀ b o,H b=some o→(vs.foldr (fun v t=>jq t v.1 v.2) T) b=T b:=by
  intro b o hb
  induction vs with
  | nil=>rfl
  | cons v vs ih=>
   show jq _ v.1 v.2 b=_;rw [jX (aD hb (hn v List.mem_cons_self).1)];exact ih fun u hu=>hn u (List.mem_cons_of_mem _ hu)
 refine ⟨fun b o hb _=>s _ _ hb,fun b o hb=>⟨o,s _ _ hb⟩,tg,?_⟩;clear tg
 induction vs with
 | nil=>exact w.same s
 | cons v vs ih=>
  obtain ⟨o,ho⟩:=(hn v List.mem_cons_self).2;exact Yk (ih fun u hu=>hn u (List.mem_cons_of_mem _ hu)) ho
end
section
variable {K:aC}{X:Cs}{H:Hp}{Q:VK}{E:XK}{n:St→Hp→Prop}{bk ct:St→Hp→Prop}
theorem EY {p ki hl0:Addr}{room:Int} (T:pD K X) (q:∃ dx T s lk w t,∃ ts:List Addr,∃ hands,H p=some (.ins X.W dx [])∧WT H T∧s≠0∧KdO X H ki lk w t∧T ki=(0,0)∧T lk=(0,0)∧ki≠p∧lk≠p∧H hl0=some (.lst (ts.map V.ref))∧
 Al (fun (t:Addr) (m:Str×Int)=>H t=some (.tup [.str m.1,.int m.2])∧0≤m.2∧m.2≤1000) ts hands∧hands.length≤30∧
 ∀ H' T' A,(∀ b o,H b=some o→b≠p→H' b=some o)→(∀ b o,H b=some o→b≠p→T' b=T b)→WT H' T'→A.wo=p→WJ X H' T' s A (O8 room hands w t)→Q .non H'):
  oM K X.D X.H X.S (uv X.D) (uq X.H) (pB X.S) ⟨fun _ H'=>Q .non H',Q,bk,ct⟩ [some (.ref p),some (.int room),some (.ref ki),some (.ref hl0)] H:=by
 obtain ⟨dx,T0,s,lk,w,t,ts,hands,hp,wt0,s0,kd,tki,tlk,nki,nlk,oh0,al,hn,hQ⟩:=q;have x0:WT H (jq T0 p (s,0)):=Yk wt0 hp;have tp:jq T0 p (s,0) p=(s,0):=iB;have to0:∀ b o,H b=some o→b≠p→jq T0 p (s,0) b=T0 b:=fun b _ _ hb=>jX hb;generalize hT:jq T0 p (s,0)=Ta at x0 tp to0;unfold oM;walk_at "ev";intro hq dh nh ndh neh;refine ⟨hq,room,rfl,dh,aq,fun ca H1 nca a1 a2 k1=>⟨rfl,?_⟩⟩;have Znc:H ca=none:=by
  by_cases z:ca=hq
  ·rw [z,aq] at nca;cases nca
  ·rw [aB z] at nca
   by_cases y:ca=dh
   ·rw [y,aq] at nca;cases nca
   ·rw [aB y] at nca;exact nca
 have sm1:aX H H1:=fun b o hb=>k1 b o (by rw [aB (aD hb nh),aB (aD hb ndh)];exact hb) (aD hb nh);have e1:Ex p H H1 Ta _:=Ex.news (vs:=[(hq,(s,1)),(ca,(s,2))]) x0 sm1 (by
  intro v hv;simp only [List.mem_cons,List.not_mem_nil,or_false] at hv;rcases hv with rfl | rfl
  ·exact ⟨nh,_,a1⟩
  ·exact ⟨Znc,_,a2⟩)
 have nhc:hq≠ca:=pI a1 a2 (fun z=>by cases z);have th1:([(hq,(s,1)),(ca,(s,2))].foldr (fun v t=>jq t v.1 v.2) Ta) hq=(s,1):=iB;have tc1:([(hq,(s,1)),(ca,(s,2))].foldr (fun v t=>jq t v.1 v.2) Ta) ca=(s,2):=(jX nhc.symm).trans iB;generalize ([(hq,(s,1)),(ca,(s,2))]:List (Addr×(Nat×Nat))).foldr (fun v t=>jq t v.1 v.2) Ta=Tb at e1 th1 tc1;have hp1:=sm1 _ _ hp;have nph:hq≠p:=fun z=>by rw [z,hp] at nh;cases nh
 have npc:ca≠p:=fun z=>by rw [z,hp] at Znc;cases Znc
 clear k1 nca;walk_at "ev";refine ⟨p,X.W,dx,[],rfl,hp1,T.cW,T.Iw,by decide,?_⟩;have e2:=e1.trans (Ex.Zeg (o:=.ins X.W dx (cg "heap" (.ref hq) [])) e1.wt hp1);have g2:upd H1 p (.ins X.W dx (cg "heap" (.ref hq) [])) p=some (.ins X.W dx (cg "heap" (.ref hq) [])):=aq;have a1:=(aB (o:=.ins X.W dx (cg "heap" (.ref hq) [])) nph).trans a1;have a2:=(aB (o:=.ins X.W dx (cg "heap" (.ref hq) [])) npc).trans a2;generalize upd H1 p (.ins X.W dx (cg "heap" (.ref hq) []))=H2 at e2 g2 a1 a2 ⊢;walk_at "ev";refine ⟨p,X.W,dx,_,rfl,g2,T.cW,T.nWk,by show 1 < 1000;decide,?_⟩;have e3:=e2.trans (Ex.Zeg (o:=.ins X.W dx (cg "kind" (.ref ki) (cg "heap" (.ref hq) []))) e2.wt g2);have g3:upd H2 p (.ins X.W dx (cg "kind" (.ref ki) (cg "heap" (.ref hq) []))) p=some (.ins X.W dx (cg "kind" (.ref ki) (cg "heap" (.ref hq) []))):=aq;have a1:=(aB (o:=.ins X.W dx (cg "kind" (.ref ki) (cg "heap" (.ref hq) []))) nph).trans a1;have a2:=(aB (o:=.ins X.W dx (cg "kind" (.ref ki) (cg "heap" (.ref hq) []))) npc).trans a2;generalize upd H2 p (.ins X.W dx (cg "kind" (.ref ki) (cg "heap" (.ref hq) [])))=H3 at e3 g3 a1 a2 ⊢;generalize hF3:(cg "kind" (.ref ki) (cg "heap" (.ref hq) []))=F3 at g3 ⊢;have lF3:F3.length=2:=by rw [← hF3];rfl
 have oh3:H3 hl0=some (.lst (ts.map V.ref)):=e3.kp _ _ oh0 (fun z=>by rw [z,hp] at oh0;cases oh0);have ltl:ts.length=hands.length:=al.length;have Zr7:∀ (i:Nat) a,ts[i]? =some a→∃ m,hands[i]? =some m∧H3 a=some (.tup [.str m.1,.int m.2])∧0≤m.2∧m.2≤1000:=fun i a ha=>by
  have hl:i < hands.length:=by rw [← ltl];exact (dN ha).1
  obtain ⟨a',ha',z1,z2,z3⟩:=al.get (bW hl);rw [ha] at ha';cases ha';exact ⟨_,bW hl,e3.kp _ _ z1 (fun z=>by rw [z,hp] at z1;cases z1),z2,z3⟩
 have lo:=e3.wt;walk_at "ev";refine ⟨_,rfl,⟨_,dz.of oh3⟩,Zbf ?_⟩;refine ⟨fun i m ys Hx=>i≤ts.length∧m=ts.length - i∧∃ (hs:List (Addr×Addr)) (Tx:Tg),ys=hs.map (fun q=>V.ref q.1)∧hs.length=i∧aX H3 Hx∧Ex p H3 Hx Tb Tx∧∀ (j:Nat) q m,hs[j]? =some q→hands[j]? =some m→HdO X.D Hx Tx s j q (m.1,List.replicate m.2.toNat none)∧q.1≠p∧q.2≠p,
  ⟨ts.length,Nat.zero_le _,rfl,[],Tb,rfl,rfl,aX.refl _,⟨fun _ _ h _=>h,fun _ o h=>⟨o,h⟩,fun _ _ _=>rfl,lo⟩,fun j q m e=>by simp at e⟩,?_⟩
 rintro i m ys Hx ⟨hi,rfl,hs,Tx,rfl,hl,sx,ex,hds⟩
 by_cases hk:i=ts.length
 ·refine .inl ⟨⟨_,dz.of (sx _ _ oh3),by rw [bD];omega⟩,fun hla nhl=>?_⟩;have Zyf:H3 hla=none:=sx.free nhl;have s4:=aM nhl (.lst (hs.map fun q=>V.ref q.1));have e4:Ex p Hx _ Tx _:=Ex.news (p:=p) (vs:=[(hla,(s,5))]) ex.wt s4 (by
   intro v hv;rw [List.mem_singleton.mp hv];exact ⟨nhl,_,aq⟩)
  have t4:([(hla,(s,5))].foldr (fun v t=>jq t v.1 v.2) Tx) hla=(s,5):=iB;have o4:upd Hx hla (.lst (hs.map fun q=>V.ref q.1)) hla=some (.lst (hs.map fun q=>V.ref q.1)):=aq;have hpx:=sx _ _ g3;have nhp:hla≠p:=fun z=>by rw [z,hpx] at nhl;cases nhl
  have hp4:=s4 _ _ hpx;generalize upd Hx hla (.lst (hs.map fun q=>V.ref q.1))=H4 at s4 e4 o4 hp4 ⊢;generalize ([(hla,(s,5))]:List (Addr×(Nat×Nat))).foldr (fun v t=>jq t v.1 v.2) Tx=T4 at e4 t4;walk_at "ev";refine ⟨p,X.W,dx,_,rfl,hp4,T.cW,T.nWd,by rw [lF3];decide,?_⟩;have e5:=Ex.Zeg (p:=p) (o:=.ins X.W dx (cg "hands" (.ref hla) F3)) e4.wt hp4;have hp5:upd H4 p (.ins X.W dx (cg "hands" (.ref hla) F3)) p=some (.ins X.W dx (cg "hands" (.ref hla) F3)):=aq;generalize upd H4 p (.ins X.W dx (cg "hands" (.ref hla) F3))=H5 at e5 hp5 ⊢;walk_at "ev";intro nm hnm;have nnp:nm≠p:=fun z=>by rw [z,hp5] at hnm;cases hnm
  have s6:=aM hnm (.dK []);have e6:Ex p H5 _ T4 _:=Ex.news (p:=p) (vs:=[(nm,(s,6))]) e5.wt s6 (by
   intro v hv;rw [List.mem_singleton.mp hv];exact ⟨hnm,_,aq⟩)
  have t6:([(nm,(s,6))].foldr (fun v t=>jq t v.1 v.2) T4) nm=(s,6):=iB;have o6:upd H5 nm (.dK []) nm=some (.dK []):=aq;have hp6:=s6 _ _ hp5;generalize upd H5 nm (.dK [])=H6 at s6 e6 o6 hp6 ⊢;generalize ([(nm,(s,6))]:List (Addr×(Nat×Nat))).foldr (fun v t=>jq t v.1 v.2) T4=T6 at e6 t6;walk_at "ev";refine ⟨p,X.W,dx,_,rfl,hp6,T.cW,T.nWn,by rw [← hF3];show 3 < 1000;decide,?_⟩;have e7:=Ex.Zeg (p:=p) (o:=.ins X.W dx (cg "names" (.ref nm) (cg "hands" (.ref hla) F3))) e6.wt hp6;have hp7:upd H6 p (.ins X.W dx (cg "names" (.ref nm) (cg "hands" (.ref hla) F3))) p=some (.ins X.W dx (cg "names" (.ref nm) (cg "hands" (.ref hla) F3))):=aq;generalize upd H6 p (.ins X.W dx (cg "names" (.ref nm) (cg "hands" (.ref hla) F3)))=H7 at e7 hp7 ⊢;walk_at "ev";intro sw ds nsw nds nes;refine ⟨sw,rfl,ds,aq,fun gr H8 ngr b1 b2 k8=>⟨rfl,?_⟩⟩;have Zna:H7 gr=none:=by
   by_cases z:gr=sw
   ·rw [z,aq] at ngr;cases ngr
   ·rw [aB z] at ngr
    by_cases y:gr=ds
    ·rw [y,aq] at ngr;cases ngr
    ·rw [aB y] at ngr;exact ngr
  have s8:aX H7 H8:=fun b o hb=>k8 b o (by rw [aB (aD hb nsw),aB (aD hb nds)];exact hb) (aD hb nsw);have e8:Ex p H7 H8 T6 _:=Ex.news (p:=p) (vs:=[(sw,(s,7)),(gr,(s,8))]) e7.wt s8 (by
   intro v hv;simp only [List.mem_cons,List.not_mem_nil,or_false] at hv;rcases hv with rfl | rfl
   ·exact ⟨nsw,_,b1⟩
   ·exact ⟨Zna,_,b2⟩)
  have nsg:sw≠gr:=pI b1 b2 (fun z=>by cases z);have ts8:([(sw,(s,7)),(gr,(s,8))].foldr (fun v t=>jq t v.1 v.2) T6) sw=(s,7):=iB;have tg8:([(sw,(s,7)),(gr,(s,8))].foldr (fun v t=>jq t v.1 v.2) T6) gr=(s,8):=(jX nsg.symm).trans iB;generalize ([(sw,(s,7)),(gr,(s,8))]:List (Addr×(Nat×Nat))).foldr (fun v t=>jq t v.1 v.2) T6=T8 at e8 ts8 tg8;have hp8:=s8 _ _ hp7;have nsp:sw≠p:=fun z=>by rw [z,hp7] at nsw;cases nsw
  have ngp:gr≠p:=fun z=>by rw [z,hp7] at Zna;cases Zna
  clear k8 ngr;walk_at "ev";refine ⟨p,X.W,dx,_,rfl,hp8,T.cW,T.Nu,by rw [← hF3];show 4 < 1000;decide,?_⟩;have e9:=Ex.Zeg (p:=p) (o:=.ins X.W dx (cg "sweeper" (.ref sw) (cg "names" (.ref nm) (cg "hands" (.ref hla) F3)))) e8.wt hp8;have hp9:upd H8 p (.ins X.W dx (cg "sweeper" (.ref sw) (cg "names" (.ref nm) (cg "hands" (.ref hla) F3)))) p=some (.ins X.W dx (yC hq ki hla nm sw)):=by
   rw [aq,← hF3,Zbv]
  generalize upd H8 p (.ins X.W dx (cg "sweeper" (.ref sw) (cg "names" (.ref nm) (cg "hands" (.ref hla) F3))))=H9 at e9 hp9 ⊢;have f89:=e9;have f69:=e7.trans (e8.trans e9);have f49:=e5.trans (e6.trans f69);have fx9:=e4.trans f49;have f39:=ex.trans fx9;have f09:=e3.trans f39;obtain ⟨⟨dk,ok⟩,⟨dl,ol⟩⟩:=kd;have hlk:∃ o,H lk=some o:=by
   exact ⟨_,ol.2⟩
  obtain ⟨olk,elk⟩:=hlk;refine hQ H9 T8 ⟨p,hq,ca,ki,lk,hla,nm,sw,gr,hs,[],[]⟩ f09.kp (fun b o hb nb=>(f09.tg b o hb).trans (to0 b o hb nb)) f09.wt rfl ⟨⟨(f09.tg _ _ hp).trans tp,(f09.tg _ _ ok).trans ((to0 _ _ ok nki).trans tki),(f09.tg _ _ elk).trans ((to0 _ _ elk nlk).trans tlk),(f49.tg _ _ o4).trans t4,⟨dx,hp9⟩,⟨dk,f09.kp _ _ ok nki⟩,⟨dl,?_⟩,f49.kp _ _ o4 nhp⟩,
   ⟨(f39.tg _ _ a1).trans th1,(f39.tg _ _ a2).trans tc1,⟨dh,f39.kp _ _ a1 nph⟩,f39.kp _ _ a2 npc⟩,⟨(f69.tg _ _ o6).trans t6,f69.kp _ _ o6 nnp,.nil⟩,
   ⟨(f89.tg _ _ b1).trans ts8,(f89.tg _ _ b2).trans tg8,⟨ds,f89.kp _ _ b1 nsp⟩,f89.kp _ _ b2 ngp⟩,⟨?_,by show hs.length≤30;rw [hl,hk,ltl];exact hn,?_⟩,⟨rfl,fun i q c z=>by simp at z⟩⟩
  ·exact ⟨ol.1,f09.kp _ _ ol.2 nlk⟩
  ·show hs.length=(hands.map _).length;rw [bD,hl,hk,ltl]
  ·intro j q m z1 z2;have z2:(hands.map fun m=>(m.1,List.replicate m.2.toNat none))[j]? =some m:=z2;rw [cP] at z2;obtain ⟨m0,y1,rfl⟩:=Option.map_eq_some_iff.mp z2;obtain ⟨⟨u1,u2,⟨du,u3⟩,u4⟩,v1,v2⟩:=hds j q m0 z1 y1;exact ⟨(fx9.tg _ _ u3).trans u1,(fx9.tg _ _ u4).trans u2,⟨du,fx9.kp _ _ u3 v1⟩,fx9.kp _ _ u4 v2⟩
 ·have hlt:i < ts.length:=by omega
  refine .inr ⟨⟨_,_,dz.of (sx _ _ oh3),by rw [cP,bW hlt];rfl⟩,?_,fun x H' y=>?_⟩
  ·rw [bD,hl];exact Nat.lt_of_lt_of_le hlt (aW (by omega))
  obtain ⟨y1,y2⟩:=y;subst y1;have ey:=y2 _ (dz.of (sx _ _ oh3));rw [cP,bW hlt] at ey;have ey:x=.ref ts[i]:=(Option.some.inj ey).symm;subst ey;obtain ⟨m,hm,ot,m0,m1⟩:=Zr7 i _ (bW hlt);refine zX (Xe ⟨ts[i],.str m.1,.int m.2,_,rfl,iQ.of (sx _ _ ot),?_⟩);walk_at "caps";walk_at "ev";intro q1 dq nq ndq neq;refine ⟨q1,m.1,m.2,rfl,dq,aq,m0,m1,fun sa Hy nsa b1 b2 k=>⟨rfl,?_⟩⟩;have Zn6:H' sa=none:=by
   by_cases z:sa=q1
   ·rw [z,aq] at nsa;cases nsa
   ·rw [aB z] at nsa
    by_cases y:sa=dq
    ·rw [y,aq] at nsa;cases nsa
    ·rw [aB y] at nsa;exact nsa
  have sy:aX H' Hy:=fun b o hb=>k b o (by rw [aB (aD hb nq),aB (aD hb ndq)];exact hb) (aD hb nq);have ey:Ex p H' Hy Tx _:=Ex.news (p:=p) (vs:=[(q1,(s,20 + 2 * i)),(sa,(s,21 + 2 * i))]) ex.wt sy (by
   intro v hv;simp only [List.mem_cons,List.not_mem_nil,or_false] at hv;rcases hv with rfl | rfl
   ·exact ⟨nq,_,b1⟩
   ·exact ⟨Zn6,_,b2⟩)
  have nqs:q1≠sa:=pI b1 b2 (fun z=>by cases z);have hpx:=sx _ _ g3;refine ⟨ts.length - (i + 1),by omega,by omega,rfl,hs ++ [(q1,sa)],_,by rw [List.map_append];rfl,by rw [List.length_append,hl];rfl,sx.trans sy,ex.trans ey,fun j q m' z1 z2=>?_⟩
  by_cases hj:j < hs.length
  ·rw [List.getElem?_append_left hj] at z1;obtain ⟨⟨u1,u2,⟨du,u3⟩,u4⟩,v1,v2⟩:=hds j q m' z1 z2;exact ⟨⟨(ey.tg _ _ u3).trans u1,(ey.tg _ _ u4).trans u2,⟨du,sy _ _ u3⟩,sy _ _ u4⟩,v1,v2⟩
  ·have hj':=(dN z1).1;rw [List.length_append,List.length_singleton] at hj';have ej:j=hs.length:=by omega
   subst ej;rw [List.getElem?_append_right (Nat.le_refl _),Nat.sub_self] at z1;cases z1;rw [hl] at z2 ⊢;rw [hm] at z2;cases z2;exact ⟨⟨iB,(jX nqs.symm).trans iB,⟨dq,b1⟩,by rw [b2,List.map_replicate];rfl⟩,(fun z=>by rw [show q1=p from z,hpx] at nq;cases nq),(fun z=>by rw [show sa=p from z,hpx] at Zn6;cases Zn6)⟩
end
def q8 (M:Wm) (i:Int) (c:Ce):Str:=if M.sw.phase="rest" then "kept" else if M.sw.phase="give" then (if c.tone=M.sw.sense then "kept" else "doomed") else if c.tone=M.sw.sense then (if i∈M.sw.grey then "grey" else "dark") else "pale"
def jU (M:Wm):List (Int×Ce):=(List.range M.cells.length).filterMap fun (i:Nat)=>((M.cells[i]?).join).map fun c=>((i:Int),c)
def Am (X:Cs):Sp:=fun vs H Q E=>∃ wo i,vs=[.ref wo,.int i]∧∃ T s A M c,WJ X H T s A M∧A.wo=wo∧0≤i∧M.cells[i.toNat]? =some (some c)∧Q (.str (q8 M i c)) H
def TcO (M:Wm) (H:Hp) (p:Addr×Addr) (t:Int×Ce):Prop:=H p.1=some (.tup [.int t.1,.int t.2.birth,.int t.2.bulk,.int t.2.load,.ref p.2,.str (q8 M t.1 t.2)])∧H p.2=some (.lst ((t.2.fl.map (vY M)).map oV))
def ue (X:Cs):Sp:=fun vs H Q E=>∃ wo i,vs=[.ref wo,.int i]∧∃ T s A M c,WJ X H T s A M∧A.wo=wo∧0≤i∧M.cells[i.toNat]? =some (some c)∧c.fl.length≤1000∧∀ a l H',aX H H'→H a=none→H l=none→TcO M H' (a,l) (i,c)→Q (.ref a) H'
def Vs (X:Cs):Sp:=fun vs H Q E=>∃ wo,vs=[.ref wo]∧∃ T s A M,WJ X H T s A M∧A.wo=wo∧M.cells.length≤1000∧(∀ c,some c∈M.cells→c.fl.length≤1000)∧
 ∀ (l:Addr) (ls:List Addr) H',aX H H'→H' l=some (.lst (ls.map V.ref))→ls.length=(jU M).length→(∀ (j:Nat) r t,ls[j]? =some r→(jU M)[j]? =some t→∃ f,TcO M H' (r,f) t∧H f=none∧H r=none)→H l=none→Q (.ref l) H'
theorem Zfe {X:Cs}{H:Hp}{T:Tg}{s:Nat}{A:Wa}{M:Wm} (j:WJ X H T s A M):Wl (A.cs.map pV)=(jU M).map (·.1):=by
 have key:∀ i,i < M.cells.length→(decide ((A.cs.map pV)[i]? =some V.non)=true↔(M.cells[i]?).join=none):=fun i hi=>by
  rw [decide_eq_true_iff,cP];cases hc:M.cells[i]? with
  | none=>rw [List.getElem?_eq_none_iff] at hc;omega
  | some y=>cases y with
   | none=>rw [j.jc.at0 hc];simp [pV]
   | some c=>
    obtain ⟨p,hp,_⟩:=j.jc.at hc;rw [hp];simp [pV]
 unfold Wl jU;rw [bD,j.jc.lc];generalize hn:M.cells.length=n at key;clear hn
 induction n with
 | zero=>rfl
 | succ n ih=>
  rw [List.range_succ,List.filter_append,List.map_append,List.filterMap_append,List.map_append,ih fun i hi=>key i (by omega)];congr 1;have k:=key n (by omega);cases hc:(M.cells[n]?).join with
  | none=>
   have:decide ((A.cs.map pV)[n]? =some V.non)=true:=k.mpr hc;simp only [List.filter_cons,this,Bool.not_true,List.filter_nil,List.filterMap_cons,hc,Option.map_none,List.filterMap_nil];rfl
  | some c=>
   have:decide ((A.cs.map pV)[n]? =some V.non)=false:=by
    cases hd:decide ((A.cs.map pV)[n]? =some V.non) with
    | false=>rfl
    | true=>rw [k.mp hd] at hc;cases hc
   simp only [List.filter_cons,this,Bool.not_false,List.filter_nil,List.filterMap_cons,hc,Option.map_some,List.filterMap_nil];rfl
theorem Zay {M:Wm}{j:Nat}{t:Int×Ce} (h:(jU M)[j]? =some t):0≤t.1∧M.cells[t.1.toNat]? =some (some t.2):=by
 have hm:=List.mem_of_getElem? h;unfold jU at hm;obtain ⟨i,hi,e⟩:=List.mem_filterMap.mp hm;obtain ⟨c,hc,rfl⟩:=Option.map_eq_some_iff.mp e;refine ⟨by show (0:Int)≤(i:Nat);omega,?_⟩;show M.cells[((i:Nat):Int).toNat]? =some (some c);rw [Int.toNat_natCast];cases hx:M.cells[i]? with
 | none=>rw [hx] at hc;cases hc
 | some y=>rw [hx] at hc;rw [show y=some c from hc]
section
variable {K:aC}{X:Cs}{H:Hp}{Q:VK}{E:XK}{n:St→Hp→Prop}{bk ct:St→Hp→Prop}
theorem Zgz {i:Int}{l:List Int}:inV (.int i) (l.map V.int)=decide (i∈l):=by
 unfold inV
 induction l with
 | nil=>rfl
 | cons a l ih=>
  rw [List.map_cons,List.any_cons,ih]
  by_cases e:i=a
  ·subst e;simp [Yh]
  ·have e':¬ a=i:=fun z=>e z.symm;simp [Yh,e,e']
theorem ZQ {wo:Addr}{i:Int} (T:pD K X) (q:∃ T s A M c,WJ X H T s A M∧A.wo=wo∧0≤i∧M.cells[i.toNat]? =some (some c)∧Q (.str (q8 M i c)) H):BW K (cC X) ⟨n,Q,bk,ct⟩ [some (.ref wo),some (.int i),none,none] H:=by
 obtain ⟨Tg,s,A,M,c,j,rfl,h0,hc,q⟩:=q;obtain ⟨d1,ow⟩:=j.jb.ow;obtain ⟨d2,os⟩:=j.js.os;obtain ⟨th,tc,⟨d3,oh⟩,oc⟩:=j.jh;obtain ⟨p,hp,ce⟩:=j.jc.at hc;unfold BW;walk_at "ev";refine aK ow T.cW T.Nu bw ?_;walk_at "ev";refine aK ow T.cW T.Iw bx ?_;refine aK oh T.c.cF T.c.bK bO ?_;walk_at "ev";refine j6 (dz.of oc) (o9 (v:=.ref p.1) h0 (by rw [cP,hp];rfl)) ?_;walk_at "ev";refine ⟨_,_,rfl,Tg,s,A,M,_,p,c,j.w0,rfl,ce,rfl,?_⟩;walk_at "ev";refine aK os T.cS T.n2 iH ?_;walk_at "ev";unfold q8 at q;refine vB (fun z=>?_) (fun z=>?_)
 ·rw [if_pos z] at q;walk_at "ev";exact q
 ·rw [if_neg z] at q;walk_at "ev";refine aK os T.cS T.n2 iH ?_;walk_at "ev";refine vB (fun y=>?_) (fun y=>?_)
  ·rw [if_pos y] at q;walk_at "ev";refine vB (fun x=>?_) (fun x=>?_)
   ·rw [if_pos x] at q;walk_at "ev";exact q
   ·rw [if_neg x] at q;walk_at "ev";exact q
  ·rw [if_neg y] at q;walk_at "ev";refine Xf (fun x=>?_) (fun x=>?_)
   ·rw [if_neg x] at q;walk_at "ev";exact q
   ·rw [if_pos x] at q;walk_at "ev";refine aK os T.cS T.n3 oG ?_;refine ⟨_,_,rfl,.inl (dz.of j.js.og),rfl,?_,?_⟩
    ·rw [List.all_map,List.all_eq_true];intro a _;rfl
    rw [if_neg (by decide),Zgz];walk_at "ev";refine vB (fun y=>?_) (fun y=>?_)
    ·rw [if_pos y] at q;walk_at "ev";exact q
    ·rw [if_neg y] at q;walk_at "ev";exact q
theorem RJ {wo:Addr}{i:Int} (T:pD K X) (q:∃ T s A M c,WJ X H T s A M∧A.wo=wo∧0≤i∧M.cells[i.toNat]? =some (some c)∧c.fl.length≤1000∧∀ a l H',aX H H'→H a=none→H l=none→TcO M H' (a,l) (i,c)→Q (.ref a) H'):
  wN K (jj X) (Am X) ⟨n,Q,bk,ct⟩ [some (.ref wo),some (.int i),none,none] H:=by
 obtain ⟨Tg,s,A,M,c,j,rfl,h0,hc,hl,q⟩:=q;obtain ⟨d1,ow⟩:=j.jb.ow;obtain ⟨th,tc,⟨d3,oh⟩,oc⟩:=j.jh;obtain ⟨p,hp,ce⟩:=j.jc.at hc;obtain ⟨t1,t2,⟨dx,o1⟩,o2⟩:=id ce;unfold wN;walk_at "ev";refine aK ow T.cW T.Iw bx ?_;refine aK oh T.c.cF T.c.bK bO ?_;walk_at "ev";refine j6 (dz.of oc) (o9 (v:=.ref p.1) h0 (by rw [cP,hp];rfl)) ?_;walk_at "ev";refine aK ow T.cW T.Iw bx ?_;walk_at "ev";refine aK o1 T.c.cN T.c.dX jF ?_;walk_at "ev";refine ⟨_,_,rfl,Tg,s,A,M,c.fl,j,rfl,o2,hl,fun l nl=>?_⟩;have s1:=aM nl (.lst ((c.fl.map (vY M)).map oV));have g1:upd H l (.lst ((c.fl.map (vY M)).map oV)) l=some (.lst ((c.fl.map (vY M)).map oV)):=aq;generalize upd H l (.lst ((c.fl.map (vY M)).map oV))=H1 at s1 g1 ⊢;walk_at "ev";refine aK (s1 _ _ o1) T.c.cN T.c.dF fZ ?_;walk_at "ev";refine aK (s1 _ _ o1) T.c.cN T.c.kO Bv ?_;walk_at "ev";refine aK (s1 _ _ o1) T.c.cN T.c.iT vo ?_;walk_at "ev";refine ⟨_,_,rfl,Tg,s,A,M,c,j.same s1,rfl,h0,hc,?_⟩;walk_at "ev";refine ⟨aW (by simp),fun a na=>?_⟩;have s2:=aM na (.tup [.int i,.int c.birth,.int c.bulk,.int c.load,.ref l,.str (q8 M i c)]);exact q a l _ (s1.trans s2) (s1.free na) nl ⟨aq,s2 _ _ g1⟩
theorem Nx {wo:Addr} (T:pD K X) (q:∃ T s A M,WJ X H T s A M∧A.wo=wo∧M.cells.length≤1000∧(∀ c,some c∈M.cells→c.fl.length≤1000)∧
 ∀ (l:Addr) (ls:List Addr) H',aX H H'→H' l=some (.lst (ls.map V.ref))→ls.length=(jU M).length→(∀ (j:Nat) r t,ls[j]? =some r→(jU M)[j]? =some t→∃ f,TcO M H' (r,f) t∧H f=none∧H r=none)→H l=none→Q (.ref l) H'):
  uF K X.H (lF X.H) (ue X) ⟨n,Q,bk,ct⟩ [some (.ref wo)] H:=by
 obtain ⟨Tg,s,A,M,j,rfl,hc,hf,q⟩:=q;obtain ⟨d1,ow⟩:=j.jb.ow;obtain ⟨th,tc,⟨d3,oh⟩,oc⟩:=j.jh;have hl:(jU M).length≤1000:=by
  have:=List.length_filterMap_le (fun (i:Nat)=>((M.cells[i]?).join).map fun c=>((i:Int),c)) (List.range M.cells.length);rw [List.length_range] at this;exact Nat.le_trans this hc
 unfold uF;walk_at "ev";refine Jm ?_;walk_at "ev";refine aK ow T.cW T.Iw bx ?_;refine ⟨A.hp,d3,_,rfl,oh,zZ,?_⟩;walk_at "ev";refine ⟨_,rfl,_,_,_,_,_,j.hpO,by rw [bD,j.jc.lc];exact hc,fun l0 nl0=>?_⟩;rw [Zfe j];have s1:=aM nl0 (.lst (((jU M).map (·.1)).map V.int));have g1:upd H l0 (.lst (((jU M).map (·.1)).map V.int)) l0=some (.lst (((jU M).map (·.1)).map V.int)):=aq;generalize upd H l0 (.lst (((jU M).map (·.1)).map V.int))=H1 at s1 g1 ⊢;refine ⟨_,rfl,⟨_,dz.of g1⟩,?_⟩;refine Mp (dz.of g1) (by rw [bD,bD];omega) (fun i r Hx=>∃ t f,(jU M)[i]? =some t∧TcO M Hx (r,f) t∧H f=none) (fun _ _ _ _ ⟨t,f,e,⟨z1,z2⟩,z3⟩ s=>⟨t,f,e,⟨s _ _ z1,s _ _ z2⟩,z3⟩) (fun _ _ _ ⟨_,_,_,⟨z,_⟩,_⟩=>⟨_,z⟩) (fun x H1 q hq=>zX hq) (fun i x H2 hi s2 q' hq=>?_) ?_
 ·rw [cP,cP] at hi;cases ht:(jU M)[i]? with
  | none=>rw [ht] at hi;cases hi
  | some t=>
   rw [ht] at hi;cases hi;obtain ⟨t0,tc'⟩:=Zay ht;walk_at "caps";walk_at "ev";refine ⟨_,_,rfl,Tg,s,A,M,t.2,j.same (s1.trans s2),rfl,t0,tc',hf _ (List.mem_of_getElem? tc'),fun a l H3 s3 na nl tco=>?_⟩;exact hq a H3 s3 na ⟨t,l,ht,tco,(s1.trans s2).free nl⟩
 ·intro rs H' s2 hl2 _ nn hr p hp;have s3:=aM hp (.lst (rs.map V.ref));refine q p rs _ (s1.trans (s2.trans s3)) aq (by rw [hl2,bD,bD]) (fun k r t e1 e2=>?_) (s1.free (s2.free hp));obtain ⟨t',f,e3,⟨z1,z2⟩,z3⟩:=hr k r e1;rw [e2] at e3;cases e3;exact ⟨f,⟨s3 _ _ z1,s3 _ _ z2⟩,z3,s1.free (nn r (List.mem_of_getElem? e1))⟩
end
section
variable {K:aC}{X:Cs}{H:Hp}{Q:VK}{E:XK}{T:Tg}{s:Nat}{A:Wa}{M:Wm}
theorem Zdr {i:Nat}{c:Ce} (j:WJ X H T s A M) (w:WT H T) (h0:s≠0) (hc:M.cells[i]? =some (some c))
  (k:∀ H' A',iG s H H' T T→WJ X H' T s A' { M with used:=M.used - (1 + c.fl.length + c.bulk),cells:=M.cells.set i none }→A'.wo=A.wo∧A'.sw=A.sw→Q (.int c.birth) H'):
  qI X.C X.H [.ref A.hp,.int i] H Q E:=by
 obtain ⟨th,tc,⟨dh,oh⟩,oc⟩:=j.jh;obtain ⟨pc,hpc,ce⟩:=j.jc.at hc;obtain ⟨_,_,⟨dc,o1⟩,ofl⟩:=id ce;have hl:=(dN hc).1;refine ⟨A.hp,i,rfl,A.ca,dh,M.room,M.used,M.born,A.cs.map pV,pc.1,pc.2,c.birth,c.bulk,c.tone,c.load,c.fl.map oV,by omega,oh,oc,by rw [Int.toNat_natCast,cP,hpc];rfl,⟨⟨dc,o1⟩,ofl⟩,?_⟩;rw [Int.toNat_natCast,bD];have nhc:A.hp≠A.ca:=pI oh oc (fun z=>by cases z);obtain ⟨st5,j5⟩:=j.back w h0 (i:=i) (used':=M.used - (1 + c.fl.length + c.bulk)) (by rw [j.jc.lc];exact hl) (upd (upd H A.hp (.ins X.H dh (jB M.room A.ca (M.used - (1 + c.fl.length + c.bulk)) M.born))) A.ca (.lst ((A.cs.map pV).set i V.non)))
  (fun b o hb n1 n2=>by rw [aB n2,aB n1];exact hb) (by rw [aB nhc];exact aq) aq
 exact k _ _ st5 j5 ⟨rfl,rfl⟩
end
def heldOf (M:Wm):List (List (Option Int)):=M.hands.map (·.2)
def Vv (X:Cs):Sp:=fun vs H Q E=>∃ wo,vs=[.ref wo]∧∃ T s A M,WJ X H T s A M∧A.wo=wo∧M.hands.length≤1000∧∀ (l:Addr) (ls:List Addr) H',aX H H'→H l=none→H' l=some (.lst (ls.map V.ref))→ls.length=(heldOf M).length→ls.Nodup→(∀ r∈ls,H r=none)→l∉ls→(∀ (j:Nat) r x,ls[j]? =some r→(heldOf M)[j]? =some x→H' r=some (.lst (x.map oV)))→Q (.ref l) H'
section
variable {K:aC}{X:Cs}{H:Hp}{Q:VK}{E:XK}{n:St→Hp→Prop}{bk ct:St→Hp→Prop}
theorem Zkr {wo:Addr} (T:pD K X) (q:∃ T s A M,WJ X H T s A M∧A.wo=wo∧M.hands.length≤1000∧∀ (l:Addr) (ls:List Addr) H',aX H H'→H l=none→H' l=some (.lst (ls.map V.ref))→ls.length=(heldOf M).length→ls.Nodup→(∀ r∈ls,H r=none)→l∉ls→(∀ (j:Nat) r x,ls[j]? =some r→(heldOf M)[j]? =some x→H' r=some (.lst (x.map oV)))→Q (.ref l) H'):
  Ti K ⟨n,Q,bk,ct⟩ [some (.ref wo)] H:=by
 obtain ⟨Tg,s,A,M,j,rfl,hl,q⟩:=q;obtain ⟨dx,ow⟩:=j.jb.ow;unfold Ti;walk_at "ev";refine Jm ?_;walk_at "ev";refine aK ow T.cW T.nWd jD ?_;have l5:=j.jd.l5;refine ⟨_,rfl,⟨_,dz.of j.jb.on⟩,?_⟩;refine Mp (dz.of j.jb.on) (by rw [bD];omega) (fun i r Hx=>∃ x,(heldOf M)[i]? =some x∧Hx r=some (.lst (x.map oV))) (fun _ _ _ _ ⟨x,e,z⟩ s=>⟨x,e,s _ _ z⟩) (fun _ _ _ ⟨_,_,z⟩=>⟨_,z⟩) (fun x H1 q hq=>zX hq) (fun i x H1 hi s1 q' hq=>?_) ?_
 ·rw [cP] at hi;obtain ⟨p,hp,rfl⟩:=Option.map_eq_some_iff.mp hi;have j1:=j.same s1;obtain ⟨m,hm,hd⟩:=j1.hand hp;obtain ⟨dx,o1⟩:=hd.o1;walk_at "caps";walk_at "ev";refine aK o1 T.cD T.nDs o5 ?_;walk_at "ev";refine Uu (dz.of hd.o2) fun l hl=>?_;exact hq l _ (aM hl _) hl ⟨_,by unfold heldOf;rw [cP,hm];rfl,aq⟩
 ·intro rs H' s1 hl nd nn hr p hp;have s2:=aM hp (.lst (rs.map V.ref));refine q p rs _ (s1.trans s2) (s1.free hp) aq ?_ nd nn (fun z=>?_) fun j' r x e1 e2=>?_
  ·rw [hl,bD];unfold heldOf;rw [bD,j.jd.lh]
  ·obtain ⟨k,hk,e⟩:=List.getElem_of_mem z;obtain ⟨_,_,e4⟩:=hr k p (by rw [bW hk,e]);rw [hp] at e4;cases e4
  ·obtain ⟨y,e3,z⟩:=hr j' r e1;rw [e2] at e3;cases e3;exact s2 _ _ z
end
def nj (w:Int) (h:Nat):Int:=if w=0 then 2 ^ h - 1 else 0
def z6 (M:Wm):Wm:={ M with sw:={ M.sw with sense:=1 - M.sw.sense,phase:="walk",grey:=[],looked:=nj M.w M.hands.length,turn:=M.sw.turn + 1,walks:=0,looks:=0,passes:=0 } }
def Fg:Sp:=fun vs H Q E=>∃ h,vs=[.int h]∧0≤h∧h≤30∧Q (.int (2 ^ h.toNat - 1)) H
def yc (k:Nat):Sp:=fun vs H Q E=>∃ a h,vs=[.ref a,.int h]∧0≤h∧h≤30∧Q (.int (if k=0 then 2 ^ h.toNat - 1 else 0)) H
def Kl (X:Cs):Sp:=fun vs H Q E=>∃ wo,vs=[.ref wo]∧∃ T s A M,WT H T∧s≠0∧WJ X H T s A M∧A.wo=wo∧∀ H' T' A',iG s H H' T T'→WJ X H' T' s A' (z6 M)→A'.wo=wo∧A'.sw=A.sw→Q .non H'
section
variable {X:Cs}{H H':Hp}{T T':Tg}{s:Nat}{A:Wa}{M:Wm}
theorem WJ.Zk0 (j:WJ X H T s A M) (w:WT H T) (h0:s≠0) {dx l:Addr} (S:Sw) (hl:H l=none) (e9:S.grey=[]):
  iG s H (upd (upd H l (.lst [])) A.sw (.ins X.S dx (cz S.sense S.phase l S.looked S.turn S.at' S.stop S.walks S.looks S.passes S.loss))) T (jq T l (s,8))∧
  WJ X (upd (upd H l (.lst [])) A.sw (.ins X.S dx (cz S.sense S.phase l S.looked S.turn S.at' S.stop S.walks S.looks S.passes S.loss))) (jq T l (s,8)) s { A with gr:=l } { M with sw:=S }:=by
 obtain ⟨ts,tg,⟨dd,os⟩,og⟩:=id j.js;have nls:l≠A.sw:=(aD os hl).symm;have w1:WT (upd H l (.lst [])) (jq T l (s,8)):=Yk (w.same (aM hl _)) aq;have st1:iG s H (upd H l (.lst [])) T (jq T l (s,8)):=⟨fun b o h _=>(aM hl _) _ _ h,fun b o h=>⟨o,(aM hl _) _ _ h⟩,fun b o h=>jX (aD h hl),w1⟩;have j1:WJ X (upd H l (.lst [])) (jq T l (s,8)) s A M:=j.fresh hl;obtain ⟨ts1,tg1,⟨dd1,os1⟩,og1⟩:=id j1.js;refine ⟨st1.trans (iG.upd w1 os1 (by rw [ts1])),?_⟩;have f:vA s (·=7) (upd H l (.lst [])) (upd (upd H l (.lst [])) A.sw (.ins X.S dx (cz S.sense S.phase l S.looked S.turn S.at' S.stop S.walks S.looks S.passes S.loss))) (jq T l (s,8)) (jq T l (s,8)):=vA.zP ts1;have b1:=j1.jb.mv f (nT h0 ts1) (by omega) (by omega);have b2:=j1.jh.mv f (by omega) (by omega);have b3:=j1.jn.mv f (nT h0 ts1) (by omega);have b5:=j1.jd.mv f fun _ _ _=>by omega
 have b6:=j1.jc.mv f fun _ _=>by omega
 obtain ⟨x1,x2,x3,x4,x5,x6,x7,x8⟩:=b1;obtain ⟨y1,y2,y3,y4⟩:=b2;obtain ⟨z1,z2,z3⟩:=b3;exact ⟨⟨x1,x2,x3,x4,x5,x6,x7,x8⟩,⟨y1,y2,y3,y4⟩,⟨z1,z2,z3⟩,⟨ts1,iB,⟨dx,aq⟩,by rw [aB nls,aq,e9];rfl⟩,b5,b6⟩
end
section
variable {K:aC}{X:Cs}{H:Hp}{Q:VK}{E:XK}{n:St→Hp→Prop}{bk ct:St→Hp→Prop}
theorem Zqy {j:Int} (h0:0≤j) (h1:j≤1000):Yg 1 j:=⟨h0,by omega,by decide⟩
theorem Ze8 {h:Int} (q:0≤h∧h≤30∧Q (.int (2 ^ h.toNat - 1)) H):Gk ⟨n,Q,bk,ct⟩ [some (.int h)] H:=by
 obtain ⟨h0,h1,q⟩:=q;unfold Gk;walk_at "ev";refine ⟨_,_,rfl,rfl,Zqy h0 (by omega),?_⟩;walk_at "ev";rw [Int.one_mul];exact q
theorem Bh {a:Addr}{h:Int} (q:0≤h∧h≤30∧Q (.int (if (1:Nat)=0 then 2 ^ h.toNat - 1 else 0)) H):mL ⟨n,Q,bk,ct⟩ [some (.ref a),some (.int h)] H:=by
 unfold mL;walk_at "ev";exact q.2.2
theorem Zi3 {wo:Addr} (Tx:pD K X) (q:∃ T s A M,WT H T∧s≠0∧WJ X H T s A M∧A.wo=wo∧∀ H' T' A',iG s H H' T T'→WJ X H' T' s A' (z6 M)→A'.wo=wo∧A'.sw=A.sw→Q .non H'):
  K7 K X.L (yc 1) ⟨fun _ H'=>Q .non H',Q,bk,ct⟩ [some (.ref wo),none] H:=by
 obtain ⟨T,s,A,M,w,h0,j,rfl,q⟩:=q;obtain ⟨dw,ow⟩:=j.jb.ow;obtain ⟨ds,os⟩:=j.js.os;obtain ⟨dk,ok⟩:=j.jb.ok;obtain ⟨dl,ol⟩:=j.jb.ol;have on:=j.jb.on;have lh:=j.jd.lh;have l5:=j.jd.l5;unfold K7;walk_at "ev";refine aK ow Tx.cW Tx.Nu bw ?_;walk_at "ev";refine aK os Tx.cS Tx.n1 mW ?_;walk_at "ev";refine ⟨A.sw,X.S,ds,_,rfl,os,Tx.cS,Tx.n1,by show 11 < 1000;decide,?_⟩;rw [Fq];walk_at "ev";refine aK aq Tx.cS Tx.n5 rW ?_;walk_at "ev";refine ⟨A.sw,X.S,ds,_,rfl,aq,Tx.cS,Tx.n5,by show 11 < 1000;decide,?_⟩;rw [Js,dY];walk_at "ev";refine ⟨A.sw,X.S,ds,_,rfl,aq,Tx.cS,Tx.n2,by show 11 < 1000;decide,?_⟩;rw [mC,dY];walk_at "ev";refine ⟨by decide,fun gr hgr=>?_⟩;have nsg:A.sw≠gr:=aD aq hgr;have Zha:H gr=none:=by rw [aB nsg.symm] at hgr;exact hgr
 walk_at "ev";refine ⟨A.sw,X.S,ds,_,rfl,by rw [aB nsg];exact aq,Tx.cS,Tx.n3,by show 11 < 1000;decide,?_⟩;rw [Jv];have sw2:∀ (a b:HO) (o:HO),upd (upd (upd H A.sw a) gr o) A.sw b=upd (upd H gr o) A.sw b:=fun a b o=>by
  funext x
  by_cases z:x=A.sw
  ·rw [z,aq,aq]
  ·rw [aB z,aB z]
   by_cases y:x=gr
   ·rw [y,aq,aq]
   ·rw [aB y,aB y,aB z]
 rw [sw2];have fin:∀ {lo:Int}{σ:St},σ=[some (.ref A.wo),some (.ref A.sw)]→lo=nj M.w M.hands.length→∀ (H3:Hp),H3=upd (upd H gr (.lst [])) A.sw (.ins X.S ds (cz (1 - M.sw.sense) "walk" gr M.sw.looked (M.sw.turn + 1) M.sw.at' M.sw.stop M.sw.walks M.sw.looks M.sw.passes M.sw.loss))→
   (∃ a C dx fs,V.ref A.sw=.ref a∧H3 a=some (.ins C dx fs)∧CW K C∧bI K C "looked"∧fs.length < 1000∧(aN (gA K (ak 1) (tC (.int 0)) "walks") (aN (gA K (ak 1) (tC (.int 0)) "looks") (gA K (ak 1) (tC (.int 0)) "passes"))) ⟨fun _ H'=>Q .non H',Q,bk,ct⟩ σ (upd H3 a (.ins C dx (cg "looked" (.int lo) fs)))):=by
  rintro lo σ rfl elo H3 rfl;refine ⟨A.sw,X.S,ds,_,rfl,aq,Tx.cS,Tx.n4,by show 11 < 1000;decide,?_⟩;rw [Df,dY];walk_at "ev";refine ⟨A.sw,X.S,ds,_,rfl,aq,Tx.cS,Tx.n8,by show 11 < 1000;decide,?_⟩;rw [vH,dY];walk_at "ev";refine ⟨A.sw,X.S,ds,_,rfl,aq,Tx.cS,Tx.n9,by show 11 < 1000;decide,?_⟩;rw [vI,dY];walk_at "ev";refine ⟨A.sw,X.S,ds,_,rfl,aq,Tx.cS,Tx.n10,by show 11 < 1000;decide,?_⟩;rw [tM,dY];obtain ⟨st,j'⟩:=j.Zk0 w h0 (dx:=ds) (l:=gr) { M.sw with sense:=1 - M.sw.sense,phase:="walk",grey:=[],looked:=nj M.w M.hands.length,turn:=M.sw.turn + 1,walks:=0,looks:=0,passes:=0 } Zha rfl;subst elo;exact q _ _ _ st j' ⟨rfl,rfl⟩
 have kp:∀ b o,H b=some o→b≠A.sw→upd (upd H gr (.lst [])) A.sw (.ins X.S ds (cz (1 - M.sw.sense) "walk" gr M.sw.looked (M.sw.turn + 1) M.sw.at' M.sw.stop M.sw.walks M.sw.looks M.sw.passes M.sw.loss)) b=some o:=fun b o hb nb=>by
  rw [aB nb,aB (aD hb Zha)];exact hb
 have dS:∀ {a:Addr}{C d:Addr}{fs:List (Str×V)},H a=some (.ins C d fs)→fs.length < 11→a≠A.sw:=fun e hl z=>by
  rw [z,os] at e;have:=Option.some.inj e
  injection this with _ _ e3
  rw [← e3] at hl;exact absurd hl (by show ¬ 11 < 11;decide)
 have ow3:=kp _ _ ow (dS ow (by show 5 < 11;decide));have ok3:=kp _ _ ok (dS ok (by show 2 < 11;decide));have on3:=kp _ _ on (pI on os (fun z=>by cases z));generalize hH3:upd (upd H gr (.lst [])) A.sw (.ins X.S ds (cz (1 - M.sw.sense) "walk" gr M.sw.looked (M.sw.turn + 1) M.sw.at' M.sw.stop M.sw.walks M.sw.looks M.sw.passes M.sw.loss))=H3 at kp ow3 ok3 on3 ⊢;have Zk4:((A.hs.map fun p=>V.ref p.1).length:Int)=(M.hands.length:Int):=by rw [bD,lh]
 refine Mv ?_;walk_at "es";obtain ⟨ew,o⟩:=ol;have o3:=kp _ _ o (dS o (by show 0 < 11;decide));walk_at "es";refine aK ow3 Tx.cW Tx.nWk oF ?_;refine aK ok3 Tx.cK Tx.nKl vV ?_;walk_at "es";refine ⟨A.lk,dl,_,rfl,o3,rfl,?_⟩;walk_at "es";refine aK ow3 Tx.cW Tx.nWd jD ?_;walk_at "es";refine mO (dz.of on3) ?_;rw [Zk4];walk_at "es";refine ⟨A.lk,_,rfl,by omega,by omega,?_⟩;walk_at "es";exact fin rfl (by unfold nj;rw [if_neg (show ¬ (1:Nat)=0 by decide),if_neg (by omega)]) _ hH3.symm
end
def Ko (M:Wm):Bool:=decide (M.sw.phase="walk"∨M.sw.phase="lost")
def Iu (M:Wm) (p b:Int):Option Int:=if pJ M p b=true then none else match cellAt M p with
 | none=>none
 | some c=>if Ko M=true∧¬ c.tone=M.sw.sense then none else some p
def rN (X:Cs):Sp:=fun vs H Q E=>∃ wo,vs=[.ref wo]∧∃ T s A M,Vq X H T s A M∧A.wo=wo∧∀ H',aX H H'→Q (.bl (Ko M)) H'
def Aj (X:Cs):Sp:=fun vs H Q E=>∃ wo p b,vs=[.ref wo,.int p,.int b]∧∃ T s A M,Vq X H T s A M∧A.wo=wo∧∀ H',aX H H'→Q (oV (Iu M p b)) H'
section
variable {K:aC}{X:Cs}{H:Hp}{Q:VK}{E:XK}{n:St→Hp→Prop}{bk ct:St→Hp→Prop}
theorem Pa {wo:Addr} (T:pD K X) (q:∃ T s A M,Vq X H T s A M∧A.wo=wo∧∀ H',aX H H'→Q (.bl (Ko M)) H'):uJ K ⟨n,Q,bk,ct⟩ [some (.ref wo)] H:=by
 obtain ⟨Tg,s,A,M,j,rfl,q⟩:=q;obtain ⟨d1,ow⟩:=j.jb.ow;obtain ⟨d2,os⟩:=j.js.os;unfold uJ;walk_at "ev";refine aK ow T.cW T.Nu bw ?_;walk_at "ev";refine aK os T.cS T.n2 iH ?_;walk_at "ev";refine ⟨aW (by simp),fun tp Nt=>?_⟩;have s1:=aM Nt (.tup [V.str "walk",.str "lost"]);have g1:upd H tp (.tup [V.str "walk",.str "lost"]) tp=some (.tup [V.str "walk",.str "lost"]):=aq;generalize upd H tp (.tup [V.str "walk",.str "lost"])=H1 at s1 g1 ⊢;refine ⟨tp,_,rfl,.inr (iQ.of g1),rfl,rfl,?_⟩;have q:=q H1 s1;rw [show Ko M=(if false=true then !inV (V.str M.sw.phase) [V.str "walk",.str "lost"] else inV (V.str M.sw.phase) [V.str "walk",.str "lost"]) from by
  rw [if_neg Bool.false_ne_true];unfold Ko inV
  by_cases h1:M.sw.phase="walk"
  ·simp [h1,Yh]
  ·by_cases h2:M.sw.phase="lost"
   ·simp [h2,Yh]
   ·have e1:¬ ("walk":Str)=M.sw.phase:=fun z=>h1 z.symm;have e2:¬ ("lost":Str)=M.sw.phase:=fun z=>h2 z.symm;simp [h1,h2,e1,e2,Yh]] at q
 exact q
theorem Zc {wo:Addr}{p b:Int} (T:pD K X) (q:∃ T s A M,Vq X H T s A M∧A.wo=wo∧∀ H',aX H H'→Q (oV (Iu M p b)) H'):BV K (CP X) (cC X) (rN X) ⟨n,Q,bk,ct⟩ [some (.ref wo),some (.int p),some (.int b)] H:=by
 obtain ⟨Tg,s,A,M,j,rfl,q⟩:=q;unfold BV;walk_at "ev";refine ⟨_,_,_,rfl,Tg,s,A,M,j,rfl,?_⟩;have hgo:∀ c,cellAt M p=some c→pJ M p b=false→Iu M p b=if Ko M=true∧¬ c.tone=M.sw.sense then none else some p:=fun c hc hg=>by
  unfold Iu;rw [hg,if_neg Bool.false_ne_true,hc]
 cases hg:pJ M p b with
 | true=>
  walk_at "ev";have:=q H (aX.refl _);rw [show Iu M p b=none from if_pos hg] at this;exact this
 | false=>
  walk_at "ev";refine ⟨_,rfl,Tg,s,A,M,j,rfl,fun H1 s1=>?_⟩;obtain ⟨c,hc⟩:∃ c,cellAt M p=some c:=by
   cases e:cellAt M p with
   | none=>
    have:pJ M p b=true:=by unfold pJ;rw [e]
    rw [this] at hg;cases hg
   | some c=>exact ⟨c,rfl⟩
  have q:=q H1 s1;rw [hgo c hc hg] at q;have j1:=j.same s1;cases hw:Ko M with
  | false=>
   walk_at "ev";rw [if_neg (fun z=>by rw [hw] at z;cases z.1)] at q;exact q
  | true=>
   walk_at "ev";obtain ⟨d1,ow⟩:=j1.jb.ow;obtain ⟨dh,oh⟩:=j1.jh.oh;rcases j1.look (some p) with ⟨e1,_⟩ | ⟨i,c',pp,ei,h0,ec,hci,hp,_,ce⟩
   ·have e1:cellAt M p=none:=e1;rw [hc] at e1;cases e1
   cases ei;rw [hc] at ec;cases ec;refine aK ow T.cW T.Iw bx ?_;walk_at "ev";refine aK oh T.c.cF T.c.bK bO ?_;walk_at "ev";refine j6 (dz.of j1.jh.oc) (o9 (v:=.ref pp.1) h0 (by rw [cP,hp];rfl)) ?_;walk_at "ev";refine ⟨_,_,rfl,Tg,s,A,M,_,pp,c,j1,rfl,ce,rfl,?_⟩;walk_at "ev"
   by_cases ht:c.tone=M.sw.sense
   ·rw [if_neg (fun z=>z.2 ht)] at q;refine Xf (fun z=>absurd ht z) (fun _=>?_);walk_at "ev";exact q
   ·rw [if_pos ⟨hw,ht⟩] at q;refine Xf (fun _=>?_) (fun z=>absurd z ht);walk_at "ev";exact q
end
def sE (M:Wm):List (Option Int):=M.names.map fun m=>Iu M m.2.1 m.2.2
def iC (M:Wm):List (List (Option Int)):=heldOf M ++ [sE M]
def Kc (X:Cs):Sp:=fun vs H Q E=>∃ wo,vs=[.ref wo]∧∃ T s A M,s≠0∧WJ X H T s A M∧A.wo=wo∧M.hands.length≤1000∧M.names.length≤1000∧∀ (l:Addr) (ls:List Addr) H',aX H H'→H l=none→H' l=some (.lst (ls.map V.ref))→ls.length=(iC M).length→(∀ r∈ls,H r=none)→l∉ls→(∀ (j:Nat) r x,ls[j]? =some r→(iC M)[j]? =some x→H' r=some (.lst (x.map oV)))→Q (.ref l) H'
section
variable {K:aC}{X:Cs}{H:Hp}{Q:VK}{E:XK}{n:St→Hp→Prop}{bk ct:St→Hp→Prop}
theorem Zps {T:Tg}{ns:List Addr}{names:List (Str×(Int×Int))} (h:Al (NmO H T) ns names):∀ {i:Nat}{kv:L2.Key×V},(yr names ns)[i]? =some kv→∃ t m,names[i]? =some m∧kv.2=.ref t∧H t=some (.tup [.int m.2.1,.int m.2.2])∧T t=(0,0):=by
 induction h with
 | nil=>intro i kv e;simp [yr] at e
 | cons h0 h ih=>
  intro i kv e;cases i with
  | zero=>cases e;exact ⟨_,_,rfl,rfl,h0.2,h0.1⟩
  | succ i=>exact ih (i:=i) (kv:=kv) (by simpa [yr] using e)
theorem Zf1 {wo:Addr} (T:pD K X) (q:∃ T s A M,s≠0∧WJ X H T s A M∧A.wo=wo∧M.hands.length≤1000∧M.names.length≤1000∧∀ (l:Addr) (ls:List Addr) H',aX H H'→H l=none→H' l=some (.lst (ls.map V.ref))→ls.length=(iC M).length→(∀ r∈ls,H r=none)→l∉ls→(∀ (j:Nat) r x,ls[j]? =some r→(iC M)[j]? =some x→H' r=some (.lst (x.map oV)))→Q (.ref l) H'):
  K6 K (Vv X) (Aj X) H ⟨n,Q,bk,ct⟩ [some (.ref wo)] H:=by
 obtain ⟨Tg,s,A,M,h0,j,rfl,hh,hn,q⟩:=q;unfold K6;walk_at "ev";refine ⟨_,rfl,Tg,s,A,M,j,rfl,hh,fun l1 ls1 H1 s1 nl1 ol1 hl1 nd1 nn1 Zye g1=>?_⟩;have j1:=j.same s1;obtain ⟨dw,ow⟩:=j1.jb.ow;have om:=j1.jn.om;walk_at "ev";refine aK ow T.cW T.nWn lK ?_;refine ⟨_,_,rfl,.inl om,fun vv nvv=>?_⟩;have s2:=aM nvv (Im vv A.nm);have g2:upd H1 vv (Im vv A.nm) vv=some (Im vv A.nm):=aq;generalize upd H1 vv (Im vv A.nm)=H2 at s2 g2 ⊢;have j2:=j1.same s2;have om2:=j2.jn.om;refine ⟨_,_,_,rfl,g2,om2,fun o=>?_⟩;have lnm:(yr M.names A.ns).length=M.names.length:=Zg1 j2.jn.nms;have w3:=j2.names (o:=.Bc o (.dK (yr M.names A.ns))) h0;have Zjz:∀ b u,H2 b=some u→b≠A.nm→upd H2 A.nm (.Bc o (.dK (yr M.names A.ns))) b=some u:=fun b u hb nb=>by rw [aB nb];exact hb
 have g3:upd H2 A.nm (.Bc o (.dK (yr M.names A.ns))) A.nm=some (.Bc o (.dK (yr M.names A.ns))):=aq;generalize upd H2 A.nm (.Bc o (.dK (yr M.names A.ns)))=H3 at w3 Zjz g3 ⊢;have nmn:∀ t xs,H2 t=some (.tup xs)→t≠A.nm:=fun t xs z=>pI z om2 (fun y=>by cases y);refine Zbf ?_;refine Zgs M.names.length (by omega) (fun i y _=>∃ m,M.names[i]? =some m∧y=oV (Iu M m.2.1 m.2.2)) (fun _ _ _ _ h _=>h) (fun H' s=>⟨s _ _ g3,by omega⟩) (fun i H' hi s=>⟨s _ _ g3,by omega⟩) (fun i x H4 H5 hi s4 y=>?_) ?_
 ·obtain ⟨rfl,kv,ekv,rfl⟩:=y;obtain ⟨t,m,em,et,ot,tt⟩:=Zps j2.jn.nms ekv;refine ⟨rfl,fun q hq=>zX hq,fun q hq=>?_⟩;have ot4:=s4 _ _ (Zjz _ _ ot (nmn _ _ ot));refine ⟨t,_,_,_,by rw [et],iQ.of ot4,?_⟩;walk_at "caps";walk_at "ev";exact ⟨_,_,_,rfl,Tg,s,A,M,w3.same s4,rfl,fun H6 s6=>hq _ _ s6 ⟨m,em,rfl⟩⟩
 ·intro ys H4 s4 ly hy p np;have ey:ys=(sE M).map oV:=by
   refine List.ext_getElem? fun i=>?_
   by_cases hi:i < ys.length
   ·obtain ⟨m,e1,e2⟩:=hy i ys[i] (bW hi);rw [bW hi,e2];unfold sE;rw [cP,cP,e1];rfl
   ·rw [List.getElem?_eq_none (by omega),List.getElem?_eq_none];unfold sE;rw [bD,bD];omega
  subst ey;have g5:=s4 _ _ g3;have npn:p≠A.nm:=fun z=>by rw [z,g5] at np;cases np
  refine ⟨A.nm,o,_,by rw [aB npn.symm];exact g5,(fun o' u z=>by rw [j.jn.om] at z;cases z),?_⟩;generalize hH5:upd (upd H4 p (.lst ((sE M).map oV))) A.nm (.dK (yr M.names A.ns))=H5;have s25:aX H2 H5:=fun b u hb=>by
   rw [← hH5]
   by_cases z:b=A.nm
   ·subst z;rw [aq];rw [om2] at hb;exact hb
   ·have h3:=Zjz b u hb z;rw [aB z,aB (aD (s4 _ _ h3) np)];exact s4 _ _ h3
  have np2:H2 p=none:=by
   cases z:H2 p with
   | none=>rfl
   | some u=>
    have:=s4 _ _ (Zjz p u z npn);rw [np] at this;cases this
  have op5:H5 p=some (.lst ((sE M).map oV)):=by rw [← hH5,aB npn];exact aq
  clear hH5;have s05:=s1.trans (s2.trans s25);have s15:=s2.trans s25;walk_at "ev";refine ⟨aW (by simp),fun l2 nl2=>?_⟩;have s6:=aM nl2 (.lst [.ref p]);have g6:upd H5 l2 (.lst [.ref p]) l2=some (.lst [.ref p]):=aq;generalize upd H5 l2 (.lst [.ref p])=H6 at s6 g6 ⊢;refine ⟨l1,l2,_,_,rfl,rfl,s6 _ _ (s15 _ _ ol1),g6,?_,fun l3 nl3=>?_⟩
  ·rw [bD];have:(heldOf M).length=M.hands.length:=by unfold heldOf;rw [bD]
   exact aW (by simp;omega)
  have s7:=aM nl3 (.lst (ls1.map V.ref ++ [.ref p]));have s07:=s05.trans (s6.trans s7);have e7:ls1.map V.ref ++ [V.ref p]=(ls1 ++ [p]).map V.ref:=by rw [List.map_append];rfl
  rw [e7] at s7 s07 ⊢;have fp:H p=none:=s1.free (s2.free np2);refine q l3 (ls1 ++ [p]) _ s07 (s05.free (s6.free nl3)) aq ?_ (fun r hr=>?_) (fun hr=>?_) fun k r x e1 e2=>?_
  ·unfold iC;rw [List.length_append,List.length_append,hl1];rfl
  ·rcases List.mem_append.mp hr with hr | hr
   ·exact nn1 r hr
   ·rw [List.mem_singleton.mp hr];exact fp
  ·rcases List.mem_append.mp hr with hr | hr
   ·obtain ⟨k,hk,e⟩:=List.getElem_of_mem hr;have:=g1 k l3 (heldOf M)[k] (by rw [bW hk,e]) (bW (by omega));rw [s6 _ _ (s15 _ _ this)] at nl3;cases nl3
   ·rw [List.mem_singleton.mp hr,s6 _ _ op5] at nl3;cases nl3
  ·unfold iC at e2
   by_cases hk:k < ls1.length
   ·rw [List.getElem?_append_left hk] at e1;rw [List.getElem?_append_left (by omega)] at e2;exact s7 _ _ (s6 _ _ (s15 _ _ (g1 k r x e1 e2)))
   ·have hk2:=(dN e1).1;rw [List.length_append,List.length_singleton] at hk2;have ek:k=ls1.length:=by omega
    rw [List.getElem?_append_right (by omega)] at e1 e2;rw [ek,Nat.sub_self] at e1;rw [ek,hl1,Nat.sub_self] at e2;cases e1;cases e2;exact s7 _ _ (s6 _ _ op5)
end
namespace KB
abbrev Fd:=List (Option (List (Option Int)))
def Rt (F:Fd) (p:Int):Option (List (Option Int)):=if 0≤p then (F[p.toNat]?).join else none
def nxt (F:Fd) (pl:Option Int) (f:Int):Option Int:=match pl with
 | none=>none
 | some p=>match Rt F p with
  | none=>none
  | some fl=>if 0≤f then (fl[f.toNat]?).join else none
abbrev Rw:=List (List (Option Int))
def slt (R:Rw) (r s:Int):Option Int:=((R[r.toNat]?).bind fun x=>x[s.toNat]?).join
def Wv (F:Fd) (w:List Int) (x:Option Int×Nat):Option (Int×List Int):=match x.1 with
 | none=>none
 | some q=>if (Rt F q).isSome then some (q,w ++ [(x.2:Int)]) else none
def onw (F:Fd) (w:List Int) (n:Nat) (ps:List (Option Int)):List (Int×List Int):=(ps.zipIdx n).filterMap (Wv F w)
def q0 (F:Fd) (n:Nat) (R:Rw):List (Int×List Int):=(R.zipIdx n).flatMap fun x=>onw F [(x.2:Int)] 0 x.1
structure Good (F:Fd) (R:Rw) (p:Int) (w:List Int):Prop where
 ex:∃ r s fs row,w=r :: s :: fs∧0≤r∧0≤s∧R[r.toNat]? =some row∧s.toNat < row.length∧(∀ f∈fs,0≤f)∧fs.foldl (nxt F) (slt R r s)=some p
 there:(Rt F p).isSome=true
theorem Ag {F:Fd}{w:List Int}{n:Nat}{ps:List (Option Int)}{q:Int}{v:List Int} (h:(q,v)∈onw F w n ps):∃ k,ps[k]? =some (some q)∧v=w ++ [((n + k:Nat):Int)]∧(Rt F q).isSome=true:=by
 obtain ⟨⟨x,m⟩,hm,e⟩:=List.mem_filterMap.mp h;obtain ⟨hk1,hk2⟩:=List.mem_zipIdx_iff_le_and_getElem?_sub.mp hm;unfold Wv at e;cases x with
 | none=>cases e
 | some q'=>
  simp only at e;split at e
  ·rename_i hs
   cases e;refine ⟨m - n,hk2,?_,hs⟩;have:n + (m - n)=m:=by have:=hk1;simp only at this;omega
   rw [this]
  ·cases e
theorem Zhe {F:Fd}{R:Rw}{p q:Int}{w v:List Int}{fl:List (Option Int)} (g:Good F R p w) (hf:Rt F p=some fl) (h:(q,v)∈onw F w 0 fl):Good F R q v:=by
 obtain ⟨k,hk,rfl,hs⟩:=Ag h;obtain ⟨⟨r,s,fs,row,rfl,h1,h2,h3,h4,h5,h6⟩,_⟩:=g;refine ⟨⟨r,s,fs ++ [((0 + k:Nat):Int)],row,rfl,h1,h2,h3,h4,fun f hf=>?_,?_⟩,hs⟩
 ·rcases List.mem_append.mp hf with z | z
  ·exact h5 f z
  ·have:f=((0 + k:Nat):Int):=by simpa using z
   omega
 ·rw [List.foldl_append,h6];show nxt F (some p) _=some q;unfold nxt;simp only [hf];rw [if_pos (by omega)];have:(((0 + k:Nat):Int)).toNat=k:=by omega
  rw [this,hk];rfl
theorem Zkz {F:Fd}{R:Rw}{q:Int}{v:List Int} (h:(q,v)∈q0 F 0 R):Good F R q v:=by
 obtain ⟨⟨row,n⟩,hm,h⟩:=List.mem_flatMap.mp h;have hr:R[n]? =some row:=List.mem_zipIdx_iff_getElem?.mp hm;obtain ⟨k,hk,rfl,hs⟩:=Ag h;refine ⟨⟨(n:Int),((0 + k:Nat):Int),[],row,rfl,by omega,by omega,by simpa using hr,?_,(fun f hf=>by cases hf),?_⟩,hs⟩
 ·have:k < row.length:=(dN hk).1;omega
 ·show slt R _ _=some q;unfold slt;have e1:((n:Int)).toNat=n:=by omega
  have e2:(((0 + k:Nat):Int)).toNat=k:=by omega
  rw [e1,e2,hr];simp only [Option.bind_some,hk,Option.join_some]
inductive Km (F:Fd) (R:Rw):List (Int×List Int)→Nat→List (Int×List Int)→Prop
 | start:Km F R (q0 F 0 R) 0 []
 | old {q k l p w}:Km F R q k l→q[k]? =some (p,w)→p∈l.map (·.1)→Km F R q (k + 1) l
 | new {q k l p w fl}:Km F R q k l→q[k]? =some (p,w)→p∉l.map (·.1)→Rt F p=some fl→Km F R (q ++ onw F w 0 fl) (k + 1) (l ++ [(p,w)])
theorem Km.good {F:Fd}{R:Rw}{q l:List (Int×List Int)}{k:Nat} (b:Km F R q k l):(∀ x∈q,Good F R x.1 x.2)∧∀ x∈l,Good F R x.1 x.2:=by
 induction b with
 | start=>exact ⟨fun x hx=>Zkz hx,fun x hx=>nomatch hx⟩
 | old _ _ _ ih=>exact ih
 | new b hq hn hf ih=>
  have g:=ih.1 _ (List.mem_of_getElem? hq);refine ⟨fun x hx=>?_,fun x hx=>?_⟩
  ·rcases List.mem_append.mp hx with z | z
   ·exact ih.1 x z
   ·exact Zhe g hf z
  ·rcases List.mem_append.mp hx with z | z
   ·exact ih.2 x z
   ·have z':=List.mem_singleton.mp z;rw [z'];exact g
def wgt:Option (List (Option Int))→Nat
 | none=>0
 | some fl=>fl.length
def Yp (F:Fd) (l:List (Int×List Int)):Nat:=((F.zipIdx).map fun x=>if (x.2:Int)∈l.map (·.1) then 0 else wgt x.1).sum
theorem Zet {α:Type} (f g:α→Nat):∀ (xs:List α),(∀ x∈xs,g x≤f x)→(xs.map g).sum≤(xs.map f).sum
 | [],_=>Nat.le_refl _
 | x :: xs,h=>by
  have h1:=h x (by simp);have h2:=Zet f g xs fun y hy=>h y (by simp [hy]);simp only [List.map_cons,List.sum_cons];omega
theorem V3 {α:Type} (f g:α→Nat) (d:Nat):∀ (xs:List α) (a:α),a∈xs→(∀ x∈xs,g x≤f x)→g a + d≤f a→(xs.map g).sum + d≤(xs.map f).sum
 | [],_,h,_,_=>nomatch h
 | x :: xs,a,ha,h,hd=>by
  have h1:=h x (by simp);have h2:=Zet f g xs fun y hy=>h y (by simp [hy]);simp only [List.map_cons,List.sum_cons];rcases List.mem_cons.mp ha with z | z
  ·subst z;omega
  ·have h3:=V3 f g d xs a z (fun y hy=>h y (by simp [hy])) hd;omega
theorem J0 {F:Fd}{w:List Int}{n:Nat}{ps:List (Option Int)}:(onw F w n ps).length≤ps.length:=by
 unfold onw;have:=List.length_filterMap_le (Wv F w) (ps.zipIdx n);rw [List.length_zipIdx] at this;exact this
theorem Zei {F:Fd}{l:List (Int×List Int)}{p:Int}{w:List Int}{fl:List (Option Int)} (hn:p∉l.map (·.1)) (hf:Rt F p=some fl):Yp F (l ++ [(p,w)]) + fl.length≤Yp F l:=by
 unfold Rt at hf;split at hf
 ·rename_i h0
  have hp:F[p.toNat]? =some (some fl):=by
   cases e:F[p.toNat]? with
   | none=>rw [e] at hf;cases hf
   | some x=>rw [e] at hf;simp only [Option.join_some] at hf;rw [hf]
  unfold Yp;refine V3 _ _ fl.length _ (some fl,p.toNat) (List.mem_zipIdx_iff_getElem?.mpr hp) (fun x _=>?_) ?_
  ·simp only [List.map_append,List.map_cons,List.map_nil,List.mem_append]
   by_cases h1:(x.2:Int)∈l.map (·.1)
   ·simp only [h1,true_or,↓reduceIte,Nat.le_refl]
   ·simp only [h1,false_or];split
    ·exact Nat.zero_le _
    ·exact Nat.le_refl _
  ·have e:((p.toNat:Nat):Int)=p:=by omega
   simp only [List.map_append,List.map_cons,List.map_nil,List.mem_append,e];rw [if_pos (.inr (by simp)),if_neg hn];show 0 + fl.length≤wgt (some fl);show 0 + fl.length≤fl.length;omega
 ·cases hf
def total (F:Fd) (R:Rw):Nat:=(q0 F 0 R).length + Yp F []
theorem Km.bound {F:Fd}{R:Rw}{q l:List (Int×List Int)}{k:Nat} (b:Km F R q k l):q.length + Yp F l≤total F R:=by
 induction b with
 | start=>exact Nat.le_refl _
 | old _ _ _ ih=>exact ih
 | new b hq hn hf ih=>
  have h2:=@J0 F;rw [List.length_append];refine Nat.le_trans ?_ ih
  rename_i w fl
  have h3:=h2 (w:=w) (n:=0) (ps:=fl);have h4:=Zei (w:=w) hn hf;omega
end KB
def Zlf (cs:List V) (i:Int):V:=if 0≤i then (cs[i.toNat]?).getD .non else .non
def CO (CC:Addr) (H:Hp) (cs:List V) (i:Nat):Option (List (Option Int))→Prop
 | none=>cs[i]? =some .non
 | some fl=>∃ p fa b u t l,cs[i]? =some (.ref p)∧wj CC H p fa b u t l (fl.map oV)
structure HV (CC CH:Addr) (H:Hp) (hp:Addr) (F:KB.Fd):Prop where
 ex:∃ ca room used born cs,HpO CH H hp ca room used born cs∧cs.length=F.length∧∀ (i:Nat) x,F[i]? =some x→CO CC H cs i x
theorem HpO.same {CH:Addr}{H H':Hp}{hp ca:Addr}{room used born:Int}{cs:List V} (h:HpO CH H hp ca room used born cs) (s:aX H H'):HpO CH H' hp ca room used born cs:=by
 obtain ⟨⟨dx,h1⟩,h2⟩:=h;exact ⟨⟨dx,s _ _ h1⟩,s _ _ h2⟩
theorem CO.same {CC:Addr}{H H':Hp}{cs:List V}{i:Nat}{x:Option (List (Option Int))} (h:CO CC H cs i x) (s:aX H H'):CO CC H' cs i x:=by
 cases x with
 | none=>exact h
 | some fl=>
  obtain ⟨p,fa,b,u,t,l,e,c⟩:=h;exact ⟨p,fa,b,u,t,l,e,c.same s⟩
theorem HV.same {CC CH:Addr}{H H':Hp}{hp:Addr}{F:KB.Fd} (h:HV CC CH H hp F) (s:aX H H'):HV CC CH H' hp F:=by
 obtain ⟨ca,room,used,born,cs,o,l,e⟩:=h;exact ⟨ca,room,used,born,cs,o.same s,l,fun i x hx=>(e i x hx).same s⟩
theorem Zhp {CC:Addr}{H:Hp}{cs:List V}{F:KB.Fd} (hl:cs.length=F.length) (e:∀ (i:Nat) x,F[i]? =some x→CO CC H cs i x) (i:Int):
  (KB.Rt F i=none∧Zlf cs i=.non)∨∃ fl p fa b u t l,KB.Rt F i=some fl∧Zlf cs i=.ref p∧cs[i.toNat]? =some (.ref p)∧0≤i∧wj CC H p fa b u t l (fl.map oV):=by
 unfold KB.Rt Zlf
 by_cases h0:0≤i
 ·simp only [h0,↓reduceIte];cases hf:F[i.toNat]? with
  | none=>
   have:cs[i.toNat]? =none:=by rw [List.getElem?_eq_none_iff] at hf ⊢;omega
   exact .inl ⟨rfl,by rw [this];rfl⟩
  | some x=>
   have c:=e _ _ hf;cases x with
   | none=>exact .inl ⟨rfl,by rw [show cs[i.toNat]? =some V.non from c];rfl⟩
   | some fl=>
    obtain ⟨p,fa,b,u,t,l,e1,c1⟩:=c;exact .inr ⟨fl,p,fa,b,u,t,l,rfl,by rw [e1];rfl,e1,trivial,c1⟩
 ·simp only [h0,↓reduceIte];exact .inl ⟨trivial,trivial⟩
def CV (H:Hp):List Addr→List (Int×List Int)→Prop
 | [],[]=>True
 | t :: ts,x :: qs=>(∃ a,H t=some (.tup [.int x.1,.ref a])∧H a=some (.tup (x.2.map V.int)))∧CV H ts qs
 | _,_=>False
theorem CV.same {H H':Hp} (s:aX H H'):∀ {ts:List Addr}{qs:List (Int×List Int)},CV H ts qs→CV H' ts qs
 | [],[],_=>trivial
 | [],_ :: _,h=>h.elim
 | _ :: _,[],h=>h.elim
 | _ :: _,_ :: _,⟨⟨a,h1,h2⟩,h3⟩=>⟨⟨a,s _ _ h1,s _ _ h2⟩,CV.same s h3⟩
theorem CV.app {H:Hp}:∀ {ts us:List Addr}{qs rs:List (Int×List Int)},CV H ts qs→CV H us rs→CV H (ts ++ us) (qs ++ rs)
 | [],_,[],_,_,h=>h
 | [],_,_ :: _,_,h,_=>h.elim
 | _ :: _,_,[],_,h,_=>h.elim
 | _ :: _,_,_ :: _,_,⟨h1,h3⟩,h=>⟨h1,CV.app h3 h⟩
theorem CV.len {H:Hp}:∀ {ts:List Addr}{qs:List (Int×List Int)},CV H ts qs→ts.length=qs.length
 | [],[],_=>rfl
 | [],_ :: _,h=>h.elim
 | _ :: _,[],h=>h.elim
 | _ :: _,_ :: _,⟨_,h3⟩=>by rw [List.length_cons,List.length_cons,CV.len h3]
theorem CV.at {H:Hp}:∀ {ts:List Addr}{qs:List (Int×List Int)}{i:Nat}{x:Int×List Int},CV H ts qs→qs[i]? =some x→∃ t a,ts[i]? =some t∧H t=some (.tup [.int x.1,.ref a])∧H a=some (.tup (x.2.map V.int))
 | [],[],_,_,_,e=>by simp at e
 | [],_ :: _,_,_,h,_=>h.elim
 | _ :: _,[],_,_,h,_=>h.elim
 | t :: _,_ :: _,0,_,⟨⟨a,h1,h2⟩,_⟩,e=>by cases e;exact ⟨t,a,rfl,h1,h2⟩
 | _ :: _,_ :: _,i + 1,_,⟨_,h3⟩,e=>CV.at (i:=i) h3 e
def z8 (K:aC) (CC CH:Addr):Sp:=fun vs H Q E=>∃ hp a wt F ps w,vs=[.ref hp,.ref a,.ref wt]∧HV CC CH H hp F∧dz K H a (ps.map oV)∧iQ K H wt (w.map V.int)∧w≠[]∧w.length≤100000∧ps.length≤1000∧
 ∀ l ts H',H l=none→aX H H'→H' l=some (.lst (ts.map V.ref))→CV H' ts (KB.onw F w 0 ps)→Q (.ref l) H'
def CQ (K:aC) (H:Hp):List Addr→KB.Rw→Prop
 | [],[]=>True
 | a :: as,r :: R=>dz K H a (r.map oV)∧CQ K H as R
 | _,_=>False
theorem CQ.same {K:aC}{H H':Hp} (s:aX H H'):∀ {as:List Addr}{R:KB.Rw},CQ K H as R→CQ K H' as R
 | [],[],_=>trivial
 | [],_ :: _,h=>h.elim
 | _ :: _,[],h=>h.elim
 | _ :: _,_ :: _,⟨h1,h3⟩=>⟨s.seq h1,CQ.same s h3⟩
theorem CQ.len {K:aC}{H:Hp}:∀ {as:List Addr}{R:KB.Rw},CQ K H as R→as.length=R.length
 | [],[],_=>rfl
 | [],_ :: _,h=>h.elim
 | _ :: _,[],h=>h.elim
 | _ :: _,_ :: _,⟨_,h3⟩=>by rw [List.length_cons,List.length_cons,CQ.len h3]
theorem CQ.at {K:aC}{H:Hp}:∀ {as:List Addr}{R:KB.Rw}{i:Nat}{a:Addr},CQ K H as R→as[i]? =some a→∃ r,R[i]? =some r∧dz K H a (r.map oV)
 | [],[],_,_,_,e=>by simp at e
 | [],_ :: _,_,_,h,_=>h.elim
 | _ :: _,[],_,_,h,_=>h.elim
 | _ :: _,r :: _,0,_,⟨h1,_⟩,e=>by cases e;exact ⟨r,rfl,h1⟩
 | _ :: _,_ :: _,i + 1,_,⟨_,h3⟩,e=>CQ.at (i:=i) h3 e
structure Few (F:KB.Fd) (R:KB.Rw):Prop where
 f:F.length≤1000
 g:∀ p fl,KB.Rt F p=some fl→fl.length≤1000
 r:R.length≤1000
 s:∀ x∈R,x.length≤1000
 t:KB.total F R≤90000
def Ak (K:aC) (CC CH:Addr):Sp:=fun vs H Q E=>∃ hp ra F rs R,vs=[.ref hp,.ref ra]∧HV CC CH H hp F∧dz K H ra (rs.map V.ref)∧CQ K H rs R∧Few F R∧
 ∀ l ts q qs H',KB.Km F R q q.length qs→H l=none→aX H H'→H' l=some (.lst (ts.map V.ref))→CV H' ts qs→Q (.ref l) H'
theorem Zqz {CC CH hp:Addr}{H:Hp}{Q:VK}{E:XK}{pl:Option Int}{F:KB.Fd} (v:HV CC CH H hp F) (q1:pl.bind (KB.Rt F)=none→Q .non H) (q2:∀ fl p fa b u t l,pl.bind (KB.Rt F)=some fl→wj CC H p fa b u t l (fl.map oV)→Q (.ref p) H):dG CH [.ref hp,oV pl] H Q E:=by
 obtain ⟨ca,room,used,born,cs,o,hl,he⟩:=v;refine ⟨hp,oV pl,rfl,vP pl,ca,room,used,born,cs,o,?_⟩;cases pl with
 | none=>exact q1 rfl
 | some i=>
  show Q (Zlf cs i) H;rcases Zhp hl he i with ⟨e1,e2⟩ | ⟨fl,p,fa,b,u,t,l,e1,e2,_,_,c⟩
  ·rw [e2];exact q1 e1
  ·rw [e2];exact q2 fl p fa b u t l e1 c
theorem Wu (F:KB.Fd) (w:List Int) (n:Nat) (ps:List (Option Int)) (x:Option Int):KB.onw F w n (ps ++ [x])=KB.onw F w n ps ++ (KB.Wv F w (x,n + ps.length)).toList:=by
 unfold KB.onw;rw [List.zipIdx_append,List.filterMap_append];congr 1
theorem take_snoc {α:Type}{xs:List α}{i:Nat}{x:α} (h:xs[i]? =some x):xs.take (i + 1)=xs.take i ++ [x]:=by
 rw [List.take_add_one,h];rfl
theorem jZ {H:Hp}{a:Addr}{o:HO} (h:H a=none):aX H (upd H a o):=fun b u q=>by rw [aB (aD q h)];exact q
section
variable {K:aC}{aZ aY bN:Addr}{H:Hp}{Q:VK}{E:XK}{n:St→Hp→Prop}{bk ct:St→Hp→Prop}
theorem Zr {hp a wt:Addr}{F:KB.Fd}{ps:List (Option Int)}{w:List Int} (v:HV aZ aY H hp F) (ha:dz K H a (ps.map oV)) (hw:iQ K H wt (w.map V.int)) (hne:w≠[]) (hwl:w.length≤100000) (hpl:ps.length≤1000)
  (Zmi:∀ {H':Hp},aX H H'→iQ K H' wt (w.map V.int))
  (q:∀ l ts H',H l=none→aX H H'→H' l=some (.lst (ts.map V.ref))→CV H' ts (KB.onw F w 0 ps)→Q (.ref l) H'):
  Ad K (dG aY) ⟨n,Q,bk,ct⟩ [some (.ref hp),some (.ref a),some (.ref wt)] H:=by
 unfold Ad;walk_at "ev";refine ⟨a,rfl,⟨_,ha⟩,Zk7 ha (by rw [bD];omega) (fun i ys H1=>aX H H1∧i≤ps.length∧∃ ts,ys=ts.map V.ref∧CV H1 ts (KB.onw F w 0 (ps.take i))) ⟨aX.refl _,Nat.zero_le _,[],rfl,trivial⟩ ?_ ?_ ?_⟩
 ·rintro i ys H1 ⟨sm,hi,ts,rfl,qa⟩;refine ⟨sm,?_⟩;rw [bD,qa.len];refine Nat.le_trans KB.J0 ?_;rw [List.length_take];omega
 ·rintro i x ys H1 t C hC hx ⟨sm,hi,ts,rfl,qa⟩ ht;walk_at "caps";rw [cP] at hx;obtain ⟨y,hy,rfl⟩:=Option.map_eq_some_iff.mp hx;have hil:i < ps.length:=(dN hy).1;have hn0:0 + (ps.take i).length=i:=by rw [List.length_take];omega
  have s1:aX H1 (upd H1 t (.tup [.int i,oV y])):=jZ ht;have sm1:=sm.trans s1;walk_at "ev";refine Zqz (v.same sm1) (fun e=>?_) (fun fl p fa b u t' l e c=>?_)
  ·refine Z5 ?_;walk_at "ev";refine Zgx (hC _ _ ⟨sm1,hil,ts,rfl,?_⟩);rw [take_snoc hy,Wu,hn0];have e1:KB.Wv F w (y,i)=none:=by
    unfold KB.Wv;cases y with
    | none=>rfl
    | some q'=>simp only;rw [show KB.Rt F q'=none from e];rfl
   rw [e1];simp only [Option.toList_none,List.append_nil];exact qa.same s1
  ·refine Z5 ?_;walk_at "ev";refine Xe ?_;obtain ⟨q',rfl⟩:∃ q',y=some q':=by
    cases y with
    | none=>cases e
    | some q'=>exact ⟨q',rfl⟩
   have e':KB.Rt F q'=some fl:=e;walk_at "ev";refine ⟨(by show 1≤sizeLine;decide),fun t2 ht2=>?_⟩;have s2:=s1.trans (jZ (o:=.tup [.int i]) ht2);refine ⟨wt,t2,w.map V.int,[.int i],rfl,rfl,Zmi (sm.trans s2),iQ.of aq,by simpa using hne,by rw [bD];exact aW (by simp only [List.length_cons,List.length_nil];omega),(fun z=>nomatch z),(fun _ t3 ht3=>?_)⟩;have s3:=s2.trans (jZ (o:=.tup (w.map V.int ++ [.int i])) ht3);walk_at "ev";refine ⟨(by show 2≤sizeLine;decide),fun t4 ht4=>?_⟩;have s4:=s3.trans (jZ (o:=.tup [oV (some q'),.ref t3]) ht4);have n34:t3≠t4:=aD aq ht4;have h3:upd (upd (upd (upd H1 t (.tup [.int i,oV (some q')])) t2 (.tup [.int i])) t3 (.tup (w.map V.int ++ [.int i]))) t4 (.tup [oV (some q'),.ref t3]) t3=some (.tup (w.map V.int ++ [.int i])):=by
    rw [aB n34,aq]
   walk_at "ev";refine hC _ _ ⟨sm.trans s4,hil,ts ++ [t4],by simp,?_⟩;rw [take_snoc hy,Wu,hn0];have e1:KB.Wv F w (some q',i)=some (q',w ++ [(i:Int)]):=by
    unfold KB.Wv;simp only [e',Option.isSome_some,↓reduceIte]
   rw [e1];refine (qa.same s4).app ⟨⟨t3,aq,?_⟩,trivial⟩;rw [h3,List.map_append];rfl
 ·rintro ys H1 ⟨sm,_,ts,rfl,qa⟩ l hl;walk_at "ev";rw [bD,List.take_length] at qa;exact q l ts _ (sm.free hl) (sm.trans (jZ hl)) aq (qa.same (jZ hl))
end
theorem Zmi {K:aC}{H H':Hp}{a:Addr}{xs:List V} (e:aX H H') (h:iQ K H a xs):iQ K H' a xs:=by
 rcases h with (h | ⟨o,h⟩) | h
 ·exact .inl (.inl (e _ _ h))
 ·exact .inl (.inr ⟨o,e _ _ h⟩)
 ·exact .inr h
def TK (H H':Hp):Prop:=∀ b xs,H b=some (.tup xs)→H' b=some (.tup xs)
theorem TK.same {H H':Hp} (s:aX H H'):TK H H':=fun b _ h=>s b _ h
theorem TK.upd {H:Hp}{a:Addr}{o:HO} (h:∀ xs,H a≠some (.tup xs)):TK H (L2.upd H a o):=fun b xs q=>by
 have n:b≠a:=fun z=>h xs (by rw [← z];exact q);rw [aB n];exact q
theorem TK.trans {H H1 H2:Hp} (a:TK H H1) (b:TK H1 H2):TK H H2:=fun c xs h=>b c xs (a c xs h)
theorem CV.tk {H H':Hp} (s:TK H H'):∀ {ts:List Addr}{qs:List (Int×List Int)},CV H ts qs→CV H' ts qs
 | [],[],_=>trivial
 | [],_ :: _,h=>h.elim
 | _ :: _,[],h=>h.elim
 | _ :: _,_ :: _,⟨⟨a,h1,h2⟩,h3⟩=>⟨⟨a,s _ _ h1,s _ _ h2⟩,CV.tk s h3⟩
def RB (H:Hp):List (Key×V)→List (Int×List Int)→Prop
 | [],[]=>True
 | kv :: kvs,x :: qs=>(kv.1=Sum.inl x.1∧∃ a,kv.2=.ref a∧H a=some (.tup (x.2.map V.int)))∧RB H kvs qs
 | _,_=>False
theorem RB.tk {H H':Hp} (s:TK H H'):∀ {kvs:List (Key×V)}{qs:List (Int×List Int)},RB H kvs qs→RB H' kvs qs
 | [],[],_=>trivial
 | [],_ :: _,h=>h.elim
 | _ :: _,[],h=>h.elim
 | _ :: _,_ :: _,⟨⟨h0,a,h1,h2⟩,h3⟩=>⟨⟨h0,a,h1,s _ _ h2⟩,RB.tk s h3⟩
theorem RB.app {H:Hp}:∀ {ks ls:List (Key×V)}{qs rs:List (Int×List Int)},RB H ks qs→RB H ls rs→RB H (ks ++ ls) (qs ++ rs)
 | [],_,[],_,_,h=>h
 | [],_,_ :: _,_,h,_=>h.elim
 | _ :: _,_,[],_,h,_=>h.elim
 | _ :: _,_,_ :: _,_,⟨h1,h3⟩,h=>⟨h1,RB.app h3 h⟩
theorem RB.len {H:Hp}:∀ {ts:List (Key×V)}{qs:List (Int×List Int)},RB H ts qs→ts.length=qs.length
 | [],[],_=>rfl
 | [],_ :: _,h=>h.elim
 | _ :: _,[],h=>h.elim
 | _ :: _,_ :: _,⟨_,h3⟩=>by rw [List.length_cons,List.length_cons,RB.len h3]
theorem RB.val {H:Hp} (p:Int):∀ {kvs:List (Key×V)}{qs:List (Int×List Int)},RB H kvs qs→(lX kvs (Sum.inl p)).isSome=decide (p∈qs.map (·.1))
 | [],[],_=>by simp [lX]
 | [],_ :: _,h=>h.elim
 | _ :: _,[],h=>h.elim
 | kv :: kvs,x :: qs,⟨⟨h0,_⟩,h3⟩=>by
  by_cases e:x.1=p
  ·rw [lM (by rw [h0,e])];simp [e]
  ·rw [lN (by rw [h0];exact fun z=>e (Sum.inl.inj z)),RB.val p h3];simp only [List.map_cons,List.mem_cons];have e':¬ p=x.1:=fun z=>e z.symm;simp only [e',false_or]
theorem RB.prs {H:Hp}:∀ {ts:List Addr}{kvs:List (Key×V)}{qs:List (Int×List Int)},RB H kvs qs→XS H ts kvs→CV H ts qs
 | [],[],[],_,_=>trivial
 | _,[],_ :: _,h,_=>h.elim
 | _,_ :: _,[],h,_=>h.elim
 | [],_ :: _,_ :: _,_,h=>h.elim
 | _ :: _,[],[],_,h=>h.elim
 | t :: ts,kv :: kvs,x :: qs,⟨⟨h0,a,h1,h2⟩,h3⟩,⟨p1,p2⟩=>⟨⟨a,by rw [p1,h0,h1];rfl,h2⟩,RB.prs h3 p2⟩
theorem Zj3 (F:KB.Fd) (R:KB.Rw) (i:Nat) (r:List (Option Int)) (h:R[i]? =some r):KB.q0 F 0 (R.take (i + 1))=KB.q0 F 0 (R.take i) ++ KB.onw F [(i:Int)] 0 r:=by
 unfold KB.q0;rw [take_snoc h,List.zipIdx_append,List.flatMap_append];have hl:(R.take i).length=i:=by
  have:=(dN h).1;rw [List.length_take];omega
 rw [hl];simp only [List.zipIdx_cons,List.zipIdx_nil,List.flatMap_cons,List.flatMap_nil,List.append_nil,Nat.zero_add]
structure RS (K:aC) (CC CH:Addr) (H0 H:Hp) (ql d:Addr) (F:KB.Fd) (R:KB.Rw) (q qs:List (Int×List Int)) (k:Nat):Prop where
 sm:aX H0 H
 nq:H0 ql=none
 b:KB.Km F R q k qs
 hk:k≤q.length
 oq:∃ ts,H ql=some (.lst (ts.map V.ref))∧CV H ts q
 od:∃ kvs,H d=some (.dK kvs)∧RB H kvs qs
 nd:H0 d=none
theorem Zgl {H:Hp}{a:Addr}{xs:List V}{o:HO} (h:H a=some (.lst xs)):TK H (upd H a o):=TK.upd fun ys z=>by rw [h] at z;cases z
theorem Zqu {H:Hp}{a:Addr}{xs:List (Key×V)}{o:HO} (h:H a=some (.dK xs)):TK H (upd H a o):=TK.upd fun ys z=>by rw [h] at z;cases z
theorem KR {H0 H:Hp}{a:Addr}{o:HO} (s:aX H0 H) (h:H0 a=none):aX H0 (upd H a o):=fun b u q=>by rw [aB (aD q h)];exact s b u q
theorem Zlo {F:KB.Fd}{R:KB.Rw}{q l:List (Int×List Int)}{k:Nat} (b:KB.Km F R q k l):l.length≤k:=by
 induction b with
 | start=>exact Nat.le_refl _
 | old _ _ _ ih=>omega
 | new _ _ _ _ ih=>rw [List.length_append];simp only [List.length_cons,List.length_nil];omega
theorem Zib {F:KB.Fd}{R:KB.Rw}{q l:List (Int×List Int)}{k:Nat} (b:KB.Km F R q k l):∀ x∈q,x.2.length≤k + 2:=by
 induction b with
 | start=>
  intro x hx;obtain ⟨⟨row,n⟩,hm,h⟩:=List.mem_flatMap.mp hx;obtain ⟨j,_,e,_⟩:=KB.Ag (q:=x.1) (v:=x.2) h;rw [e];simp
 | old _ _ _ ih=>intro x hx;have:=ih x hx;omega
 | new b hq _ _ ih=>
  intro x hx;rcases List.mem_append.mp hx with z | z
  ·have:=ih x z;omega
  ·obtain ⟨j,_,e,_⟩:=KB.Ag (q:=x.1) (v:=x.2) z;have:=ih _ (List.mem_of_getElem? hq);rw [e,List.length_append];simp only [List.length_cons,List.length_nil];simp only at this;omega
theorem Zmp (F:KB.Fd):∀ (R S:KB.Rw) (n:Nat),(KB.q0 F n R).length≤(KB.q0 F n (R ++ S)).length:=fun R S n=>by
 unfold KB.q0;rw [List.zipIdx_append,List.flatMap_append,List.length_append];omega
theorem Zj2 (F:KB.Fd) (R:KB.Rw) (i:Nat):(KB.q0 F 0 (R.take i)).length≤KB.total F R:=by
 have:=Zmp F (R.take i) (R.drop i) 0;rw [List.take_append_drop] at this;unfold KB.total;omega
section
variable {K:aC}{aZ aY bN:Addr}{H:Hp}{Q:VK}{E:XK}{n:St→Hp→Prop}{bk ct:St→Hp→Prop}
theorem Wh {hp ra:Addr}{F:KB.Fd}{rs:List Addr}{R:KB.Rw}{v2 v3 v4 v5 v6 v7 v8:Option V} (T:TxC K aZ aY) (v:HV aZ aY H hp F) (hr:dz K H ra (rs.map V.ref)) (rw':CQ K H rs R) (fw:Few F R)
  (q:∀ l ts q qs H',KB.Km F R q q.length qs→H l=none→aX H H'→H' l=some (.lst (ts.map V.ref))→CV H' ts qs→Q (.ref l) H'):
  wO K (z8 K aZ aY) ⟨n,Q,bk,ct⟩ [some (.ref hp),some (.ref ra),v2,v3,v4,v5,v6,v7,v8] H:=by
 have hrl:=rw'.len;have f1:=fw.r;unfold wO;walk_at "ev";refine ⟨(by show 0≤sizeLine;decide),fun ql hql=>?_⟩;walk_at "ev";refine ⟨ra,rfl,⟨_,(jZ hql).seq hr⟩,Zqo (rs.map V.ref) (fun i σ Hx=>i≤rs.length∧aX H Hx∧(∃ ts,Hx ql=some (.lst (ts.map V.ref))∧CV Hx ts (KB.q0 F 0 (R.take i)))∧∃ x y,σ=[some (.ref hp),some (.ref ra),some (.ref ql),x,y,v5,v6,v7,v8])
  ⟨Nat.zero_le _,jZ hql,⟨[],aq,trivial⟩,_,_,rfl⟩ (fun i σ Hx _ ⟨_,sm,_⟩=>sm.seq hr) ?_ ?_⟩
 ·rintro i x t σ Hx hx ⟨hi,sm,⟨ts,hts,qa⟩,y,z,rfl⟩ ht;rw [cP] at hx;obtain ⟨r,er,rfl⟩:=Option.map_eq_some_iff.mp hx;obtain ⟨row,eR,hrow⟩:=rw'.at er;have hil:i < rs.length:=(dN er).1;have s1:=jZ (o:=.tup [.int i,.ref r]) ht;refine ⟨t,_,rfl,iQ.of aq,rfl,.int i,_,rfl,?_⟩;walk_at "ev";refine ⟨.ref r,_,rfl,?_⟩;walk_at "ev";refine ⟨rfl,?_⟩;walk_at "ev";refine ⟨.inl ⟨rfl,_,dz.of (s1 _ _ hts)⟩,?_⟩;walk_at "ev";refine ⟨(by show 1≤sizeLine;decide),fun t2 ht2=>?_⟩;have s2:=s1.trans (jZ (o:=.tup [.int i]) ht2);walk_at "ev";refine ⟨hp,r,t2,F,row,[(i:Int)],rfl,v.same (sm.trans s2),(sm.trans s2).seq hrow,iQ.of aq,(fun z=>nomatch z),(by show 1≤100000;decide),fw.s _ (List.mem_of_getElem? eR),fun l us H' hl s3 hl' qa'=>?_⟩;have s4:=s2.trans s3;have hq':H' ql=some (.lst (ts.map V.ref)):=s4 _ _ hts;walk_at "ev";have hlen:ts.length≤100000:=by
   rw [qa.len];exact Nat.le_trans (Nat.le_trans (Zj2 F R i) fw.t) (by decide)
  have hlen2:us.length≤1000:=by
   rw [qa'.len];exact Nat.le_trans KB.J0 (fw.s _ (List.mem_of_getElem? eR))
  refine ⟨ql,l,_,_,rfl,rfl,hq',hl',by rw [bD,bD];exact aW (by omega),?_⟩;walk_at "ev";refine ⟨hil,KR (sm.trans s4) hql,⟨ts ++ us,by rw [aq,List.map_append],?_⟩,_,_,rfl⟩;rw [Zj3 F R i row eR];exact ((qa.same s4).app qa').tk (Zgl hq')
 ·rintro σ Hx ⟨hi,sm,⟨ts,hts,qa⟩,y,z,rfl⟩;rw [bD,hrl,List.take_length] at qa;walk_at "ev";intro d hd;walk_at "ev";have ndq:d≠ql:=fun e=>by rw [e,hts] at hd;cases hd
  refine ⟨fun m σ Hx=>∃ q qs k x y v7 v8,m=KB.total F R - k∧σ=[some (.ref hp),some (.ref ra),some (.ref ql),x,y,some (.ref d),some (.int (k:Nat)),v7,v8]∧RS K aZ aY H Hx ql d F R q qs k,⟨_,KB.q0 F 0 R,[],0,_,_,_,_,rfl,rfl,?_⟩,?_⟩
  ·exact ⟨sm.trans (jZ hd),hql,.start,Nat.zero_le _,⟨ts,by rw [aB ndq.symm];exact hts,qa.same (jZ hd)⟩,⟨[],aq,trivial⟩,sm.free hd⟩
  ·rintro m σ Hy ⟨q',qs,k,x,y,v7,v8,rfl,rfl,rs'⟩;obtain ⟨sm',nq,b,hk,⟨ts,hts,qa⟩,⟨kvs,hkv,la⟩,nd⟩:=rs';have hlq:=qa.len;walk_at "ev";refine mO (dz.of hts) ?_;walk_at "ev";have hb:=b.bound;refine vB (fun z=>?_) (fun z=>?_)
   ·rw [bD] at z;have hkq:k < q'.length:=by omega
    have hq:q'[k]? =some q'[k]:=bW hkq;obtain ⟨t,a,et,ht,hat⟩:=qa.at hq;generalize hx:q'[k]=pw at hq ht hat;obtain ⟨p,w⟩:=pw;refine ⟨fun σ' H'=>∃ q2 qs2 x y v7 v8,σ'=[some (.ref hp),some (.ref ra),some (.ref ql),x,y,some (.ref d),some (.int ((k:Int) + 1)),v7,v8]∧RS K aZ aY H H' ql d F R q2 qs2 (k + 1),?_,?_⟩
    ·rintro σ' H' ⟨q2,qs2,x,y,v7,v8,rfl,r2⟩;exact ⟨KB.total F R - (k + 1),by omega,q2,qs2,k + 1,x,y,v7,v8,rfl,by rw [show ((k + 1:Nat):Int)=(k:Int) + 1 from by omega],r2⟩
    have hix:Yi (ts.map V.ref) ((k:Nat):Int)=some (.ref t):=jL (by rw [cP,et];rfl);walk_at "ev";refine j6 (dz.of hts) hix ?_;walk_at "ev";refine ⟨t,_,0,.int p,rfl,rfl,iQ.of ht,o9 (by decide) rfl,?_⟩;walk_at "ev";refine j6 (dz.of hts) hix ?_;walk_at "ev";refine ⟨t,_,1,.ref a,rfl,rfl,iQ.of ht,o9 (by decide) rfl,?_⟩;walk_at "ev";refine ⟨d,kvs,_,rfl,.inl hkv,rfl,?_⟩;walk_at "ev";have gd:=b.good.1 _ (List.mem_of_getElem? hq);refine Znp (fun y=>?_) (fun y=>?_)
    ·have hno:lX kvs (Sum.inl p)=none:=by
      cases e:lX kvs (Sum.inl p) with
      | none=>rfl
      | some _=>rw [e] at y;simp at y
     have hnp:p∉qs.map (·.1):=by
      have:=la.val p;rw [hno] at this;simpa using this
     obtain ⟨fl,hfl⟩:∃ fl,KB.Rt F p=some fl:=Option.isSome_iff_exists.mp gd.there;walk_at "ev";refine ⟨d,_,rfl,Qi.k (k:=Sum.inl p) hkv ?_,?_⟩
     ·have h2:=la.len;have h3:=Zlo b;have h4:=fw.t;exact Nat.lt_of_le_of_lt (show kvs.length≤1000000 by omega) (show 1000000 < sizeLine by decide)
     rw [Zf9 _ hno];have nd':ql≠d:=pI hts hkv (fun z=>by cases z);have s1:aX H (upd Hy d (.dK (kvs ++ [(Sum.inl p,.ref a)]))):=KR sm' nd;have k1:TK Hy (upd Hy d (.dK (kvs ++ [(Sum.inl p,.ref a)]))):=Zqu hkv;have q1:upd Hy d (.dK (kvs ++ [(Sum.inl p,.ref a)])) ql=some (.lst (ts.map V.ref)):=(aB nd').trans hts;walk_at "ev";refine ⟨.inl ⟨rfl,_,dz.of q1⟩,?_⟩;walk_at "ev";obtain ⟨ca,room,used,born,cs,ho,hl,he⟩:=(v.same s1).ex;have ho':=ho;obtain ⟨⟨dx,o1⟩,o2⟩:=ho';refine aK o1 T.cF T.bK bO ?_;walk_at "ev";rcases Zhp hl he p with ⟨e1,_⟩ | ⟨fl',p',fa,b',u,t',l,e1,_,e3,e4,c⟩
     ·rw [hfl] at e1;cases e1
     rw [hfl] at e1;cases e1;refine j6 (dz.of o2) (o9 e4 e3) ?_;obtain ⟨⟨dc,c1⟩,c2⟩:=c;refine aK c1 T.cN T.dX jF ?_;walk_at "ev";have hw:=Zib b _ (List.mem_of_getElem? hq);have hgt:=fw.t;refine ⟨hp,fa,a,F,fl,w,rfl,v.same s1,dz.of c2,iQ.of (k1 _ _ hat),?_,?_,fw.g p fl hfl,fun l2 us H2 hl2 s2 hl2' qa2=>?_⟩
     ·obtain ⟨r0,s0,fs0,_,e0,_⟩:=gd.ex;intro z;rw [show w=(p,w).2 from rfl,e0] at z;cases z
     ·simp only at hw;omega
     have hq2:H2 ql=some (.lst (ts.map V.ref)):=s2 _ _ q1;have hd2:H2 d=some (.dK (kvs ++ [(Sum.inl p,.ref a)])):=s2 _ _ aq;have k2:=k1.trans (TK.same s2);have k3:TK H2 (upd H2 ql (.lst (ts.map V.ref ++ us.map V.ref))):=Zgl hq2;have b2:=KB.Km.new b hq hnp hfl;have hb2:=b2.bound;rw [List.length_append,← qa2.len,← hlq] at hb2;walk_at "ev";refine ⟨ql,l2,_,_,rfl,rfl,hq2,hl2',by rw [bD,bD];exact aW (by omega),?_⟩;walk_at "ev";refine ⟨_,_,_,_,_,_,rfl,⟨KR (s1.trans s2) nq,nq,b2,by rw [List.length_append];omega,⟨ts ++ us,by rw [aq,List.map_append],(((qa.tk k2).app qa2).tk k3)⟩,⟨_,by rw [aB nd'.symm];exact hd2,((la.tk k2).app ?_).tk k3⟩,nd⟩⟩;exact ⟨⟨rfl,a,rfl,k2 _ _ hat⟩,trivial⟩
    ·have hin:p∈qs.map (·.1):=by
      have:=la.val p;cases e:lX kvs (Sum.inl p) with
      | none=>rw [e] at y;simp at y
      | some _=>rw [e] at this;simpa using this.symm
     walk_at "ev";exact ⟨_,_,_,_,_,_,rfl,⟨sm',nq,.old b hq hin,by omega,⟨ts,hts,qa⟩,⟨kvs,hkv,la⟩,nd⟩⟩
   ·rw [bD] at z;have hkq:k=q'.length:=by omega
    subst hkq;walk_at "ev";refine ⟨d,kvs,rfl,.inl hkv,fun vw hvw=>?_⟩;walk_at "ev";have s1:=jZ (o:=Hq vw d) hvw;refine Zkk aq (.inl (s1 _ _ hkv)) fun l us H2 hl s2 hl2 pa=>?_;walk_at "ev";exact q l us q' qs H2 b ((sm'.trans s1).free hl) ((sm'.trans s1).trans s2) hl2 ((la.tk (TK.same (s1.trans s2))).prs pa)
end
def fdOf (M:Wm):KB.Fd:=M.cells.map fun o=>o.map (·.fl)
theorem Vq.hv {X:Cs}{H:Hp}{T:Tg}{s:Nat}{A:Wa}{M:Wm} (j:Vq X H T s A M):HV X.C X.H H A.hp (fdOf M):=by
 have hl:=j.jc.lc;refine ⟨A.ca,M.room,M.used,M.born,A.cs.map pV,j.hpO,by unfold fdOf;rw [bD,bD];exact hl,fun i x hx=>?_⟩;unfold fdOf at hx;rw [cP] at hx;obtain ⟨o,ho,rfl⟩:=Option.map_eq_some_iff.mp hx;cases o with
 | none=>
  show (A.cs.map pV)[i]? =some .non;rw [cP,j.jc.at0 ho];rfl
 | some c=>
  obtain ⟨p,hp,ce⟩:=j.jc.at ho;obtain ⟨_,_,o1,o2⟩:=ce;exact ⟨p.1,p.2,c.birth,c.bulk,c.tone,c.load,by rw [cP,hp];rfl,⟨o1,o2⟩⟩
theorem Zab {M:Wm} (x:Int):KB.Rt (fdOf M) x=(cellAt M x).map (·.fl):=by
 unfold KB.Rt fdOf cellAt
 by_cases h:0≤x
 ·rw [if_pos h,if_pos h,cP];cases M.cells[x.toNat]? with
  | none=>rfl
  | some o=>cases o<;>rfl
 ·rw [if_neg h,if_neg h];rfl
section
variable {K:aC}{X:Cs}{H:Hp}{Q:VK}{E:XK}{n:St→Hp→Prop}{bk ct:St→Hp→Prop}
theorem Zck {hp a wt:Addr}{F:KB.Fd}{ps:List (Option Int)}{w:List Int} (q:HV X.C X.H H hp F∧dz K H a (ps.map oV)∧iQ K H wt (w.map V.int)∧w≠[]∧w.length≤100000∧ps.length≤1000∧∀ l ts H',H l=none→aX H H'→H' l=some (.lst (ts.map V.ref))→CV H' ts (KB.onw F w 0 ps)→Q (.ref l) H'):
  Ad K (dG X.H) ⟨n,Q,bk,ct⟩ [some (.ref hp),some (.ref a),some (.ref wt)] H:=by
 obtain ⟨v,h1,h2,h3,h4,h5,q⟩:=q;exact Zr v h1 h2 h3 h4 h5 (fun e=>Zmi e h2) q
theorem Zd {hp ra:Addr}{F:KB.Fd}{rs:List Addr}{R:KB.Rw} (T:pD K X) (q:HV X.C X.H H hp F∧dz K H ra (rs.map V.ref)∧CQ K H rs R∧Few F R∧∀ l ts q qs H',KB.Km F R q q.length qs→H l=none→aX H H'→H' l=some (.lst (ts.map V.ref))→CV H' ts qs→Q (.ref l) H'):
  wO K (z8 K X.C X.H) ⟨n,Q,bk,ct⟩ [some (.ref hp),some (.ref ra),none,none,none,none,none,none,none] H:=by
 obtain ⟨v,h1,h2,h3,q⟩:=q;exact Wh T.c v h1 h2 h3 q
end
theorem toN {x:Int} (h:0≤x):∃ k:Nat,x=k:=⟨x.toNat,by omega⟩
theorem QK (c:Nat):(⟨#[c]⟩:Str).length=1:=rfl
theorem Zpg (a b:Str):(a ++ b).length=a.length + b.length:=by
 show (a.cps ++ b.cps).size=_;rw [Array.size_append];rfl
theorem Zi4 {α β:Type}{P:α→β→Prop}:∀ {xs:List α}{ys:List β},xs.length=ys.length→(∀ (i:Nat) x y,xs[i]? =some x→ys[i]? =some y→P x y)→Al P xs ys
 | [],[],_,_=>.nil
 | [],_ :: _,h,_=>by simp at h
 | _ :: _,[],h,_=>by simp at h
 | x :: xs,y :: ys,h,p=>.cons (p 0 x y rfl rfl) (Zi4 (by simpa using h) fun i a b h1 h2=>p (i + 1) a b (by simpa using h1) (by simpa using h2))
def jE (bits:Int):List (Str×List (Option Int))→Nat→Wm→List Int×Wm
 | [],_,M=>([],M)
 | m :: l,k,M=>if bits / 2 ^ k % 2=1 then ((aU M m.2).1 ++ (jE bits l (k + 1) (aU M m.2).2).1,(jE bits l (k + 1) (aU M m.2).2).2) else jE bits l (k + 1) M
def lsE (x:Int):Nat→Nat→Int
 | _,0=>0
 | i,n + 1=>if x / 2 ^ i % 2=0 then 2 ^ i else lsE x (i + 1) n
def W7 (k:Nat) (lo:Int) (n:Nat):Int:=if k=0 then 0 else if k=1 then lsE lo 0 n else 2 ^ n - 1
theorem LR (bits:Int) (m:Str×List (Option Int)):∀ (l:List (Str×List (Option Int))) (k:Nat) (M:Wm),jE bits (l ++ [m]) k M=if bits / 2 ^ (k + l.length) % 2=1 then ((jE bits l k M).1 ++ (aU (jE bits l k M).2 m.2).1,(aU (jE bits l k M).2 m.2).2) else jE bits l k M
 | [],k,M=>by
  show (if bits / 2 ^ k % 2=1 then ((aU M m.2).1 ++ [],(aU M m.2).2) else ([],M))=_;rw [List.append_nil];rfl
 | a :: l,k,M=>by
  have e:k + (a :: l).length=k + 1 + l.length:=by rw [List.length_cons];omega
  rw [e,List.cons_append];show (if bits / 2 ^ k % 2=1 then ((aU M a.2).1 ++ (jE bits (l ++ [m]) (k + 1) (aU M a.2).2).1,(jE bits (l ++ [m]) (k + 1) (aU M a.2).2).2) else jE bits (l ++ [m]) (k + 1) M)=_;show _=if bits / 2 ^ (k + 1 + l.length) % 2=1 then (((if bits / 2 ^ k % 2=1 then ((aU M a.2).1 ++ (jE bits l (k + 1) (aU M a.2).2).1,(jE bits l (k + 1) (aU M a.2).2).2) else jE bits l (k + 1) M)).1 ++ (aU (if bits / 2 ^ k % 2=1 then ((aU M a.2).1 ++ (jE bits l (k + 1) (aU M a.2).2).1,(jE bits l (k + 1) (aU M a.2).2).2) else jE bits l (k + 1) M).2 m.2).1,(aU (if bits / 2 ^ k % 2=1 then ((aU M a.2).1 ++ (jE bits l (k + 1) (aU M a.2).2).1,(jE bits l (k + 1) (aU M a.2).2).2) else jE bits l (k + 1) M).2 m.2).2) else (if bits / 2 ^ k % 2=1 then ((aU M a.2).1 ++ (jE bits l (k + 1) (aU M a.2).2).1,(jE bits l (k + 1) (aU M a.2).2).2) else jE bits l (k + 1) M)
  by_cases h:bits / 2 ^ k % 2=1
  ·simp only [if_pos h];rw [LR bits m l (k + 1)]
   by_cases h2:bits / 2 ^ (k + 1 + l.length) % 2=1
   ·simp only [if_pos h2,List.append_assoc]
   ·simp only [if_neg h2]
  ·simp only [if_neg h];rw [LR bits m l (k + 1)]
theorem DR:∀ {l:List (Option Int)}{M:Wm},(aU M l).2.hands=M.hands
 | [],_=>rfl
 | x :: l,M=>by
  show (aU (bL M x).2 l).2.hands=_;rw [DR,Iv]
theorem zR (bits:Int) (B:Nat):∀ (l:List (Str×List (Option Int))) (k:Nat) (M:Wm),(∀ m∈l,m.2.length≤B)→(jE bits l k M).2.sw.phase=M.sw.phase∧(jE bits l k M).2.sw.grey.length≤M.sw.grey.length + l.length * B∧(jE bits l k M).1.length≤l.length * B∧(jE bits l k M).2.hands=M.hands
 | [],_,_,_=>by simp [jE]
 | m :: l,k,M,h=>by
  have hm:=h m (by simp);have e:(m :: l).length * B=l.length * B + B:=by rw [List.length_cons,Nat.succ_mul]
  unfold jE
  by_cases z:bits / 2 ^ k % 2=1
  ·rw [if_pos z];obtain ⟨a1,a2,a3,a4⟩:=zR bits B l (k + 1) (aU M m.2).2 fun x hx=>h x (by simp [hx]);obtain ⟨b1,b2⟩:=tX (l:=m.2) (M:=M);have b3:=xP (l:=m.2) (M:=M);exact ⟨a1.trans b1,by show (jE bits l (k + 1) (aU M m.2).2).2.sw.grey.length≤_;omega,by show ((aU M m.2).1 ++ _).length≤_;rw [List.length_append];omega,a4.trans DR⟩
  ·rw [if_neg z];obtain ⟨a1,a2,a3,a4⟩:=zR bits B l (k + 1) M fun x hx=>h x (by simp [hx]);exact ⟨a1,by omega,by omega,a4⟩
structure NtR (M M':Wm):Prop where
 rm:M'.room=M.room
 us:M'.used=M.used
 bn:M'.born=M.born
 hd:M'.hands=M.hands
 nm:M'.names=M.names
 ww:M'.w=M.w
 tl:M'.tells=M.tells
 sw:∃ g,M'.sw={ M.sw with grey:=g }
 ce:M'.cells.map (fun o=>o.map fun c=>{ c with tone:=0 })=M.cells.map (fun o=>o.map fun c=>{ c with tone:=0 })
theorem NtR.refl (M:Wm):NtR M M:=⟨rfl,rfl,rfl,rfl,rfl,rfl,rfl,⟨_,rfl⟩,rfl⟩
theorem NtR.trans {M M1 M2:Wm} (a:NtR M M1) (b:NtR M1 M2):NtR M M2:=by
 obtain ⟨a1,a2,a3,a4,a5,a6,a7,⟨g,a8⟩,a9⟩:=a;obtain ⟨b1,b2,b3,b4,b5,b6,b7,⟨g',b8⟩,b9⟩:=b;exact ⟨b1.trans a1,b2.trans a2,b3.trans a3,b4.trans a4,b5.trans a5,b6.trans a6,b7.trans a7,⟨g',by rw [b8,a8]⟩,b9.trans a9⟩
theorem Zfw (M:Wm) (x:Option Int):NtR M (bL M x).2:=by
 cases x with
 | none=>exact NtR.refl M
 | some i=>
  unfold bL;dsimp only;cases hc:cellAt M i with
  | none=>exact NtR.refl M
  | some c=>
   dsimp only;split
   ·obtain ⟨h0,h1⟩:=cu.mp hc;refine ⟨rfl,rfl,rfl,rfl,rfl,rfl,rfl,⟨_,rfl⟩,?_⟩;show (M.cells.set i.toNat _).map _=_;rw [List.map_set];refine List.ext_getElem? fun k=>?_
    by_cases z:i.toNat=k
    ·subst z;rw [List.getElem?_set_self (by rw [bD];exact (dN h1).1),cP,h1];rfl
    ·rw [List.getElem?_set_ne z]
   ·exact NtR.refl M
theorem QW:∀ (l:List (Option Int)) (M:Wm),NtR M (aU M l).2
 | [],M=>NtR.refl M
 | x :: l,M=>(Zfw M x).trans (QW l _)
theorem Uo (bits:Int):∀ (l:List (Str×List (Option Int))) (k:Nat) (M:Wm),NtR M (jE bits l k M).2
 | [],_,M=>NtR.refl M
 | m :: l,k,M=>by
  unfold jE;split
  ·exact (QW m.2 M).trans (Uo bits l (k + 1) _)
  ·exact Uo bits l (k + 1) M
theorem Zg2 (bits:Int) (l:List (Str×List (Option Int))) (k:Nat) (M:Wm):(jE bits l k M).2.sw.turn=M.sw.turn∧(jE bits l k M).2.sw.looked=M.sw.looked∧(jE bits l k M).2.sw.looks=M.sw.looks:=by
 obtain ⟨g,e⟩:=(Uo bits l k M).sw;rw [e];exact ⟨rfl,rfl,rfl⟩
theorem Zcr {M:Wm}{x:Option Int} (h:(bL M x).1=none):(bL M x).2=M:=by
 cases x with
 | none=>rfl
 | some i=>
  unfold bL at h ⊢;dsimp only at h ⊢;cases hc:cellAt M i with
  | none=>rfl
  | some c=>
   rw [hc] at h;dsimp only at h ⊢;split
   ·rename_i z
    rw [if_pos z] at h;cases h
   ·rfl
theorem Ly:∀ {l:List (Option Int)}{M:Wm},(aU M l).1=[]→(aU M l).2=M
 | [],_,_=>rfl
 | x :: l,M,h=>by
  have h:ZK (bL M x).1 ++ (aU (bL M x).2 l).1=[]:=h;obtain ⟨h1,h2⟩:=List.append_eq_nil_iff.mp h;have h3:(bL M x).1=none:=by
   cases e:(bL M x).1 with
   | none=>rfl
   | some b=>rw [e] at h1;cases h1
  show (aU (bL M x).2 l).2=M;rw [Ly h2,Zcr h3]
theorem Up (bits:Int):∀ {l:List (Str×List (Option Int))}{k:Nat}{M:Wm},(jE bits l k M).1=[]→(jE bits l k M).2=M
 | [],_,_,_=>rfl
 | m :: l,k,M,h=>by
  unfold jE at h ⊢;split
  ·rename_i z
   rw [if_pos z] at h;obtain ⟨h1,h2⟩:=List.append_eq_nil_iff.mp h;show (jE bits l (k + 1) (aU M m.2).2).2=M;rw [Up bits h2,Ly h1]
  ·rename_i z
   rw [if_neg z] at h;exact Up bits h
theorem W6:∀ (l:List (Str×List (Option Int))) (k:Nat) (M:Wm),jE 0 l k M=([],M)
 | [],_,_=>rfl
 | m :: l,k,M=>by
  unfold jE;rw [if_neg (by simp),W6 l (k + 1) M]
def jM (X:Cs):Sp:=fun vs H Q E=>∃ wo bits,vs=[.ref wo,.int bits]∧∃ T s A M,WT H T∧s≠0∧WJ X H T s A M∧A.wo=wo∧(∀ m∈M.hands,m.2.length≤100)∧(M.sw.phase="walk"→M.sw.grey.length≤5000)∧
 ∀ H' T' l,iG s H H' T T'→WJ X H' T' s A (jE bits M.hands 0 M).2→H' l=some (.lst ((jE bits M.hands 0 M).1.map V.int))→H l=none→Q (.ref l) H'
def uf (k:Nat):Sp:=fun vs H Q E=>∃ a lo h,vs=[.ref a,.int lo,.int h]∧0≤h∧h≤30∧Q (.int (W7 k lo h.toNat)) H
section
variable {K:aC}{X:Cs}{H:Hp}{Q:VK}{E:XK}{n:St→Hp→Prop}{bk ct:St→Hp→Prop}
theorem Qd {a:Addr} (q:Q (.bl false) H):uP ⟨n,Q,bk,ct⟩ [some (.ref a)] H:=by
 unfold uP;walk_at "ev";exact q
theorem Fj {a:Addr}{lo h:Int} (q:0≤h∧h≤30∧Q (.int (W7 2 lo h.toNat)) H):oN Fg ⟨n,Q,bk,ct⟩ [some (.ref a),some (.int lo),some (.int h)] H:=by
 obtain ⟨h0,h1,q⟩:=q;unfold oN;walk_at "ev";exact ⟨h,rfl,h0,h1,q⟩
theorem O6 {wo:Addr}{bits:Int} (Tx:pD K X) (q:∃ T s A M,WT H T∧s≠0∧WJ X H T s A M∧A.wo=wo∧(∀ m∈M.hands,m.2.length≤100)∧(M.sw.phase="walk"→M.sw.grey.length≤5000)∧
 ∀ H' T' l,iG s H H' T T'→WJ X H' T' s A (jE bits M.hands 0 M).2→H' l=some (.lst ((jE bits M.hands 0 M).1.map V.int))→H l=none→Q (.ref l) H'):
  uI K (eN X) ⟨n,Q,bk,ct⟩ [some (.ref wo),some (.int bits),none,none,none] H:=by
 obtain ⟨T,s,A,M,w,s0,j,rfl,hs,hg,q⟩:=q;have lh:=j.jd.lh;have l5:=j.jd.l5;unfold uI;walk_at "ev";refine ⟨aW (by simp),fun l hl=>?_⟩;have st1:iG s H (upd H l (.lst [])) T (jq T l (s + 1,1)):=iG.fresh w hl;have j1:WJ X (upd H l (.lst [])) (jq T l (s + 1,1)) s A M:=j.fresh hl;have g1:upd H l (.lst []) l=some (.lst []):=aq;have tl:jq T l (s + 1,1) l=(s + 1,1):=iB;generalize upd H l (.lst [])=H1 at st1 j1 g1 ⊢;generalize jq T l (s + 1,1)=T1 at st1 j1 tl;obtain ⟨dw,ow⟩:=j1.jb.ow;walk_at "ev";refine aK ow Tx.cW Tx.nWd jD ?_;walk_at "ev";refine ⟨A.hl,rfl,⟨_,dz.of j1.jb.on⟩,Zqo (A.hs.map fun p=>V.ref p.1) (fun i σ Hx=>∃ T' v3 v4,σ=[some (.ref A.wo),some (.int bits),some (.ref l),v3,v4]∧iG s H Hx T T'∧T' l=(s + 1,1)∧WJ X Hx T' s A (jE bits (M.hands.take i) 0 M).2∧Hx l=some (.lst ((jE bits (M.hands.take i) 0 M).1.map V.int))) ⟨T1,_,_,rfl,st1,tl,j1,g1⟩ (fun _ _ _ _ ⟨_,_,_,_,_,_,z,_⟩=>dz.of z.jb.on) ?_ ?_⟩
 ·rintro i x t σ Hx hx ⟨T2,v3,v4,rfl,st2,tl2,j2,g2⟩ ht;rw [cP] at hx;obtain ⟨p,hp,rfl⟩:=Option.map_eq_some_iff.mp hx;have hil:i < A.hs.length:=(dN hp).1;obtain ⟨m,hm⟩:∃ m,M.hands[i]? =some m:=⟨_,bW (by omega)⟩;have etk:M.hands.take (i + 1)=M.hands.take i ++ [m]:=by rw [List.take_add_one,hm];rfl
  have ltk:(M.hands.take i).length=i:=by rw [List.length_take];omega
  obtain ⟨n1,n2,n3,n4⟩:=zR bits 100 (M.hands.take i) 0 M fun x hx=>hs x (List.mem_of_mem_take hx);have sn:=LR bits m (M.hands.take i) 0 M;rw [← etk,Nat.zero_add,ltk] at sn;have s1:=aM ht (.tup [.int i,.ref p.1]);have g1':upd Hx t (.tup [.int i,.ref p.1]) t=some (.tup [.int i,.ref p.1]):=aq;have j3:=j2.same s1;have st3:=st2.trans (iG.same (s:=s) st2.wt s1);have g3:=s1 _ _ g2;generalize upd Hx t (.tup [.int i,.ref p.1])=H3 at s1 g1' j3 st3 g3 ⊢;refine ⟨t,_,rfl,iQ.of g1',rfl,.int i,_,rfl,?_⟩;walk_at "ev";refine ⟨.ref p.1,_,rfl,?_⟩;walk_at "ev";refine ⟨rfl,?_⟩;walk_at "ev";rw [Zr0,Int.toNat_natCast];refine vB (fun z=>?_) (fun z=>?_)
  ·rw [if_pos z] at sn;walk_at "ev";refine ⟨.inl ⟨rfl,_,dz.of g3⟩,?_⟩;have hm3:(jE bits (M.hands.take i) 0 M).2.hands[i]? =some m:=by rw [n4];exact hm
   have hd:=j3.jd.hd i p m hp hm3;obtain ⟨dx,o1⟩:=hd.o1;have Zql:=hs m (List.mem_of_getElem? hm);have hB:(M.hands.take i).length * 100≤3000:=by rw [ltk];omega
   walk_at "ev";refine aK o1 Tx.cD Tx.nDs o5 ?_;walk_at "ev";refine ⟨_,_,rfl,m.2,T2,s,A,_,st3.wt,s0,j3,rfl,.inr (.inl ⟨i,p,m,hp,hm3,rfl,rfl⟩),Zql,fun y=>?_,fun H4 T4 l4 st4 j4 g4 nl4=>?_⟩
   ·have:=hg (n1.symm.trans y);omega
   have g5:H4 l=some (.lst ((jE bits (M.hands.take i) 0 M).1.map V.int)):=st4.kp _ _ g3 (by rw [tl2];show s + 1≠s;omega);have nl:=xP (l:=m.2) (M:=(jE bits (M.hands.take i) 0 M).2);walk_at "ev";refine ⟨l,l4,_,_,rfl,rfl,g5,g4,by rw [bD,bD];exact aW (by omega),?_⟩;walk_at "ev";have tl4:T4 l=(s + 1,1):=(st4.tg _ _ g3).trans tl2;refine ⟨T4,_,_,rfl,iG.new (st3.trans st4) hl g5,tl4,?_,?_⟩
   ·rw [sn];exact j4.other (s':=s + 1) (iG.upd st4.wt g5 (by rw [tl4])) (by omega) (by omega)
   ·rw [sn,aq,List.map_append]
  ·rw [if_neg z] at sn;walk_at "ev";exact ⟨T2,_,_,rfl,st3,tl2,by rw [sn];exact j3,by rw [sn];exact g3⟩
 ·rintro σ Hx ⟨T2,v3,v4,rfl,st2,tl2,j2,g2⟩;walk_at "ev";rw [bD,lh,List.take_length] at j2 g2;exact q Hx T2 l st2 j2 g2 hl
end
structure Vr (M:Wm):Prop where
 cl:M.cells.length≤900
 hl:∀ m∈M.hands,m.2.length≤100
 fl:∀ c,some c∈M.cells→c.fl.length≤50
 nl:M.names.length≤900
 gl:M.sw.phase="walk"→M.sw.grey.length≤900
 gc:M.sw.phase="walk"→∀ x∈M.sw.grey,∃ c,cellAt M x=some c
 ph:M.sw.phase="rest"∨M.sw.phase="walk"∨M.sw.phase="give"∨M.sw.phase="lost"
 a0:0≤M.sw.at'
def Zi7 (H:Hp) (T:Tg) (M:Wm) (b:Int) (w:List Int):Prop:=∃ a wl,M.sw.loss=.ref a∧T a=(0,0)∧H a=some (.tup [.str "lost",.int b,.ref wl])∧T wl=(0,0)∧H wl=some (.lst (w.map V.int))
def tU (M:Wm) (i:Nat):Option Ce:=((M.cells[i]?).join).bind fun c=>if c.tone=M.sw.sense then none else some c
def qT (M:Wm):List Int:=(List.range M.cells.length).filterMap fun i=>(tU M i).map fun _=>(i:Int)
def qU (M:Wm):List Int:=(List.range M.cells.length).filterMap fun i=>(tU M i).map (·.birth)
def iw (M:Wm):Wm:={ M with sw:={ M.sw with stop:=M.cells.length,at':=0 } }
def eX (M:Wm):Int:=W7 M.w.toNat M.sw.looked M.hands.length
def xX (M:Wm):Prop:=eX M=0∨(M.w=2∧(jE (eX M) M.hands 0 M).1=[])
inductive rA (lb:Int) (lw:List Int) (M:Wm):Ev→Wm→Prop
 | begin:M.sw.phase="rest"→rA lb lw M ⟨"begin",some (M.sw.turn + 1),(jE (nj M.w M.hands.length) M.hands 0 (z6 M)).1⟩ (jE (nj M.w M.hands.length) M.hands 0 (z6 M)).2
 | walk (x:Int) (g:List Int) (c:Ce):M.sw.phase="walk"→M.sw.grey=x :: g→cellAt M x=some c→rA lb lw M ⟨"walk",some c.birth,(aU { M with sw:={ M.sw with grey:=g,walks:=M.sw.walks + 1 } } c.fl).1⟩ (aU { M with sw:={ M.sw with grey:=g,walks:=M.sw.walks + 1 } } c.fl).2
 | look (N:Wm):M.sw.phase="walk"→M.sw.grey=[]→¬ xX M→N=(jE (eX M) M.hands 0 M).2→rA lb lw M ⟨"look",some (eX M),(jE (eX M) M.hands 0 M).1⟩ { N with sw:={ N.sw with looks:=N.sw.looks + 1,looked:=if M.w=2 then N.sw.looked else Builtin.bitOr N.sw.looked (eX M) } }
 | cut (q qs:List (Int×List Int)):M.sw.phase="walk"→M.sw.grey=[]→xX M→KB.Km (fdOf M) (iC M) q q.length qs→(∀ x∈qs,∀ c,cellAt M x.1=some c→c.tone=M.sw.sense)→rA lb lw M ⟨"cut",some (qU M).length,qU M⟩ { iw M with sw:={ (iw M).sw with phase:="give" } }
 | lost (q qs:List (Int×List Int)) (i:Nat) (x:Int×List Int) (c:Ce) (v:V):M.sw.phase="walk"→M.sw.grey=[]→xX M→KB.Km (fdOf M) (iC M) q q.length qs→qs[i]? =some x→(∀ (k:Nat) y d,k < i→qs[k]? =some y→cellAt M y.1=some d→d.tone=M.sw.sense)→cellAt M x.1=some c→c.tone≠M.sw.sense→rA lb lw M ⟨"lost",some c.birth,x.2⟩ { iw M with sw:={ (iw M).sw with phase:="lost",loss:=v } }
 | pass:M.sw.phase="give"→M.sw.at' < M.sw.stop→(∀ c,cellAt M M.sw.at'=some c→c.tone=M.sw.sense)→rA lb lw M ⟨"pass",some M.sw.at',[]⟩ { M with sw:={ M.sw with at':=M.sw.at' + 1,passes:=M.sw.passes + 1 } }
 | back (c:Ce):M.sw.phase="give"→M.sw.at' < M.sw.stop→cellAt M M.sw.at'=some c→c.tone≠M.sw.sense→rA lb lw M ⟨"back",some c.birth,[M.sw.at']⟩ { M with used:=M.used - (1 + c.fl.length + c.bulk),cells:=M.cells.set M.sw.at'.toNat none,sw:={ M.sw with at':=M.sw.at' + 1,passes:=M.sw.passes + 1 } }
 | fin:M.sw.phase="give"→¬ M.sw.at' < M.sw.stop→rA lb lw M ⟨"end",some M.sw.turn,[M.sw.walks,M.sw.looks,M.sw.passes]⟩ { M with sw:={ M.sw with phase:="rest" } }
 | again:M.sw.phase="lost"→rA lb lw M ⟨"lost",some lb,lw⟩ M
def z7 (X:Cs) (P:Wm→Prop) (wo:Addr) (H:Hp) (Q:VK):Prop:=∃ T s A M lb lw,WT H T∧s≠0∧WJ X H T s A M∧A.wo=wo∧Vr M∧P M∧(M.sw.phase="lost"→Zi7 H T M lb lw)∧
 ∀ e M',rA lb lw M e M'→∀ H' T' A' a,iG s H H' T T'→WJ X H' T' s A' M'→A'.wo=wo∧A'.sw=A.sw→EvN H H' a e→(M'.sw.phase="lost"→∃ b,e.thing=some b∧Zi7 H' T' M' b e.notes)→Q (.ref a) H'
def bR (X:Cs) (P:Wm→Prop):Sp:=fun vs H Q E=>∃ wo,vs=[.ref wo]∧z7 X P wo H Q
def Wq (M:Wm):Prop:=M.sw.phase="walk"∧M.sw.grey≠[]
def Ws (M:Wm):Prop:=M.sw.phase="walk"∧M.sw.grey=[]
def Zq (M:Wm):Prop:=M.sw.phase="walk"∧M.sw.grey=[]∧xX M
def Wr (M:Wm):Prop:=M.sw.phase="give"∧M.sw.at' < M.sw.stop
def pEnd (M:Wm):Prop:=M.sw.phase="give"∧¬ M.sw.at' < M.sw.stop
def JZ (z:Str) (M:Wm):Prop:=M.sw.phase=z
def Zfq (_:Wm):Prop:=True
def lE (K:aC):Sp:=fun vs H Q E=>∃ ev,vs=[.ref ev]∧∃ z b l,∃ ns:List Int,H ev=some (.tup [.str z,.int b,.ref l])∧H l=some (.lst (ns.map V.int))∧∀ a l' H',aX H H'→H l'=none→H' a=some (.tup [.str z,.int b,.ref l'])→H' l'=some (.lst (ns.map V.int))→Q (.ref a) H'
def xZ (X:Cs):Sp:=fun vs H Q E=>∃ wo,vs=[.ref wo]∧∃ T s A M,WJ X H T s A M∧A.wo=wo∧M.cells.length≤900∧∀ l H',aX H H'→H l=none→H' l=some (.lst ((qT M).map V.int))→Q (.ref l) H'
section
variable {K:aC}{X:Cs}{H:Hp}{Q:VK}{E:XK}{n:St→Hp→Prop}{bk ct:St→Hp→Prop}
theorem Ny {ev:Addr} (q:∃ z b l,∃ ns:List Int,H ev=some (.tup [.str z,.int b,.ref l])∧H l=some (.lst (ns.map V.int))∧∀ a l' H',aX H H'→H l'=none→H' a=some (.tup [.str z,.int b,.ref l'])→H' l'=some (.lst (ns.map V.int))→Q (.ref a) H'):
  uG K ⟨n,Q,bk,ct⟩ [some (.ref ev)] H:=by
 obtain ⟨z,b,l,ns,o1,o2,q⟩:=q;unfold uG;walk_at "ev";refine ⟨ev,_,0,_,rfl,rfl,iQ.of o1,rfl,?_⟩;walk_at "ev";refine ⟨ev,_,1,_,rfl,rfl,iQ.of o1,rfl,?_⟩;walk_at "ev";refine ⟨ev,_,2,_,rfl,rfl,iQ.of o1,rfl,?_⟩;walk_at "ev";refine Uu (dz.of o2) fun l' nl'=>?_;have s1:=aM nl' (.lst (ns.map V.int));have g1:upd H l' (.lst (ns.map V.int)) l'=some (.lst (ns.map V.int)):=aq;generalize upd H l' (.lst (ns.map V.int))=H1 at s1 g1 ⊢;walk_at "ev";refine ⟨aW (by simp),fun a na=>?_⟩;have s2:=aM na (.tup [.str z,.int b,.ref l']);exact q a l' _ (s1.trans s2) nl' aq (s2 _ _ g1)
theorem MJ {α β:Type}{f g:α→Option β}:∀ {l:List α},(∀ x∈l,f x=g x)→l.filterMap f=l.filterMap g
 | [],_=>rfl
 | x :: l,h=>by
  rw [List.filterMap_cons,List.filterMap_cons,h x (by simp),MJ fun y hy=>h y (by simp [hy])]
theorem Wi {α β:Type} (f:α→Option β):∀ (xs:List α),(List.range xs.length).filterMap (fun i=>(xs[i]?).bind f)=xs.filterMap f
 | []=>rfl
 | x :: xs=>by
  rw [List.length_cons,List.range_succ_eq_map,List.filterMap_cons];simp only [List.getElem?_cons_zero,Option.bind_some,List.filterMap_map,List.filterMap_cons];have e:((fun i=>((x :: xs)[i]?).bind f) ∘ Nat.succ)=fun i=>(xs[i]?).bind f:=by
   funext i
   simp
  rw [e,Wi f xs]
theorem Zcf {A:Wa}{M:Wm}{T:Tg}{s:Nat} (j:WJ X H T s A M) (f:V→Option V) (hf:∀ (i:Nat) (c:Ce),M.cells[i]? =some (some c)→f (.int i)=(tU M i).map fun _=>V.int i):((Wl (A.cs.map pV)).map V.int).filterMap f=(qT M).map V.int:=by
 unfold Wl qT;rw [List.filterMap_map,List.filterMap_map,List.filterMap_filter,List.map_filterMap,bD,j.jc.lc];refine MJ fun i hi=>?_;have hil:=List.mem_range.mp hi;have e:(A.cs.map pV)[i]? =some V.non↔M.cells[i]? =some none:=by
  constructor
  ·intro z;cases hc:M.cells[i] with
   | none=>rw [bW hil,hc]
   | some c=>
    obtain ⟨p,hp,_⟩:=j.jc.at (i:=i) (c:=c) (by rw [bW hil,hc]);rw [cP,hp] at z;cases z
  ·intro z;rw [cP,j.jc.at0 z];rfl
 by_cases z:M.cells[i]? =some none
 ·rw [if_neg (by simp [e.mpr z])];unfold tU;rw [z];rfl
 ·have hne:¬ (A.cs.map pV)[i]? =some V.non:=fun y=>z (e.mp y);rw [if_pos (by simp only [hne,decide_false,Bool.not_false])];cases hc:M.cells[i] with
  | none=>exact absurd (by rw [bW hil,hc]) z
  | some c=>
   show f (.int (i:Int))=_;rw [hf i c (by rw [bW hil,hc]),Option.map_map];rfl
theorem Xj {wo:Addr} (Tx:pD K X) (q:∃ T s A M,WJ X H T s A M∧A.wo=wo∧M.cells.length≤900∧∀ l H',aX H H'→H l=none→H' l=some (.lst ((qT M).map V.int))→Q (.ref l) H'):
  zp K X.H (lF X.H) (cC X) ⟨n,Q,bk,ct⟩ [some (.ref wo),none] H:=by
 obtain ⟨T,s,A,M,j,rfl,hc,q⟩:=q;obtain ⟨dw,ow⟩:=j.jb.ow;obtain ⟨dh,oh⟩:=j.jh.oh;unfold zp;walk_at "ev";refine aK ow Tx.cW Tx.Iw bx ?_;walk_at "ev";refine Jm ?_;walk_at "ev";refine ⟨A.hp,dh,_,rfl,oh,zZ,?_⟩;walk_at "ev";refine ⟨_,rfl,A.ca,M.room,M.used,M.born,_,j.hpO,by rw [bD,j.jc.lc];omega,fun lt nlt=>?_⟩;have s1:=aM nlt (.lst ((Wl (A.cs.map pV)).map V.int));have g1:upd H lt (.lst ((Wl (A.cs.map pV)).map V.int)) lt=some (.lst ((Wl (A.cs.map pV)).map V.int)):=aq;generalize upd H lt (.lst ((Wl (A.cs.map pV)).map V.int))=H1 at s1 g1 ⊢;have j1:=j.same s1;have lp:(Wl (A.cs.map pV)).length≤900:=by
  unfold Wl;rw [bD];refine Nat.le_trans (List.length_filter_le _ _) ?_;rw [List.length_range,bD,j.jc.lc];exact hc
 refine ⟨lt,rfl,⟨_,dz.of g1⟩,?_⟩
 let f:V→Option V:=fun v=>match v with
  | .int p=>(tU M p.toNat).map fun _=>V.int p
  | _=>none
 refine Zbg (dz.of g1) (fun i=>(((Wl (A.cs.map pV)).map V.int)[i]?).bind f) (by rw [bD];omega) (fun i x hi=>?_) ?_
 ·rw [cP] at hi;obtain ⟨p,hp,rfl⟩:=Option.map_eq_some_iff.mp hi;have hm:=List.mem_of_getElem? hp;unfold Wl at hm;obtain ⟨k,hk,rfl⟩:=List.mem_map.mp hm;obtain ⟨hk1,hk2⟩:=List.mem_filter.mp hk;have hkl:k < M.cells.length:=by
   have:=List.mem_range.mp hk1;rw [bD,j.jc.lc] at this;exact this
  obtain ⟨c,hcc⟩:∃ c,M.cells[k]? =some (some c):=by
   cases h3:M.cells[k] with
   | none=>
    exfalso
    have:(A.cs.map pV)[k]? =some V.non:=by rw [cP,j.jc.at0 (i:=k) (by rw [bW hkl,h3])];rfl
    simp [this] at hk2
   | some c=>exact ⟨c,by rw [bW hkl,h3]⟩
  obtain ⟨pp,hpp,ce⟩:=j1.jc.at hcc;have ef:(((Wl (A.cs.map pV)).map V.int)[i]?).bind f=(tU M k).map fun _=>V.int (k:Int):=by
   rw [cP,hp];show (tU M (Int.toNat k)).map _=_;rw [Int.toNat_natCast]
  have ep:(tU M k)=if c.tone=M.sw.sense then none else some c:=by unfold tU;rw [hcc];rfl
  obtain ⟨dh1,oh1⟩:=j1.jh.oh;refine ⟨fun q hq=>?_,fun y q hy hq=>?_⟩
  ·rw [ef,ep] at hq;walk_at "caps";walk_at "ev";refine aK oh1 Tx.c.cF Tx.c.bK bO ?_;walk_at "ev";refine j6 (dz.of j1.jh.oc) (jL (v:=.ref pp.1) (by rw [cP,hpp];rfl)) ?_;walk_at "ev";refine ⟨_,_,rfl,T,s,A,M,_,pp,c,j1.w0,rfl,ce,rfl,?_⟩;walk_at "ev"
   by_cases z:c.tone=M.sw.sense
   ·rw [if_pos z] at hq;rw [decide_eq_true z];exact hq
   ·rw [if_neg z] at hq;rw [decide_eq_false z];exact hq
  ·rw [ef] at hy;obtain ⟨_,_,rfl⟩:=Option.map_eq_some_iff.mp hy;walk_at "caps";walk_at "ev";exact hq
 ·intro p np;rw [Wi f,Zcf j f (fun i c hc=>by show (tU M (Int.toNat i)).map _=_;rw [Int.toNat_natCast])];exact q p _ (s1.trans (aM np _)) (s1.free np) aq
theorem Jy {wo:Addr} (Tx:pD K X) (q:z7 X (JZ "rest") wo H Q):qR K (Kl X) (jM X) ⟨n,Q,bk,ct⟩ [some (.ref wo),none] H:=by
 obtain ⟨T,s,A,M,lb,lw,w,s0,j,rfl,ok,ph,lo,q⟩:=q;unfold qR;walk_at "ev";refine ⟨_,rfl,T,s,A,M,w,s0,j,rfl,fun H1 T1 A1 st1 j1 aw1=>?_⟩;obtain ⟨dw,ow⟩:=j1.jb.ow;obtain ⟨ds,os⟩:=j1.js.os;rw [aw1.1] at ow;walk_at "ev";refine aK ow Tx.cW Tx.Nu bw ?_;walk_at "ev";refine aK os Tx.cS Tx.n4 pL ?_;walk_at "ev";refine ⟨_,_,rfl,T1,s,A1,_,st1.wt,s0,j1,aw1.1,ok.hl,fun _=>Nat.zero_le _,fun H2 T2 l st2 j2 g2 nl2=>?_⟩;have j2:WJ X H2 T2 s A1 (jE (nj M.w M.hands.length) M.hands 0 (z6 M)).2:=j2;have g2:H2 l=some (.lst ((jE (nj M.w M.hands.length) M.hands 0 (z6 M)).1.map V.int)):=g2;obtain ⟨dw2,ow2⟩:=j2.jb.ow;obtain ⟨ds2,os2⟩:=j2.js.os;rw [aw1.1] at ow2;have hnt:=Zg2 (nj M.w M.hands.length) M.hands 0 (z6 M);walk_at "ev";refine aK ow2 Tx.cW Tx.Nu bw ?_;walk_at "ev";refine aK os2 Tx.cS Tx.n5 rW ?_;walk_at "ev";refine ⟨aW (by simp),fun a na=>?_⟩;rw [hnt.1];have s3:=aM na (.tup [.str "begin",.int (M.sw.turn + 1),.ref l]);refine q _ _ (.begin ph) _ T2 A1 a (st1.trans (st2.trans (iG.same st2.wt s3))) (j2.same s3) aw1 ⟨l,iG.free st1 nl2,aq,s3 _ _ g2⟩ fun z=>?_;have:=(zR (nj M.w M.hands.length) 100 M.hands 0 (z6 M) ok.hl).1;rw [this] at z;exact absurd z (show ¬ ("walk":Str)="lost" by decide)
end
def rO (X:Cs):Sp:=fun vs H Q E=>∃ wo,vs=[.ref wo]∧∃ T s A M,WT H T∧s≠0∧WJ X H T s A M∧A.wo=wo∧Vr M∧
 (∀ q qs H',KB.Km (fdOf M) (iC M) q q.length qs→(∀ x∈qs,∀ c,cellAt M x.1=some c→c.tone=M.sw.sense)→aX H H'→Q .non H')∧
 (∀ q qs (i:Nat) x c a wl H',KB.Km (fdOf M) (iC M) q q.length qs→qs[i]? =some x→(∀ (k:Nat) y d,k < i→qs[k]? =some y→cellAt M y.1=some d→d.tone=M.sw.sense)→cellAt M x.1=some c→c.tone≠M.sw.sense→aX H H'→H a=none→H wl=none→H' a=some (.tup [.str "lost",.int c.birth,.ref wl])→H' wl=some (.lst (x.2.map V.int))→Q (.ref a) H')
section
variable {K:aC}{X:Cs}{H:Hp}{Q:VK}{E:XK}{n:St→Hp→Prop}{bk ct:St→Hp→Prop}
theorem Zeu {α:Type} (f:α→Nat) (B:Nat):∀ (xs:List α),(∀ x∈xs,f x≤B)→(xs.map f).sum≤xs.length * B
 | [],_=>by simp
 | x :: xs,h=>by
  have h1:=h x (by simp);have h2:=Zeu f B xs fun y hy=>h y (by simp [hy]);rw [List.map_cons,List.sum_cons,List.length_cons,Nat.succ_mul];omega
theorem Zm2 {α β:Type} (f:α→List β) (B:Nat):∀ (xs:List α),(∀ x∈xs,(f x).length≤B)→(xs.flatMap f).length≤xs.length * B
 | [],_=>by simp
 | x :: xs,h=>by
  have h1:=h x (by simp);have h2:=Zm2 f B xs fun y hy=>h y (by simp [hy]);rw [List.flatMap_cons,List.length_append,List.length_cons,Nat.succ_mul];omega
theorem Zok {M:Wm}{T:Tg}{s:Nat}{A:Wa} (j:WJ X H T s A M) (ok:Vr M):Few (fdOf M) (iC M):=by
 have l5:=j.jd.l5;have lh:=j.jd.lh;have hl:(heldOf M).length=M.hands.length:=by unfold heldOf;rw [bD]
 have hr:(iC M).length≤31:=by unfold iC;rw [List.length_append,hl,← lh];simp;omega
 have hrow:∀ x∈iC M,x.length≤900:=fun x hx=>by
  unfold iC at hx;rcases List.mem_append.mp hx with hx | hx
  ·obtain ⟨m,hm,rfl⟩:=List.mem_map.mp hx;exact Nat.le_trans (ok.hl m hm) (by decide)
  ·rw [List.mem_singleton.mp hx];unfold sE;rw [bD];exact ok.nl
 have hf:(fdOf M).length=M.cells.length:=by unfold fdOf;rw [bD]
 have hcl:=ok.cl;have hfl:∀ (i:Nat) x,(fdOf M)[i]? =some x→KB.wgt x≤50:=fun i x hx=>by
  unfold fdOf at hx;rw [cP] at hx;obtain ⟨o,ho,rfl⟩:=Option.map_eq_some_iff.mp hx;cases o with
  | none=>exact Nat.zero_le _
  | some c=>exact ok.fl c (List.mem_of_getElem? ho)
 refine ⟨by omega,fun p fl hp=>?_,by omega,fun x hx=>by have:=hrow x hx;omega,?_⟩
 ·rw [Zab] at hp;obtain ⟨c,hc,rfl⟩:=Option.map_eq_some_iff.mp hp;have:=ok.fl c (sW hc);omega
 ·unfold KB.total;have h1:(KB.q0 (fdOf M) 0 (iC M)).length≤31 * 900:=by
   unfold KB.q0;refine Nat.le_trans (Zm2 _ 900 _ fun x hx=>?_) (by rw [List.length_zipIdx];exact Nat.mul_le_mul_right _ hr);refine Nat.le_trans KB.J0 (hrow x.1 ?_);obtain ⟨_,h2⟩:=List.mem_zipIdx_iff_le_and_getElem?_sub.mp hx;exact List.mem_of_getElem? h2
  have h2:KB.Yp (fdOf M) []≤900 * 50:=by
   unfold KB.Yp;refine Nat.le_trans (Zeu _ 50 _ fun x hx=>?_) (by rw [List.length_zipIdx,hf];exact Nat.mul_le_mul_right _ hcl);obtain ⟨_,h2⟩:=List.mem_zipIdx_iff_le_and_getElem?_sub.mp hx;simp only [List.map_nil,List.not_mem_nil,↓reduceIte];exact hfl _ _ h2
  omega
theorem Zb2 {M:Wm}:∀ {rows:List (List (Option Int))}{ls:List Addr},ls.length=rows.length→(∀ (j:Nat) r x,ls[j]? =some r→rows[j]? =some x→H r=some (.lst (x.map oV)))→CQ K H ls rows
 | [],[],_,_=>trivial
 | [],_ :: _,h,_=>by simp at h
 | _ :: _,[],h,_=>by simp at h
 | x :: rows,r :: ls,h,g=>⟨dz.of (g 0 r x rfl rfl),Zb2 (M:=M) (by simpa using h) fun j r x e1 e2=>g (j + 1) r x (by simpa using e1) (by simpa using e2)⟩
theorem Pn {wo:Addr} (Tx:pD K X) (q:∃ T s A M,WT H T∧s≠0∧WJ X H T s A M∧A.wo=wo∧Vr M∧
 (∀ q qs H',KB.Km (fdOf M) (iC M) q q.length qs→(∀ x∈qs,∀ c,cellAt M x.1=some c→c.tone=M.sw.sense)→aX H H'→Q .non H')∧
 (∀ q qs (i:Nat) x c a wl H',KB.Km (fdOf M) (iC M) q q.length qs→qs[i]? =some x→(∀ (k:Nat) y d,k < i→qs[k]? =some y→cellAt M y.1=some d→d.tone=M.sw.sense)→cellAt M x.1=some c→c.tone≠M.sw.sense→aX H H'→H a=none→H wl=none→H' a=some (.tup [.str "lost",.int c.birth,.ref wl])→H' wl=some (.lst (x.2.map V.int))→Q (.ref a) H')):
  uK K (cC X) (Ak K X.C X.H) (Kc X) ⟨n,Q,bk,ct⟩ [some (.ref wo),none,none,none] H:=by
 obtain ⟨T,s,A,M,w,s0,j,rfl,ok,q1,q2⟩:=q;obtain ⟨dw,ow⟩:=j.jb.ow;have l5:=j.jd.l5;have lh:=j.jd.lh;have nl:=ok.nl;unfold uK;walk_at "ev";refine aK ow Tx.cW Tx.Iw bx ?_;walk_at "ev";refine ⟨_,rfl,T,s,A,M,s0,j,rfl,by omega,by omega,fun ra rs H1 s1 nra ora lrs nrs nrl g1=>?_⟩;walk_at "ev";refine ⟨A.hp,ra,fdOf M,rs,iC M,rfl,(j.same s1).w0.hv,dz.of ora,Zb2 (M:=M) lrs g1,Zok j ok,fun l ts q qs H2 bf nl2 s2 ol qa=>?_⟩;have s02:=s1.trans s2;have j2:=j.same s02;have good:=bf.good.2;have hlq:=qa.len;obtain ⟨dw2,ow2⟩:=j2.jb.ow;obtain ⟨dh2,oh2⟩:=j2.jh.oh;refine ⟨l,rfl,⟨_,dz.of ol⟩,forL (ts.map V.ref) (fun i σ Hx=>∃ v1 v2 v3,σ=[some (.ref A.wo),v1,v2,v3]∧Hx=H2∧∀ (k:Nat) y d,k < i→qs[k]? =some y→cellAt M y.1=some d→d.tone=M.sw.sense) ⟨_,_,_,rfl,rfl,fun k y d hk=>absurd hk (Nat.not_lt_zero _)⟩ (fun _ _ _ _ ⟨_,_,_,_,z,_⟩=>by rw [z];exact dz.of ol) ?_ ?_⟩
 ·rintro i x σ Hx hi ⟨v1,v2,v3,rfl,rfl,hno⟩;rw [cP] at hi;obtain ⟨t,ht,rfl⟩:=Option.map_eq_some_iff.mp hi;have hil:i < qs.length:=by rw [← hlq];exact (dN ht).1
  obtain ⟨t',wa,et,ot,owa⟩:=qa.at (bW hil);rw [ht] at et;cases et;have hx:qs[i]? =some qs[i]:=bW hil;generalize qs[i]=x at hx ot owa;obtain ⟨fl,hfl⟩:=Option.isSome_iff_exists.mp (good x (List.mem_of_getElem? hx)).there;rw [Zab] at hfl;obtain ⟨c,hc,_⟩:=Option.map_eq_some_iff.mp hfl;obtain ⟨x0,hcc⟩:=cu.mp hc;obtain ⟨pp,hpp,ce⟩:=j2.jc.at hcc;obtain ⟨_,_,⟨dc,oc⟩,_⟩:=id ce;refine ⟨t,_,rfl,iQ.of ot,rfl,?_⟩;refine ⟨_,_,rfl,?_⟩;walk_at "ev";refine ⟨_,_,rfl,?_⟩;walk_at "ev";refine ⟨rfl,?_⟩;walk_at "ev";refine aK ow2 Tx.cW Tx.Iw bx ?_;refine aK oh2 Tx.c.cF Tx.c.bK bO ?_;walk_at "ev";refine j6 (dz.of j2.jh.oc) (o9 (v:=.ref pp.1) x0 (by rw [cP,hpp];rfl)) ?_;walk_at "ev";refine ⟨_,_,rfl,T,s,A,M,_,pp,c,j2.w0,rfl,ce,rfl,?_⟩;walk_at "ev";refine Xf (fun z=>?_) (fun z=>?_)
  ·walk_at "ev";refine aK oc Tx.c.cN Tx.c.dF fZ ?_;walk_at "ev";refine Zkj (iQ.of owa) fun wl nwl=>?_;have s3:=aM nwl (.lst (x.2.map V.int));have g3:upd Hx wl (.lst (x.2.map V.int)) wl=some (.lst (x.2.map V.int)):=aq;generalize upd Hx wl (.lst (x.2.map V.int))=H3 at s3 g3 ⊢;walk_at "ev";refine ⟨aW (by simp),fun a na=>?_⟩;have s4:=aM na (.tup [.str "lost",.int c.birth,.ref wl]);exact q2 q qs i x c a wl _ bf hx hno hc z (s02.trans (s3.trans s4)) (s02.free (s3.free na)) (s02.free nwl) aq (s4 _ _ g3)
  ·walk_at "ev";refine ⟨_,_,_,rfl,rfl,fun k y d hk e1 e2=>?_⟩
   by_cases h:k < i
   ·exact hno k y d h e1 e2
   ·have:k=i:=by omega
    subst this;rw [hx] at e1;cases e1;rw [hc] at e2;cases e2;exact z
 ·rintro σ Hx ⟨v1,v2,v3,rfl,rfl,hno⟩;rw [bD,hlq] at hno;walk_at "ev";refine q1 q qs Hx bf (fun x hx c hc=>?_) s02;obtain ⟨k,hk,e⟩:=List.getElem_of_mem hx;exact hno k x c hk (by rw [bW hk,e]) hc
theorem Tu {M:Wm}:((qT M).map some).map (vY M)=(qU M).map some:=by
 unfold qT qU;rw [List.map_map,List.map_filterMap,List.map_filterMap];refine MJ fun i hi=>?_;rw [Option.map_map,Option.map_map];cases hp:tU M i with
 | none=>rfl
 | some c=>
  unfold tU at hp;obtain ⟨d,hd,e⟩:=Option.bind_eq_some_iff.mp hp;have hdc:d=c:=by
   split at e
   ·cases e
   ·exact Option.some.inj e
  subst hdc;show some (vY M (some (i:Int)))=some (some d.birth);have:cellAt M (i:Int)=some d:=by
   unfold cellAt;rw [if_pos (by omega),Int.toNat_natCast,hd]
  show some ((cellAt M (i:Int)).map _)=_;rw [this];rfl
theorem Zn {M:Wm} (h:M.cells.length≤900):(qU M).length≤900∧(qT M).length≤900:=by
 unfold qU qT;have h1:=List.length_filterMap_le (fun i=>(tU M i).map (·.birth)) (List.range M.cells.length);have h2:=List.length_filterMap_le (fun (i:Nat)=>(tU M i).map fun _=>(i:Int)) (List.range M.cells.length);rw [List.length_range] at h1 h2;exact ⟨by omega,by omega⟩
theorem Zot {wo:Addr} (Tx:pD K X) (q:z7 X Zq wo H Q):Zg K (jj X) (rO X) (xZ X) (lE K) ⟨n,Q,bk,ct⟩ [some (.ref wo),none,none,none] H:=by
 obtain ⟨T,s,A,M,lb,lw,w,s0,j,rfl,ok,⟨ph,gr,cd⟩,lo,q⟩:=q;obtain ⟨dw,ow⟩:=j.jb.ow;obtain ⟨ds,os⟩:=j.js.os;obtain ⟨dh,oh⟩:=j.jh.oh;have hcl:=ok.cl;unfold Zg;walk_at "ev";refine aK ow Tx.cW Tx.Nu bw ?_;walk_at "ev";refine aK ow Tx.cW Tx.Iw bx ?_;refine aK oh Tx.c.cF Tx.c.bK bO ?_;walk_at "ev";refine mO (dz.of j.jh.oc) ?_;rw [bD,j.jc.lc];walk_at "ev";refine ⟨A.sw,X.S,ds,_,rfl,os,Tx.cS,Tx.n7,by show 11 < 1000;decide,?_⟩;rw [Jt];walk_at "ev";refine ⟨A.sw,X.S,ds,_,rfl,aq,Tx.cS,Tx.n6,by show 11 < 1000;decide,?_⟩;rw [Bj,dY];obtain ⟨st1,j1⟩:=j.sweep w s0 (dx:=ds) { M.sw with stop:=M.cells.length,at':=0 } rfl;have j1:WJ X _ T s A (iw M):=j1;generalize upd H A.sw (.ins X.S ds (cz M.sw.sense M.sw.phase A.gr M.sw.looked M.sw.turn 0 M.cells.length M.sw.walks M.sw.looks M.sw.passes M.sw.loss))=H1 at st1 j1 ⊢;have ok1:Vr (iw M):=⟨ok.cl,ok.hl,ok.fl,ok.nl,ok.gl,ok.gc,ok.ph,Int.le_refl _⟩;walk_at "ev";refine ⟨_,rfl,T,s,A,iw M,st1.wt,s0,j1,rfl,ok1,fun q' qs H2 bf hno s2=>?_,fun q' qs i x c a wl H2 bf hx hno hc ht s2 na nwl oa owl=>?_⟩
 ·have j2:=j1.same s2;obtain ⟨dw2,ow2⟩:=j2.jb.ow;obtain ⟨ds2,os2⟩:=j2.js.os;walk_at "ev";refine ⟨A.sw,X.S,ds2,_,rfl,os2,Tx.cS,Tx.n2,by show 11 < 1000;decide,?_⟩;rw [mC];obtain ⟨st3,j3⟩:=j2.sweep (st1.wt.same s2) s0 (dx:=ds2) { (iw M).sw with phase:="give" } rfl;have j3:WJ X _ T s A { iw M with sw:={ (iw M).sw with phase:="give" } }:=j3;generalize upd H2 A.sw (.ins X.S ds2 (cz (iw M).sw.sense "give" A.gr (iw M).sw.looked (iw M).sw.turn (iw M).sw.at' (iw M).sw.stop (iw M).sw.walks (iw M).sw.looks (iw M).sw.passes (iw M).sw.loss))=H3 at st3 j3 ⊢;obtain ⟨dw3,ow3⟩:=j3.jb.ow;obtain ⟨ob,ol⟩:=Zn hcl;walk_at "ev";refine aK ow3 Tx.cW Tx.Iw bx ?_;walk_at "ev";refine ⟨_,rfl,T,s,A,_,j3,rfl,hcl,fun l4 H4 s4 nl4 g4=>?_⟩;have e4:(qT { iw M with sw:={ (iw M).sw with phase:="give" } }).map V.int=((qT M).map some).map oV:=by
   rw [List.map_map];rfl
  rw [e4] at g4;walk_at "ev";refine ⟨A.hp,l4,rfl,T,s,A,_,(qT M).map some,j3.same s4,rfl,g4,by rw [bD];omega,fun l5 nl5=>?_⟩;have e5:(((qT M).map some).map (vY { iw M with sw:={ (iw M).sw with phase:="give" } })).map oV=(qU M).map V.int:=by
   have:vY { iw M with sw:={ (iw M).sw with phase:="give" } }=vY M:=by funext x;cases x<;>rfl
   rw [this,Tu,List.map_map];rfl
  rw [e5];have s5:=aM nl5 (.lst ((qU M).map V.int));have g5:upd H4 l5 (.lst ((qU M).map V.int)) l5=some (.lst ((qU M).map V.int)):=aq;generalize upd H4 l5 (.lst ((qU M).map V.int))=H5 at s5 g5 ⊢;walk_at "ev";refine mO (dz.of g5) ?_;rw [bD];walk_at "ev";refine ⟨aW (by simp),fun a na=>?_⟩;have s6:=aM na (.tup [.str "cut",.int (qU M).length,.ref l5]);have s35:=s4.trans (s5.trans s6);have fr:H l5=none:=iG.free st1 (s2.free (iG.free st3 (s4.free nl5)));exact q _ _ (.cut q' qs ph gr cd bf hno) _ T A a (st1.trans ((iG.same st1.wt s2).trans (st3.trans (iG.same st3.wt s35)))) (j3.same s35) ⟨rfl,rfl⟩ ⟨l5,fr,aq,s6 _ _ g5⟩ fun z=>absurd z (show ¬ ("give":Str)="lost" by decide)
 ·have j2:=j1.same s2;have w2:=st1.wt.same s2;obtain ⟨ds2,os2⟩:=j2.js.os;walk_at "ev";refine ⟨A.sw,X.S,ds2,_,rfl,os2,Tx.cS,Tx.n2,by show 11 < 1000;decide,?_⟩;rw [mC];walk_at "ev";refine ⟨A.sw,X.S,ds2,_,rfl,aq,Tx.cS,Tx.n11,by show 11 < 1000;decide,?_⟩;rw [Ju,dY];obtain ⟨st3,j3⟩:=j2.sweep w2 s0 (dx:=ds2) { (iw M).sw with phase:="lost",loss:=.ref a } rfl;have j3:WJ X _ T s A { iw M with sw:={ (iw M).sw with phase:="lost",loss:=.ref a } }:=j3;have ta:T a=(0,0):=st1.wt _ na;have tw:T wl=(0,0):=st1.wt _ nwl;have oa3:upd H2 A.sw (.ins X.S ds2 (cz (iw M).sw.sense "lost" A.gr (iw M).sw.looked (iw M).sw.turn (iw M).sw.at' (iw M).sw.stop (iw M).sw.walks (iw M).sw.looks (iw M).sw.passes (.ref a))) a=some (.tup [.str "lost",.int c.birth,.ref wl]):=(aB (pI oa os2 (fun z=>by cases z))).trans oa;have Zmw:upd H2 A.sw (.ins X.S ds2 (cz (iw M).sw.sense "lost" A.gr (iw M).sw.looked (iw M).sw.turn (iw M).sw.at' (iw M).sw.stop (iw M).sw.walks (iw M).sw.looks (iw M).sw.passes (.ref a))) wl=some (.lst (x.2.map V.int)):=(aB (pI owl os2 (fun z=>by cases z))).trans owl;generalize upd H2 A.sw (.ins X.S ds2 (cz (iw M).sw.sense "lost" A.gr (iw M).sw.looked (iw M).sw.turn (iw M).sw.at' (iw M).sw.stop (iw M).sw.walks (iw M).sw.looks (iw M).sw.passes (.ref a)))=H3 at st3 j3 oa3 Zmw ⊢;walk_at "ev";refine ⟨a,rfl,"lost",c.birth,wl,x.2,oa3,Zmw,fun a' l' H4 s4 nl' oa' ol'=>?_⟩;have fr:H l'=none:=iG.free st1 (s2.free (iG.free st3 nl'));exact q _ _ (.lost q' qs i x c (.ref a) ph gr cd bf hx hno hc ht) _ T A a' (st1.trans ((iG.same st1.wt s2).trans (st3.trans (iG.same st3.wt s4)))) (j3.same s4) ⟨rfl,rfl⟩ ⟨l',fr,oa',ol'⟩ fun _=>⟨c.birth,rfl,a,wl,rfl,ta,s4 _ _ oa3,tw,s4 _ _ Zmw⟩
end
section
variable {K:aC}{X:Cs}{H:Hp}{Q:VK}{E:XK}{n:St→Hp→Prop}{bk ct:St→Hp→Prop}
theorem Zid {wo:Addr} (Tx:pD K X) (q:z7 X Wq wo H Q):Te K (eN X) ⟨n,Q,bk,ct⟩ [some (.ref wo),none,none] H:=by
 obtain ⟨T,s,A,M,lb,lw,w,s0,j,rfl,ok,⟨ph,gr⟩,lo,q⟩:=q;obtain ⟨dw,ow⟩:=j.jb.ow;obtain ⟨ds,os⟩:=j.js.os;obtain ⟨dh,oh⟩:=j.jh.oh;have og:=j.js.og;cases hg:M.sw.grey with
 | nil=>exact absurd hg gr
 | cons x g=>
  obtain ⟨c,hc⟩:=ok.gc ph x (by rw [hg];simp);obtain ⟨x0,hcc⟩:=cu.mp hc;have hgl:=ok.gl ph;have hfl:=ok.fl c (sW hc);rw [hg] at og;unfold Te;walk_at "ev";refine aK ow Tx.cW Tx.Nu bw ?_;walk_at "ev";refine aK ow Tx.cW Tx.Iw bx ?_;refine aK oh Tx.c.cF Tx.c.bK bO ?_;walk_at "ev";refine aK os Tx.cS Tx.n3 oG ?_;walk_at "ev";refine ⟨.inl ⟨rfl,_,dz.of og⟩,?_⟩;walk_at "ev";refine ⟨A.gr,_,0,0,.int x,rfl,rfl,og,by decide,by decide,by simp [seqIndex?],rfl,?_⟩;obtain ⟨st1,j1⟩:=j.Zlz w s0 (g:=g);show nM K _ _ (upd H A.gr (.lst (g.map V.int))) _;generalize upd H A.gr (.lst (g.map V.int))=H1 at st1 j1 ⊢;obtain ⟨pp,hpp,ce⟩:=j1.jc.at (i:=x.toNat) (c:=c) hcc;refine j6 (dz.of j1.jh.oc) (o9 (v:=.ref pp.1) x0 (by rw [cP,hpp];rfl)) ?_;obtain ⟨ds1,os1⟩:=j1.js.os;walk_at "ev";refine aK os1 Tx.cS Tx.n8 yh ?_;walk_at "ev";refine ⟨A.sw,X.S,ds1,_,rfl,os1,Tx.cS,Tx.n8,by show 11 < 1000;decide,?_⟩;rw [vH];obtain ⟨st2,j2⟩:=j1.sweep st1.wt s0 (dx:=ds1) { M.sw with grey:=g,walks:=M.sw.walks + 1 } rfl;have j2:WJ X _ T s A { M with sw:={ M.sw with grey:=g,walks:=M.sw.walks + 1 } }:=j2;generalize upd H1 A.sw _=H2 at st2 j2 ⊢;obtain ⟨pp2,Zqk,ce2⟩:=j2.jc.at (i:=x.toNat) (c:=c) hcc;rw [hpp] at Zqk;cases Zqk;obtain ⟨_,_,⟨dc,oc⟩,of'⟩:=id ce2;walk_at "ev";refine aK oc Tx.c.cN Tx.c.dF fZ ?_;walk_at "ev";refine aK oc Tx.c.cN Tx.c.dX jF ?_;walk_at "ev";refine ⟨_,_,rfl,c.fl,T,s,A,_,st2.wt,s0,j2,rfl,.inr (.inr ⟨x.toNat,pp,c,hpp,hcc,rfl,rfl⟩),by omega,fun _=>?_,fun H3 T3 l st3 j3 g3 nl3=>?_⟩
  ·show g.length≤10000;rw [hg,List.length_cons] at hgl;omega
  walk_at "ev";refine ⟨aW (by simp),fun a na=>?_⟩;have s4:=aM na (.tup [.str "walk",.int c.birth,.ref l]);refine q _ _ (.walk x g c ph hg hc) _ T3 A a (st1.trans (st2.trans (st3.trans (iG.same st3.wt s4)))) (j3.same s4) ⟨rfl,rfl⟩ ⟨l,iG.free st1 (iG.free st2 nl3),aq,s4 _ _ g3⟩ fun z=>?_;rw [(tX (l:=c.fl) (M:={ M with sw:={ M.sw with grey:=g,walks:=M.sw.walks + 1 } })).1] at z;exact absurd (ph.symm.trans z) (show ¬ ("walk":Str)="lost" by decide)
theorem Oq {wo:Addr} (Tx:pD K X) (q:z7 X Wr wo H Q):uH K X.H (qI X.C X.H) (dG X.H) (cC X) ⟨n,Q,bk,ct⟩ [some (.ref wo),none,none,none] H:=by
 obtain ⟨T,s,A,M,lb,lw,w,s0,j,rfl,ok,⟨ph,lt⟩,lo,q⟩:=q;obtain ⟨dw,ow⟩:=j.jb.ow;obtain ⟨ds,os⟩:=j.js.os;unfold uH;walk_at "ev";refine aK ow Tx.cW Tx.Nu bw ?_;walk_at "ev";refine aK os Tx.cS Tx.n6 Dg ?_;walk_at "ev";refine ⟨A.sw,X.S,ds,_,rfl,os,Tx.cS,Tx.n6,by show 11 < 1000;decide,?_⟩;rw [Bj];walk_at "ev";refine aK aq Tx.cS Tx.n10 vJ ?_;walk_at "ev";refine ⟨A.sw,X.S,ds,_,rfl,aq,Tx.cS,Tx.n10,by show 11 < 1000;decide,?_⟩;rw [tM,dY];obtain ⟨st1,j1⟩:=j.sweep w s0 (dx:=ds) { M.sw with at':=M.sw.at' + 1,passes:=M.sw.passes + 1 } rfl;generalize upd H A.sw _=H1 at st1 j1 ⊢;obtain ⟨dw1,ow1⟩:=j1.jb.ow;obtain ⟨dh1,oh1⟩:=j1.jh.oh;walk_at "ev";refine aK ow1 Tx.cW Tx.Iw bx ?_;walk_at "ev";refine ⟨_,_,rfl,vP (some M.sw.at'),_,_,_,_,_,j1.hpO,?_⟩;have pas:(∀ c,cellAt M M.sw.at'=some c→c.tone=M.sw.sense)→∀ l a H2,H1 l=none→aX H1 H2→H2 a=some (.tup [.str "pass",.int M.sw.at',.ref l])→H2 l=some (.lst [])→Q (.ref a) H2:=fun hp l a H2 nl s2 oa ol=>
  q _ _ (.pass ph lt hp) _ T A a (st1.trans (iG.same st1.wt s2)) (j1.same s2) ⟨rfl,rfl⟩ ⟨l,iG.free st1 nl,oa,ol⟩ fun z=>absurd (ph.symm.trans z) (show ¬ ("give":Str)="lost" by decide)
 rcases j1.look (some M.sw.at') with ⟨e1,e2⟩ | ⟨i,c,pp,ei,h0,ec,hcc,hpp,e2,ce⟩
 ·have e1:cellAt M M.sw.at'=none:=e1;rw [show atO (A.cs.map pV) (.int M.sw.at')=.non from e2];walk_at "ev";refine ⟨aW (by simp),fun l nl=>⟨aW (by simp),fun a na=>?_⟩⟩;have s2:=aM nl (.lst []);have s3:=aM na (.tup [.str "pass",.int M.sw.at',.ref l]);exact pas (fun c hc=>by rw [e1] at hc;cases hc) l a _ nl (s2.trans s3) aq (s3 _ _ aq)
 ·cases ei;have ec:cellAt M M.sw.at'=some c:=ec;rw [show atO (A.cs.map pV) (.int M.sw.at')=.ref pp.1 from e2];walk_at "ev";refine ⟨_,_,rfl,T,s,A,_,_,pp,c,j1.w0,rfl,ce,rfl,?_⟩
  by_cases z:c.tone=M.sw.sense
  ·rw [decide_eq_true (show c.tone=({ M.sw with at':=M.sw.at' + 1,passes:=M.sw.passes + 1 }:Sw).sense from z)];walk_at "ev";refine ⟨aW (by simp),fun l nl=>⟨aW (by simp),fun a na=>?_⟩⟩;have s2:=aM nl (.lst []);have s3:=aM na (.tup [.str "pass",.int M.sw.at',.ref l]);exact pas (fun d hd=>by rw [ec] at hd;cases hd;exact z) l a _ nl (s2.trans s3) aq (s3 _ _ aq)
  ·rw [decide_eq_false (show ¬ c.tone=({ M.sw with at':=M.sw.at' + 1,passes:=M.sw.passes + 1 }:Sw).sense from z)];obtain ⟨k,ek⟩:=toN h0;have hk:M.cells[k]? =some (some c):=by rw [ek,Int.toNat_natCast] at hcc;exact hcc
   walk_at "ev";refine aK ow1 Tx.cW Tx.Iw bx ?_;walk_at "ev";refine ⟨A.hp,dh1,_,rfl,oh1,Ph,?_⟩;walk_at "ev";rw [ek];refine Zdr j1 st1.wt s0 hk fun H2 A2 st2 j2 aw2=>?_;walk_at "ev";refine ⟨aW (by simp),fun l nl=>⟨aW (by simp),fun a na=>?_⟩⟩;have s3:=aM nl (.lst [.int (k:Int)]);have s4:=aM na (.tup [.str "back",.int c.birth,.ref l]);have s34:=s3.trans s4;have rr:=rA.back (lb:=lb) (lw:=lw) (M:=M) c ph lt ec z;rw [ek,Int.toNat_natCast] at rr;rw [ek] at j2;exact q _ _ rr _ T A2 a (st1.trans (st2.trans (iG.same st2.wt s34))) (j2.same s34) aw2 ⟨l,iG.free st1 (iG.free st2 nl),aq,s4 _ _ aq⟩ fun y=>absurd (ph.symm.trans y) (show ¬ ("give":Str)="lost" by decide)
theorem Zop {wo:Addr} (Tx:pD K X) (q:z7 X pEnd wo H Q):Zf K ⟨n,Q,bk,ct⟩ [some (.ref wo),none] H:=by
 obtain ⟨T,s,A,M,lb,lw,w,s0,j,rfl,ok,⟨ph,lt⟩,lo,q⟩:=q;obtain ⟨dw,ow⟩:=j.jb.ow;obtain ⟨ds,os⟩:=j.js.os;unfold Zf;walk_at "ev";refine aK ow Tx.cW Tx.Nu bw ?_;walk_at "ev";refine ⟨A.sw,X.S,ds,_,rfl,os,Tx.cS,Tx.n2,by show 11 < 1000;decide,?_⟩;rw [mC];obtain ⟨st1,j1⟩:=j.sweep w s0 (dx:=ds) { M.sw with phase:="rest" } rfl;generalize upd H A.sw _=H1 at st1 j1 ⊢;obtain ⟨ds1,os1⟩:=j1.js.os;walk_at "ev";refine aK os1 Tx.cS Tx.n5 rW ?_;walk_at "ev";refine aK os1 Tx.cS Tx.n8 yh ?_;walk_at "ev";refine aK os1 Tx.cS Tx.n9 yj ?_;walk_at "ev";refine aK os1 Tx.cS Tx.n10 vJ ?_;walk_at "ev";refine ⟨aW (by simp),fun l nl=>⟨aW (by simp),fun a na=>?_⟩⟩;have s2:=aM nl (.lst [.int M.sw.walks,.int M.sw.looks,.int M.sw.passes]);have s3:=aM na (.tup [.str "end",.int M.sw.turn,.ref l]);have s23:=s2.trans s3;exact q _ _ (.fin ph lt) _ T A a (st1.trans (iG.same st1.wt s23)) (j1.same s23) ⟨rfl,rfl⟩ ⟨l,iG.free st1 nl,aq,s3 _ _ aq⟩ fun z=>absurd z (show ¬ ("rest":Str)="lost" by decide)
theorem Jx {wo:Addr} (Tx:pD K X) (q:z7 X (JZ "give") wo H Q):qQ K (bR X pEnd) (bR X Wr) ⟨n,Q,bk,ct⟩ [some (.ref wo)] H:=by
 obtain ⟨T,s,A,M,lb,lw,w,s0,j,rfl,ok,ph,lo,q⟩:=q;obtain ⟨dw,ow⟩:=j.jb.ow;obtain ⟨ds,os⟩:=j.js.os;unfold qQ;walk_at "ev";refine aK ow Tx.cW Tx.Nu bw ?_;walk_at "ev";refine aK os Tx.cS Tx.n6 Dg ?_;walk_at "ev";refine aK ow Tx.cW Tx.Nu bw ?_;walk_at "ev";refine aK os Tx.cS Tx.n7 Ku ?_;walk_at "ev";refine vB (fun z=>?_) (fun z=>?_)
 ·walk_at "ev";exact ⟨_,rfl,T,s,A,M,lb,lw,w,s0,j,rfl,ok,⟨ph,z⟩,lo,q⟩
 ·walk_at "ev";exact ⟨_,rfl,T,s,A,M,lb,lw,w,s0,j,rfl,ok,⟨ph,z⟩,lo,q⟩
theorem Jw {wo:Addr} (Tx:pD K X) (q:z7 X (JZ "walk") wo H Q):qP K (bR X Ws) (bR X Wq) ⟨n,Q,bk,ct⟩ [some (.ref wo)] H:=by
 obtain ⟨T,s,A,M,lb,lw,w,s0,j,rfl,ok,ph,lo,q⟩:=q;obtain ⟨dw,ow⟩:=j.jb.ow;obtain ⟨ds,os⟩:=j.js.os;unfold qP;walk_at "ev";refine aK ow Tx.cW Tx.Nu bw ?_;walk_at "ev";refine aK os Tx.cS Tx.n3 oG ?_;refine Zpd (dz.of j.js.og) ?_;cases hg:M.sw.grey with
 | nil=>
  refine Uv ?_;walk_at "ev";exact ⟨_,rfl,T,s,A,M,lb,lw,w,s0,j,rfl,ok,⟨ph,hg⟩,lo,q⟩
 | cons x g=>
  refine Z6 ?_;walk_at "ev";exact ⟨_,rfl,T,s,A,M,lb,lw,w,s0,j,rfl,ok,⟨ph,by rw [hg];simp⟩,lo,q⟩
theorem Di {wo:Addr} (Tx:pD K X) (q:z7 X (JZ "lost") wo H Q):oJ K (lE K) ⟨n,Q,bk,ct⟩ [some (.ref wo)] H:=by
 obtain ⟨T,s,A,M,lb,lw,w,s0,j,rfl,ok,ph,lo,q⟩:=q;obtain ⟨dw,ow⟩:=j.jb.ow;obtain ⟨ds,os⟩:=j.js.os;obtain ⟨la,wl,e1,t1,o1,t2,o2⟩:=lo ph;rw [e1] at os;unfold oJ;walk_at "ev";refine aK ow Tx.cW Tx.Nu bw ?_;walk_at "ev";refine aK os Tx.cS Tx.n11 Kv ?_;walk_at "ev";refine ⟨la,rfl,"lost",lb,wl,lw,o1,o2,fun a l H1 s1 nl oa ol=>?_⟩;exact q _ _ (.again ph) _ T A a (iG.same w s1) (j.same s1) ⟨rfl,rfl⟩ ⟨l,nl,oa,ol⟩ fun _=>⟨lb,rfl,la,wl,e1,t1,s1 _ _ o1,t2,s1 _ _ o2⟩
theorem Zih {wo f1 f2 f3 f4:Addr} (Tx:pD K X) (q:z7 X Zfq wo H Q):Tf K f1 f2 f3 f4 (bR X (JZ "rest")) (bR X (JZ "give")) (bR X (JZ "walk")) (bR X (JZ "lost")) ⟨n,Q,bk,ct⟩ [some (.ref wo),none] H:=by
 obtain ⟨T,s,A,M,lb,lw,w,s0,j,rfl,ok,_,lo,q⟩:=q;obtain ⟨dw,ow⟩:=j.jb.ow;obtain ⟨ds,os⟩:=j.js.os;unfold Tf;walk_at "ev";refine aK ow Tx.cW Tx.Nu bw ?_;walk_at "ev";refine aK os Tx.cS Tx.n2 iH ?_;rcases ok.ph with ph | ph | ph | ph
 ·rw [ph];refine ⟨_,f1,rfl,rfl,?_⟩;walk_at "ev";refine lU (bR X (JZ "rest")) rfl (by simp) ?_;walk_at "ev";exact ⟨_,rfl,T,s,A,M,lb,lw,w,s0,j,rfl,ok,ph,lo,q⟩
 ·rw [ph];refine ⟨_,f3,rfl,rfl,?_⟩;walk_at "ev";refine lU (bR X (JZ "walk")) rfl (by simp) ?_;walk_at "ev";exact ⟨_,rfl,T,s,A,M,lb,lw,w,s0,j,rfl,ok,ph,lo,q⟩
 ·rw [ph];refine ⟨_,f2,rfl,rfl,?_⟩;walk_at "ev";refine lU (bR X (JZ "give")) rfl (by simp) ?_;walk_at "ev";exact ⟨_,rfl,T,s,A,M,lb,lw,w,s0,j,rfl,ok,ph,lo,q⟩
 ·rw [ph];refine ⟨_,f4,rfl,rfl,?_⟩;walk_at "ev";refine lU (bR X (JZ "lost")) rfl (by simp) ?_;walk_at "ev";exact ⟨_,rfl,T,s,A,M,lb,lw,w,s0,j,rfl,ok,ph,lo,q⟩
end
section
variable {K:aC}{X:Cs}{H:Hp}{Q:VK}{E:XK}{n:St→Hp→Prop}{bk ct:St→Hp→Prop}
theorem V4 {A:Wa}{w:Int}{σ:St}{te:TE}{q:Bool→Hp→Prop} (ol:∃ dx,w=2∧H A.lk=some (.ins X.L dx [])) (hte:∀ Q':VK,Q' (.ref A.lk) H→te σ H Q') (h:q (decide (w≠2)) H):
  tB (pG X.L "stays" (HS (.bl false)) [] E0 te aG) σ H q:=by
 refine Zq3 ?_;obtain ⟨dl,ew,o⟩:=ol;rw [show decide (w≠2)=false from decide_eq_false (by omega)] at h;walk_at "es";refine hte _ ?_;refine ⟨A.lk,dl,_,rfl,o,rfl,?_⟩;walk_at "es";exact ⟨_,rfl,i_B h⟩
theorem Zd4 {T:Tg}{s:Nat}{A:Wa}{M:Wm}{lb:Int}{lw:List Int} (Tx:pD K X) (w:WT H T) (s0:s≠0) (j:WJ X H T s A M) (ok:Vr M) (ph:M.sw.phase="walk") (gr:M.sw.grey=[])
  (q:∀ e M',rA lb lw M e M'→∀ H' T' A' a,iG s H H' T T'→WJ X H' T' s A' M'→A'.wo=A.wo∧A'.sw=A.sw→EvN H H' a e→(M'.sw.phase="lost"→∃ b,e.thing=some b∧Zi7 H' T' M' b e.notes)→Q (.ref a) H'):
  mJ K X.L (HS (.bl false)) (bR X Zq) (jM X) ⟨n,Q,bk,ct⟩ [some (.ref A.wo),some (.ref A.sw),some (.ref A.lk),some (.int (eX M)),none] H:=by
 unfold mJ;walk_at "ev";refine ⟨_,_,rfl,T,s,A,M,w,s0,j,rfl,ok.hl,fun _=>by rw [gr];exact Nat.zero_le _,fun H1 T1 l st1 j1 g1 nl=>?_⟩;have nt:=Uo (eX M) M.hands 0 M;have ww:=nt.ww;have ol:=j1.jb.ol;rw [ww] at ol;have Zqw:xX M→bR X Zq [.ref A.wo] H1 Q E0:=fun cd=>by
  have e:(jE (eX M) M.hands 0 M).2=M:=by
   rcases cd with z | ⟨_,z⟩
   ·rw [z,W6]
   ·exact Up _ z
  rw [e] at j1;refine ⟨_,rfl,T1,s,A,M,lb,lw,st1.wt,s0,j1,rfl,ok,⟨ph,gr,cd⟩,fun z=>absurd (ph.symm.trans z) (by decide),fun e' M' r H' T' A' a st' j' aw' ev' lo'=>?_⟩;obtain ⟨l',nl',o1,o2⟩:=ev';exact q e' M' r H' T' A' a (st1.trans st') j' aw' ⟨l',iG.free st1 nl',o1,o2⟩ lo'
 have Zbe:¬ xX M→∀ (lo:Int),lo=(if M.w=2 then (jE (eX M) M.hands 0 M).2.sw.looked else Builtin.bitOr (jE (eX M) M.hands 0 M).2.sw.looked (eX M))→∀ H2,iG s H1 H2 T1 T1→WJ X H2 T1 s A { (jE (eX M) M.hands 0 M).2 with sw:={ (jE (eX M) M.hands 0 M).2.sw with looks:=(jE (eX M) M.hands 0 M).2.sw.looks + 1,looked:=lo } }→H2 l=some (.lst ((jE (eX M) M.hands 0 M).1.map V.int))→∀ a,H2 a=none→Q (.ref a) (upd H2 a (.tup [.str "look",.int (eX M),.ref l])):=fun nc lo elo H2 st2 j2 g2 a na=>by
  have s3:=aM na (.tup [.str "look",.int (eX M),.ref l]);subst elo;refine q _ _ (.look _ ph gr nc rfl) _ T1 A a (st1.trans (st2.trans (iG.same st2.wt s3))) (j2.same s3) ⟨rfl,rfl⟩ ⟨l,nl,aq,s3 _ _ g2⟩ fun z=>?_;have:=(zR (eX M) 100 M.hands 0 M ok.hl).1;have z:(jE (eX M) M.hands 0 M).2.sw.phase="lost":=z;rw [this] at z;exact absurd (ph.symm.trans z) (by decide)
 walk_at "ev";refine vB (fun hz=>?_) (fun hz=>?_)
 ·walk_at "ev";exact Zqw (.inl hz)
 ·refine Zly ?_;refine Zq5 ?_;refine V4 ol (fun Q' h=>by walk_at "es";exact h) ?_
  by_cases w2:M.w=2
  ·rw [show decide (M.w≠2)=false from decide_eq_false (by omega)];refine Uv ?_;refine Zlx ?_;walk_at "es";refine Zpd (dz.of g1) ?_;cases hn:(jE (eX M) M.hands 0 M).1 with
   | nil=>
    refine Z6 ?_;walk_at "ev";exact Zqw (.inr ⟨w2,hn⟩)
   | cons b bs=>
    have nc:¬ xX M:=fun z=>by
     rcases z with z | ⟨_,z⟩
     ·exact hz z
     ·rw [hn] at z;cases z
    have Zbe:=Zbe nc _ rfl;rw [if_pos w2] at Zbe;obtain ⟨ds1,os1⟩:=j1.js.os;refine Uv ?_;walk_at "ev";refine aK os1 Tx.cS Tx.n9 yj ?_;walk_at "ev";refine ⟨A.sw,X.S,ds1,_,rfl,os1,Tx.cS,Tx.n9,by show 11 < 1000;decide,?_⟩;rw [vI];obtain ⟨st2,j2⟩:=j1.sweep st1.wt s0 (dx:=ds1) { (jE (eX M) M.hands 0 M).2.sw with looks:=(jE (eX M) M.hands 0 M).2.sw.looks + 1 } rfl;have g2:upd H1 A.sw (.ins X.S ds1 (cz (jE (eX M) M.hands 0 M).2.sw.sense (jE (eX M) M.hands 0 M).2.sw.phase A.gr (jE (eX M) M.hands 0 M).2.sw.looked (jE (eX M) M.hands 0 M).2.sw.turn (jE (eX M) M.hands 0 M).2.sw.at' (jE (eX M) M.hands 0 M).2.sw.stop (jE (eX M) M.hands 0 M).2.sw.walks ((jE (eX M) M.hands 0 M).2.sw.looks + 1) (jE (eX M) M.hands 0 M).2.sw.passes (jE (eX M) M.hands 0 M).2.sw.loss)) l=some (.lst ((jE (eX M) M.hands 0 M).1.map V.int)):=(aB (pI g1 os1 (fun z=>by cases z))).trans g1;generalize upd H1 A.sw _=H2 at st2 j2 g2 ⊢;have ol2:=j2.jb.ol;have ww2:({ (jE (eX M) M.hands 0 M).2 with sw:={ (jE (eX M) M.hands 0 M).2.sw with looks:=(jE (eX M) M.hands 0 M).2.sw.looks + 1 } }:Wm).w=M.w:=ww;rw [ww2] at ol2;refine Mv ?_;refine Zqc ?_;refine V4 ol2 (fun Q' h=>by walk_at "es";exact h) ?_;rw [show decide (M.w≠2)=false from decide_eq_false (by omega)];walk_at "ev";exact ⟨aW (by simp),fun a na=>Zbe H2 st2 j2 g2 a na⟩
  ·obtain ⟨_,e2,_⟩:=j.jb.ol;exact absurd e2 w2
theorem Mm {wo:Addr} (Tx:pD K X) (q:z7 X Ws wo H Q):sJ K X.L (uf 2) (HS (.bl false)) (bR X Zq) (jM X) ⟨n,Q,bk,ct⟩ [some (.ref wo),none,none,none,none] H:=by
 obtain ⟨T,s,A,M,lb,lw,w,s0,j,rfl,ok,⟨ph,gr⟩,lo,q⟩:=q;obtain ⟨dw,ow⟩:=j.jb.ow;obtain ⟨ds,os⟩:=j.js.os;obtain ⟨dk,ok'⟩:=j.jb.ok;have on:=j.jb.on;have lh:=j.jd.lh;have l5:=j.jd.l5;have Zk4:((A.hs.map fun p=>V.ref p.1).length:Int)=(M.hands.length:Int):=by rw [bD,lh]
 have tail:=Zd4 (n:=n) (bk:=bk) (ct:=ct) Tx w s0 j ok ph gr q;obtain ⟨dl,ol⟩:=j.jb.ol;unfold sJ;walk_at "ev";refine aK ow Tx.cW Tx.Nu bw ?_;walk_at "ev";refine aK ow Tx.cW Tx.nWk oF ?_;refine aK ok' Tx.cK Tx.nKl vV ?_;refine Zo4 ?_;refine Mv ?_;walk_at "es";obtain ⟨ew,o⟩:=ol;have eb:eX M=W7 2 M.sw.looked M.hands.length:=by unfold eX;rw [ew];rfl
 walk_at "es";refine ⟨A.lk,dl,_,rfl,o,rfl,?_⟩;walk_at "es";refine aK os Tx.cS Tx.n4 pL ?_;walk_at "es";refine aK ow Tx.cW Tx.nWd jD ?_;walk_at "es";refine mO (dz.of on) ?_;rw [Zk4];walk_at "es";refine ⟨A.lk,_,_,rfl,by omega,by omega,?_⟩;rw [Int.toNat_natCast,← eb];walk_at "es";exact tail
end
abbrev JR:=List (Str×Int)
def HsO (H:Hp) (l:Addr) (hs:JR):Prop:=∃ ts:List Addr,H l=some (.lst (ts.map V.ref))∧Al (fun (a:Addr) (m:Str×Int)=>H a=some (.tup [.str m.1,.int m.2])) ts hs
theorem HsO.same {H H':Hp}{l:Addr}{hs:JR} (h:HsO H l hs) (s:aX H H'):HsO H' l hs:=by
 obtain ⟨ts,h1,h2⟩:=h;exact ⟨ts,s _ _ h1,h2.mono fun a m z=>s _ _ z⟩
structure HsB (hs:JR):Prop where
 n1:1≤hs.length
 n5:hs.length≤5
 sb:∀ m∈hs,3≤m.2∧m.2≤9
def Lw (hs:JR) (h s:Nat):Prop:=∃ m,hs[h]? =some m∧(s:Int) < m.2
def okR (hs:JR):mQ→Prop
 | .make h s many bulk=>Lw hs h s∧0≤many∧many≤8∧0≤bulk
 | .get h s t _=>Lw hs h s∧Lw hs h t
 | .put h t _ s=>Lw hs h t∧Lw hs h s
 | .copy h s t=>Lw hs h s∧Lw hs h t
 | .drop h s=>Lw hs h s
 | .give h s g t=>Lw hs h s∧Lw hs g t
 | .write h t _=>Lw hs h t
 | .read h t=>Lw hs h t
 | .name h t _=>Lw hs h t
 | .seek h s _=>Lw hs h s
theorem HsB.ok {hs:JR} (b:HsB hs) {h s:Nat} (hh:h < hs.length) (h3:s < 3):Lw hs h s:=by
 have:=b.sb _ (List.getElem_mem hh);exact ⟨_,bW hh,by omega⟩
def Vw (H0 H:Hp) (hs:JR) (vs:List V):Prop:=∀ v∈vs,v=.non∨∃ t d,v=.ref t∧H0 t=none∧H t=some (.tup (dV d))∧okR hs d
structure RL (H0 H:Hp) (hs:JR) (l:Addr) (N:Nat):Prop where
 s:aX H0 H
 n:H0 l=none
 ex:∃ vs,H l=some (.lst vs)∧vs.length≤N∧Vw H0 H hs vs
theorem Vw.same {H0 H H':Hp}{hs:JR}{vs:List V} (h:Vw H0 H hs vs) (s:aX H H'):Vw H0 H' hs vs:=fun v hv=>by
 rcases h v hv with z | ⟨t,d,e,f,o,k⟩
 ·exact .inl z
 ·exact .inr ⟨t,d,e,f,s _ _ o,k⟩
theorem RL.same {H0 H H':Hp}{hs:JR}{l:Addr}{N:Nat} (h:RL H0 H hs l N) (s:aX H H'):RL H0 H' hs l N:=by
 obtain ⟨s0,n,vs,h1,h2,h3⟩:=h;exact ⟨s0.trans s,n,vs,s _ _ h1,h2,h3.same s⟩
theorem RL.base {H0 H1 H:Hp}{hs:JR}{l:Addr}{N:Nat} (h:RL H1 H hs l N) (s:aX H0 H1):RL H0 H hs l N:=by
 obtain ⟨s0,n,vs,h1,h2,h3⟩:=h;refine ⟨s.trans s0,s.free n,vs,h1,h2,fun v hv=>?_⟩;rcases h3 v hv with z | ⟨t,d,e,f,o,k⟩
 ·exact .inl z
 ·exact .inr ⟨t,d,e,s.free f,o,k⟩
theorem RL.mono {H0 H:Hp}{hs:JR}{l:Addr}{N N':Nat} (h:RL H0 H hs l N) (n:N≤N'):RL H0 H hs l N':=by
 obtain ⟨s0,nn,vs,h1,h2,h3⟩:=h;exact ⟨s0,nn,vs,h1,by omega,h3⟩
theorem vp {H0 H:Hp}{hs:JR}{l1 l2:Addr}{N1 N2:Nat}{Q:VK} (h1:RL H0 H hs l1 N1) (h2:RL H0 H hs l2 N2) (hb:N1 + N2≤100000) (k:∀ l H',aX H H'→H l=none→RL H0 H' hs l (N1 + N2)→Q (.ref l) H'):vK (.ref l1) (.ref l2) H Q:=by
 obtain ⟨s0,_,vs,a1,a2,a3⟩:=h1;obtain ⟨_,_,ws,b1,b2,b3⟩:=h2;refine ⟨l1,l2,_,_,rfl,rfl,a1,b1,aW (by omega),fun l nl=>?_⟩;have s:=aM nl (.lst (vs ++ ws));refine k l _ s nl ⟨s0.trans s,s0.free nl,vs ++ ws,aq,by rw [List.length_append];omega,fun v hv=>?_⟩;rcases List.mem_append.mp hv with hv | hv
 ·exact (a3.same s) v hv
 ·exact (b3.same s) v hv
theorem Zj0 (m:Nat):(List.replicate m [V.non]).flatten=(List.replicate m (none:Option Int)).map oV:=by
 induction m with
 | zero=>rfl
 | succ m ih=>rw [List.replicate_succ,List.flatten_cons,ih];rfl
theorem LC {H0 H:Hp}{hs:JR}{Q:VK}{l0:Addr}{k:Int} (s0:aX H0 H) (h0:H l0=some (.lst [V.non])) (k0:0≤k) (k1:k≤1000) (q:∀ l H',aX H H'→H l=none→RL H0 H' hs l k.toNat→Q (.ref l) H'):Wj (.ref l0) (.int k) H Q:=by
 refine ⟨l0,k,_,rfl,rfl,h0,by omega,by omega,by show 1 * k.toNat≤sizeLine;exact aW (by omega),fun l nl=>?_⟩;rw [Zj0];refine q l _ (aM nl _) nl ⟨s0.trans (aM nl _),s0.free nl,_,aq,by rw [bD,List.length_replicate];exact Nat.le_refl _,fun v hv=>?_⟩;rw [List.map_replicate] at hv;rw [List.eq_of_mem_replicate hv];exact .inl rfl
theorem rl1 {H0 H:Hp}{hs:JR}{l t:Addr}{d:mQ} (s:aX H0 H) (nl:H0 l=none) (nt:H0 t=none) (h:H l=some (.lst [.ref t])) (o:H t=some (.tup (dV d))) (k:okR hs d):RL H0 H hs l 1:=⟨s,nl,_,h,Nat.le_refl _,fun v hv=>by
 rw [List.mem_singleton.mp hv];exact .inr ⟨t,d,rfl,nt,o,k⟩⟩
theorem rl2 {H0 H:Hp}{hs:JR}{l t u:Addr}{d e:mQ} (s:aX H0 H) (nl:H0 l=none) (nt:H0 t=none) (nu:H0 u=none) (h:H l=some (.lst [.ref t,.ref u])) (o:H t=some (.tup (dV d))) (k:okR hs d) (o':H u=some (.tup (dV e))) (k':okR hs e):RL H0 H hs l 2:=⟨s,nl,_,h,Nat.le_refl _,fun v hv=>by
 rcases List.mem_cons.mp hv with rfl | hv
 ·exact .inr ⟨t,d,rfl,nt,o,k⟩
 ·rw [List.mem_singleton.mp hv];exact .inr ⟨u,e,rfl,nu,o',k'⟩⟩
theorem rl3 {H0 H:Hp}{hs:JR}{l t u w:Addr}{d e f:mQ} (s:aX H0 H) (nl:H0 l=none) (nt:H0 t=none) (nu:H0 u=none) (nw:H0 w=none) (h:H l=some (.lst [.ref t,.ref u,.ref w])) (o:H t=some (.tup (dV d))) (k:okR hs d) (o':H u=some (.tup (dV e))) (k':okR hs e) (o2:H w=some (.tup (dV f))) (k2:okR hs f):RL H0 H hs l 3:=⟨s,nl,_,h,Nat.le_refl _,fun v hv=>by
 rcases List.mem_cons.mp hv with rfl | hv
 ·exact .inr ⟨t,d,rfl,nt,o,k⟩
 ·rcases List.mem_cons.mp hv with rfl | hv
  ·exact .inr ⟨u,e,rfl,nu,o',k'⟩
  ·rw [List.mem_singleton.mp hv];exact .inr ⟨w,f,rfl,nw,o2,k2⟩⟩
def pA (K:aC):Sp:=fun vs H Q E=>∃ a k,vs=[.ref a,.int k]∧∃ ns:List Int,dz K H a (ns.map V.int)∧0≤k∧∀ z:Int,Q (.int z) H
def iI:Sp:=fun vs H Q E=>∃ c p m,vs=[.int c,.int p,.int m]∧0 < p∧p < 2 ^ 32∧0 < m∧∀ z:Int,0≤z→z < m→Q (.int z) H
def pq:Sp:=fun vs H Q E=>∃ c w,vs=[.int c,.int w]∧0≤w∧w≤1000∧∀ z:Str,Q (.str z) H
def Kf (K:aC):Sp:=fun vs H Q E=>∃ a,vs=[.ref a]∧∃ ns:List Int,dz K H a (ns.map V.int)∧∀ l hs H',aX H H'→H l=none→HsO H' l hs→HsB hs→Q (.ref l) H'
def Vt (K:aC):Sp:=fun vs H Q E=>∃ a,vs=[.ref a]∧∃ ns:List Int,dz K H a (ns.map V.int)∧∀ z:Int,Q (.int z) H
def Kd:Sp:=fun vs H Q E=>∃ c h s,vs=[.int c,.int h,.int s]∧∃ (hn sn:Nat),h=(hn:Int)∧s=(sn:Int)∧∀ t many bulk H',aX H H'→H t=none→0≤many→many≤8→0≤bulk→H' t=some (.tup (dV (.make hn sn many bulk)))→Q (.ref t) H'
def Ke:Sp:=fun vs H Q E=>∃ c,vs=[.int c]∧∀ z:Int,Q (.int z) H
variable {K:aC}{X:Cs}{rf:Rf→Addr}{H:Hp}{Q:VK}{E:XK}{n:St→Hp→Prop}{bk ct:St→Hp→Prop}
section
theorem Vp {a:Addr}{k:Int} (q:∃ ns:List Int,dz K H a (ns.map V.int)∧0≤k∧∀ z:Int,Q (.int z) H):xr K ⟨n,Q,bk,ct⟩ [some (.ref a),some (.int k)] H:=by
 obtain ⟨ns,hS,h0,h⟩:=q;unfold xr;walk_at "ev";refine mO hS ?_;walk_at "ev";refine vB (fun h1=>?_) (fun h1=>?_)
 ·walk_at "ev";rw [bD] at h1;have hk:k.toNat < ns.length:=by omega
  exact j6 hS (o9 h0 (by rw [cP,bW hk]<;>rfl)) (h _)
 ·walk_at "ev";exact h _
theorem Vn {c p m:Int} (q:0 < p∧p < 2 ^ 32∧0 < m∧∀ z:Int,0≤z→z < m→Q (.int z) H):xm ⟨n,Q,bk,ct⟩ [some (.int c),some (.int p),some (.int m)] H:=by
 obtain ⟨p0,p1,m0,q⟩:=q;have h1:=Int.emod_nonneg c (show p≠0 by omega);have h2:=Int.emod_lt_of_pos c p0;unfold xm;walk_at "ev";exact q _ (Int.emod_nonneg _ (by omega)) (Int.emod_lt_of_pos _ m0)
theorem Vg {c w:Int} (q:0≤w∧w≤1000∧∀ z:Str,Q (.str z) H):wW ⟨n,Q,bk,ct⟩ [some (.int c),some (.int w),none,none,none,none,none] H:=by
 obtain ⟨w0,w1,q⟩:=q;have c1:=Int.emod_nonneg c (show (12:Int)≠0 by decide);have c2:=Int.emod_lt_of_pos c (show (0:Int) < 12 by decide);obtain ⟨sz,es⟩:=toN (x:=1 + c % 12) (by omega);have hs:1≤sz∧sz≤12:=by omega
 have a0:=Int.emod_nonneg (c / 12) (show (1 + c % 12)≠0 by omega);have a1:=Int.emod_lt_of_pos (c / 12) (show 0 < 1 + c % 12 by omega);unfold wW;walk_at "ev";have d1:=Int.emod_nonneg (c / 5) (show (26:Int)≠0 by decide);have d2:=Int.emod_lt_of_pos (c / 5) (show (0:Int) < 26 by decide);refine Zh3 (by decide) d1 (by show c / 5 % 26 < 26;exact d2) fun ch=>?_;walk_at "ev";have e1:=Int.emod_nonneg (c / 7 + 5 * w) (show (26:Int)≠0 by decide);have e2:=Int.emod_lt_of_pos (c / 7 + 5 * w) (show (0:Int) < 26 by decide);refine Zh3 (by decide) e1 (by show (c / 7 + 5 * w) % 26 < 26;exact e2) fun ch2=>?_;walk_at "ev";refine Zh1 a0 (by omega) (by rw [QK];decide) fun t1 l1 et1=>?_;have lt1:t1.length≤12:=by rw [et1,K5,QK];omega
 walk_at "ev";refine Zh5 (by rw [QK];exact aW (by omega)) ?_;walk_at "ev";refine Zh1 (by omega) (by omega) (by rw [QK];decide) fun t2 l2 et2=>?_;have lt2:t2.length≤12:=by rw [et2,K5,QK];omega
 walk_at "ev";refine Zh5 (by rw [Zpg,QK];exact aW (by omega)) ?_;exact q _
theorem Qa {a:Addr} (q:∃ ns:List Int,dz K H a (ns.map V.int)∧∀ l hs H',aX H H'→H l=none→HsO H' l hs→HsB hs→Q (.ref l) H'):uN K (pA K) iI pq ⟨n,Q,bk,ct⟩ [some (.ref a),none,none,none,none] H:=by
 obtain ⟨ns,hS,q⟩:=q;unfold uN;walk_at "ev";refine ⟨a,1,rfl,ns,hS,by decide,fun c=>?_⟩;walk_at "ev";refine ⟨by decide,fun l nl=>?_⟩;have s1:=aM nl (.lst []);have g1:upd H l (.lst []) l=some (.lst (([]:List Addr).map V.ref)):=aq;generalize upd H l (.lst [])=H1 at s1 g1 ⊢;walk_at "ev";refine ⟨_,_,_,rfl,by decide,by decide,by decide,fun z z0 z1=>?_⟩;walk_at "ev";refine ⟨_,rfl,by omega,by omega,?_⟩;refine forR (fun k σ Hx=>∃ (ts:List Addr) (hs:JR) (v3 v4:Option V),σ=[some (.ref a),some (.int c),some (.ref l),v3,v4]∧aX H Hx∧Hx l=some (.lst (ts.map V.ref))∧Al (fun (a:Addr) (m:Str×Int)=>Hx a=some (.tup [.str m.1,.int m.2])) ts hs∧hs.length=k∧∀ m∈hs,3≤m.2∧m.2≤9) ⟨[],[],_,_,rfl,s1,g1,.nil,rfl,fun m hm=>(nomatch hm)⟩ ?_ ?_
 ·rintro k σ Hx hk ⟨ts,hs,v3,v4,rfl,s2,g2,al,hl,hb⟩;have hk5:k < 5:=by omega
  have lts:=al.length;have fin:∀ {many:Int},3≤many→many≤9→∀ (nn:St→Hp→Prop) (rr:VK) (bb cc:St→Hp→Prop),(∀ σ H',(∃ (ts:List Addr) (hs:JR) (v3 v4:Option V),σ=[some (.ref a),some (.int c),some (.ref l),v3,v4]∧aX H H'∧H' l=some (.lst (ts.map V.ref))∧Al (fun (a:Addr) (m:Str×Int)=>H' a=some (.tup [.str m.1,.int m.2])) ts hs∧hs.length=k + 1∧∀ m∈hs,3≤m.2∧m.2≤9)→nn σ H')→
    yg (tBM K "list" Ae (ak 2) (aj (fG (aj (aV pq [] E0 (aj (ak 1) (aj (ak 3) aG))) (aj (ak 4) aG))) aG)) ⟨nn,rr,bb,cc⟩ [some (.ref a),some (.int c),some (.ref l),some (.int ((0:Int) + k)),some (.int many)] Hx:=by
   intro many m3 m9 nn rr bb cc hD;walk_at "ev";refine ⟨.inl ⟨rfl,_,dz.of g2⟩,?_⟩;walk_at "ev";refine ⟨_,_,rfl,by omega,by omega,fun wd=>?_⟩;walk_at "ev";refine ⟨aW (by simp),fun t nt=>?_⟩;have s3:=aM nt (.tup [.str wd,.int many]);have g3:upd Hx t (.tup [.str wd,.int many]) t=some (.tup [.str wd,.int many]):=aq;have g4:=s3 _ _ g2;generalize upd Hx t (.tup [.str wd,.int many])=H3 at s3 g3 g4 ⊢;walk_at "ev";refine ⟨l,_,_,rfl,rfl,g4,?_,?_⟩
   ·rw [bD];exact Nat.lt_of_le_of_lt (show _≤1000 by omega) (by decide)
   rw [show ts.map V.ref ++ [V.ref t]=(ts ++ [t]).map V.ref from by rw [List.map_append];rfl];have kt:∀ b xs,H3 b=some (.tup xs)→upd H3 l (.lst ((ts ++ [t]).map V.ref)) b=some (.tup xs):=fun b xs hb=>by
    rw [aB (pI hb g4 (fun z=>by cases z))];exact hb
   walk_at "ev";refine hD _ _ ⟨ts ++ [t],hs ++ [(wd,many)],_,_,rfl,fun b o hb=>by rw [aB (aD hb nl)];exact s3 _ _ (s2 _ _ hb),aq,?_,by rw [List.length_append,hl];rfl,fun m hm=>?_⟩
   ·refine Zi4 (by rw [List.length_append,List.length_append,lts];rfl) fun i x y e1 e2=>?_
    by_cases hi:i < ts.length
    ·rw [List.getElem?_append_left hi] at e1;rw [List.getElem?_append_left (by omega)] at e2;obtain ⟨x',e3,z⟩:=al.get e2;rw [e1] at e3;cases e3;exact kt _ _ (s3 _ _ z)
    ·have h1:=(dN e1).1;rw [List.length_append,List.length_singleton] at h1;rw [List.getElem?_append_right (by omega)] at e1 e2;rw [show i - ts.length=0 by omega] at e1;rw [show i - hs.length=0 by omega] at e2;cases e1;cases e2;exact kt _ _ g3
   ·rcases List.mem_append.mp hm with hm | hm
    ·exact hb m hm
    ·rw [List.mem_singleton.mp hm];exact ⟨m3,m9⟩
  walk_at "ev";refine vB (fun _=>?_) (fun _=>?_)
  ·walk_at "ev";refine ⟨_,_,_,rfl,by decide,by decide,by decide,fun y y0 y1=>?_⟩;refine Zqi ?_;refine Zko ?_;exact fin (many:=3 + y) (by omega) (by omega) _ _ _ _ fun σ H' h=>h
  ·refine xV ?_;exact fin (many:=3) (by omega) (by omega) _ _ _ _ fun σ H' h=>h
 ·rintro σ Hx ⟨ts,hs,v3,v4,rfl,s2,g2,al,hl,hb⟩;walk_at "ev";exact q l hs Hx s2 nl ⟨ts,g2,al⟩ ⟨by omega,by omega,hb⟩
theorem Vj {a:Addr} (q:∃ ns:List Int,dz K H a (ns.map V.int)∧∀ z:Int,Q (.int z) H):wZ (pA K) iI ⟨n,Q,bk,ct⟩ [some (.ref a),none] H:=by
 obtain ⟨ns,hS,q⟩:=q;unfold wZ;walk_at "ev";refine ⟨a,2,rfl,ns,hS,by decide,fun c=>?_⟩;walk_at "ev";refine ⟨_,_,_,rfl,by decide,by decide,by decide,fun z z0 z1=>?_⟩;walk_at "ev";refine vB (fun _=>?_) (fun _=>?_)
 ·walk_at "ev";exact q _
 ·walk_at "ev";exact q _
theorem Zpt {z:Int} (h0:0≤z) (h1:z < 6):∃ m:Int,Yi [V.int 1,.int 2,.int 2,.int 3,.int 0,.int 8] z=some (.int m)∧0≤m∧m≤8:=by
 have:z=0∨z=1∨z=2∨z=3∨z=4∨z=5:=by omega
 rcases this with rfl | rfl | rfl | rfl | rfl | rfl
 ·exact ⟨1,rfl,by decide,by decide⟩
 ·exact ⟨2,rfl,by decide,by decide⟩
 ·exact ⟨2,rfl,by decide,by decide⟩
 ·exact ⟨3,rfl,by decide,by decide⟩
 ·exact ⟨0,rfl,by decide,by decide⟩
 ·exact ⟨8,rfl,by decide,by decide⟩
theorem Vk {c h s:Int} (q:∃ (hn sn:Nat),h=(hn:Int)∧s=(sn:Int)∧∀ t many bulk H',aX H H'→H t=none→0≤many→many≤8→0≤bulk→H' t=some (.tup (dV (.make hn sn many bulk)))→Q (.ref t) H'):
  w6 K iI ⟨n,Q,bk,ct⟩ [some (.int c),some (.int h),some (.int s),none,none] H:=by
 obtain ⟨hn,sn,rfl,rfl,q⟩:=q;have b1:=Int.emod_nonneg c (show (7:Int)≠0 by decide);have b2:(0:Int) < 10 ^ Int.toNat 12 + 1:=by decide
 have b3:=Int.emod_nonneg c (show (10:Int) ^ Int.toNat 12 + 1≠0 by decide);unfold w6;walk_at "ev";refine ⟨aW (by simp),fun l nl=>?_⟩;have s1:=aM nl (.lst [.int 1,.int 2,.int 2,.int 3,.int 0,.int 8]);have g1:upd H l (.lst [.int 1,.int 2,.int 2,.int 3,.int 0,.int 8]) l=some (.lst [.int 1,.int 2,.int 2,.int 3,.int 0,.int 8]):=aq;generalize upd H l (.lst [.int 1,.int 2,.int 2,.int 3,.int 0,.int 8])=H1 at s1 g1 ⊢;walk_at "ev";refine ⟨_,_,_,rfl,by decide,by decide,by decide,fun z z0 z1=>?_⟩;obtain ⟨m,em,m0,m8⟩:=Zpt z0 z1;walk_at "ev";refine j6 (dz.of g1) em ?_;have fin:∀ {b:Int},0≤b→∀ {v:Option V},(bM (fG (aj (tC (.str "make")) (aj (ak 1) (aj (ak 2) (aj (ak 3) (aj (ak 4) aG))))))) ⟨n,Q,bk,ct⟩ [some (.int c),some (.int hn),some (.int sn),some (.int m),some (.int b)] H1:=by
  intro b hb v;walk_at "ev";refine ⟨aW (by simp),fun t nt=>?_⟩;exact q t m b _ (s1.trans (aM nt _)) (s1.free nt) m0 m8 hb aq
 walk_at "ev";refine vB (fun y=>?_) (fun y=>?_)
 ·walk_at "ev";refine vB (fun x=>absurd (y.symm.trans x) (by decide)) (fun x=>?_);refine xV ?_;exact fin b1 (v:=none)
 ·walk_at "ev";refine vB (fun x=>?_) (fun x=>?_)
  ·walk_at "es";exact ⟨aW (by simp),fun t nt=>q t m _ _ (s1.trans (aM nt _)) (s1.free nt) m0 m8 b3 aq⟩
  ·refine xV ?_;exact fin (Int.le_refl _) (v:=none)
theorem Vl {c:Int} (q:∀ z:Int,Q (.int z) H):xg ⟨n,Q,bk,ct⟩ [some (.int c),none] H:=by
 have b2:(0:Int) < 10 ^ Int.toNat 60:=by decide
 unfold xg;walk_at "ev";refine vB (fun _=>?_) (fun _=>?_)
 ·walk_at "ev";exact q _
 ·walk_at "ev";exact q _
end
def Kh (K:aC):Sp:=fun vs H Q E=>∃ c l sd,vs=[.int c,.ref l,.int sd]∧∃ hs,HsO H l hs∧HsB hs∧∀ t d H',aX H H'→H t=none→H' t=some (.tup (dV d))→okR hs d→Q (.ref t) H'
def z9 (K:aC):Sp:=fun vs H Q E=>∃ c l sd,vs=[.int c,.ref l,.int sd]∧∃ hs,HsO H l hs∧HsB hs∧∀ r H',aX H H'→H r=none→RL H H' hs r 2→Q (.ref r) H'
def Fb (K:aC):Sp:=fun vs H Q E=>∃ l c sd,vs=[.ref l,.int c,.int sd]∧∃ hs,HsO H l hs∧HsB hs∧∀ r H',aX H H'→RL H H' hs r 200→Q (.ref r) H'
def Ka (K:aC):Sp:=fun vs H Q E=>∃ a l,vs=[.ref a,.ref l]∧∃ ns:List Int,∃ hs,dz K H a (ns.map V.int)∧ns.length≤63∧HsO H l hs∧HsB hs∧∀ r H',aX H H'→RL H H' hs r 700→Q (.ref r) H'
section
theorem f38 {x:Int} (h0:0≤x) (h1:x < 2):∃ m:Int,Yi [V.int 3,.int 8] x=some (.int m)∧0 < m:=by
 have:x=0∨x=1:=by omega
 rcases this with rfl | rfl
 ·exact ⟨3,rfl,by decide⟩
 ·exact ⟨8,rfl,by decide⟩
theorem Vo {c sd:Int}{l:Addr} (q:∃ hs,HsO H l hs∧HsB hs∧∀ t d H',aX H H'→H t=none→H' t=some (.tup (dV d))→okR hs d→Q (.ref t) H'):
  xq K iI Ke Kd pq ⟨n,Q,bk,ct⟩ [some (.int c),some (.ref l),some (.int sd),none,none,none,none,none,none,none] H:=by
 obtain ⟨hs,ho,hb,q⟩:=q;have n1:=hb.n1;have Zk4:∀ {H':Hp}{ts:List Addr},HsO H' l hs→H' l=some (.lst (ts.map V.ref))→ts.length=hs.length:=fun {H' ts} h e=>by
  obtain ⟨ts',h1,h2⟩:=h;rw [h1] at e;have:=congrArg (fun o=>match o with | some (HO.lst xs)=>xs.length | _=>0) e;simp only [bD] at this;rw [← this];exact h2.length
 obtain ⟨ts,ol,al⟩:=id ho;have lts:=al.length;unfold xq;walk_at "ev";refine mO (dz.of ol) ?_;rw [bD,lts];walk_at "ev";refine ⟨_,_,_,rfl,by decide,by decide,by omega,fun zh h0 h1=>?_⟩;obtain ⟨h,rfl⟩:=toN h0;have hh:h < hs.length:=by omega
 obtain ⟨m,hm⟩:∃ m,hs[h]? =some m:=⟨_,bW hh⟩;have mb:=hb.sb m (List.mem_of_getElem? hm);obtain ⟨tt,ett,ott⟩:=al.get hm;have hix:Yi (ts.map V.ref) (h:Int)=some (.ref tt):=jL (by rw [cP,ett];rfl);walk_at "ev";refine j6 (dz.of ol) hix ?_;refine ⟨tt,_,1,_,rfl,rfl,iQ.of ott,rfl,?_⟩;walk_at "ev";refine ⟨_,_,_,rfl,by decide,by decide,by omega,fun zs s0 s1=>?_⟩;obtain ⟨s,rfl⟩:=toN s0;walk_at "ev";refine j6 (dz.of ol) hix ?_;refine ⟨tt,_,1,_,rfl,rfl,iQ.of ott,rfl,?_⟩;walk_at "ev";refine ⟨_,_,_,rfl,by decide,by decide,by omega,fun zt t0 t1=>?_⟩;obtain ⟨t,rfl⟩:=toN t0;walk_at "ev";refine ⟨aW (by simp),fun l2 nl2=>?_⟩;have s2:=aM nl2 (.lst [.int 3,.int 8]);have g2:upd H l2 (.lst [.int 3,.int 8]) l2=some (.lst [.int 3,.int 8]):=aq;generalize upd H l2 (.lst [.int 3,.int 8])=H2 at s2 g2 ⊢;walk_at "ev";obtain ⟨mf,emf,mf0⟩:=f38 (x:=c % 5 / 4) (by omega) (by omega);refine j6 (dz.of g2) emf ?_;walk_at "ev";refine ⟨_,_,_,rfl,by decide,by decide,mf0,fun zf f0 _=>?_⟩;obtain ⟨f,rfl⟩:=toN f0;walk_at "ev";refine ⟨_,_,_,rfl,by decide,by decide,by decide,fun w w0 w1=>?_⟩;have os:Lw hs h s:=⟨m,hm,s1⟩;have ot:Lw hs h t:=⟨m,hm,t1⟩;have tup:∀ (d:mQ),okR hs d→∀ tp,H2 tp=none→Q (.ref tp) (upd H2 tp (.tup (dV d))):=fun d ok tp Nt=>q tp d _ (s2.trans (aM Nt _)) (s2.free Nt) aq ok;walk_at "ev";refine vB (fun _=>?_) (fun w5=>?_)
 ·walk_at "ev";exact ⟨_,_,_,rfl,h,s,rfl,rfl,fun tp many bulk H' sm Nt m0 m8 b0 o=>q tp _ H' (s2.trans sm) (s2.free Nt) o ⟨os,m0,m8,b0⟩⟩
 walk_at "ev";refine vB (fun _=>?_) (fun w8=>?_)
 ·walk_at "ev";exact ⟨aW (by simp),fun tp Nt=>tup (.get h s t f) ⟨os,ot⟩ tp Nt⟩
 walk_at "ev";refine vB (fun _=>?_) (fun w11=>?_)
 ·walk_at "ev";exact ⟨aW (by simp),fun tp Nt=>tup (.put h t f s) ⟨ot,os⟩ tp Nt⟩
 walk_at "ev";refine vB (fun _=>?_) (fun Zyd=>?_)
 ·walk_at "ev";exact ⟨aW (by simp),fun tp Nt=>tup (.copy h s t) ⟨os,ot⟩ tp Nt⟩
 walk_at "ev";refine vB (fun _=>?_) (fun w12=>?_)
 ·walk_at "ev";exact ⟨aW (by simp),fun tp Nt=>tup (.drop h s) os tp Nt⟩
 walk_at "ev";refine vB (fun _=>?_) (fun w15=>?_)
 ·have ol2:=s2 _ _ ol;walk_at "ev";refine mO (dz.of ol2) ?_;rw [bD,lts];walk_at "ev";refine ⟨_,_,_,rfl,by decide,by decide,by omega,fun zg g0 g1=>?_⟩;obtain ⟨g,rfl⟩:=toN g0;have hg:g < hs.length:=by omega
  obtain ⟨mg,hmg⟩:∃ m,hs[g]? =some m:=⟨_,bW hg⟩;have mgb:=hb.sb mg (List.mem_of_getElem? hmg);obtain ⟨tg,etg,otg⟩:=al.get hmg;walk_at "ev";refine j6 (dz.of ol2) (jL (v:=.ref tg) (by rw [cP,etg];rfl)) ?_;refine ⟨tg,_,1,_,rfl,rfl,iQ.of (s2 _ _ otg),rfl,?_⟩;walk_at "ev";refine ⟨_,_,_,rfl,by decide,by decide,by omega,fun zu u0 u1=>?_⟩;obtain ⟨u,rfl⟩:=toN u0;walk_at "ev";exact ⟨aW (by simp),fun tp Nt=>tup (.give h s g u) ⟨os,mg,hmg,u1⟩ tp Nt⟩
 walk_at "ev";refine vB (fun _=>?_) (fun Zyc=>?_)
 ·walk_at "ev";refine ⟨_,rfl,fun ld=>?_⟩;walk_at "ev";exact ⟨aW (by simp),fun tp Nt=>tup (.write h t ld) ot tp Nt⟩
 walk_at "ev";refine ⟨_,_,_,rfl,by decide,by decide,by decide,fun zw a0 a1=>?_⟩;walk_at "ev";refine ⟨_,_,rfl,a0,by omega,fun wd=>?_⟩;walk_at "ev";refine vB (fun _=>?_) (fun w18=>?_)
 ·walk_at "ev";exact ⟨aW (by simp),fun tp Nt=>tup (.name h t wd) ot tp Nt⟩
 walk_at "ev";exact ⟨aW (by simp),fun tp Nt=>tup (.seek h s wd) os tp Nt⟩
def dW:mQ→Str
 | .make .. =>"make"
 | .get .. =>"get"
 | .put .. =>"put"
 | .copy .. =>"copy"
 | .drop .. =>"drop"
 | .give .. =>"give"
 | .write .. =>"write"
 | .read .. =>"read"
 | .name .. =>"name"
 | .seek .. =>"seek"
theorem dV0 (d:mQ):∃ r,dV d=.str (dW d) :: r:=by cases d<;>exact ⟨_,rfl⟩
theorem Zor {d:mQ} (h:dW d="put"):∃ h t f s,d=.put h t f s:=by
 cases d<;>first | exact ⟨_,_,_,_,rfl⟩ | exact absurd h (by simp only [dW];decide)
theorem Zos {d:mQ} (h:dW d="get"):∃ h s t f,d=.get h s t f:=by
 cases d<;>first | exact ⟨_,_,_,_,rfl⟩ | exact absurd h (by simp only [dW];decide)
theorem Qc {c sd:Int}{l:Addr} (q:∃ hs,HsO H l hs∧HsB hs∧∀ r H',aX H H'→H r=none→RL H H' hs r 2→Q (.ref r) H'):
  uO K (Kh K) iI ⟨n,Q,bk,ct⟩ [some (.int c),some (.ref l),some (.int sd),none] H:=by
 obtain ⟨hs,ho,hb,q⟩:=q;unfold uO;walk_at "ev";refine ⟨_,_,_,rfl,hs,ho,hb,fun t d H1 s1 nt ot ok=>?_⟩;obtain ⟨r0,e0⟩:=dV0 d;have ix0:Yi (dV d) 0=some (.str (dW d)):=by rw [e0];exact jL (j:=0) rfl
 have one:bM (gK (aj (ak 3) aG)) ⟨n,Q,bk,ct⟩ [some (.int c),some (.ref l),some (.int sd),some (.ref t)] H1:=by
  walk_at "ev";refine ⟨aW (by simp),fun r nr=>?_⟩;have s2:=aM nr (.lst [.ref t]);exact q r _ (s1.trans s2) (s1.free nr) ((rl1 (d:=d) (s1.trans s2) (s1.free nr) nt aq (s2 _ _ ot) ok).mono (by decide))
 have gets:(aN (fM ((V2 (cL (bH (Av) (bH (fH K) (ak 3) (tC (.int 0))) (tC (.str "get")))) (cL (bH (Av) (bH (rI (fun _ j=>0 < j) fun i j=>.int (i % j)) (bH (rI Ql fun i j=>.int (i / j)) (ak 0) (tC (.int 5))) (tC (.int 2))) (tC (.int 0)))))) (bM (gK (aj (ak 3) (aj (fG (aj (tC (.str "put")) (aj (bH (fH K) (ak 3) (tC (.int 1))) (aj (bH (fH K) (ak 3) (tC (.int 3))) (aj (bH (fH K) (ak 3) (tC (.int 4))) (aj (aV iI [] E0 (aj (ak 0) (aj (tC (.int 1159523)) (aj (tC (.int 3)) aG)))) aG)))))) aG)))) cT)
   (bM (gK (aj (ak 3) aG)))) ⟨n,Q,bk,ct⟩ [some (.int c),some (.ref l),some (.int sd),some (.ref t)] H1:=by
  walk_at "ev";refine ⟨t,_,0,_,rfl,rfl,iQ.of ot,ix0,?_⟩;walk_at "ev";refine vB (fun hp=>?_) (fun _=>?_)
  ·obtain ⟨h,s,tt,f,rfl⟩:=Zos hp;obtain ⟨o1,o2⟩:=ok;walk_at "ev";refine vB (fun _=>?_) (fun _=>?_)
   ·walk_at "ev";refine ⟨t,_,1,_,rfl,rfl,iQ.of ot,rfl,?_⟩;walk_at "ev";refine ⟨t,_,3,_,rfl,rfl,iQ.of ot,rfl,?_⟩;walk_at "ev";refine ⟨t,_,4,_,rfl,rfl,iQ.of ot,rfl,?_⟩;walk_at "ev";refine ⟨_,_,_,rfl,by decide,by decide,by decide,fun z z0 z1=>?_⟩;obtain ⟨sl,rfl⟩:=toN z0;walk_at "ev";refine ⟨aW (by simp),fun u nu=>⟨aW (by simp),fun r nr=>?_⟩⟩;have s2:=aM nu (.tup (dV (.put h tt f sl)));have s3:=aM nr (.lst [.ref t,.ref u]);have hh:h < hs.length:=by obtain ⟨m,hm,_⟩:=o1;exact (dN hm).1
    exact q r _ (s1.trans (s2.trans s3)) (s1.free (s2.free nr)) (rl2 (d:=.get h s tt f) (e:=.put h tt f sl) (s1.trans (s2.trans s3)) (s1.free (s2.free nr)) nt (s1.free nu) aq (s3 _ _ (s2 _ _ ot)) ⟨o1,o2⟩ (s3 _ _ aq) ⟨o2,hb.ok hh (by omega)⟩)
   ·exact one
  ·exact one
 walk_at "ev";refine ⟨t,_,0,_,rfl,rfl,iQ.of ot,ix0,?_⟩;walk_at "ev";refine vB (fun hp=>?_) (fun _=>?_)
 ·obtain ⟨h,tt,f,s,rfl⟩:=Zor hp;obtain ⟨o1,o2⟩:=ok;walk_at "ev";refine vB (fun _=>?_) (fun _=>?_)
  ·walk_at "ev";refine ⟨t,_,1,_,rfl,rfl,iQ.of ot,rfl,?_⟩;walk_at "ev";refine ⟨t,_,4,_,rfl,rfl,iQ.of ot,rfl,?_⟩;walk_at "ev";refine ⟨aW (by simp),fun u nu=>⟨aW (by simp),fun r nr=>?_⟩⟩;have s2:=aM nu (.tup (dV (.drop h s)));have s3:=aM nr (.lst [.ref t,.ref u]);exact q r _ (s1.trans (s2.trans s3)) (s1.free (s2.free nr)) (rl2 (d:=.put h tt f s) (e:=.drop h s) (s1.trans (s2.trans s3)) (s1.free (s2.free nr)) nt (s1.free nu) aq (s3 _ _ (s2 _ _ ot)) ⟨o1,o2⟩ (s3 _ _ aq) o2)
  ·exact gets
 ·exact gets
end
section
def Zeb (σ:St) (ta:TE) (d:mQ):Prop:=∀ (H1:Hp) (Q':VK),(∀ t H2,aX H1 H2→H1 t=none→H2 t=some (.tup (dV d))→Q' (.ref t) H2)→ta σ H1 Q'
theorem RG {σ:St}{ta:TE}{d:mQ} (h:∀ (H1:Hp) (Q':VK),(∀ t,H1 t=none→Q' (.ref t) (upd H1 t (.tup (dV d))))→ta σ H1 Q'):Zeb σ ta d:=fun H1 Q' k=>h H1 Q' fun t nt=>k t _ (aM nt _) nt aq
theorem Yl {H0:Hp}{hs:JR}{d e:mQ}{ta tb:TE}{σ:St} (s0:aX H0 H) (ha:Zeb σ ta d) (hb:Zeb σ tb e) (kd:okR hs d) (ke:okR hs e) (k:∀ l H',aX H H'→RL H0 H' hs l 2→Q (.ref l) H'):gK (aj ta (aj tb aG)) σ H Q:=by
 walk_at "es";refine ha H _ fun t H1 s1 nt ot=>?_;walk_at "es";refine hb H1 _ fun u H2 s2 nu ou=>?_;walk_at "es";refine ⟨aW (by simp),fun l nl=>?_⟩;have s3:=aM nl (.lst [.ref t,.ref u]);have s03:=s0.trans (s1.trans (s2.trans s3));exact k l _ (s1.trans (s2.trans s3)) (rl2 s03 (s0.free (s1.free (s2.free nl))) (s0.free nt) (s0.free (s1.free nu)) aq (s3 _ _ (s2 _ _ ot)) kd (s3 _ _ ou) ke)
theorem Zek {H0:Hp}{hs:JR}{d e f:mQ}{ta tb tc:TE}{σ:St} (s0:aX H0 H) (ha:Zeb σ ta d) (hb:Zeb σ tb e) (hc:Zeb σ tc f) (kd:okR hs d) (ke:okR hs e) (kf:okR hs f) (k:∀ l H',aX H H'→RL H0 H' hs l 3→Q (.ref l) H'):gK (aj ta (aj tb (aj tc aG))) σ H Q:=by
 walk_at "es";refine ha H _ fun t H1 s1 nt ot=>?_;walk_at "es";refine hb H1 _ fun u H2 s2 nu ou=>?_;walk_at "es";refine hc H2 _ fun w H3 s3 nw ow=>?_;walk_at "es";refine ⟨aW (by simp),fun l nl=>?_⟩;have s4:=aM nl (.lst [.ref t,.ref u,.ref w]);have s04:=s0.trans (s1.trans (s2.trans (s3.trans s4)));exact k l _ (s1.trans (s2.trans (s3.trans s4))) (rl3 s04 (s0.free (s1.free (s2.free (s3.free nl)))) (s0.free nt) (s0.free (s1.free nu)) (s0.free (s1.free (s2.free nw))) aq (s4 _ _ (s3 _ _ (s2 _ _ ot))) kd (s4 _ _ (s3 _ _ ou)) ke (s4 _ _ ow) kf)
theorem PX {l:Addr}{c sd:Int} (q:∃ hs,HsO H l hs∧HsB hs∧∀ r H',aX H H'→RL H H' hs r 200→Q (.ref r) H'):
  uL K iI pq ⟨n,Q,bk,ct⟩ [some (.ref l),some (.int c),some (.int sd),none,none,none] H:=by
 obtain ⟨hs,ho,hb,q⟩:=q;obtain ⟨ts,ol,al⟩:=id ho;have lts:=al.length;have n5:=hb.n5;unfold uL;walk_at "ev";refine ⟨by decide,fun r0 nr0=>?_⟩;have s1:=aM nr0 (.lst []);have g1:RL H (upd H r0 (.lst [])) hs r0 0:=⟨s1,nr0,[],aq,Nat.le_refl _,fun v hv=>(nomatch hv)⟩;generalize upd H r0 (.lst [])=H1 at s1 g1 ⊢;walk_at "ev";refine mO (dz.of (s1 _ _ ol)) ?_;rw [bD,lts];walk_at "ev";refine ⟨_,rfl,by omega,by omega,?_⟩;refine forR (fun k σ Hx=>∃ r v4,σ=[some (.ref l),some (.int c),some (.int sd),some (.ref r),v4,none]∧aX H Hx∧RL H Hx hs r (4 * k)) ⟨r0,_,rfl,s1,g1⟩ ?_ ?_
 ·rintro k σ Hx hk ⟨r,v4,rfl,s2,rl⟩;have hk':k < hs.length:=by omega
  rw [Int.zero_add];obtain ⟨f,ef⟩:=toN (x:=(k:Int) % 2) (by omega);have o0:Lw hs k 0:=hb.ok hk' (by decide);have o1:Lw hs k 1:=hb.ok hk' (by decide);refine Zko ?_;refine Mv ?_;refine Mw ?_;refine Z4 ?_;refine Z3 ?_;refine Yl (H0:=H) s2 (d:=.make k 0 2 0) (e:=.make k 1 1 0) (RG fun H1 Q' h=>by walk_at "ev";exact ⟨aW (by simp),h⟩) (RG fun H1 Q' h=>by walk_at "ev";exact ⟨aW (by simp),h⟩) ⟨o0,by decide,by decide,by decide⟩ ⟨o1,by decide,by decide,by decide⟩ fun l2 H2 sm2 rl2=>?_;refine vp (rl.same sm2) rl2 (by omega) fun r3 H3 sm3 _ rl3=>?_;refine Xg ?_;refine Mw ?_;refine Z4 ?_;refine Z3 ?_;refine Yl (H0:=H) rl3.s (d:=.put k 0 f 1) (e:=.drop k 1) (RG fun H1 Q' h=>by walk_at "ev";rw [ef];exact ⟨aW (by simp),h⟩) (RG fun H1 Q' h=>by walk_at "ev";exact ⟨aW (by simp),h⟩) ⟨o0,o1⟩ o1 fun l4 H4 sm4 rl4=>?_;refine vp (rl3.same sm4) rl4 (by omega) fun r5 H5 sm5 _ Oo=>?_;refine Xg ?_;exact ⟨r5,_,rfl,s2.trans (sm2.trans (sm3.trans (sm4.trans sm5))),Oo.mono (by omega)⟩
 ·rintro σ Hx ⟨r,v4,rfl,s2,rl⟩;have rl:=rl.mono (N':=20) (by omega);walk_at "ev";refine ⟨_,_,_,rfl,by decide,by decide,by decide,fun w w0 w1=>?_⟩;have rest:∀ {r1:Addr}{H3:Hp}{v4:Option V},aX H H3→RL H H3 hs r1 30→(aN (bC (bH (vK) (ak 3) (bH (Wj) (gK (aj (tC .non) aG)) (bH (mX fun i j=>.int (i + j)) (tC (.int 1)) (aV iI [] E0 (aj (ak 1) (aj (tC (.int 882377)) (aj (tC (.int 4)) aG))))))) (aL 3))
   (nH K pq)) ⟨n,Q,bk,ct⟩ [some (.ref l),some (.int c),some (.int sd),some (.ref r1),v4,some (.int w)] H3:=by
   intro r1 H3 v4 s3 rl1;walk_at "ev";refine ⟨by decide,fun l0 nl0=>?_⟩;have s4:=aM nl0 (.lst [V.non]);have g4:upd H3 l0 (.lst [V.non]) l0=some (.lst [V.non]):=aq;have rl4:=rl1.same s4;generalize upd H3 l0 (.lst [V.non])=H4 at s4 g4 rl4 ⊢;walk_at "ev";refine ⟨_,_,_,rfl,by decide,by decide,by decide,fun z z0 z1=>?_⟩;walk_at "ev";refine LC (H0:=H) (hs:=hs) rl4.s g4 (by omega) (by omega) fun l5 H5 s5 _ Oo=>?_;refine vp (rl4.same s5) (Oo.mono (N':=4) (by omega)) (by decide) fun r6 H6 s6 _ rl6=>?_;have s06:=s3.trans (s4.trans (s5.trans s6));refine Xg ?_;unfold nH;walk_at "ev";refine mO (dz.of (s06 _ _ ol)) ?_;rw [bD,lts];walk_at "ev";refine ⟨_,rfl,by omega,by omega,?_⟩;refine forR (fun k σ Hx=>∃ r v4,σ=[some (.ref l),some (.int c),some (.int sd),some (.ref r),v4,some (.int w)]∧aX H Hx∧RL H Hx hs r (34 + 7 * k)) ⟨r6,_,rfl,s06,rl6⟩ ?_ ?_
   ·rintro k σ Hx hk ⟨r,v4,rfl,s2,rl⟩;have hk':k < hs.length:=by omega
    rw [Int.zero_add];obtain ⟨f,ef⟩:=toN (x:=(k:Int) % 2) (by omega);have o0:Lw hs k 0:=hb.ok hk' (by decide);have o1:Lw hs k 1:=hb.ok hk' (by decide);have o2:Lw hs k 2:=hb.ok hk' (by decide);refine Zko ?_;refine Mv ?_;have third:∀ {r1:Addr}{H3:Hp},aX H H3→RL H H3 hs r1 (34 + 7 * k + 5)→(fM (cL (bH (Av) (ak 5) (tC (.int 3)))) (bC (bH (vK) (ak 3) (gK (aj (fG (aj (tC (.str "name")) (aj (ak 4) (aj (tC (.int 0)) (aj (aV pq [] E0 (aj (ak 2) (aj (bH (rI (fun _ j=>0 < j) fun i j=>.int (i % j)) (ak 4) (tC (.int 2))) aG))) aG))))) (aj (fG (aj (tC (.str "drop")) (aj (ak 4) (aj (tC (.int 0)) aG)))) aG)))) (aL 3)) cT) ⟨fun σ Hx=>∃ r v4,σ=[some (.ref l),some (.int c),some (.int sd),some (.ref r),v4,some (.int w)]∧aX H Hx∧RL H Hx hs r (34 + 7 * (k + 1)),Q,bM (ak 3) ⟨n,Q,bk,ct⟩,fun σ Hx=>∃ r v4,σ=[some (.ref l),some (.int c),some (.int sd),some (.ref r),v4,some (.int w)]∧aX H Hx∧RL H Hx hs r (34 + 7 * (k + 1))⟩ [some (.ref l),some (.int c),some (.int sd),some (.ref r1),some (.int k),some (.int w)] H3:=by
     intro r1 H3 s3 rl3;walk_at "ev";refine vB (fun _=>?_) (fun _=>?_)
     ·refine Mw ?_;refine Z4 ?_;refine Z3 ?_;walk_at "es";refine ⟨_,_,rfl,by omega,by omega,fun wd=>?_⟩;walk_at "es";refine ⟨aW (by simp),fun t nt=>?_⟩;have s4:=aM nt (.tup (dV (.name k 0 wd)));have g4:upd H3 t (.tup (dV (.name k 0 wd))) t=some (.tup (dV (.name k 0 wd))):=aq;show aj _ _ _ (upd H3 t (.tup (dV (.name k 0 wd)))) _;generalize upd H3 t (.tup (dV (.name k 0 wd)))=H4 at s4 g4 ⊢;walk_at "es";refine ⟨aW (by simp),fun u nu=>⟨aW (by simp),fun l2 nl2=>?_⟩⟩;have s5:=aM nu (.tup (dV (.drop k 0)));have g5:upd H4 u (.tup (dV (.drop k 0))) u=some (.tup (dV (.drop k 0))):=aq;show vK _ _ (upd (upd H4 u (.tup (dV (.drop k 0)))) l2 _) _;have nl2:upd H4 u (.tup (dV (.drop k 0))) l2=none:=nl2;generalize upd H4 u (.tup (dV (.drop k 0)))=H5 at s5 g5 nl2 ⊢;have s6:=aM nl2 (.lst [.ref t,.ref u]);have r6:RL H (upd H5 l2 (.lst [.ref t,.ref u])) hs l2 2:=rl2 (d:=.name k 0 wd) (e:=.drop k 0) (s3.trans (s4.trans (s5.trans s6))) (s3.free (s4.free (s5.free nl2))) (s3.free nt) (s3.free (s4.free nu)) aq (s6 _ _ (s5 _ _ g4)) o0 (s6 _ _ g5) o0;have s36:=s4.trans (s5.trans s6);refine vp (rl3.same s36) r6 (by omega) fun r7 H7 s7 _ rl7=>?_;refine Xg ?_;exact ⟨r7,_,rfl,s3.trans (s36.trans s7),rl7.mono (by omega)⟩
     ·refine xV ?_;exact ⟨r1,_,rfl,s3,rl3.mono (by omega)⟩
    have second:∀ {r1:Addr}{H3:Hp},aX H H3→RL H H3 hs r1 (34 + 7 * k + 2)→(aN (fM (cL (bH (mX fun i j=>.bl (decide (j < i))) (ak 5) (tC (.int 1)))) (bC (bH (vK) (ak 3) (gK (aj (fG (aj (tC (.str "make")) (aj (ak 4) (aj (tC (.int 0)) (aj (tC (.int 1)) (aj (tC (.int 0)) aG)))))) (aj (fG (aj (tC (.str "put")) (aj (ak 4) (aj (tC (.int 0)) (aj (tC (.int 0)) (aj (tC (.int 1)) aG)))))) (aj (fG (aj (tC (.str "drop")) (aj (ak 4) (aj (tC (.int 1)) aG)))) aG))))) (aL 3)) cT)
     (fM (cL (bH (Av) (ak 5) (tC (.int 3)))) (bC (bH (vK) (ak 3) (gK (aj (fG (aj (tC (.str "name")) (aj (ak 4) (aj (tC (.int 0)) (aj (aV pq [] E0 (aj (ak 2) (aj (bH (rI (fun _ j=>0 < j) fun i j=>.int (i % j)) (ak 4) (tC (.int 2))) aG))) aG))))) (aj (fG (aj (tC (.str "drop")) (aj (ak 4) (aj (tC (.int 0)) aG)))) aG)))) (aL 3)) cT)) ⟨fun σ Hx=>∃ r v4,σ=[some (.ref l),some (.int c),some (.int sd),some (.ref r),v4,some (.int w)]∧aX H Hx∧RL H Hx hs r (34 + 7 * (k + 1)),Q,bM (ak 3) ⟨n,Q,bk,ct⟩,fun σ Hx=>∃ r v4,σ=[some (.ref l),some (.int c),some (.int sd),some (.ref r),v4,some (.int w)]∧aX H Hx∧RL H Hx hs r (34 + 7 * (k + 1))⟩ [some (.ref l),some (.int c),some (.int sd),some (.ref r1),some (.int k),some (.int w)] H3:=by
     intro r1 H3 s3 rl3;refine Mv ?_;walk_at "es";refine vB (fun _=>?_) (fun _=>?_)
     ·refine Mw ?_;refine Z4 ?_;refine Z3 ?_;refine Zek (H0:=H) s3 (d:=.make k 0 1 0) (e:=.put k 0 0 1) (f:=.drop k 1) (RG fun H1 Q' h=>by walk_at "ev";exact ⟨aW (by simp),h⟩) (RG fun H1 Q' h=>by walk_at "ev";exact ⟨aW (by simp),h⟩) (RG fun H1 Q' h=>by walk_at "ev";exact ⟨aW (by simp),h⟩) ⟨o0,by decide,by decide,by decide⟩ ⟨o0,o1⟩ o1 fun l4 H4 s4 rl4=>?_;refine vp (rl3.same s4) rl4 (by omega) fun r5 H5 s5 _ Oo=>?_;refine Xg ?_;exact third (s3.trans (s4.trans s5)) (Oo.mono (by omega))
     ·refine xV ?_;exact third s3 (rl3.mono (by omega))
    walk_at "es";refine vB (fun _=>?_) (fun _=>?_)
    ·refine Mw ?_;refine Z4 ?_;refine Z3 ?_;refine Yl (H0:=H) s2 (d:=.get k 1 0 f) (e:=.put k 0 f 2) (RG fun H1 Q' h=>by walk_at "ev";rw [ef];exact ⟨aW (by simp),h⟩) (RG fun H1 Q' h=>by walk_at "ev";rw [ef];exact ⟨aW (by simp),h⟩) ⟨o1,o0⟩ ⟨o0,o2⟩ fun l4 H4 s4 rl4=>?_;refine vp (rl.same s4) rl4 (by omega) fun r5 H5 s5 _ Oo=>?_;refine Xg ?_;exact second (s2.trans (s4.trans s5)) (Oo.mono (by omega))
    ·refine xV ?_;exact second s2 (rl.mono (by omega))
   ·rintro σ Hx ⟨r,v4,rfl,s2,rl⟩;walk_at "ev";exact q r Hx s2 (rl.mono (by omega))
  walk_at "ev";refine vB (fun _=>?_) (fun _=>?_)
  ·refine Mw ?_;refine Z4 ?_;refine Z3 ?_;refine Jm ?_;walk_at "es";refine mO (dz.of (s2 _ _ ol)) ?_;rw [bD,lts];walk_at "es";refine ⟨_,rfl,by omega,by omega,?_⟩;refine Zk5 (n:=hs.length) rfl (by omega) (fun i y Hx=>∃ t,y=.ref t∧H t=none∧Hx t=some (.tup (dV (.make i 1 0 0)))) (fun i y H1 H2 ⟨t,e,f,z⟩ s=>⟨t,e,f,s _ _ z⟩) (fun i H1 q hq=>zX hq) (fun i H1 hi s3 q hq=>?_) ?_
   ·walk_at "caps";walk_at "ev";exact ⟨aW (by simp),fun t nt=>hq _ _ (aM nt _) ⟨t,rfl,s2.free (s3.free nt),aq⟩⟩
   ·intro ys H3 s3 ly hy p np;have s4:=aM np (.lst ys);have r4:RL H (upd H3 p (.lst ys)) hs p 5:=⟨s2.trans (s3.trans s4),s2.free (s3.free np),ys,aq,by omega,fun v hv=>by
     obtain ⟨i,hi,e⟩:=List.getElem_of_mem hv;obtain ⟨t,e2,fz,z⟩:=hy i v (by rw [bW hi,e]);exact .inr ⟨t,_,e2,fz,s4 _ _ z,hb.ok (by omega) (by decide),by decide,by decide,by decide⟩⟩
    refine vp (rl.same (s3.trans s4)) r4 (by decide) fun r5 H5 s5 _ Oo=>?_;refine Xg ?_;exact rest (s2.trans (s3.trans (s4.trans s5))) (Oo.mono (by decide))
  ·refine xV ?_;exact rest s2 (rl.mono (by decide))
theorem Vi {a l:Addr} (q:∃ ns:List Int,∃ hs,dz K H a (ns.map V.int)∧ns.length≤63∧HsO H l hs∧HsB hs∧∀ r H',aX H H'→RL H H' hs r 700→Q (.ref r) H'):
  wY K (pA K) (z9 K) iI (Fb K) ⟨n,Q,bk,ct⟩ [some (.ref a),some (.ref l),none,none,none,none,none] H:=by
 obtain ⟨ns,hs,hS,hlen,ho,hb,q⟩:=q;unfold wY;walk_at "ev";refine ⟨by decide,fun r0 nr0=>?_⟩;have s1:=aM nr0 (.lst []);have g1:RL H (upd H r0 (.lst [])) hs r0 200:=⟨s1,nr0,[],aq,Nat.zero_le _,fun v hv=>(nomatch hv)⟩;generalize upd H r0 (.lst [])=H1 at s1 g1 ⊢;have rest:∀ {r1:Addr}{H2:Hp},aX H H2→RL H H2 hs r1 200→(oK K (pA K) (z9 K) iI) ⟨n,Q,bk,ct⟩ [some (.ref a),some (.ref l),some (.ref r1),none,none,none,none] H2:=by
  intro r1 H2 s2 rl2;unfold oK;walk_at "ev";refine ⟨a,2,rfl,ns,s2.seq hS,by decide,fun sd=>?_⟩;walk_at "ev";refine ⟨a,_,rfl,s2.seq hS,fun src Zs7=>?_⟩;have Zpb:∃ zs:List Int,Ze7 (ns.map V.int) (some 3) (some 43)=zs.map V.int∧zs.length≤63:=by
   refine ⟨(ns.drop (HT.VP ns.length 0 (some 3))).take (HT.VP ns.length ns.length (some 43) - HT.VP ns.length 0 (some 3)),?_,?_⟩
   ·unfold Ze7;rw [List.map_take,List.map_drop,bD]
   ·rw [List.length_take,List.length_drop];omega
  obtain ⟨zs,ez,lz⟩:=Zpb;rw [ez];have s3:=aM Zs7 (.lst (zs.map V.int));have g3:upd H2 src (.lst (zs.map V.int)) src=some (.lst (zs.map V.int)):=aq;generalize upd H2 src (.lst (zs.map V.int))=H3 at s3 g3 ⊢;refine ⟨src,rfl,⟨_,dz.of g3⟩,forL (zs.map V.int) (fun i σ Hx=>∃ r v5 v6,σ=[some (.ref a),some (.ref l),some (.ref r),some (.int sd),some (.int i),v5,v6]∧aX H3 Hx∧RL H Hx hs r (200 + 6 * i)) ⟨r1,_,_,rfl,aX.refl _,rl2.same s3⟩ (fun _ _ _ _ ⟨_,_,_,_,z,_⟩=>dz.of (z _ _ g3)) ?_ ?_⟩
  ·rintro i x σ Hx hi ⟨r,v5,v6,rfl,s4,rl⟩;have hil:=(dN hi).1;rw [bD] at hil;obtain ⟨c,hc,rfl⟩:=List.mem_map.mp (List.mem_of_getElem? hi);have hii:(i:Int) * i≤3969:=by
    have:=Nat.mul_le_mul (show i≤63 by omega) (show i≤63 by omega);have e:((i * i:Nat):Int)=(i:Int) * i:=by push_cast;rfl
    omega
   have hi0:0≤(i:Int) * i:=Int.mul_nonneg (by omega) (by omega);have s04:=s2.trans (s3.trans s4);walk_at "ev";generalize c + (i:Int) * i * 1000003=z;refine ⟨_,_,_,rfl,by decide,by decide,by decide,fun y y0 y1=>?_⟩;walk_at "ev";refine vB (fun _=>?_) (fun _=>?_)
   ·walk_at "ev";refine ⟨by decide,fun l0 nl0=>?_⟩;have s5:=aM nl0 (.lst [V.non]);have g5:upd Hx l0 (.lst [V.non]) l0=some (.lst [V.non]):=aq;have Oo:=rl.same s5;generalize upd Hx l0 (.lst [V.non])=H5 at s5 g5 Oo ⊢;walk_at "ev";refine ⟨_,_,_,rfl,by decide,by decide,by decide,fun w w0 w1=>?_⟩;walk_at "ev";refine LC (H0:=H) (hs:=hs) Oo.s g5 (by omega) (by omega) fun l6 H6 s6 _ rl6=>?_;refine vp (Oo.same s6) (rl6.mono (N':=6) (by omega)) (by omega) fun r7 H7 s7 _ rl7=>?_;walk_at "ev";refine Zh6 rfl ?_;exact ⟨r7,_,_,by rw [show ((i + 1:Nat):Int)=(i:Int) + 1 from by push_cast;rfl];rfl,s4.trans (s5.trans (s6.trans s7)),rl7.mono (by omega)⟩
   ·walk_at "ev";refine ⟨_,_,_,rfl,hs,ho.same s04,hb,fun r5 H5 s5 _ Oo=>?_⟩;have Oo:=Oo.base s04;refine vp (rl.same s5) Oo (by omega) fun r7 H7 s7 _ rl7=>?_;walk_at "ev";refine Zh6 rfl ?_;exact ⟨r7,_,_,by rw [show ((i + 1:Nat):Int)=(i:Int) + 1 from by push_cast;rfl];rfl,s4.trans (s5.trans s7),rl7.mono (by omega)⟩
  ·rintro σ Hx ⟨r,v5,v6,rfl,s4,rl⟩;rw [bD] at rl;walk_at "ev";refine ⟨by decide,fun l0 nl0=>?_⟩;have s5:=aM nl0 (.lst [V.non]);have g5:upd Hx l0 (.lst [V.non]) l0=some (.lst [V.non]):=aq;have Oo:=rl.same s5;generalize upd Hx l0 (.lst [V.non])=H5 at s5 g5 Oo ⊢;walk_at "ev";refine ⟨_,_,_,rfl,by decide,by decide,by decide,fun w w0 w1=>?_⟩;walk_at "ev";refine LC (H0:=H) (hs:=hs) Oo.s g5 (by omega) (by omega) fun l6 H6 s6 _ rl6=>?_;refine vp (Oo.same s6) (rl6.mono (N':=24) (by omega)) (by omega) fun r7 H7 s7 _ rl7=>?_;exact q r7 H7 (s2.trans (s3.trans (s4.trans (s5.trans (s6.trans s7))))) (rl7.mono (by omega))
 walk_at "ev";refine ⟨a,0,rfl,ns,s1.seq hS,by decide,fun c0=>?_⟩;walk_at "ev";refine ⟨_,_,_,rfl,by decide,by decide,by decide,fun z z0 z1=>?_⟩;walk_at "ev";refine vB (fun _=>?_) (fun _=>?_)
 ·walk_at "ev";refine ⟨a,0,rfl,ns,s1.seq hS,by decide,fun c1=>?_⟩;walk_at "ev";refine ⟨a,2,rfl,ns,s1.seq hS,by decide,fun c2=>?_⟩;walk_at "ev";refine ⟨_,_,_,rfl,hs,ho.same s1,hb,fun r H2 s2 rl2=>?_⟩;refine Zo4 ?_;exact rest (s1.trans s2) (rl2.base s1)
 ·refine xV ?_;exact rest s1 g1
end
def Zp3 (M:Wm):Prop:=M.sw.phase="walk"→M.sw.grey.Nodup∧∀ x∈M.sw.grey,∃ c,cellAt M x=some c∧c.tone=M.sw.sense
structure KW (M:Wm) (hs:JR) (k:Nat):Prop where
 hl:M.hands.length=hs.length
 hn:∀ (i:Nat) m n,M.hands[i]? =some m→hs[i]? =some n→m.2.length=n.2.toNat
 cl:M.cells.length≤k
 nl:M.names.length≤k
 fl:∀ c,some c∈M.cells→c.fl.length≤8
 gr:Zp3 M
 ph:M.sw.phase="rest"∨M.sw.phase="walk"∨M.sw.phase="give"∨M.sw.phase="lost"
 a0:0≤M.sw.at'
 tl:0≤M.tells∧M.tells < 4
section
variable {M:Wm}{hs:JR}{k:Nat}
theorem W4:∀ (n:Nat) (l:List Int),l.Nodup→(∀ x∈l,0≤x∧x < n)→l.length≤n
 | 0,l,_,h=>by
  cases l with
  | nil=>exact Nat.le_refl _
  | cons x l=>have:=h x (by simp);omega
 | n + 1,l,nd,h=>by
  have h1:(l.erase (n:Int)).length≤n:=W4 n _ (nd.erase _) fun x hx=>by
   have h2:=h x (List.mem_of_mem_erase hx);have h3:x≠(n:Int):=((nd.mem_erase_iff).mp hx).1
   push_cast at h2
   omega
  have h4:=List.length_erase (a:=(n:Int)) (l:=l);split at h4<;>omega
theorem Ru {x:Int}{c:Ce} (h:cellAt M x=some c):0≤x∧x < M.cells.length:=by
 obtain ⟨h0,h1⟩:=cu.mp h;have:=(dN h1).1;omega
theorem KW.ok (p:KW M hs k) (hb:HsB hs) (hk:k≤900):Vr M:=by
 have hcl:=p.cl;have hnl:=p.nl;refine ⟨by omega,fun m hm=>?_,fun c hc=>by have:=p.fl c hc;omega,by omega,fun ph=>?_,fun ph x hx=>?_,p.ph,p.a0⟩
 ·obtain ⟨i,hi,e⟩:=List.getElem_of_mem hm;have hi2:i < hs.length:=by rw [← p.hl];exact hi
  have h1:=p.hn i m _ (by rw [bW hi,e]) (bW hi2);have h2:=hb.sb _ (List.getElem_mem hi2);omega
 ·obtain ⟨nd,h1⟩:=p.gr ph;refine Nat.le_trans (W4 M.cells.length _ nd fun x hx=>?_) (by omega);obtain ⟨c,hc,_⟩:=h1 x hx;exact Ru hc
 ·obtain ⟨c,hc,_⟩:=(p.gr ph).2 x hx;exact ⟨c,hc⟩
theorem KW.yw (p:KW M hs k) {h s:Nat} (o:Lw hs h s):yw M h s:=by
 obtain ⟨m,hm,hlt⟩:=o;have hh:h < M.hands.length:=by rw [p.hl];exact (dN hm).1
 refine ⟨_,bW hh,?_⟩;have:=p.hn h _ m (bW hh) hm;omega
theorem KW.okD (p:KW M hs k) {d:mQ} (o:okR hs d):okD M d:=by
 cases d with
 | make h s many bulk=>exact ⟨p.yw o.1,o.2.1,by have:=o.2.2.1;omega,o.2.2.2⟩
 | get h s t f=>exact ⟨p.yw o.1,p.yw o.2⟩
 | put h t f s=>exact ⟨p.yw o.1,p.yw o.2⟩
 | copy h s t=>exact ⟨p.yw o.1,p.yw o.2⟩
 | drop h s=>exact p.yw o
 | give h s g t=>exact ⟨p.yw o.1,p.yw o.2⟩
 | write h t l=>exact p.yw o
 | read h t=>exact p.yw o
 | name h t z=>exact p.yw o
 | seek h s z=>exact p.yw o
theorem KW.mono {k':Nat} (p:KW M hs k) (h:k≤k'):KW M hs k':=by
 obtain ⟨a1,a2,a3,a4,a5,a6,a7,a8,a9⟩:=p;exact ⟨a1,a2,by omega,by omega,a5,a6,a7,a8,a9⟩
theorem KW.slot (p:KW M hs k) (h s:Nat) (x:Option Int):KW (setSlot M h s x) hs k:=by
 obtain ⟨a1,a2,a3,a4,a5,a6,a7,a8,a9⟩:=p;refine ⟨by show (M.hands.modify h _).length=_;rw [List.length_modify];exact a1,fun i m n e1 e2=>?_,a3,a4,a5,a6,a7,a8,a9⟩;have e1:(M.hands.modify h fun m=>(m.1,m.2.set s x))[i]? =some m:=e1;rw [List.getElem?_modify] at e1;cases em:M.hands[i]? with
 | none=>rw [em] at e1;cases e1
 | some m0=>
  rw [em] at e1
  by_cases z:h=i
  ·have e3:(m0.1,m0.2.set s x)=m:=by simpa [z] using e1
   rw [← e3];show (m0.2.set s x).length=_;rw [List.length_set];exact a2 i m0 n em e2
  ·have e3:m0=m:=by simpa [z] using e1
   rw [← e3];exact a2 i m0 n em e2
theorem iu {i:Int}{c c':Ce} (h:cellAt M i=some c) (x:Int):cellAt (setCell M i c') x=if x=i then some c' else cellAt M x:=by
 obtain ⟨h0,h1⟩:=cu.mp h;unfold cellAt;show (if 0≤x then ((M.cells.set i.toNat (some c'))[x.toNat]?).join else none)=_
 by_cases e:x=i
 ·subst e;rw [if_pos h0,if_pos rfl,List.getElem?_set_self (dN h1).1];rfl
 ·rw [if_neg e]
  by_cases x0:0≤x
  ·rw [if_pos x0,if_pos x0,List.getElem?_set_ne (by omega)]
  ·rw [if_neg x0,if_neg x0]
theorem KW.cell (p:KW M hs k) {i:Int}{c c':Ce} (h:cellAt M i=some c) (ht:c'.tone=c.tone) (hf:c'.fl.length=c.fl.length):KW (setCell M i c') hs k:=by
 have h8:=p.fl c (sW h);obtain ⟨a1,a2,a3,a4,a5,a6,a7,a8,a9⟩:=p;refine ⟨a1,a2,by show (M.cells.set _ _).length≤_;rw [List.length_set];exact a3,a4,fun d hd=>?_,fun ph=>?_,a7,a8,a9⟩
 ·rcases List.mem_or_eq_of_mem_set (show some d∈M.cells.set _ _ from hd) with hd | hd
  ·exact a5 d hd
  ·cases hd;omega
 ·obtain ⟨nd,h1⟩:=a6 ph;refine ⟨nd,fun x hx=>?_⟩;obtain ⟨d,hd,td⟩:=h1 x hx;rw [iu h]
  by_cases e:x=i
  ·subst e;rw [h] at hd;cases hd;exact ⟨c',by rw [if_pos rfl],by rw [ht];exact td⟩
  ·exact ⟨d,by rw [if_neg e];exact hd,td⟩
theorem KW.note (p:KW M hs k) (x:Option Int):KW (bL M x).2 hs k:=by
 cases x with
 | none=>exact p
 | some i=>
  unfold bL;dsimp only;cases hc:cellAt M i with
  | none=>exact p
  | some c=>
   dsimp only;split
   ·rename_i z
    obtain ⟨z1,z2⟩:=z;have h8:=p.fl c (sW hc);obtain ⟨a1,a2,a3,a4,a5,a6,a7,a8,a9⟩:=p;obtain ⟨nd,h1⟩:=a6 z1;have hni:i∉M.sw.grey:=fun hi=>by
     obtain ⟨d,hd,td⟩:=h1 i hi;rw [hc] at hd;cases hd;exact z2 td
    refine ⟨a1,a2,by show (M.cells.set _ _).length≤_;rw [List.length_set];exact a3,a4,fun d hd=>?_,fun _=>⟨?_,fun x hx=>?_⟩,a7,a8,a9⟩
    ·rcases List.mem_or_eq_of_mem_set (show some d∈M.cells.set _ _ from hd) with hd | hd
     ·exact a5 d hd
     ·cases hd;exact h8
    ·show (M.sw.grey ++ [i]).Nodup;rw [List.nodup_append];exact ⟨nd,by simp,fun a ha b hb e=>hni (by rw [List.mem_singleton.mp hb] at e;rw [← e];exact ha)⟩
    ·have e:=iu (c':={ c with tone:=M.sw.sense }) hc x;show ∃ d,cellAt (setCell M i { c with tone:=M.sw.sense }) x=some d∧d.tone=M.sw.sense;rw [e]
     by_cases ex:x=i
     ·exact ⟨_,by rw [if_pos ex],rfl⟩
     ·rcases List.mem_append.mp (show x∈M.sw.grey ++ [i] from hx) with hx | hx
      ·obtain ⟨d,hd,td⟩:=h1 x hx;exact ⟨d,by rw [if_neg ex];exact hd,td⟩
      ·exact absurd (List.mem_singleton.mp hx) ex
   ·exact p
theorem KW.notes:∀ {l:List (Option Int)}{M:Wm},KW M hs k→KW (aU M l).2 hs k
 | [],_,p=>p
 | x :: l,_,p=>KW.notes (l:=l) (p.note x)
theorem KW.nh (bits:Int):∀ {l:List (Str×List (Option Int))}{j:Nat}{M:Wm},KW M hs k→KW (jE bits l j M).2 hs k
 | [],_,_,p=>p
 | m :: l,j,M,p=>by
  unfold jE;split
  ·exact KW.nh bits (l:=l) (KW.notes p)
  ·exact KW.nh bits (l:=l) p
theorem KW.put (p:KW M hs k) {u b:Int}{c:Ce} (hf:c.fl.length≤8):KW { M with used:=u,born:=b,cells:=mD M.cells c } hs (k + 1):=by
 obtain ⟨a1,a2,a3,a4,a5,a6,a7,a8,a9⟩:=p;refine ⟨a1,a2,?_,by show M.names.length≤_;omega,fun d hd=>?_,fun ph=>?_,a7,a8,a9⟩
 ·have:=Zj4 M.cells c;show (mD M.cells c).length≤_;omega
 ·rcases Zg7 hd with hd | hd
  ·exact a5 d hd
  ·cases hd;exact hf
 ·obtain ⟨nd,h1⟩:=a6 ph;refine ⟨nd,fun x hx=>?_⟩;obtain ⟨d,hd,td⟩:=h1 x hx;exact ⟨d,Zap hd,td⟩
theorem Zcd {l:List (Str×(Int×Int))}{z:Str}{v:Int×Int}:(tQ l z v).length≤l.length + 1:=by
 unfold tQ;split
 ·rw [bD];omega
 ·rw [List.length_append];simp
theorem KW.name (p:KW M hs k) {z:Str}{v:Int×Int}:KW { M with names:=tQ M.names z v } hs (k + 1):=by
 obtain ⟨a1,a2,a3,a4,a5,a6,a7,a8,a9⟩:=p;refine ⟨a1,a2,by show M.cells.length≤_;omega,?_,a5,a6,a7,a8,a9⟩;have:=Zcd (l:=M.names) (z:=z) (v:=v);show (tQ M.names z v).length≤_;omega
theorem KW.deed (p:KW M hs k) {d:mQ}{e:Ev}{M':Wm} (o:okR hs d) (h:rz M d=.ok (e,M')):KW M' hs (k + 1):=by
 have le:k≤k + 1:=by omega
 cases d with
 | make hh s many bulk=>
  simp only [rz] at h;split at h
  ·have h2:=(Except.ok.inj h);rw [← (Prod.mk.inj h2).2];refine KW.slot (KW.put p ?_) _ _ _;show (List.replicate many.toNat none).length≤8;rw [List.length_replicate];have:=o.2.2.1;omega
  ·cases h
 | get hh s t f=>
  simp only [rz] at h;split at h
  ·cases h
  ·split at h
   ·cases h
   ·split at h
    ·cases h
    ·have h2:=(Except.ok.inj h);rw [← (Prod.mk.inj h2).2];exact (p.slot _ _ _).mono le
 | put hh t f s=>
  simp only [rz] at h;split at h
  ·cases h
  ·split at h
   ·cases h
   ·rename_i c hc
    split at h
    ·cases h
    ·have h2:=(Except.ok.inj h);rw [← (Prod.mk.inj h2).2];exact (KW.notes (p.cell (c':={ c with fl:=c.fl.set f (aR M hh s) }) hc rfl (by show (List.set _ _ _).length=_;rw [List.length_set]))).mono le
 | copy hh s t=>
  have h2:=(Except.ok.inj h);rw [← (Prod.mk.inj h2).2];exact (p.slot _ _ _).mono le
 | drop hh s=>
  have h2:=(Except.ok.inj h);rw [← (Prod.mk.inj h2).2];exact (p.slot _ _ _).mono le
 | give hh s g t=>
  have h2:=(Except.ok.inj h);rw [← (Prod.mk.inj h2).2];exact (KW.notes (p.slot _ _ _)).mono le
 | write hh t l=>
  simp only [rz] at h;split at h
  ·cases h
  ·split at h
   ·cases h
   ·rename_i c hc
    have h2:=(Except.ok.inj h);rw [← (Prod.mk.inj h2).2];exact (p.cell (c':={ c with load:=l }) hc rfl rfl).mono le
 | read hh t=>
  simp only [rz] at h;split at h
  ·cases h
  ·split at h
   ·cases h
   ·have h2:=(Except.ok.inj h);rw [← (Prod.mk.inj h2).2];exact p.mono le
 | name hh t z=>
  simp only [rz] at h;split at h
  ·cases h
  ·split at h
   ·cases h
   ·have h2:=(Except.ok.inj h);rw [← (Prod.mk.inj h2).2];exact p.name
 | seek hh s z=>
  simp only [rz] at h;split at h
  ·cases h
  ·split at h
   ·have h2:=(Except.ok.inj h);rw [← (Prod.mk.inj h2).2];exact (p.slot _ _ _).mono le
   ·have h2:=(Except.ok.inj h);rw [← (Prod.mk.inj h2).2];exact (KW.notes (p.slot _ _ _)).mono le
theorem KW.step (p:KW M hs k) {lb:Int}{lw:List Int}{e:Ev}{M':Wm} (h:rA lb lw M e M'):KW M' hs k:=by
 cases h with
 | begin ph=>
  refine KW.nh _ ?_;obtain ⟨a1,a2,a3,a4,a5,a6,a7,a8,a9⟩:=p;exact ⟨a1,a2,a3,a4,a5,fun _=>⟨List.nodup_nil,fun x hx=>(nomatch hx)⟩,.inr (.inl rfl),a8,a9⟩
 | walk x g c ph hg hc=>
  refine KW.notes ?_;obtain ⟨a1,a2,a3,a4,a5,a6,a7,a8,a9⟩:=p;refine ⟨a1,a2,a3,a4,a5,fun _=>?_,a7,a8,a9⟩;obtain ⟨nd,h1⟩:=a6 ph;rw [hg] at nd h1;exact ⟨(List.nodup_cons.mp nd).2,fun y hy=>h1 y (List.mem_cons_of_mem _ hy)⟩
 | look N ph hg nc hN=>
  have p':KW N hs k:=by rw [hN];exact KW.nh _ p
  obtain ⟨a1,a2,a3,a4,a5,a6,a7,a8,a9⟩:=p';exact ⟨a1,a2,a3,a4,a5,a6,a7,a8,a9⟩
 | cut q qs ph hg cd bf hno=>
  obtain ⟨a1,a2,a3,a4,a5,a6,a7,a8,a9⟩:=p;exact ⟨a1,a2,a3,a4,a5,fun z=>absurd z (show ¬ ("give":Str)="walk" by decide),.inr (.inr (.inl rfl)),Int.le_refl _,a9⟩
 | lost q qs i x c v ph hg cd bf hx hno hc ht=>
  obtain ⟨a1,a2,a3,a4,a5,a6,a7,a8,a9⟩:=p;exact ⟨a1,a2,a3,a4,a5,fun z=>absurd z (show ¬ ("lost":Str)="walk" by decide),.inr (.inr (.inr rfl)),Int.le_refl _,a9⟩
 | pass ph lt hp=>
  obtain ⟨a1,a2,a3,a4,a5,a6,a7,a8,a9⟩:=p;exact ⟨a1,a2,a3,a4,a5,a6,a7,by show 0≤M.sw.at' + 1;omega,a9⟩
 | back c ph lt hc ht=>
  obtain ⟨a1,a2,a3,a4,a5,a6,a7,a8,a9⟩:=p;refine ⟨a1,a2,by show (M.cells.set _ _).length≤_;rw [List.length_set];exact a3,a4,fun d hd=>?_,fun z=>absurd (ph.symm.trans z) (by decide),a7,by show 0≤M.sw.at' + 1;omega,a9⟩;rcases List.mem_or_eq_of_mem_set (show some d∈M.cells.set _ _ from hd) with hd | hd
  ·exact a5 d hd
  ·cases hd
 | fin ph lt=>
  obtain ⟨a1,a2,a3,a4,a5,a6,a7,a8,a9⟩:=p;exact ⟨a1,a2,a3,a4,a5,fun z=>absurd z (show ¬ ("rest":Str)="walk" by decide),.inl rfl,a8,a9⟩
 | again ph=>exact p
theorem KW.new {room:Int}{w t:Int} (h0:0≤t) (h1:t < 4):KW (O8 room hs w t) hs 0:=by
 refine ⟨by show (hs.map _).length=_;rw [bD],fun i m n e1 e2=>?_,Nat.le_refl _,Nat.le_refl _,fun c hc=>(nomatch hc),fun z=>absurd z (show ¬ ("rest":Str)="walk" by decide),.inl rfl,Int.le_refl _,⟨h0,h1⟩⟩;have e1:(hs.map fun m=>(m.1,List.replicate m.2.toNat (none:Option Int)))[i]? =some m:=e1;rw [cP,e2] at e1;cases e1;exact List.length_replicate
end
inductive Tr where
 | fl:V→Tr
 | ls:List Tr→Tr
 | tp:List Tr→Tr
structure Kp (H H':Hp) (T T':Tg):Prop where
 k:∀ b o,H b=some o→(T b).1=0∨6≤(T b).1→H' b=some o
 tg:∀ b o,H b=some o→T' b=T b
 al:∀ b o,H b=some o→∃ o',H' b=some o'
theorem Kp.same {H H':Hp}{T:Tg} (s:aX H H'):Kp H H' T T:=⟨fun b o h _=>s _ _ h,fun _ _ _=>rfl,fun b o h=>⟨o,s _ _ h⟩⟩
theorem Kp.stp {s:Nat}{H H':Hp}{T T':Tg} (st:iG s H H' T T') (n:s≠0∧s < 6):Kp H H' T T':=⟨fun b o h t=>st.kp b o h (by omega),st.tg,st.al⟩
theorem Kp.trans {H H1 H2:Hp}{T T1 T2:Tg} (a:Kp H H1 T T1) (b:Kp H1 H2 T1 T2):Kp H H2 T T2:=
 ⟨fun x o h t=>b.k x o (a.k x o h t) (by rw [a.tg x o h];exact t),fun x o h=>by
  obtain ⟨o1,h1⟩:=a.al x o h;exact (b.tg x o1 h1).trans (a.tg x o h),fun x o h=>by
  obtain ⟨o1,h1⟩:=a.al x o h;exact b.al x o1 h1⟩
section
variable {M:Wm}
structure NL (M N:Wm) (acc:List Int):Prop where
 sw:N.sw={ M.sw with grey:=M.sw.grey ++ acc }
 at_:∀ i,cellAt N i=if i∈acc then (cellAt M i).map (fun c=>{ c with tone:=M.sw.sense }) else cellAt M i
 nt:NtR M N
def nhL (bits:Int):List (Str×List (Option Int))→Nat→List (Option Int)
 | [],_=>[]
 | m :: l,k=>if bits / 2 ^ k % 2=1 then m.2 ++ nhL bits l (k + 1) else nhL bits l (k + 1)
theorem Lz:∀ (a b:List (Option Int)) (M:Wm),aU M (a ++ b)=((aU M a).1 ++ (aU (aU M a).2 b).1,(aU (aU M a).2 b).2)
 | [],b,M=>rfl
 | x :: a,b,M=>by
  show (ZK (bL M x).1 ++ (aU (bL M x).2 (a ++ b)).1,(aU (bL M x).2 (a ++ b)).2)=((ZK (bL M x).1 ++ (aU (bL M x).2 a).1) ++ (aU (aU (bL M x).2 a).2 b).1,(aU (aU (bL M x).2 a).2 b).2);rw [Lz a b,List.append_assoc]
theorem Zba (bits:Int):∀ (l:List (Str×List (Option Int))) (k:Nat) (M:Wm),jE bits l k M=aU M (nhL bits l k)
 | [],_,_=>rfl
 | m :: l,k,M=>by
  unfold jE nhL;split
  ·rw [Lz,Zba bits l (k + 1)]
  ·exact Zba bits l (k + 1) M
end
structure TB (w0:Int) (M:Wm):Prop where
 bu:∀ i j c d,cellAt M i=some c→cellAt M j=some d→c.birth=d.birth→i=j
 bn:∀ i c,cellAt M i=some c→1≤c.birth∧c.birth≤M.born
 b0:0≤M.born
 se:M.sw.sense=0∨M.sw.sense=1
 tn:∀ i c,cellAt M i=some c→c.tone=0∨c.tone=1
 rs:M.sw.phase="rest"→∀ i c,cellAt M i=some c→c.tone=M.sw.sense
 gv:M.sw.phase="give"→∀ i c,cellAt M i=some c→c.tone≠M.sw.sense→M.sw.at'≤i∧i < M.sw.stop
 ww:M.w=w0
structure Sb (M M':Wm):Prop where
 ce:∀ i,(cellAt M' i).map (·.birth)=(cellAt M i).map (·.birth)
 tn:∀ i c c',cellAt M i=some c→cellAt M' i=some c'→c'.tone=c.tone∨(M.sw.phase="walk"∧c'.tone=M.sw.sense)
 bn:M'.born=M.born
 se:M'.sw.sense=M.sw.sense
 ph:M'.sw.phase=M.sw.phase
 at_:M'.sw.at'=M.sw.at'
 st:M'.sw.stop=M.sw.stop
 ww:M'.w=M.w
section
variable {M M':Wm}{w0:Int}
theorem Sb.get (h:Sb M M') {i:Int}{c':Ce} (e:cellAt M' i=some c'):∃ c,cellAt M i=some c∧c'.birth=c.birth∧(c'.tone=c.tone∨(M.sw.phase="walk"∧c'.tone=M.sw.sense)):=by
 have h1:=h.ce i;rw [e] at h1;cases hc:cellAt M i with
 | none=>rw [hc] at h1;cases h1
 | some c=>
  rw [hc] at h1;exact ⟨c,rfl,Option.some.inj h1,h.tn i c c' hc e⟩
theorem Sb.vO (h:M'.cells=M.cells) (bn:M'.born=M.born) (se:M'.sw.sense=M.sw.sense) (ph:M'.sw.phase=M.sw.phase) (at_:M'.sw.at'=M.sw.at') (st:M'.sw.stop=M.sw.stop) (ww:M'.w=M.w):Sb M M':=by
 have e:∀ i,cellAt M' i=cellAt M i:=fun i=>by unfold cellAt;rw [h]
 exact ⟨fun i=>by rw [e],fun i c c' h1 h2=>by rw [e,h1] at h2;cases h2;exact .inl rfl,bn,se,ph,at_,st,ww⟩
theorem Sb.refl (M:Wm):Sb M M:=Sb.vO rfl rfl rfl rfl rfl rfl rfl
theorem Sb.trans {M'':Wm} (a:Sb M M') (b:Sb M' M''):Sb M M'':=by
 refine ⟨fun i=>(b.ce i).trans (a.ce i),fun i c c2 h1 h2=>?_,b.bn.trans a.bn,b.se.trans a.se,b.ph.trans a.ph,b.at_.trans a.at_,b.st.trans a.st,b.ww.trans a.ww⟩;obtain ⟨c1,h3,_,h4⟩:=b.get h2;have h5:=a.tn i c c1 h1 h3;rw [a.ph,a.se] at h4;rcases h4 with h4 | h4
 ·rcases h5 with h5 | h5
  ·exact .inl (h4.trans h5)
  ·exact .inr ⟨h5.1,h4.trans h5.2⟩
 ·exact .inr h4
theorem Sb.slot (M:Wm) (h s:Nat) (x:Option Int):Sb M (setSlot M h s x):=Sb.vO rfl rfl rfl rfl rfl rfl rfl
theorem Sb.cell {i:Int}{c c':Ce} (h:cellAt M i=some c) (hb:c'.birth=c.birth) (ht:c'.tone=c.tone∨(M.sw.phase="walk"∧c'.tone=M.sw.sense)):Sb M (setCell M i c'):=by
 refine ⟨fun x=>?_,fun x d d' h1 h2=>?_,rfl,rfl,rfl,rfl,rfl,rfl⟩
 ·rw [iu h]
  by_cases e:x=i
  ·subst e;rw [if_pos rfl,h];exact congrArg some hb
  ·rw [if_neg e]
 ·rw [iu h] at h2
  by_cases e:x=i
  ·subst e;rw [if_pos rfl] at h2;rw [h] at h1;cases h1;cases h2;exact ht
  ·rw [if_neg e,h1] at h2;cases h2;exact .inl rfl
theorem Sb.note (M:Wm) (x:Option Int):Sb M (bL M x).2:=by
 cases x with
 | none=>exact Sb.refl M
 | some i=>
  unfold bL;dsimp only;cases hc:cellAt M i with
  | none=>exact Sb.refl M
  | some c=>
   dsimp only;split
   ·rename_i z
    exact (Sb.cell (c':={ c with tone:=M.sw.sense }) hc rfl (.inr ⟨z.1,rfl⟩)).trans (Sb.vO rfl rfl rfl rfl rfl rfl rfl)
   ·exact Sb.refl M
theorem Sb.notes:∀ (l:List (Option Int)) (M:Wm),Sb M (aU M l).2
 | [],M=>Sb.refl M
 | x :: l,M=>(Sb.note M x).trans (Sb.notes l _)
theorem Sb.nh (bits:Int):∀ (l:List (Str×List (Option Int))) (j:Nat) (M:Wm),Sb M (jE bits l j M).2
 | [],_,M=>Sb.refl M
 | m :: l,j,M=>by
  unfold jE;split
  ·exact (Sb.notes m.2 M).trans (Sb.nh bits l (j + 1) _)
  ·exact Sb.nh bits l (j + 1) M
theorem TB.sb (p:TB w0 M) (h:Sb M M'):TB w0 M':=by
 refine ⟨fun i j c d h1 h2 e=>?_,fun i c h1=>?_,by rw [h.bn];exact p.b0,by rw [h.se];exact p.se,fun i c h1=>?_,fun ph i c h1=>?_,fun ph i c h1 ht=>?_,by rw [h.ww];exact p.ww⟩
 ·obtain ⟨c0,e1,b1,_⟩:=h.get h1;obtain ⟨d0,e2,b2,_⟩:=h.get h2;exact p.bu i j c0 d0 e1 e2 (by rw [← b1,← b2];exact e)
 ·obtain ⟨c0,e1,b1,_⟩:=h.get h1;rw [b1,h.bn];exact p.bn i c0 e1
 ·obtain ⟨c0,e1,_,t1⟩:=h.get h1;rcases t1 with t1 | t1
  ·rw [t1];exact p.tn i c0 e1
  ·rw [t1.2];exact p.se
 ·obtain ⟨c0,e1,_,t1⟩:=h.get h1;rw [h.ph] at ph;rw [h.se];rcases t1 with t1 | t1
  ·rw [t1];exact p.rs ph i c0 e1
  ·exact t1.2
 ·obtain ⟨c0,e1,_,t1⟩:=h.get h1;rw [h.ph] at ph;rw [h.se] at ht;rw [h.at_,h.st];rcases t1 with t1 | t1
  ·exact p.gv ph i c0 e1 (by rw [← t1];exact ht)
  ·exact absurd t1.2 ht
theorem gb {x u b:Int}{c d:Ce} (h:cellAt { M with used:=u,born:=b,cells:=mD M.cells c } x=some d):(x=jW M.cells∧d=c)∨cellAt M x=some d:=by
 obtain ⟨h0,h1⟩:=cu.mp h;have h1:(mD M.cells c)[x.toNat]? =some (some d):=h1
 by_cases z:x.toNat=jW M.cells
 ·rw [z,Du] at h1;cases h1;exact .inl ⟨by omega,rfl⟩
 ·refine .inr (cu.mpr ⟨h0,?_⟩);unfold mD at h1;split at h1
  ·rw [List.getElem?_set_ne (fun e=>z e.symm)] at h1;exact h1
  ·rename_i y
   rw [List.getElem?_append] at h1;split at h1
   ·exact h1
   ·rename_i y2
    have hlt:=(dN h1).1;have hle:=Uz M.cells;have:x.toNat - M.cells.length < 1:=hlt;omega
theorem TB.put (p:TB w0 M) {u:Int}{c:Ce} (hb:c.birth=M.born + 1) (ht:c.tone=M.sw.sense):TB w0 { M with used:=u,born:=M.born + 1,cells:=mD M.cells c }:=by
 have b0:=p.b0;refine ⟨fun i j d e h1 h2 eb=>?_,fun i d h1=>?_,by show 0≤M.born + 1;omega,p.se,fun i d h1=>?_,fun ph i d h1=>?_,fun ph i d h1 hp=>?_,p.ww⟩
 ·rcases gb h1 with ⟨z1,z2⟩ | z1
  ·rcases gb h2 with ⟨y1,y2⟩ | y1
   ·rw [z1,y1]
   ·have:=p.bn j e y1;rw [z2,hb] at eb;omega
  ·rcases gb h2 with ⟨y1,y2⟩ | y1
   ·have:=p.bn i d z1;rw [y2,hb] at eb;omega
   ·exact p.bu i j d e z1 y1 eb
 ·show 1≤d.birth∧d.birth≤M.born + 1;rcases gb h1 with ⟨z1,z2⟩ | z1
  ·rw [z2,hb];omega
  ·have:=p.bn i d z1;omega
 ·rcases gb h1 with ⟨z1,z2⟩ | z1
  ·rw [z2,ht];exact p.se
  ·exact p.tn i d z1
 ·rcases gb h1 with ⟨z1,z2⟩ | z1
  ·rw [z2];exact ht
  ·exact p.rs ph i d z1
 ·rcases gb h1 with ⟨z1,z2⟩ | z1
  ·rw [z2] at hp;exact absurd ht hp
  ·exact p.gv ph i d z1 hp
theorem TB.deed (p:TB w0 M) {d:mQ}{e:Ev} (h:rz M d=.ok (e,M')):TB w0 M':=by
 cases d with
 | make hh s many bulk=>
  simp only [rz] at h;split at h
  ·have h2:=(Except.ok.inj h);rw [← (Prod.mk.inj h2).2];exact (TB.put p (c:=⟨M.born + 1,bulk,M.sw.sense,0,List.replicate many.toNat none⟩) rfl rfl).sb (Sb.slot _ _ _ _)
  ·cases h
 | get hh s t f=>
  simp only [rz] at h;split at h
  ·cases h
  ·split at h
   ·cases h
   ·split at h
    ·cases h
    ·have h2:=(Except.ok.inj h);rw [← (Prod.mk.inj h2).2];exact p.sb (Sb.slot _ _ _ _)
 | put hh t f s=>
  simp only [rz] at h;split at h
  ·cases h
  ·split at h
   ·cases h
   ·rename_i c hc
    split at h
    ·cases h
    ·have h2:=(Except.ok.inj h);rw [← (Prod.mk.inj h2).2];exact p.sb ((Sb.cell (c':={ c with fl:=c.fl.set f (aR M hh s) }) hc rfl (.inl rfl)).trans (Sb.notes _ _))
 | copy hh s t=>
  have h2:=(Except.ok.inj h);rw [← (Prod.mk.inj h2).2];exact p.sb (Sb.slot _ _ _ _)
 | drop hh s=>
  have h2:=(Except.ok.inj h);rw [← (Prod.mk.inj h2).2];exact p.sb (Sb.slot _ _ _ _)
 | give hh s g t=>
  have h2:=(Except.ok.inj h);rw [← (Prod.mk.inj h2).2];exact p.sb ((Sb.slot _ _ _ _).trans (Sb.notes _ _))
 | write hh t l=>
  simp only [rz] at h;split at h
  ·cases h
  ·split at h
   ·cases h
   ·rename_i c hc
    have h2:=(Except.ok.inj h);rw [← (Prod.mk.inj h2).2];exact p.sb (Sb.cell (c':={ c with load:=l }) hc rfl (.inl rfl))
 | read hh t=>
  simp only [rz] at h;split at h
  ·cases h
  ·split at h
   ·cases h
   ·have h2:=(Except.ok.inj h);rw [← (Prod.mk.inj h2).2];exact p
 | name hh t z=>
  simp only [rz] at h;split at h
  ·cases h
  ·split at h
   ·cases h
   ·have h2:=(Except.ok.inj h);rw [← (Prod.mk.inj h2).2];exact p.sb (Sb.vO rfl rfl rfl rfl rfl rfl rfl)
 | seek hh s z=>
  simp only [rz] at h;split at h
  ·cases h
  ·split at h
   ·have h2:=(Except.ok.inj h);rw [← (Prod.mk.inj h2).2];exact p.sb (Sb.slot _ _ _ _)
   ·have h2:=(Except.ok.inj h);rw [← (Prod.mk.inj h2).2];exact p.sb ((Sb.slot _ _ _ _).trans (Sb.notes _ _))
theorem TB.step (p:TB w0 M) {lb:Int}{lw:List Int}{e:Ev} (h:rA lb lw M e M'):TB w0 M':=by
 cases h with
 | begin ph=>
  refine TB.sb ?_ (Sb.nh _ _ _ _);obtain ⟨a1,a2,a3,a4,a5,a6,a7,a8⟩:=p;exact ⟨a1,a2,a3,by show 1 - M.sw.sense=0∨1 - M.sw.sense=1;omega,a5,fun z=>absurd z (show ¬ ("walk":Str)="rest" by decide),fun z=>absurd z (show ¬ ("walk":Str)="give" by decide),a8⟩
 | walk x g c ph hg hc=>
  have a:Sb M { M with sw:={ M.sw with grey:=g,walks:=M.sw.walks + 1 } }:=Sb.vO rfl rfl rfl rfl rfl rfl rfl;exact p.sb (a.trans (Sb.notes c.fl _))
 | look N ph hg nc hN=>
  subst hN;exact p.sb ((Sb.nh _ _ _ _).trans (Sb.vO rfl rfl rfl rfl rfl rfl rfl))
 | cut q qs ph hg cd bf hno=>
  obtain ⟨a1,a2,a3,a4,a5,a6,a7,a8⟩:=p;exact ⟨a1,a2,a3,a4,a5,fun z=>absurd z (show ¬ ("give":Str)="rest" by decide),fun _ i c hc _=>Ru (M:=M) hc,a8⟩
 | lost q qs i x c v ph hg cd bf hx hno hc ht=>
  obtain ⟨a1,a2,a3,a4,a5,a6,a7,a8⟩:=p;exact ⟨a1,a2,a3,a4,a5,fun z=>absurd z (show ¬ ("lost":Str)="rest" by decide),fun z=>absurd z (show ¬ ("lost":Str)="give" by decide),a8⟩
 | pass ph lt hp=>
  obtain ⟨a1,a2,a3,a4,a5,a6,a7,a8⟩:=p;refine ⟨a1,a2,a3,a4,a5,a6,fun _ i c hc ht=>?_,a8⟩;have h1:=a7 ph i c hc ht;have h2:i≠M.sw.at':=fun z=>ht (hp c (by rw [← z];exact hc));show M.sw.at' + 1≤i∧i < M.sw.stop;omega
 | back c ph lt hc ht=>
  obtain ⟨a1,a2,a3,a4,a5,a6,a7,a8⟩:=p;have gt:∀ (u:Int) (w:Sw) (i:Int) (d:Ce),cellAt { M with used:=u,cells:=M.cells.set M.sw.at'.toNat none,sw:=w } i=some d→i≠M.sw.at'∧cellAt M i=some d:=fun u w i d hd=>by
   obtain ⟨h0,h1⟩:=cu.mp hd;have h1:(M.cells.set M.sw.at'.toNat none)[i.toNat]? =some (some d):=h1;obtain ⟨k0,k1⟩:=cu.mp hc
   by_cases z:M.sw.at'.toNat=i.toNat
   ·rw [z,List.getElem?_set_self (by rw [← z];exact (dN k1).1)] at h1;cases h1
   ·rw [List.getElem?_set_ne z] at h1;exact ⟨fun e=>z (by rw [e]),cu.mpr ⟨h0,h1⟩⟩
  refine ⟨fun i j d e h1 h2 eb=>a1 i j d e (gt _ _ i d h1).2 (gt _ _ j e h2).2 eb,fun i d h1=>a2 i d (gt _ _ i d h1).2,a3,a4,fun i d h1=>a5 i d (gt _ _ i d h1).2,fun z=>absurd (ph.symm.trans z) (by decide),fun _ i d h1 hp=>?_,a8⟩;obtain ⟨n1,n2⟩:=gt _ _ i d h1;have h3:=a7 ph i d n2 hp;show M.sw.at' + 1≤i∧i < M.sw.stop;omega
 | fin ph lt=>
  obtain ⟨a1,a2,a3,a4,a5,a6,a7,a8⟩:=p;refine ⟨a1,a2,a3,a4,a5,fun _ i c hc=>?_,fun z=>absurd z (show ¬ ("rest":Str)="give" by decide),a8⟩;refine Decidable.byContradiction fun ht=>?_;have h1:=a7 ph i c hc ht;omega
 | again ph=>exact p
theorem TB.new {room:Int}{hs:JR}{w t:Int}:TB w (O8 room hs w t):=by
 have e:∀ i c,cellAt (O8 room hs w t) i=some c→False:=fun i c h=>nomatch sW h;exact ⟨fun i _ c _ h=>(e i c h).elim,fun i c h=>(e i c h).elim,Int.le_refl _,.inl rfl,fun i c h=>(e i c h).elim,fun _ i c h=>(e i c h).elim,fun _ i c h=>(e i c h).elim,rfl⟩
end
section
variable {M:Wm}
end
def Zbt (K:aC):Sp:=fun vs H Q E=>∃ a,vs=[.ref a]∧∃ ns:List Int,dz K H a (ns.map V.int)∧ns.length≤63∧∀ H',Q (.bl true) H'
def Kg (X:Cs) (rf:Rf→Addr):Sp:=fun vs H Q E=>∃ wo dd,vs=[.ref wo,.ref dd]∧∃ T s A M d,WT H T∧s≠0∧WJ X H T s A M∧A.wo=wo∧H dd=some (.tup (dV d))∧okD M d∧M.cells.length≤900∧(M.sw.phase="walk"→M.sw.grey.length≤10000)∧(0≤M.tells∧M.tells < 4)∧M.names.length≤1000∧
 (∀ r,rz M d=.error r→∀ H',aX H H'→Q .non H')∧
 (∀ e M',rz M d=.ok (e,M')→∀ H' T' A' a,iG s H H' T T'→WJ X H' T' s A' M'→A'.wo=wo→EvN H H' a e→Q (.ref a) H')
section
theorem Vm {wo dd CE CN CF CM:Addr} (hE:rf .empty=CE) (hN:rf .qm=CN) (hF:rf .full=CF) (hM:rf .LK=CM) (q:∃ T s A M d,WT H T∧s≠0∧WJ X H T s A M∧A.wo=wo∧H dd=some (.tup (dV d))∧okD M d∧M.cells.length≤900∧(M.sw.phase="walk"→M.sw.grey.length≤10000)∧(0≤M.tells∧M.tells < 4)∧M.names.length≤1000∧
 (∀ r,rz M d=.error r→∀ H',aX H H'→Q .non H')∧
 (∀ e M',rz M d=.ok (e,M')→∀ H' T' A' a,iG s H H' T T'→WJ X H' T' s A' M'→A'.wo=wo→EvN H H' a e→Q (.ref a) H')):
  xj CE CF CN CM (Zy6 X rf) ⟨n,Q,bk,ct⟩ [some (.ref wo),some (.ref dd),none] H:=by
 obtain ⟨T,s,A,M,d,w,s0,j,rfl,ed,od,hc,hg,tl,nm,h1,h2⟩:=q;unfold xj;walk_at "ev";refine ⟨_,dd,rfl,T,s,A,M,d,trivial,w,s0,j,rfl,ed,od,hc,hg,tl,nm,fun r er H' sm=>?_,fun e M' he H' T' A' a st j' aw ev=>?_⟩
 ·refine ⟨?_,?_⟩
  ·cases r
   ·exact .inr (.inr (.inl (by rw [hF])))
   ·exact .inl (by rw [hE])
   ·exact .inr (.inl (by rw [hN]))
   ·exact .inr (.inr (.inr (by rw [hM])))
  ·walk_at "ev";exact h1 r er H' sm
 ·walk_at "ev";exact h2 e M' he H' T' A' a st j' aw ev
end
def MkO (H:Hp) (d:Addr) (f:Int→Option V) (k:Nat):Prop:=∃ kvs:List (L2.Key×V),H d=some (.dK kvs)∧kvs.length≤k∧∀ b:Int,lX kvs (Sum.inl b)=f b
theorem MkO.get {H:Hp}{d:Addr}{f:Int→Option V}{k:Nat} (h:MkO H d f k) {b:Int}{v:V} (e:f b=some v):Ik H d (.int b) (some v):=by
 obtain ⟨kvs,h1,_,h2⟩:=h;have:=Ik.k (k:=Sum.inl b) h1;rw [h2 b,e] at this;exact this
theorem MkO.put {H:Hp}{d:Addr}{f:Int→Option V}{k:Nat} (h:MkO H d f k) (hk:k≤100000) (b:Int) (v:V):∃ H',Qi H d (.int b) v H'∧MkO H' d (fun x=>if x=b then some v else f x) (k + 1)∧∃ o,H'=upd H d o:=by
 obtain ⟨kvs,h1,h3,h2⟩:=h;refine ⟨_,Qi.k (k:=Sum.inl b) (v:=v) h1 (Nat.lt_of_le_of_lt h3 (Nat.lt_of_le_of_lt hk (by decide))),⟨_,aq,?_,fun x=>?_⟩,_,rfl⟩
 ·have:=zU kvs (Sum.inl b) v;omega
 ·rw [Zef,h2 x];dsimp only
  by_cases e:x=b
  ·rw [if_pos e,if_pos (by rw [e])]
  ·rw [if_neg e,if_neg (fun z=>e (Sum.inl.inj z))]
theorem MkO.same {H H':Hp}{d:Addr}{f:Int→Option V}{k:Nat} (s:aX H H') (h:MkO H d f k):MkO H' d f k:=by
 obtain ⟨kvs,h1,h3,h2⟩:=h;exact ⟨kvs,s _ _ h1,h3,h2⟩
structure Tc where
 p:Int
 b:Int
 bulk:Int
 load:Int
 fs:List (Option Int)
 tone:Str
def Tc1 (H:Hp) (r f:Addr) (x:Tc):Prop:=H r=some (.tup [.int x.p,.int x.b,.int x.bulk,.int x.load,.ref f,.str x.tone])∧H f=some (.lst (x.fs.map oV))
def CtO (H:Hp) (l:Addr) (rows:List Tc):Prop:=∃ ls:List Addr,H l=some (.lst (ls.map V.ref))∧ls.length=rows.length∧∀ (j:Nat) r x,ls[j]? =some r→rows[j]? =some x→∃ f,Tc1 H r f x
theorem CtO.same {H H':Hp}{l:Addr}{rows:List Tc} (s:aX H H') (h:CtO H l rows):CtO H' l rows:=by
 obtain ⟨ls,h1,h2,h3⟩:=h;refine ⟨ls,s _ _ h1,h2,fun j r x e1 e2=>?_⟩;obtain ⟨f,z1,z2⟩:=h3 j r x e1 e2;exact ⟨f,s _ _ z1,s _ _ z2⟩
def Zma (M:Wm) (t:Int×Ce):Tc:=⟨t.1,t.2.birth,t.2.bulk,t.2.load,t.2.fl.map (vY M),q8 M t.1 t.2⟩
def tcs (M:Wm):List Tc:=(jU M).map (Zma M)
section
variable {M M':Wm}{w0:Int}
theorem yF {t:Int×Ce} (h:t∈jU M):cellAt M t.1=some t.2:=by
 obtain ⟨k,hk,e⟩:=List.getElem_of_mem h;obtain ⟨h0,h1⟩:=Zay (M:=M) (j:=k) (t:=t) (by rw [bW hk,e]);exact cu.mpr ⟨h0,h1⟩
theorem XF {i:Int}{c:Ce} (h:cellAt M i=some c):(i,c)∈jU M:=by
 obtain ⟨h0,h1⟩:=cu.mp h;unfold jU;refine List.mem_filterMap.mpr ⟨i.toNat,List.mem_range.mpr (dN h1).1,?_⟩;rw [h1];show some (((i.toNat:Nat):Int),c)=some (i,c);rw [show ((i.toNat:Nat):Int)=i from by omega]
end
def vD (rows:List Tc) (b:Int):Option V:=(rows.reverse.find? fun x=>decide (x.b=b)).map fun x=>V.str x.tone
theorem Yo (rows:List Tc) (x:Tc) (b:Int):vD (rows ++ [x]) b=if b=x.b then some (.str x.tone) else vD rows b:=by
 unfold vD;rw [List.reverse_append,List.reverse_singleton,List.singleton_append,List.find?_cons]
 by_cases e:b=x.b
 ·rw [if_pos e,decide_eq_true e.symm];rfl
 ·rw [if_neg e,decide_eq_false (fun z=>e z.symm)]
def Ec (z:Str) (f:Int→Option V) (bs:List Int) (b:Int):Option V:=if b∈bs then some (.str z) else f b
theorem ZR (z:Str) (f:Int→Option V) (bs:List Int) (b0 b:Int):Ec z f (bs ++ [b0]) b=if b=b0 then some (.str z) else Ec z f bs b:=by
 unfold Ec
 by_cases e:b=b0
 ·rw [if_pos e,if_pos (by simp [e])]
 ·rw [if_neg e]
  by_cases e2:b∈bs
  ·rw [if_pos e2,if_pos (List.mem_append.mpr (.inl e2))]
  ·rw [if_neg e2,if_neg (fun y=>?_)];rcases List.mem_append.mp y with y | y
   ·exact e2 y
   ·exact e (by simpa using y)
def J9 (K:aC):Sp:=fun vs H Q E=>∃ l m z,vs=[.ref l,.ref m,.str z]∧∃ (rows:List Tc) (bs:List Int),CtO H l rows∧rows.length≤1000∧H m=some (.lst (bs.map V.int))∧bs.length≤4000∧
 ∀ a H',aX H H'→H a=none→MkO H' a (Ec z (vD rows) bs) 5000→Q (.ref a) H'
section
theorem Vh {l m:Addr}{z:Str} (q:∃ (rows:List Tc) (bs:List Int),CtO H l rows∧rows.length≤1000∧H m=some (.lst (bs.map V.int))∧bs.length≤4000∧
 ∀ a H',aX H H'→H a=none→MkO H' a (Ec z (vD rows) bs) 5000→Q (.ref a) H'):wX K ⟨n,Q,bk,ct⟩ [some (.ref l),some (.ref m),some (.str z),none,none,none] H:=by
 obtain ⟨rows,bs,⟨ls,o1,hl,o2⟩,hb,om,hbs,q⟩:=q;unfold wX;walk_at "ev";intro d nd;have s1:=aM nd (.dK []);have g1:MkO (upd H d (.dK [])) d (vD []) 0:=⟨[],aq,Nat.le_refl _,fun b=>rfl⟩;generalize upd H d (.dK [])=H1 at s1 g1 ⊢;walk_at "ev";refine ⟨l,rfl,⟨_,dz.of (s1 _ _ o1)⟩,forL (ls.map V.ref) (fun i σ Hx=>∃ v4,σ=[some (.ref l),some (.ref m),some (.str z),some (.ref d),v4,none]∧aX H Hx∧MkO Hx d (vD (rows.take i)) i) ⟨_,rfl,s1,g1⟩ (fun _ _ _ _ ⟨_,_,y,_⟩=>dz.of (y _ _ o1)) ?_ ?_⟩
 ·rintro i y σ Hx hy ⟨v4,rfl,s2,g2⟩;rw [cP] at hy;obtain ⟨r,hr,rfl⟩:=Option.map_eq_some_iff.mp hy;have hi:i < ls.length:=(dN hr).1;obtain ⟨x,hx⟩:∃ x,rows[i]? =some x:=⟨_,bW (by omega)⟩;have etk:rows.take (i + 1)=rows.take i ++ [x]:=by rw [List.take_add_one,hx];rfl
  obtain ⟨fa,orr,_⟩:=o2 i r x hr hx;have orr:=s2 _ _ orr;walk_at "ev";refine ⟨r,_,5,_,rfl,rfl,iQ.of orr,rfl,?_⟩;walk_at "ev";refine ⟨r,_,1,_,rfl,rfl,iQ.of orr,rfl,?_⟩;obtain ⟨H4,p1,⟨kvs,k1,k2,k3⟩,o,p3⟩:=g2.put (by omega) x.b (.str x.tone);refine ⟨d,H4,rfl,p1,_,rfl,fun c o' hc=>?_,kvs,k1,k2,fun b=>?_⟩
  ·rw [p3,aB (aD hc nd)];exact s2 _ _ hc
  ·rw [k3 b,etk,Yo]
 ·rintro σ Hx ⟨v4,rfl,s2,g2⟩;rw [bD,List.take_of_length_le (by omega)] at g2;walk_at "ev";refine ⟨m,rfl,⟨_,dz.of (s2 _ _ om)⟩,forL (bs.map V.int) (fun i σ Hy=>∃ v5,σ=[some (.ref l),some (.ref m),some (.str z),some (.ref d),v4,v5]∧aX H Hy∧MkO Hy d (Ec z (vD rows) (bs.take i)) (ls.length + i)) ⟨_,rfl,s2,?_⟩ (fun _ _ _ _ ⟨_,_,y,_⟩=>dz.of (y _ _ om)) ?_ ?_⟩
  ·obtain ⟨kvs,k1,k2,k3⟩:=g2;exact ⟨kvs,k1,by omega,fun b=>by rw [k3 b];unfold Ec;rw [if_neg (by simp)]⟩
  ·rintro i y σ Hy hy ⟨v5,rfl,s3,g3⟩;rw [cP] at hy;obtain ⟨b0,hb0,rfl⟩:=Option.map_eq_some_iff.mp hy;have hi:i < bs.length:=(dN hb0).1;have etk:bs.take (i + 1)=bs.take i ++ [b0]:=by rw [List.take_add_one,hb0];rfl
   walk_at "ev";obtain ⟨H4,p1,⟨kvs,k1,k2,k3⟩,o,p3⟩:=g3.put (by omega) b0 (.str z);refine ⟨d,H4,rfl,p1,_,rfl,fun c o' hc=>?_,kvs,k1,k2,fun b=>?_⟩
   ·rw [p3,aB (aD hc nd)];exact s3 _ _ hc
   ·rw [k3 b,etk,ZR]
  ·rintro σ Hy ⟨v5,rfl,s3,kvs,k1,k2,k3⟩;rw [bD,List.take_length] at k3;rw [bD] at k2;walk_at "ev";exact q d Hy s3 nd ⟨kvs,k1,by omega,k3⟩
end
theorem Zeh {M:Wm}:(jU M).length≤M.cells.length:=by
 unfold jU;exact Nat.le_trans (List.length_filterMap_le _ _) (by rw [List.length_range];exact Nat.le_refl _)
theorem Zaz {M:Wm}:(tcs M).length=(jU M).length:=by unfold tcs;rw [bD]
theorem Zm9 {M:Wm}{i:Nat}{t:Int×Ce} (h:(jU M)[i]? =some t):(tcs M)[i]? =some (Zma M t):=by unfold tcs;rw [cP,h];rfl
section
variable {M M':Wm}{w0:Int}
theorem Zcu (ph:M.sw.phase="walk") (i:Int) (c:Ce):q8 M i c=if c.tone=M.sw.sense then (if i∈M.sw.grey then ("grey":Str) else ("dark":Str)) else ("pale":Str):=by
 unfold q8;rw [ph,if_neg (show ¬ ("walk":Str)="rest" by decide),if_neg (show ¬ ("walk":Str)="give" by decide)]
theorem TB.Zif (p:TB w0 M) {t u:Int×Ce} (ht:t∈jU M) (hu:u∈jU M) (e:t.2.birth=u.2.birth):t=u:=by
 have h1:=yF ht;have h2:=yF hu;have h3:=p.bu t.1 u.1 t.2 u.2 h1 h2 e;rw [h3,h2] at h1;exact Prod.ext h3 (Option.some.inj h1).symm
theorem TB.Zr8 (p:TB w0 M) {t:Int×Ce} (ht:t∈jU M):vD (tcs M) t.2.birth=some (.str (q8 M t.1 t.2)):=by
 unfold vD;cases hf:(tcs M).reverse.find? fun (x:Tc)=>decide (x.b=t.2.birth) with
 | none=>
  have:=List.find?_eq_none.mp hf (Zma M t) (List.mem_reverse.mpr (List.mem_map.mpr ⟨t,ht,rfl⟩));exact absurd (decide_eq_true rfl) this
 | some x=>
  have h1:x.b=t.2.birth:=of_decide_eq_true (List.find?_some (p:=fun (x:Tc)=>decide (x.b=t.2.birth)) hf);obtain ⟨u,hu,rfl⟩:=List.mem_map.mp (List.mem_reverse.mp (List.mem_of_find?_eq_some hf));rw [p.Zif hu ht h1];rfl
end
def wh (M:Wm) (x:Option Int):Prop:=∃ i c,x=some i∧cellAt M i=some c∧c.tone≠M.sw.sense
structure vC (M:Wm):Prop where
 ph:M.sw.phase="rest"∨M.sw.phase="walk"∨M.sw.phase="give"
 lk:M.sw.phase="walk"→M.sw.looked=0
 w2:M.w=2
 tl:M.tells / 2 % 2=1
 fd:M.sw.phase≠"rest"→∀ i c,cellAt M i=some c→c.tone=M.sw.sense→(M.sw.phase="walk"→i∉M.sw.grey)→∀ x∈c.fl,¬ wh M x
 hd:M.sw.phase="give"→∀ m∈M.hands,∀ x∈m.2,¬ wh M x
structure Wt (M N:Wm):Prop where
 ph:N.sw.phase=M.sw.phase
 se:N.sw.sense=M.sw.sense
 lk:N.sw.looked=M.sw.looked
 ww:N.w=M.w
 tl:N.tells=M.tells
 hd:N.hands=M.hands
 gr:∀ i∈M.sw.grey,i∈N.sw.grey
 ce:∀ i c',cellAt N i=some c'→∃ c,cellAt M i=some c∧c'.fl=c.fl∧(c'.tone=c.tone∨(M.sw.phase="walk"∧c'.tone=M.sw.sense∧i∈N.sw.grey))
section
variable {M N:Wm}
theorem Wt.refl (M:Wm):Wt M M:=⟨rfl,rfl,rfl,rfl,rfl,rfl,fun _ h=>h,fun i c h=>⟨c,h,rfl,.inl rfl⟩⟩
theorem Wt.trans {P:Wm} (a:Wt M N) (b:Wt N P):Wt M P:=by
 refine ⟨b.ph.trans a.ph,b.se.trans a.se,b.lk.trans a.lk,b.ww.trans a.ww,b.tl.trans a.tl,b.hd.trans a.hd,fun i h=>b.gr i (a.gr i h),fun i c2 h=>?_⟩;obtain ⟨c1,h1,f1,t1⟩:=b.ce i c2 h;obtain ⟨c,h0,f0,t0⟩:=a.ce i c1 h1;refine ⟨c,h0,f1.trans f0,?_⟩;rw [a.ph,a.se] at t1;rcases t1 with t1 | t1
 ·rcases t0 with t0 | ⟨p0,t0,g0⟩
  ·exact .inl (t1.trans t0)
  ·exact .inr ⟨p0,t1.trans t0,b.gr i g0⟩
 ·exact .inr t1
theorem Wt.note (M:Wm) (x:Option Int):Wt M (bL M x).2:=by
 cases x with
 | none=>exact Wt.refl M
 | some i=>
  unfold bL;dsimp only;cases hc:cellAt M i with
  | none=>exact Wt.refl M
  | some c=>
   dsimp only;split
   ·rename_i z
    refine ⟨rfl,rfl,rfl,rfl,rfl,rfl,fun j hj=>List.mem_append.mpr (.inl hj),fun j d hd=>?_⟩;have hd:cellAt (setCell M i { c with tone:=M.sw.sense }) j=some d:=hd;rw [iu hc] at hd
    by_cases e:j=i
    ·rw [if_pos e] at hd;cases hd;subst e;exact ⟨c,hc,rfl,.inr ⟨z.1,rfl,List.mem_append.mpr (.inr (by simp))⟩⟩
    ·rw [if_neg e] at hd;exact ⟨d,hd,rfl,.inl rfl⟩
   ·exact Wt.refl M
theorem Wt.notes:∀ (l:List (Option Int)) (M:Wm),Wt M (aU M l).2
 | [],M=>Wt.refl M
 | x :: l,M=>(Wt.note M x).trans (Wt.notes l _)
theorem Wt.up (h:Wt M N) {x:Option Int} (w:wh N x):wh M x:=by
 obtain ⟨i,c',e,h1,h2⟩:=w;obtain ⟨c,h0,_,t⟩:=h.ce i c' h1;rw [h.se] at h2;rcases t with t | t
 ·exact ⟨i,c,e,h0,by rw [← t];exact h2⟩
 ·exact absurd t.2.1 h2
theorem Zfv (ph:M.sw.phase="walk") (x:Option Int):¬ wh (bL M x).2 x:=by
 rintro ⟨i,c',rfl,h1,h2⟩;unfold bL at h1 h2;dsimp only at h1 h2;cases hc:cellAt M i with
 | none=>
  rw [hc] at h1;have h1:cellAt M i=some c':=h1;rw [hc] at h1;cases h1
 | some c=>
  rw [hc] at h1 h2;dsimp only at h1 h2
  by_cases z:c.tone≠M.sw.sense
  ·rw [if_pos ⟨ph,z⟩] at h1 h2;have h1:cellAt (setCell M i { c with tone:=M.sw.sense }) i=some c':=h1;rw [iu hc,if_pos rfl] at h1;cases h1;exact h2 rfl
  ·rw [if_neg (fun y=>z y.2)] at h1 h2;have h1:cellAt M i=some c':=h1;rw [hc] at h1;cases h1;exact z h2
theorem QV (l:List (Option Int)):∀ (M:Wm),M.sw.phase="walk"→∀ x∈l,¬ wh (aU M l).2 x:=by
 induction l with
 | nil=>intro M ph x hx;cases hx
 | cons y l ih=>
  intro M ph x hx w;have w:wh (aU (bL M y).2 l).2 x:=w;rcases List.mem_cons.mp hx with e | hx
  ·subst e;exact Zfv ph x ((Wt.notes l _).up w)
  ·exact ih _ ((Wt.note M y).ph.trans ph) x hx w
theorem Zcq (ph:M.sw.phase="walk") {x:Option Int} (h:(bL M x).1=none):(bL M x).2=M∧¬ wh M x:=by
 cases x with
 | none=>exact ⟨rfl,fun ⟨_,_,e,_⟩=>nomatch e⟩
 | some i=>
  unfold bL at h ⊢;dsimp only at h ⊢;cases hc:cellAt M i with
  | none=>exact ⟨rfl,fun ⟨j,c,e,h1,_⟩=>by cases e;rw [hc] at h1;cases h1⟩
  | some c=>
   rw [hc] at h;dsimp only at h ⊢
   by_cases z:c.tone≠M.sw.sense
   ·rw [if_pos ⟨ph,z⟩] at h;cases h
   ·rw [if_neg (fun y=>z y.2)];exact ⟨rfl,fun ⟨j,d,e,h1,h2⟩=>by cases e;rw [hc] at h1;cases h1;exact z h2⟩
theorem Zcp (l:List (Option Int)):∀ (M:Wm),M.sw.phase="walk"→(aU M l).1=[]→∀ x∈l,¬ wh M x:=by
 induction l with
 | nil=>intro M ph h x hx;cases hx
 | cons y l ih=>
  intro M ph h x hx;have h:ZK (bL M y).1 ++ (aU (bL M y).2 l).1=[]:=h;obtain ⟨h1,h2⟩:=List.append_eq_nil_iff.mp h;have hn:(bL M y).1=none:=by
   cases e:(bL M y).1 with
   | none=>rfl
   | some b=>rw [e] at h1;cases h1
  obtain ⟨e2,nw⟩:=Zcq ph hn;rw [e2] at h2;rcases List.mem_cons.mp hx with e | hx
  ·rw [e];exact nw
  ·exact ih M ph h2 x hx
theorem vC.wt (p:vC M) (h:Wt M N):vC N:=by
 refine ⟨by rw [h.ph];exact p.ph,fun z=>by rw [h.lk];exact p.lk (by rw [← h.ph];exact z),by rw [h.ww];exact p.w2,by rw [h.tl];exact p.tl,fun z i c' h1 h2 h3 x hx w=>?_,fun z m hm x hx w=>?_⟩
 ·rw [h.ph] at z h3;rw [h.se] at h2;obtain ⟨c,h0,f0,t0⟩:=h.ce i c' h1;rw [f0] at hx;have tc:c.tone=M.sw.sense:=by
   rcases t0 with t0 | ⟨pw,_,g⟩
   ·rw [← t0];exact h2
   ·exact absurd g (h3 pw)
  exact p.fd z i c h0 tc (fun pw g=>h3 pw (h.gr i g)) x hx (h.up w)
 ·rw [h.ph] at z;rw [h.hd] at hm;exact p.hd z m hm x hx (h.up w)
theorem Zg6 {h s:Nat}{x y:Option Int}{m:Str×List (Option Int)} (hm:m∈(setSlot M h s x).hands) (hy:y∈m.2):y=x∨∃ m0∈M.hands,y∈m0.2:=by
 obtain ⟨i,hi,e0⟩:=List.getElem_of_mem hm;have e1:(M.hands.modify h fun m=>(m.1,m.2.set s x))[i]? =some m:=by rw [← e0];exact bW hi
 rw [List.getElem?_modify] at e1;cases em:M.hands[i]? with
 | none=>rw [em] at e1;cases e1
 | some m0=>
  rw [em] at e1
  by_cases z:h=i
  ·have e3:(m0.1,m0.2.set s x)=m:=by simpa [z] using e1
   rw [← e3] at hy;rcases List.mem_or_eq_of_mem_set (show y∈m0.2.set s x from hy) with w | w
   ·exact .inr ⟨m0,List.mem_of_getElem? em,w⟩
   ·exact .inl w
  ·have e3:m0=m:=by simpa [z] using e1
   exact .inr ⟨m0,List.mem_of_getElem? em,by rw [e3];exact hy⟩
theorem vC.slot (p:vC M) (h s:Nat) (x:Option Int) (hx:M.sw.phase="give"→¬ wh M x):vC (setSlot M h s x):=
 ⟨p.ph,p.lk,p.w2,p.tl,p.fd,fun z m hm y hy w=>by
  rcases Zg6 hm hy with e | ⟨m0,h0,h1⟩
  ·subst e;exact hx z w
  ·exact p.hd z m0 h0 y h1 w⟩
theorem vQ:¬ wh M none:=fun ⟨_,_,e,_⟩=>nomatch e
theorem vC.nsl (p:vC M) (h k:Nat) (z:M.sw.phase="give"):¬ wh M (aR M h k):=by
 intro w;unfold aR at w;cases hm:M.hands[h]? with
 | none=>rw [hm] at w;exact vQ w
 | some m=>
  rw [hm] at w;have w:wh M (m.2[k]?).join:=w;cases hk:m.2[k]? with
  | none=>rw [hk] at w;exact vQ w
  | some x=>
   rw [hk] at w;exact p.hd z m (List.mem_of_getElem? hm) x (List.mem_of_getElem? hk) w
theorem Zic {i:Int}{c c':Ce} (h:cellAt M i=some c) (ht:c'.tone=c.tone) {y:Option Int} (w:wh (setCell M i c') y):wh M y:=by
 obtain ⟨k,d,e,h1,h2⟩:=w;rw [iu h] at h1
 by_cases z:k=i
 ·rw [if_pos z] at h1;cases h1;exact ⟨k,c,e,by rw [z];exact h,by rw [← ht];exact h2⟩
 ·rw [if_neg z] at h1;exact ⟨k,d,e,h1,h2⟩
theorem vC.put (p:vC M) {i:Int}{c c':Ce} (h:cellAt M i=some c) (ht:c'.tone=c.tone) {x:Option Int}{l:List (Option Int)} (hf:∀ y∈c'.fl,y∈c.fl∨y=x) (hx:¬ wh M x∨(M.sw.phase="walk"∧x∈l)∨M.sw.phase="rest"):vC (aU (setCell M i c') l).2:=by
 have W:=Wt.notes l (setCell M i c');have up:∀ {y:Option Int},wh (aU (setCell M i c') l).2 y→wh M y:=fun w=>Zic h ht (W.up w);refine ⟨by rw [W.ph];exact p.ph,fun z=>by rw [W.lk];exact p.lk (by rw [W.ph] at z;exact z),by rw [W.ww];exact p.w2,by rw [W.tl];exact p.tl,fun z k d h1 h2 h3 y hy w=>?_,fun z m hm y hy w=>?_⟩
 ·rw [W.ph] at z h3;rw [W.se] at h2;obtain ⟨d1,h0,f0,t0⟩:=W.ce k d h1;rw [f0] at hy;have td:d1.tone=M.sw.sense:=by
   rcases t0 with t0 | ⟨pw,_,g⟩
   ·rw [← t0];exact h2
   ·exact absurd g (h3 pw)
  rw [iu h] at h0
  by_cases e:k=i
  ·rw [if_pos e] at h0;cases h0;subst e;rcases hf y hy with hy | hy
   ·exact p.fd z k c h (by rw [← ht];exact td) (fun pw g=>h3 pw (W.gr k g)) y hy (up w)
   ·subst hy;rcases hx with hx | hx | hx
    ·exact hx (up w)
    ·exact QV l (setCell M k c') hx.1 y hx.2 w
    ·exact z hx
  ·rw [if_neg e] at h0;exact p.fd z k d1 h0 td (fun pw g=>h3 pw (W.gr k g)) y hy (up w)
 ·rw [W.ph] at z;rw [W.hd] at hm;exact p.hd z m hm y hy (up w)
theorem vC.new (p:vC M) {u:Int}{c:Ce} (ht:c.tone=M.sw.sense) (hf:∀ y∈c.fl,y=none) (h s:Nat):vC (setSlot { M with used:=u,born:=M.born + 1,cells:=mD M.cells c } h s (some (jW M.cells))):=by
 have up:∀ {y:Option Int},wh { M with used:=u,born:=M.born + 1,cells:=mD M.cells c } y→wh M y:=fun {y} w=>by
  obtain ⟨i,d,e,h1,h2⟩:=w;rcases gb h1 with ⟨_,z⟩ | z
  ·rw [z] at h2;exact absurd ht h2
  ·exact ⟨i,d,e,z,h2⟩
 have q:vC { M with used:=u,born:=M.born + 1,cells:=mD M.cells c }:=⟨p.ph,p.lk,p.w2,p.tl,fun z i d h1 h2 h3 y hy w=>by
  rcases gb h1 with ⟨_,e⟩ | e
  ·rw [e] at hy;rw [hf y hy] at w;exact vQ w
  ·exact p.fd z i d e h2 h3 y hy (up w),fun z m hm y hy w=>p.hd z m hm y hy (up w)⟩
 refine q.slot h s _ fun _ w=>?_;obtain ⟨i,d,e,h1,h2⟩:=w;cases e;have h3:cellAt { M with used:=u,born:=M.born + 1,cells:=mD M.cells c } ((jW M.cells:Nat):Int)=some c:=cu.mpr ⟨by omega,by rw [Int.toNat_natCast];exact Du M.cells c⟩;rw [h3] at h1;cases h1;exact h2 ht
theorem vC.told (p:vC M) (wk:M.sw.phase="walk") (h:Nat):(oR M && !cR M h)=true:=by
 have e1:oR M=true:=decide_eq_true p.tl;have e2:cR M h=false:=by
  unfold cR;rw [p.lk wk,Int.zero_ediv];rfl
 rw [e1,e2];rfl
theorem vC.deed (p:vC M) {d:mQ}{e:Ev}{M':Wm} (h:rz M d=.ok (e,M')):vC M':=by
 cases d with
 | make hh s many bulk=>
  simp only [rz] at h;split at h
  ·have h2:=(Except.ok.inj h);rw [← (Prod.mk.inj h2).2];exact p.new (c:=⟨M.born + 1,bulk,M.sw.sense,0,List.replicate many.toNat none⟩) rfl (fun y hy=>List.eq_of_mem_replicate hy) hh s
  ·cases h
 | get hh s t f=>
  simp only [rz] at h;split at h
  ·cases h
  ·rename_i x hx
   split at h
   ·cases h
   ·rename_i c hc
    split at h
    ·cases h
    ·rename_i v hv
     have h2:=(Except.ok.inj h);rw [← (Prod.mk.inj h2).2];refine p.slot _ _ _ fun z w=>?_;have nw:=p.nsl hh t z;rw [hx] at nw;have tc:c.tone=M.sw.sense:=Decidable.byContradiction fun y=>nw ⟨x,c,rfl,hc,y⟩;exact p.fd (by rw [z];decide) x c hc tc (fun pw=>absurd (z.symm.trans pw) (by decide)) v (List.mem_of_getElem? hv) w
 | put hh t f s=>
  simp only [rz] at h;split at h
  ·cases h
  ·split at h
   ·cases h
   ·rename_i c hc
    split at h
    ·cases h
    ·have h2:=(Except.ok.inj h);rw [← (Prod.mk.inj h2).2];refine p.put (x:=aR M hh s) (c':={ c with fl:=c.fl.set f (aR M hh s) }) hc rfl (fun y hy=>List.mem_or_eq_of_mem_set hy) ?_;rcases p.ph with z | z | z
     ·exact .inr (.inr z)
     ·exact .inr (.inl ⟨z,List.mem_append.mpr (.inr (by rw [if_pos (p.told z hh)];simp))⟩)
     ·exact .inl (p.nsl hh s z)
 | copy hh s t=>
  have h2:=(Except.ok.inj h);rw [← (Prod.mk.inj h2).2];exact p.slot _ _ _ fun z=>p.nsl hh t z
 | drop hh s=>
  have h2:=(Except.ok.inj h);rw [← (Prod.mk.inj h2).2];exact p.slot _ _ _ fun _=>vQ
 | give hh s g t=>
  have h2:=(Except.ok.inj h);rw [← (Prod.mk.inj h2).2];exact (p.slot _ _ _ fun z=>p.nsl hh s z).wt (Wt.notes _ _)
 | write hh t l=>
  simp only [rz] at h;split at h
  ·cases h
  ·split at h
   ·cases h
   ·rename_i c hc
    have h2:=(Except.ok.inj h);rw [← (Prod.mk.inj h2).2];exact p.put (x:=none) (l:=[]) (c':={ c with load:=l }) hc rfl (fun y hy=>.inl hy) (.inl vQ)
 | read hh t=>
  simp only [rz] at h;split at h
  ·cases h
  ·split at h
   ·cases h
   ·have h2:=(Except.ok.inj h);rw [← (Prod.mk.inj h2).2];exact p
 | name hh t z=>
  simp only [rz] at h;split at h
  ·cases h
  ·split at h
   ·cases h
   ·have h2:=(Except.ok.inj h);rw [← (Prod.mk.inj h2).2];exact ⟨p.ph,p.lk,p.w2,p.tl,p.fd,p.hd⟩
 | seek hh s z=>
  simp only [rz] at h;split at h
  ·cases h
  ·rename_i pl b _
   split at h
   ·have h2:=(Except.ok.inj h);rw [← (Prod.mk.inj h2).2];exact p.slot _ _ _ fun _=>vQ
   ·rename_i ng
    have h2:=(Except.ok.inj h);rw [← (Prod.mk.inj h2).2];refine (p.slot _ _ _ fun gv w=>?_).wt (Wt.notes _ _);obtain ⟨i,c,e,h3,h4⟩:=w;cases e;refine ng ?_;unfold pJ;rw [h3];show (if c.birth=b then decide _ else true)=true;split
    ·exact decide_eq_true ⟨gv,h4⟩
    ·rfl
end
section
variable {M M':Wm}{w0:Int}
theorem Wt.nh (bits:Int):∀ (l:List (Str×List (Option Int))) (j:Nat) (M:Wm),Wt M (jE bits l j M).2:=fun l j M=>by
 rw [Zba];exact Wt.notes _ _
theorem Zk3 {bits:Int}{m:Str×List (Option Int)}{x:Option Int} (hx:x∈m.2) (l:List (Str×List (Option Int))):∀ (k:Nat),(∀ j,k≤j→j < k + l.length→bits / 2 ^ j % 2=1)→m∈l→x∈nhL bits l k:=by
 induction l with
 | nil=>intro k h hm;cases hm
 | cons a l ih=>
  intro k h hm;unfold nhL;rw [if_pos (h k (Nat.le_refl _) (by rw [List.length_cons];omega))];rcases List.mem_cons.mp hm with e | hm
  ·rw [← e];exact List.mem_append.mpr (.inl hx)
  ·exact List.mem_append.mpr (.inr (ih (k + 1) (fun j h1 h2=>h j (by omega) (by rw [List.length_cons];omega)) hm))
theorem Ww {n j:Nat} (h:j < n):((2:Int) ^ n - 1) / 2 ^ j % 2=1:=by
 have h1:=Nat.testBit_two_pow_sub_one n j;rw [Nat.testBit_eq_decide_div_mod_eq,decide_eq_true h] at h1;have h2:(2 ^ n - 1) / 2 ^ j % 2=1:=of_decide_eq_true h1;have h3:1≤2 ^ n:=Nat.one_le_two_pow;have e:((2:Int) ^ n - 1)=((2 ^ n - 1:Nat):Int):=by rw [Int.natCast_sub h3];simp
 rw [e];have:(((2 ^ n - 1) / 2 ^ j % 2:Nat):Int)=1:=by rw [h2];rfl
 rw [← this];simp
theorem vC.hands (p:vC M) (ph:M.sw.phase="walk") (cd:xX M):∀ m∈M.hands,∀ x∈m.2,¬ wh M x:=by
 intro m hm x hx;have el:eX M=2 ^ M.hands.length - 1:=by unfold eX W7;rw [p.w2];rfl
 have hn:1≤M.hands.length:=List.length_pos_of_mem hm;rcases cd with z | ⟨_,z⟩
 ·rw [el] at z;have h1:=Ww (n:=M.hands.length) (j:=0) (by omega);rw [z] at h1;exact absurd h1 (by decide)
 ·rw [Zba] at z;refine Zcp _ M ph z x (Zk3 hx M.hands 0 (fun j _ h2=>?_) hm);rw [el];exact Ww (by omega)
theorem Zld {F:KB.Fd}{R:KB.Rw}{P:Int→Prop} (h0:∀ row∈R,∀ y,some y∈row→P y) (h1:∀ y fl,P y→KB.Rt F y=some fl→∀ z,some z∈fl→P z) {q l:List (Int×List Int)}{k:Nat} (b:KB.Km F R q k l):(∀ x∈q,P x.1)∧∀ x∈l,P x.1:=by
 induction b with
 | start=>
  refine ⟨fun x hx=>?_,fun x hx=>nomatch hx⟩;obtain ⟨⟨row,n⟩,hm,h⟩:=List.mem_flatMap.mp hx;obtain ⟨k,hk,_,_⟩:=KB.Ag (q:=x.1) (v:=x.2) h;exact h0 row (List.mem_of_getElem? (List.mem_zipIdx_iff_getElem?.mp hm)) x.1 (List.mem_of_getElem? hk)
 | old _ _ _ ih=>exact ih
 | @new q k l y w fl b hq hn hf ih=>
  have py:P y:=ih.1 _ (List.mem_of_getElem? hq);refine ⟨fun x hx=>?_,fun x hx=>?_⟩
  ·rcases List.mem_append.mp hx with hx | hx
   ·exact ih.1 x hx
   ·obtain ⟨k,hk,_,_⟩:=KB.Ag (q:=x.1) (v:=x.2) hx;exact h1 y fl py hf x.1 (List.mem_of_getElem? hk)
  ·rcases List.mem_append.mp hx with hx | hx
   ·exact ih.2 x hx
   ·rw [List.mem_singleton.mp hx];exact py
theorem vC.found (p:vC M) (ph:M.sw.phase="walk") (hg:M.sw.grey=[]) (cd:xX M) {q qs:List (Int×List Int)}{k:Nat} (b:KB.Km (fdOf M) (iC M) q k qs) {x:Int×List Int} (hx:x∈qs) {c:Ce} (hc:cellAt M x.1=some c):c.tone=M.sw.sense:=by
 have nwx:¬ wh M (some x.1):=by
  refine (Zld (P:=fun y=>¬ wh M (some y)) (fun row hr y hy=>?_) (fun y fl py hf z hz=>?_) b).2 x hx
  ·rcases List.mem_append.mp hr with hr | hr
   ·obtain ⟨m,hm,rfl⟩:=List.mem_map.mp hr;exact p.hands ph cd m hm _ hy
   ·rw [List.mem_singleton.mp hr] at hy;obtain ⟨m,hm,e⟩:=List.mem_map.mp hy;unfold Iu at e;split at e
    ·cases e
    ·split at e
     ·cases e
     ·rename_i d hd
      split at e
      ·cases e
      ·rename_i z
       have e:=Option.some.inj e;rintro ⟨i,d',e2,h3,h4⟩;cases e2;rw [← e,hd] at h3;cases h3;exact z ⟨decide_eq_true (.inl ph),h4⟩
  ·rw [Zab] at hf;obtain ⟨d,hd,rfl⟩:=Option.map_eq_some_iff.mp hf;have td:d.tone=M.sw.sense:=Decidable.byContradiction fun h=>py ⟨y,d,rfl,hd,h⟩;exact p.fd (by rw [ph];decide) y d hd td (fun _=>by rw [hg];simp) _ hz
 exact Decidable.byContradiction fun h=>nwx ⟨x.1,c,rfl,hc,h⟩
theorem vC.step (p:vC M) (tb:TB w0 M) {lb:Int}{lw:List Int}{e:Ev} (h:rA lb lw M e M'):vC M':=by
 cases h with
 | begin ph=>
  refine vC.wt ?_ (Wt.nh _ _ _ _);refine ⟨.inr (.inl rfl),fun _=>?_,p.w2,p.tl,fun _ i c hc ht=>?_,fun z=>absurd z (show ¬ ("walk":Str)="give" by decide)⟩
  ·show nj M.w M.hands.length=0;unfold nj;rw [p.w2];rfl
  ·have h1:=tb.rs ph i c hc;have h2:=tb.se;have h3:c.tone=1 - M.sw.sense:=ht;omega
 | walk x g c ph hg hc=>
  have W:=Wt.notes c.fl { M with sw:={ M.sw with grey:=g,walks:=M.sw.walks + 1 } };have up:∀ {y:Option Int},wh (aU { M with sw:={ M.sw with grey:=g,walks:=M.sw.walks + 1 } } c.fl).2 y→wh M y:=fun w=>W.up w;refine ⟨.inr (.inl (W.ph.trans ph)),fun _=>by rw [W.lk];exact p.lk ph,by rw [W.ww];exact p.w2,by rw [W.tl];exact p.tl,fun _ i d h1 h2 h3 y hy w=>?_,fun z=>absurd (W.ph.symm.trans z) (by show ¬ M.sw.phase=_;rw [ph];decide)⟩;have h3:=h3 (W.ph.trans ph);rw [W.se] at h2;obtain ⟨d1,k1,f1,t1⟩:=W.ce i d h1;rw [f1] at hy;have td:d1.tone=M.sw.sense:=by
   rcases t1 with t1 | ⟨_,_,gr⟩
   ·rw [← t1];exact h2
   ·exact absurd gr h3
  have k1:cellAt M i=some d1:=k1
  by_cases ex:i=x
  ·rw [ex,hc] at k1;cases k1;exact QV c.fl { M with sw:={ M.sw with grey:=g,walks:=M.sw.walks + 1 } } ph y hy w
  ·refine p.fd (by rw [ph];decide) i d1 k1 td (fun _ gr=>?_) y hy (up w);rw [hg] at gr;rcases List.mem_cons.mp gr with gr | gr
   ·exact ex gr
   ·exact h3 (W.gr i gr)
 | look N ph hg nc hN=>
  subst hN;have q:=p.wt (Wt.nh (eX M) M.hands 0 M);refine ⟨q.ph,fun z=>?_,q.w2,q.tl,q.fd,q.hd⟩;show (if M.w=2 then (jE (eX M) M.hands 0 M).2.sw.looked else _)=0;rw [if_pos p.w2];exact q.lk z
 | cut q qs ph hg cd bf hno=>
  exact ⟨.inr (.inr rfl),fun z=>absurd z (show ¬ ("give":Str)="walk" by decide),p.w2,p.tl,fun _ i c hc ht _=>p.fd (by rw [ph];decide) i c hc ht (fun _=>by rw [hg];simp),fun _=>p.hands ph cd⟩
 | lost q qs i x c v ph hg cd bf hx hno hc ht=>exact absurd (p.found ph hg cd bf (List.mem_of_getElem? hx) hc) ht
 | pass ph lt hp=>exact ⟨p.ph,p.lk,p.w2,p.tl,p.fd,p.hd⟩
 | back c ph lt hc ht=>
  have gt:∀ (u:Int) (w:Sw) (i:Int) (d:Ce),cellAt { M with used:=u,cells:=M.cells.set M.sw.at'.toNat none,sw:=w } i=some d→cellAt M i=some d:=fun u w i d hd=>by
   obtain ⟨h0,h1⟩:=cu.mp hd;have h1:(M.cells.set M.sw.at'.toNat none)[i.toNat]? =some (some d):=h1;obtain ⟨k0,k1⟩:=cu.mp hc
   by_cases z:M.sw.at'.toNat=i.toNat
   ·rw [z,List.getElem?_set_self (by rw [← z];exact (dN k1).1)] at h1;cases h1
   ·rw [List.getElem?_set_ne z] at h1;exact cu.mpr ⟨h0,h1⟩
  have up:∀ {y:Option Int},wh { M with used:=M.used - (1 + c.fl.length + c.bulk),cells:=M.cells.set M.sw.at'.toNat none,sw:={ M.sw with at':=M.sw.at' + 1,passes:=M.sw.passes + 1 } } y→wh M y:=fun ⟨i,d,e,h1,h2⟩=>⟨i,d,e,gt _ _ i d h1,h2⟩;exact ⟨p.ph,p.lk,p.w2,p.tl,fun z i d h1 h2 h3 y hy w=>p.fd z i d (gt _ _ i d h1) h2 h3 y hy (up w),fun z m hm y hy w=>p.hd z m hm y hy (up w)⟩
 | fin ph lt=>exact ⟨.inl rfl,fun z=>absurd z (show ¬ ("rest":Str)="walk" by decide),p.w2,p.tl,fun z=>absurd rfl z,fun z=>absurd z (show ¬ ("rest":Str)="give" by decide)⟩
 | again ph=>
  rcases p.ph with z | z | z
  ·exact absurd (ph.symm.trans z) (by decide)
  ·exact absurd (ph.symm.trans z) (by decide)
  ·exact absurd (ph.symm.trans z) (by decide)
theorem Zd5 (p:vC M) {lb:Int}{lw:List Int}{e:Ev} (h:rA lb lw M e M') (hw:e.word="look"):e.notes≠[]:=by
 cases h with
 | begin ph=>exact absurd hw (show ¬ ("begin":Str)="look" by decide)
 | walk x g c ph hg hc=>exact absurd hw (show ¬ ("walk":Str)="look" by decide)
 | look N ph hg nc hN=>exact fun z=>nc (.inr ⟨p.w2,z⟩)
 | cut q qs ph hg cd bf hno=>exact absurd hw (show ¬ ("cut":Str)="look" by decide)
 | lost q qs i x c v ph hg cd bf hx hno hc ht=>exact absurd hw (show ¬ ("lost":Str)="look" by decide)
 | pass ph lt hp=>exact absurd hw (show ¬ ("pass":Str)="look" by decide)
 | back c ph lt hc ht=>exact absurd hw (show ¬ ("back":Str)="look" by decide)
 | fin ph lt=>exact absurd hw (show ¬ ("end":Str)="look" by decide)
 | again ph=>exact absurd hw (show ¬ ("lost":Str)="look" by decide)
theorem vC.bad (p:vC M) (tb:TB w0 M) {y:Option Int}{b:Int} (nw:¬ wh M y) (hb:vY M y=some b):∃ z:Str,vD (tcs M) b=some (.str z)∧z≠(if M.sw.phase="walk" then ("pale":Str) else ("doomed":Str)):=by
 cases y with
 | none=>cases hb
 | some i=>
  have hb:(cellAt M i).map (·.birth)=some b:=hb;obtain ⟨c,hc,rfl⟩:=Option.map_eq_some_iff.mp hb;have tc:c.tone=M.sw.sense:=Decidable.byContradiction fun h=>nw ⟨i,c,rfl,hc,h⟩;refine ⟨_,tb.Zr8 (XF hc),?_⟩;unfold q8;rcases p.ph with z | z | z
  ·rw [z,if_pos rfl,if_neg (show ¬ ("rest":Str)="walk" by decide)];decide
  ·rw [z,if_neg (show ¬ ("walk":Str)="rest" by decide),if_neg (show ¬ ("walk":Str)="give" by decide),if_pos tc,if_pos rfl];split
   ·decide
   ·decide
  ·rw [z,if_neg (show ¬ ("give":Str)="rest" by decide),if_pos rfl,if_pos tc,if_neg (show ¬ ("give":Str)="walk" by decide)];decide
theorem vC.row (p:vC M) (tb:TB w0 M) {t:Int×Ce} (ht:t∈jU M) (hm:q8 M t.1 t.2=("dark":Str)∨q8 M t.1 t.2=("kept":Str)) {y:Option Int} (hy:y∈t.2.fl):¬ wh M y:=by
 have hc:=yF ht;rcases p.ph with z | z | z
 ·rintro ⟨i,c,_,h1,h2⟩;exact h2 (tb.rs z i c h1)
 ·have e:t.2.tone=M.sw.sense∧t.1∉M.sw.grey:=by
   rw [Zcu z] at hm
   by_cases h1:t.2.tone=M.sw.sense
   ·refine ⟨h1,fun h2=>?_⟩;rw [if_pos h1,if_pos h2] at hm;rcases hm with hm | hm<;>exact absurd hm (by decide)
   ·rw [if_neg h1] at hm;rcases hm with hm | hm<;>exact absurd hm (by decide)
  exact p.fd (by rw [z];decide) t.1 t.2 hc e.1 (fun _=>e.2) y hy
 ·have e:t.2.tone=M.sw.sense:=by
   unfold q8 at hm;rw [z,if_neg (show ¬ ("give":Str)="rest" by decide),if_pos rfl] at hm
   by_cases h1:t.2.tone=M.sw.sense
   ·exact h1
   ·rw [if_neg h1] at hm;rcases hm with hm | hm<;>exact absurd hm (by decide)
  exact p.fd (by rw [z];decide) t.1 t.2 hc e (fun w=>absurd (z.symm.trans w) (by decide)) y hy
theorem vC.held (p:vC M) (tb:TB w0 M) (nwk:M.sw.phase≠"walk") {m:Str×List (Option Int)} (hm:m∈M.hands) {y:Option Int} (hy:y∈m.2):¬ wh M y:=by
 rcases p.ph with z | z | z
 ·rintro ⟨i,c,_,h1,h2⟩;exact h2 (tb.rs z i c h1)
 ·exact absurd z nwk
 ·exact p.hd z m hm y hy
end
def RwG (f:Int→Option V) (bad:Str) (v:V) (H:Hp):Prop:=∃ r,v=.ref r∧∃ x:List (Option Int),H r=some (.lst (x.map oV))∧∀ b,some b∈x→∃ z:Str,f b=some (.str z)∧z≠bad
theorem RwG.mono {f:Int→Option V}{bad:Str}{v:V}{H H':Hp} (h:RwG f bad v H) (s:aX H H'):RwG f bad v H':=by
 obtain ⟨r,e,x,h1,h2⟩:=h;exact ⟨r,e,x,s _ _ h1,h2⟩
theorem Zcv (z:Str) (f:Int→Option V) (b:Int):Ec z f [] b=f b:=by unfold Ec;rw [if_neg (by simp)]
def Fe (X:Cs):Sp:=fun vs H Q E=>∃ wo,vs=[.ref wo]∧∃ T s A M w0,WJ X H T s A M∧A.wo=wo∧Vr M∧TB w0 M∧vC M∧∀ H',aX H H'→Q (.bl true) H'
section
theorem Zbh {wo lc d l:Addr}{ph bad:Str}{f:Int→Option V}{k:Nat}{ys:List V}{v6 v7:Option V} (ol:H l=some (.lst ys)) (hy:∀ y∈ys,RwG f bad y H) (od:MkO H d f k) (nl:ph≠"lost") (q:Q (.bl true) H):
  nJ K ⟨n,Q,bk,ct⟩ [some (.ref wo),some (.ref lc),some (.ref d),some (.str ph),some (.ref l),some (.str bad),v6,v7] H:=by
 unfold nJ;walk_at "ev";refine ⟨l,rfl,⟨_,dz.of ol⟩,forL ys (fun i σ Hx=>∃ v6 v7,σ=[some (.ref wo),some (.ref lc),some (.ref d),some (.str ph),some (.ref l),some (.str bad),v6,v7]∧Hx=H) ⟨_,_,rfl,rfl⟩ (fun _ _ _ _ ⟨_,_,_,e⟩=>by rw [e];exact dz.of ol) ?_ ?_⟩
 ·rintro i y σ Hx hi ⟨v6,v7,rfl,rfl⟩;obtain ⟨r,rfl,x,hr,hx⟩:=hy y (List.mem_of_getElem? hi);walk_at "ev";refine ⟨r,rfl,⟨_,dz.of hr⟩,forL (x.map oV) (fun i σ Hy=>∃ v7,σ=[some (.ref wo),some (.ref lc),some (.ref d),some (.str ph),some (.ref l),some (.str bad),some (.ref r),v7]∧Hy=Hx) ⟨_,rfl,rfl⟩ (fun _ _ _ _ ⟨_,_,e⟩=>by rw [e];exact dz.of hr) ?_ ?_⟩
  ·rintro i' y' σ Hy hi' ⟨v7',rfl,rfl⟩;rw [cP] at hi';obtain ⟨b,hb,rfl⟩:=Option.map_eq_some_iff.mp hi';cases b with
   | none=>
    rw [show oV none=V.non from rfl];walk_at "ev";exact ⟨_,rfl,rfl⟩
   | some b=>
    obtain ⟨z,hz,nz⟩:=hx b (List.mem_of_getElem? hb);rw [show oV (some b)=V.int b from rfl];walk_at "ev";refine ⟨d,_,rfl,od.get hz,?_⟩;walk_at "ev";refine vB (fun e=>absurd e nz) (fun _=>?_);walk_at "ev";exact ⟨_,rfl,rfl⟩
  ·rintro σ Hy ⟨v7',rfl,rfl⟩;exact ⟨_,_,rfl,rfl⟩
 ·rintro σ Hx ⟨v6',v7',rfl,rfl⟩;walk_at "ev";rw [decide_eq_false nl];exact q
theorem P0 {wo:Addr} (Tx:pD K X) (q:∃ T s A M w0,WJ X H T s A M∧A.wo=wo∧Vr M∧TB w0 M∧vC M∧∀ H',aX H H'→Q (.bl true) H'):
  uM K (J9 K) (Ff X) (Vs X) ⟨n,Q,bk,ct⟩ [some (.ref wo),none,none,none,none,none,none,none] H:=by
 obtain ⟨T,s,A,M,w0,j,rfl,ok,tb,tr,q⟩:=q;obtain ⟨dw,ow⟩:=j.jb.ow;obtain ⟨ds,os⟩:=j.js.os;have hcl:=ok.cl;have l5:=j.jd.l5;have lh:=j.jd.lh;have ltl:=Zeh (M:=M);have ltc:=Zaz (M:=M);have nl:M.sw.phase≠"lost":=by
  rcases tr.ph with z | z | z<;>rw [z]<;>decide
 unfold uM;walk_at "ev";refine ⟨_,rfl,T,s,A,M,j,rfl,by omega,fun c hc=>by have:=ok.fl c hc;omega,fun lc rs H1 s1 o1 hl hr _=>?_⟩;have oc:CtO H1 lc (tcs M):=⟨rs,o1,by rw [hl];exact Zaz.symm,fun i r x e1 e2=>by
  unfold tcs at e2;rw [cP] at e2;obtain ⟨t,ht,rfl⟩:=Option.map_eq_some_iff.mp e2;obtain ⟨fa,z,_⟩:=hr i r t e1 ht;exact ⟨fa,z⟩⟩
 walk_at "ev";refine ⟨aW (by simp),fun e0 ne0=>?_⟩;have s2:=aM ne0 (.lst []);have g2:upd H1 e0 (.lst []) e0=some (.lst (([]:List Int).map V.int)):=aq;generalize upd H1 e0 (.lst [])=H2 at s2 g2 ⊢;walk_at "ev";refine ⟨_,_,_,rfl,tcs M,[],oc.same s2,by omega,g2,by simp,fun d H3 s3 nd od=>?_⟩;have od:MkO H3 d (vD (tcs M)) 5000:=by
  obtain ⟨kvs,k1,k2,k3⟩:=od;exact ⟨kvs,k1,k2,fun b=>by rw [k3 b,Zcv]⟩
 have s13:=s1.trans (s2.trans s3);have oc3:=(oc.same s2).same s3;walk_at "ev";refine aK (s13 _ _ ow) Tx.cW Tx.Nu bw ?_;walk_at "ev";refine aK (s13 _ _ os) Tx.cS Tx.n2 iH ?_;walk_at "ev";obtain ⟨cls,c1,c2,c3⟩:=id oc3;refine Jm ?_;walk_at "ev";refine ⟨_,rfl,⟨_,dz.of c1⟩,?_⟩;refine Zni (dz.of c1) (by rw [bD];omega) (RwG (vD (tcs M)) (if M.sw.phase="walk" then ("pale":Str) else ("doomed":Str))) (fun y _ _ h s=>h.mono s) (fun i x H4 hi s4 q' hq=>?_) fun ys H4 s4 ly hy l nl'=>?_
 ·rw [cP] at hi;obtain ⟨r,hr',rfl⟩:=Option.map_eq_some_iff.mp hi;have hlt:i < cls.length:=(dN hr').1;obtain ⟨t,ht⟩:∃ t,(jU M)[i]? =some t:=⟨_,bW (by omega)⟩;obtain ⟨fa,z1,z2⟩:=c3 i r _ hr' (Zm9 ht);have z1:=s4 _ _ z1;have z2:=s4 _ _ z2;walk_at "caps";walk_at "ev";refine ⟨r,_,5,_,rfl,rfl,iQ.of z1,rfl,?_⟩;walk_at "ev";refine ⟨aW (by simp),fun tt ntt=>?_⟩;refine ⟨tt,_,rfl,.inr (iQ.of aq),rfl,rfl,?_⟩;have s5:=aM ntt (.tup [.str "dark",.str "kept"]);generalize upd H4 tt (.tup [.str "dark",.str "kept"])=H5 at s5 ⊢;walk_at "ev";refine hq _ _ s5 fun hb q2 hq2=>?_;have hm:q8 M t.1 t.2=("dark":Str)∨q8 M t.1 t.2=("kept":Str):=by
   have hb:inV (.str (q8 M t.1 t.2)) [.str "dark",.str "kept"]=true:=hb;unfold inV at hb;rw [List.any_cons,List.any_cons,List.any_nil,Bool.or_false,Bool.or_eq_true] at hb;rcases hb with hb | hb
   ·exact .inl (of_decide_eq_true hb).symm
   ·exact .inr (of_decide_eq_true hb).symm
  walk_at "caps";walk_at "ev";refine ⟨r,_,4,_,rfl,rfl,iQ.of (s5 _ _ z1),rfl,?_⟩;refine hq2 _ _ (aX.refl _) ⟨fa,rfl,t.2.fl.map (vY M),s5 _ _ z2,fun b hb=>?_⟩;obtain ⟨y,hy,e⟩:=List.mem_map.mp hb;exact tr.bad tb (tr.row tb (List.mem_of_getElem? ht) hm hy) e
 have s5:=aM nl' (.lst ys);have g5:upd H4 l (.lst ys) l=some (.lst ys):=aq;generalize upd H4 l (.lst ys)=H5 at s5 g5 ⊢;have s35:=s4.trans s5;have s15:=s13.trans s35;have hy5:=fun y (h:y∈ys)=>(hy y h).mono s5;walk_at "ev";refine Xf (fun nwk=>?_) (fun wk=>?_)
 ·rw [if_neg nwk] at hy5;walk_at "ev";refine ⟨_,rfl,T,s,A,M,j.same s15,rfl,by omega,fun m hm=>by have:=ok.hl m hm;omega,fun lr rs2 H6 s6 o2 hl2 hr2 _=>?_⟩;have lml:(rowsOf M).length=M.hands.length:=by unfold rowsOf;rw [bD]
  walk_at "ev";refine ⟨l,lr,_,_,rfl,rfl,s6 _ _ g5,o2,aW (by rw [bD] at ly ⊢;omega),fun l3 n3=>?_⟩;have s7:=aM n3 (.lst (ys ++ rs2.map V.ref));have g7:upd H6 l3 (.lst (ys ++ rs2.map V.ref)) l3=some (.lst (ys ++ rs2.map V.ref)):=aq;generalize upd H6 l3 (.lst (ys ++ rs2.map V.ref))=H7 at s7 g7 ⊢;have s57:=s6.trans s7;walk_at "ev";refine Zbh g7 (fun y hy=>?_) ((od.same s35).same s57) nl (q _ (s15.trans s57));rcases List.mem_append.mp hy with hy | hy
  ·exact (hy5 y hy).mono s57
  ·obtain ⟨r,hr',rfl⟩:=List.mem_map.mp hy;obtain ⟨i,hi,e⟩:=List.getElem_of_mem hr';have hi2:i < (rowsOf M).length:=by omega
   refine ⟨r,rfl,_,s7 _ _ (hr2 i r _ (by rw [bW hi,e]) (bW hi2)),fun b hb=>?_⟩;have hrow:(rowsOf M)[i]∈rowsOf M:=List.getElem_mem hi2;generalize (rowsOf M)[i]=row at hb hrow;unfold rowsOf at hrow;obtain ⟨m,hm,rfl⟩:=List.mem_map.mp hrow;obtain ⟨y,hy,e⟩:=List.mem_map.mp hb;have:=tr.bad tb (tr.held tb nwk hm hy) e;rw [if_neg nwk] at this;exact this
 ·rw [if_pos wk] at hy5;walk_at "ev";exact Zbh g5 hy5 (od.same s35) nl (q _ s15)
end
section
theorem vC.Zri {room:Int}{hs:JR}{t:Int} (ht:t / 2 % 2=1):vC (O8 room hs 2 t):=
 ⟨.inl rfl,fun z=>absurd z (show ¬ ("rest":Str)="walk" by decide),rfl,ht,fun z=>absurd rfl z,fun z=>absurd z (show ¬ ("rest":Str)="give" by decide)⟩
theorem Znj {a:Addr} (Tx:pD K X) (q:∃ ns:List Int,dz K H a (ns.map V.int)∧ns.length≤63∧∀ H',Q (.bl true) H'):
  Ze K X.K X.L X.W (um X.K) (rP X) (pA K) (Kg X rf) (Kf K) (Fe X) (Vt K) (Ka K) (bR X Zfq) ⟨n,Q,bk,ct⟩ [some (.ref a),none,none,none,none,none] H:=by
 obtain ⟨ns0,hS,hlen,h⟩:=q;unfold Ze;walk_at "ev";refine ⟨a,rfl,ns0,hS,fun lh hs H1 s1 nlh ho hb=>?_⟩;walk_at "ev";intro lk dl nlk ndl nel;have t1:aX H1 (upd (upd H1 dl (.own lk)) lk (.ins X.L dl [])):=fun b o hb=>by rw [aB (aD hb nlk),aB (aD hb ndl)];exact hb
 have g1:upd (upd H1 dl (.own lk)) lk (.ins X.L dl []) lk=some (.ins X.L dl []):=aq;generalize upd (upd H1 dl (.own lk)) lk (.ins X.L dl [])=H1b at t1 g1 ⊢;walk_at "ev";refine ⟨a,0,rfl,ns0,(s1.trans t1).seq hS,by decide,fun z0=>?_⟩;walk_at "ev";have hz0:=Int.emod_nonneg z0 (show (2:Int)≠0 by decide);have hz1:=Int.emod_lt_of_pos z0 (show (0:Int) < 2 by decide);generalize z0 % 2=zb at hz0 hz1;intro ki dk nki ndk nek;have t2:aX H1b (upd (upd H1b dk (.own ki)) ki (.ins X.K dk [])):=fun b o hb=>by rw [aB (aD hb nki),aB (aD hb ndk)];exact hb
 have g2:upd (upd H1b dk (.own ki)) ki (.ins X.K dk []) ki=some (.ins X.K dk []):=aq;generalize upd (upd H1b dk (.own ki)) ki (.ins X.K dk [])=H1c at t2 g2 ⊢;refine ⟨ki,lk,2 + zb,rfl,dk,g2,fun H2 o3 k3=>⟨rfl,?_⟩⟩;have s2:aX H1 H2:=fun b o hb=>k3 b o (t2 _ _ (t1 _ _ hb)) (aD (t1 _ _ hb) nki);have Zrg:lk≠ki:=aD g1 nki;have kd:KdO X H2 ki lk 2 (2 + zb):=⟨⟨dk,o3⟩,⟨dl,rfl,k3 _ _ (t2 _ _ g1) Zrg⟩⟩;have s02:=s1.trans s2;have ho2:=ho.same s2;obtain ⟨ts,olh,al⟩:=id ho2;have lts:=al.length;have n5:=hb.n5;walk_at "ev";refine ⟨a,rfl,ns0,s02.seq hS,fun room=>?_⟩;walk_at "ev";refine Uu (dz.of olh) fun hl0 Zrh=>?_;have s3:=aM Zrh (.lst (ts.map V.ref));have g3:upd H2 hl0 (.lst (ts.map V.ref)) hl0=some (.lst (ts.map V.ref)):=aq;generalize upd H2 hl0 (.lst (ts.map V.ref))=H3 at s3 g3 ⊢;have kd3:=kd.same s3;have ho3:=ho2.same s3;have s03:=s02.trans s3;walk_at "ev";intro wo dx nwo ndx ned;have s7:aX H3 (upd (upd H3 dx (.own wo)) wo (.ins X.W dx [])):=fun b o hb=>by rw [aB (aD hb nwo),aB (aD hb ndx)];exact hb
 have g7:upd (upd H3 dx (.own wo)) wo (.ins X.W dx []) wo=some (.ins X.W dx []):=aq;generalize upd (upd H3 dx (.own wo)) wo (.ins X.W dx [])=H7 at s7 g7 ⊢;have kd7:=kd3.same s7;have nkw:ki≠wo:=by
  obtain ⟨⟨_,e⟩,_⟩:=kd3;exact aD e nwo
 have nlw:lk≠wo:=by
  obtain ⟨_,⟨_,_,e⟩⟩:=kd3;exact aD e nwo
 refine ⟨wo,_,ki,hl0,rfl,dx,fun _=>(0,0),1,lk,2,2 + zb,ts,hs,g7,fun _ _=>rfl,by decide,kd7,rfl,rfl,nkw,nlw,s7 _ _ g3,Zi4 lts fun i x m e1 e2=>?_,by omega,fun H8 T8 A8 k8 t8 w8 aw8 j8=>⟨rfl,?_⟩⟩
 ·obtain ⟨x',e3,z⟩:=al.get e2;rw [e1] at e3;cases e3;have:=hb.sb m (List.mem_of_getElem? e2);exact ⟨s7 _ _ (s3 _ _ z),by omega,by omega⟩
 have s38:aX H3 H8:=fun b o hb=>k8 b o (s7 _ _ hb) (aD hb nwo);have s08:aX H H8:=s03.trans s38;have ho8:=ho3.same s38;have p0:KW (O8 room hs 2 (2 + zb)) hs 0:=KW.new (by omega) (by omega);have tb0:TB 2 (O8 room hs 2 (2 + zb)):=TB.new;have tr0:vC (O8 room hs 2 (2 + zb)):=vC.Zri (by omega);generalize O8 room hs 2 (2 + zb)=M at j8 p0 tb0 tr0;clear k8 t8 s7 g7 kd7 kd3;walk_at "ev";refine ⟨a,lh,rfl,ns0,hs,s08.seq hS,hlen,ho8,hb,fun lr H9 s9 rl=>?_⟩;obtain ⟨_,nlr,vs,olr,lvs,rows⟩:=rl;have rk:∀ v∈vs,v=.non∨∃ t d,v=.ref t∧T8 t=(0,0)∧H9 t=some (.tup (dV d))∧okR hs d:=fun v hv=>by
  rcases rows v hv with z | ⟨t,d,e,f,o,k⟩
  ·exact .inl z
  ·exact .inr ⟨t,d,e,w8 _ f,o,k⟩
 refine ⟨lr,rfl,⟨_,dz.of olr⟩,forL vs (fun i σ Hx=>∃ T A M v4 v5,σ=[some (.ref a),some (.ref lh),some (.ref ki),some (.ref wo),v4,v5]∧WT Hx T∧WJ X Hx T 1 A M∧A.wo=wo∧KW M hs i∧TB 2 M∧vC M∧Hx lr=some (.lst vs)∧T lr=(0,0)∧∀ v∈vs,v=.non∨∃ t d,v=.ref t∧T t=(0,0)∧Hx t=some (.tup (dV d))∧okR hs d) ⟨T8,A8,M,_,_,rfl,w8.same s9,j8.same s9,aw8,p0,tb0,tr0,olr,w8 _ nlr,rk⟩ (fun _ _ _ _ ⟨_,_,_,_,_,_,_,_,_,_,_,_,z,_⟩=>dz.of z) ?_ ?_⟩
 ·rintro i x σ Hx hi ⟨T,A,M,v4,v5,rfl,w,j,aw,p,tb,tr,ol,tl,rk⟩;have hil:=(dN hi).1;have kp:∀ {H':Hp}{T':Tg},Kp Hx H' T T'→H' lr=some (.lst vs)∧T' lr=(0,0)∧∀ v∈vs,v=.non∨∃ t d,v=.ref t∧T' t=(0,0)∧H' t=some (.tup (dV d))∧okR hs d:=fun {H' T'} k=>by
   refine ⟨k.k _ _ ol (.inl (by rw [tl])),(k.tg _ _ ol).trans tl,fun v hv=>?_⟩;rcases rk v hv with z | ⟨t,d,e,f,o,kk⟩
   ·exact .inl z
   ·exact .inr ⟨t,d,e,(k.tg _ _ o).trans f,k.k _ _ o (.inl (by rw [f])),kk⟩
  have ok:=p.ok hb (by omega);have nlo:M.sw.phase≠"lost":=by
   rcases tr.ph with z | z | z<;>rw [z]<;>decide
  rcases rk x (List.mem_of_getElem? hi) with rfl | ⟨t,d,rfl,tt,ot,od⟩
  ·walk_at "ev";refine ⟨_,rfl,T,1,A,M,0,[],w,by decide,j,aw,ok,trivial,fun z=>absurd z nlo,fun e M' r H3 T3 A3 ev st j3 aw3 evn lo=>?_⟩;obtain ⟨le,nle,oe,ole⟩:=evn;have kw3:=(p.step r).mono (show i≤i + 1 by omega);have tb3:=tb.step r;have tr3:=tr.step tb r;have ok3:=kw3.ok hb (by omega);have kp3:∀ {H':Hp},aX H3 H'→Kp Hx H' T T3:=fun s'=>(Kp.stp st ⟨by decide,by decide⟩).trans (Kp.same s');walk_at "ev";refine ⟨ev,_,0,_,rfl,rfl,iQ.of oe,rfl,?_⟩;walk_at "ev";refine vB (fun hw=>?_) (fun _=>?_)
   ·walk_at "ev";refine ⟨ev,_,2,_,rfl,rfl,iQ.of oe,rfl,?_⟩;walk_at "ev";refine ⟨aW (by simp),fun e0 ne0=>?_⟩;have s4:=aM ne0 (.lst []);refine Zo5 (dz.of (s4 _ _ ole)) (dz.of aq) ?_;rw [decide_eq_false (fun z=>Zd5 tr r hw (List.map_eq_nil_iff.mp z))];generalize upd H3 e0 (.lst [])=H4 at s4 ⊢;walk_at "ev";refine ⟨_,rfl,T3,1,A3,M',2,j3.same s4,aw3.1,ok3,tb3,tr3,fun H5 s5=>?_⟩;have s35:=s4.trans s5;walk_at "ev";obtain ⟨k1,k2,k3⟩:=kp (kp3 s35);exact ⟨T3,A3,M',_,_,rfl,st.wt.same s35,j3.same s35,aw3.1,kw3,tb3,tr3,k1,k2,k3⟩
   ·walk_at "ev";refine ⟨_,rfl,T3,1,A3,M',2,j3,aw3.1,ok3,tb3,tr3,fun H5 s5=>?_⟩;walk_at "ev";obtain ⟨k1,k2,k3⟩:=kp (kp3 s5);exact ⟨T3,A3,M',_,_,rfl,st.wt.same s5,j3.same s5,aw3.1,kw3,tb3,tr3,k1,k2,k3⟩
  ·have hcl:=ok.cl;have hnl:=ok.nl;walk_at "ev";refine ⟨_,t,rfl,T,1,A,M,d,w,by decide,j,aw,ot,p.okD od,hcl,fun z=>by have:=ok.gl z;omega,p.tl,by omega,fun r er H' sm=>?_,fun e M' he H' T' A' av st j' aw' ev=>?_⟩
   ·walk_at "ev";refine ⟨_,rfl,T,1,A,M,2,j.same sm,aw,ok,tb,tr,fun H5 s5=>?_⟩;have s35:=sm.trans s5;walk_at "ev";obtain ⟨k1,k2,k3⟩:=kp (Kp.same s35);exact ⟨T,A,M,_,_,rfl,w.same s35,j.same s35,aw,p.mono (by omega),tb,tr,k1,k2,k3⟩
   ·have kw3:=p.deed od he;have tb3:=tb.deed he;have tr3:=tr.deed he;walk_at "ev";refine ⟨_,rfl,T',1,A',M',2,j',aw',kw3.ok hb (by omega),tb3,tr3,fun H5 s5=>?_⟩;walk_at "ev";obtain ⟨k1,k2,k3⟩:=kp ((Kp.stp st ⟨by decide,by decide⟩).trans (Kp.same s5));exact ⟨T',A',M',_,_,rfl,st.wt.same s5,j'.same s5,aw',kw3,tb3,tr3,k1,k2,k3⟩
 ·rintro σ Hx ⟨T,A,M,v4,v5,rfl,w,j,aw,p,tb,tr,ol,tl,rk⟩;walk_at "ev";exact h _
end
def top (i:Nat):Stmt:=PySem.Challenge.pw_greywalk_k31_no_dark_holds_pale.main.body.getD i (.Pass ⟨0,0,0,0⟩)
abbrev qO:Stmt:=inClass (top 8) 0
abbrev wM:Stmt:=inClass (top 8) 1
abbrev pQ:Stmt:=inClass (top 8) 2
abbrev qM:Stmt:=inClass (top 9) 0
abbrev tO:Stmt:=inClass (top 9) 1
abbrev BR:Stmt:=inClass (top 9) 2
abbrev yZ:Stmt:=inClass (top 9) 3
abbrev yX:Stmt:=inClass (top 9) 4
abbrev wL:Stmt:=inClass (top 9) 5
abbrev Gh:Stmt:=top 10
abbrev BP:Stmt:=top 11
abbrev FQ:Stmt:=top 13
abbrev KY:Stmt:=top 14
abbrev qN:Stmt:=inClass (top 16) 0
abbrev nF:Stmt:=inClass (top 17) 0
abbrev pO:Stmt:=inClass (top 18) 0
abbrev Y9:Stmt:=top 19
abbrev uE:Stmt:=top 20
abbrev yL:Stmt:=top 21
abbrev yI:Stmt:=top 22
abbrev yJ:Stmt:=top 23
abbrev wD:Stmt:=top 24
abbrev FT:Stmt:=top 25
abbrev wz:Stmt:=top 26
abbrev yH:Stmt:=top 27
abbrev S9:Stmt:=top 28
abbrev Y8:Stmt:=top 29
abbrev BJ:Stmt:=top 30
abbrev Za:Stmt:=top 31
abbrev S8:Stmt:=top 32
abbrev FP:Stmt:=top 33
abbrev wC:Stmt:=top 35
abbrev su:Stmt:=top 36
abbrev rZ:Stmt:=top 37
abbrev Y6:Stmt:=top 38
abbrev uD:Stmt:=top 39
abbrev Zf0:Stmt:=top 40
abbrev wF:Stmt:=top 41
abbrev BK:Stmt:=top 42
abbrev wA:Stmt:=top 43
abbrev sr:Stmt:=top 44
abbrev wB:Stmt:=top 45
abbrev s_end:Stmt:=top 46
abbrev pN:Stmt:=top 47
abbrev Y7:Stmt:=top 49
abbrev K4:Stmt:=top 53
abbrev nG:Stmt:=inClass (top 54) 2
abbrev pP:Stmt:=inClass (top 55) 2
abbrev wK:Stmt:=inClass (top 55) 3
abbrev qL:Stmt:=inClass (top 56) 0
abbrev By:Stmt:=top 58
abbrev Gg:Stmt:=top 59
abbrev yK:Stmt:=top 60
abbrev uA:Stmt:=top 61
abbrev uB:Stmt:=top 62
abbrev Gb:Stmt:=top 63
abbrev K3:Stmt:=top 64
abbrev K1:Stmt:=top 65
abbrev Gf:Stmt:=top 66
abbrev Ge:Stmt:=top 67
abbrev Gd:Stmt:=top 68
abbrev BL:Stmt:=top 69
abbrev FZ:Stmt:=top 70
abbrev Ga:Stmt:=top 71
abbrev FW:Stmt:=top 72
abbrev uC:Stmt:=top 73
abbrev Zmm:Stmt:=top 75
abbrev yW:Stmt:=top 77
abbrev yU:Stmt:=top 78
abbrev yM:Stmt:=top 79
abbrev wI:Stmt:=top 80
abbrev yP:Stmt:=top 81
abbrev yQ:Stmt:=top 82
abbrev yR:Stmt:=top 83
abbrev yV:Stmt:=top 84
abbrev wJ:Stmt:=top 85
abbrev wG:Stmt:=top 86
abbrev yO:Stmt:=top 87
abbrev yS:Stmt:=top 88
abbrev yN:Stmt:=top 89
abbrev wH:Stmt:=top 90
abbrev KZ:Stmt:=top 91
structure Hh (P:Program) (w:World) (K:aC) (mg:Str→Option Value) (base:Heap) (n:Nat) (f:Addr) (fd:FuncData) (ps:List Str) (sp:Sp):Prop where
 g:tG P w K mg base (G.Nq P w) n f fd ps sp
 b:Binds K fd ps []
 k:PySem.W.keepIn K (.ref f)=true
theorem hh {P:Program}{w:World}{K:aC}{mg:Str→Option Value}{base:Heap}{n:Nat}{f:Addr}{fd:FuncData}{ps:List Str}{sp:Sp} (g:tG P w K mg base (G.Nq P w) n f fd ps sp) (b:Binds K fd ps []) (k:PySem.W.keepIn K (.ref f)=true):Hh P w K mg base n f fd ps sp:=⟨g,b,k⟩
abbrev kh (P:Program) (w:World) (K:aC) (mg:Str→Option Value) (base:Heap) (n:Nat) (f:Addr) (fd:FuncData) (ps:List Str) (sp:Sp):Prop:=tG P w K mg base (G.Nq P w) n f fd ps sp
theorem gG {X:Cx}{n k:Nat}{f:Addr}{fd:FuncData}{ps:List Str}{sp:Sp}{x:Str}{e:Expr}{es:List Expr}{t:TA}{p pos:Pos} (g0:Hh X.prog X.w X.K X.mg X.base n f fd ps sp) (hr:Room k X.A) (hm:X.mg x=some (.ref f)) (ha:PA X (e :: es) t) (hn:n≤k:=by decide) (hg:X.env.kindOf x=some .globalImplicit:=by rfl) (hdb:(x == ("__debug__":Str))=false:=by decide) (he:starEach (e :: es) X.env=(false,eval e X.env) :: starEach es X.env:=by rfl) (hpl:(backTo pos (starEach es X.env)).any (·.1)=false:=by rfl):PE X (.Call (.Name x p) (e :: es) [] pos) (aV sp [] E0 t):=tR g0.g (hr.mono hn) hg hm g0.k g0.b .nil G.jN ha hdb he hpl
theorem dm {N P:List Str}{sc:Scope} (a:sc.kind=.function:=by rfl) (b:sc.isCoroutine=false:=by rfl) (c:sc.isGenerator=false:=by rfl) (d:N.Nodup:=by decide +kernel) (e:N.take P.length=P:=by rfl) (f:∀ x∈P,sc.names.lookup x=some .local∨sc.names.lookup x=some .cell:=by decide +kernel) (g:∀ y∈sc.names,y.2≠.free:=by decide +kernel):aO N P sc:=⟨a,b,c,d,e,f,g⟩
structure Txt (w:World) (K:aC) (mg:Str→Option Value) (aZ aY jT bG eE eF jR eV aH aQ bN bh dg fu dj cY gF jw ir ig fj gH dU lQ mU cZ cA cQ vm fU gB iV dH gP lR gM iU qx vh fX sU qw lO fW cJ cH vf fQ Bu gQ jQ fV cI gO Bt bQ vg mV bY di fY cX dJ jl ie fO eZ gk iM iK gq gn gm eG gh gj gf fP PL fJ dI gD gW iZ je jf ji gY gR iY jg iW gU:Addr):Prop where
 QF:G.Tab K w mg "STEPS" [("rest",cJ),("walk",cH),("give",cI),("lost",bQ)]
 QG:G.Tab K w mg "DEEDS" [("make",gk),("get",iM),("put",iK),("copy",gq),("drop",gn),("give",gm),("write",eG),("read",gh),("name",gj),("seek",gf)]
 cN:CW K aZ
 Zgk:mg "Cell"=some (.ref aZ)
 J4:Mk K aZ dg
 dF:bI K aZ "birth"
 kO:bI K aZ "bulk"
 kJ:bI K aZ "tone"
 iT:bI K aZ "load"
 dX:bI K aZ "fields"
 J8:G.EqD K aZ
 cF:CW K aY
 Zgh:mg "Heap"=some (.ref aY)
 J2:Mk K aY cY
 lY:bI K aY "room"
 bK:bI K aY "cells"
 gZ:bI K aY "used"
 kE:bI K aY "born"
 Zbr:CW K jT
 Zgi:mg "Hand"=some (.ref jT)
 J3:Mk K jT cZ
 tY:bI K jT "name"
 rJ:bI K jT "slots"
 M8:CW K bG
 Q4:mg "Sweeper"=some (.ref bG)
 xR:Mk K bG cA
 m5:bI K bG "sense"
 m6:bI K bG "phase"
 oY:bI K bG "grey"
 mG:bI K bG "looked"
 oU:bI K bG "turn"
 rG:bI K bG "at"
 oW:bI K bG "stop"
 mZ:bI K bG "walks"
 m7:bI K bG "looks"
 mF:bI K bG "passes"
 oX:bI K bG "loss"
 XC:CW K eE
 Zbd:mg "World"=some (.ref eE)
 DW:Mk K eE cQ
 rF:bI K eE "heap"
 rE:bI K eE "kind"
 qt:bI K eE "hands"
 qp:bI K eE "names"
 mY:bI K eE "sweeper"
 Ew:CW K eF
 Zgf:mg "Last"=some (.ref eF)
 W8:G.Mk0 K eF
 Zbq:CW K jR
 Zgg:mg "Kind"=some (.ref jR)
 J1:Mk K jR cX
 oZ:bI K jR "looking"
 rH:bI K jR "tells"
 Ji:mg "GreyError"=some (.ref eV)
 Jj:mg "EmptySlot"=some (.ref aH)
 Q5:mg "NoField"=some (.ref aQ)
 Zgj:mg "Full"=some (.ref bN)
 Xc:mg "NoName"=some (.ref bh)
 tL:G.Zi9 K aH
 RC:G.Zi9 K bN
 Ac:G.Zi9 K aQ
 CZ:G.Zi9 K bh
 jx:PySem.W.exmOne K (.ref aH) (.ref eV)=some true
 jY:PySem.W.exmOne K (.ref aQ) (.ref eV)=some true
 mH:PySem.W.exmOne K (.ref bN) (.ref eV)=some true
 lD:PySem.W.exmOne K (.ref bh) (.ref eV)=some true
 vR:Meth K eF "at_begin" bY
 Hi:Meth K aZ "__init__" dg
 qu:Meth K aZ "units" fu
 t7:Meth K aZ "has_field" dj
 GZ:Meth K aY "__init__" cY
 DY:Meth K aY "make" gF
 Iz:Meth K aY "lay" jw
 Eb:Meth K aY "back" ir
 Ea:Meth K aY "free" ig
 uX:Meth K aY "there" fj
 qd:mg "cell_at"=some (.ref gH)
 lA:mg "birth_at"=some (.ref dU)
 QZ:mg "reached"=some (.ref lQ)
 Mj:mg "onward"=some (.ref mU)
 Hg:Meth K jT "__init__" cZ
 Az:Meth K bG "__init__" cA
 DX:Meth K eE "__init__" cQ
 Zgc:mg "held"=some (.ref vm)
 Br:mg "births_held"=some (.ref fU)
 uc:mg "births_at"=some (.ref gB)
 IV:mg "looked_at"=some (.ref iV)
 kW:mg "has_sense"=some (.ref dH)
 Eg:mg "is_walking"=some (.ref gP)
 Q3:mg "mark_of"=some (.ref lR)
 Ed:mg "told_cells"=some (.ref gM)
 IK:mg "told_cell"=some (.ref iU)
 Zbc:mg "begin"=some (.ref qx)
 Zgb:mg "note"=some (.ref vh)
 qb:mg "note_all"=some (.ref fX)
 ZX:mg "gone"=some (.ref sU)
 Zbb:mg "roots"=some (.ref qw)
 QX:mg "root_of"=some (.ref lO)
 xU:mg "note_hands"=some (.ref fW)
 Mi:mg "step_at_rest"=some (.ref cJ)
 Mg:mg "step_in_walk"=some (.ref cH)
 Zg9:mg "walk"=some (.ref vf)
 Bq:mg "look_or_cut"=some (.ref fQ)
 Zlw:mg "cut"=some (.ref Bu)
 Eh:mg "first_loss"=some (.ref gQ)
 Ml:mg "given_up"=some (.ref jQ)
 xT:mg "told_again"=some (.ref fV)
 Mh:mg "step_in_give"=some (.ref cI)
 Ef:mg "pass_place"=some (.ref gO)
 Zlv:mg "end"=some (.ref Bt)
 Hj:mg "step_when_lost"=some (.ref bQ)
 Zga:mg "step"=some (.ref vg)
 Xb:mg "all_of"=some (.ref mV)
 Ba:Meth K eF "at_begin" bY
 tZ:Meth K eF "next_look" di
 uW:Meth K eF "stays" fY
 GX:Meth K jR "__init__" cX
 jt:mg "slots_of"=some (.ref dJ)
 vU:mg "cell_in"=some (.ref jl)
 zT:mg "fields_in"=some (.ref ie)
 Bo:mg "told_as_old"=some (.ref fO)
 uY:mg "told_as_new"=some (.ref eZ)
 Zd0:mg "do_make"=some (.ref gk)
 Zge:mg "do_get"=some (.ref iM)
 Zgd:mg "do_put"=some (.ref iK)
 Zd3:mg "do_copy"=some (.ref gq)
 Zd2:mg "do_drop"=some (.ref gn)
 Zd1:mg "do_give"=some (.ref gm)
 ZZ:mg "do_write"=some (.ref eG)
 Zcy:mg "do_read"=some (.ref gh)
 Zcz:mg "do_name"=some (.ref gj)
 Zcx:mg "do_seek"=some (.ref gf)
 Bp:mg "place_named"=some (.ref fP)
 Zpu:mg "do"=some (.ref PL)
 kY:mg "_law_cell"=some (.ref fJ)
 cM:mg "_law_draw"=some (.ref dI)
 ud:mg "_law_word"=some (.ref gD)
 Ek:mg "_law_hands"=some (.ref gW)
 Jc:mg "_law_room"=some (.ref iZ)
 Je:mg "_law_made"=some (.ref je)
 Jf:mg "_law_load"=some (.ref jf)
 Jh:mg "_law_deed"=some (.ref ji)
 El:mg "_law_deeds"=some (.ref gY)
 Ei:mg "_law_start"=some (.ref gR)
 Jb:mg "_law_rows"=some (.ref iY)
 Jg:mg "_law_hand"=some (.ref jg)
 IW:mg "_law_with"=some (.ref iW)
 Ej:mg "_law_keeps"=some (.ref gU)
 nW:mg "enumerate"=none
 oE:mg "len"=none
 yz:mg "list"=none
 tK:mg "range"=none
 Zm1:G.GC mg "NEW" (.int 2)
 Zm0:G.GC mg "OLD" (.int 1)
abbrev qZ:List Str:=["self","birth","many","bulk","tone"]
abbrev p7:List Str:=["self","field"]
abbrev qX:List Str:=["self","room"]
abbrev zL:List Str:=["self","many","bulk","tone"]
abbrev Cw:List Str:=["self","cell"]
abbrev zM:List Str:=["self","place"]
abbrev nY:List Str:=["heap","place"]
abbrev jO:List Str:=["heap","place"]
abbrev Gn:List Str:=["heap","rows"]
abbrev Lf:List Str:=["heap","places","way"]
abbrev qY:List Str:=["self","name","many"]
abbrev pZ:List Str:=["self","room","kind","hands"]
abbrev qD:List Str:=["heap","places"]
abbrev zA:List Str:=["world","hand"]
abbrev jH:List Str:=["world","cell"]
abbrev Gp:List Str:=["world","place"]
abbrev zz:List Str:=["world","place"]
abbrev Zo:List Str:=["world","place"]
abbrev nP:List Str:=["world","places"]
abbrev Tv:List Str:=["world","place","birth"]
abbrev Gm:List Str:=["world","place","birth"]
abbrev rD:List Str:=["world","hands"]
abbrev nQ:List Str:=["self","hands"]
abbrev p6:List Str:=["self","looked","hands"]
abbrev qW:List Str:=["self","looking","tells"]
abbrev jr:List Str:=["world","hand"]
abbrev rR:List Str:=["world","hand","slot"]
abbrev tV:List Str:=["world","hand","slot","field"]
abbrev uU:List Str:=["world","place"]
abbrev qj:List Str:=["world","hand","place"]
abbrev Gu:List Str:=["world","deed"]
abbrev Lh:List Str:=["world","deed"]
abbrev Lg:List Str:=["world","deed"]
abbrev Gx:List Str:=["world","deed"]
abbrev Gw:List Str:=["world","deed"]
abbrev Gv:List Str:=["world","deed"]
abbrev Cv:List Str:=["world","deed"]
abbrev Gr:List Str:=["world","deed"]
abbrev Gs:List Str:=["world","deed"]
abbrev Gq:List Str:=["world","deed"]
abbrev uV:List Str:=["world","word"]
abbrev Zmv:List Str:=["world","deed"]
abbrev nZ:List Str:=["_law_script","_law_k"]
abbrev jJ:List Str:=["_law_cell_here","_law_prime","_law_many"]
abbrev qF:List Str:=["_law_cell_here","_law_w"]
abbrev xM:List Str:=["_law_script"]
abbrev zF:List Str:=["_law_script"]
abbrev zG:List Str:=["_law_n","_law_h","_law_s"]
abbrev zH:List Str:=["_law_n"]
abbrev zK:List Str:=["_law_n","_law_hands_here","_law_seed"]
abbrev xN:List Str:=["_law_n","_law_hands_here","_law_seed"]
abbrev xJ:List Str:=["_law_hands_here","_law_cell_here","_law_seed"]
abbrev zE:List Str:=["_law_script","_law_hands_here"]
abbrev zJ:List Str:=["_law_world","_law_deed_here"]
abbrev zB:List Str:=["_law_cells","_law_births","_law_mark"]
abbrev xK:List Str:=["_law_world"]
theorem FN:aO ["self","birth","many","bulk","tone"] qZ (aF qO):=dm
theorem Om:aO ["self"] ["self"] (aF wM):=dm
theorem Dr:aO ["self","field"] p7 (aF pQ):=dm
theorem Fz:aO ["self","room"] qX (aF qM):=dm
theorem S5:aO ["self","many","bulk","tone","cell"] zL (aF tO):=dm
theorem Wf:aO ["self","cell","place"] Cw (aF BR):=dm
theorem S7:aO ["self","place","cell"] zM (aF yZ):=dm
theorem S6:aO ["self"] ["self"] (aF yX):=dm
theorem Ol:aO ["self"] ["self"] (aF wL):=dm
theorem Y4:aO ["heap","place"] nY (aF Gh):=dm
theorem We:aO ["heap","place","cell"] jO (aF BP):=dm
theorem YK:aO ["heap","rows","queue","number","row","listed","taken","place","way"] Gn (aF FQ):=dm
theorem Zc7:aO ["heap","places","way"] Lf (aF KY):=dm
theorem FJ:aO ["self","name","many"] qY (aF qN):=dm
theorem Aq:aO ["self"] ["self"] (aF nF):=dm
theorem Dp:aO ["self","room","kind","hands"] pZ (aF pO):=dm
theorem Zis:aO ["world"] ["world"] (aF Y9):=dm
theorem KQ:aO ["world"] ["world"] (aF uE):=dm
theorem Sq:aO ["heap","places"] qD (aF yL):=dm
theorem Sd:aO ["world","hand"] zA (aF yI):=dm
theorem Sg:aO ["world","cell"] jH (aF yJ):=dm
theorem Oc:aO ["world"] ["world"] (aF wD):=dm
theorem YL:aO ["world","place","sweeper","toned"] Gp (aF FT):=dm
theorem N7:aO ["world"] ["world"] (aF wz):=dm
theorem R9:aO ["world","place","cell","fields"] zz (aF yH):=dm
theorem Zey:aO ["world","sweeper"] ["world"] (aF S9):=dm
theorem Zir:aO ["world","place","sweeper","cell"] Zo (aF Y8):=dm
theorem Wb:aO ["world","places","births","place","birth"] nP (aF BJ):=dm
theorem Zit:aO ["world","place","birth","cell"] Tv (aF Za):=dm
theorem Zex:aO ["world"] ["world"] (aF S8):=dm
theorem YJ:aO ["world","place","birth"] Gm (aF FP):=dm
theorem Ob:aO ["world","hands","noted","number","hand"] rD (aF wC):=dm
theorem JG:aO ["world","noted"] ["world"] (aF su):=dm
theorem JD:aO ["world"] ["world"] (aF rZ):=dm
theorem Zio:aO ["world","sweeper","cell"] ["world"] (aF Y6):=dm
theorem KN:aO ["world","sweeper","looking","hands","noted"] ["world"] (aF uD):=dm
theorem Zml:aO ["world","sweeper","loss","births"] ["world"] (aF Zf0):=dm
theorem Od:aO ["world","place","way","cell"] ["world"] (aF wF):=dm
theorem Wc:aO ["world","heap"] ["world"] (aF BK):=dm
theorem N8:aO ["event"] ["event"] (aF wA):=dm
theorem JF:aO ["world"] ["world"] (aF sr):=dm
theorem Oa:aO ["world","sweeper","place","cell"] ["world"] (aF wB):=dm
theorem Zmk:aO ["world","sweeper"] ["world"] (aF s_end):=dm
theorem Dn:aO ["world"] ["world"] (aF pN):=dm
theorem Ziq:aO ["world","act"] ["world"] (aF Y7):=dm
theorem Zca:aO ["hands"] ["hands"] (aF K4):=dm
theorem Ar:aO ["self","hands"] nQ (aF nG):=dm
theorem Dq:aO ["self","looked","hands"] p6 (aF pP):=dm
theorem Oj:aO ["self"] ["self"] (aF wK):=dm
theorem Fy:aO ["self","looking","tells"] qW (aF qL):=dm
theorem V9:aO ["world","hand"] jr (aF By):=dm
theorem Y0:aO ["world","hand","slot","cell"] rR (aF Gg):=dm
theorem Sh:aO ["world","hand","slot","field","cell"] tV (aF yK):=dm
theorem KD:aO ["world","place"] uU (aF uA):=dm
theorem KH:aO ["world","hand","place"] qj (aF uB):=dm
theorem YT:aO ["world","deed","slots","many","bulk","place"] Gu (aF Gb):=dm
theorem Zc9:aO ["world","deed","hand","source","field","place"] Lh (aF K3):=dm
theorem Zc8:aO ["world","deed","hand","field","fields","old","new","noted"] Lg (aF K1):=dm
theorem YZ:aO ["world","deed","slots","place"] Gx (aF Gf):=dm
theorem YX:aO ["world","deed","slots","place"] Gw (aF Ge):=dm
theorem YW:aO ["world","deed","giver","taker","place","noted"] Gv (aF Gd):=dm
theorem Wd:aO ["world","deed","cell","before"] Cv (aF BL):=dm
theorem YQ:aO ["world","deed","cell"] Gr (aF FZ):=dm
theorem YS:aO ["world","deed","hand","slot","birth"] Gs (aF Ga):=dm
theorem YM:aO ["world","deed","place","noted"] Gq (aF FW):=dm
theorem KJ:aO ["world","word","place","birth"] uV (aF uC):=dm
theorem Zpi:aO ["world","deed","act"] Zmv (aF Zmm):=dm
theorem SX:aO ["_law_script","_law_k"] nZ (aF yW):=dm
theorem SN:aO ["_law_cell_here","_law_prime","_law_many"] jJ (aF yU):=dm
theorem Ss:aO ["_law_cell_here","_law_w","_law_letters","_law_size","_law_at","_law_rest","_law_sign"] qF (aF yM):=dm
theorem Oh:aO ["_law_script","_law_cell_here","_law_hands_here","_law_h","_law_many"] xM (aF wI):=dm
theorem Sx:aO ["_law_script","_law_cell_here"] zF (aF yP):=dm
theorem Sy:aO ["_law_n","_law_h","_law_s","_law_many","_law_bulk"] zG (aF yQ):=dm
theorem SJ:aO ["_law_n","_law_load_here"] zH (aF yR):=dm
theorem SQ:aO ["_law_n","_law_hands_here","_law_seed","_law_h","_law_s","_law_t","_law_f","_law_what","_law_g","_law_word_here"] zK (aF yV):=dm
theorem Oi:aO ["_law_n","_law_hands_here","_law_seed","_law_deed_here"] xN (aF wJ):=dm
theorem Oe:aO ["_law_hands_here","_law_cell_here","_law_seed","_law_rows_here","_law_h","_law_way"] xJ (aF wG):=dm
theorem Sv:aO ["_law_script","_law_hands_here","_law_rows_here","_law_seed","_law_k","_law_cell_here","_law_n"] zE (aF yO):=dm
theorem SM:aO ["_law_world","_law_deed_here","_law_event"] zJ (aF yS):=dm
theorem Su:aO ["_law_cells","_law_births","_law_mark","_law_marks","_law_cell_here","_law_birth"] zB (aF yN):=dm
theorem Og:aO ["_law_world","_law_cells","_law_marks","_law_phase","_law_rows_here","_law_bad","_law_row","_law_birth"] xK (aF wH):=dm
theorem Zmj:aO ["_law_script","_law_hands_here","_law_kind","_law_world","_law_row","_law_event"] ["_law_script"] (aF KZ):=dm
section
variable {X:Cx}
theorem jV {a b:Expr}{ta tb:TE}{pos:Pos}{r:R2} (hr:IxR X r) (ha:PE X a ta) (hb:PE X b tb) (hs:Vx b:=by exact fun _ _=>rfl):PE X (.Subscript a b pos) (bH r ta tb):=Zlu hr ha hb hs
theorem pdg {o i:Expr}{td ty:TE}{pos:Pos}{k:Nat} (hr:Room k X.A) (ho:PE X o td) (hi:PE X i ty) (hs:Zlj i:=by exact fun _ _=>rfl):PE X (.Subscript o i pos) (QH td ty):=Zjl (Bs hr) ho hi hs
theorem pH {a b:Expr}{ta tb:TE}{pos:Pos}{op:CmpOp}{r:R2} (ho:yt X (compareOp op) r) (ha:PE X a ta) (hb:PE X b tb) (hm:behindInMarks op b=false:=by exact LQ _):PT X (.Compare a [op] [b] pos) (cL (bH r ta tb)):=Zj5 ho ha hb hm
theorem fL (i:Nat) {x:Str}{e:Expr}{te:TE}{pos' pos:Pos} (hN:X.N.Nodup) (he:PE X e te) (hi:X.N[i]? =some x:=by rfl) (hx:Loc X.env.scope x:=by exact Or.inl rfl) (hs:swapsWith e (some (.Name x pos')) pos.line X.env=pure false:=by rfl) (hf:X.fn x=true∨X.env.scope.names.lookup x=some .local:=by first | exact .inl rfl | exact .inr rfl | assumption):PS X (.Assign [.Name x pos'] e pos) (bC te (aL i)):=Zh hN hi hx he hs hf
end
structure PAw (X:Cx) (es:List Expr) (t:TA):Prop where
 h:PA X es t
structure PSw (X:Cx) (st:List Stmt) (t:TS):Prop where
 h:VR X st t
structure PPw (X:Cx) (pos:Pos) (keys:List (Option Expr)) (values:List Expr) (trs:List (TE×TE)):Prop where
 h:PPs X pos keys values trs
structure PEw (X:Cx) (e:Expr) (t:TE):Prop where
 h:PE X e t
section
variable {X:Cx}
theorem Zjm:PAw X [] aG:=⟨au⟩
theorem vN {e es te t} (ha:PE X e te) (hr:PAw X es t) (hs:starEach (e :: es) X.env=(false,eval e X.env) :: starEach es X.env:=by rfl):PAw X (e :: es) (aj te t):=⟨aa ha hr.h hs⟩
theorem La {st rest t u} (h1:PS X st t) (h2:PSw X rest u):PSw X (st :: rest) (aN t u):=⟨ao h1 h2.h⟩
theorem Zj6 {st t} (h1:PS X st t):PSw X [st] t:=⟨aA h1⟩
theorem Zj7 {i:Nat}{x:Str}{es t b tb p q pos' pos rest u} (hN:X.N.Nodup) (hi:X.N[i]? =some x) (hx:Loc X.env.scope x) (h:PAw X es t) (hb:PE X b tb) (hp:Vx b) (h2:PSw X rest u) (hs:swapsWith (.Subscript (.List es p) b q) (some (.Name x pos')) pos.line X.env=pure false:=by rfl) (hf:X.fn x=true∨X.env.scope.names.lookup x=some .local:=by first | exact .inl rfl | exact .inr rfl | assumption):PSw X (.Assign [.Name x pos'] (.Subscript (.List es p) b q) pos :: rest) (aN (bC (bH (nM X.K) (gK t) tb) (aL i)) u):=⟨ao (Zh hN hi hx (Zlu d7 (cU h.h) hb hp) hs hf) h2.h⟩
end
open PySem.Spec PyProof.Rows in
theorem Zy1 {P:Program}{w:World}{K:aC}{mg:Str→Option Value}{base:Heap}{x qual:Str}{st:Stmt}{f:Addr}{fd:FuncData}{N ps:List Str}{sp:Sp}{k:Nat} (F:jA K x qual st f fd) (S:aO N ps (aF st)) (len:∀ vs H Q E,sp vs H Q E→vs.length=ps.length)
  (hbody:∀ (cdv:Value) (A:Around) (outer:List Env) (s:Shared) (H:Hp) (vs:List V) (Q:VK) (E:XK),Room k (A.deeper (envOfC qual (aF st) s.heap.objs.size f cdv))→sp vs H Q E→
   ∃ t,PSw (HR (Nq P w) P w K mg base N qual (aF st) f cdv A outer s H E).nox (jz st) t∧t { nx:=fun _ H'=>Q .non H',rt:=Q } (start N vs) H):tG P w K mg base (Nq P w) (k + 1) f fd ps sp:=
 G.fok F S len fun cdv A outer s H vs Q E hr h=>let ⟨t,p,q⟩:=hbody cdv A outer s H vs Q E hr h;⟨t,p.h,q⟩
set_option hygiene false in
local macro_rules | `(tactic| walk_at "ok")=>`(tactic| (refine G.fok F sc (fun vs H Q E h=>?_) (fun cdv A outer s H vs Q E hr h=>?_);· (first | (obtain ⟨_,rfl,_⟩:=h;rfl) | (obtain ⟨_,_,rfl,_⟩:=h;rfl) | (obtain ⟨_,_,_,rfl,_⟩:=h;rfl) | (obtain ⟨_,_,_,_,rfl,_⟩:=h;rfl) | (obtain ⟨_,_,_,_,_,rfl,_⟩:=h;rfl) | (obtain ⟨_,_,_,_,_,_,rfl,_⟩:=h;rfl) | (obtain ⟨_,_,_,_,_,_,_,rfl,_⟩:=h;rfl))))
set_option hygiene false in
local macro_rules | `(tactic| walk_at "okw")=>`(tactic| (refine Zy1 F sc (fun vs H Q E h=>?_) (fun cdv A outer s H vs Q E hr h=>?_);· (first | (obtain ⟨_,rfl,_⟩:=h;rfl) | (obtain ⟨_,_,rfl,_⟩:=h;rfl) | (obtain ⟨_,_,_,rfl,_⟩:=h;rfl) | (obtain ⟨_,_,_,_,rfl,_⟩:=h;rfl) | (obtain ⟨_,_,_,_,_,rfl,_⟩:=h;rfl) | (obtain ⟨_,_,_,_,_,_,rfl,_⟩:=h;rfl) | (obtain ⟨_,_,_,_,_,_,_,rfl,_⟩:=h;rfl))))
set_option hygiene false in
local macro_rules | `(tactic| walk_at "okX")=>`(tactic| (refine G.Zy2 F sc (fun vs H Q E h=>?_) (fun cdv A outer s H vs Q E hr h=>?_);· (first | (obtain ⟨_,rfl,_⟩:=h;rfl) | (obtain ⟨_,_,rfl,_⟩:=h;rfl) | (obtain ⟨_,_,_,rfl,_⟩:=h;rfl) | (obtain ⟨_,_,_,_,rfl,_⟩:=h;rfl) | (obtain ⟨_,_,_,_,_,rfl,_⟩:=h;rfl) | (obtain ⟨_,_,_,_,_,_,rfl,_⟩:=h;rfl) | (obtain ⟨_,_,_,_,_,_,_,rfl,_⟩:=h;rfl))))
set_option hygiene false in
local macro_rules | `(tactic| walk_at "okDX")=>`(tactic| (refine G.Zqp F sc (fun vs H Q E h=>?_) (fun cdv A outer s H vs Q E hr h=>?_);· (first | (obtain ⟨_,rfl,_⟩:=h;rfl) | (obtain ⟨_,_,rfl,_⟩:=h;rfl) | (obtain ⟨_,_,_,rfl,_⟩:=h;rfl) | (obtain ⟨_,_,_,_,rfl,_⟩:=h;rfl) | (obtain ⟨_,_,_,_,_,rfl,_⟩:=h;rfl) | (obtain ⟨_,_,_,_,_,_,rfl,_⟩:=h;rfl) | (obtain ⟨_,_,_,_,_,_,_,rfl,_⟩:=h;rfl))))
section
variable (P:Program) {w:World}{K:aC}{mg:Str→Option Value} (base:Heap) {eV aH aQ bN bh dg fu dj cY gF jw ir ig fj gH dU lQ mU cZ cA cQ vm fU gB iV dH gP lR gM iU qx vh fX sU qw lO fW cJ cH vf fQ Bu gQ jQ fV cI gO Bt bQ vg mV bY di fY cX dJ jl ie fO eZ gk iM iK gq gn gm eG gh gj gf fP PL fJ dI gD gW iZ je jf ji gY gR iY jg iW gU:Addr} (XQ:Cs) (T:Txt w K mg XQ.C XQ.H XQ.D XQ.S XQ.W XQ.L XQ.K eV aH aQ bN bh dg fu dj cY gF jw ir ig fj gH dU lQ mU cZ cA cQ vm fU gB iV dH gP lR gM iU qx vh fX sU qw lO fW cJ cH vf fQ Bu gQ jQ fV cI gO Bt bQ vg mV bY di fY cX dJ jl ie fO eZ gk iM iK gq gn gm eG gh gj gf fP PL fJ dI gD gW iZ je jf ji gY gR iY jg iW gU)
include T
theorem nA:pD K XQ:=⟨⟨T.cN,T.dF,T.kO,T.kJ,T.iT,T.dX,T.cF,T.lY,T.bK,T.gZ,T.kE,T.J8⟩,T.XC,T.rF,T.rE,T.qt,T.qp,T.mY,T.Zbr,T.tY,T.rJ,T.Zbq,T.oZ,T.rH,T.M8,T.m5,T.m6,T.oY,T.mG,T.oU,T.rG,T.oW,T.mZ,T.m7,T.mF,T.oX⟩
theorem GK {fd:FuncData} (F:jA K "__init__" "Cell.__init__" qO dg fd):kh P w K mg base 1 dg fd qZ (uw XQ.C):=by
 have sc:=FN;have tx:=nA _ T;walk_at "ok"
 ·refine ⟨pX K,(ao (cj (pv 0) (pv 1) rfl)
   (ao (cj (pv 0) (pv 3) rfl)
   (ao (cj (pv 0) (pv 4) rfl)
   (ao (cj (pv 0) (az) rfl)
   (aA (cj (pv 0) (bz Li (cU (aa (fB) au)) (pv 2)) rfl)))))),?_⟩
  obtain ⟨z0,z1,z2,z3,z4,rfl,q⟩:=h;exact Il tx.c q
theorem O5 {fd:FuncData} (F:jA K "units" "Cell.units" wM fu fd):kh P w K mg base 1 fu fd ["self"] (lG XQ.C):=by
 have sc:=Om;have tx:=nA _ T;walk_at "ok"
 ·refine ⟨uR K,(aA (aP (bz jC (bz jC (az) (iJ G.gw (by rfl) T.oE G.boot_len (aa (aJ (pv 0) rfl) au))) (aJ (pv 0) rfl)))),?_⟩;obtain ⟨z0,rfl,q⟩:=h;exact Qj tx.c q
theorem DQ {fd:FuncData} (F:jA K "has_field" "Cell.has_field" pQ dj fd):kh P w K mg base 1 dj fd p7 (uh XQ):=by
 have sc:=Dr;have tx:=nA _ T;walk_at "ok"
 ·refine ⟨oO K,(aA (aP (Zfn Zpo Bm (az) (pv 1) (iJ G.gw (by rfl) T.oE G.boot_len (aa (aJ (pv 0) rfl) au))))),?_⟩;obtain ⟨z0,z1,rfl,q⟩:=h;exact Fl tx q
theorem GF {fd:FuncData} (F:jA K "__init__" "Heap.__init__" qM cY fd):kh P w K mg base 1 cY fd qX (uq XQ.H):=by
 have sc:=Fz;have tx:=nA _ T;walk_at "ok"
 ·refine ⟨pU K,(ao (cj (pv 0) (pv 1) rfl)
   (ao (cj (pv 0) (cU au) rfl)
   (ao (cj (pv 0) (az) rfl)
   (aA (cj (pv 0) (az) rfl))))),?_⟩
  obtain ⟨z0,z1,rfl,q⟩:=h;exact HX tx.c q
theorem Ui {fd:FuncData}{HN vd Va Xo:FuncData} (F:G.Zp9 K "make" "Heap.make" tO gF fd) (yq:Hh P w K mg base 1 dg HN qZ (uw XQ.C)) (lJ:Hh P w K mg base 1 fu vd ["self"] (lG XQ.C)) (Jq:Hh P w K mg base 1 ig Va ["self"] (ur XQ.H)) (Nm:Hh P w K mg base 1 jw Xo Cw (yd K XQ.H)):kh P w K mg base 3 gF fd zL (uo K XQ.C XQ.H bN):=by
 have sc:=S5;have tx:=nA _ T;walk_at "okDX"
 ·refine ⟨xu K XQ.C bN XQ.H (uw XQ.C) (lG XQ.C) (ur XQ.H) (yd K XQ.H) E,(ao (fL 4 sc.nd (Dw T.J4 yq.g (hr.mono (by decide)) rfl T.Zgk yq.b .nil G.jN (aa (bz jC (aJ (pv 0) rfl) (az)) (aa (pv 1) (aa (pv 2) (aa (pv 3) au))))))
   (ao (dB (pH Zb9 (qC (pv 4) T.cN T.qu lJ.g (hr.mono (by decide)) lJ.b .nil G.jN) (qC (pv 0) T.cF T.Ea Jq.g (hr.mono (by decide)) Jq.b .nil G.jN)) (aA (G.Dv rfl rfl T.Zgj T.RC (aa (bB) au) (fun _ _ _ _ _ _ _ I hx hE=>G.Tn I hx hE))) bJ)
   (ao (cj (pv 0) (aJ (pv 4) rfl) rfl)
   (ao (cj (pv 0) (bz jC (aJ (pv 0) rfl) (qC (pv 4) T.cN T.qu lJ.g (hr.mono (by decide)) lJ.b .nil G.jN)) rfl)
   (aA (aP (Af (pv 0) T.cF T.Iz Nm.g (hr.mono (by decide)) Nm.b .nil G.jN (aa (pv 4) au)))))))),?_⟩
  obtain ⟨z0,z1,z2,z3,rfl,q⟩:=h;exact Vy tx.c q
theorem WM {fd:FuncData} (F:jA K "lay" "Heap.lay" BR jw fd):kh P w K mg base 1 jw fd Cw (yd K XQ.H):=by
 have sc:=Wf;have tx:=nA _ T;walk_at "ok"
 ·refine ⟨zy K,(ao (dB (pH (G.Zcj (Bs hr)) (fB) (aJ (pv 0) rfl) (by with_unfolding_all rfl)) (ao (rB (Dz PySem.F.plainAttrs_list PySem.F.slot_list_append PySem.F.type_list_append rT (aJ (pv 0) rfl) (aa (pv 1) au)))
   (aA (aP (bz zN (iJ G.gw (by rfl) T.oE G.boot_len (aa (aJ (pv 0) rfl) au)) (az))))) bJ)
   (ao (fL 2 sc.nd (Dz PySem.F.plainAttrs_list PySem.F.slot_list_index PySem.F.type_list_index (G.Zct (Bs hr)) (aJ (pv 0) rfl) (aa (fB) au)))
   (ao (xG (pv 1) (xH (aJ (pv 0) rfl) (pv 2) set_list))
   (aA (aP (pv 2)))))),?_⟩
  obtain ⟨z0,z1,rfl,q⟩:=h;exact XX tx.c q
theorem Uk {fd:FuncData} (F:jA K "back" "Heap.back" yZ ir fd) {vd:FuncData} (lJ:Hh P w K mg base 1 fu vd ["self"] (lG XQ.C)):kh P w K mg base 2 ir fd zM (qI XQ.C XQ.H):=by
 have sc:=S7;have tx:=nA _ T;walk_at "ok"
 ·refine ⟨xF K XQ.C (lG XQ.C),(ao (fL 2 sc.nd (jV d7 (aJ (pv 0) rfl) (pv 1)))
   (ao (cj (pv 0) (bz zN (aJ (pv 0) rfl) (qC (pv 2) T.cN T.qu lJ.g (hr.mono (by decide)) lJ.b .nil G.jN)) rfl)
   (ao (xG (fB) (xH (aJ (pv 0) rfl) (pv 1) set_list))
   (aA (aP (aJ (pv 2) rfl)))))),?_⟩
  obtain ⟨z0,z1,rfl,q⟩:=h;exact VB tx.c q
theorem Uj {fd:FuncData} (F:jA K "free" "Heap.free" yX ig fd):kh P w K mg base 1 ig fd ["self"] (ur XQ.H):=by
 have sc:=S6;have tx:=nA _ T;walk_at "ok"
 ·refine ⟨xx K,(aA (aP (bz zN (aJ (pv 0) rfl) (aJ (pv 0) rfl)))),?_⟩;obtain ⟨z0,rfl,q⟩:=h;exact Vz tx.c q
theorem O4 {fd:FuncData} (F:jA K "there" "Heap.there" wL fj fd):kh P w K mg base 1 fj fd ["self"] (lF XQ.H):=by
 have sc:=Ol;have tx:=nA _ T;walk_at "ok"
 ·refine ⟨uQ K,(aA (aP (G.Ld (cns:=["self"]) [0] (vL rfl T.tK (aa (iJ G.gw (by rfl) T.oE G.boot_len (aa (aJ (pv 0) rfl) au)) au)) (fun _ _ _ _ _=>(G.Tt (pH G.zO (jV d7 (aJ (pv 1) rfl) (pv 0)) (fB)))) (fun _ _ _ _ _=>(pv 0)) rfl rfl (by repeat (first | exact trivial | refine ⟨rfl,?_⟩)) (by repeat (first | exact trivial | refine ⟨rfl,?_⟩)) rfl (by decide +kernel) rfl (by decide +kernel) (by decide +kernel) rfl (by decide +kernel)))),?_⟩;obtain ⟨z0,rfl,q⟩:=h;exact Qe tx.c q
theorem ZJ {fd:FuncData} (F:jA K "cell_at" "cell_at" Gh gH fd):kh P w K mg base 1 gH fd nY (dG XQ.H):=by
 have sc:=Y4;have tx:=nA _ T;walk_at "ok"
 ·refine ⟨Cp K,(ao (dB (PW.pt (Ds (pH G.xO (pv 1) (fB)) (Ds (pH Bm (pv 1) (az)) (Cq (pH Zpp (pv 1) (iJ G.gw (by rfl) T.oE G.boot_len (aa (aJ (pv 0) rfl) au))))))) (aA (aP (fB))) bJ)
   (aA (aP (jV d7 (aJ (pv 0) rfl) (pv 1))))),?_⟩
  obtain ⟨z0,z1,rfl,q⟩:=h;exact Zao tx q
theorem WL {fd:FuncData} (F:jA K "birth_at" "birth_at" BP dU fd) {ju:FuncData} (j7:Hh P w K mg base 1 gH ju nY (dG XQ.H)):kh P w K mg base 2 dU fd jO (cB XQ):=by
 have sc:=We;have tx:=nA _ T;walk_at "ok"
 ·refine ⟨zx K (dG XQ.H),(ao (fL 2 sc.nd (gG j7 hr T.qd (aa (pv 0) (aa (pv 1) au))))
   (ao (dB (pH G.xO (pv 2) (fB)) (aA (aP (fB))) bJ)
   (aA (aP (aJ (pv 2) rfl))))),?_⟩
  obtain ⟨z0,z1,rfl,q⟩:=h;exact XH tx q
theorem Zu {fd:FuncData} (F:jA K "reached" "reached" FQ lQ fd) {Zdu:FuncData} (X4:Hh P w K mg base 2 mU Zdu Lf (z8 K XQ.C XQ.H)):kh P w K mg base 3 lQ fd Gn (Ak K XQ.C XQ.H):=by
 have sc:=YK;have tx:=nA _ T;walk_at "ok"
 ·refine ⟨wO K (z8 K XQ.C XQ.H),(ao (fL 2 sc.nd (cU au))
   (ao (pY PassesOwn.never rfl (G.Tp rfl T.nW (aa (pv 1) au)) (Tq rfl (qz (iD (i:=3) sc.nd rfl (Or.inl rfl)) (qz (iD (i:=4) sc.nd rfl (Or.inl rfl)) JX)))
   (aA (rB (Dz PySem.F.plainAttrs_list PySem.F.slot_list_extend PySem.F.type_list_extend GR (pv 2) (aa (gG X4 hr T.Mj (aa (pv 0) (aa (pv 4) (aa (cG (aa (pv 3) au)) au)))) au)))))
   (ao (fL 5 sc.nd (Le))
   (ao (fL 6 sc.nd (az))
   (ao (Zfb PassesOwn.never (pH Bm (pv 6) (iJ G.gw (by rfl) T.oE G.boot_len (aa (pv 2) au))) (ao (fL 7 sc.nd (jV bU (jV d7 (pv 2) (pv 6)) (az)))
   (ao (fL 8 sc.nd (jV bU (jV d7 (pv 2) (pv 6)) (az)))
   (ao (fL 6 sc.nd (bz jC (pv 6) (az)))
   (aA (dB (Zfa (G.Zm (Bs hr) (pv 7) (pv 5))) (ao (JW (Bs hr) (pv 5) (pv 7) (pv 8) rfl)
   (aA (rB (Dz PySem.F.plainAttrs_list PySem.F.slot_list_extend PySem.F.type_list_extend GR (pv 2) (aa (gG X4 hr T.Mj (aa (pv 0) (aa (aJ (jV d7 (aJ (pv 0) rfl) (pv 7)) rfl) (aa (pv 8) au)))) au))))) bJ))))))
   (aA (aP (vM (G.Zar rfl) (by rfl) T.yz G.boot_list (aa (G.Zfm (pv 5)) au))))))))),?_⟩
  obtain ⟨z0,z1,z2,z3,z4,rfl,q⟩:=h;exact Zd tx q
theorem Zcl {fd:FuncData} (F:jA K "onward" "onward" KY mU fd) {ju:FuncData} (j7:Hh P w K mg base 1 gH ju nY (dG XQ.H)):kh P w K mg base 2 mU fd Lf (z8 K XQ.C XQ.H):=by
 have sc:=Zc7;walk_at "ok"
 ·refine ⟨Ad K (dG XQ.H),(aA (aP (G.Zk (cns:=["heap","way"]) [0,2] (G.Tp rfl T.nW (aa (pv 1) au)) (fun _ _ _ _ _=>(G.Tt (pH G.zO (gG j7 hr T.qd (aa (pv 2) (aa (pv 1) au))) (fB)))) (fun _ _ _ _ _=>(cG (aa (pv 1) (aa (bz Zjo (pv 3) (cG (aa (pv 0) au))) au)))) rfl rfl (by repeat (first | exact trivial | refine ⟨rfl,?_⟩)) (by repeat (first | exact trivial | refine ⟨rfl,?_⟩)) rfl (by decide +kernel) rfl (by decide +kernel) (by decide +kernel) rfl rfl (by decide +kernel)))),?_⟩;obtain ⟨z0,z1,z2,z3,z4,z5,rfl,q⟩:=h;exact Zck q
theorem GJ {fd:FuncData} (F:jA K "__init__" "Hand.__init__" qN cZ fd):kh P w K mg base 1 cZ fd qY (uv XQ.D):=by
 have sc:=FJ;have tx:=nA _ T;walk_at "ok"
 ·refine ⟨pW K,(ao (cj (pv 0) (pv 1) rfl)
   (aA (cj (pv 0) (bz Li (cU (aa (fB) au)) (pv 2)) rfl))),?_⟩
  obtain ⟨z0,z1,z2,rfl,q⟩:=h;exact HY tx q
theorem Aw {fd:FuncData} (F:jA K "__init__" "Sweeper.__init__" nF cA fd):kh P w K mg base 1 cA fd ["self"] (pB XQ.S):=by
 have sc:=Aq;have tx:=nA _ T;walk_at "ok"
 ·refine ⟨mK K,(ao (cj (pv 0) (az) rfl)
   (ao (cj (pv 0) (bB) rfl)
   (ao (cj (pv 0) (cU au) rfl)
   (ao (cj (pv 0) (az) rfl)
   (ao (cj (pv 0) (az) rfl)
   (ao (cj (pv 0) (az) rfl)
   (ao (cj (pv 0) (az) rfl)
   (ao (cj (pv 0) (az) rfl)
   (ao (cj (pv 0) (az) rfl)
   (ao (cj (pv 0) (az) rfl)
   (aA (cj (pv 0) (fB) rfl)))))))))))),?_⟩
  obtain ⟨z0,rfl,q⟩:=h;exact Bf tx q
theorem DN {fd:FuncData}{HJ HH Bd:FuncData} (F:jA K "__init__" "World.__init__" pO cQ fd) (yp:Hh P w K mg base 1 cZ HJ qY (uv XQ.D)) (yo:Hh P w K mg base 1 cY HH qX (uq XQ.H)) (tD:Hh P w K mg base 1 cA Bd ["self"] (pB XQ.S)):kh P w K mg base 3 cQ fd pZ (rP XQ):=by
 have sc:=Dp;have tx:=nA _ T;walk_at "ok"
 ·refine ⟨oM K XQ.D XQ.H XQ.S (uv XQ.D) (uq XQ.H) (pB XQ.S),(ao (cj (pv 0) (Dw T.J2 yo.g (hr.mono (by decide)) rfl T.Zgh yo.b .nil G.jN (aa (pv 1) au)) rfl)
   (ao (cj (pv 0) (pv 2) rfl)
   (ao (cj (pv 0) (G.Zk (cns:=[]) [] (lq (pv 3)) (fun _ _ _ _ _=>G.Cu) (fun _ _ _ _ _=>(Dw T.J3 yp.g (hr.mono (by decide)) rfl T.Zgi yp.b .nil G.jN (aa (pv 0) (aa (pv 1) au)))) rfl rfl (by repeat (first | exact trivial | refine ⟨rfl,?_⟩)) (by repeat (first | exact trivial | refine ⟨rfl,?_⟩)) rfl (by decide +kernel) rfl (by decide +kernel) (by decide +kernel) rfl rfl (by decide +kernel)) rfl)
   (ao (cj (pv 0) (Le) rfl)
   (aA (cj (pv 0) (Zfk T.xR tD.g (hr.mono (by decide)) rfl T.Q4 tD.b .nil G.jN) rfl)))))),?_⟩
  obtain ⟨z0,z1,z2,z3,rfl,q⟩:=h;exact EY tx q
theorem Zju {fd:FuncData} (F:jA K "held" "held" Y9 vm fd):kh P w K mg base 1 vm fd ["world"] (Vv XQ):=by
 have sc:=Zis;have tx:=nA _ T;walk_at "ok"
 ·refine ⟨Ti K,(aA (aP (G.Ld (cns:=[]) [] (lq (aJ (pv 0) rfl)) (fun _ _ _ _ _=>G.Cu) (fun _ _ _ _ _=>(vM G.CJ (by rfl) T.yz G.boot_list (aa (aJ (pv 0) rfl) au))) rfl rfl (by repeat (first | exact trivial | refine ⟨rfl,?_⟩)) (by repeat (first | exact trivial | refine ⟨rfl,?_⟩)) rfl (by decide +kernel) rfl (by decide +kernel) (by decide +kernel) rfl (by decide +kernel)))),?_⟩;obtain ⟨z0,rfl,q⟩:=h;exact Zkr tx q
theorem Ls {fd:FuncData} (F:jA K "births_held" "births_held" uE fU fd) {o7:FuncData} (qJ:Hh P w K mg base 3 gB o7 qD (jj XQ)):kh P w K mg base 4 fU fd ["world"] (Ff XQ):=by
 have sc:=KQ;have tx:=nA _ T;walk_at "ok"
 ·refine ⟨sO K (jj XQ),(aA (aP (G.Ld (cns:=["world"]) [0] (lq (aJ (pv 0) rfl)) (fun _ _ _ _ _=>G.Cu) (fun _ _ _ _ _=>(gG qJ hr T.uc (aa (aJ (pv 1) rfl) (aa (aJ (pv 0) rfl) au)))) rfl rfl (by repeat (first | exact trivial | refine ⟨rfl,?_⟩)) (by repeat (first | exact trivial | refine ⟨rfl,?_⟩)) rfl (by decide +kernel) rfl (by decide +kernel) (by decide +kernel) rfl (by decide +kernel)))),?_⟩;obtain ⟨z0,rfl,q⟩:=h;exact Nh tx q
theorem TX {fd:FuncData} (F:jA K "births_at" "births_at" yL gB fd) {dR:FuncData} (fD:Hh P w K mg base 2 dU dR jO (cB XQ)):kh P w K mg base 3 gB fd qD (jj XQ):=by
 have sc:=Sq;have tx:=nA _ T;walk_at "ok"
 ·refine ⟨wV K (cB XQ),(aA (aP (G.Ld (cns:=["heap"]) [0] (lq (pv 1)) (fun _ _ _ _ _=>G.Cu) (fun _ _ _ _ _=>(gG fD hr T.lA (aa (pv 1) (aa (pv 0) au)))) rfl rfl (by repeat (first | exact trivial | refine ⟨rfl,?_⟩)) (by repeat (first | exact trivial | refine ⟨rfl,?_⟩)) rfl (by decide +kernel) rfl (by decide +kernel) (by decide +kernel) rfl (by decide +kernel)))),?_⟩;obtain ⟨z0,z1,rfl,q⟩:=h;exact Vd tx q
theorem TJ {fd:FuncData} (F:jA K "looked_at" "looked_at" yI iV fd):kh P w K mg base 1 iV fd zA (ug XQ):=by
 have sc:=Sd;have tx:=nA _ T;walk_at "ok"
 ·refine ⟨wQ K,(aA (aP (Dy kj (bz Tz (bz Zfr (aJ (aJ (pv 0) rfl) rfl) (pv 1)) (az)) (az) (LQ _)))),?_⟩;obtain ⟨z0,z1,rfl,q⟩:=h;exact Uq tx q
theorem TQ {fd:FuncData} (F:jA K "has_sense" "has_sense" yJ dH fd):kh P w K mg base 1 dH fd jH (cC XQ):=by
 have sc:=Sg;have tx:=nA _ T;walk_at "ok"
 ·refine ⟨wR K,(aA (aP (Dy kj (aJ (pv 1) rfl) (aJ (aJ (pv 0) rfl) rfl) (LQ _)))),?_⟩;obtain ⟨z0,z1,rfl,q⟩:=h;exact Uy tx q
theorem Ox {fd:FuncData} (F:jA K "is_walking" "is_walking" wD gP fd):kh P w K mg base 1 gP fd ["world"] (rN XQ):=by
 have sc:=Oc;have tx:=nA _ T;walk_at "ok"
 ·refine ⟨uJ K,(aA (aP (Dy Gz (aJ (aJ (pv 0) rfl) rfl) (cG (aa (bB) (aa (bB) au))) (by with_unfolding_all rfl)))),?_⟩;obtain ⟨z0,rfl,q⟩:=h;exact Pa tx q
theorem Zv {fd:FuncData} (F:jA K "mark_of" "mark_of" FT lR fd) {d8:FuncData} (fK:Hh P w K mg base 1 dH d8 jH (cC XQ)):kh P w K mg base 2 lR fd Gp (Am XQ):=by
 have sc:=YL;have tx:=nA _ T;walk_at "ok"
 ·refine ⟨BW K (cC XQ),(ao (fL 2 sc.nd (aJ (pv 0) rfl))
   (ao (fL 3 sc.nd (gG fK hr T.kW (aa (pv 0) (aa (jV d7 (aJ (aJ (pv 0) rfl) rfl) (pv 1)) au))))
   (ao (dB (pH kj (aJ (pv 2) rfl) (bB)) (aA (aP (bB))) bJ)
   (ao (dB (pH kj (aJ (pv 2) rfl) (bB)) (aA (aP (Wn (nO (pv 3)) (bB) (bB)))) bJ)
   (ao (dB (Cr (nO (pv 3))) (aA (aP (bB))) bJ)
   (aA (aP (Wn (pH Gz (pv 1) (aJ (pv 2) rfl) (by with_unfolding_all rfl)) (bB) (bB))))))))),?_⟩
  obtain ⟨z0,z1,rfl,q⟩:=h;exact ZQ tx q
theorem Ot {fd:FuncData}{u9 UL:FuncData} (F:jA K "told_cells" "told_cells" wz gM fd) (pC:Hh P w K mg base 1 fj u9 ["self"] (lF XQ.H)) (X3:Hh P w K mg base 4 iU UL zz (ue XQ)):kh P w K mg base 5 gM fd ["world"] (Vs XQ):=by
 have sc:=N7;have tx:=nA _ T;walk_at "ok"
 ·refine ⟨uF K XQ.H (lF XQ.H) (ue XQ),(aA (aP (G.Ld (cns:=["world"]) [0] (lq (qC (aJ (pv 0) rfl) T.cF T.uX pC.g (hr.mono (by decide)) pC.b .nil G.jN)) (fun _ _ _ _ _=>G.Cu) (fun _ _ _ _ _=>(gG X3 hr T.IK (aa (pv 1) (aa (pv 0) au)))) rfl rfl (by repeat (first | exact trivial | refine ⟨rfl,?_⟩)) (by repeat (first | exact trivial | refine ⟨rfl,?_⟩)) rfl (by decide +kernel) rfl (by decide +kernel) (by decide +kernel) rfl (by decide +kernel)))),?_⟩;obtain ⟨z0,rfl,q⟩:=h;exact Nx tx q
theorem TF {fd:FuncData}{o7 Za3:FuncData} (F:jA K "told_cell" "told_cell" yH iU fd) (qJ:Hh P w K mg base 3 gB o7 qD (jj XQ)) (Zee:Hh P w K mg base 2 lR Za3 Gp (Am XQ)):kh P w K mg base 4 iU fd zz (ue XQ):=by
 have sc:=R9;have tx:=nA _ T;walk_at "ok"
 ·refine ⟨wN K (jj XQ) (Am XQ),(ao (fL 2 sc.nd (jV d7 (aJ (aJ (pv 0) rfl) rfl) (pv 1)))
   (ao (fL 3 sc.nd (gG qJ hr T.uc (aa (aJ (pv 0) rfl) (aa (aJ (pv 2) rfl) au))))
   (aA (aP (cG (aa (pv 1) (aa (aJ (pv 2) rfl) (aa (aJ (pv 2) rfl) (aa (aJ (pv 2) rfl) (aa (pv 3) (aa (gG Zee hr T.Q3 (aa (pv 0) (aa (pv 1) au))) au))))))))))),?_⟩
  obtain ⟨z0,z1,rfl,q⟩:=h;exact RJ tx q
theorem Zft {fd:FuncData} (F:jA K "begin" "begin" S9 qx fd) {Be:FuncData} (tE:Hh P w K mg base 1 bY Be nQ (yc 1)):kh P w K mg base 2 qx fd ["world"] (Kl XQ):=by
 have sc:=Zey;have tx:=nA _ T;walk_at "ok"
 ·refine ⟨K7 K XQ.L (yc 1),(ao (fL 1 sc.nd (aJ (pv 0) rfl))
   (ao (cj (pv 1) (bz zN (az) (aJ (pv 1) rfl)) rfl)
   (ao (cj (pv 1) (bz jC (aJ (pv 1) rfl) (az)) rfl)
   (ao (cj (pv 1) (bB) rfl)
   (ao (cj (pv 1) (cU au) rfl)
   (ao (cj (pv 1) (Af (aJ (aJ (pv 0) rfl) rfl) T.Ew T.vR tE.g (hr.mono (by decide)) tE.b .nil G.jN (aa (iJ G.gw (by rfl) T.oE G.boot_len (aa (aJ (pv 0) rfl) au)) au)) rfl)
   (ao (cj (pv 1) (az) rfl)
   (ao (cj (pv 1) (az) rfl)
   (aA (cj (pv 1) (az) rfl)))))))))),?_⟩
  obtain ⟨z0,rfl,q⟩:=h;exact Zi3 tx q
theorem Zjt {fd:FuncData}{ju d8:FuncData} (F:jA K "note" "note" Y8 vh fd) (j7:Hh P w K mg base 1 gH ju nY (dG XQ.H)) (fK:Hh P w K mg base 1 dH d8 jH (cC XQ)):kh P w K mg base 2 vh fd Zo (Vu XQ):=by
 have sc:=Zir;have tx:=nA _ T;walk_at "ok"
 ·refine ⟨Th K (dG XQ.H) (cC XQ),(ao (fL 2 sc.nd (aJ (pv 0) rfl))
   (ao (fL 3 sc.nd (gG j7 hr T.qd (aa (aJ (pv 0) rfl) (aa (pv 1) au))))
   (ao (dB (PW.pt (Ds (pH Zb8 (aJ (pv 2) rfl) (bB)) (Ds (pH G.xO (pv 3) (fB)) (Cq (nO (gG fK hr T.kW (aa (pv 0) (aa (pv 3) au)))))))) (aA (aP (fB))) bJ)
   (ao (cj (pv 3) (aJ (pv 2) rfl) rfl)
   (ao (rB (Dz PySem.F.plainAttrs_list PySem.F.slot_list_append PySem.F.type_list_append rT (aJ (pv 2) rfl) (aa (pv 1) au)))
   (aA (aP (aJ (pv 3) rfl)))))))),?_⟩
  obtain ⟨z0,z1,rfl,q⟩:=h;exact Zjy tx q
theorem Wy {fd:FuncData} (F:jA K "note_all" "note_all" BJ fX fd) {Zl6:FuncData} (Zp6:Hh P w K mg base 2 vh Zl6 Zo (Vu XQ)):kh P w K mg base 3 fX fd nP (eN XQ):=by
 have sc:=Wb;have tx:=nA _ T;walk_at "ok"
 ·refine ⟨zm K (Vu XQ),(ao (fL 2 sc.nd (cU au))
   (ao (pY PassesOwn.never rfl (lq (pv 1)) (iD (i:=3) sc.nd rfl (Or.inl rfl))
   (ao (fL 4 sc.nd (gG Zp6 hr T.Zgb (aa (pv 0) (aa (pv 3) au))))
   (aA (dB (pH G.zO (pv 4) (fB)) (aA (rB (Dz PySem.F.plainAttrs_list PySem.F.slot_list_append PySem.F.type_list_append rT (pv 2) (aa (pv 4) au)))) bJ))))
   (aA (aP (pv 2))))),?_⟩
  obtain ⟨z0,z1,rfl,q⟩:=h;exact WR tx q
theorem Zjv {fd:FuncData}{ju d8:FuncData} (F:jA K "gone" "gone" Za sU fd) (j7:Hh P w K mg base 1 gH ju nY (dG XQ.H)) (fK:Hh P w K mg base 1 dH d8 jH (cC XQ)):kh P w K mg base 2 sU fd Tv (CP XQ):=by
 have sc:=Zit;have tx:=nA _ T;walk_at "ok"
 ·refine ⟨Tj K (dG XQ.H) (cC XQ),(ao (fL 3 sc.nd (gG j7 hr T.qd (aa (aJ (pv 0) rfl) (aa (pv 1) au))))
   (ao (dB (PW.pt (Ds (pH G.xO (pv 3) (fB)) (Cq (pH Zb8 (aJ (pv 3) rfl) (pv 2))))) (aA (aP (QS))) bJ)
   (aA (aP ((Zmu (Dy kj (aJ (aJ (pv 0) rfl) rfl) (bB) (LQ _)) (Zms (Zmt (gG fK hr T.kW (aa (pv 0) (aa (pv 3) au))))))))))),?_⟩
  obtain ⟨z0,z1,z2,rfl,q⟩:=h;exact Zl0 tx q
theorem Zfs {fd:FuncData}{Zl7 Za1:FuncData} (F:jA K "roots" "roots" S8 qw fd) (Zp7:Hh P w K mg base 1 vm Zl7 ["world"] (Vv XQ)) (Zec:Hh P w K mg base 3 lO Za1 Gm (Aj XQ)):kh P w K mg base 4 qw fd ["world"] (Kc XQ):=by
 have sc:=Zex;have tx:=nA _ T;walk_at "ok"
 ·refine ⟨K6 K (Vv XQ) (Aj XQ) H,(aA (aP (bz p8 (gG Zp7 hr T.Zgc (aa (pv 0) au)) (cU (aa (G.Zjj (G.Zk (cns:=["world"]) [0] (G.Zjd (G.Zcg (aJ (pv 0) rfl))) (fun _ _ _ _ _=>G.Cu) (fun _ _ _ _ _=>(gG Zec hr T.QX (aa (pv 2) (aa (pv 0) (aa (pv 1) au))))) rfl rfl (by repeat (first | exact trivial | refine ⟨rfl,?_⟩)) (by repeat (first | exact trivial | refine ⟨rfl,?_⟩)) rfl (by decide +kernel) rfl (by decide +kernel) (by decide +kernel) rfl rfl (by decide +kernel))) au))))),?_⟩;obtain ⟨z0,rfl,q⟩:=h;exact Zf1 tx q
theorem Zt {fd:FuncData}{UW d8 Pu:FuncData} (F:jA K "root_of" "root_of" FP lO fd) (Zav:Hh P w K mg base 2 sU UW Tv (CP XQ)) (fK:Hh P w K mg base 1 dH d8 jH (cC XQ)) (VG:Hh P w K mg base 1 gP Pu ["world"] (rN XQ)):kh P w K mg base 3 lO fd Gm (Aj XQ):=by
 have sc:=YJ;have tx:=nA _ T;walk_at "ok"
 ·refine ⟨BV K (CP XQ) (cC XQ) (rN XQ),(ao (dB (nO (gG Zav hr T.ZX (aa (pv 0) (aa (pv 1) (aa (pv 2) au))))) (aA (aP (fB))) bJ)
   (ao (dB (PW.pt (K9 (nO (gG VG hr T.Eg (aa (pv 0) au))) (Dt (Cr (nO (gG fK hr T.kW (aa (pv 0) (aa (jV d7 (aJ (aJ (pv 0) rfl) rfl) (pv 1)) au)))))))) (aA (aP (fB))) bJ)
   (aA (aP (pv 1))))),?_⟩
  obtain ⟨z0,z1,z2,rfl,q⟩:=h;exact Zc tx q
theorem Ow {fd:FuncData} (F:jA K "note_hands" "note_hands" wC fW fd) {jK:FuncData} (lH:Hh P w K mg base 3 fX jK nP (eN XQ)):kh P w K mg base 4 fW fd rD (jM XQ):=by
 have sc:=Ob;have tx:=nA _ T;walk_at "ok"
 ·refine ⟨uI K (eN XQ),(ao (fL 2 sc.nd (cU au))
   (ao (pY PassesOwn.never rfl (G.Tp rfl T.nW (aa (aJ (pv 0) rfl) au)) (Tq rfl (qz (iD (i:=3) sc.nd rfl (Or.inl rfl)) (qz (iD (i:=4) sc.nd rfl (Or.inl rfl)) JX)))
   (aA (dB (pH kj (bz Tz (bz Zfr (pv 1) (pv 3)) (az)) (az)) (aA (rB (Dz PySem.F.plainAttrs_list PySem.F.slot_list_extend PySem.F.type_list_extend GR (pv 2) (aa (gG lH hr T.qb (aa (pv 0) (aa (aJ (pv 4) rfl) au))) au)))) bJ)))
   (aA (aP (pv 2))))),?_⟩
  obtain ⟨z0,z1,rfl,q⟩:=h;exact O6 tx q
theorem JL {fd:FuncData}{Zho u6:FuncData} (F:jA K "step_at_rest" "step_at_rest" su cJ fd) (Zlm:Hh P w K mg base 2 qx Zho ["world"] (Kl XQ)) (yf:Hh P w K mg base 4 fW u6 rD (jM XQ)):kh P w K mg base 5 cJ fd ["world"] (bR XQ (JZ "rest")):=by
 have sc:=JG;have tx:=nA _ T;walk_at "ok"
 ·refine ⟨qR K (Kl XQ) (jM XQ),(ao (rB (gG Zlm hr T.Zbc (aa (pv 0) au)))
   (ao (fL 1 sc.nd (gG yf hr T.xU (aa (pv 0) (aa (aJ (aJ (pv 0) rfl) rfl) au))))
   (aA (aP (cG (aa (bB) (aa (aJ (aJ (pv 0) rfl) rfl) (aa (pv 1) au)))))))),?_⟩
  obtain ⟨z0,rfl,q⟩:=h;exact Jy tx q
theorem JH {fd:FuncData}{MP Zl4:FuncData} (F:jA K "step_in_walk" "step_in_walk" rZ cH fd) (Qg:Hh P w K mg base 7 fQ MP ["world"] (bR XQ Ws)) (Zp4:Hh P w K mg base 4 vf Zl4 ["world"] (bR XQ Wq)):kh P w K mg base 8 cH fd ["world"] (bR XQ (JZ "walk")):=by
 have sc:=JD;have tx:=nA _ T;walk_at "ok"
 ·refine ⟨qP K (bR XQ Ws) (bR XQ Wq),(ao (dB (Wk (aJ (aJ (pv 0) rfl) rfl) (fun _=>rfl)) (aA (aP (gG Zp4 hr T.Zg9 (aa (pv 0) au)))) bJ)
   (aA (aP (gG Qg hr T.Bq (aa (pv 0) au))))),?_⟩
  obtain ⟨z0,rfl,q⟩:=h;exact Jw tx q
theorem Zjr {fd:FuncData} (F:jA K "walk" "walk" Y6 vf fd) {jK:FuncData} (lH:Hh P w K mg base 3 fX jK nP (eN XQ)):kh P w K mg base 4 vf fd ["world"] (bR XQ Wq):=by
 have sc:=Zio;have tx:=nA _ T;walk_at "ok"
 ·refine ⟨Te K (eN XQ),(ao (fL 1 sc.nd (aJ (pv 0) rfl))
   (ao (fL 2 sc.nd (jV d7 (aJ (aJ (pv 0) rfl) rfl) (Dz PySem.F.plainAttrs_list PySem.F.slot_list_pop PySem.F.type_list_pop Zg5 (aJ (pv 1) rfl) (aa (az) au))))
   (ao (cj (pv 1) (bz jC (aJ (pv 1) rfl) (az)) rfl)
   (aA (aP (cG (aa (bB) (aa (aJ (pv 2) rfl) (aa (gG lH hr T.qb (aa (pv 0) (aa (aJ (pv 2) rfl) au))) au))))))))),?_⟩
  obtain ⟨z0,rfl,q⟩:=h;exact Zid tx q
theorem Lr {fd:FuncData}{Es PK Zom u6:FuncData} (F:jA K "look_or_cut" "look_or_cut" uD fQ fd) (v9:Hh P w K mg base 2 di Es p6 (uf 2)) (rQ:Hh P w K mg base 1 fY PK ["self"] (HS (.bl false))) (Zr5:Hh P w K mg base 6 Bu Zom ["world"] (bR XQ Zq)) (yf:Hh P w K mg base 4 fW u6 rD (jM XQ)):kh P w K mg base 7 fQ fd ["world"] (bR XQ Ws):=by
 have sc:=KN;have tx:=nA _ T;walk_at "ok"
 ·refine ⟨sJ K XQ.L (uf 2) (HS (.bl false)) (bR XQ Zq) (jM XQ),(ao (fL 1 sc.nd (aJ (pv 0) rfl))
   (ao (fL 2 sc.nd (aJ (aJ (pv 0) rfl) rfl))
   (ao (fL 3 sc.nd (Af (pv 2) T.Ew T.tZ v9.g (hr.mono (by decide)) v9.b .nil G.jN (aa (aJ (pv 1) rfl) (aa (iJ G.gw (by rfl) T.oE G.boot_len (aa (aJ (pv 0) rfl) au)) au))))
   (ao (fL 4 sc.nd (gG yf hr T.xU (aa (pv 0) (aa (pv 3) au))))
   (ao (dB (PW.pt (Ds (pH kj (pv 3) (az)) (Cq (Cr (PW.pt (Ds (nO (qC (pv 2) T.Ew T.uW rQ.g (hr.mono (by decide)) rQ.b .nil G.jN)) (Cq (Wk (pv 4) (fun _=>rfl))))))))) (aA (aP (gG Zr5 hr T.Zlw (aa (pv 0) au)))) bJ)
   (ao (cj (pv 1) (bz jC (aJ (pv 1) rfl) (az)) rfl)
   (ao (dB (nO (qC (pv 2) T.Ew T.uW rQ.g (hr.mono (by decide)) rQ.b .nil G.jN)) (aA (cj (pv 1) (bz Zpn (aJ (pv 1) rfl) (pv 3)) rfl)) bJ)
   (aA (aP (cG (aa (bB) (aa (pv 3) (aa (pv 4) au))))))))))))),?_⟩
  obtain ⟨z0,rfl,q⟩:=h;exact Mm tx q
theorem Zn4 {fd:FuncData}{o7 Px Xm u5:FuncData} (F:jA K "cut" "cut" Zf0 Bu fd) (qJ:Hh P w K mg base 3 gB o7 qD (jj XQ)) (VH:Hh P w K mg base 5 gQ Px ["world"] (rO XQ)) (Zaw:Hh P w K mg base 2 jQ Xm ["world"] (xZ XQ)) (ye:Hh P w K mg base 1 fV u5 ["event"] (lE K)):kh P w K mg base 6 Bu fd ["world"] (bR XQ Zq):=by
 have sc:=Zml;have tx:=nA _ T;walk_at "ok"
 ·refine ⟨Zg K (jj XQ) (rO XQ) (xZ XQ) (lE K),(ao (fL 1 sc.nd (aJ (pv 0) rfl))
   (ao (cj (pv 1) (iJ G.gw (by rfl) T.oE G.boot_len (aa (aJ (aJ (pv 0) rfl) rfl) au)) rfl)
   (ao (cj (pv 1) (az) rfl)
   (ao (fL 2 sc.nd (gG VH hr T.Eh (aa (pv 0) au)))
   (ao (dB (pH G.zO (pv 2) (fB)) (ao (cj (pv 1) (bB) rfl)
   (ao (cj (pv 1) (pv 2) rfl)
   (aA (aP (gG ye hr T.xT (aa (pv 2) au)))))) bJ)
   (ao (cj (pv 1) (bB) rfl)
   (ao (fL 3 sc.nd (gG qJ hr T.uc (aa (aJ (pv 0) rfl) (aa (gG Zaw hr T.Ml (aa (pv 0) au)) au))))
   (aA (aP (cG (aa (bB) (aa (iJ G.gw (by rfl) T.oE G.boot_len (aa (pv 3) au)) (aa (pv 3) au))))))))))))),?_⟩
  obtain ⟨z0,rfl,q⟩:=h;exact Zot tx q
theorem Oz {fd:FuncData}{d8 Za2 Zhn:FuncData} (F:jA K "first_loss" "first_loss" wF gQ fd) (fK:Hh P w K mg base 1 dH d8 jH (cC XQ)) (Zed:Hh P w K mg base 3 lQ Za2 Gn (Ak K XQ.C XQ.H)) (Zll:Hh P w K mg base 4 qw Zhn ["world"] (Kc XQ)):kh P w K mg base 5 gQ fd ["world"] (rO XQ):=by
 have sc:=Od;have tx:=nA _ T;walk_at "ok"
 ·refine ⟨uK K (cC XQ) (Ak K XQ.C XQ.H) (Kc XQ),(ao (pY PassesOwn.never rfl (lq (gG Zed hr T.QZ (aa (aJ (pv 0) rfl) (aa (gG Zll hr T.Zbb (aa (pv 0) au)) au)))) (Tq rfl (qz (iD (i:=1) sc.nd rfl (Or.inl rfl)) (qz (iD (i:=2) sc.nd rfl (Or.inl rfl)) JX)))
   (ao (fL 3 sc.nd (jV d7 (aJ (aJ (pv 0) rfl) rfl) (pv 1)))
   (aA (dB (Cr (nO (gG fK hr T.kW (aa (pv 0) (aa (pv 3) au))))) (aA (aP (cG (aa (bB) (aa (aJ (pv 3) rfl) (aa (vM Ey (by rfl) T.yz G.boot_list (aa (pv 2) au)) au)))))) bJ))))
   (aA (aP (fB)))),?_⟩
  obtain ⟨z0,rfl,q⟩:=h;exact Pn tx q
theorem Wz {fd:FuncData}{u9 d8:FuncData} (F:jA K "given_up" "given_up" BK jQ fd) (pC:Hh P w K mg base 1 fj u9 ["self"] (lF XQ.H)) (fK:Hh P w K mg base 1 dH d8 jH (cC XQ)):kh P w K mg base 2 jQ fd ["world"] (xZ XQ):=by
 have sc:=Wc;have tx:=nA _ T;walk_at "ok"
 ·refine ⟨zp K XQ.H (lF XQ.H) (cC XQ),(ao (Zh (i:=1) sc.nd rfl (Or.inr rfl) (aJ (pv 0) rfl))
   (aA (aP (G.Ld (cns:=["world","heap"]) [0,1] (lq (qC (pv 1) T.cF T.uX pC.g (hr.mono (by decide)) pC.b .nil G.jN)) (fun _ _ _ _ _=>(G.Tt (Cr (nO (gG fK hr T.kW (aa (pv 1) (aa (jV d7 (aJ (pv 2) rfl) (pv 0)) au))))))) (fun _ _ _ _ _=>(pv 0)) rfl rfl (by repeat (first | exact trivial | refine ⟨rfl,?_⟩)) (by repeat (first | exact trivial | refine ⟨rfl,?_⟩)) rfl (by decide +kernel) rfl (by decide +kernel) (by decide +kernel) rfl (by decide +kernel))))),?_⟩
  obtain ⟨z0,rfl,q⟩:=h;exact Xj tx q
theorem Ou {fd:FuncData} (F:jA K "told_again" "told_again" wA fV fd):kh P w K mg base 1 fV fd ["event"] (lE K):=by
 have sc:=N8;walk_at "ok"
 ·refine ⟨uG K,(aA (aP (cG (aa (jV bU (pv 0) (az)) (aa (jV bU (pv 0) (az)) (aa (vM G.CJ (by rfl) T.yz G.boot_list (aa (jV bU (pv 0) (az)) au)) au)))))),?_⟩;obtain ⟨z0,rfl,q⟩:=h;exact Ny q
theorem JK {fd:FuncData}{Zol Pr:FuncData} (F:jA K "step_in_give" "step_in_give" sr cI fd) (Zr4:Hh P w K mg base 1 Bt Zol ["world"] (bR XQ pEnd)) (VF:Hh P w K mg base 3 gO Pr ["world"] (bR XQ Wr)):kh P w K mg base 4 cI fd ["world"] (bR XQ (JZ "give")):=by
 have sc:=JF;have tx:=nA _ T;walk_at "ok"
 ·refine ⟨qQ K (bR XQ pEnd) (bR XQ Wr),(ao (dB (pH Bm (aJ (aJ (pv 0) rfl) rfl) (aJ (aJ (pv 0) rfl) rfl)) (aA (aP (gG VF hr T.Ef (aa (pv 0) au)))) bJ)
   (aA (aP (gG Zr4 hr T.Zlv (aa (pv 0) au))))),?_⟩
  obtain ⟨z0,rfl,q⟩:=h;exact Jx tx q
theorem Ov {fd:FuncData}{Vb ju d8:FuncData} (F:jA K "pass_place" "pass_place" wB gO fd) (Jr:Hh P w K mg base 2 ir Vb zM (qI XQ.C XQ.H)) (j7:Hh P w K mg base 1 gH ju nY (dG XQ.H)) (fK:Hh P w K mg base 1 dH d8 jH (cC XQ)):kh P w K mg base 3 gO fd ["world"] (bR XQ Wr):=by
 have sc:=Oa;have tx:=nA _ T;walk_at "ok"
 ·refine ⟨uH K XQ.H (qI XQ.C XQ.H) (dG XQ.H) (cC XQ),(ao (fL 1 sc.nd (aJ (pv 0) rfl))
   (ao (fL 2 sc.nd (aJ (pv 1) rfl))
   (ao (cj (pv 1) (bz jC (pv 2) (az)) rfl)
   (ao (cj (pv 1) (bz jC (aJ (pv 1) rfl) (az)) rfl)
   (ao (fL 3 sc.nd (gG j7 hr T.qd (aa (aJ (pv 0) rfl) (aa (pv 2) au))))
   (ao (dB (PW.pt (Ds (pH G.xO (pv 3) (fB)) (Cq (nO (gG fK hr T.kW (aa (pv 0) (aa (pv 3) au))))))) (aA (aP (cG (aa (bB) (aa (pv 2) (aa (cU au) au)))))) bJ)
   (aA (aP (cG (aa (bB) (aa (Af (aJ (pv 0) rfl) T.cF T.Eb Jr.g (hr.mono (by decide)) Jr.b .nil G.jN (aa (pv 2) au)) (aa (cU (aa (pv 2) au)) au)))))))))))),?_⟩
  obtain ⟨z0,rfl,q⟩:=h;exact Oq tx q
theorem Zn1 {fd:FuncData} (F:jA K "end" "end" s_end Bt fd):kh P w K mg base 1 Bt fd ["world"] (bR XQ pEnd):=by
 have sc:=Zmk;have tx:=nA _ T;walk_at "ok"
 ·refine ⟨Zf K,(ao (fL 1 sc.nd (aJ (pv 0) rfl))
   (ao (cj (pv 1) (bB) rfl)
   (aA (aP (cG (aa (bB) (aa (aJ (pv 1) rfl) (aa (cU (aa (aJ (pv 1) rfl) (aa (aJ (pv 1) rfl) (aa (aJ (pv 1) rfl) au)))) au)))))))),?_⟩
  obtain ⟨z0,rfl,q⟩:=h;exact Zop tx q
theorem DK {fd:FuncData} (F:jA K "step_when_lost" "step_when_lost" pN bQ fd) {u5:FuncData} (ye:Hh P w K mg base 1 fV u5 ["event"] (lE K)):kh P w K mg base 2 bQ fd ["world"] (bR XQ (JZ "lost")):=by
 have sc:=Dn;have tx:=nA _ T;walk_at "ok"
 ·refine ⟨oJ K (lE K),(aA (aP (gG ye hr T.xT (aa (aJ (aJ (pv 0) rfl) rfl) au)))),?_⟩;obtain ⟨z0,rfl,q⟩:=h;exact Di tx q
theorem Zjs {fd:FuncData}{JQ JP JN Ep:FuncData} (F:jA K "step" "step" Y7 vg fd) (sZ:Hh P w K mg base 5 cJ JQ ["world"] (bR XQ (JZ "rest"))) (sY:Hh P w K mg base 4 cI JP ["world"] (bR XQ (JZ "give"))) (sX:Hh P w K mg base 8 cH JN ["world"] (bR XQ (JZ "walk"))) (qe:Hh P w K mg base 2 bQ Ep ["world"] (bR XQ (JZ "lost"))):kh P w K mg base 9 vg fd ["world"] (bR XQ Zfq):=by
 have sc:=Ziq;have tx:=nA _ T;walk_at "ok"
 ·refine ⟨Tf K cJ cI cH bQ (bR XQ (JZ "rest")) (bR XQ (JZ "give")) (bR XQ (JZ "walk")) (bR XQ (JZ "lost")),(ao (fL 1 sc.nd (G.Zfi T.QF rfl (aJ (aJ (pv 0) rfl) rfl) (fun _ _=>rfl)))
   (aA (aP (G.Wo (k:=8) (G.Nv.cons (by decide) sZ.g sZ.b sZ.k (G.Nv.cons (by decide) sX.g sX.b sX.k (G.Nv.cons (by decide) sY.g sY.b sY.k (G.Nv.cons (by decide) qe.g qe.b qe.k G.Nv.nil)))) (hr.mono (by decide)) rfl (Or.inl rfl) G.jN (aa (pv 0) au))))),?_⟩
  obtain ⟨z0,rfl,q⟩:=h;exact Zih tx q
theorem Zco {fd:FuncData} (F:jA K "all_of" "all_of" K4 mV fd):kh P w K mg base 1 mV fd ["hands"] (Fg):=by
 have sc:=Zca;walk_at "ok"
 ·refine ⟨Gk,(aA (aP (bz zN (bz Zmx (az) (pv 0)) (az)))),?_⟩;obtain ⟨z0,rfl,q⟩:=h;exact Ze8 q
theorem Ay {fd:FuncData} (F:jA K "at_begin" "Looking.at_begin" nG bY fd):kh P w K mg base 1 bY fd nQ (yc 1):=by
 have sc:=Ar;walk_at "ok"
 ·refine ⟨mL,(aA (aP (az))),?_⟩;obtain ⟨z0,z1,rfl,q⟩:=h;exact Bh q
theorem DP {fd:FuncData} (F:jA K "next_look" "Last.next_look" pP di fd) {Zdx:FuncData} (Zi8:Hh P w K mg base 1 mV Zdx ["hands"] (Fg)):kh P w K mg base 2 di fd p6 (uf 2):=by
 have sc:=Dq;walk_at "ok"
 ·refine ⟨oN (Fg),(aA (aP (gG Zi8 hr T.Xb (aa (pv 2) au)))),?_⟩;obtain ⟨z0,z1,z2,rfl,q⟩:=h;exact Fj q
theorem O3 {fd:FuncData} (F:jA K "stays" "Last.stays" wK fY fd):kh P w K mg base 1 fY fd ["self"] (HS (.bl false)):=by
 have sc:=Oj;walk_at "ok"
 ·refine ⟨uP,(aA (aP (QS))),?_⟩;obtain ⟨z0,rfl,q⟩:=h;exact Qd q
theorem GD {fd:FuncData} (F:jA K "__init__" "Kind.__init__" qL cX fd):kh P w K mg base 1 cX fd qW (um XQ.K):=by
 have sc:=Fy;have tx:=nA _ T;walk_at "ok"
 ·refine ⟨pR K,(ao (cj (pv 0) (pv 1) rfl)
   (aA (cj (pv 0) (pv 2) rfl))),?_⟩
  obtain ⟨z0,z1,z2,rfl,q⟩:=h;exact HW tx q
theorem Wx {fd:FuncData} (F:jA K "slots_of" "slots_of" By dJ fd):kh P w K mg base 1 dJ fd jr (bV XQ):=by
 have sc:=V9;have tx:=nA _ T;walk_at "ok"
 ·refine ⟨zj K,(aA (aP (aJ (jV d7 (aJ (pv 0) rfl) (pv 1)) rfl))),?_⟩;obtain ⟨z0,z1,rfl,q⟩:=h;exact V8 tx q
theorem ZG {fd:FuncData}{ju dD:FuncData} (F:jA K "cell_in" "cell_in" Gg jl fd) (j7:Hh P w K mg base 1 gH ju nY (dG XQ.H)) (dM:Hh P w K mg base 1 dJ dD jr (bV XQ)):kh P w K mg base 2 jl fd rR (jm XQ aH):=by
 have sc:=Y0;have tx:=nA _ T;walk_at "okX"
 ·refine ⟨Cm K aH (dG XQ.H) (bV XQ) E,(ao (fL 3 sc.nd (gG j7 hr T.qd (aa (aJ (pv 0) rfl) (aa (jV d7 (gG dM hr T.jt (aa (pv 0) (aa (pv 1) au))) (pv 2)) au))))
   (ao (dB (pH G.xO (pv 3) (fB)) (aA (G.Dv rfl rfl T.Jj T.tL (aa (bB) au) (fun _ _ _ _ _ _ _ I hx hE=>G.Tn I hx hE))) bJ)
   (aA (aP (pv 3))))),?_⟩
  obtain ⟨z0,z1,z2,rfl,q⟩:=h;exact Zan tx q
theorem TV {fd:FuncData}{Et nR:FuncData} (F:jA K "fields_in" "fields_in" yK ie fd) (wg:Hh P w K mg base 1 dj Et p7 (uh XQ)) (gJ:Hh P w K mg base 2 jl nR rR (jm XQ aH)):kh P w K mg base 3 ie fd tV (mq XQ aH aQ):=by
 have sc:=Sh;have tx:=nA _ T;walk_at "okX"
 ·refine ⟨wU K XQ.C aQ (uh XQ) (jm XQ aH) E,(ao (fL 4 sc.nd (tR gJ.g (hr.mono (by decide)) rfl T.vU gJ.k gJ.b .nil G.DG (aa (pv 0) (aa (pv 1) (aa (pv 2) au)))))
   (ao (dB (Cr (nO (Af (pv 4) T.cN T.t7 wg.g (hr.mono (by decide)) wg.b .nil G.jN (aa (pv 3) au)))) (aA (G.Dv rfl rfl T.Q5 T.Ac (aa (bB) au) (fun _ _ _ _ _ _ _ I hx hE=>G.Tn I hx hE))) bJ)
   (aA (aP (aJ (pv 4) rfl))))),?_⟩
  obtain ⟨z0,z1,z2,z3,rfl,q⟩:=h;exact UJ tx q
theorem Ln {fd:FuncData} (F:jA K "told_as_old" "told_as_old" uA fO fd):kh P w K mg base 1 fO fd uU (xY XQ):=by
 have sc:=KD;have tx:=nA _ T;walk_at "ok"
 ·refine ⟨sG K,(ao (dB (pH kj (bz Tz (aJ (aJ (pv 0) rfl) rfl) (T.Zm0.pe rfl)) (az)) (aA (aP (cU au))) bJ)
   (aA (aP (cU (aa (pv 1) au))))),?_⟩
  obtain ⟨z0,z1,rfl,q⟩:=h;exact Kq tx q
theorem Lp {fd:FuncData} (F:jA K "told_as_new" "told_as_new" uB eZ fd) {UT:FuncData} (X5:Hh P w K mg base 1 iV UT zA (ug XQ)):kh P w K mg base 2 eZ fd qj (nU XQ):=by
 have sc:=KH;have tx:=nA _ T;walk_at "ok"
 ·refine ⟨sH K (ug XQ),(ao (dB (PW.pt (Ds (pH kj (bz Tz (aJ (aJ (pv 0) rfl) rfl) (T.Zm1.pe rfl)) (az)) (Cq (nO (gG X5 hr T.IV (aa (pv 0) (aa (pv 1) au))))))) (aA (aP (cU au))) bJ)
   (aA (aP (cU (aa (pv 2) au))))),?_⟩
  obtain ⟨z0,z1,z2,rfl,q⟩:=h;exact Kr tx q
theorem Zz {fd:FuncData}{U9 dR dD:FuncData} (F:jA K "do_make" "do_make" Gb gk fd) (Jp:Hh P w K mg base 3 gF U9 zL (uo K XQ.C XQ.H bN)) (fD:Hh P w K mg base 2 dU dR jO (cB XQ)) (dM:Hh P w K mg base 1 dJ dD jr (bV XQ)):kh P w K mg base 4 gk fd Gu (bZ XQ (yu bN aH aQ bh) Hu):=by
 have sc:=YT;have tx:=nA _ T;walk_at "okX"
 ·refine ⟨Cd K XQ.H (uo K XQ.C XQ.H bN) (cB XQ) (bV XQ) E,(ao (fL 2 sc.nd (gG dM hr T.jt (aa (pv 0) (aa (jV bU (pv 1) (az)) au))))
   (ao (fL 3 sc.nd (jV bU (pv 1) (az)))
   (ao (fL 4 sc.nd (jV bU (pv 1) (az)))
   (ao (fL 5 sc.nd (Af (aJ (pv 0) rfl) T.cF T.DY Jp.g (hr.mono (by decide)) Jp.b .nil G.DG (aa (pv 3) (aa (pv 4) (aa (aJ (aJ (pv 0) rfl) rfl) au)))))
   (ao (xG (pv 5) (xH (pv 2) (jV bU (pv 1) (az)) set_list))
   (aA (aP (cG (aa (bB) (aa (gG fD hr T.lA (aa (aJ (pv 0) rfl) (aa (pv 5) au))) (aa (cU au) au))))))))))),?_⟩
  obtain ⟨z0,z1,rfl,q⟩:=h;exact Zag tx rfl q
theorem Zcn {fd:FuncData}{dR xW dD:FuncData} (F:jA K "do_get" "do_get" K3 iM fd) (fD:Hh P w K mg base 2 dU dR jO (cB XQ)) (mz:Hh P w K mg base 3 ie xW tV (mq XQ aH aQ)) (dM:Hh P w K mg base 1 dJ dD jr (bV XQ)):kh P w K mg base 4 iM fd Lh (bZ XQ (yu bN aH aQ bh) Q9):=by
 have sc:=Zc9;have tx:=nA _ T;walk_at "okX"
 ·refine ⟨Gj K (cB XQ) (mq XQ aH aQ) (bV XQ) E,(ao (fL 2 sc.nd (jV bU (pv 1) (az)))
   (ao (fL 3 sc.nd (jV bU (pv 1) (az)))
   (ao (fL 4 sc.nd (jV bU (pv 1) (az)))
   (ao (fL 5 sc.nd (jV d7 (tR mz.g (hr.mono (by decide)) rfl T.zT mz.k mz.b .nil G.DG (aa (pv 0) (aa (pv 2) (aa (pv 3) (aa (pv 4) au))))) (pv 4)))
   (ao (xG (pv 5) (xH (gG dM hr T.jt (aa (pv 0) (aa (pv 2) au))) (jV bU (pv 1) (az)) set_list))
   (aA (aP (cG (aa (bB) (aa (gG fD hr T.lA (aa (aJ (pv 0) rfl) (aa (pv 5) au))) (aa (cU au) au))))))))))),?_⟩
  obtain ⟨z0,z1,rfl,q⟩:=h;exact Ze0 tx rfl rfl q
theorem Zcm {fd:FuncData}{dR xW jK dD sS MK:FuncData} (F:jA K "do_put" "do_put" K1 iK fd) (fD:Hh P w K mg base 2 dU dR jO (cB XQ)) (mz:Hh P w K mg base 3 ie xW tV (mq XQ aH aQ)) (lH:Hh P w K mg base 3 fX jK nP (eN XQ)) (dM:Hh P w K mg base 1 dJ dD jr (bV XQ)) (vq:Hh P w K mg base 2 eZ sS qj (nU XQ)) (Qf:Hh P w K mg base 1 fO MK uU (xY XQ)):kh P w K mg base 4 iK fd Lg (bZ XQ (yu bN aH aQ bh) Q8):=by
 have sc:=Zc8;have tx:=nA _ T;walk_at "okX"
 ·refine ⟨Gi K (cB XQ) (mq XQ aH aQ) (eN XQ) (bV XQ) (nU XQ) (xY XQ) E,(ao (fL 2 sc.nd (jV bU (pv 1) (az)))
   (ao (fL 3 sc.nd (jV bU (pv 1) (az)))
   (ao (fL 4 sc.nd (tR mz.g (hr.mono (by decide)) rfl T.zT mz.k mz.b .nil G.DG (aa (pv 0) (aa (pv 2) (aa (jV bU (pv 1) (az)) (aa (pv 3) au))))))
   (ao (fL 5 sc.nd (jV d7 (pv 4) (pv 3)))
   (ao (fL 6 sc.nd (jV d7 (gG dM hr T.jt (aa (pv 0) (aa (pv 2) au))) (jV bU (pv 1) (az))))
   (ao (xG (pv 6) (xH (pv 4) (pv 3) set_list))
   (ao (fL 7 sc.nd (gG lH hr T.qb (aa (pv 0) (aa (bz p8 (gG Qf hr T.Bo (aa (pv 0) (aa (pv 5) au))) (gG vq hr T.uY (aa (pv 0) (aa (pv 2) (aa (pv 6) au))))) au))))
   (aA (aP (cG (aa (bB) (aa (gG fD hr T.lA (aa (aJ (pv 0) rfl) (aa (pv 5) au))) (aa (pv 7) au))))))))))))),?_⟩
  obtain ⟨z0,z1,rfl,q⟩:=h;exact Zdz tx rfl rfl q
theorem ZF {fd:FuncData}{dR dD:FuncData} (F:jA K "do_copy" "do_copy" Gf gq fd) (fD:Hh P w K mg base 2 dU dR jO (cB XQ)) (dM:Hh P w K mg base 1 dJ dD jr (bV XQ)):kh P w K mg base 3 gq fd Gx (bZ XQ (yu bN aH aQ bh) Hz):=by
 have sc:=YZ;have tx:=nA _ T;walk_at "ok"
 ·refine ⟨Ck K (cB XQ) (bV XQ),(ao (fL 2 sc.nd (gG dM hr T.jt (aa (pv 0) (aa (jV bU (pv 1) (az)) au))))
   (ao (fL 3 sc.nd (jV d7 (pv 2) (jV bU (pv 1) (az))))
   (ao (xG (pv 3) (xH (pv 2) (jV bU (pv 1) (az)) set_list))
   (aA (aP (cG (aa (bB) (aa (gG fD hr T.lA (aa (aJ (pv 0) rfl) (aa (pv 3) au))) (aa (cU au) au))))))))),?_⟩
  obtain ⟨z0,z1,rfl,q⟩:=h;exact Zaj tx q
theorem ZD {fd:FuncData}{dR dD:FuncData} (F:jA K "do_drop" "do_drop" Ge gn fd) (fD:Hh P w K mg base 2 dU dR jO (cB XQ)) (dM:Hh P w K mg base 1 dJ dD jr (bV XQ)):kh P w K mg base 3 gn fd Gw (bZ XQ (yu bN aH aQ bh) Hw):=by
 have sc:=YX;have tx:=nA _ T;walk_at "ok"
 ·refine ⟨Cj K (cB XQ) (bV XQ),(ao (fL 2 sc.nd (gG dM hr T.jt (aa (pv 0) (aa (jV bU (pv 1) (az)) au))))
   (ao (fL 3 sc.nd (jV d7 (pv 2) (jV bU (pv 1) (az))))
   (ao (xG (fB) (xH (pv 2) (jV bU (pv 1) (az)) set_list))
   (aA (aP (cG (aa (bB) (aa (gG fD hr T.lA (aa (aJ (pv 0) rfl) (aa (pv 3) au))) (aa (cU au) au))))))))),?_⟩
  obtain ⟨z0,z1,rfl,q⟩:=h;exact Zai tx q
theorem ZC {fd:FuncData}{dR jK dD sS:FuncData} (F:jA K "do_give" "do_give" Gd gm fd) (fD:Hh P w K mg base 2 dU dR jO (cB XQ)) (lH:Hh P w K mg base 3 fX jK nP (eN XQ)) (dM:Hh P w K mg base 1 dJ dD jr (bV XQ)) (vq:Hh P w K mg base 2 eZ sS qj (nU XQ)):kh P w K mg base 4 gm fd Gv (bZ XQ (yu bN aH aQ bh) Hv):=by
 have sc:=YW;have tx:=nA _ T;walk_at "ok"
 ·refine ⟨Cg K (cB XQ) (eN XQ) (bV XQ) (nU XQ),(ao (fL 2 sc.nd (jV bU (pv 1) (az)))
   (ao (fL 3 sc.nd (jV bU (pv 1) (az)))
   (ao (fL 4 sc.nd (jV d7 (gG dM hr T.jt (aa (pv 0) (aa (pv 2) au))) (jV bU (pv 1) (az))))
   (ao (xG (pv 4) (xH (gG dM hr T.jt (aa (pv 0) (aa (pv 3) au))) (jV bU (pv 1) (az)) set_list))
   (ao (fL 5 sc.nd (gG lH hr T.qb (aa (pv 0) (aa (gG vq hr T.uY (aa (pv 0) (aa (pv 2) (aa (pv 4) au)))) au))))
   (aA (aP (cG (aa (bB) (aa (gG fD hr T.lA (aa (aJ (pv 0) rfl) (aa (pv 4) au))) (aa (pv 5) au))))))))))),?_⟩
  obtain ⟨z0,z1,rfl,q⟩:=h;exact Zah tx q
theorem WK {fd:FuncData} (F:jA K "do_write" "do_write" BL eG fd) {nR:FuncData} (gJ:Hh P w K mg base 2 jl nR rR (jm XQ aH)):kh P w K mg base 3 eG fd Cv (bZ XQ (yu bN aH aQ bh) Ah):=by
 have sc:=Wd;have tx:=nA _ T;walk_at "okX"
 ·refine ⟨zq K (jm XQ aH) E,(ao (fL 2 sc.nd (tR gJ.g (hr.mono (by decide)) rfl T.vU gJ.k gJ.b .nil G.DG (aa (pv 0) (aa (jV bU (pv 1) (az)) (aa (jV bU (pv 1) (az)) au)))))
   (ao (fL 3 sc.nd (aJ (pv 2) rfl))
   (ao (cj (pv 2) (jV bU (pv 1) (az)) rfl)
   (aA (aP (cG (aa (bB) (aa (pv 3) (aa (cU au) au))))))))),?_⟩
  obtain ⟨z0,z1,rfl,q⟩:=h;exact Xv tx rfl q
theorem Zx {fd:FuncData} (F:jA K "do_read" "do_read" FZ gh fd) {nR:FuncData} (gJ:Hh P w K mg base 2 jl nR rR (jm XQ aH)):kh P w K mg base 3 gh fd Gr (bZ XQ (yu bN aH aQ bh) Ht):=by
 have sc:=YQ;have tx:=nA _ T;walk_at "okX"
 ·refine ⟨BZ K (jm XQ aH) E,(ao (fL 2 sc.nd (tR gJ.g (hr.mono (by decide)) rfl T.vU gJ.k gJ.b .nil G.DG (aa (pv 0) (aa (jV bU (pv 1) (az)) (aa (jV bU (pv 1) (az)) au)))))
   (aA (aP (cG (aa (bB) (aa (aJ (pv 2) rfl) (aa (cU au) au))))))),?_⟩
  obtain ⟨z0,z1,rfl,q⟩:=h;exact Zae tx rfl q
theorem Zy {fd:FuncData}{nR dD:FuncData} (F:jA K "do_name" "do_name" Ga gj fd) (gJ:Hh P w K mg base 2 jl nR rR (jm XQ aH)) (dM:Hh P w K mg base 1 dJ dD jr (bV XQ)):kh P w K mg base 3 gj fd Gs (bZ XQ (yu bN aH aQ bh) isName):=by
 have sc:=YS;have tx:=nA _ T;walk_at "okX"
 ·refine ⟨Ca K (jm XQ aH) (bV XQ) E,(ao (fL 2 sc.nd (jV bU (pv 1) (az)))
   (ao (fL 3 sc.nd (jV bU (pv 1) (az)))
   (ao (fL 4 sc.nd (aJ (tR gJ.g (hr.mono (by decide)) rfl T.vU gJ.k gJ.b .nil G.DG (aa (pv 0) (aa (pv 2) (aa (pv 3) au)))) rfl))
   (ao (JW (Bs hr) (aJ (pv 0) rfl) (jV bU (pv 1) (az)) (cG (aa (jV d7 (gG dM hr T.jt (aa (pv 0) (aa (pv 2) au))) (pv 3)) (aa (pv 4) au))) rfl)
   (aA (aP (cG (aa (bB) (aa (pv 4) (aa (cU au) au)))))))))),?_⟩
  obtain ⟨z0,z1,rfl,q⟩:=h;exact Zaf tx rfl q
theorem Zw {fd:FuncData}{dR jK MN dD:FuncData} (F:jA K "do_seek" "do_seek" FW gf fd) (fD:Hh P w K mg base 2 dU dR jO (cB XQ)) (lH:Hh P w K mg base 3 fX jK nP (eN XQ)) (vz:Hh P w K mg base 3 fP MN uV (qy XQ bh)) (dM:Hh P w K mg base 1 dJ dD jr (bV XQ)):kh P w K mg base 4 gf fd Gq (bZ XQ (yu bN aH aQ bh) Hs):=by
 have sc:=YM;have tx:=nA _ T;walk_at "okX"
 ·refine ⟨BX K (cB XQ) (eN XQ) (qy XQ bh) (bV XQ) E,(ao (fL 2 sc.nd (tR vz.g (hr.mono (by decide)) rfl T.Bp vz.k vz.b .nil G.DG (aa (pv 0) (aa (jV bU (pv 1) (az)) au))))
   (ao (xG (pv 2) (xH (gG dM hr T.jt (aa (pv 0) (aa (jV bU (pv 1) (az)) au))) (jV bU (pv 1) (az)) set_list))
   (ao (fL 3 sc.nd (gG lH hr T.qb (aa (pv 0) (aa (cU (aa (pv 2) au)) au))))
   (aA (aP (cG (aa (bB) (aa (gG fD hr T.lA (aa (aJ (pv 0) rfl) (aa (pv 2) au))) (aa (pv 3) au))))))))),?_⟩
  obtain ⟨z0,z1,rfl,q⟩:=h;exact Zad tx rfl q
theorem Lq {fd:FuncData} (F:jA K "place_named" "place_named" uC fP fd) {UW:FuncData} (Zav:Hh P w K mg base 2 sU UW Tv (CP XQ)):kh P w K mg base 3 fP fd uV (qy XQ bh):=by
 have sc:=KJ;have tx:=nA _ T;walk_at "okX"
 ·refine ⟨sI K bh (CP XQ) E,(ao (dB (Zfa (Zci (Bs hr) (pv 1) (aJ (pv 0) rfl))) (aA (G.Dv rfl rfl T.Xc T.CZ (aa (bB) au) (fun _ _ _ _ _ _ _ I hx hE=>G.Tn I hx hE))) bJ)
   (ao (fL 2 sc.nd (jV bU (pdg hr (aJ (pv 0) rfl) (pv 1)) (az)))
   (ao (fL 3 sc.nd (jV bU (pdg hr (aJ (pv 0) rfl) (pv 1)) (az)))
   (ao (dB (nO (gG Zav hr T.ZX (aa (pv 0) (aa (pv 2) (aa (pv 3) au))))) (aA (aP (fB))) bJ)
   (aA (aP (pv 2))))))),?_⟩
  obtain ⟨z0,z1,rfl,q⟩:=h;exact Lb tx q
theorem Zpq {fd:FuncData}{Zaa Za9 Zdw Za8 Za7 Za6 Zdv Za5 Za4 Xn:FuncData} (F:jA K "do" "do" Zmm PL fd) (Ij:Hh P w K mg base 3 gq Zaa Gx (bZ XQ (yu bN aH aQ bh) Hz)) (Ii:Hh P w K mg base 3 gn Za9 Gw (bZ XQ (yu bN aH aQ bh) Hw)) (Nk:Hh P w K mg base 4 iM Zdw Lh (bZ XQ (yu bN aH aQ bh) Q9)) (Ih:Hh P w K mg base 4 gm Za8 Gv (bZ XQ (yu bN aH aQ bh) Hv)) (Ig:Hh P w K mg base 4 gk Za7 Gu (bZ XQ (yu bN aH aQ bh) Hu)) (Ie:Hh P w K mg base 3 gj Za6 Gs (bZ XQ (yu bN aH aQ bh) isName)) (Nj:Hh P w K mg base 4 iK Zdv Lg (bZ XQ (yu bN aH aQ bh) Q8)) (Ib:Hh P w K mg base 3 gh Za5 Gr (bZ XQ (yu bN aH aQ bh) Ht)) (Ia:Hh P w K mg base 4 gf Za4 Gq (bZ XQ (yu bN aH aQ bh) Hs)) (CT:Hh P w K mg base 3 eG Xn Cv (bZ XQ (yu bN aH aQ bh) Ah)):kh P w K mg base 5 PL fd Zmv (bZ XQ (yu bN aH aQ bh) (fun _=>True)):=by
 have sc:=Zpi;have tx:=nA _ T;walk_at "okX"
 ·refine ⟨Zf2 K gq gn iM gm gk gj iK gh gf eG (bZ XQ (yu bN aH aQ bh) Hz) (bZ XQ (yu bN aH aQ bh) Hw) (bZ XQ (yu bN aH aQ bh) Q9) (bZ XQ (yu bN aH aQ bh) Hv) (bZ XQ (yu bN aH aQ bh) Hu) (bZ XQ (yu bN aH aQ bh) isName) (bZ XQ (yu bN aH aQ bh) Q8) (bZ XQ (yu bN aH aQ bh) Ht) (bZ XQ (yu bN aH aQ bh) Hs) (bZ XQ (yu bN aH aQ bh) Ah) E,(ao (fL 2 sc.nd (G.Zfi T.QG rfl (jV bU (pv 1) (az)) (fun _ _=>rfl)))
   (aA (aP (G.Wo (k:=4) (G.Nv.cons (by decide) Ig.g Ig.b Ig.k (G.Nv.cons (by decide) Nk.g Nk.b Nk.k (G.Nv.cons (by decide) Nj.g Nj.b Nj.k (G.Nv.cons (by decide) Ij.g Ij.b Ij.k (G.Nv.cons (by decide) Ii.g Ii.b Ii.k (G.Nv.cons (by decide) Ih.g Ih.b Ih.k (G.Nv.cons (by decide) CT.g CT.b CT.k (G.Nv.cons (by decide) Ib.g Ib.b Ib.k (G.Nv.cons (by decide) Ie.g Ie.b Ie.k (G.Nv.cons (by decide) Ia.g Ia.b Ia.k G.Nv.nil)))))))))) (hr.mono (by decide)) rfl (Or.inl rfl) G.DG (aa (pv 0) (aa (pv 1) au)))))),?_⟩
  obtain ⟨z0,z1,rfl,q⟩:=h;exact Zqt tx q
theorem Uh {fd:FuncData} (F:jA K "_law_cell" "_law_cell" yW fJ fd):kh P w K mg base 1 fJ fd nZ (pA K):=by
 have sc:=SX;walk_at "ok"
 ·refine ⟨xr K,(ao (dB (pH Bm (pv 1) (iJ G.gw (by rfl) T.oE G.boot_len (aa (pv 0) au))) (aA (aP (jV d7 (pv 0) (pv 1)))) bJ)
   (aA (aP (az)))),?_⟩
  obtain ⟨z0,z1,rfl,q⟩:=h;exact Vp q
theorem Ue {fd:FuncData} (F:jA K "_law_draw" "_law_draw" yU dI fd):kh P w K mg base 1 dI fd jJ (iI):=by
 have sc:=SN;walk_at "ok"
 ·refine ⟨xm,(aA (aP (bz iR (bz iR (bz Gy (bz iR (pv 0) (pv 1)) (az)) (pv 1)) (pv 2)))),?_⟩;obtain ⟨z0,z1,z2,rfl,q⟩:=h;exact Vn q
theorem TY {fd:FuncData} (F:jA K "_law_word" "_law_word" yM gD fd):kh P w K mg base 1 gD fd qF (pq):=by
 have sc:=Ss;walk_at "ok"
 ·refine ⟨wW,(ao (fL 2 sc.nd (bB))
   (ao (fL 3 sc.nd (bz jC (az) (bz iR (pv 0) (az))))
   (ao (fL 4 sc.nd (bz iR (bz tW (pv 0) (az)) (pv 3)))
   (ao (fL 5 sc.nd (jV Zgw (pv 2) (bz iR (bz tW (pv 0) (az)) (az))))
   (ao (fL 6 sc.nd (jV Zgw (pv 2) (bz iR (bz jC (bz tW (pv 0) (az)) (bz Gy (az) (pv 1))) (az))))
   (aA (aP (bz Lj (bz Lj (bz G.Zb7 (pv 5) (pv 4)) (pv 6)) (bz G.Zb7 (pv 5) (bz zN (bz zN (pv 3) (az)) (pv 4))))))))))),?_⟩
  obtain ⟨z0,z1,rfl,q⟩:=h;exact Vg q
theorem O1 {fd:FuncData}{lC d9 o8:FuncData} (F:jA K "_law_hands" "_law_hands" wI gW fd) (jk:Hh P w K mg base 1 fJ lC nZ (pA K)) (bT:Hh P w K mg base 1 dI d9 jJ (iI)) (qK:Hh P w K mg base 1 gD o8 qF (pq)):kh P w K mg base 2 gW fd xM (Kf K):=by
 have sc:=Oh;walk_at "ok"
 ·refine ⟨uN K (pA K) (iI) (pq),(ao (fL 1 sc.nd (gG jk hr T.kY (aa (pv 0) (aa (az) au))))
   (ao (fL 2 sc.nd (cU au))
   (ao (pY PassesOwn.never rfl (vL rfl T.tK (aa (bz jC (az) (gG bT hr T.cM (aa (pv 1) (aa (az) (aa (az) au))))) au)) (iD (i:=3) sc.nd rfl (Or.inl rfl))
   (ao (fL 4 sc.nd (az))
   (ao (dB (pH kj (bz iR (pv 1) (az)) (az)) (aA (fL 4 sc.nd (bz jC (az) (gG bT hr T.cM (aa (bz jC (pv 1) (bz Gy (bz Gy (az) (pv 3)) (pv 3))) (aa (az) (aa (az) au))))))) bJ)
   (aA (rB (Dz PySem.F.plainAttrs_list PySem.F.slot_list_append PySem.F.type_list_append rT (pv 2) (aa (cG (aa (gG qK hr T.ud (aa (pv 1) (aa (pv 3) au))) (aa (pv 4) au))) au)))))))
   (aA (aP (pv 2)))))),?_⟩
  obtain ⟨z0,rfl,q⟩:=h;exact Qa q
theorem Ua {fd:FuncData}{lC d9:FuncData} (F:jA K "_law_room" "_law_room" yP iZ fd) (jk:Hh P w K mg base 1 fJ lC nZ (pA K)) (bT:Hh P w K mg base 1 dI d9 jJ (iI)):kh P w K mg base 2 iZ fd zF (Vt K):=by
 have sc:=Sx;walk_at "ok"
 ·refine ⟨wZ (pA K) (iI),(ao (fL 1 sc.nd (gG jk hr T.kY (aa (pv 0) (aa (az) au))))
   (ao (dB (pH kj (gG bT hr T.cM (aa (pv 1) (aa (az) (aa (az) au)))) (az)) (aA (aP (bz jC (az) (bz iR (bz tW (pv 1) (az)) (az))))) bJ)
   (aA (aP (bz zN (bz Tw (az) (az)) (bz iR (pv 1) (bz Tw (az) (az)))))))),?_⟩
  obtain ⟨z0,rfl,q⟩:=h;exact Vj q
theorem Ub {fd:FuncData} (F:jA K "_law_made" "_law_made" yQ je fd) {d9:FuncData} (bT:Hh P w K mg base 1 dI d9 jJ (iI)):kh P w K mg base 2 je fd zG (Kd):=by
 have sc:=Sy;walk_at "okw"
 ·refine ⟨w6 K (iI),(Zj7 (i:=3) sc.nd rfl (Or.inl rfl) (vN (az) (vN (az) (vN (az) (vN (az) (vN (az) (vN (az) Zjm)))))) (gG bT hr T.cM (aa (pv 0) (aa (az) (aa (az) au)))) (fun _ _=>rfl)
   (La (fL 4 sc.nd (az))
   (La (dB (pH kj (bz iR (pv 0) (az)) (az)) (aA (fL 4 sc.nd (bz iR (pv 0) (az)))) bJ)
   (La (dB (pH kj (bz iR (pv 0) (az)) (az)) (aA (fL 4 sc.nd (bz iR (pv 0) (bz jC (bz Tw (az) (az)) (az))))) bJ)
   (Zj6 (aP (cG (aa (bB) (aa (pv 1) (aa (pv 2) (aa (pv 3) (aa (pv 4) au)))))))))))),?_⟩
  obtain ⟨z0,z1,z2,rfl,q⟩:=h;exact Vk q
theorem Uc {fd:FuncData} (F:jA K "_law_load" "_law_load" yR jf fd):kh P w K mg base 1 jf fd zH (Ke):=by
 have sc:=SJ;walk_at "ok"
 ·refine ⟨xg,(ao (fL 1 sc.nd (bz iR (pv 0) (bz Tw (az) (az))))
   (ao (dB (pH kj (bz iR (bz tW (pv 0) (az)) (az)) (az)) (aA (aP (Zpm Zm4 (pv 1)))) bJ)
   (aA (aP (pv 1))))),?_⟩
  obtain ⟨z0,rfl,q⟩:=h;exact Vl q
theorem Ug {fd:FuncData}{d9 U6 U5 o8:FuncData} (F:jA K "_law_deed" "_law_deed" yV ji fd) (bT:Hh P w K mg base 1 dI d9 jJ (iI)) (Yc:Hh P w K mg base 1 jf U6 zH (Ke)) (Yb:Hh P w K mg base 2 je U5 zG (Kd)) (qK:Hh P w K mg base 1 gD o8 qF (pq)):kh P w K mg base 3 ji fd zK (Kh K):=by
 have sc:=SQ;walk_at "ok"
 ·refine ⟨xq K (iI) (Ke) (Kd) (pq),(ao (fL 3 sc.nd (gG bT hr T.cM (aa (pv 0) (aa (az) (aa (iJ G.gw (by rfl) T.oE G.boot_len (aa (pv 1) au)) au)))))
   (ao (fL 4 sc.nd (gG bT hr T.cM (aa (pv 0) (aa (az) (aa (jV bU (jV d7 (pv 1) (pv 3)) (az)) au)))))
   (ao (fL 5 sc.nd (gG bT hr T.cM (aa (pv 0) (aa (az) (aa (jV bU (jV d7 (pv 1) (pv 3)) (az)) au)))))
   (ao (fL 6 sc.nd (gG bT hr T.cM (aa (pv 0) (aa (az) (aa (jV d7 (cU (aa (az) (aa (az) au))) (bz tW (bz iR (pv 0) (az)) (az))) au)))))
   (ao (fL 7 sc.nd (gG bT hr T.cM (aa (pv 0) (aa (az) (aa (az) au)))))
   (ao (dB (pH Bm (pv 7) (az)) (aA (aP (gG Yb hr T.Je (aa (pv 0) (aa (pv 3) (aa (pv 4) au)))))) bJ)
   (ao (dB (pH Bm (pv 7) (az)) (aA (aP (cG (aa (bB) (aa (pv 3) (aa (pv 4) (aa (pv 5) (aa (pv 6) au)))))))) bJ)
   (ao (dB (pH Bm (pv 7) (az)) (aA (aP (cG (aa (bB) (aa (pv 3) (aa (pv 5) (aa (pv 6) (aa (pv 4) au)))))))) bJ)
   (ao (dB (pH kj (pv 7) (az)) (aA (aP (cG (aa (bB) (aa (pv 3) (aa (pv 4) (aa (pv 5) au))))))) bJ)
   (ao (dB (pH kj (pv 7) (az)) (aA (aP (cG (aa (bB) (aa (pv 3) (aa (pv 4) au)))))) bJ)
   (ao (dB (pH Bm (pv 7) (az)) (ao (fL 8 sc.nd (gG bT hr T.cM (aa (pv 0) (aa (az) (aa (iJ G.gw (by rfl) T.oE G.boot_len (aa (pv 1) au)) au)))))
   (aA (aP (cG (aa (bB) (aa (pv 3) (aa (pv 4) (aa (pv 8) (aa (gG bT hr T.cM (aa (pv 0) (aa (az) (aa (jV bU (jV d7 (pv 1) (pv 8)) (az)) au)))) au))))))))) bJ)
   (ao (dB (pH kj (pv 7) (az)) (aA (aP (cG (aa (bB) (aa (pv 3) (aa (pv 5) (aa (gG Yc hr T.Jf (aa (pv 0) au)) au))))))) bJ)
   (ao (fL 9 sc.nd (gG qK hr T.ud (aa (pv 2) (aa (gG bT hr T.cM (aa (pv 0) (aa (az) (aa (az) au)))) au))))
   (ao (dB (pH Bm (pv 7) (az)) (aA (aP (cG (aa (bB) (aa (pv 3) (aa (pv 5) (aa (pv 9) au))))))) bJ)
   (aA (aP (cG (aa (bB) (aa (pv 3) (aa (pv 4) (aa (pv 9) au))))))))))))))))))))),?_⟩
  obtain ⟨z0,z1,z2,rfl,q⟩:=h;exact Vo q
theorem O2 {fd:FuncData}{U8 d9:FuncData} (F:jA K "_law_deeds" "_law_deeds" wJ gY fd) (Ye:Hh P w K mg base 3 ji U8 zK (Kh K)) (bT:Hh P w K mg base 1 dI d9 jJ (iI)):kh P w K mg base 4 gY fd xN (z9 K):=by
 have sc:=Oi;walk_at "ok"
 ·refine ⟨uO K (Kh K) (iI),(ao (fL 3 sc.nd (gG Ye hr T.Jh (aa (pv 0) (aa (pv 1) (aa (pv 2) au)))))
   (ao (dB (PW.pt (K9 (pH kj (jV bU (pv 3) (az)) (bB)) (Dt (pH kj (bz iR (bz tW (pv 0) (az)) (az)) (az))))) (aA (aP (cU (aa (pv 3) (aa (cG (aa (bB) (aa (jV bU (pv 3) (az)) (aa (jV bU (pv 3) (az)) au)))) au))))) bJ)
   (ao (dB (PW.pt (K9 (pH kj (jV bU (pv 3) (az)) (bB)) (Dt (pH kj (bz iR (bz tW (pv 0) (az)) (az)) (az))))) (aA (aP (cU (aa (pv 3) (aa (cG (aa (bB) (aa (jV bU (pv 3) (az)) (aa (jV bU (pv 3) (az)) (aa (jV bU (pv 3) (az)) (aa (gG bT hr T.cM (aa (pv 0) (aa (az) (aa (az) au)))) au)))))) au))))) bJ)
   (aA (aP (cU (aa (pv 3) au))))))),?_⟩
  obtain ⟨z0,z1,z2,rfl,q⟩:=h;exact Qc q
theorem OD {fd:FuncData}{d9 o8:FuncData} (F:jA K "_law_start" "_law_start" wG gR fd) (bT:Hh P w K mg base 1 dI d9 jJ (iI)) (qK:Hh P w K mg base 1 gD o8 qF (pq)):kh P w K mg base 2 gR fd xJ (Fb K):=by
 have sc:=Oe;walk_at "ok"
 ·refine ⟨uL K (iI) (pq),(ao (fL 3 sc.nd (cU au))
   (ao (pY PassesOwn.never rfl (vL rfl T.tK (aa (iJ G.gw (by rfl) T.oE G.boot_len (aa (pv 0) au)) au)) (iD (i:=4) sc.nd rfl (Or.inl rfl))
   (ao (fL 3 sc.nd (bz p8 (pv 3) (cU (aa (cG (aa (bB) (aa (pv 4) (aa (az) (aa (az) (aa (az) au)))))) (aa (cG (aa (bB) (aa (pv 4) (aa (az) (aa (az) (aa (az) au)))))) au)))))
   (aA (fL 3 sc.nd (bz p8 (pv 3) (cU (aa (cG (aa (bB) (aa (pv 4) (aa (az) (aa (bz iR (pv 4) (az)) (aa (az) au)))))) (aa (cG (aa (bB) (aa (pv 4) (aa (az) au)))) au))))))))
   (ao (fL 5 sc.nd (gG bT hr T.cM (aa (pv 1) (aa (az) (aa (az) au)))))
   (ao (dB (pH Zb9 (pv 5) (az)) (aA (fL 3 sc.nd (bz p8 (pv 3) (G.Ld (cns:=[]) [] (vL rfl T.tK (aa (iJ G.gw (by rfl) T.oE G.boot_len (aa (pv 0) au)) au)) (fun _ _ _ _ _=>G.Cu) (fun _ _ _ _ _=>(cG (aa (bB) (aa (pv 0) (aa (az) (aa (az) (aa (az) au))))))) rfl rfl (by repeat (first | exact trivial | refine ⟨rfl,?_⟩)) (by repeat (first | exact trivial | refine ⟨rfl,?_⟩)) rfl (by decide +kernel) rfl (by decide +kernel) (by decide +kernel) rfl (by decide +kernel))))) bJ)
   (ao (fL 3 sc.nd (bz p8 (pv 3) (bz Li (cU (aa (fB) au)) (bz jC (az) (gG bT hr T.cM (aa (pv 1) (aa (az) (aa (az) au))))))))
   (ao (pY PassesOwn.never rfl (vL rfl T.tK (aa (iJ G.gw (by rfl) T.oE G.boot_len (aa (pv 0) au)) au)) (iD (i:=4) sc.nd rfl (Or.inl rfl))
   (ao (dB (pH kj (pv 5) (az)) (aA (fL 3 sc.nd (bz p8 (pv 3) (cU (aa (cG (aa (bB) (aa (pv 4) (aa (az) (aa (az) (aa (bz iR (pv 4) (az)) au)))))) (aa (cG (aa (bB) (aa (pv 4) (aa (az) (aa (bz iR (pv 4) (az)) (aa (az) au)))))) au)))))) bJ)
   (ao (dB (pH Zb9 (pv 5) (az)) (aA (fL 3 sc.nd (bz p8 (pv 3) (cU (aa (cG (aa (bB) (aa (pv 4) (aa (az) (aa (az) (aa (az) au)))))) (aa (cG (aa (bB) (aa (pv 4) (aa (az) (aa (az) (aa (az) au)))))) (aa (cG (aa (bB) (aa (pv 4) (aa (az) au)))) au))))))) bJ)
   (aA (dB (pH kj (pv 5) (az)) (aA (fL 3 sc.nd (bz p8 (pv 3) (cU (aa (cG (aa (bB) (aa (pv 4) (aa (az) (aa (gG qK hr T.ud (aa (pv 2) (aa (bz iR (pv 4) (az)) au))) au))))) (aa (cG (aa (bB) (aa (pv 4) (aa (az) au)))) au)))))) bJ)))))
   (aA (aP (pv 3))))))))),?_⟩
  obtain ⟨z0,z1,z2,rfl,q⟩:=h;exact PX q
theorem T9 {fd:FuncData}{lC PJ d9 Py:FuncData} (F:jA K "_law_rows" "_law_rows" yO iY fd) (jk:Hh P w K mg base 1 fJ lC nZ (pA K)) (VN:Hh P w K mg base 4 gY PJ xN (z9 K)) (bT:Hh P w K mg base 1 dI d9 jJ (iI)) (VJ:Hh P w K mg base 2 gR Py xJ (Fb K)):kh P w K mg base 5 iY fd zE (Ka K):=by
 have sc:=Sv;walk_at "ok"
 ·refine ⟨wY K (pA K) (z9 K) (iI) (Fb K),(ao (fL 2 sc.nd (cU au))
   (ao (dB (pH Zb9 (gG bT hr T.cM (aa (gG jk hr T.kY (aa (pv 0) (aa (az) au))) (aa (az) (aa (az) au)))) (az)) (aA (fL 2 sc.nd (gG VJ hr T.Ei (aa (pv 1) (aa (gG jk hr T.kY (aa (pv 0) (aa (az) au))) (aa (gG jk hr T.kY (aa (pv 0) (aa (az) au))) au)))))) bJ)
   (ao (fL 3 sc.nd (gG jk hr T.kY (aa (pv 0) (aa (az) au))))
   (ao (fL 4 sc.nd (az))
   (ao (pY PassesOwn.never rfl (lq (Zfj Zim (pv 0) (Zb6 (az)) (Zb6 (az)))) (iD (i:=5) sc.nd rfl (Or.inl rfl))
   (ao (fL 6 sc.nd (bz jC (pv 5) (bz Gy (bz Gy (pv 4) (pv 4)) (az))))
   (ao (dB (pH kj (gG bT hr T.cM (aa (pv 6) (aa (az) (aa (az) au)))) (az)) (aA (fL 2 sc.nd (bz p8 (pv 2) (bz Li (cU (aa (fB) au)) (bz jC (az) (gG bT hr T.cM (aa (pv 6) (aa (az) (aa (az) au))))))))) (aA (fL 2 sc.nd (bz p8 (pv 2) (gG VN hr T.El (aa (pv 6) (aa (pv 1) (aa (pv 3) au))))))))
   (aA (Zmr (i:=4) sc.nd rfl (Or.inl rfl) (az) Znq)))))
   (aA (aP (bz p8 (pv 2) (bz Li (cU (aa (fB) au)) (bz jC (az) (gG bT hr T.cM (aa (pv 3) (aa (az) (aa (az) au)))))))))))))),?_⟩
  obtain ⟨z0,z1,rfl,q⟩:=h;exact Vi q
theorem Ud {fd:FuncData} (F:jA K "_law_hand" "_law_hand" yS jg fd) {Zqq:FuncData} (Zp8:Hh P w K mg base 5 PL Zqq Zmv (bZ XQ (yu bN aH aQ bh) (fun _=>True))):kh P w K mg base 6 jg fd zJ (Kg XQ (yu bN aH aQ bh)):=by
 have sc:=SM;walk_at "ok"
 ·refine ⟨xj aH bN aQ bh (bZ XQ (yu bN aH aQ bh) (fun _=>True)),(ao (fL 2 sc.nd (fB))
   (ao (G.Zmq ⟨rfl,rfl⟩ rfl T.Ji (fun cls h=>by rcases h with rfl | rfl | rfl | rfl<;>first | exact T.jx | exact T.jY | exact T.mH | exact T.lD) (fun Ex pn xe hx=>(aA (fL 2 sc.nd (G.Zfo Zp8.g (hr.mono (by decide)) rfl T.Zpu Zp8.k Zp8.b .nil hx (aa (pv 0) (aa (pv 1) au)))))) (fun ea pn=>(aA (fL 2 sc.nd (fB)))))
   (aA (aP (pv 2))))),?_⟩
  obtain ⟨z0,z1,rfl,q⟩:=h;exact Vm rfl rfl rfl rfl q
theorem T7 {fd:FuncData} (F:jA K "_law_with" "_law_with" yN iW fd):kh P w K mg base 1 iW fd zB (J9 K):=by
 have sc:=Su;walk_at "ok"
 ·refine ⟨wX K,(ao (fL 3 sc.nd (Le))
   (ao (pY PassesOwn.never rfl (lq (pv 0)) (iD (i:=4) sc.nd rfl (Or.inl rfl))
   (aA (JW (Bs hr) (pv 3) (jV bU (pv 4) (az)) (jV bU (pv 4) (az)) rfl)))
   (ao (pY PassesOwn.never rfl (lq (pv 1)) (iD (i:=5) sc.nd rfl (Or.inl rfl))
   (aA (JW (Bs hr) (pv 3) (pv 5) (pv 2) rfl)))
   (aA (aP (pv 3)))))),?_⟩
  obtain ⟨z0,z1,z2,rfl,q⟩:=h;exact Vh q
theorem OJ {fd:FuncData}{U0 MT Pq:FuncData} (F:jA K "_law_keeps" "_law_keeps" wH gU fd) (X6:Hh P w K mg base 1 iW U0 zB (J9 K)) (Qh:Hh P w K mg base 4 fU MT ["world"] (Ff XQ)) (VD:Hh P w K mg base 5 gM Pq ["world"] (Vs XQ)):kh P w K mg base 6 gU fd xK (Fe XQ):=by
 have sc:=Og;have tx:=nA _ T;walk_at "ok"
 ·refine ⟨uM K (J9 K) (Ff XQ) (Vs XQ),(ao (fL 1 sc.nd (gG VD hr T.Ed (aa (pv 0) au)))
   (ao (fL 2 sc.nd (gG X6 hr T.IW (aa (pv 1) (aa (cU au) (aa (bB) au)))))
   (ao (fL 3 sc.nd (aJ (aJ (pv 0) rfl) rfl))
   (ao (G.Zfc (iz:=4) (cns:=[]) [] (lq (pv 1)) (fun _ _ _ _ _=>(G.Tt (pH Gz (jV bU (pv 0) (az)) (cG (aa (bB) (aa (bB) au))) (by with_unfolding_all rfl)))) (fun _ _ _ _ _=>(jV bU (pv 0) (az))) rfl rfl (by repeat (first | exact trivial | refine ⟨rfl,?_⟩)) (by repeat (first | exact trivial | refine ⟨rfl,?_⟩)) rfl (by decide +kernel) rfl (by decide +kernel) (by decide +kernel) rfl (by decide +kernel) sc.nd rfl (Or.inl rfl) (Or.inr rfl) rfl)
   (ao (fL 5 sc.nd (bB))
   (ao (dB (pH Zb8 (pv 3) (bB)) (ao (fL 4 sc.nd (bz p8 (pv 4) (gG Qh hr T.Br (aa (pv 0) au))))
   (aA (fL 5 sc.nd (bB)))) bJ)
   (ao (pY PassesOwn.never rfl (lq (pv 4)) (iD (i:=6) sc.nd rfl (Or.inl rfl))
   (aA (pY PassesOwn.never rfl (lq (pv 6)) (iD (i:=7) sc.nd rfl (Or.inl rfl))
   (aA (dB (PW.pt (K9 (pH G.zO (pv 7) (fB)) (Dt (pH kj (pdg hr (pv 2) (pv 7)) (pv 5))))) (aA (aP (QS))) bJ)))))
   (aA (aP (Dy Zb8 (pv 3) (bB) (LQ _))))))))))),?_⟩
  obtain ⟨z0,rfl,q⟩:=h;exact P0 tx q
theorem Zn0 {fl:Addr}{fd:FuncData}{HF Er lC U7 PB Pz U4 U3 Zl5:FuncData} (F:jA K "law" "law" KZ fl fd) (ym:Hh P w K mg base 1 cX HF qW (um XQ.K)) (vZ:Hh P w K mg base 3 cQ Er pZ (rP XQ)) (jk:Hh P w K mg base 1 fJ lC nZ (pA K)) (Yd:Hh P w K mg base 6 jg U7 zJ (Kg XQ (yu bN aH aQ bh))) (VM:Hh P w K mg base 2 gW PB xM (Kf K)) (VL:Hh P w K mg base 6 gU Pz xK (Fe XQ)) (X8:Hh P w K mg base 2 iZ U4 zF (Vt K)) (X7:Hh P w K mg base 5 iY U3 zE (Ka K)) (Zp5:Hh P w K mg base 9 vg Zl5 ["world"] (bR XQ Zfq)):kh P w K mg base 10 fl fd ["_law_script"] (Zbt K):=by
 have sc:=Zmj;have tx:=nA _ T;walk_at "ok"
 ·refine ⟨Ze K XQ.K XQ.L XQ.W (um XQ.K) (rP XQ) (pA K) (Kg XQ (yu bN aH aQ bh)) (Kf K) (Fe XQ) (Vt K) (Ka K) (bR XQ Zfq),(ao (fL 1 sc.nd (gG VM hr T.Ek (aa (pv 0) au)))
   (ao (fL 2 sc.nd (Dw T.J1 ym.g (hr.mono (by decide)) rfl T.Zgg ym.b .nil G.jN (aa (G.Zch T.W8 rfl T.Zgf) (aa (bz jC (az) (bz iR (gG jk hr T.kY (aa (pv 0) (aa (az) au))) (az))) au))))
   (ao (fL 3 sc.nd (Dw T.DW vZ.g (hr.mono (by decide)) rfl T.Zbd vZ.b .nil G.jN (aa (gG X8 hr T.Jc (aa (pv 0) au)) (aa (pv 2) (aa (vM G.CJ (by rfl) T.yz G.boot_list (aa (pv 1) au)) au)))))
   (ao (pY PassesOwn.never rfl (lq (gG X7 hr T.Jb (aa (pv 0) (aa (pv 1) au)))) (iD (i:=4) sc.nd rfl (Or.inl rfl))
   (ao (dB (pH G.xO (pv 4) (fB)) (ao (fL 5 sc.nd (gG Zp5 hr T.Zga (aa (pv 3) au)))
   (aA (dB (PW.pt (K9 (pH kj (jV bU (pv 5) (az)) (bB)) (Dt (pH (G.Zmz (Bs hr)) (jV bU (pv 5) (az)) (cU au))))) (aA (aP (QS))) bJ))) (aA (rB (gG Yd hr T.Jg (aa (pv 3) (aa (pv 4) au))))))
   (aA (dB (Cr (nO (gG VL hr T.Ej (aa (pv 3) au)))) (aA (aP (QS))) bJ))))
   (aA (aP (QS))))))),?_⟩
  obtain ⟨z0,rfl,q⟩:=h;exact Znj tx q
end
abbrev Fi (K:aC) (c:Addr) (s:Str) (f:Addr):Prop:=PySem.W.findIn K (.ref c) s=some (some (.ref f))
abbrev Fo (K:aC) (c:Addr) (s:Str):Prop:=PySem.W.findIn K (.ref c) s=some none
abbrev Ns (K:aC) (s:Str) (f:Addr):Prop:=PySem.W.nsIn K mainGlobals s=some (some (.ref f))
abbrev Ki (K:aC) (f:Addr):Prop:=PySem.W.keepIn K (.ref f)=true
abbrev Ci (K:aC) (c:Value) (s:Str):Prop:=PySem.W.codeIn K c s=true
abbrev Lk (K:aC) (f:Addr) (a b:Str) (s:Stmt) (d:Value) (oc:Value) (od:Option Addr) (kV dc pm:Value) (an:Option Addr) (cd ct:Value) (sl:Array (Option Value)):Prop:=K.lookup f=some ⟨oc,od,.func (PySem.W.fnOf a b (lV s) (jz s) (aF s) d kV dc pm an cd ct),sl⟩
def j9 (K:aC) (x q:Str) (s:Stmt) (f:Addr):Prop:=∃ oc od kV dc pm an cd ct sl,Lk K f x q s .none oc od kV dc pm an cd ct sl∧Ci K cd q∧Ki K f
theorem fgm {K:aC}{x q:Str}{s:Stmt}{f:Addr}{oc:Value}{od:Option Addr}{kV dc pm:Value}{an:Option Addr}{cd ct:Value}{sl:Array (Option Value)} (l:Lk K f x q s .none oc od kV dc pm an cd ct sl) (c:Ci K cd q) (k:Ki K f):j9 K x q s f:=⟨oc,od,kV,dc,pm,an,cd,ct,sl,l,c,k⟩
theorem fg {K:aC}{x q:Str}{s:Stmt}{f:Addr} (h:j9 K x q s f):∃ fd,jA K x q s f fd∧Ki K f:=by
 obtain ⟨oc,od,kV,dc,pm,an,cd,ct,sl,l,c,k⟩:=h;exact ⟨_,Zhj l c k,k⟩
theorem Ez {K:aC}{x qual:Str}{st:Stmt}{f:Addr}{fd:FuncData} (F:jA K x qual st f fd) (a0:Str) (h:∀ (kV doc pm:Value) (an:Option Addr) (cdv ct u0:Value),bindArgs (PySem.W.fnOf x qual (lV st) (jz st) (aF st) .none kV doc pm an cdv ct) ⟨[u0],[]⟩=pure (([a0]:List Str).zip [u0]):=by intros;rfl):Binds K fd [a0] []:=F.binds fun kV doc pm an cdv ct us hl=>match us,hl with | [u0],_=>h kV doc pm an cdv ct u0
theorem Ai {K:aC}{x qual:Str}{st:Stmt}{f:Addr}{fd:FuncData} (F:jA K x qual st f fd) (a0 a1:Str) (h:∀ (kV doc pm:Value) (an:Option Addr) (cdv ct u0 u1:Value),bindArgs (PySem.W.fnOf x qual (lV st) (jz st) (aF st) .none kV doc pm an cdv ct) ⟨[u0,u1],[]⟩=pure (([a0,a1]:List Str).zip [u0,u1]):=by intros;rfl):Binds K fd [a0,a1] []:=F.binds fun kV doc pm an cdv ct us hl=>match us,hl with | [u0,u1],_=>h kV doc pm an cdv ct u0 u1
theorem bd3 {K:aC}{x qual:Str}{st:Stmt}{f:Addr}{fd:FuncData} (F:jA K x qual st f fd) (a0 a1 a2:Str) (h:∀ (kV doc pm:Value) (an:Option Addr) (cdv ct u0 u1 u2:Value),bindArgs (PySem.W.fnOf x qual (lV st) (jz st) (aF st) .none kV doc pm an cdv ct) ⟨[u0,u1,u2],[]⟩=pure (([a0,a1,a2]:List Str).zip [u0,u1,u2]):=by intros;rfl):Binds K fd [a0,a1,a2] []:=F.binds fun kV doc pm an cdv ct us hl=>match us,hl with | [u0,u1,u2],_=>h kV doc pm an cdv ct u0 u1 u2
theorem bd4 {K:aC}{x qual:Str}{st:Stmt}{f:Addr}{fd:FuncData} (F:jA K x qual st f fd) (a0 a1 a2 a3:Str) (h:∀ (kV doc pm:Value) (an:Option Addr) (cdv ct u0 u1 u2 u3:Value),bindArgs (PySem.W.fnOf x qual (lV st) (jz st) (aF st) .none kV doc pm an cdv ct) ⟨[u0,u1,u2,u3],[]⟩=pure (([a0,a1,a2,a3]:List Str).zip [u0,u1,u2,u3]):=by intros;rfl):Binds K fd [a0,a1,a2,a3] []:=F.binds fun kV doc pm an cdv ct us hl=>match us,hl with | [u0,u1,u2,u3],_=>h kV doc pm an cdv ct u0 u1 u2 u3
theorem bd5 {K:aC}{x qual:Str}{st:Stmt}{f:Addr}{fd:FuncData} (F:jA K x qual st f fd) (a0 a1 a2 a3 a4:Str) (h:∀ (kV doc pm:Value) (an:Option Addr) (cdv ct u0 u1 u2 u3 u4:Value),bindArgs (PySem.W.fnOf x qual (lV st) (jz st) (aF st) .none kV doc pm an cdv ct) ⟨[u0,u1,u2,u3,u4],[]⟩=pure (([a0,a1,a2,a3,a4]:List Str).zip [u0,u1,u2,u3,u4]):=by intros;rfl):Binds K fd [a0,a1,a2,a3,a4] []:=F.binds fun kV doc pm an cdv ct us hl=>match us,hl with | [u0,u1,u2,u3,u4],_=>h kV doc pm an cdv ct u0 u1 u2 u3 u4
theorem all_mk {l:PySem.W.OpenLaw}{w:World}{K:aC}{h:Heap}{mg:Str→Option Value}{fa fl aZ aY jT bG eE eF jR eV aH aQ bN bh dg fu dj cY gF jw ir ig fj gH dU lQ mU cZ cA cQ vm fU gB iV dH gP lR gM iU qx vh fX sU qw lO fW cJ cH vf fQ Bu gQ jQ fV cI gO Bt bQ vg mV bY di fY cX dJ jl ie fO eZ gk iM iK gq gn gm eG gh gj gf fP PL fJ dI gD gW iZ je jf ji gY gR iY jg iW gU:Addr} (KI:K.In h) (GN:h.Ns mainGlobals mg) (hfa:mg "law"=some (.ref fa))
  {od5 an5 to5 Zrb Zr2:Option Addr}
  {sl5 ts5 Zra:Array (Option Value)}
  {oc5 kV5 dc5 pm5 cd5 ct5 tc5 Zht Zbk Zrc Zpy Zqv Zpl Zou Zqx Zlq Zlp:Value}
  {td5 M5 M6:Addr}
  {tn5 Xq Xr:Nat}
  {Rg Rc Rb Ra Rr Rq Rp Ro Rn Rm Rk Rj Ri Rh:Int}
  {Qs Qq Qp Qo QD QC QB Qz Qy Qx Qw Qv Qu Qt:Tok}
  (Zp1:Ns K "Cell" aZ)
  (Zoy:Ns K "Heap" aY)
  (Zoz:Ns K "Hand" jT)
  (Ze9:Ns K "Sweeper" bG)
  (Zlh:Ns K "World" eE)
  (Zow:Ns K "Last" eF)
  (Zox:Ns K "Kind" jR)
  (XM:Ns K "GreyError" eV)
  (XN:Ns K "EmptySlot" aH)
  (Zea:Ns K "NoField" aQ)
  (Zp0:Ns K "Full" bN)
  (Zi5:Ns K "NoName" bh)
  (a1:Fi K aZ "__init__" dg)
  (i1:PySem.W.isFn K (.ref dg)=true)
  (a2:Fi K aZ "units" fu)
  (i2:PySem.W.isFn K (.ref fu)=true)
  (a3:Fi K aZ "has_field" dj)
  (i3:PySem.W.isFn K (.ref dj)=true)
  (a4:Fi K aY "__init__" cY)
  (i4:PySem.W.isFn K (.ref cY)=true)
  (a5:Fi K aY "make" gF)
  (i5:PySem.W.isFn K (.ref gF)=true)
  (l5:Lk K gF "make" "Heap.make" tO (.ref td5) oc5 od5 kV5 dc5 pm5 an5 cd5 ct5 sl5)
  (t5:K.lookup td5=some ⟨tc5,to5,.seq #[Zht,Zbk] tn5,ts5⟩)
  (Zy9:RelV (.int 0) Zht)
  (Zy8:RelV (.int 0) Zbk)
  (c5:Ci K cd5 "Heap.make")
  (k5:Ki K gF)
  (a6:Fi K aY "lay" jw)
  (i6:PySem.W.isFn K (.ref jw)=true)
  (a7:Fi K aY "back" ir)
  (i7:PySem.W.isFn K (.ref ir)=true)
  (a8:Fi K aY "free" ig)
  (i8:PySem.W.isFn K (.ref ig)=true)
  (a9:Fi K aY "there" fj)
  (i9:PySem.W.isFn K (.ref fj)=true)
  (a10:Ns K "cell_at" gH)
  (a11:Ns K "birth_at" dU)
  (a12:Ns K "reached" lQ)
  (a13:Ns K "onward" mU)
  (a14:Fi K jT "__init__" cZ)
  (i14:PySem.W.isFn K (.ref cZ)=true)
  (a15:Fi K bG "__init__" cA)
  (i15:PySem.W.isFn K (.ref cA)=true)
  (a16:Fi K eE "__init__" cQ)
  (i16:PySem.W.isFn K (.ref cQ)=true)
  (a17:Ns K "held" vm)
  (a18:Ns K "births_held" fU)
  (a19:Ns K "births_at" gB)
  (a20:Ns K "looked_at" iV)
  (a21:Ns K "has_sense" dH)
  (a22:Ns K "is_walking" gP)
  (a23:Ns K "mark_of" lR)
  (a24:Ns K "told_cells" gM)
  (a25:Ns K "told_cell" iU)
  (a26:Ns K "begin" qx)
  (a27:Ns K "note" vh)
  (a28:Ns K "note_all" fX)
  (a29:Ns K "gone" sU)
  (a30:Ns K "roots" qw)
  (a31:Ns K "root_of" lO)
  (a32:Ns K "note_hands" fW)
  (a33:Ns K "step_at_rest" cJ)
  (a34:Ns K "step_in_walk" cH)
  (a35:Ns K "walk" vf)
  (a36:Ns K "look_or_cut" fQ)
  (a37:Ns K "cut" Bu)
  (a38:Ns K "first_loss" gQ)
  (a39:Ns K "given_up" jQ)
  (a40:Ns K "told_again" fV)
  (a41:Ns K "step_in_give" cI)
  (a42:Ns K "pass_place" gO)
  (a43:Ns K "end" Bt)
  (a44:Ns K "step_when_lost" bQ)
  (a45:Ns K "step" vg)
  (a46:Ns K "all_of" mV)
  (a47:Fi K eF "at_begin" bY)
  (i47:PySem.W.isFn K (.ref bY)=true)
  (a48:Fi K eF "next_look" di)
  (i48:PySem.W.isFn K (.ref di)=true)
  (a49:Fi K eF "stays" fY)
  (i49:PySem.W.isFn K (.ref fY)=true)
  (a50:Fi K jR "__init__" cX)
  (i50:PySem.W.isFn K (.ref cX)=true)
  (a51:Ns K "slots_of" dJ)
  (a52:Ns K "cell_in" jl)
  (a53:Ns K "fields_in" ie)
  (a54:Ns K "told_as_old" fO)
  (a55:Ns K "told_as_new" eZ)
  (a56:Ns K "do_make" gk)
  (a57:Ns K "do_get" iM)
  (a58:Ns K "do_put" iK)
  (a59:Ns K "do_copy" gq)
  (a60:Ns K "do_drop" gn)
  (a61:Ns K "do_give" gm)
  (a62:Ns K "do_write" eG)
  (a63:Ns K "do_read" gh)
  (a64:Ns K "do_name" gj)
  (a65:Ns K "do_seek" gf)
  (a66:Ns K "place_named" fP)
  (a67:Ns K "do" PL)
  (a68:Ns K "_law_cell" fJ)
  (a69:Ns K "_law_draw" dI)
  (a70:Ns K "_law_word" gD)
  (a71:Ns K "_law_hands" gW)
  (a72:Ns K "_law_room" iZ)
  (a73:Ns K "_law_made" je)
  (a74:Ns K "_law_load" jf)
  (a75:Ns K "_law_deed" ji)
  (a76:Ns K "_law_deeds" gY)
  (a77:Ns K "_law_start" gR)
  (a78:Ns K "_law_rows" iY)
  (a79:Ns K "_law_hand" jg)
  (a80:Ns K "_law_with" iW)
  (a81:Ns K "_law_keeps" gU)
  (a82:Ns K "law" fl)
  (l82:Lk K fl "law" "law" KZ .none Zrc Zrb Zpy Zqv Zpl Zr2 Zou Zqx Zra)
  (c82:Ci K Zou "law")
  (k82:Ki K fl)
  (Zg3:Ns K "STEPS" M5)
  (Zgo:K.lookup M5=some ⟨.type "dict",none,.dict #[⟨Rg,.str "rest" Qs,.ref cJ⟩,⟨Rc,.str "walk" Qq,.ref cH⟩,⟨Rb,.str "give" Qp,.ref cI⟩,⟨Ra,.str "lost" Qo,.ref bQ⟩] Xq,#[]⟩)
  (Zdf:Rg=hashStr w "rest")
  (Zde:Rc=hashStr w "walk")
  (Zdd:Rb=hashStr w "give")
  (Zdc:Ra=hashStr w "lost")
  (Zg4:Ns K "DEEDS" M6)
  (Zgp:K.lookup M6=some ⟨.type "dict",none,.dict #[⟨Rr,.str "make" QD,.ref gk⟩,⟨Rq,.str "get" QC,.ref iM⟩,⟨Rp,.str "put" QB,.ref iK⟩,⟨Ro,.str "copy" Qz,.ref gq⟩,⟨Rn,.str "drop" Qy,.ref gn⟩,⟨Rm,.str "give" Qx,.ref gm⟩,⟨Rk,.str "write" Qw,.ref eG⟩,⟨Rj,.str "read" Qv,.ref gh⟩,⟨Ri,.str "name" Qu,.ref gj⟩,⟨Rh,.str "seek" Qt,.ref gf⟩] Xr,#[]⟩)
  (Zdp:Rr=hashStr w "make")
  (Zdo:Rq=hashStr w "get")
  (Zdn:Rp=hashStr w "put")
  (Zdm:Ro=hashStr w "copy")
  (Zdl:Rn=hashStr w "drop")
  (Zdk:Rm=hashStr w "give")
  (Zdj:Rk=hashStr w "write")
  (Zdi:Rj=hashStr w "read")
  (Zdh:Ri=hashStr w "name")
  (Zdg:Rh=hashStr w "seek")
  (Zji:PySem.W.plainGet K aZ Str.empty=true)
  (Zkw:PySem.W.hasDictIn K aZ=true)
  (Zjc:PySem.W.plainOver K aZ=true)
  (Ziy:PySem.W.findIn K (.ref aZ) "__setattr__"=some (some (.builtin "object.__setattr__")))
  (J4:PySem.W.makesIn K aZ=true)
  (Zkc:Ki K aZ)
  (dF:Fo K aZ "birth")
  (kO:Fo K aZ "bulk")
  (kJ:Fo K aZ "tone")
  (iT:Fo K aZ "load")
  (dX:Fo K aZ "fields")
  (Zhs:PySem.W.findIn K (.ref aZ) "__eq__"=some (some (.builtin "object.__eq__")))
  (Zhr:PySem.W.mroIn K aZ (.type "object")=some true)
  (Zjg:PySem.W.plainGet K aY Str.empty=true)
  (Zku:PySem.W.hasDictIn K aY=true)
  (Zja:PySem.W.plainOver K aY=true)
  (Ziw:PySem.W.findIn K (.ref aY) "__setattr__"=some (some (.builtin "object.__setattr__")))
  (J2:PySem.W.makesIn K aY=true)
  (Zka:Ki K aY)
  (lY:Fo K aY "room")
  (bK:Fo K aY "cells")
  (gZ:Fo K aY "used")
  (kE:Fo K aY "born")
  (Zjh:PySem.W.plainGet K jT Str.empty=true)
  (Zkv:PySem.W.hasDictIn K jT=true)
  (Zjb:PySem.W.plainOver K jT=true)
  (Zix:PySem.W.findIn K (.ref jT) "__setattr__"=some (some (.builtin "object.__setattr__")))
  (J3:PySem.W.makesIn K jT=true)
  (Zkb:Ki K jT)
  (tY:Fo K jT "name")
  (rJ:Fo K jT "slots")
  (Zj:PySem.W.plainGet K bG Str.empty=true)
  (Z7:PySem.W.hasDictIn K bG=true)
  (Zi:PySem.W.plainOver K bG=true)
  (Y5:PySem.W.findIn K (.ref bG) "__setattr__"=some (some (.builtin "object.__setattr__")))
  (xR:PySem.W.makesIn K bG=true)
  (Z1:Ki K bG)
  (m5:Fo K bG "sense")
  (m6:Fo K bG "phase")
  (oY:Fo K bG "grey")
  (mG:Fo K bG "looked")
  (oU:Fo K bG "turn")
  (rG:Fo K bG "at")
  (oW:Fo K bG "stop")
  (mZ:Fo K bG "walks")
  (m7:Fo K bG "looks")
  (mF:Fo K bG "passes")
  (oX:Fo K bG "loss")
  (Zfg:PySem.W.plainGet K eE Str.empty=true)
  (Zhc:PySem.W.hasDictIn K eE=true)
  (Zfd:PySem.W.plainOver K eE=true)
  (Zez:PySem.W.findIn K (.ref eE) "__setattr__"=some (some (.builtin "object.__setattr__")))
  (DW:PySem.W.makesIn K eE=true)
  (Zgv:Ki K eE)
  (rF:Fo K eE "heap")
  (rE:Fo K eE "kind")
  (qt:Fo K eE "hands")
  (qp:Fo K eE "names")
  (mY:Fo K eE "sweeper")
  (Zje:PySem.W.plainGet K eF Str.empty=true)
  (Zks:PySem.W.hasDictIn K eF=true)
  (Zj8:PySem.W.plainOver K eF=true)
  (Ziu:PySem.W.findIn K (.ref eF) "__setattr__"=some (some (.builtin "object.__setattr__")))
  (Zk2:PySem.W.makesIn K eF=true)
  (Zk8:Ki K eF)
  (Zjw:PySem.W.findIn K (.ref eF) "__init__"=some (some (.builtin "object.__init__")))
  (Zjf:PySem.W.plainGet K jR Str.empty=true)
  (Zkt:PySem.W.hasDictIn K jR=true)
  (Zj9:PySem.W.plainOver K jR=true)
  (Ziv:PySem.W.findIn K (.ref jR) "__setattr__"=some (some (.builtin "object.__setattr__")))
  (J1:PySem.W.makesIn K jR=true)
  (Zk9:Ki K jR)
  (oZ:Fo K jR "looking")
  (rH:Fo K jR "tells")
  (tL:PySem.W.excIn K aH [.type "ValueError",.type "Exception",.type "BaseException",.type "object"] "ValueError.__new__"=true)
  (RC:PySem.W.excIn K bN [.type "ValueError",.type "Exception",.type "BaseException",.type "object"] "ValueError.__new__"=true)
  (Ac:PySem.W.excIn K aQ [.type "ValueError",.type "Exception",.type "BaseException",.type "object"] "ValueError.__new__"=true)
  (CZ:PySem.W.excIn K bh [.type "ValueError",.type "Exception",.type "BaseException",.type "object"] "ValueError.__new__"=true)
  (jx:PySem.W.exmOne K (.ref aH) (.ref eV)=some true)
  (jY:PySem.W.exmOne K (.ref aQ) (.ref eV)=some true)
  (mH:PySem.W.exmOne K (.ref bN) (.ref eV)=some true)
  (lD:PySem.W.exmOne K (.ref bh) (.ref eV)=some true)
  (HB:Fi K eF "at_begin" bY)
  (nW:PySem.W.nsIn K mainGlobals "enumerate"=some none)
  (oE:PySem.W.nsIn K mainGlobals "len"=some none)
  (yz:PySem.W.nsIn K mainGlobals "list"=some none)
  (tK:PySem.W.nsIn K mainGlobals "range"=some none)
  (Zoj:PySem.W.nsIn K mainGlobals "NEW"=some (some Zlq))
  (Zoh:RelV (.int 2) Zlq)
  (Zoi:PySem.W.nsIn K mainGlobals "OLD"=some (some Zlp))
  (Zog:RelV (.int 1) Zlp)
  (g1:j9 K "__init__" "Cell.__init__" qO dg)
  (g2:j9 K "units" "Cell.units" wM fu)
  (g3:j9 K "has_field" "Cell.has_field" pQ dj)
  (g4:j9 K "__init__" "Heap.__init__" qM cY)
  (g6:j9 K "lay" "Heap.lay" BR jw)
  (g7:j9 K "back" "Heap.back" yZ ir)
  (g8:j9 K "free" "Heap.free" yX ig)
  (g9:j9 K "there" "Heap.there" wL fj)
  (g10:j9 K "cell_at" "cell_at" Gh gH)
  (g11:j9 K "birth_at" "birth_at" BP dU)
  (g12:j9 K "reached" "reached" FQ lQ)
  (g13:j9 K "onward" "onward" KY mU)
  (g14:j9 K "__init__" "Hand.__init__" qN cZ)
  (g15:j9 K "__init__" "Sweeper.__init__" nF cA)
  (g16:j9 K "__init__" "World.__init__" pO cQ)
  (g17:j9 K "held" "held" Y9 vm)
  (g18:j9 K "births_held" "births_held" uE fU)
  (g19:j9 K "births_at" "births_at" yL gB)
  (g20:j9 K "looked_at" "looked_at" yI iV)
  (g21:j9 K "has_sense" "has_sense" yJ dH)
  (g22:j9 K "is_walking" "is_walking" wD gP)
  (g23:j9 K "mark_of" "mark_of" FT lR)
  (g24:j9 K "told_cells" "told_cells" wz gM)
  (g25:j9 K "told_cell" "told_cell" yH iU)
  (g26:j9 K "begin" "begin" S9 qx)
  (g27:j9 K "note" "note" Y8 vh)
  (g28:j9 K "note_all" "note_all" BJ fX)
  (g29:j9 K "gone" "gone" Za sU)
  (g30:j9 K "roots" "roots" S8 qw)
  (g31:j9 K "root_of" "root_of" FP lO)
  (g32:j9 K "note_hands" "note_hands" wC fW)
  (g33:j9 K "step_at_rest" "step_at_rest" su cJ)
  (g34:j9 K "step_in_walk" "step_in_walk" rZ cH)
  (g35:j9 K "walk" "walk" Y6 vf)
  (g36:j9 K "look_or_cut" "look_or_cut" uD fQ)
  (g37:j9 K "cut" "cut" Zf0 Bu)
  (g38:j9 K "first_loss" "first_loss" wF gQ)
  (g39:j9 K "given_up" "given_up" BK jQ)
  (g40:j9 K "told_again" "told_again" wA fV)
  (g41:j9 K "step_in_give" "step_in_give" sr cI)
  (g42:j9 K "pass_place" "pass_place" wB gO)
  (g43:j9 K "end" "end" s_end Bt)
  (g44:j9 K "step_when_lost" "step_when_lost" pN bQ)
  (g45:j9 K "step" "step" Y7 vg)
  (g46:j9 K "all_of" "all_of" K4 mV)
  (g47:j9 K "at_begin" "Looking.at_begin" nG bY)
  (g48:j9 K "next_look" "Last.next_look" pP di)
  (g49:j9 K "stays" "Last.stays" wK fY)
  (g50:j9 K "__init__" "Kind.__init__" qL cX)
  (g51:j9 K "slots_of" "slots_of" By dJ)
  (g52:j9 K "cell_in" "cell_in" Gg jl)
  (g53:j9 K "fields_in" "fields_in" yK ie)
  (g54:j9 K "told_as_old" "told_as_old" uA fO)
  (g55:j9 K "told_as_new" "told_as_new" uB eZ)
  (g56:j9 K "do_make" "do_make" Gb gk)
  (g57:j9 K "do_get" "do_get" K3 iM)
  (g58:j9 K "do_put" "do_put" K1 iK)
  (g59:j9 K "do_copy" "do_copy" Gf gq)
  (g60:j9 K "do_drop" "do_drop" Ge gn)
  (g61:j9 K "do_give" "do_give" Gd gm)
  (g62:j9 K "do_write" "do_write" BL eG)
  (g63:j9 K "do_read" "do_read" FZ gh)
  (g64:j9 K "do_name" "do_name" Ga gj)
  (g65:j9 K "do_seek" "do_seek" FW gf)
  (g66:j9 K "place_named" "place_named" uC fP)
  (g67:j9 K "do" "do" Zmm PL)
  (g68:j9 K "_law_cell" "_law_cell" yW fJ)
  (g69:j9 K "_law_draw" "_law_draw" yU dI)
  (g70:j9 K "_law_word" "_law_word" yM gD)
  (g71:j9 K "_law_hands" "_law_hands" wI gW)
  (g72:j9 K "_law_room" "_law_room" yP iZ)
  (g73:j9 K "_law_made" "_law_made" yQ je)
  (g74:j9 K "_law_load" "_law_load" yR jf)
  (g75:j9 K "_law_deed" "_law_deed" yV ji)
  (g76:j9 K "_law_deeds" "_law_deeds" wJ gY)
  (g77:j9 K "_law_start" "_law_start" wG gR)
  (g78:j9 K "_law_rows" "_law_rows" yO iY)
  (g79:j9 K "_law_hand" "_law_hand" yS jg)
  (g80:j9 K "_law_with" "_law_with" yN iW)
  (g81:j9 K "_law_keeps" "_law_keeps" wH gU)
  :∃ fd:FuncData,(∀ (s:Shared) (v:Value),BindsTo s fd ⟨[v],[]⟩ [("_law_script",v)])∧∀ base:Heap,K.In base→base.Ns mainGlobals mg→tG l.prog w K mg base (G.Nq l.prog w) 10 fa fd ["_law_script"] (Zbt K):=by
 have e:=hfa.symm.trans (PySem.W.mg_of KI GN a82);cases e;have mo:∀ {s:Str}{v:Value},PySem.W.nsIn K mainGlobals s=some (some v)→mg s=some v:=fun h=>PySem.W.mg_of KI GN h
 let Q0:Cs:=⟨eE,aY,aZ,jR,jT,bG,eF,eF,eF⟩
 obtain ⟨_,F1,k1⟩:=fg g1;obtain ⟨_,F2,k2⟩:=fg g2;obtain ⟨_,F3,k3⟩:=fg g3;obtain ⟨_,F4,k4⟩:=fg g4;obtain ⟨_,F6,k6⟩:=fg g6;obtain ⟨_,F7,k7⟩:=fg g7;obtain ⟨_,F8,k8⟩:=fg g8;obtain ⟨_,F9,k9⟩:=fg g9;obtain ⟨_,F10,k10⟩:=fg g10;obtain ⟨_,F11,k11⟩:=fg g11;obtain ⟨_,F12,k12⟩:=fg g12;obtain ⟨_,F13,k13⟩:=fg g13;obtain ⟨_,F14,k14⟩:=fg g14;obtain ⟨_,F15,k15⟩:=fg g15;obtain ⟨_,F16,k16⟩:=fg g16;obtain ⟨_,F17,k17⟩:=fg g17;obtain ⟨_,F18,k18⟩:=fg g18;obtain ⟨_,F19,k19⟩:=fg g19;obtain ⟨_,F20,k20⟩:=fg g20;obtain ⟨_,F21,k21⟩:=fg g21;obtain ⟨_,F22,k22⟩:=fg g22;obtain ⟨_,F23,Bb⟩:=fg g23;obtain ⟨_,F24,k24⟩:=fg g24;obtain ⟨_,F25,k25⟩:=fg g25;obtain ⟨_,F26,k26⟩:=fg g26;obtain ⟨_,F27,k27⟩:=fg g27;obtain ⟨_,F28,k28⟩:=fg g28;obtain ⟨_,F29,k29⟩:=fg g29;obtain ⟨_,F30,k30⟩:=fg g30;obtain ⟨_,F31,k31⟩:=fg g31;obtain ⟨_,F32,k32⟩:=fg g32;obtain ⟨_,F33,k33⟩:=fg g33;obtain ⟨_,F34,O9⟩:=fg g34;obtain ⟨_,F35,k35⟩:=fg g35;obtain ⟨_,F36,k36⟩:=fg g36;obtain ⟨_,F37,k37⟩:=fg g37;obtain ⟨_,F38,k38⟩:=fg g38;obtain ⟨_,F39,k39⟩:=fg g39;obtain ⟨_,F40,k40⟩:=fg g40;obtain ⟨_,F41,k41⟩:=fg g41;obtain ⟨_,F42,k42⟩:=fg g42;obtain ⟨_,F43,k43⟩:=fg g43;obtain ⟨_,F44,k44⟩:=fg g44;obtain ⟨_,F45,k45⟩:=fg g45;obtain ⟨_,F46,k46⟩:=fg g46;obtain ⟨_,F47,k47⟩:=fg g47;obtain ⟨_,F48,k48⟩:=fg g48;obtain ⟨_,F49,k49⟩:=fg g49;obtain ⟨_,F50,k50⟩:=fg g50;obtain ⟨_,F51,k51⟩:=fg g51;obtain ⟨_,F52,k52⟩:=fg g52;obtain ⟨_,F53,k53⟩:=fg g53;obtain ⟨_,F54,k54⟩:=fg g54;obtain ⟨_,F55,k55⟩:=fg g55;obtain ⟨_,F56,k56⟩:=fg g56;obtain ⟨_,F57,k57⟩:=fg g57;obtain ⟨_,F58,k58⟩:=fg g58;obtain ⟨_,F59,k59⟩:=fg g59;obtain ⟨_,F60,k60⟩:=fg g60;obtain ⟨_,F61,k61⟩:=fg g61;obtain ⟨_,F62,k62⟩:=fg g62;obtain ⟨_,F63,k63⟩:=fg g63;obtain ⟨_,F64,k64⟩:=fg g64;obtain ⟨_,F65,k65⟩:=fg g65;obtain ⟨_,F66,k66⟩:=fg g66;obtain ⟨_,F67,k67⟩:=fg g67;obtain ⟨_,F68,k68⟩:=fg g68;obtain ⟨_,F69,k69⟩:=fg g69;obtain ⟨_,F70,k70⟩:=fg g70;obtain ⟨_,F71,k71⟩:=fg g71;obtain ⟨_,F72,k72⟩:=fg g72;obtain ⟨_,F73,k73⟩:=fg g73;obtain ⟨_,F74,k74⟩:=fg g74;obtain ⟨_,F75,k75⟩:=fg g75;obtain ⟨_,F76,k76⟩:=fg g76;obtain ⟨_,F77,k77⟩:=fg g77;obtain ⟨_,F78,k78⟩:=fg g78;obtain ⟨_,F79,k79⟩:=fg g79;obtain ⟨_,F80,k80⟩:=fg g80;obtain ⟨_,F81,k81⟩:=fg g81;have T:Txt w K mg aZ aY jT bG eE eF jR eV aH aQ bN bh dg fu dj cY gF jw ir ig fj gH dU lQ mU cZ cA cQ vm fU gB iV dH gP lR gM iU qx vh fX sU qw lO fW cJ cH vf fQ Bu gQ jQ fV cI gO Bt bQ vg mV bY di fY cX dJ jl ie fO eZ gk iM iK gq gn gm eG gh gj gf fP PL fJ dI gD gW iZ je jf ji gY gR iY jg iW gU:={
  QF:=⟨M5,_,_,Xq,PySem.W.mg_of KI GN Zg3,Zgo,⟨rfl,rfl,rfl⟩,rfl,Zdf,⟨Qs,rfl⟩,rfl,Zde,⟨Qq,rfl⟩,rfl,Zdd,⟨Qp,rfl⟩,rfl,Zdc,⟨Qo,rfl⟩,rfl,trivial⟩
  QG:=⟨M6,_,_,Xr,PySem.W.mg_of KI GN Zg4,Zgp,⟨rfl,rfl,rfl⟩,rfl,Zdp,⟨QD,rfl⟩,rfl,Zdo,⟨QC,rfl⟩,rfl,Zdn,⟨QB,rfl⟩,rfl,Zdm,⟨Qz,rfl⟩,rfl,Zdl,⟨Qy,rfl⟩,rfl,Zdk,⟨Qx,rfl⟩,rfl,Zdj,⟨Qw,rfl⟩,rfl,Zdi,⟨Qv,rfl⟩,rfl,Zdh,⟨Qu,rfl⟩,rfl,Zdg,⟨Qt,rfl⟩,rfl,trivial⟩
  cN:=⟨Zji,Zkw,Zjc,Ziy⟩
  Zgk:=mo Zp1
  J4:=⟨J4,a1,i1,Zkc⟩
  dF:=dF
  kO:=kO
  kJ:=kJ
  iT:=iT
  dX:=dX
  J8:=⟨Zhs,Zhr⟩
  cF:=⟨Zjg,Zku,Zja,Ziw⟩
  Zgh:=mo Zoy
  J2:=⟨J2,a4,i4,Zka⟩
  lY:=lY
  bK:=bK
  gZ:=gZ
  kE:=kE
  Zbr:=⟨Zjh,Zkv,Zjb,Zix⟩
  Zgi:=mo Zoz
  J3:=⟨J3,a14,i14,Zkb⟩
  tY:=tY
  rJ:=rJ
  M8:=⟨Zj,Z7,Zi,Y5⟩
  Q4:=mo Ze9
  xR:=⟨xR,a15,i15,Z1⟩
  m5:=m5
  m6:=m6
  oY:=oY
  mG:=mG
  oU:=oU
  rG:=rG
  oW:=oW
  mZ:=mZ
  m7:=m7
  mF:=mF
  oX:=oX
  XC:=⟨Zfg,Zhc,Zfd,Zez⟩
  Zbd:=mo Zlh
  DW:=⟨DW,a16,i16,Zgv⟩
  rF:=rF
  rE:=rE
  qt:=qt
  qp:=qp
  mY:=mY
  Ew:=⟨Zje,Zks,Zj8,Ziu⟩
  Zgf:=mo Zow
  W8:=⟨Zk2,Zjw,Zk8⟩
  Zbq:=⟨Zjf,Zkt,Zj9,Ziv⟩
  Zgg:=mo Zox
  J1:=⟨J1,a50,i50,Zk9⟩
  oZ:=oZ
  rH:=rH
  Ji:=mo XM
  Jj:=mo XN
  Q5:=mo Zea
  Zgj:=mo Zp0
  Xc:=mo Zi5
  tL:=tL
  RC:=RC
  Ac:=Ac
  CZ:=CZ
  jx:=jx
  jY:=jY
  mH:=mH
  lD:=lD
  vR:=⟨HB,i47,k47⟩
  Hi:=⟨a1,i1,k1⟩
  qu:=⟨a2,i2,k2⟩
  t7:=⟨a3,i3,k3⟩
  GZ:=⟨a4,i4,k4⟩
  DY:=⟨a5,i5,k5⟩
  Iz:=⟨a6,i6,k6⟩
  Eb:=⟨a7,i7,k7⟩
  Ea:=⟨a8,i8,k8⟩
  uX:=⟨a9,i9,k9⟩
  qd:=mo a10
  lA:=mo a11
  QZ:=mo a12
  Mj:=mo a13
  Hg:=⟨a14,i14,k14⟩
  Az:=⟨a15,i15,k15⟩
  DX:=⟨a16,i16,k16⟩
  Zgc:=mo a17
  Br:=mo a18
  uc:=mo a19
  IV:=mo a20
  kW:=mo a21
  Eg:=mo a22
  Q3:=mo a23
  Ed:=mo a24
  IK:=mo a25
  Zbc:=mo a26
  Zgb:=mo a27
  qb:=mo a28
  ZX:=mo a29
  Zbb:=mo a30
  QX:=mo a31
  xU:=mo a32
  Mi:=mo a33
  Mg:=mo a34
  Zg9:=mo a35
  Bq:=mo a36
  Zlw:=mo a37
  Eh:=mo a38
  Ml:=mo a39
  xT:=mo a40
  Mh:=mo a41
  Ef:=mo a42
  Zlv:=mo a43
  Hj:=mo a44
  Zga:=mo a45
  Xb:=mo a46
  Ba:=⟨a47,i47,k47⟩
  tZ:=⟨a48,i48,k48⟩
  uW:=⟨a49,i49,k49⟩
  GX:=⟨a50,i50,k50⟩
  jt:=mo a51
  vU:=mo a52
  zT:=mo a53
  Bo:=mo a54
  uY:=mo a55
  Zd0:=mo a56
  Zge:=mo a57
  Zgd:=mo a58
  Zd3:=mo a59
  Zd2:=mo a60
  Zd1:=mo a61
  ZZ:=mo a62
  Zcy:=mo a63
  Zcz:=mo a64
  Zcx:=mo a65
  Bp:=mo a66
  Zpu:=mo a67
  kY:=mo a68
  cM:=mo a69
  ud:=mo a70
  Ek:=mo a71
  Jc:=mo a72
  Je:=mo a73
  Jf:=mo a74
  Jh:=mo a75
  El:=mo a76
  Ei:=mo a77
  Jb:=mo a78
  Jg:=mo a79
  IW:=mo a80
  Ej:=mo a81
  nW:=PySem.W.mg_none_of KI GN nW
  oE:=PySem.W.mg_none_of KI GN oE
  yz:=PySem.W.mg_none_of KI GN yz
  tK:=PySem.W.mg_none_of KI GN tK
  Zm1:=⟨_,PySem.W.mg_of KI GN Zoj,Zoh⟩
  Zm0:=⟨_,PySem.W.mg_of KI GN Zoi,Zog⟩
 }
 have b1:=bd5 F1 "self" "birth" "many" "bulk" "tone";have b2:=Ez F2 "self";have b3:=Ai F3 "self" "field";have b4:=Ai F4 "self" "room";have F5:=G.Zl1 (st:=tO) l5 c5 k5;have b5:=G.Zat (ps:=["self","many","bulk","tone"]) (ds:=[]) l5 t5 fun us hl=>match us,hl with | [_,_,_,_],_=>⟨_,rfl,rfl⟩
 have Zyb:=G.Zat (ps:=["self","many","bulk","tone"]) (ds:=[Zbk]) l5 t5 fun us hl=>match us,hl with | [_,_,_],_=>⟨_,rfl,rfl⟩
 have Zya:=G.Zat (ps:=["self","many","bulk","tone"]) (ds:=[Zht,Zbk]) l5 t5 fun us hl=>match us,hl with | [_,_],_=>⟨_,rfl,rfl⟩
 have b6:=Ai F6 "self" "cell";have b7:=Ai F7 "self" "place";have b8:=Ez F8 "self";have b9:=Ez F9 "self";have b10:=Ai F10 "heap" "place";have b11:=Ai F11 "heap" "place";have b12:=Ai F12 "heap" "rows";have b13:=bd3 F13 "heap" "places" "way";have b14:=bd3 F14 "self" "name" "many";have b15:=Ez F15 "self";have b16:=bd4 F16 "self" "room" "kind" "hands";have b17:=Ez F17 "world";have b18:=Ez F18 "world";have b19:=Ai F19 "heap" "places";have b20:=Ai F20 "world" "hand";have b21:=Ai F21 "world" "cell";have b22:=Ez F22 "world";have b23:=Ai F23 "world" "place";have b24:=Ez F24 "world";have b25:=Ai F25 "world" "place";have b26:=Ez F26 "world";have b27:=Ai F27 "world" "place";have b28:=Ai F28 "world" "places";have b29:=bd3 F29 "world" "place" "birth";have b30:=Ez F30 "world";have b31:=bd3 F31 "world" "place" "birth";have b32:=Ai F32 "world" "hands";have b33:=Ez F33 "world";have b34:=Ez F34 "world";have b35:=Ez F35 "world";have b36:=Ez F36 "world";have b37:=Ez F37 "world";have b38:=Ez F38 "world";have b39:=Ez F39 "world";have b40:=Ez F40 "event";have b41:=Ez F41 "world";have b42:=Ez F42 "world";have b43:=Ez F43 "world";have b44:=Ez F44 "world";have b45:=Ez F45 "world";have b46:=Ez F46 "hands";have b47:=Ai F47 "self" "hands";have b48:=bd3 F48 "self" "looked" "hands";have b49:=Ez F49 "self";have b50:=bd3 F50 "self" "looking" "tells";have b51:=Ai F51 "world" "hand";have b52:=bd3 F52 "world" "hand" "slot";have b53:=bd4 F53 "world" "hand" "slot" "field";have b54:=Ai F54 "world" "place";have b55:=bd3 F55 "world" "hand" "place";have b56:=Ai F56 "world" "deed";have b57:=Ai F57 "world" "deed";have b58:=Ai F58 "world" "deed";have b59:=Ai F59 "world" "deed";have b60:=Ai F60 "world" "deed";have b61:=Ai F61 "world" "deed";have b62:=Ai F62 "world" "deed";have b63:=Ai F63 "world" "deed";have b64:=Ai F64 "world" "deed";have b65:=Ai F65 "world" "deed";have b66:=Ai F66 "world" "word";have b67:=Ai F67 "world" "deed";have b68:=Ai F68 "_law_script" "_law_k";have b69:=bd3 F69 "_law_cell_here" "_law_prime" "_law_many";have b70:=Ai F70 "_law_cell_here" "_law_w";have b71:=Ez F71 "_law_script";have b72:=Ez F72 "_law_script";have b73:=bd3 F73 "_law_n" "_law_h" "_law_s";have b74:=Ez F74 "_law_n";have b75:=bd3 F75 "_law_n" "_law_hands_here" "_law_seed";have b76:=bd3 F76 "_law_n" "_law_hands_here" "_law_seed";have b77:=bd3 F77 "_law_hands_here" "_law_cell_here" "_law_seed";have b78:=Ai F78 "_law_script" "_law_hands_here";have b79:=Ai F79 "_law_world" "_law_deed_here";have b80:=bd3 F80 "_law_cells" "_law_births" "_law_mark";have b81:=Ez F81 "_law_world";have F82:=Zhj (st:=KZ) l82 c82 k82;refine ⟨PySem.W.fnOf "law" "law" (lV KZ) (jz KZ) (aF KZ) .none Zpy Zqv Zpl Zr2 Zou Zqx,fun s v=>.of_eq rfl,fun base _ _=>?_⟩;have G1:=hh (w:=w) (GK l.prog base Q0 T F1 ) b1 k1;have G2:=hh (w:=w) (O5 l.prog base Q0 T F2 ) b2 k2;have G3:=hh (w:=w) (DQ l.prog base Q0 T F3 ) b3 k3;have G4:=hh (w:=w) (GF l.prog base Q0 T F4 ) b4 k4;have G6:=hh (w:=w) (WM l.prog base Q0 T F6 ) b6 k6;have G8:=hh (w:=w) (Uj l.prog base Q0 T F8 ) b8 k8;have G9:=hh (w:=w) (O4 l.prog base Q0 T F9 ) b9 k9;have G10:=hh (w:=w) (ZJ l.prog base Q0 T F10 ) b10 k10;have G14:=hh (w:=w) (GJ l.prog base Q0 T F14 ) b14 k14;have G15:=hh (w:=w) (Aw l.prog base Q0 T F15 ) b15 k15;have G17:=hh (w:=w) (Zju l.prog base Q0 T F17 ) b17 k17;have G20:=hh (w:=w) (TJ l.prog base Q0 T F20 ) b20 k20;have G21:=hh (w:=w) (TQ l.prog base Q0 T F21 ) b21 k21;have G22:=hh (w:=w) (Ox l.prog base Q0 T F22 ) b22 k22;have G40:=hh (w:=w) (Ou l.prog base Q0 T F40 ) b40 k40;have G43:=hh (w:=w) (Zn1 l.prog base Q0 T F43 ) b43 k43;have G46:=hh (w:=w) (Zco l.prog base Q0 T F46 ) b46 k46;have G47:=hh (w:=w) (Ay l.prog base Q0 T F47 ) b47 k47;have G49:=hh (w:=w) (O3 l.prog base Q0 T F49 ) b49 k49
 have G50:=hh (w:=w) (GD l.prog base Q0 T F50 ) b50 k50;have G51:=hh (w:=w) (Wx l.prog base Q0 T F51 ) b51 k51;have G54:=hh (w:=w) (Ln l.prog base Q0 T F54 ) b54 k54;have G68:=hh (w:=w) (Uh l.prog base Q0 T F68 ) b68 k68;have G69:=hh (w:=w) (Ue l.prog base Q0 T F69 ) b69 k69;have G70:=hh (w:=w) (TY l.prog base Q0 T F70 ) b70 k70;have G74:=hh (w:=w) (Uc l.prog base Q0 T F74 ) b74 k74;have G80:=hh (w:=w) (T7 l.prog base Q0 T F80 ) b80 k80;have G7:=hh (w:=w) (Uk l.prog base Q0 T F7 G2) b7 k7;have G11:=hh (w:=w) (WL l.prog base Q0 T F11 G10) b11 k11;have G13:=hh (w:=w) (Zcl l.prog base Q0 T F13 G10) b13 k13;have G23:=hh (w:=w) (Zv l.prog base Q0 T F23 G21) b23 Bb;have G26:=hh (w:=w) (Zft l.prog base Q0 T F26 G47) b26 k26;have G27:=hh (w:=w) (Zjt l.prog base Q0 T F27 G10 G21) b27 k27;have G29:=hh (w:=w) (Zjv l.prog base Q0 T F29 G10 G21) b29 k29;have G39:=hh (w:=w) (Wz l.prog base Q0 T F39 G9 G21) b39 k39;have G44:=hh (w:=w) (DK l.prog base Q0 T F44 G40) b44 k44;have G48:=hh (w:=w) (DP l.prog base Q0 T F48 G46) b48 k48;have G52:=hh (w:=w) (ZG l.prog base Q0 T F52 G10 G51) b52 k52;have G55:=hh (w:=w) (Lp l.prog base Q0 T F55 G20) b55 k55;have G71:=hh (w:=w) (O1 l.prog base Q0 T F71 G68 G69 G70) b71 k71;have G72:=hh (w:=w) (Ua l.prog base Q0 T F72 G68 G69) b72 k72;have G73:=hh (w:=w) (Ub l.prog base Q0 T F73 G69) b73 k73;have G77:=hh (w:=w) (OD l.prog base Q0 T F77 G69 G70) b77 k77;have G5:=hh (w:=w) (Ui l.prog base Q0 T F5 G1 G2 G8 G6) b5 k5;have G12:=hh (w:=w) (Zu l.prog base Q0 T F12 G13) b12 k12;have G16:=hh (w:=w) (DN l.prog base Q0 T F16 G14 G4 G15) b16 k16;have G19:=hh (w:=w) (TX l.prog base Q0 T F19 G11) b19 k19;have G28:=hh (w:=w) (Wy l.prog base Q0 T F28 G27) b28 k28;have G31:=hh (w:=w) (Zt l.prog base Q0 T F31 G29 G21 G22) b31 k31;have G42:=hh (w:=w) (Ov l.prog base Q0 T F42 G7 G10 G21) b42 k42;have G53:=hh (w:=w) (TV l.prog base Q0 T F53 G3 G52) b53 k53;have G59:=hh (w:=w) (ZF l.prog base Q0 T F59 G11 G51) b59 k59;have G60:=hh (w:=w) (ZD l.prog base Q0 T F60 G11 G51) b60 k60;have G62:=hh (w:=w) (WK l.prog base Q0 T F62 G52) b62 k62;have G63:=hh (w:=w) (Zx l.prog base Q0 T F63 G52) b63 k63;have G64:=hh (w:=w) (Zy l.prog base Q0 T F64 G52 G51) b64 k64;have G66:=hh (w:=w) (Lq l.prog base Q0 T F66 G29) b66 k66;have G75:=hh (w:=w) (Ug l.prog base Q0 T F75 G69 G74 G73 G70) b75 k75;have G18:=hh (w:=w) (Ls l.prog base Q0 T F18 G19) b18 k18;have G25:=hh (w:=w) (TF l.prog base Q0 T F25 G19 G23) b25 k25;have G30:=hh (w:=w) (Zfs l.prog base Q0 T F30 G17 G31) b30 k30;have G32:=hh (w:=w) (Ow l.prog base Q0 T F32 G28) b32 k32;have G35:=hh (w:=w) (Zjr l.prog base Q0 T F35 G28) b35 k35;have G41:=hh (w:=w) (JK l.prog base Q0 T F41 G43 G42) b41 k41;have G56:=hh (w:=w) (Zz l.prog base Q0 T F56 G5 G11 G51) b56 k56;have G57:=hh (w:=w) (Zcn l.prog base Q0 T F57 G11 G53 G51) b57 k57;have G58:=hh (w:=w) (Zcm l.prog base Q0 T F58 G11 G53 G28 G51 G55 G54) b58 k58;have G61:=hh (w:=w) (ZC l.prog base Q0 T F61 G11 G28 G51 G55) b61 k61;have G65:=hh (w:=w) (Zw l.prog base Q0 T F65 G11 G28 G66 G51) b65 k65;have G76:=hh (w:=w) (O2 l.prog base Q0 T F76 G75 G69) b76 k76;have G24:=hh (w:=w) (Ot l.prog base Q0 T F24 G9 G25) b24 k24;have G33:=hh (w:=w) (JL l.prog base Q0 T F33 G26 G32) b33 k33;have G38:=hh (w:=w) (Oz l.prog base Q0 T F38 G21 G12 G30) b38 k38;have G67:=hh (w:=w) (Zpq l.prog base Q0 T F67 G59 G60 G57 G61 G56 G64 G58 G63 G65 G62) b67 k67;have G78:=hh (w:=w) (T9 l.prog base Q0 T F78 G68 G76 G69 G77) b78 k78;have G37:=hh (w:=w) (Zn4 l.prog base Q0 T F37 G19 G38 G39 G40) b37 k37
 have G79:=hh (w:=w) (Ud l.prog base Q0 T F79 G67) b79 k79;have G81:=hh (w:=w) (OJ l.prog base Q0 T F81 G80 G18 G24) b81 k81;have G36:=hh (w:=w) (Lr l.prog base Q0 T F36 G48 G49 G37 G32) b36 k36;have G34:=hh (w:=w) (JH l.prog base Q0 T F34 G36 G35) b34 O9;have G45:=hh (w:=w) (Zjs l.prog base Q0 T F45 G33 G41 G34 G44) b45 k45;exact Zn0 _ _ Q0 T F82 G50 G16 G68 G79 G71 G81 G72 G78 G45
theorem walk {l:PySem.W.OpenLaw}{q:Program}{loose:List Str}{XP:(Str→Option Value)→Heap→Prop}{YP:World→Heap→Prop}{d:DefRec}{K:Params→aC} (hn:l.most=some 63) (hdf:d.params.defaults=[])
  (hY:∀ (w:World) (h:Heap),YP w h→(K w.params).In h)
  (F:∀ (w:World) (mg:Str→Option Value) (fa:Addr) (h:Heap),(K w.params).In h→h.Ns mainGlobals mg→mg d.name=some (.ref fa)→
   ∃ fd:FuncData,(∀ (s:Shared) (u:Value),BindsTo s fd ⟨[u],[]⟩ [("_law_script",u)])∧∀ base:Heap,(K w.params).In base→base.Ns mainGlobals mg→tG l.prog w (K w.params) mg base (G.Nq l.prog w) 10 fa fd ["_law_script"] (Zbt (K w.params))):
  PySem.W.WalkO q loose XP YP l.row.toRowW d [] (fun f vs=>PySem.call f vs):=
 L2.Zie (n:=63) (k:=10) (x:="_law_script") (CX:=fun w=>G.Nq l.prog w) (sp:=fun w=>Zbt (K w.params)) hn (by decide) hdf ⟨rfl,by decide,by decide⟩ hY F (fun _ _ a ns hl _ hS=>⟨a,rfl,ns,hS,hl,fun _=>rfl⟩) fun _ _ _ _ _ z=>by
  obtain ⟨_,_,_,_,_,_,_,_,_,_,_,_,z⟩:=z;exact z
end K31
namespace PySem.W.Fast
def tw13712743178818304000:=0
def tw10242171481659015746:=0
def tw7473745518238623811:=0
def tw16955328777040573828:=0
def tw3196607718560042022:=0
def tw14082452069099702248:=0
def tw17245977432823204108:=0
def tw1170687132711193388:=0
def tw12718787586802535276:=0
def tw17713467219299046637:=0
def tw15045866530239941038:=0
def tw9675920339107884371:=0
def tw16612359850823614964:=0
def tw7672055087371723637:=0
def tw16011009462167381527:=0
def tw1754521605728138199:=0
def tw14223492642137517369:=0
def tw4213684656575101433:=0
def tw1932010185133693754:=0
def tw11642311946483682268:=0
def tw744909770801634845:=0
def tw15160854842696904254:=0
def tw3330362103971378815:=0
def tw4579243280876319545:=0
def tw3752284065486262961:=0
def tw9994232061298355696:=0
def tw6696907008119946568:=0
def tw3497682284038214031:=0
def tw801853488172462341:=0
def tw9430081418030587249:=0
def tw4429428307231654915:=0
def tw17017542944559499884:=0
def tw7839814301772924642:=0
def tw14870695765734677122:=0
def tw14287821652025705648:=0
def tw1083308193033812160:=0
def tw15643366279485489545:=0
def tw14712108461430961664:=0
def tw11317462762969566897:=0
def tw5993446420922654454:=0
def tw278708818162607956:=0
def tw15941136733332318811:=0
def tw16616969280746876167:=0
def tw11956158261357211048:=0
def tw16546930328719132828:=0
def tw14274742665482575860:=0
def tw9128343830434549134:=0
def tw1469521930786987337:=0
def tw1562102843116907062:=0
def tw10437040937329942307:=0
def tw18314375063453184054:=0
def tw2276612105244472280:=0
def tw265380657812492373:=0
def tw11336304975998407794:=0
def tw17794245971671242844:=0
def tw2049048226064067510:=0
def tw7837269559497344921:=0
def tw8434069325570764139:=0
def tw7994351997484726374:=0
def tw7910493934067368276:=0
def tw9700141010453610750:=0
def tw9912353484561217055:=0
def tw12769920927788900743:=0
def tw16054857204891826163:=0
def tw11447523933484483338:=0
def tw10299236525362220666:=0
def tw3566102056184920983:=0
def tw10056260150449441161:=0
def tw2433318115544801816:=0
def tw16470927950758990916:=0
def tw8756161508702401599:=0
def tw2422826031679963861:=0
def tw8632484167426603871:=0
def tw4086808325022008816:=0
def tw11789786005591921757:=0
def tw6695550900778699377:=0
def tw10190870476645986409:=0
def tw17274228286584470793:=0
def tw17072308695424640546:=0
def tw16225310079503445375:=0
def tw702776712606881701:=0
def tw9940761105958663700:=0
def tw16325069752293197241:=0
def tw2246319546606068500:=0
def tw2719785616110362777:=0
def tw51240360451728471:=0
def tw890618628560869690:=0
def tw13061095338882685617:=0
def tw16602134385448074293:=0
def tw13729119887794438688:=0
def tw1989684709948863662:=0
def tw2638931019228458797:=0
def tw16684573898907808674:=0
def tw636944207042345508:=0
def tw2580274205176024813:=0
def tw16920462074187141752:=0
def tw15925889918919961339:=0
def tw5181717463444488102:=0
def tw1276455888950624339:=0
def tw5380647018161133577:=0
def tw8060494837818531860:=0
def tw10263720969023351072:=0
def tw3092505832306945218:=0
def tw5360962235055767699:=0
def tw12456198288211365160:=0
def tw4300202114866424523:=0
def tw3808402386726794776:=0
def tw3279273707615645844:=0
def tw16411210360369242420:=0
def tw17098835808001529122:=0
def tw11578031269759107995:=0
def tw3522531194273843:=0
def tw15003198742421290843:=0
def tw7958495405959611009:=0
def tw2896282733521702257:=0
def tw15237343690873269407:=0
def tw15829888702974384992:=0
def tw17062434704534994336:=0
def tw11480005643257856599:=0
def tw14961009900823656772:=0
def tw15283984839693441714:=0
def tw6991571616997976035:=0
def tw7587406501293262888:=0
def tw1915277488009020802:=0
def tw9246761544181114723:=0
def tw13770344925179044555:=0
def tw2719946585039571286:=0
def tw9066018818853736386:=0
def tw14107070249333920703:=0
def tw5383851426620819808:=0
def tw459485349780426748:=0
def tw1978344022315790451:=0
def tw14952785591018588115:=0
def tw16326973711911954183:=0
def tw9028521318421912135:=0
def tw1125802043734005366:=0
def tw9902316978813309546:=0
def tw1997679422408018886:=0
def tw4836418916969038473:=0
def tw1874440309353826805:=0
def tw3251358188832867638:=0
def tw313673129879304523:=0
def tw10194231315437999478:=0
def tw6846005624303048129:=0
def tw13058677728517894012:=0
def tw12048334024504476310:=0
def tw12305663897023958050:=0
def tw1009770685303697764:=0
def tw14729597857128782536:=0
def tw12743949281738662798:=0
def tw6865242946382839891:=0
def tw17438935091423147468:=0
def tw16979852213757732464:=0
def tw12544452000937205651:=0
def tw6381296947214522029:=0
def tw2395548206241984153:=0
def tw11683657023027028962:=0
def tw10027280673696831727:=0
def tw18059686308621931234:=0
def tw16508491025302115251:=0
def tw10873284663453220831:=0
def tw1115545252773468734:=0
def tw1608695184917454427:=0
def tw10689434976318991886:=0
def tw13270344562337986809:=0
def tw2650768833927500928:=0
def tw13837756846318137211:=0
def tw7767125610382625253:=0
def tw741055389276649990:=0
def tw7643378033881160306:=0
def tw7781118055409774:=0
def tw13344628076023040900:=0
def tw4766188328573163203:=0
def tw728629367397512321:=0
def tw13522167711914423945:=0
def tw40218401353667812:=0
def tw17599879726840199388:=0
def tw7646851767765707002:=0
def tw7202409276136254326:=0
def tw10342264925932372914:=0
def tw1882232110448836015:=0
def tw5724240385835259766:=0
def tw8001818654734011516:=0
def tw13876945992035922866:=0
def tw485031719432588848:=0
def tw17620123855773232234:=0
def tw9234061473674522069:=0
def tw4041367489465219043:=0
def tw12427375882113179889:=0
def tw16869952094041094260:=0
def tw445068400858101134:=0
def tw5433829878717342805:=0
def tw14029659429602816890:=0
def tw5857940977839069188:=0
def tw15979582338767897863:=0
def tw13104439751257870015:=0
def tw12051576769289156127:=0
def tw17362374260335829990:=0
def tw14688031924552521479:=0
def tw11673662986412765042:=0
def tw2514159651903928841:=0
def tw16785219448238598042:=0
def tw5002638983915066439:=0
def tw6581536934856830470:=0
def tw6295596413088007343:=0
def tw16989008809063827886:=0
def tw11499379758506055535:=0
def tw663126995948918585:=0
def tw7238593295971627917:=0
def tw15439182722943571769:=0
def tw14010838032608750985:=0
def tw9824217343811214342:=0
def tw2828103743377506835:=0
def tw6159010393471803611:=0
def tw4583358236393751460:=0
def tw11448480135981362284:=0
def tw17948311196693018055:=0
def tw4558355380529006673:=0
def tw5054309843136091920:=0
def tw7746370316527552941:=0
def tw9734030212271592413:=0
def tw10502067869446644051:=0
def tw14428366403656397806:=0
def tw15750050418642048749:=0
def tw12486078758058572654:=0
def tw5333273712445611415:=0
def tw11424962016552674030:=0
def tw7745278188722562476:=0
def tw10759862054753634453:=0
def tw2083681239297935311:=0
def tw10314362215612194513:=0
def tw12569212676244987281:=0
def tw928225665364229203:=0
def tw16980536378402502213:=0
def tw10001050998416433878:=0
def tw799807458956911092:=0
def tw42164102128792647:=0
def tw13460162760728755875:=0
def tw4793964925729571561:=0
def tw387724547565097737:=0
def tw13903187400394785053:=0
def tw13624727637983254944:=0
def tw16985956926317715264:=0
def tw2783768177553271354:=0
def tw3208659768347315046:=0
def tw6535788732360039620:=0
def tw486971881855326882:=0
def tw6126340610155517175:=0
def tw10531637355504367996:=0
def tw1654599319896812884:=0
def tw17962944998180696709:=0
def tw6132539811974124582:=0
def tw689753733001094624:=0
def tw6445014375364903989:=0
def tw4796414768037891973:=0
def tw9758613447051551465:=0
def tw3690022447943892639:=0
def tw464599348628568996:=0
def tw17379779109175122505:=0
def tw13378855708141371817:=0
def tw5044120242322307479:=0
def tw5484192910130588168:=0
def tw2529332871700264454:=0
def tw84763180577051865:=0
def tw13965547553430558780:=0
def tw9295496879172045145:=0
def tw10986476367830685688:=0
def tw8414362106296741658:=0
def tw16346919044363351497:=0
def tw10572084360916482135:=0
def tw8658316034986154620:=0
def tw14159596156111329811:=0
def tw415062054968616703:=0
def tw15964501070870053038:=0
def tw9908142117827277998:=0
def tw3882198916264970753:=0
def tw2930713204717450176:=0
def tw7085397537564775103:=0
def tw7109617041424006432:=0
def tw9021111719293909510:=0
def tw15655276220446531183:=0
def tw3975822374360403057:=0
def tw15521167117306524103:=0
def tw15550953235975409857:=0
def tw13404860590409016220:=0
def tw12777503080078526192:=0
def tw6803425313867707084:=0
def tw10372650168271271491:=0
def tw14775263462605891841:=0
def tw9089511251354695499:=0
def tw15985281598585632520:=0
def tw675244032851158901:=0
def tw4489692351519227348:=0
def tw10058833406613152090:=0
def tw246572195064542399:=0
end PySem.W.Fast
open PySem PySem.W PyProof.Rows
set_option maxRecDepth 100000 in
set_option maxHeartbeats 0 in
theorem PySem.Challenge.cw_greywalk_k31_no_dark_holds_pale_holds : PySem.Challenge.rw_greywalk_k31_no_dark_holds_pale.Holds := by
 w_on;o_law;k_head;(case hw=>w_witness2)
 k_fill
 refine K31.walk (l:=PySem.Challenge.rw_greywalk_k31_no_dark_holds_pale) rfl rfl (fun w h Y=>PySem.W.kIn_of Y) ?F
 case F=>
  intro w mg fa h KX G hmg
  refine' K31.all_mk KX G hmg ?h0 ?h1 ?h2 ?h3 ?h4 ?h5 ?h6 ?h7 ?h8 ?h9 ?h10 ?h11 ?h12 ?h13 ?h14 ?h15 ?h16 ?h17 ?h18 ?h19 ?h20 ?h21 ?h22 ?h23 ?h24 ?h25 ?h26 ?h27 ?h28 ?h29 ?h30 ?h31 ?h32 ?h33 ?h34 ?h35 ?h36 ?h37 ?h38 ?h39 ?h40 ?h41 ?h42 ?h43 ?h44 ?h45 ?h46 ?h47 ?h48 ?h49 ?h50 ?h51 ?h52 ?h53 ?h54 ?h55 ?h56 ?h57 ?h58 ?h59 ?h60 ?h61 ?h62 ?h63 ?h64 ?h65 ?h66 ?h67 ?h68 ?h69 ?h70 ?h71 ?h72 ?h73 ?h74 ?h75 ?h76 ?h77 ?h78 ?h79 ?h80 ?h81 ?h82 ?h83 ?h84 ?h85 ?h86 ?h87 ?h88 ?h89 ?h90 ?h91 ?h92 ?h93 ?h94 ?h95 ?h96 ?h97 ?h98 ?h99 ?h100 ?Zy0 ?Zxz ?Zxy ?Zxx ?Zxw ?Zxv ?Zxu ?Zxt ?Zxs ?Zxr ?Zxq ?Zxp ?Zxo ?Zxn ?Zxm ?Zxl ?Zxk ?Zxj ?Zxi ?Zxh ?Zxg ?Zxf ?Zxe ?Zxd ?Zxc ?Zxb ?Zxa ?Zx9 ?Zx8 ?Zx7 ?Zx6 ?Zx5 ?Zx4 ?Zx3 ?Zx2 ?Zx1 ?Zx0 ?Zwz ?Zwy ?Zwx ?Zww ?Zwv ?Zwu ?Zwt ?Zws ?Zwr ?Zwq ?Zwp ?Zwo ?Zwn ?Zwm ?Zwl ?Zwk ?Zwj ?Zwi ?Zwh ?Zwg ?Zwf ?Zwe ?Zwd ?Zwc ?Zwb ?Zwa ?Zw9 ?Zw8 ?Zw7 ?Zw6 ?Zw5 ?Zw4 ?Zw3 ?Zw2 ?Zw1 ?Zw0 ?Zvz ?Zvy ?Zvx ?Zvw ?Zvv ?Zvu ?Zvt ?Zvs ?Zvr ?Zvq ?Zvp ?Zvo ?Zvn ?Zvm ?Zvl ?Zvk ?Zvj ?Zvi ?Zvh ?Zvg ?Zvf ?Zve ?Zvd ?Zvc ?Zvb ?Zva ?Zv9 ?Zv8 ?Zv7 ?Zv6 ?Zv5 ?Zv4 ?Zv3 ?Zv2 ?Zv1 ?Zv0 ?Zuz ?Zuy ?Zux ?Zuw ?Zuv ?Zuu ?Zut ?Zus ?Zur ?Zuq ?Zup ?Zuo ?Zun ?Zum ?Zul ?Zuk ?Zuj ?Zui ?Zuh ?Zug ?Zuf ?Zue ?Zud ?Zuc ?Zub ?Zua ?Zu9 ?Zu8 ?Zu7 ?Zu6 ?Zu5 ?Zu4 ?Zu3 ?Zu2 ?Zu1 ?Zu0 ?Ztz ?Zty ?Ztx ?Ztw ?Ztv ?Ztu ?Ztt ?Zts ?Ztr ?Ztq ?Ztp ?Zto ?Ztn ?Ztm ?Ztl ?Ztk ?Ztj ?Zti ?Zth ?Ztg ?Ztf ?Zte ?Ztd ?Ztc ?Ztb ?Zta ?Zt9 ?Zt8 ?Zt7 ?Zt6 ?Zt5 ?Zt4 ?Zt3 ?Zt2 ?Zt1 ?Zt0 ?Zsz ?Zsy ?Zsx ?Zsw ?Zsv ?Zsu ?Zst ?Zss ?Zsr ?Zsq ?Zsp ?Zso ?Zsn ?Zsm ?Zsl ?Zsk ?Zsj ?Zsi ?Zsh ?Zsg ?Zsf ?Zse ?Zsd ?Zsc ?Zsb ?Zsa
  case h0 | h1 | h2 | h3 | h4 | h5 | h6 | h7 | h8 | h9 | h10 | h11 | h12 | h13 | h14 | h15 | h16 | h17 | h18 | h19 | h20 | h21 | h22 | h23=>(show _=_;k_is)
  case h24 | h25=>first | exact rfl | exact ⟨_,rfl⟩
  case h26 | h27 | h28 | h29 | h30 | h31 | h32 | h33 | h34 | h35 | h36 | h37 | h38 | h39 | h40 | h41 | h42 | h43 | h44 | h45 | h46 | h47 | h48 | h49 | h50 | h51 | h52 | h53 | h54 | h55 | h56 | h57 | h58 | h59 | h60 | h61 | h62 | h63 | h64 | h65 | h66 | h67 | h68 | h69 | h70 | h71 | h72 | h73 | h74 | h75 | h76 | h77 | h78 | h79 | h80 | h81 | h82 | h83 | h84 | h85 | h86 | h87 | h88 | h89 | h90 | h91 | h92 | h93 | h94 | h95 | h96 | h97 | h98 | h99 | h100 | Zy0 | Zxz | Zxy | Zxx | Zxw | Zxv | Zxu | Zxt | Zxs | Zxr | Zxq | Zxp | Zxo | Zxn | Zxm | Zxl | Zxk | Zxj | Zxi | Zxh=>(show _=_;k_is)
  case Zxg | Zxf | Zxe | Zxd=>exact rfl
  case Zxc | Zxb=>(show _=_;k_is)
  case Zxa | Zx9 | Zx8 | Zx7 | Zx6 | Zx5 | Zx4 | Zx3 | Zx2 | Zx1=>exact rfl
  case Zx0 | Zwz | Zwy | Zwx | Zww | Zwv | Zwu | Zwt | Zws | Zwr | Zwq | Zwp | Zwo | Zwn | Zwm | Zwl | Zwk | Zwj | Zwi | Zwh | Zwg | Zwf | Zwe | Zwd | Zwc | Zwb | Zwa | Zw9 | Zw8 | Zw7 | Zw6 | Zw5 | Zw4 | Zw3 | Zw2 | Zw1 | Zw0 | Zvz | Zvy | Zvx | Zvw | Zvv | Zvu | Zvt | Zvs | Zvr | Zvq | Zvp | Zvo | Zvn | Zvm | Zvl | Zvk | Zvj | Zvi | Zvh | Zvg | Zvf | Zve | Zvd | Zvc | Zvb | Zva | Zv9 | Zv8 | Zv7 | Zv6 | Zv5 | Zv4 | Zv3 | Zv2 | Zv1 | Zv0 | Zuz=>(show _=_;k_is)
  case Zuy | Zux | Zuw | Zuv=>k_exc
  case Zuu | Zut | Zus | Zur=>kts_exm
  case Zuq | Zup | Zuo | Zun | Zum | Zul=>(show _=_;k_is)
  case Zuk=>first | exact rfl | exact ⟨_,rfl⟩
  case Zuj=>(show _=_;k_is)
  case Zui=>first | exact rfl | exact ⟨_,rfl⟩
  case Zuh | Zug | Zuf | Zue | Zud | Zuc | Zub | Zua | Zu9 | Zu8 | Zu7 | Zu6 | Zu5 | Zu4 | Zu3 | Zu2 | Zu1 | Zu0 | Ztz | Zty | Ztx | Ztw | Ztv | Ztu | Ztt | Zts | Ztr | Ztq | Ztp | Zto | Ztn | Ztm | Ztl | Ztk | Ztj | Zti | Zth | Ztg | Ztf | Zte | Ztd | Ztc | Ztb | Zta | Zt9 | Zt8 | Zt7 | Zt6 | Zt5 | Zt4 | Zt3 | Zt2 | Zt1 | Zt0 | Zsz | Zsy | Zsx | Zsw | Zsv | Zsu | Zst | Zss | Zsr | Zsq | Zsp | Zso | Zsn | Zsm | Zsl | Zsk | Zsj | Zsi | Zsh | Zsg | Zsf | Zse | Zsd | Zsc | Zsb | Zsa=>(refine' K31.fgm ?l ?c ?k;(case l=>show _=_;k_is);(case c=>show _=_;k_is);(case k=>show _=_;k_is))
#print axioms PySem.Challenge.cw_greywalk_k31_no_dark_holds_pale_holds
