import PyProof.Rows.All
import Wide.All
import OpenK.AllK
import Wide.FinOn
import Lean
import PyProof.EqAt
import PyProof.EqKinds
import PyProof.TupleCall
import KE.KItemsList
import KE.KDictList
import PySem.Challenge.RW_greywalk_k23_deeds_in_an_endless_store
set_option Elab.async false
set_option linter.all false
set_option maxRecDepth 100000
namespace L2
open PySem PySem.Spec PyProof.Rows
abbrev Key:=Sum Int Str
def ZI1:Key→Value→Bool
 | .inl k,v=>Value.isInt k v
 | .inr x,v=>Value.isStrOf x v
def keyH (w:World):Key→Int
 | .inl k=>hashInt k
 | .inr x=>hashStr w x
theorem Ze3:∀ {k:Key}{v:Value},ZI1 k v=true→(∃ i t,k=Sum.inl i∧v=Value.int i t)∨(∃ x t,k=Sum.inr x∧v=Value.str x t)
 | .inl i,v,h=>by
  obtain ⟨t,e⟩:=Value.isInt_shape (k:=i) (v:=v) h;exact .inl ⟨i,t,rfl,e⟩
 | .inr x,v,h=>by
  obtain ⟨t,e⟩:=Value.isStrOf_shape (x:=x) (v:=v) h;exact .inr ⟨x,t,rfl,e⟩
theorem ZKj (i:Int) (t:Tok):ZI1 (.inl i) (.int i t)=true:=by simp [ZI1,Value.isInt]
theorem ZKi (x:Str) (t:Tok):ZI1 (.inr x) (.str x t)=true:=by simp [ZI1,Value.isStrOf]
theorem ZQv (a b:Int):decide ((Sum.inl a:Key)=Sum.inl b)=(a == b):=by
 by_cases e:a=b
 ·subst e;simp
 ·have h:¬ (Sum.inl a:Key)=Sum.inl b:=fun q=>e (Sum.inl.inj q);rw [decide_eq_false h];exact (beq_eq_false_iff_ne.mpr e).symm
theorem ZQs (a b:Str):decide ((Sum.inr a:Key)=Sum.inr b)=decide (a=b):=by
 by_cases e:a=b
 ·subst e;simp
 ·have h:¬ (Sum.inr a:Key)=Sum.inr b:=fun q=>e (Sum.inr.inj q);rw [decide_eq_false h,decide_eq_false e]
theorem ZQu (a:Int) (b:Str):decide ((Sum.inl a:Key)=Sum.inr b)=false:=decide_eq_false (fun q=>nomatch q)
theorem ZQt (a:Str) (b:Int):decide ((Sum.inr a:Key)=Sum.inl b)=false:=decide_eq_false (fun q=>nomatch q)
def Zef (prog:Program) (w:World):PySem.KeyKind prog w Key where
  is:=ZI1
  hash:=keyH w
  inj:=fun v a b ha hb=>by
    rcases Ze3 ha with ⟨i,t,rfl,rfl⟩ | ⟨x,t,rfl,rfl⟩
    · rcases Ze3 hb with ⟨j,u,rfl,e⟩ | ⟨y,u,rfl,e⟩
      · injection e with e1 _;rw [e1]
      · exact nomatch e
    · rcases Ze3 hb with ⟨j,u,rfl,e⟩ | ⟨y,u,rfl,e⟩
      · exact nomatch e
      · injection e with e1 _;rw [e1]
  byValue:=fun k v h=>by
    rcases Ze3 h with ⟨i,t,rfl,rfl⟩ | ⟨x,t,rfl,rfl⟩<;>rfl
  pyHash:=fun hv h=>by
    rcases Ze3 hv with ⟨i,t,rfl,rfl⟩ | ⟨x,t,rfl,rfl⟩
    · exact wpAny_pyHash_int h
    · exact wpAny_pyHash_str h
  eqBool:=fun hu hv h=>by
    rcases Ze3 hu with ⟨i,t,rfl,rfl⟩ | ⟨x,t,rfl,rfl⟩
    · rcases Ze3 hv with ⟨j,u,rfl,rfl⟩ | ⟨y,u,rfl,rfl⟩
      · rw [ZQv] at h;exact wpAny_eqBool_int h
      · rw [ZQu] at h;exact SeqAt.EqAt.int_str i t y u _ _ _ _ h
    · rcases Ze3 hv with ⟨j,u,rfl,rfl⟩ | ⟨y,u,rfl,rfl⟩
      · rw [ZQt] at h;exact SeqAt.EqAt.str_int x t j u _ _ _ _ h
      · rw [ZQs] at h;exact wpAny_eqBool_str h
  «strs»:=fun k x t v h=>by
    rcases Ze3 h with ⟨i,u,rfl,e⟩ | ⟨y,u,rfl,e⟩
    · exact nomatch e
    · injection e with e1 _
      subst e1;cases v<;>rfl
theorem ZEc (prog:Program) (w:World) (i:Int) (t:Tok):(Zef prog w).is (.inl i) (.int i t)=true:=ZKj i t
theorem ZEb (prog:Program) (w:World) (x:Str) (t:Tok):(Zef prog w).is (.inr x) (.str x t)=true:=ZKi x t
end L2
namespace L2
open PySem PySem.Spec PyProof.Rows
inductive V where
 | non | bl (b:Bool) | int (i:Int) | str (x:Str) | byt (b:Array UInt8) | flt (b:UInt64) | ref (a:Addr) | ty (n:String)
 deriving DecidableEq
def RelV:V→Value→Prop
 | .non,u=>u=Value.none
 | .bl b,u=>u=Value.bool b
 | .int i,u=>∃ t,u=Value.int i t
 | .str x,u=>∃ t,u=Value.str x t
 | .byt b,u=>∃ t,u=Value.bytes b t
 | .flt b,u=>∃ t,u=Value.float b t
 | .ref a,u=>u=Value.ref a
 | .ty n,u=>u=Value.type n
abbrev Vals:List V→List Value→Prop:=Paired RelV
theorem Vals.length {xs:List V}{us:List Value} (r:Vals xs us):xs.length=us.length:=Paired.length r
theorem Vals.get:∀ {xs:List V}{us:List Value}{i:Nat}{x:V},Vals xs us→xs[i]? =some x→∃ u,us[i]? =some u∧RelV x u
 | _,_,_,_,.nil,e=>by simp at e
 | _,_,0,_,.cons r _,e=>by simp at e;subst e;exact ⟨_,rfl,r⟩
 | _,_,i + 1,x,.cons _ t,e=>by
  obtain ⟨u,h1,h2⟩:=Vals.get (i:=i) (x:=x) t (by simpa using e);exact ⟨u,by simpa using h1,h2⟩
theorem Vals.set {x:V}{u:Value} (r:RelV x u):∀ {xs:List V}{us:List Value} (i:Nat),Vals xs us→Vals (xs.set i x) (us.set i u)
 | _,_,_,.nil=>.nil
 | _,_,0,.cons _ t=>.cons r t
 | _,_,i + 1,.cons q t=>.cons q (Vals.set r i t)
theorem Vals.append:∀ {xs ys:List V}{us ws:List Value},Vals xs us→Vals ys ws→Vals (xs ++ ys) (us ++ ws)
 | _,_,_,_,.nil,s=>s
 | _,_,_,_,.cons r t,s=>.cons r (Vals.append t s)
theorem Vals.take:∀ {xs:List V}{us:List Value} (n:Nat),Vals xs us→Vals (xs.take n) (us.take n)
 | _,_,0,_=>.nil
 | _,_,_ + 1,.nil=>.nil
 | _,_,n + 1,.cons r t=>.cons r (Vals.take n t)
theorem Vals.drop:∀ {xs:List V}{us:List Value} (n:Nat),Vals xs us→Vals (xs.drop n) (us.drop n)
 | _,_,0,r=>r
 | _,_,_ + 1,.nil=>.nil
 | _,_,n + 1,.cons _ t=>Vals.drop n t
def RelO:Option V→Option Value→Prop
 | some v,some u=>RelV v u
 | none,none=>True
 | _,_=>False
def KV {κ:Type}:List (κ×V)→List (κ×Value)→Prop:=Paired fun (p:κ×V) (q:κ×Value)=>p.1=q.1∧RelV p.2 q.2
def kV:Key→V
 | .inl i=>.int i
 | .inr x=>.str x
inductive HO where
  | lst (xs:List V)
  | tup (xs:List V)
  | dK (kvs:List (Key×V)) | dT (kvs:List (List Key×V))
  | set (S:Int→Bool) (n:Nat)
  | ins (C dx:Addr) (fs:List (Str×V))
  | own (x:Addr)
  | xd (fs:List (Str×V))
  | met (f x:Addr)
  | rng (lo hi:Int)
  | frz (o:Obj) (u:HO)
  | tbl (ps:Array Value)
  | ext (φ:Heap→Prop)
abbrev Hp:=Addr→Option HO
def upd (H:Hp) (a:Addr) (o:HO):Hp:=fun b=>if b=a then some o else H b
theorem Za2 {H:Hp}{a:Addr}{o:HO}:upd H a o a=some o:=by unfold upd;rw [if_pos rfl]
theorem Za9 {H:Hp}{a b:Addr}{o:HO} (h:b≠a):upd H a o b=H b:=by unfold upd;rw [if_neg h]
theorem Zdx {H:Hp}{a:Addr}{o u:HO}:upd (upd H a o) a u=upd H a u:=by
 funext b;unfold upd;split<;>rfl
theorem ZEa {H:Hp}{a b:Addr}{o u:HO} (h:H a=some o) (h':H b=some u) (d:o≠u):a≠b:=by
 intro e;subst e;rw [h] at h';exact d (Option.some.inj h')
theorem Za5 {H:Hp}{a b:Addr}{o:HO} (h:H a=some o) (h':H b=none):a≠b:=by
 intro e;subst e;rw [h] at h';cases h'
section
variable (P:Program) (w:World)
def Zgb (H:Hp) (h:Heap) (a:Addr):HO→Prop
 | .lst xs=>xs.length≤sizeLine∧∃ (its:List Value) (n:Nat),Vals xs its∧h.get? a=some { cls:=.type "list",data:=.seq its.toArray n }
 | .tup xs=>xs.length≤sizeLine∧∃ its:List Value,Vals xs its∧IsTup h a its.toArray
 | .dK kvs=>kvs.length≤sizeLine∧(a == sysModules)=false∧∃ vs,KV kvs vs∧h.DictOf (Zef P w) a vs
 | .dT kvs=>kvs.length≤sizeLine∧(a == sysModules)=false∧∃ xs:List (List Key×Addr×Value),
   Paired (fun (p:List Key×V) (q:List Key×Addr×Value)=>p.1=q.1∧H q.2.1=some (.tup (p.1.map kV))∧RelV p.2 q.2.2) kvs xs∧
   ∃ o es ep,h.get? a=some o∧o.ExactDict∧o.data=.dict es ep∧es.toList=xs.map (entryOfKey (tupleKind (Zef P w)))∧(xs.map (·.1)).Nodup
 | .set S n=>h.SetOf (intKind P w) a S n
 | .ins C dx fs=>H dx=some (.own a)∧fs.length≤1000∧dx≠a∧h.get? a=some (PySem.W.instObj C dx)∧
   ∃ mA,h.Ns1 dx mA∧(∀ f,RelO (fs.lookup f) (mA f))∧PySem.Within mA (fs.map (·.1))
 | .own _=>∃ o,h.get? a=some o
 | .xd fs=>∃ mA,h.Ns1 a mA∧∀ f,RelO (fs.lookup f) (mA f)
 | .rng lo hi=>∃ t u v,h.get? a=some { cls:=.type "range",data:=.fields #[.int lo t,.int hi u,.int 1 v] }
 | .frz o u=>h.get? a=some o∧Zgb H h a u
 | .tbl ps=>h.get? a=some { cls:=.none,data:=.fields ps }
 | .met f x=>h.get? a=some (PySem.W.methodObj (.ref f) (.ref x))
 | .ext φ=>φ h∧(∃ o,h.get? a=some o)∧∀ h1 h2:Heap,φ h1→(∀ o,h1.get? a=some o→h2.get? a=some o)→φ h2
def HOk (H:Hp) (h:Heap):Prop:=∀ a o,H a=some o→Zgb P w H h a o
end
section
variable {P:Program}{w:World}{H H':Hp}{h h':Heap}{a:Addr}{o:HO}
theorem Zgb.lt (x:Zgb P w H h a o):a < h.objs.size:=by
 cases o with
 | lst xs=>obtain ⟨_,_,_,_,e⟩:=x;exact Heap.lt_size e
 | tup xs=>obtain ⟨_,_,_,p⟩:=x;exact p.lt
 | dK kvs=>obtain ⟨_,_,_,_,o,_,_,e,_⟩:=x;exact Heap.lt_size e
 | dT kvs=>obtain ⟨_,_,_,_,o,_,_,e,_⟩:=x;exact Heap.lt_size e
 | set S n=>obtain ⟨o,_,_,_,e,_⟩:=x;exact Heap.lt_size e
 | ins C dx fs=>obtain ⟨_,_,_,e,_⟩:=x;exact Heap.lt_size e
 | own y=>obtain ⟨_,e⟩:=x;exact Heap.lt_size e
 | xd fs=>obtain ⟨_,⟨_,_,_,e,_⟩,_⟩:=x;exact Heap.lt_size e
 | rng lo hi=>obtain ⟨_,_,_,e⟩:=x;exact Heap.lt_size e
 | frz ob u=>obtain ⟨e,_⟩:=x;exact Heap.lt_size e
 | tbl ps=>exact Heap.lt_size (show h.get? a=some _ from x)
 | met f y=>exact Heap.lt_size (show h.get? a=some _ from x)
 | ext φ=>obtain ⟨_,⟨_,e⟩,_⟩:=x;exact Heap.lt_size e
theorem Paired.mapP {α β:Type}{F G:α→β→Prop}:∀ {l₁:List α}{l₂:List β},Paired F l₁ l₂→(∀ a b,F a b→G a b)→Paired G l₁ l₂
 | _,_,.nil,_=>.nil
 | _,_,.cons r t,f=>.cons (f _ _ r) (Paired.mapP t f)
theorem Zgb.stay (x:Zgb P w H h a o) (k:∀ b u,(b=a∨H b=some (.own a))→h.get? b=some u→h'.get? b=some u)
  (ho:∀ b,H b=some (.own a)→H' b=some (.own a)) (ht:∀ b xs,H b=some (.tup xs)→H' b=some (.tup xs)):Zgb P w H' h' a o:=by
 induction o with
 | lst xs=>obtain ⟨z,its,n,r,e⟩:=x;exact ⟨z,its,n,r,k _ _ (.inl rfl) e⟩
 | tup xs=>obtain ⟨z,its,r,ob,e,c⟩:=x;exact ⟨z,its,r,ob,k _ _ (.inl rfl) e,c⟩
 | dK kvs=>obtain ⟨z,y,vs,r,ob,es,ep,e,c⟩:=x;exact ⟨z,y,vs,r,ob,es,ep,k _ _ (.inl rfl) e,c⟩
 | dT kvs=>
  obtain ⟨z,y,xs,r,ob,es,ep,e,c⟩:=x;exact ⟨z,y,xs,Paired.mapP r fun p q z=>⟨z.1,ht _ _ z.2.1,z.2.2⟩,ob,es,ep,k _ _ (.inl rfl) e,c⟩
 | set S n=>obtain ⟨ob,es,ep,t,e,c⟩:=x;exact ⟨ob,es,ep,t,k _ _ (.inl rfl) e,c⟩
 | ins C dx fs=>
  obtain ⟨d,z,ne,e,mA,⟨od,es,ep,e2,c⟩,r⟩:=x;exact ⟨ho _ d,z,ne,k _ _ (.inl rfl) e,mA,⟨od,es,ep,k _ _ (.inr d) e2,c⟩,r⟩
 | own y=>obtain ⟨ob,e⟩:=x;exact ⟨ob,k _ _ (.inl rfl) e⟩
 | xd fs=>obtain ⟨mA,⟨od,es,ep,e,c⟩,r⟩:=x;exact ⟨mA,⟨od,es,ep,k _ _ (.inl rfl) e,c⟩,r⟩
 | rng lo hi=>obtain ⟨t,u,v,e⟩:=x;exact ⟨t,u,v,k _ _ (.inl rfl) e⟩
 | frz ob u ih=>obtain ⟨e,q⟩:=x;exact ⟨k _ _ (.inl rfl) e,ih q⟩
 | tbl ps=>
  have e:h.get? a=some { cls:=.none,data:=.fields ps }:=x;show h'.get? a=some { cls:=.none,data:=.fields ps };exact k a _ (.inl rfl) e
 | met f y=>
  have e:h.get? a=some (PySem.W.methodObj (.ref f) (.ref y)):=x;show h'.get? a=some (PySem.W.methodObj (.ref f) (.ref y));exact k a _ (.inl rfl) e
 | ext φ=>obtain ⟨p,⟨o,e⟩,st⟩:=x;exact ⟨st _ _ p fun o q=>k _ _ (.inl rfl) q,⟨o,k _ _ (.inl rfl) e⟩,st⟩
theorem HOk.lt (x:HOk P w H h) (e:H a=some o):a < h.objs.size:=(x a o e).lt
theorem HOk.fresh (x:HOk P w H h) (e:h.objs.size≤a):H a=none:=by
 cases q:H a with
 | none=>rfl
 | some u=>exact absurd (Nat.lt_of_lt_of_le (x.lt q) e) (Nat.lt_irrefl _)
theorem HOk.kept (x:HOk P w H h) (k:∀ b u,h.get? b=some u→h'.get? b=some u):HOk P w H h':=fun a o e=>
 (x a o e).stay (fun b u _ q=>k b u q) (fun _ q=>q) fun _ _ q=>q
theorem HOk.laid (x:HOk P w H h) (k:∀ b u,h.get? b=some u→h'.get? b=some u) (hp:h.objs.size≤a) (new:Zgb P w (upd H a o) h' a o):HOk P w (upd H a o) h':=fun b u e=>by
 have hn:=x.fresh hp
 by_cases hb:b=a
 ·subst hb;rw [Za2] at e;cases e;exact new
 ·rw [Za9 hb] at e;exact (x b u e).stay (fun c v _ q=>k c v q) (fun c q=>by rw [Za9 (Za5 q hn)];exact q) fun c xs q=>by rw [Za9 (Za5 q hn)];exact q
end
def Rd (H:Hp) (a:Addr) (u:HO):Prop:=H a=some u∨∃ o,H a=some (.frz o u)
theorem Rd.ok {P:Program}{w:World}{H:Hp}{h:Heap}{a:Addr}{u:HO} (r:Rd H a u) (x:HOk P w H h):Zgb P w H h a u:=by
 rcases r with r | ⟨o,r⟩
 ·exact x a u r
 ·obtain ⟨_,q⟩:=x a _ r;exact q
def Mut:Option HO→Prop
 | some (.lst _)=>True
 | some (.dK _)=>True
 | some (.dT _)=>True
 | some (.set _ _)=>True
 | some (.ins _ _ _)=>True
 | some (.ext _)=>True
 | _=>False
section
variable {P:Program}{w:World}{H:Hp}{h h':Heap}{x e:Addr}{o':HO}
theorem HOk.write (ok:HOk P w H h) (mu:Mut (H x)) (he:e=x∨H e=some (.own x)) (k:∀ b u,b≠e→h.get? b=some u→h'.get? b=some u) (heo:∃ u,h'.get? e=some u)
  (new:Zgb P w (upd H x o') h' x o'):HOk P w (upd H x o') h':=fun b u q=>by
 have nown:∀ c y,H c=some (.own y)→c≠x:=fun c y r z=>by subst z;rw [r] at mu;exact mu
 have ntup:∀ c xs,H c=some (.tup xs)→c≠x:=fun c xs r z=>by subst z;rw [r] at mu;exact mu
 by_cases hb:b=x
 ·subst hb;rw [Za2] at q;cases q;exact new
 ·rw [Za9 hb] at q
  by_cases hbe:b=e
  ·have q':H b=some (.own x):=by
    rcases he with z | z
    ·exact absurd (hbe.trans z) hb
    ·rw [hbe];exact z
   rw [q] at q';cases q';obtain ⟨v,hv⟩:=heo;exact ⟨v,by rw [hbe];exact hv⟩
  ·refine (ok b u q).stay (fun c v hc r=>k c v ?_ r) (fun c r=>by rw [Za9 (nown c b r)];exact r) fun c xs r=>by rw [Za9 (ntup c xs r)];exact r
   rcases hc with rfl | hc
   ·exact hbe
   ·rintro rfl;rcases he with z | z
    ·exact nown c b hc z
    ·rw [hc] at z;cases z;exact hb rfl
end
structure Un (fs ex:List Addr) (H H':Hp) (h h':Heap):Prop where
 keep:∀ b o,h.get? b=some o→H b=none→b∉fs→b∉ex→h'.get? b=some o
 slot:∀ b o,h.get? b=some o→H b=none→b∈fs→b∉ex→∃ sl,h'.get? b=some { o with slots:=sl }
 free:∀ b o,h.get? b=some o→H b=none→b∉ex→H' b=none
 there:∀ b o,h.get? b=some o→b∉ex→∃ o',h'.get? b=some o'
 tups:∀ b xs,H b=some (.tup xs)→H' b=some (.tup xs)
 frzs:∀ b o u,H b=some (.frz o u)→H' b=some (.frz o u)
 tbls:∀ b ps,H b=some (.tbl ps)→∃ more,H' b=some (.tbl (ps ++ more))
section
variable {fs fs' ex ex':List Addr}{H H1 H2:Hp}{h h1 h2 h':Heap}{a x e:Addr}{o:HO}
theorem Un.any (u:Un fs ex H H1 h h1) {b:Addr}{ob:Obj} (q:h.get? b=some ob) (n:H b=none) (hx:b∉ex):∃ sl,h1.get? b=some { ob with slots:=sl }:=by
 by_cases hb:b∈fs
 ·exact u.slot b ob q n hb hx
 ·exact ⟨ob.slots,u.keep b ob q n hb hx⟩
theorem Un.kept (k:∀ b u,h.get? b=some u→h'.get? b=some u):Un fs ex H H h h':=
 ⟨fun b ob q _ _ _=>k b ob q,fun b ob q _ _ _=>⟨ob.slots,k b ob q⟩,fun _ _ _ n _=>n,fun b ob q _=>⟨ob,k b ob q⟩,fun _ _ q=>q,fun _ _ _ q=>q,fun _ ps q=>⟨#[],by rw [q];simp⟩⟩
theorem Un.refl:Un fs ex H H h h:=Un.kept fun _ _ q=>q
theorem Un.laid (k:∀ b u,h.get? b=some u→h'.get? b=some u) (hp:h.objs.size≤a) (hn:H a=none):Un fs ex H (upd H a o) h h' where
 keep:=fun b u q _ _ _=>k b u q
 slot:=fun b u q _ _ _=>⟨u.slots,k b u q⟩
 free:=fun b u q n _=>by rw [Za9 (Nat.ne_of_lt (Nat.lt_of_lt_of_le (Heap.lt_size q) hp))];exact n
 there:=fun b u q _=>⟨u,k b u q⟩
 tups:=fun b xs q=>by rw [Za9 (Za5 q hn)];exact q
 frzs:=fun b u xs q=>by rw [Za9 (Za5 q hn)];exact q
 tbls:=fun b ps q=>⟨#[],by rw [Za9 (Za5 q hn),q];simp⟩
theorem Un.write (mu:Mut (H x)) (he:e=x∨H e=some (.own x)) (k:∀ b u,b≠e→h.get? b=some u→h'.get? b=some u) (heo:∃ u,h'.get? e=some u):Un fs ex H (upd H x o) h h':=by
 have hx:∀ b,H b=none→b≠x:=fun b n z=>by subst z;rw [n] at mu;exact mu
 have hb:∀ b,H b=none→b≠e:=fun b n z=>by
  subst z;rcases he with r | r
  ·exact hx b n r
  ·rw [n] at r;cases r
 have hm:∀ b u,H b=some u→¬ Mut (some u)→b≠x:=fun b u q nm z=>by subst z;rw [q] at mu;exact nm mu
 refine ⟨fun b u q n _ _=>k b u (hb b n) q,fun b u q n _ _=>⟨u.slots,k b u (hb b n) q⟩,fun b u q n _=>by rw [Za9 (hx b n)];exact n,fun b u q _=>?_,
  fun b xs q=>by rw [Za9 (hm b _ q fun z=>z)];exact q,fun b u xs q=>by rw [Za9 (hm b _ q fun z=>z)];exact q,fun b ps q=>⟨#[],by rw [Za9 (hm b _ q fun z=>z),q];simp⟩⟩
 by_cases hbe:b=e
 ·subst hbe;exact heo
 ·exact ⟨u,k b u hbe q⟩
end
def trk (h:Heap) (H:Hp):List Addr:=(List.range h.objs.size).filter fun a=>(H a).isSome
def hidT (h:Heap) (H:Hp):Heap:=PySem.W.hideAll h (trk h H)
theorem ZKr (h:Heap) (H:Hp):(hidT h H).objs.size=h.objs.size:=PySem.W.hideAll_size _ _
theorem ZMp {h:Heap}{H:Hp}{b:Addr}{o:Obj} (e:h.get? b=some o) (n:H b=none):(hidT h H).get? b=some o:=
 PySem.W.hideAll_get _ e fun hm=>by
  have q:(H b).isSome=true:=(List.mem_filter.mp hm).2;rw [n] at q;simp at q
theorem ZOs {h:Heap}{H:Hp}{b:Addr}{o:Obj} (e:(hidT h H).get? b=some o):h.get? b=some o∧H b=none:=by
 have e':h.get? b=some o:=PySem.W.of_hideAll (trk h H) e;refine ⟨e',?_⟩;cases q:H b with
 | none=>rfl
 | some x=>
  have hm:b∈trk h H:=List.mem_filter.mpr ⟨List.mem_range.mpr (Heap.lt_size e'),by simp [q]⟩;have z:(hidT h H).get? b=none:=PySem.W.hideAll_none (trk h H) hm;rw [z] at e;cases e
def ZPx (g h:Heap) (L:Addr):List (Addr×Obj):=(List.range h.objs.size).filterMap fun a=>if a=L∨(g.get? a).isSome=true then none else (h.get? a).map fun o=>(a,o)
def rest (g h:Heap) (L d:Addr):List (Addr×Obj):=(ZPx g h L).filter fun p=>decide (p.1≠d)
end L2
namespace L2
open PySem PySem.Spec PyProof.Rows
structure Mod (K:PySem.W.Frag) (mg:Str→Option Value) (base:Heap):Prop where
 kin:K.In base
 glob:base.Ns mainGlobals mg
 blt:∃ mb,base.Ns builtinsNs mb∧∀ x:Str,x≠"__name__"→mb x=bootBuiltins x
 nolimit:base.NoLimit
structure Cx where
 prog:Program
 w:World
 K:PySem.W.Frag
 mg:Str→Option Value
 base:Heap
 A:Around
 N:List Str
 s₀:Shared
 H₀:Hp
 env:Env
 outer:List Env
 stack:List Env
 ex:List Addr
 fn:Str→Bool
 calm:Bool
 pn:List (Addr×Obj)
 xe:Value→Shared→Prop
def frs (l:List Env):List Addr:=l.filterMap (·.frame)
abbrev Cx.fs (X:Cx):List Addr:=frs X.outer
def Vis (sc:Scope) (x:Str):Prop:=sc.names.lookup x=some .local∨sc.names.lookup x=some .cell∨sc.names.lookup x=some .free
def Loc (sc:Scope) (x:Str):Prop:=sc.names.lookup x=some .local∨sc.names.lookup x=some .cell
def Look (env:Env) (h:Heap) (m:Str→Option Value) (x:Str) (u:Value):Prop:=
 (env.kindOf x=some .local∧m x=some u)∨((env.kindOf x=some .cell∨env.kindOf x=some .free)∧∃ c,env.cells.lookup x=some c∧h.IsCell c (some u))
structure Cx.Ok (X:Cx):Prop where
 mod:Mod X.K X.mg X.base
 kind:X.env.scope.kind=.function
 glob:X.env.globals=mainGlobals
 blt:X.env.builtins=builtinsNs
 above:X.s₀.heap.objs.size≤X.env.locals
 inj:∀ x y c,X.env.cells.lookup x=some c→X.env.cells.lookup y=some c→x=y
 has:∀ x,(X.env.kindOf x=some .cell∨X.env.kindOf x=some .free)→∃ c,X.env.cells.lookup x=some c
 cab:∀ x c,X.fn x=true→X.env.cells.lookup x=some c→X.s₀.heap.objs.size≤c
 hd:X.calm=true→X.A.handled=none
 frames:X.A.frames=some X.stack
 stk:X.stack=X.outer∨(X.stack=X.env :: X.outer∧X.env.frame=some X.env.locals)
 exf:∀ b∈X.ex,b≠X.env.locals∧∀ x c,X.env.cells.lookup x=some c→c≠b
 bs:∀ b o,X.base.get? b=some o→X.s₀.heap.get? b=some o∧X.H₀ b=none
 bsz:X.base.objs.size≤X.s₀.heap.objs.size
 noex:∀ b o,X.base.get? b=some o→b∉X.ex
 exfs:∀ b∈X.ex,b∉X.fs
 funs:X.s₀.heap.FunFrames X.base X.outer
 frf:∀ b∈X.fs,X.H₀ b=none
structure Inv (X:Cx) (pins:List (Addr×Obj)) (σ:List (Option V)) (H:Hp) (s:Shared):Prop where
 ok:X.Ok
 os:s.os=X.s₀.os
 bare:AllBare s.gens
 base:Un X.fs X.ex X.H₀ H X.s₀.heap s.heap
 loc:∃ m,s.heap.Ns X.env.locals m∧∀ (i:Nat) (x:Str) (v:V),X.N[i]? =some x→σ[i]? =some (some v)→Vis X.env.scope x→∃ u,RelV v u∧Look X.env s.heap m x u
 cell:∀ x c,X.env.cells.lookup x=some c→∃ v,s.heap.IsCell c v
 free:H X.env.locals=none
 freeC:∀ x c,X.env.cells.lookup x=some c→H c=none
 pin:∀ p∈X.pn ++ pins,s.heap.get? p.1=some p.2∧H p.1=none∧p.1≠X.env.locals∧p.1∉X.fs∧∀ v,p.2.data≠.cell v
 hok:HOk X.prog X.w H s.heap
 len:σ.length=X.N.length
section
variable {X:Cx}{pins:List (Addr×Obj)}{σ:List (Option V)}{H H':Hp}{s:Shared}{h':Heap}
theorem Cx.Ok.nofr (ok:X.Ok) {b:Addr}{o:Obj} (e:X.base.get? b=some o):b∉X.fs:=fun hb=>by
 have:=(ok.funs.mem hb).1;rw [e] at this;cases this
theorem Inv.bs (I:Inv X pins σ H s):∀ b o,X.base.get? b=some o→s.heap.get? b=some o∧H b=none:=fun b o e=>
 ⟨I.base.keep b o (I.ok.bs b o e).1 (I.ok.bs b o e).2 (I.ok.nofr e) (I.ok.noex b o e),I.base.free b o (I.ok.bs b o e).1 (I.ok.bs b o e).2 (I.ok.noex b o e)⟩
theorem Inv.bk (I:Inv X pins σ H s):∀ b o,X.base.get? b=some o→s.heap.get? b=some o:=fun b o e=>(I.bs b o e).1
theorem Inv.mod (I:Inv X pins σ H s):Mod X.K X.mg X.base:=I.ok.mod
theorem Inv.kIn (I:Inv X pins σ H s):X.K.In s.heap:=I.ok.mod.kin.keeps I.bk
theorem Inv.lt (I:Inv X pins σ H s):X.env.locals < s.heap.objs.size:=let ⟨_,hn,_⟩:=I.loc;hn.lt
theorem Inv.sz (I:Inv X pins σ H s):X.s₀.heap.objs.size≤s.heap.objs.size:=Nat.le_trans I.ok.above (Nat.le_of_lt I.lt)
theorem Inv.nofs (I:Inv X pins σ H s) {a:Addr} (h:s.heap.objs.size≤a):a∉X.fs:=fun hb=>by
 obtain ⟨_,o,ho,_⟩:=I.ok.funs.mem hb;exact absurd (Nat.lt_of_lt_of_le (Heap.lt_size ho) (Nat.le_trans I.sz h)) (Nat.lt_irrefl _)
theorem Inv.cne (I:Inv X pins σ H s):∀ x c,X.env.cells.lookup x=some c→c≠X.env.locals:=fun x c e z=>by
 obtain ⟨v,o,ho,hd⟩:=I.cell x c e;obtain ⟨m,⟨o',es,ep,ho',hd',_⟩,_⟩:=I.loc;rw [z,ho'] at ho;cases ho;rw [hd'] at hd;cases hd
theorem Inv.funs (I:Inv X pins σ H s):s.heap.FunFrames X.base X.outer:=by
 have all:∀ (l:List Env),(∀ b∈frs l,b∈X.fs)→X.s₀.heap.FunFrames X.base l→s.heap.FunFrames X.base l:=by
  intro l
  induction l with
  | nil=>intro _ _;trivial
  | cons env r ih=>
   intro hs hl;obtain ⟨hk,⟨L,o,hf,hn,ho,hd⟩,hr⟩:=hl;have hL:L∈X.fs:=hs L (by unfold frs;rw [List.filterMap_cons,hf];exact List.mem_cons_self);obtain ⟨sl,e⟩:=I.base.slot L o ho (I.ok.frf L hL) hL fun z=>I.ok.exfs L z hL;exact ⟨hk,⟨L,_,hf,hn,e,hd⟩,ih (fun b hb=>hs b (by unfold frs;rw [List.filterMap_cons,hf];exact List.mem_cons_of_mem _ hb)) hr⟩
 exact all X.outer (fun _ hb=>hb) I.ok.funs
theorem Inv.stack (I:Inv X pins σ H s):s.heap.FunFrames X.base X.stack:=by
 rcases I.ok.stk with e | ⟨e,hf⟩
 ·rw [e];exact I.funs
 ·rw [e];obtain ⟨m,hn,_⟩:=I.loc;refine .cons (by rw [I.ok.kind];decide) hf hn ?_ I.funs;exact Heap.get?_none_of_le (Nat.le_trans I.ok.bsz I.ok.above)
theorem Inv.stkSub (I:Inv X pins σ H s):∀ b∈frs X.stack,b∈X.env.locals :: X.fs:=fun b hb=>by
 rcases I.ok.stk with e | ⟨e,hf⟩
 ·rw [e] at hb;exact List.mem_cons_of_mem _ hb
 ·rw [e] at hb;unfold frs at hb;rw [List.filterMap_cons,hf] at hb;exact hb
theorem Inv.stkFree (I:Inv X pins σ H s):∀ b∈frs X.stack,H b=none:=fun b hb=>by
 rcases List.mem_cons.mp (I.stkSub b hb) with e | hb
 ·rw [e];exact I.free
 ·obtain ⟨_,o,ho,_⟩:=I.ok.funs.mem hb;exact I.base.free b o ho (I.ok.frf b hb) fun z=>I.ok.exfs b z hb
theorem Inv.step {g':Array GenState}{t':Nat}{d':Drawn}{ch:List Addr} (I:Inv X pins σ H s)
  (hch:∀ b∈ch,(b∈X.ex∨X.s₀.heap.objs.size≤b)∧b≠X.env.locals∧(∀ x c,X.env.cells.lookup x=some c→c≠b)∧∀ p∈X.pn ++ pins,p.1≠b)
  (keep:∀ b o,b≠X.env.locals→b∉X.fs→b∉ch→s.heap.get? b=some o→H b=none→h'.get? b=some o)
  (slot:∀ b o,b≠X.env.locals→b∈X.fs→b∉ch→s.heap.get? b=some o→H b=none→∃ sl,h'.get? b=some { o with slots:=sl }) (free:∀ b o,b∉ch→s.heap.get? b=some o→H b=none→H' b=none)
  (there:∀ b o,b∉ch→s.heap.get? b=some o→∃ o',h'.get? b=some o')
  (tups:∀ b xs,H b=some (.tup xs)→H' b=some (.tup xs)) (frzs:∀ b o u,H b=some (.frz o u)→H' b=some (.frz o u)) (tbls:∀ b ps,H b=some (.tbl ps)→∃ more,H' b=some (.tbl (ps ++ more)))
  (ns:∀ m,s.heap.Ns X.env.locals m→h'.Ns X.env.locals m) (hok:HOk X.prog X.w H' h') (hg:AllBare g'):
  Inv X pins σ H' { s with heap:=h',gens:=g',drawn:=d',toks:=t' }:=by
 have neL:∀ b o,X.s₀.heap.get? b=some o→b≠X.env.locals:=fun b o e=>Nat.ne_of_lt (Nat.lt_of_lt_of_le (Heap.lt_size e) I.ok.above);have neC:∀ b o,X.s₀.heap.get? b=some o→b∉X.ex→b∉ch:=fun b o e hx hb=>by
  rcases (hch b hb).1 with z | z
  ·exact hx z
  ·exact absurd (Nat.lt_of_lt_of_le (Heap.lt_size e) z) (Nat.lt_irrefl _)
 have cellK:∀ x c,X.env.cells.lookup x=some c→∀ v,s.heap.IsCell c v→h'.IsCell c v:=fun x c e v ⟨o,ho,hd⟩=>by
  have nch:c∉ch:=fun z=>(hch c z).2.2.1 x c e rfl
  by_cases hc:c∈X.fs
  ·obtain ⟨sl,q⟩:=slot c o (I.cne x c e) hc nch ho (I.freeC x c e);exact ⟨_,q,hd⟩
  ·exact ⟨o,keep c o (I.cne x c e) hc nch ho (I.freeC x c e),hd⟩
 refine ⟨I.ok,I.os,hg,⟨fun b o e n hb hx=>?_,fun b o e n hb hx=>?_,fun b o e n hx=>?_,fun b o e hx=>?_,fun b xs e=>tups b xs (I.base.tups b xs e),fun b o xs e=>frzs b o xs (I.base.frzs b o xs e),fun b ps e=>?_⟩,?_,fun x c e=>?_,?_,fun x c e=>?_,fun p hp=>?_,hok,I.len⟩
 ·exact keep b o (neL b o e) hb (neC b o e hx) (I.base.keep b o e n hb hx) (I.base.free b o e n hx)
 ·obtain ⟨sl,e1⟩:=I.base.slot b o e n hb hx;obtain ⟨sl',e2⟩:=slot b _ (neL b o e) hb (neC b o e hx) e1 (I.base.free b o e n hx);exact ⟨sl',e2⟩
 ·obtain ⟨o',e1⟩:=I.base.there b o e hx;exact free b o' (neC b o e hx) e1 (I.base.free b o e n hx)
 ·obtain ⟨o',e1⟩:=I.base.there b o e hx;exact there b o' (neC b o e hx) e1
 ·obtain ⟨m1,e1⟩:=I.base.tbls b ps e;obtain ⟨m2,e2⟩:=tbls b _ e1;exact ⟨m1 ++ m2,by rw [e2,Array.append_assoc]⟩
 ·obtain ⟨m,hn,hl⟩:=I.loc;refine ⟨m,ns m hn,fun i x v e1 e2 e3=>?_⟩;obtain ⟨u,r,l⟩:=hl i x v e1 e2 e3;refine ⟨u,r,?_⟩;rcases l with l | ⟨k,c,e,z⟩
  ·exact .inl l
  ·exact .inr ⟨k,c,e,cellK x c e _ z⟩
 ·obtain ⟨v,z⟩:=I.cell x c e;exact ⟨v,cellK x c e v z⟩
 ·obtain ⟨m,⟨o,_,_,ho,_⟩,_⟩:=I.loc;exact free _ o (fun z=>(hch _ z).2.1 rfl) ho I.free
 ·obtain ⟨v,o,ho,hd⟩:=I.cell x c e;exact free c o (fun z=>(hch c z).2.2.1 x c e rfl) ho (I.freeC x c e)
 ·obtain ⟨e,n,ne,nf,d⟩:=I.pin p hp;have nch:p.1∉ch:=fun z=>(hch p.1 z).2.2.2 p hp rfl;exact ⟨keep p.1 p.2 ne nf nch e n,free p.1 p.2 nch e n,ne,nf,d⟩
theorem Inv.un {t':Nat} (I:Inv X pins σ H s) (u:Un X.fs [] H H' s.heap h') (hok:HOk X.prog X.w H' h'):Inv X pins σ H' { s with heap:=h',toks:=t' }:=by
 obtain ⟨m,⟨o,es,ep,ho,r⟩,_⟩:=id I.loc;obtain ⟨sl,hL⟩:=u.any ho I.free (by simp);exact I.step (g':=s.gens) (d':=s.drawn) (ch:=[]) (fun _ z=>nomatch z) (fun b o _ hb _ e n=>u.keep b o e n hb (by simp)) (fun b o _ hb _ e n=>u.slot b o e n hb (by simp)) (fun b o _ e n=>u.free b o e n (by simp)) (fun b o _ e=>u.there b o e (by simp)) u.tups u.frzs u.tbls (fun m' hm=>by
  obtain ⟨o',es',ep',ho',r'⟩:=hm;rw [ho] at ho';cases ho';exact ⟨_,es',ep',hL,r'⟩) hok I.bare
theorem Inv.call {g':Array GenState}{t':Nat}{d':Drawn}{ch:List Addr} (I:Inv X pins σ H s) (u:Un (frs X.stack) ch H H' s.heap h') (hok:HOk X.prog X.w H' h') (hg:AllBare g')
  (hch:∀ b∈ch,(b∈X.ex∨X.s₀.heap.objs.size≤b)∧b≠X.env.locals∧(∀ x c,X.env.cells.lookup x=some c→c≠b)∧∀ p∈X.pn ++ pins,p.1≠b):
  Inv X pins σ H' { s with heap:=h',gens:=g',drawn:=d',toks:=t' }:=by
 obtain ⟨m,⟨o,es,ep,ho,r⟩,_⟩:=id I.loc;obtain ⟨sl,hL⟩:=u.any ho I.free fun z=>(hch _ z).2.1 rfl;exact I.step (ch:=ch) hch (fun b o hL hb hc e n=>u.keep b o e n (fun z=>(List.mem_cons.mp (I.stkSub b z)).elim hL hb) hc) (fun b o _ _ hc e n=>u.any e n hc) (fun b o hc e n=>u.free b o e n hc) (fun b o hc e=>u.there b o e hc) u.tups u.frzs u.tbls (fun m' hm=>by
  obtain ⟨o',es',ep',ho',r'⟩:=hm;rw [ho] at ho';cases ho';exact ⟨_,es',ep',hL,r'⟩) hok hg
theorem Inv.turned {t':Nat}{it:Addr} (I:Inv X pins σ H s) (k:∀ b o,b≠it→s.heap.get? b=some o→h'.get? b=some o) (hn:H it=none) (hL:it≠X.env.locals)
  (h1:it∈X.ex∨X.s₀.heap.objs.size≤it) (h2:∀ x c,X.env.cells.lookup x=some c→c≠it) (h3:∀ p∈X.pn ++ pins,p.1≠it):Inv X pins σ H { s with heap:=h',toks:=t' }:=by
 have nit:∀ b u,H b=some u→b≠it:=fun b u e z=>by rw [z,hn] at e;cases e
 refine I.step (g':=s.gens) (d':=s.drawn) (ch:=[it]) (fun b hb=>?_) (fun b o _ _ hc e _=>k b o (fun z=>hc (by simp [z])) e) (fun b o _ _ hc e _=>⟨o.slots,k b o (fun z=>hc (by simp [z])) e⟩) (fun _ _ _ _ n=>n)
  (fun b o hc e=>⟨o,k b o (fun z=>hc (by simp [z])) e⟩) (fun _ _ e=>e) (fun _ _ _ e=>e) (fun b ps e=>⟨#[],by rw [e];simp⟩) (fun m hm=>?_) (fun b u e=>?_) I.bare
 ·have e:b=it:=by simpa using hb
  subst e;exact ⟨h1,hL,h2,h3⟩
 ·obtain ⟨o,es,ep,ho,r⟩:=hm;exact ⟨o,es,ep,k _ o (Ne.symm hL) ho,r⟩
 ·refine (I.hok b u e).stay (fun c v hc q=>k c v ?_ q) (fun _ q=>q) fun _ _ q=>q;rcases hc with z | z
  ·rw [z];exact nit b u e
  ·exact nit c _ z
theorem Inv.tok (I:Inv X pins σ H s) (t:Nat):Inv X pins σ H { s with toks:=t }:=I.un (h':=s.heap) (t':=t) Un.refl I.hok
theorem Inv.kept {t':Nat} (I:Inv X pins σ H s) (k:∀ b u,s.heap.get? b=some u→h'.get? b=some u):Inv X pins σ H { s with heap:=h',toks:=t' }:=I.un (Un.kept k) (I.hok.kept k)
theorem Inv.laid {a:Addr}{o:HO}{t':Nat} (I:Inv X pins σ H s) (k:∀ b u,s.heap.get? b=some u→h'.get? b=some u) (hp:s.heap.objs.size≤a) (new:Zgb X.prog X.w (upd H a o) h' a o):
  Inv X pins σ (upd H a o) { s with heap:=h',toks:=t' }:=I.un (Un.laid k hp (I.hok.fresh hp)) (I.hok.laid k hp new)
theorem Inv.write {x e:Addr}{o:HO}{t':Nat} (I:Inv X pins σ H s) (mu:Mut (H x)) (he:e=x∨H e=some (.own x)) (k:∀ b u,b≠e→s.heap.get? b=some u→h'.get? b=some u) (heo:∃ u,h'.get? e=some u)
  (new:Zgb X.prog X.w (upd H x o) h' x o):Inv X pins σ (upd H x o) { s with heap:=h',toks:=t' }:=I.un (Un.write mu he k heo) (I.hok.write mu he k heo new)
theorem Inv.pins_of {pins':List (Addr×Obj)} (I:Inv X pins σ H s) (h:∀ p∈pins',s.heap.get? p.1=some p.2∧H p.1=none∧p.1≠X.env.locals∧p.1∉X.fs∧∀ v,p.2.data≠.cell v):Inv X pins' σ H s:=
 ⟨I.ok,I.os,I.bare,I.base,I.loc,I.cell,I.free,I.freeC,fun p hp=>(List.mem_append.mp hp).elim (fun z=>I.pin p (List.mem_append_left _ z)) (h p),I.hok,I.len⟩
theorem ZG0 {N:List Str} (hN:N.Nodup) {i j:Nat}{x:Str} (a:N[i]? =some x) (b:N[j]? =some x):i=j:=by
 obtain ⟨h1,e1⟩:=List.getElem?_eq_some_iff.mp a;obtain ⟨h2,e2⟩:=List.getElem?_eq_some_iff.mp b;exact (List.getElem_inj hN).mp (e1.trans e2.symm)
theorem ZJb {M:Model}{A:Around}{E:Value→Shared→Prop}{i:Nat}{x:Str}{v:V}{u:Value}{Q:Unit→Shared→Prop} (I:Inv X pins σ H s) (hN:X.N.Nodup) (hi:X.N[i]? =some x) (hx:Loc X.env.scope x) (r:RelV v u)
  (h:∀ s',Inv X pins (σ.set i (some v)) H s'→(∃ a,Heap.SameBut a s.heap s'.heap∧(a=X.env.locals∨X.env.cells.lookup x=some a))→Q () s') (hf:X.fn x=true∨X.env.scope.names.lookup x=some .local:=by first | exact .inl rfl | exact .inr rfl | assumption):wpAny M A (storeName X.env x u) Q E s:=by
 obtain ⟨m,hn,hl⟩:=id I.loc;have hcls:(X.env.scope.kind == .class || (X.env.scope.kind == .module && X.env.locals != X.env.globals))=false:=by rw [I.ok.kind];rfl
 have hiσ:i < σ.length:=by rw [I.len];exact (List.getElem?_eq_some_iff.mp hi).1
 have cne:=I.cne;have tracked:∀ {a:Addr}{h':Heap},(∃ o,s.heap.get? a=some o∧H a=none)→Heap.SameBut a s.heap h'→HOk X.prog X.w H h':=fun {a h'} ha hs b ob e=>by
  obtain ⟨_,_,hfree⟩:=ha;refine (I.hok b ob e).stay (fun c w' hc q=>(hs.2 c ?_).trans q) (fun _ q=>q) fun _ _ q=>q;rintro rfl;rcases hc with rfl | hc
  ·rw [hfree] at e;cases e
  ·rw [hfree] at hc;cases hc
 rcases hx with hk | hk
 ·refine wpAny_storeName_local hk hn (fun h' hn' hs=>?_) hcls;obtain ⟨oL,_,_,hoL,_⟩:=id hn;refine h _ ⟨I.ok,I.os,I.bare,⟨fun b o e n hb hx=>?_,fun b o e n hb hx=>?_,I.base.free,fun b o e hx=>?_,I.base.tups,I.base.frzs,I.base.tbls⟩,⟨_,hn',fun j y v' e1 e2 e3=>?_⟩,fun y c e=>?_,I.free,I.freeC,fun p hp=>?_,tracked ⟨oL,hoL,I.free⟩ hs,by simpa using I.len⟩ ⟨_,hs,.inl rfl⟩
  ·exact (hs.2 b (Nat.ne_of_lt (Nat.lt_of_lt_of_le (Heap.lt_size e) I.ok.above))).trans (I.base.keep b o e n hb hx)
  ·obtain ⟨sl,e1⟩:=I.base.slot b o e n hb hx;exact ⟨sl,(hs.2 b (Nat.ne_of_lt (Nat.lt_of_lt_of_le (Heap.lt_size e) I.ok.above))).trans e1⟩
  ·obtain ⟨o',e1⟩:=I.base.there b o e hx;exact ⟨o',(hs.2 b (Nat.ne_of_lt (Nat.lt_of_lt_of_le (Heap.lt_size e) I.ok.above))).trans e1⟩
  ·by_cases hj:j=i
   ·subst hj;rw [hi] at e1;cases e1;rw [List.getElem?_set_self hiσ] at e2;cases e2;exact ⟨u,r,.inl ⟨hk,by simp⟩⟩
   ·rw [List.getElem?_set_ne (Ne.symm hj)] at e2;obtain ⟨u',r',q⟩:=hl j y v' e1 e2 e3;refine ⟨u',r',?_⟩;rcases q with ⟨k,e⟩ | ⟨k,c,e,z⟩
    ·refine .inl ⟨k,?_⟩;have:y≠x:=fun e=>hj (ZG0 hN e1 (e ▸ hi));simp [this,e]
    ·exact .inr ⟨k,c,e,z.sameBut hs (cne y c e)⟩
  ·obtain ⟨w',z⟩:=I.cell y c e;exact ⟨w',z.sameBut hs (cne y c e)⟩
  ·obtain ⟨e,n,ne,nf,d⟩:=I.pin p hp;exact ⟨(hs.2 p.1 ne).trans e,n,ne,nf,d⟩
 ·have hfn:X.fn x=true:=by
   rcases hf with z | z
   ·exact z
   ·rw [z] at hk;cases hk
  obtain ⟨c,hc⟩:=I.ok.has x (.inl hk);obtain ⟨w',z⟩:=I.cell x c hc;refine wpAny_storeName_cell I.ok.kind hk hc z (fun h' hc' hs=>?_);obtain ⟨oc,hoc,hocd⟩:=id z;refine h { s with heap:=h' } ⟨I.ok,I.os,I.bare,⟨fun b o e n hb hx=>?_,fun b o e n hb hx=>?_,I.base.free,fun b o e hx=>?_,I.base.tups,I.base.frzs,I.base.tbls⟩,⟨m,hn.sameBut hs (Ne.symm (cne x c hc)),fun j y v' e1 e2 e3=>?_⟩,fun y c' e=>?_,I.free,I.freeC,fun p hp=>?_,tracked ⟨oc,hoc,I.freeC x c hc⟩ hs,by simpa using I.len⟩ ⟨c,hs,.inr hc⟩
  ·exact (hs.2 b (Nat.ne_of_lt (Nat.lt_of_lt_of_le (Heap.lt_size e) (I.ok.cab x c hfn hc)))).trans (I.base.keep b o e n hb hx)
  ·obtain ⟨sl,e1⟩:=I.base.slot b o e n hb hx;exact ⟨sl,(hs.2 b (Nat.ne_of_lt (Nat.lt_of_lt_of_le (Heap.lt_size e) (I.ok.cab x c hfn hc)))).trans e1⟩
  ·obtain ⟨o',e1⟩:=I.base.there b o e hx;exact ⟨o',(hs.2 b (Nat.ne_of_lt (Nat.lt_of_lt_of_le (Heap.lt_size e) (I.ok.cab x c hfn hc)))).trans e1⟩
  ·by_cases hj:j=i
   ·subst hj;rw [hi] at e1;cases e1;rw [List.getElem?_set_self hiσ] at e2;cases e2;exact ⟨u,r,.inr ⟨.inl hk,c,hc,hc'⟩⟩
   ·rw [List.getElem?_set_ne (Ne.symm hj)] at e2;obtain ⟨u',r',q⟩:=hl j y v' e1 e2 e3;refine ⟨u',r',?_⟩;rcases q with q | ⟨k,c',e,z'⟩
    ·exact .inl q
    ·refine .inr ⟨k,c',e,z'.sameBut hs ?_⟩;rintro rfl;exact hj (ZG0 hN e1 (I.ok.inj _ _ _ e hc ▸ hi))
  ·by_cases hcc:c'=c
   ·subst hcc;exact ⟨_,hc'⟩
   ·obtain ⟨w2,z2⟩:=I.cell y c' e;exact ⟨w2,z2.sameBut hs hcc⟩
  ·obtain ⟨e,n,ne,nf,d⟩:=I.pin p hp;refine ⟨(hs.2 p.1 ?_).trans e,n,ne,nf,d⟩;intro q;rw [q,hoc] at e;have q':oc=p.2:=Option.some.inj e;exact d w' (by rw [← q'];exact hocd)
theorem Zx0 {M:Model}{A:Around}{E:Value→Shared→Prop}{i:Nat}{x:Str}{v:V}{u:Value}{Q:Unit→Shared→Prop} (I:Inv X pins σ H s) (hN:X.N.Nodup) (hi:X.N[i]? =some x) (hx:Loc X.env.scope x) (r:RelV v u)
  (h:∀ s',Inv X pins (σ.set i (some v)) H s'→Q () s') (hf:X.fn x=true∨X.env.scope.names.lookup x=some .local:=by first | exact .inl rfl | exact .inr rfl | assumption):wpAny M A (storeName X.env x u) Q E s:=
 ZJb I hN hi hx r (fun s' I' _=>h s' I') hf
theorem Inv.call' {s':Shared}{ch:List Addr} (I:Inv X pins σ H s) (ho:s'.os=s.os) (u:Un (frs X.stack) ch H H' s.heap s'.heap) (hok:HOk X.prog X.w H' s'.heap) (hg:AllBare s'.gens)
  (hch:∀ b∈ch,(b∈X.ex∨X.s₀.heap.objs.size≤b)∧b≠X.env.locals∧(∀ x c,X.env.cells.lookup x=some c→c≠b)∧∀ p∈X.pn ++ pins,p.1≠b):Inv X pins σ H' s':=by
 obtain ⟨h',g',d',t',o'⟩:=s';have e:o'=s.os:=ho;subst e;exact I.call (g':=g') (t':=t') (d':=d') u hok hg hch
end
abbrev XK:=Value→Option Addr→Hp→Prop
abbrev St:=List (Option V)
abbrev VK:=V→Hp→Prop
abbrev TE:=St→Hp→VK→Prop
abbrev TT:=St→Hp→(Bool→Hp→Prop)→Prop
abbrev TA:=St→Hp→(List V→Hp→Prop)→Prop
structure Ends where
 nx:St→Hp→Prop
 rt:VK
 bk:St→Hp→Prop:=fun _ _=>False
 ct:St→Hp→Prop:=fun _ _=>False
abbrev TS:=Ends→St→Hp→Prop
def EP (X:Cx) (pins:List (Addr×Obj)) (σ:St) (Q:VK) (u:Value) (s':Shared):Prop:=∃ v H',Inv X pins σ H' s'∧RelV v u∧Q v H'
def TP (X:Cx) (pins:List (Addr×Obj)) (σ:St) (Q:Bool→Hp→Prop) (b:Bool) (s':Shared):Prop:=∃ H',Inv X pins σ H' s'∧Q b H'
def AP (X:Cx) (pins:List (Addr×Obj)) (σ:St) (Q:List V→Hp→Prop) (us:List Value) (s':Shared):Prop:=∃ vs H',Inv X pins σ H' s'∧Vals vs us∧Q vs H'
def SP (X:Cx) (pins:List (Addr×Obj)) (D:Ends) (f:Flow) (s':Shared):Prop:=
 match f with
 | .next=>∃ σ' H',Inv X pins σ' H' s'∧D.nx σ' H'
 | .brk=>∃ σ' H',Inv X pins σ' H' s'∧D.bk σ' H'
 | .cont=>∃ σ' H',Inv X pins σ' H' s'∧D.ct σ' H'
 | .ret u=>∃ v σ' H',Inv X pins σ' H' s'∧RelV v u∧D.rt v H'
def PE (X:Cx) (e:Expr) (t:TE):Prop:=
 ∀ (pins:List (Addr×Obj)) (s:Shared) (σ:St) (H:Hp) (Q:VK),Inv X pins σ H s→t σ H Q→wpAny (model X.prog X.w) X.A (eval e X.env) (EP X pins σ Q) X.xe s
def PT (X:Cx) (e:Expr) (t:TT):Prop:=
 ∀ (pins:List (Addr×Obj)) (s:Shared) (σ:St) (H:Hp) (Q:Bool→Hp→Prop),Inv X pins σ H s→t σ H Q→wpAny (model X.prog X.w) X.A (isTrue e X.env (eval e X.env)) (TP X pins σ Q) X.xe s
def PW (X:Cx) (e:Expr) (t:TT):Prop:=
 ∀ (whole:Sem Value) (pins:List (Addr×Obj)) (s:Shared) (σ:St) (H:Hp) (Q:Bool→Hp→Prop),Inv X pins σ H s→t σ H Q→wpAny (model X.prog X.w) X.A (isTrue e X.env whole) (TP X pins σ Q) X.xe s
theorem PW.pt {X:Cx}{e:Expr}{t:TT} (h:PW X e t):PT X e t:=h _
def PA (X:Cx) (es:List Expr) (t:TA):Prop:=
 ∀ (pos:Pos) (pins:List (Addr×Obj)) (s:Shared) (σ:St) (H:Hp) (Q:List V→Hp→Prop),Inv X pins σ H s→t σ H Q→wpAny (model X.prog X.w) X.A (spliced (backTo pos (starEach es X.env))) (AP X pins σ Q) X.xe s
def PS (X:Cx) (st:Stmt) (t:TS):Prop:=
 ∀ (pins:List (Addr×Obj)) (s:Shared) (σ:St) (H:Hp) (D:Ends),Inv X pins σ H s→t D σ H→wpAny (model X.prog X.w) X.A (exec st X.env) (SP X pins D) X.xe s
def PSs (X:Cx) (st:List Stmt) (t:TS):Prop:=
 ∀ (pins:List (Addr×Obj)) (s:Shared) (σ:St) (H:Hp) (D:Ends),Inv X pins σ H s→t D σ H→wpAny (model X.prog X.w) X.A (execs st X.env) (SP X pins D) X.xe s
theorem thn {α:Type}{t:Sem α}{Q Q':α→Shared→Prop}{M:Model}{A:Around}{E:Value→Shared→Prop}{s:Shared} (h:wpAny M A t Q E s) (hQ:∀ a s,Q a s→Q' a s):wpAny M A t Q' E s:=wpAny_mono h hQ fun _ _ x=>x
end L2
namespace L2
open PySem PySem.Spec PyProof.Rows
section
variable {X:Cx}
def tVar (i:Nat):TE:=fun σ H Q=>∃ v,σ[i]? =some (some v)∧Q v H
def tC (v:V):TE:=fun _ H Q=>Q v H
theorem ZNf {i:Nat}{x:Str}{pos:Pos} (hN:X.N[i]? =some x) (hv:Vis X.env.scope x) (hd:(x == ("__debug__":Str))=false:=by decide) (hcd:(x == ("__classdict__":Str))=false:=by decide):PE X (.Name x pos) (tVar i):=by
 intro pins s σ H Q I h;obtain ⟨v,e,h⟩:=h;obtain ⟨m,hn,hl⟩:=I.loc;obtain ⟨u,r,l⟩:=hl i x v hN e hv;have fin:EP X pins σ Q u s:=⟨v,H,I,r,h⟩;rcases l with ⟨hk,hm⟩ | ⟨hk,c,hc,hcell⟩
 ·exact wpAny_Name (wpAny_loadName_local I.ok.kind hk hn hm fin) hd
 ·rcases hk with hk | hk
  ·exact wpAny_Name (wpAny_loadName_cell I.ok.kind hk hc hcell fin) hd
  ·exact wpAny_Name (wpAny_loadName_free I.ok.kind hk hc hcell fin hcd) hd
theorem Za4 {i j pos}:PE X (.Constant (.int i) j pos) (tC (.int i)):=fun _ _ _ H _ I h=>wpAny_Constant_int ⟨.int i,H,I.tok _,⟨_,rfl⟩,h⟩
theorem Zib {b j pos}:PE X (.Constant (.bool b) j pos) (tC (.bl b)):=fun _ _ _ H _ I h=>Constant_bool ⟨.bl b,H,I,rfl,h⟩
theorem Ze6 {j pos}:PE X (.Constant .none j pos) (tC .non):=fun _ _ _ H _ I h=>Constant_none ⟨.non,H,I,rfl,h⟩
theorem Zac {x j pos}:PE X (.Constant (.str x) j pos) (tC (.str x)):=fun _ _ _ H _ I h=>Calls.Constant_str ⟨.str x,H,I.tok _,⟨_,rfl⟩,h⟩
def Gl (X:Cx) (x:Str):Prop:=X.env.kindOf x=some .globalImplicit
theorem Zeo {E:Value→Shared→Prop}{pins:List (Addr×Obj)}{s:Shared}{σ:St}{H:Hp}{x:Str}{u:Value}{pos:Pos}{Q:Value→Shared→Prop} (I:Inv X pins σ H s) (hg:Gl X x) (hm:X.mg x=some u) (h:Q u s)
  (hd:(x == ("__debug__":Str))=false:=by decide):wpAny (model X.prog X.w) X.A (eval (.Name x pos) X.env) Q E s:=
 Calls.Name_function_global I.ok.kind hg (Calls.loadGlobal_global (by rw [I.ok.glob];exact I.mod.glob.keeps I.bk) hm h) hd
theorem ZG2 {E:Value→Shared→Prop}{pins:List (Addr×Obj)}{s:Shared}{σ:St}{H:Hp}{x:Str}{u:Value}{pos:Pos}{Q:Value→Shared→Prop} (I:Inv X pins σ H s) (hg:Gl X x) (hm:X.mg x=none) (hv:bootBuiltins x=some u) (h:Q u s)
  (hn:x≠"__name__":=by decide) (hd:(x == ("__debug__":Str))=false:=by decide):wpAny (model X.prog X.w) X.A (eval (.Name x pos) X.env) Q E s:=by
 obtain ⟨mb,h1,h2⟩:=I.mod.blt;exact Calls.Name_function_global I.ok.kind hg (Calls.loadGlobal_builtin (by rw [I.ok.glob];exact I.mod.glob.keeps I.bk) hm (by rw [I.ok.blt];exact h1.keeps I.bk) ((h2 x hn).trans hv) h) hd
theorem ZOl {x:Str}{v:V}{u:Value}{pos:Pos} (hg:Gl X x) (hm:X.mg x=some u) (r:RelV v u) (hd:(x == ("__debug__":Str))=false:=by decide):PE X (.Name x pos) (tC v):=
 fun _ _ _ H _ I h=>Zeo I hg hm ⟨v,H,I,r,h⟩ hd
theorem Zen {x:Str}{v:V}{u:Value}{pos:Pos} (hg:Gl X x) (hm:X.mg x=none) (hv:bootBuiltins x=some u) (r:RelV v u) (hn:x≠"__name__":=by decide) (hd:(x == ("__debug__":Str))=false:=by decide):PE X (.Name x pos) (tC v):=
 fun _ _ _ H _ I h=>ZG2 I hg hm hv ⟨v,H,I,r,h⟩ hn hd
variable {a b:Expr}{ta tb:TE}{pos:Pos}
def PC (X:Cx) (op:CmpOp) (a b:Expr) (t:TE):Prop:=
 ∀ (pins:List (Addr×Obj)) (s:Shared) (σ:St) (H:Hp) (Q:VK),Inv X pins σ H s→t σ H Q→
  wpAny (model X.prog X.w) X.A (eval a X.env) (fun v s₁=>wpAny (model X.prog X.w) X.A (eval b X.env) (fun u s₂=>wpAny (model X.prog X.w) X.A (compareOp op v u) (EP X pins σ Q) X.xe s₂) X.xe s₁) X.xe s
theorem ZMa (b:Expr) {op:CmpOp} (h:op≠.In) (h2:op≠.NotIn):behindInMarks op b=false:=by
 have e1:(op == CmpOp.In)=false:=by cases op<;>first | rfl | exact absurd rfl h
 have e2:(op == CmpOp.NotIn)=false:=by cases op<;>first | rfl | exact absurd rfl h2
 cases b<;>simp [behindInMarks,e1,e2]
def tB (t:TE):TT:=fun σ H Q=>t σ H fun x H1=>∃ c,x=.bl c∧Q c H1
theorem ZNd {op:CmpOp}{t:TE} (h:PC X op a b t) (h1:behindInMarks op b=false:=by first | exact ZMa _ (by decide) (by decide) | rfl):PT X (.Compare a [op] [b] pos) (tB t):=by
 intro pins s σ H Q I hw;refine wpAny_isTrue_Compare1 (thn (h pins s σ H _ I hw) fun v s1 h1=>thn h1 fun u s2 h2=>thn h2 fun c s3 ⟨x,H1,I1,r1,q1⟩=>?_) h1;obtain ⟨d,rfl,q⟩:=q1;cases r1;exact wpAny_truthy_bool ⟨H1,I1,q⟩
theorem Zeq {e:Expr}{t:TE} (h:PE X e t) (he:∀ whole,isTrue e X.env whole=(do let v ← whole;standAt e.pos;holding [v] (truthy v)):=by intro _;rfl):PT X e (tB t):=by
 intro pins s σ H Q I hw;refine isTrue_plain (thn (h pins s σ H _ I hw) fun v s1 ⟨x,H1,I1,r1,q1⟩=>?_) (he _);obtain ⟨d,rfl,q⟩:=q1;cases r1;exact wpAny_truthy_bool ⟨H1,I1,q⟩
variable {tA tB':TT}{rest:List Expr}
def tAnd (t u:TT):TT:=fun σ H Q=>t σ H fun c H1=>if c=true then u σ H1 Q else Q false H1
def tOr (t u:TT):TT:=fun σ H Q=>t σ H fun c H1=>if c=true then Q true H1 else u σ H1 Q
def tNot (t:TT):TT:=fun σ H Q=>t σ H fun c H1=>Q (!c) H1
theorem Zkn (ha:PT X a tA):PW X (.BoolOp .And [a] pos) tA:=by
 intro wh pins s σ H Q I h;refine isTrue_and (thn (ha pins s σ H Q I h) fun c s1 e=>?_);cases c with
 | true=>exact isTrue_and_nil e
 | false=>exact e
theorem ZFp (ha:PT X a tA):PW X (.BoolOp .Or [a] pos) tA:=by
 intro wh pins s σ H Q I h;refine isTrue_or (thn (ha pins s σ H Q I h) fun c s1 e=>?_);cases c with
 | false=>exact isTrue_or_nil e
 | true=>exact e
theorem Zpm (ha:PT X a tA) (hb:PW X (.BoolOp .And (b :: rest) pos) tB'):PW X (.BoolOp .And (a :: b :: rest) pos) (tAnd tA tB'):=by
 intro wh pins s σ H Q I h;refine isTrue_and (thn (ha pins s σ H _ I h) fun c s1 ⟨H1,I1,q1⟩=>?_);cases c with
 | true=>exact hb wh pins s1 σ H1 Q I1 q1
 | false=>exact ⟨H1,I1,q1⟩
theorem ZHc (ha:PT X a tA) (hb:PW X (.BoolOp .Or (b :: rest) pos) tB'):PW X (.BoolOp .Or (a :: b :: rest) pos) (tOr tA tB'):=by
 intro wh pins s σ H Q I h;refine isTrue_or (thn (ha pins s σ H _ I h) fun c s1 ⟨H1,I1,q1⟩=>?_);cases c with
 | true=>exact ⟨H1,I1,q1⟩
 | false=>exact hb wh pins s1 σ H1 Q I1 q1
theorem Zlb (ha:PT X a tA):PT X (.UnaryOp .Not a pos) (tNot tA):=by
 intro pins s σ H Q I h;exact isTrue_not (ha pins s σ H (fun c H1=>Q (!c) H1) I h)
def ZA0 (ta tb:TE):TE:=fun σ H Q=>ta σ H fun x H1=>∃ c,x=.bl c∧if c=true then tb σ H1 Q else Q (.bl false) H1
def ZLs (ta:TE):TE:=fun σ H Q=>ta σ H fun x H1=>∃ c,x=.bl c∧Q (.bl (!c)) H1
theorem Zu3 {op}{t:TE} (h:PE X a t):PE X (.BoolOp op [a] pos) t:=fun pins s σ H Q I hw=>BoolOp_one (h pins s σ H Q I hw)
theorem Zpn (ha:PE X a ta) (hb:PE X (.BoolOp .And (b :: rest) pos) tb):PE X (.BoolOp .And (a :: b :: rest) pos) (ZA0 ta tb):=by
 intro pins s σ H Q I h;refine BoolOp_and (thn (ha pins s σ H _ I h) fun v s1 ⟨x,H1,I1,r1,q1⟩=>?_);obtain ⟨c,rfl,q1⟩:=q1;cases r1;refine wpAny_truthy_bool ?_;cases c with
 | true=>exact hb pins s1 σ H1 Q I1 q1
 | false=>exact ⟨.bl false,H1,I1,rfl,q1⟩
theorem ZJx (ha:PE X a ta):PE X (.UnaryOp .Not a pos) (ZLs ta):=by
 intro pins s σ H Q I h;refine UnaryOp_ (thn (ha pins s σ H _ I h) fun v s1 ⟨x,H1,I1,r1,q1⟩=>?_);obtain ⟨c,rfl,q1⟩:=q1;cases r1;exact not_of (wpAny_truthy_bool ⟨.bl (!c),H1,I1,rfl,q1⟩)
def tIf (t:TT) (ta tb:TE):TE:=fun σ H Q=>t σ H fun c H1=>if c=true then ta σ H1 Q else tb σ H1 Q
theorem ZFr {c:Expr} (hc:PT X c tA) (ha:PE X a ta) (hb:PE X b tb):PE X (.IfExp c a b pos) (tIf tA ta tb):=by
 intro pins s σ H Q I h;refine wpAny_IfExp (thn (hc pins s σ H _ I h) fun d s1 ⟨H1,I1,q1⟩=>?_);cases d with
 | true=>exact ha pins s1 σ H1 Q I1 q1
 | false=>exact hb pins s1 σ H1 Q I1 q1
end
end L2
namespace L2
open PySem PySem.Spec PyProof.Rows
def SqL (K:PySem.W.Frag) (H:Hp) (a:Addr) (xs:List V):Prop:=
 Rd H a (.lst xs)∨
  ∃ (o:Obj) (its:Array Value) (n:Nat),K.lookup a=some o∧o.cls=.type "list"∧o.dict=none∧o.data=.seq its n∧its.size≤sizeLine∧Vals xs its.toList
def SqT (K:PySem.W.Frag) (H:Hp) (a:Addr) (xs:List V):Prop:=
 Rd H a (.tup xs)∨
  ∃ (o:Obj) (its:Array Value) (n:Nat),K.lookup a=some o∧o.cls=.type "tuple"∧o.data=.seq its n∧its.size≤sizeLine∧Vals xs its.toList
def absV:Value→Option V
 | .none=>some .non
 | .bool b=>some (.bl b)
 | .int i _=>some (.int i)
 | .str x _=>some (.str x)
 | .bytes b _=>some (.byt b)
 | .float b _=>some (.flt b)
 | .ref a=>some (.ref a)
 | .type n=>some (.ty n)
 | _=>none
theorem RelV.abs {x:V}{u:Value} (r:RelV x u):absV u=some x:=by
 cases x with
 | non=>cases r;rfl
 | bl _=>cases r;rfl
 | int _=>obtain ⟨t,rfl⟩:=r;rfl
 | str _=>obtain ⟨t,rfl⟩:=r;rfl
 | byt _=>obtain ⟨t,rfl⟩:=r;rfl
 | flt _=>obtain ⟨t,rfl⟩:=r;rfl
 | ref _=>cases r;rfl
 | ty _=>cases r;rfl
theorem RelV.inj {x y:V}{u:Value} (r:RelV x u) (q:RelV y u):x=y:=Option.some.inj (r.abs.symm.trans q.abs)
theorem Vals.inj:∀ {xs ys:List V}{us:List Value},Vals xs us→Vals ys us→xs=ys
 | _,_,_,.nil,.nil=>rfl
 | _,_,_,.cons r t,.cons r' t'=>by rw [r.inj r',Vals.inj t t']
section
variable {X:Cx}{pins:List (Addr×Obj)}{σ:St}{H:Hp}{s:Shared}{a:Addr}{xs ys:List V}
theorem SqL.of {K:PySem.W.Frag} (h:H a=some (.lst xs)):SqL K H a xs:=.inl (.inl h)
theorem SqT.of {K:PySem.W.Frag} (h:H a=some (.tup xs)):SqT K H a xs:=.inl (.inl h)
theorem Inv.list (I:Inv X pins σ H s) (h:SqL X.K H a xs):∃ its:List Value,Vals xs its∧PlainL s.heap a its.toArray∧xs.length≤sizeLine:=by
 rcases h with h | ⟨o,its,n,hk,hc,hd,hs,hz,r⟩
 ·obtain ⟨z,its,n,r,e⟩:=h.ok I.hok;exact ⟨its,r,⟨_,n,e,rfl,rfl,rfl⟩,z⟩
 ·refine ⟨its.toList,r,⟨o,n,I.kIn a o hk,hc,hd,by simpa using hs⟩,?_⟩;have e:=r.length;simp only [Array.length_toList] at e;omega
theorem Inv.tuple (I:Inv X pins σ H s) (h:SqT X.K H a xs):∃ its:List Value,Vals xs its∧IsTup s.heap a its.toArray∧xs.length≤sizeLine:=by
 rcases h with h | ⟨o,its,n,hk,hc,hs,hz,r⟩
 ·obtain ⟨z,its,r,p⟩:=h.ok I.hok;exact ⟨its,r,p,z⟩
 ·refine ⟨its.toList,r,⟨o,I.kIn a o hk,hc,n,by simpa using hs⟩,?_⟩;have e:=r.length;simp only [Array.length_toList] at e;omega
theorem Inv.list_inj (I:Inv X pins σ H s) (h:SqL X.K H a xs) (h':SqL X.K H a ys):xs=ys:=by
 obtain ⟨its,r,⟨o,n,e,_,_,d⟩,_⟩:=I.list h;obtain ⟨its',r',⟨o',n',e',_,_,d'⟩,_⟩:=I.list h';rw [e] at e';cases e';rw [d] at d'
 injection d' with d1 _
 have:its=its':=by simpa using congrArg Array.toList d1
 subst this;exact r.inj r'
end
abbrev Cx.wish (X:Cx) (E:Value→Shared→Prop):Cx:={ X with xe:=E }
abbrev Cx.nox (X:Cx):Cx:=X.wish fun _ _=>False
theorem Cx.Ok.wish {X:Cx} (ok:X.Ok) (E:Value→Shared→Prop):(X.wish E).Ok:=
 ⟨ok.mod,ok.kind,ok.glob,ok.blt,ok.above,ok.inj,ok.has,ok.cab,ok.hd,ok.frames,ok.stk,ok.exf,ok.bs,ok.bsz,ok.noex,ok.exfs,ok.funs,ok.frf⟩
theorem Cx.Ok.unwish {X:Cx}{E:Value→Shared→Prop} (ok:(X.wish E).Ok):X.Ok:=
 ⟨ok.mod,ok.kind,ok.glob,ok.blt,ok.above,ok.inj,ok.has,ok.cab,ok.hd,ok.frames,ok.stk,ok.exf,ok.bs,ok.bsz,ok.noex,ok.exfs,ok.funs,ok.frf⟩
section
variable {X:Cx}{pins:List (Addr×Obj)}{σ:St}{H:Hp}{s:Shared}{E:Value→Shared→Prop}
theorem Inv.wish (I:Inv X pins σ H s) (E:Value→Shared→Prop):Inv (X.wish E) pins σ H s:=⟨I.ok.wish E,I.os,I.bare,I.base,I.loc,I.cell,I.free,I.freeC,I.pin,I.hok,I.len⟩
theorem Inv.unwish (I:Inv (X.wish E) pins σ H s):Inv X pins σ H s:=⟨I.ok.unwish,I.os,I.bare,I.base,I.loc,I.cell,I.free,I.freeC,I.pin,I.hok,I.len⟩
theorem SP.unwish {D:Ends}{f:Flow}{s':Shared} (h:SP (X.wish E) pins D f s'):SP X pins D f s':=by
 cases f with
 | next=>obtain ⟨σ',H',I,q⟩:=h;exact ⟨σ',H',I.unwish,q⟩
 | brk=>obtain ⟨σ',H',I,q⟩:=h;exact ⟨σ',H',I.unwish,q⟩
 | cont=>obtain ⟨σ',H',I,q⟩:=h;exact ⟨σ',H',I.unwish,q⟩
 | ret u=>obtain ⟨v,σ',H',I,r,q⟩:=h;exact ⟨v,σ',H',I.unwish,r,q⟩
theorem PSs.nox {st:List Stmt}{t:TS} (h:PSs X.nox st t):PSs X st t:=fun pins s σ H D I hw=>
 wpAny_mono (h pins s σ H D (I.wish _) hw) (fun _ _ q=>q.unwish) fun _ _ z=>False.elim z
end
section
variable {X:Cx}{st:Stmt}{rest:List Stmt}{t u:TS}{e:Expr}{te:TE}{pos:Pos}
def Zbp:TS:=fun D σ H=>D.nx σ H
def tSeq (t u:TS):TS:=fun D σ H=>t { D with nx:=u D } σ H
theorem Zak:PSs X [] Zbp:=fun _ _ σ H _ I h=>wpAny_execs_nil ⟨σ,H,I,h⟩
theorem Za1 (h1:PS X st t) (h2:PSs X rest u):PSs X (st :: rest) (tSeq t u):=by
 intro pins s σ H D I h;refine wpAny_execs_cons (thn (h1 pins s σ H { D with nx:=u D } I h) fun f s1 q=>?_);cases f with
 | next=>
  obtain ⟨σ',H',I',q⟩:=q;exact h2 pins s1 σ' H' D I' q
 | ret v=>exact q
 | brk=>exact q
 | cont=>exact q
theorem Za7 (h1:PS X st t):PSs X [st] t:=by
 intro pins s σ H D I h;refine wpAny_execs_cons (thn (h1 pins s σ H D I h) fun f s1 q=>?_);cases f with
 | next=>exact wpAny_execs_nil q
 | ret v=>exact q
 | brk=>exact q
 | cont=>exact q
theorem Inv.quiet {pins:List (Addr×Obj)}{σ:St}{H:Hp}{s:Shared} (I:Inv X pins σ H s):interactive X.env=false:=by simp [interactive,I.ok.kind]
def Zvh (te:TE):TS:=fun D σ H=>te σ H fun _ H1=>D.nx σ H1
theorem Zog (he:PE X e te) (hs:swapsWith e none pos.line X.env=pure false:=by rfl):PS X (.Expr e pos) (Zvh te):=by
 intro pins s σ H D I h;exact wpAny_Expr_any (thn (he pins s σ H _ I h) fun v s1 ⟨x,H1,I1,r1,q1⟩=>⟨σ,H1,I1,q1⟩) I.quiet hs
def tRet (te:TE):TS:=fun D σ H=>te σ H D.rt
theorem Zae (he:PE X e te):PS X (.Return (some e) pos) (tRet te):=by
 intro pins s σ H D I h;exact wpAny_Return_some (thn (he pins s σ H _ I h) fun v s1 ⟨x,H1,I1,r1,q1⟩=>⟨x,σ,H1,I1,r1,q1⟩)
def tIfS (c:TT) (t u:TS):TS:=fun D σ H=>c σ H fun b H1=>if b=true then t D σ H1 else u D σ H1
theorem Zbk {c:Expr}{a b:List Stmt}{tc:TT} (hc:PT X c tc) (ha:PSs X a t) (hb:PSs X b u):PS X (.If c a b pos) (tIfS tc t u):=by
 intro pins s σ H D I h;refine wpAny_If (thn (hc pins s σ H _ I h) fun d s1 ⟨H1,I1,q1⟩=>?_);cases d with
 | true=>exact ha pins s1 σ H1 D I1 q1
 | false=>exact hb pins s1 σ H1 D I1 q1
end
abbrev TG:=V→St→Hp→(St→Hp→Prop)→Prop
abbrev TGs:=List V→St→Hp→(St→Hp→Prop)→Prop
def PG (X:Cx) (target:Expr) (t:TG):Prop:=
 ∀ (pins:List (Addr×Obj)) (s:Shared) (σ:St) (H:Hp) (v:V) (u:Value) (Q:St→Hp→Prop),Inv X pins σ H s→RelV v u→t v σ H Q→
  wpAny (model X.prog X.w) X.A (assign target X.env u) (fun _ s'=>∃ σ' H',Inv X pins σ' H' s'∧Q σ' H') X.xe s
def PGs (X:Cx) (ts:List Expr) (t:TGs):Prop:=
 ∀ (pins:List (Addr×Obj)) (s:Shared) (σ:St) (H:Hp) (vs:List V) (us:List Value) (Q:St→Hp→Prop),Inv X pins σ H s→Vals vs us→t vs σ H Q→
  wpAny (model X.prog X.w) X.A (assignInOrder ((assignEach ts X.env).map (·.2)) us) (fun _ s'=>∃ σ' H',Inv X pins σ' H' s'∧Q σ' H') X.xe s
abbrev TSet:=V→V→V→Hp→(Hp→Prop)→Prop
def PSet (X:Cx) (t:TSet):Prop:=
 ∀ (pins:List (Addr×Obj)) (s:Shared) (σ:St) (H:Hp) (o i v:V) (ov iv u:Value) (Q:Hp→Prop),Inv X pins σ H s→RelV o ov→RelV i iv→RelV v u→t o i v H Q→
  wpAny (model X.prog X.w) X.A (setItem ov iv u) (fun _ s'=>∃ H',Inv X pins σ H' s'∧Q H') X.xe s
section
variable {X:Cx}{pos:Pos}
def Zam (i:Nat):TG:=fun v σ H Q=>Q (σ.set i (some v)) H
theorem Zff {i:Nat}{x:Str} (hN:X.N.Nodup) (hi:X.N[i]? =some x) (hx:Loc X.env.scope x) (hf:X.fn x=true∨X.env.scope.names.lookup x=some .local:=by first | exact .inl rfl | exact .inr rfl | assumption):PG X (.Name x pos) (Zam i):=by
 intro pins s σ H v u Q I r h;exact wpAny_assign_Name (Zx0 I hN hi hx r (fun s' I'=>⟨_,H,I',h⟩) hf)
def gNil:TGs:=fun vs σ H Q=>vs=[]∧Q σ H
def ZKt (t:TG) (u:TGs):TGs:=fun vs σ H Q=>∃ v r,vs=v :: r∧t v σ H fun σ' H'=>u r σ' H' Q
theorem ZJw:PGs X [] gNil:=by
 intro pins s σ H vs us Q I r h;obtain ⟨e,h⟩:=h;subst e;cases r;exact assignInOrder_nil ⟨σ,H,I,h⟩
theorem Ztn {e:Expr}{es:List Expr}{t:TG}{u:TGs} (h1:PG X e t) (h2:PGs X es u)
  (hs:(assignEach (e :: es) X.env).map (·.2)=assign e X.env :: (assignEach es X.env).map (·.2):=by rfl):PGs X (e :: es) (ZKt t u):=by
 intro pins s σ H vs us Q I r h;obtain ⟨v,vr,e1,h⟩:=h;subst e1;cases r with
 | cons r rr=>
  rw [hs];refine assignInOrder_cons (thn (h1 pins s σ H _ _ _ I r h) fun _ s1 ⟨σ1,H1,I1,q1⟩=>?_);exact h2 pins s1 σ1 H1 _ _ Q I1 rr q1
def gTup (K:PySem.W.Frag) (n:Nat) (t:TGs):TG:=fun v σ H Q=>∃ a xs,v=.ref a∧SqT K H a xs∧xs.length=n∧t xs σ H Q
theorem ZNe {es:List Expr}{k:Nat}{t:TGs}{n:Nat} (hc:X.calm=true) (h:PGs X es t)
  (hn:(assignEach es X.env).length=n:=by rfl) (hst:(assignEach es X.env).findIdx? (·.1)=none:=by rfl):PG X (.Tuple es k pos) (gTup X.K n t):=by
 intro pins s σ H v u Q I r hw;obtain ⟨a,xs,e1,hq,hl,hw⟩:=hw;subst e1;cases r;obtain ⟨its,rv,ht,hz⟩:=I.tuple hq;refine assign_Tuple_tuple (I.ok.hd hc) ht (by simp [hn,← hl,rv.length]) hst fun h' hx=>?_;have I1:Inv X pins σ H { s with heap:=h' }:=I.kept (t':=s.toks) fun b o e=>hx b o (Nat.ne_of_lt (Heap.lt_size e)) e;exact h pins _ σ H xs _ Q I1 (by simpa using rv) hw
def gSub (to ti:TE) (t:TSet):TG:=fun v σ H Q=>to σ H fun o H1=>ti σ H1 fun i H2=>t o i v H2 fun H3=>Q σ H3
theorem Zhk {o i:Expr}{to ti:TE}{t:TSet} (ho:PE X o to) (hi:PE X i ti) (hs:PSet X t)
  (ha:∀ v,assign (.Subscript o i pos) X.env v=(do
   let ov ← holding [v] (eval o X.env)
   let iv ← holding [v,ov] (eval i X.env)
   standAt pos
   holding [v,ov,iv] (setItem ov iv v)
   release [v,ov,iv] []):=by intro _;rfl):PG X (.Subscript o i pos) (gSub to ti t):=by
 intro pins s σ H v u Q I r h;rw [ha];refine wpAny_bind (wpAny_holding (thn (ho pins s σ H _ I h) fun ov s1 ⟨x,H1,I1,r1,q1⟩=>?_));refine wpAny_bind (wpAny_holding (thn (hi pins s1 σ H1 _ I1 q1) fun iv s2 ⟨y,H2,I2,r2,q2⟩=>?_));refine wpAny_bind (wpAny_standAt (wpAny_bind (wpAny_holding (thn (hs pins s2 σ H2 x y v ov iv u _ I2 r1 r2 r q2) fun _ s3 ⟨H3,I3,q3⟩=>?_))));exact wpAny_release ⟨σ,H3,I3,q3⟩
def tAsg (te:TE) (g:TG):TS:=fun D σ H=>te σ H fun x H1=>g x σ H1 D.nx
theorem Zhj {tg e:Expr}{te:TE}{g:TG} (he:PE X e te) (hg:PG X tg g) (hs:swapsWithSole [tg] e pos.line X.env=pure false:=by rfl) (hw:swappedStores [tg] e X.env=pure none:=by rfl)
  (h1:(assignEach [tg] X.env).map (·.2)=[assign tg X.env]:=by rfl):PS X (.Assign [tg] e pos) (tAsg te g):=by
 intro pins s σ H D I h;refine wpAny_Assign_stores (thn (he pins s σ H _ I h) fun v s1 ⟨x,H1,I1,r1,q1⟩=>?_) hs hw;rw [h1];exact thn (hg pins s1 σ H1 x v _ I1 r1 q1) fun _ s2 q=>q
theorem Zah {i:Nat}{x:Str}{e:Expr}{te:TE}{pos':Pos} (hN:X.N.Nodup) (hi:X.N[i]? =some x) (hx:Loc X.env.scope x) (he:PE X e te) (hs:swapsWith e (some (.Name x pos')) pos.line X.env=pure false:=by rfl) (hf:X.fn x=true∨X.env.scope.names.lookup x=some .local:=by first | exact .inl rfl | exact .inr rfl | assumption):
  PS X (.Assign [.Name x pos'] e pos) (tAsg te (Zam i)):=by
 intro pins s σ H D I h;refine wpAny_Assign_Name (thn (he pins s σ H _ I h) fun v s1 ⟨y,H1,I1,r1,q1⟩=>?_) hs;exact Zx0 I1 hN hi hx r1 (fun s2 I2=>⟨_,H1,I2,q1⟩) hf
end
section
variable {X:Cx}{pos:Pos}
end
structure It where
 go:Nat→Hp→Prop
 yld:Nat→Hp→V→Hp→Prop
 stop:Nat→Hp→Prop
def FpOk (X:Cx) (pins:List (Addr×Obj)) (H:Hp) (b:Addr):Prop:=
 H b=none∧b≠X.env.locals∧b∉X.fs∧(b∈X.ex∨X.s₀.heap.objs.size≤b)∧(∀ x c,X.env.cells.lookup x=some c→c≠b)∧∀ p∈X.pn ++ pins,p.1≠b
theorem Inv.fpOk {X:Cx}{pins:List (Addr×Obj)}{σ:St}{H H':Hp}{s:Shared}{b:Addr} (I:Inv X pins σ H s) (hb:s.heap.objs.size≤b) (hn:H' b=none):FpOk X pins H' b:=by
 refine ⟨hn,Nat.ne_of_gt (Nat.lt_of_lt_of_le I.lt hb),I.nofs hb,.inr (Nat.le_trans I.sz hb),fun x c e z=>?_,fun p hp z=>?_⟩
 ·obtain ⟨v,q⟩:=I.cell x c e;exact absurd (Nat.lt_of_lt_of_le q.lt (by rw [z];exact hb)) (Nat.lt_irrefl _)
 ·exact absurd (Nat.lt_of_lt_of_le (Heap.lt_size (I.pin p hp).1) (by rw [z];exact hb)) (Nat.lt_irrefl _)
structure Turn (P:Program) (w:World) (K:PySem.W.Frag) (tg:Expr) (J:It) (fp:List Addr) (it:Addr) (tn:Nat→Heap→Prop):Prop where
  mem:it∈fp
  obj:∀ i h,tn i h→∀ b∈fp,∃ o,h.get? b=some o∧∀ v,o.data≠.cell v
  keep:∀ i h h',tn i h→(∀ b∈fp,∀ o,h.get? b=some o→h'.get? b=some o)→tn i h'
  item:∀ (X:Cx),X.prog=P→X.w=w→X.K=K→X.calm=true→∀ (i:Nat) (pins:List (Addr×Obj)) (s:Shared) (σ:St) (H:Hp) (E:Value→Shared→Prop),Inv X pins σ H s→(∀ b∈fp,FpOk X pins H b)→tn i s.heap→J.go i H→
    wpAny (model P w) X.A (pyNext (.ref it)) (fun r s1=>∃ u,r=some u∧
      wpAny (model P w) X.A (letOwnedTupleGo tg (.ref it) u) (fun _ s2=>∃ x H',Inv X pins σ H' s2∧RelV x u∧J.yld i H x H'∧tn (i + 1) s2.heap∧∀ b∈fp,H' b=none) E s1) E s
  done:∀ (X:Cx),X.prog=P→X.w=w→X.K=K→X.calm=true→∀ (i:Nat) (pins:List (Addr×Obj)) (s:Shared) (σ:St) (H:Hp) (E:Value→Shared→Prop),Inv X pins σ H s→(∀ b∈fp,FpOk X pins H b)→tn i s.heap→J.stop i H→
    wpAny (model P w) X.A (pyNext (.ref it)) (fun r s1=>r=none∧Inv X pins σ H s1) E s
  self:∀ (A:Around) (i:Nat) (s:Shared) (Q:Value→Shared→Prop) (E:Value→Shared→Prop),tn i s.heap→Q (.ref it) s→wpAny (model P w) A (pyIter (.ref it)) Q E s
abbrev TI:=St→Hp→(It→Hp→Prop)→Prop
def PIE (X:Cx) (pins:List (Addr×Obj)) (σ:St) (tg:Expr) (R:It→Hp→Prop) (itv:Value) (s2:Shared):Prop:=
 ∃ (it:Addr) (fp:List Addr) (tn:Nat→Heap→Prop) (J:It) (H':Hp),itv=.ref it∧Inv X pins σ H' s2∧Turn X.prog X.w X.K tg J fp it tn∧tn 0 s2.heap∧(∀ b∈fp,FpOk X pins H' b)∧R J H'
def PI (X:Cx) (tg iter:Expr) (wi:TI):Prop:=
 ∀ (pins:List (Addr×Obj)) (s:Shared) (σ:St) (H:Hp) (R:It→Hp→Prop),Inv X pins σ H s→wi σ H R→
  wpAny (model X.prog X.w) X.A (eval iter X.env) (fun v s1=>wpAny (model X.prog X.w) X.A (pyIter v) (PIE X pins σ tg R) X.xe s1) X.xe s
theorem ZPh {M:Model}{A:Around}{E:Value→Shared→Prop}{s:Shared}{tg:Expr}{it:Addr}{u:Value}{o:Obj}{n:String}{vs:Array Value}{Q:Unit→Shared→Prop} (ho:s.heap.get? it=some o) (hc:o.cls=.type n) (hd:o.data=.fields vs)
    (hn:["enumerate","zip","dict_itemiterator","dict_reverseitemiterator","odict_iterator","itertools.zip_longest","itertools.pairwise"].contains n=false) (hQ:Q () s):wpAny M A (letOwnedTupleGo tg (.ref it) u) Q E s:=by
  unfold letOwnedTupleGo;cases tg<;>first
    | exact wpAny_pure hQ
    | (cases u<;>first
        | exact wpAny_pure hQ
        | (refine wpAny_bind (wpAny_load ho ?_)
           rw [hc,hd];show wpAny M A (if (["enumerate","zip","dict_itemiterator","dict_reverseitemiterator","odict_iterator","itertools.zip_longest","itertools.pairwise"].contains n && vs[0]? == some (rawInt _))=true then _ else _) Q E s;rw [if_neg (by intro h;rw [hn,Bool.false_and] at h;cases h)];exact wpAny_pure hQ))
def Itl (K:PySem.W.Frag) (a:Addr):It:=
 ⟨fun i H=>∃ xs x,SqL K H a xs∧xs[i]? =some x,fun i H x H'=>H'=H∧∀ xs,SqL K H a xs→xs[i]? =some x,fun i H=>∃ xs,SqL K H a xs∧xs.length≤i⟩
def Itr (lo:Int) (n:Nat):It:=⟨fun i _=>i < n,fun i H x H'=>H'=H∧x=.int (lo + i),fun i _=>n≤i⟩
theorem ZJ3 {P:Program}{w:World}{K:PySem.W.Frag}{tg:Expr} (a it:Addr):Turn P w K tg (Itl K a) [it] it (fun i h=>h.IsListIter it a i) where
  mem:=by simp
  obj:=fun i h st b hb=>by
    have e:b=it:=by simpa using hb
    subst e;obtain ⟨o,e,c,d⟩:=st;exact ⟨o,e,fun v z=>by rw [d] at z;cases z⟩
  keep:=fun i h h' st k=>st.at fun o e=>k it (by simp) o e
  item:=by
    intro X hP hw hK hc i pins s σ H E I hf st hg;subst hP hw hK;obtain ⟨xs,x,hq,hx⟩:=hg;obtain ⟨its,rv,p,hz⟩:=I.list hq;obtain ⟨u,hu,ru⟩:=rv.get hx;obtain ⟨f0,f1,f2,f3,f4,f5⟩:=hf it (by simp);refine wpAny_pyNext_list_item st p.isList (x:=u) (by simpa using hu) fun h' st' sb=>?_;have I1:Inv X pins σ H { s with heap:=h' }:=I.turned (t':=s.toks) (fun b o hb e=>(sb.2 b hb).trans e) f0 f1 f3 f4 f5;obtain ⟨o,e,c,d⟩:=id st';exact ⟨u,rfl,ZPh (s:={ s with heap:=h' }) e c d (by decide) ⟨x,H,I1,ru,⟨rfl,fun ys hy=>by rw [I.list_inj hy hq];exact hx⟩,st',fun b hb=>(hf b hb).1⟩⟩
  done:=by
    intro X hP hw hK hc i pins s σ H E I hf st hg;subst hP hw hK;obtain ⟨xs,hq,hx⟩:=hg;obtain ⟨its,rv,p,hz⟩:=I.list hq;obtain ⟨f0,f1,f2,f3,f4,f5⟩:=hf it (by simp);have hl:=rv.length;exact wpAny_pyNext_list_end (I.ok.hd hc) st p.isList (by simp;omega) fun h' eb=>⟨rfl,I.turned (t':=s.toks) (fun b o hb e=>eb b o hb e) f0 f1 f3 f4 f5⟩
  self:=fun _ _ _ _ _ st h=>wpAny_pyIter_listiter st h
theorem ZGj {P:Program}{w:World}{K:PySem.W.Frag}{tg:Expr} (it:Addr) (lo:Int) (n:Nat):Turn P w K tg (Itr lo n) [it] it (fun i h=>IsRangeIter h it (lo + (i:Nat) * 1) ((n:Int) - (i:Nat)) 1) where
  mem:=by simp
  obj:=fun i h st b hb=>by
    have e:b=it:=by simpa using hb
    subst e;exact ⟨_,st,fun v z=>by
      have z':Data.fields _=Data.cell v:=z;cases z'⟩
  keep:=fun i h h' st k=>k it (by simp) _ st
  item:=by
    intro X hP hw hK hc i pins s σ H E I hf st hg;subst hP hw hK;obtain ⟨f0,f1,f2,f3,f4,f5⟩:=hf it (by simp);have W:=Walks.range (prog:=X.prog) (w:=X.w) (I.ok.hd hc) it lo 1 n;refine W.item i s _ _ hg st fun v h' tk hv st' kk=>?_;obtain ⟨t,rfl⟩:=hv;have I1:Inv X pins σ H { s with heap:=h',toks:=tk }:=I.turned (fun b o hb e=>kk b o (by simpa using hb) e) f0 f1 f3 f4 f5;refine ⟨_,rfl,ZPh (s:={ s with heap:=h',toks:=tk }) (n:="range_iterator") st' rfl rfl (by decide) ⟨.int (lo + i),H,I1,⟨t,?_⟩,⟨rfl,rfl⟩,st',fun b hb=>(hf b hb).1⟩⟩;rw [Int.mul_one]
  done:=by
    intro X hP hw hK hc i pins s σ H E I hf st hg;subst hP hw hK;obtain ⟨f0,f1,f2,f3,f4,f5⟩:=hf it (by simp);exact wpAny_pyNext_range_end (I.ok.hd hc) st (by have:n≤i:=hg;omega) fun h' eb=>⟨rfl,I.turned (t':=s.toks) (fun b o hb e=>eb b o hb e) f0 f1 f3 f4 f5⟩
  self:=fun _ _ _ _ _ st h=>wpAny_pyIter_rangeiter st h
end L2
namespace L2
open PySem PySem.Spec PyProof.Rows
section
variable {X:Cx}{tg:Expr}
def Zut (K:PySem.W.Frag) (tl:TE):TI:=fun σ H R=>tl σ H fun x H1=>∃ a,x=.ref a∧(∃ xs,SqL K H1 a xs)∧R (Itl K a) H1
theorem Zko {l:Expr}{tl:TE} (hl:PE X l tl):PI X tg l (Zut X.K tl):=by
 intro pins s σ H R I h;refine thn (hl pins s σ H _ I h) fun v s1 ⟨x,H1,I1,r1,q1⟩=>?_;obtain ⟨a,e,⟨xs,hq⟩,q⟩:=q1;subst e;cases r1;obtain ⟨its,rv,p,hz⟩:=I1.list hq;refine wpAny_pyIter_list p.isList ?_;refine ⟨s1.heap.objs.size,[s1.heap.objs.size],_,_,H1,rfl,I1.kept (t':=s1.toks) fun b o e=>Heap.get?_push_of_some _ e,ZJ3 a _,⟨_,Heap.get?_push_size _ rfl,rfl,rfl⟩,fun b hb=>?_,q⟩;have e:b=s1.heap.objs.size:=by simpa using hb
 subst e;exact I1.fpOk (Nat.le_refl _) (I1.hok.fresh (Nat.le_refl _))
theorem ZLw {pins:List (Addr×Obj)}{σ:St}{H:Hp}{s:Shared}{R:It→Hp→Prop}{E:Value→Shared→Prop}{lo hi:Int}{t u v:Tok}{tk:Nat} (I:Inv X pins σ H s) (h1:-(2 ^ 62)≤lo) (h2:lo < 2 ^ 62) (h3:-(2 ^ 62)≤hi) (h4:hi < 2 ^ 62)
  (q:R (Itr lo (hi - lo).toNat) H):wpAny (model X.prog X.w) X.A (pyIter (.ref s.heap.objs.size)) (PIE X pins σ tg R) E { s with heap:=s.heap.push { cls:=.type "range",data:=.fields #[.int lo t,.int hi u,.int 1 v] },toks:=tk }:=by
 refine wpAny_pyIter_range (IsRange.new ..) (small_one h1 h2 h3 h4) ?_;have I1:Inv X pins σ H { s with heap:=s.heap.push { cls:=.type "range",data:=.fields #[.int lo t,.int hi u,.int 1 v] },toks:=tk }:=I.kept fun b o e=>Heap.get?_push_of_some _ e;refine ⟨(s.heap.push { cls:=.type "range",data:=.fields #[.int lo t,.int hi u,.int 1 v] }).objs.size,[(s.heap.push { cls:=.type "range",data:=.fields #[.int lo t,.int hi u,.int 1 v] }).objs.size],_,_,H,rfl,
  I1.kept (t':=tk) fun b o e=>Heap.get?_push_of_some _ e,ZGj _ lo (hi - lo).toNat,?_,fun b hb=>?_,q⟩
 ·have e1:lo + ((0:Nat):Int) * 1=lo:=by simp
  have e2:(((hi - lo).toNat:Nat):Int) - ((0:Nat):Int)=Builtin.Range.rangeSize lo hi 1:=by rw [rangeSize_one];split<;>omega
  show IsRangeIter _ _ (lo + ((0:Nat):Int) * 1) ((((hi - lo).toNat:Nat):Int) - ((0:Nat):Int)) 1;rw [e1,e2];exact Heap.get?_push_size _ rfl
 ·have e:b=(s.heap.push { cls:=.type "range",data:=.fields #[.int lo t,.int hi u,.int 1 v] }).objs.size:=by simpa using hb
  subst e;exact I1.fpOk (Nat.le_refl _) (I1.hok.fresh (Nat.le_refl _))
def Zyp (ta:TA):TI:=fun σ H R=>ta σ H fun vs H1=>∃ j:Int,vs=[.int j]∧-(2 ^ 62)≤j∧j < 2 ^ 62∧R (Itr 0 j.toNat) H1
theorem Zh5 {a:Expr}{ta:TA}{p pos:Pos} (hg:Gl X "range") (hm:X.mg "range"=none) (ha:PA X [a] ta) (hs:starEach [a] X.env=[(false,eval a X.env)]:=by rfl):PI X tg (.Call (.Name "range" p) [a] [] pos) (Zyp ta):=by
 intro pins s σ H R I h;refine Call_ (ZG2 I hg hm boot_range (PyProof.Rows.callWith_type1 (thn (ha pos pins s σ H _ I h) fun us s1 ⟨vs,H1,I1,r1,q1⟩=>?_) hs rfl));obtain ⟨j,e,q1,q2,q⟩:=q1;subst e;cases r1 with
 | cons r rr=>
  cases rr;obtain ⟨t,rfl⟩:=r;exact call_range_1 (ZLw I1 (by omega) (by omega) q1 q2 (by simpa using q))
def tFor (wi:TI) (g:TG) (tb:TS):TS:=fun D σ H=>wi σ H fun J H1=>∃ W:Nat→Nat→St→Hp→Prop,(∃ m,W 0 m σ H1)∧∀ i m σ H,W i m σ H→
 (J.stop i H∧D.nx σ H)∨(J.go i H∧∃ N:St→Hp→Prop,(∀ σ' H',N σ' H'→∃ m',m' < m∧W (i + 1) m' σ' H')∧∀ x H',J.yld i H x H'→g x σ H' fun σ2 H2=>tb { D with nx:=N,ct:=N,bk:=D.nx } σ2 H2)
def Zjq (fp:List Addr) (h:Heap):List (Addr×Obj):=fp.filterMap fun b=>(h.get? b).map fun o=>(b,o)
theorem Ze8 {fp:List Addr}{h:Heap}{b:Addr}{o:Obj} (hb:b∈fp) (e:h.get? b=some o):(b,o)∈Zjq fp h:=List.mem_filterMap.mpr ⟨b,hb,by rw [e];rfl⟩
theorem Zpo {fp:List Addr}{h:Heap}{p:Addr×Obj} (hp:p∈Zjq fp h):p.1∈fp∧h.get? p.1=some p.2:=by
 obtain ⟨b,hb,e⟩:=List.mem_filterMap.mp hp;cases q:h.get? b with
 | none=>rw [q] at e;cases e
 | some o=>
  rw [q] at e;have e':(b,o)=p:=Option.some.inj e;subst e';exact ⟨hb,q⟩
theorem Inv.pinned {pins:List (Addr×Obj)}{σ:St}{H:Hp}{s:Shared}{fp:List Addr} (I:Inv X pins σ H s) (hf:∀ b∈fp,FpOk X pins H b) (ho:∀ b∈fp,∃ o,s.heap.get? b=some o∧∀ v,o.data≠.cell v):Inv X (pins ++ Zjq fp s.heap) σ H s:=
 I.pins_of fun p hp=>(List.mem_append.mp hp).elim (fun z=>I.pin p (List.mem_append_right _ z)) fun z=>by
  obtain ⟨hb,e⟩:=Zpo z;obtain ⟨f0,f1,f2,_⟩:=hf p.1 hb;obtain ⟨o,e',d⟩:=ho p.1 hb;rw [e] at e';cases e';exact ⟨e,f0,f1,f2,d⟩
theorem Inv.unpinned {pins pl:List (Addr×Obj)}{σ:St}{H:Hp}{s:Shared} (I:Inv X (pins ++ pl) σ H s):Inv X pins σ H s:=I.pins_of fun p hp=>I.pin p (List.mem_append_right _ (List.mem_append_left _ hp))
theorem Znl {iter:Expr}{body:List Stmt}{wi:TI}{g:TG}{tb:TS}{pos:Pos} (hp:PassesOwn (model X.prog X.w) X.A X.env X.xe) (hc:X.calm=true) (hi:PI X tg iter wi) (hg:PG X tg g) (hb:PSs X body tb)
  (hs:∀ x,foldedSetIterable iter X.env x=pure x:=by intro _;rfl):PS X (.For tg iter body [] pos) (tFor wi g tb):=by
 intro pins s σ H D I h;refine wpAny_For (thn (hi pins s σ H _ I h) fun v s1 h1=>thn h1 fun itv s2 h2=>?_) hs;obtain ⟨it,fp,tn,J,H2,e,I2,T,st2,f2,W,⟨m0,w0⟩,turn⟩:=h2;subst e;have stat:∀ {H':Hp},(∀ b∈fp,H' b=none)→∀ b∈fp,FpOk X pins H' b:=fun hn b hb=>⟨hn b hb,(f2 b hb).2⟩;refine codeAny_forLoop_any (fun n s'=>∃ i σ' H',Inv X pins σ' H' s'∧tn i s'.heap∧(∀ b∈fp,H' b=none)∧W i n σ' H') ?_ m0 ⟨0,σ,H2,I2,st2,fun b hb=>(f2 b hb).1,w0⟩;rintro n s3 ⟨i,σ3,H3,I3,st3,fr3,w3⟩;rcases turn i n σ3 H3 w3 with ⟨stop,qn⟩ | ⟨go,N,hN,step⟩
 ·refine wpAny_passesOwn hp (thn (T.done X rfl rfl rfl hc i pins s3 σ3 H3 X.xe I3 (stat fr3) st3 stop) fun r s4 ⟨hr,I4⟩=>?_);subst hr;exact wpAny_execs_nil ⟨σ3,H3,I4,qn⟩
 ·refine wpAny_passesOwn hp (thn (T.item X rfl rfl rfl hc i pins s3 σ3 H3 X.xe I3 (stat fr3) st3 go) fun r s4 ⟨u,hr,h4⟩=>?_);subst hr;refine wpAny_passesOwn hp (thn h4 fun _ s5 ⟨x,H5,I5,r5,y5,st5,fr5⟩=>?_);have I5':=I5.pinned (stat fr5) (T.obj _ _ st5);refine wpAny_passesOwn hp (thn (hg _ s5 σ3 H5 x u _ I5' r5 (step x H5 y5)) fun _ s6 ⟨σ6,H6,I6,q6⟩=>?_);refine wpAny_passesOwn hp (thn (hb _ s6 σ6 H6 _ I6 q6) fun f s7 q7=>?_);have again:∀ {σ7:St}{H7:Hp},Inv X (pins ++ Zjq fp s5.heap) σ7 H7 s7→N σ7 H7→∃ m,m < n∧∃ i σ' H',Inv X pins σ' H' s7∧tn i s7.heap∧(∀ b∈fp,H' b=none)∧W i m σ' H':=fun {σ7 H7} I7 n7=>by
   obtain ⟨m',hm,w7⟩:=hN σ7 H7 n7;refine ⟨m',hm,i + 1,σ7,H7,I7.unpinned,T.keep _ _ _ st5 fun b hb o e=>(I7.pin (b,o) (List.mem_append_right _ (List.mem_append_right _ (Ze8 hb e)))).1,fun b hb=>?_,w7⟩;obtain ⟨o,e,d⟩:=T.obj _ _ st5 b hb;exact (I7.pin (b,o) (List.mem_append_right _ (List.mem_append_right _ (Ze8 hb e)))).2.1
  cases f with
  | next=>obtain ⟨σ7,H7,I7,n7⟩:=q7;exact again I7 n7
  | cont=>obtain ⟨σ7,H7,I7,n7⟩:=q7;exact again I7 n7
  | brk=>obtain ⟨σ7,H7,I7,q7⟩:=q7;exact ⟨σ7,H7,I7.unpinned,q7⟩
  | ret v=>obtain ⟨x7,σ7,H7,I7,r7,q7⟩:=q7;exact ⟨x7,σ7,H7,I7.unpinned,r7,q7⟩
end
theorem ZMv {K:PySem.W.Frag}{a:Addr}{xs:List V}{g:TG}{tb:TS}{D:Ends}{σ:St}{H:Hp} (Pv:Nat→St→Hp→Prop) (h0:Pv 0 σ H) (hl:∀ i σ H,i≤xs.length→Pv i σ H→SqL K H a xs)
  (hs:∀ i x σ H,xs[i]? =some x→Pv i σ H→g x σ H fun σ2 H2=>tb { D with nx:=Pv (i + 1),ct:=Pv (i + 1),bk:=D.nx } σ2 H2) (hd:∀ σ H,Pv xs.length σ H→D.nx σ H):
  ∃ W:Nat→Nat→St→Hp→Prop,(∃ m,W 0 m σ H)∧∀ i m σ H,W i m σ H→
   ((Itl K a).stop i H∧D.nx σ H)∨((Itl K a).go i H∧∃ N:St→Hp→Prop,(∀ σ' H',N σ' H'→∃ m',m' < m∧W (i + 1) m' σ' H')∧∀ x H',(Itl K a).yld i H x H'→g x σ H' fun σ2 H2=>tb { D with nx:=N,ct:=N,bk:=D.nx } σ2 H2):=by
 refine ⟨fun i m σ H=>m=xs.length - i∧i≤xs.length∧Pv i σ H,⟨xs.length,by simp,Nat.zero_le _,h0⟩,?_⟩;rintro i m σ H ⟨rfl,hi,p⟩;have q:=hl i σ H hi p
 by_cases hlt:i < xs.length
 ·refine .inr ⟨⟨xs,xs[i],q,by simp [hlt]⟩,Pv (i + 1),fun σ' H' p'=>⟨xs.length - (i + 1),by omega,rfl,hlt,p'⟩,fun x H' y=>?_⟩;obtain ⟨e,y⟩:=y;subst e;exact hs i x σ _ (y xs q) p
 ·have e:i=xs.length:=by omega
  subst e;exact .inl ⟨⟨xs,q,Nat.le_refl _⟩,hd σ H p⟩
theorem ZKv {lo:Int}{n:Nat}{g:TG}{tb:TS}{D:Ends}{σ:St}{H:Hp} (Pv:Nat→St→Hp→Prop) (h0:Pv 0 σ H)
  (hs:∀ i σ H,i < n→Pv i σ H→g (.int (lo + i)) σ H fun σ2 H2=>tb { D with nx:=Pv (i + 1),ct:=Pv (i + 1),bk:=D.nx } σ2 H2) (hd:∀ σ H,Pv n σ H→D.nx σ H):
  ∃ W:Nat→Nat→St→Hp→Prop,(∃ m,W 0 m σ H)∧∀ i m σ H,W i m σ H→
   ((Itr lo n).stop i H∧D.nx σ H)∨((Itr lo n).go i H∧∃ N:St→Hp→Prop,(∀ σ' H',N σ' H'→∃ m',m' < m∧W (i + 1) m' σ' H')∧∀ x H',(Itr lo n).yld i H x H'→g x σ H' fun σ2 H2=>tb { D with nx:=N,ct:=N,bk:=D.nx } σ2 H2):=by
 refine ⟨fun i m σ H=>m=n - i∧i≤n∧Pv i σ H,⟨n,by simp,Nat.zero_le _,h0⟩,?_⟩;rintro i m σ H ⟨rfl,hi,p⟩
 by_cases hlt:i < n
 ·refine .inr ⟨hlt,Pv (i + 1),fun σ' H' p'=>⟨n - (i + 1),by omega,rfl,hlt,p'⟩,fun x H' y=>?_⟩;obtain ⟨e,y⟩:=y;subst e y;exact hs i σ _ hlt p
 ·have e:i=n:=by omega
  subst e;exact .inl ⟨Nat.le_refl _,hd σ H p⟩
end L2
namespace L2
open PySem PySem.Spec PyProof.Rows
abbrev R2:=V→V→Hp→VK→Prop
def OpR (X:Cx) (f:Value→Value→Sem Value) (r:R2):Prop:=
 ∀ (pins:List (Addr×Obj)) (s:Shared) (σ:St) (H:Hp) (x y:V) (v u:Value) (Q:VK),Inv X pins σ H s→RelV x v→RelV y u→r x y H Q→
  wpAny (model X.prog X.w) X.A (f v u) (EP X pins σ Q) X.xe s
def UnR (X:Cx) (f:Value→Sem Value) (r:V→Hp→VK→Prop):Prop:=
 ∀ (pins:List (Addr×Obj)) (s:Shared) (σ:St) (H:Hp) (x:V) (v:Value) (Q:VK),Inv X pins σ H s→RelV x v→r x H Q→
  wpAny (model X.prog X.w) X.A (f v) (EP X pins σ Q) X.xe s
def ZFh (X:Cx) (f:Value) (r:List V→Hp→VK→Prop):Prop:=
 ∀ (pins:List (Addr×Obj)) (s:Shared) (σ:St) (H:Hp) (xs:List V) (us:List Value) (Q:VK),Inv X pins σ H s→Vals xs us→r xs H Q→
  wpAny (model X.prog X.w) X.A (call f us) (EP X pins σ Q) X.xe s
def tOp (r:R2) (ta tb:TE):TE:=fun σ H Q=>ta σ H fun x H1=>tb σ H1 fun y H2=>r x y H2 Q
def tUn (r:V→Hp→VK→Prop) (ta:TE):TE:=fun σ H Q=>ta σ H fun x H1=>r x H1 Q
def rI (C:Int→Int→Prop) (g:Int→Int→V):R2:=fun x y H Q=>∃ i j,x=.int i∧y=.int j∧C i j∧Q (g i j) H
def rI0 (g:Int→Int→V):R2:=fun x y H Q=>∃ i j,x=.int i∧y=.int j∧Q (g i j) H
def rU (g:Int→V):V→Hp→VK→Prop:=fun x H Q=>∃ i,x=.int i∧Q (g i) H
section
variable {X:Cx}{a b c:Expr}{ta tb tc:TE}{pos:Pos}
theorem binT (ha:PE X a ta) (hb:PE X b tb) {pins:List (Addr×Obj)}{s:Shared}{σ:St}{H:Hp}{R:V→V→Hp→Prop} (I:Inv X pins σ H s)
  (h:ta σ H fun x H1=>tb σ H1 fun y H2=>R x y H2) {Q:Value→Shared→Prop}{f:Value→Value→Sem Value}
  (hf:∀ v u s2 x y H2,Inv X pins σ H2 s2→RelV x v→RelV y u→R x y H2→wpAny (model X.prog X.w) X.A (f v u) Q X.xe s2):
  wpAny (model X.prog X.w) X.A (eval a X.env) (fun v s₁=>wpAny (model X.prog X.w) X.A (eval b X.env) (fun u s₂=>wpAny (model X.prog X.w) X.A (f v u) Q X.xe s₂) X.xe s₁) X.xe s:=by
 refine thn (ha pins s σ H _ I h) fun v s1 ⟨x,H1,I1,r1,q1⟩=>?_;refine thn (hb pins s1 σ H1 _ I1 q1) fun u s2 ⟨y,H2,I2,r2,q2⟩=>?_;exact hf v u s2 x y H2 I2 r1 r2 q2
theorem Zb3 {op:Operator}{r:R2} (ho:OpR X (binaryOp op) r) (ha:PE X a ta) (hb:PE X b tb):PE X (.BinOp a op b pos) (tOp r ta tb):=by
 intro pins s σ H Q I h;exact wpAny_BinOp (binT ha hb I h fun v u s2 x y H2 I2 rx ry q=>ho pins s2 σ H2 x y v u Q I2 rx ry q)
theorem ZS1 {op:UnaryOp}{r:V→Hp→VK→Prop} (ho:UnR X (unaryOp op) r) (ha:PE X a ta):PE X (.UnaryOp op a pos) (tUn r ta):=by
 intro pins s σ H Q I h;exact UnaryOp_ (thn (ha pins s σ H _ I h) fun v s1 ⟨x,H1,I1,r1,q1⟩=>ho pins s1 σ H1 x v Q I1 r1 q1)
theorem opI {f:Value→Value→Sem Value}{C:Int→Int→Prop}{g:Int→Int→Int}
  (rule:∀ (i j:Int) (t u:Tok) (s:Shared) (Q:Value→Shared→Prop) (E:Value→Shared→Prop),C i j→Q (.int (g i j) s.toks) { s with toks:=s.toks + 1 }→wpAny (model X.prog X.w) X.A (f (.int i t) (.int j u)) Q E s):
  OpR X f (rI C fun i j=>.int (g i j)):=by
 intro pins s σ H x y v u Q I rx ry h;obtain ⟨i,j,rfl,rfl,hc,q⟩:=h;obtain ⟨t,rfl⟩:=rx;obtain ⟨t',rfl⟩:=ry;exact rule i j t t' s _ _ hc ⟨.int (g i j),H,I.tok _,⟨_,rfl⟩,q⟩
theorem opI0 {f:Value→Value→Sem Value}{g:Int→Int→Int}
  (rule:∀ (i j:Int) (t u:Tok) (s:Shared) (Q:Value→Shared→Prop) (E:Value→Shared→Prop),Q (.int (g i j) s.toks) { s with toks:=s.toks + 1 }→wpAny (model X.prog X.w) X.A (f (.int i t) (.int j u)) Q E s):
  OpR X f (rI0 fun i j=>.int (g i j)):=by
 intro pins s σ H x y v u Q I rx ry h;obtain ⟨i,j,rfl,rfl,q⟩:=h;obtain ⟨t,rfl⟩:=rx;obtain ⟨t',rfl⟩:=ry;exact rule i j t t' s _ _ ⟨.int (g i j),H,I.tok _,⟨_,rfl⟩,q⟩
theorem opB0 {f:Value→Value→Sem Value}{g:Int→Int→Bool}
  (rule:∀ (i j:Int) (t u:Tok) (s:Shared) (Q:Value→Shared→Prop) (E:Value→Shared→Prop),Q (.bool (g i j)) s→wpAny (model X.prog X.w) X.A (f (.int i t) (.int j u)) Q E s):
  OpR X f (rI0 fun i j=>.bl (g i j)):=by
 intro pins s σ H x y v u Q I rx ry h;obtain ⟨i,j,rfl,rfl,q⟩:=h;obtain ⟨t,rfl⟩:=rx;obtain ⟨t',rfl⟩:=ry;exact rule i j t t' s _ _ ⟨.bl (g i j),H,I,rfl,q⟩
def CDiv (i j:Int):Prop:=0 < j∧j < 1073741824
def CPow (i j:Int):Prop:=0≤j∧j≤1000000∧i.natAbs < 2 ^ 64
def CMul (i j:Int):Prop:=(-(2 ^ 64) < i∧i < 2 ^ 64)∨(-(2 ^ 64) < j∧j < 2 ^ 64)
theorem CMul.ok {i j:Int} (h:CMul i j):IntMulOk i j:=by
 rcases h with ⟨h1,h2⟩ | ⟨h1,h2⟩
 ·exact .of_left (intBits_le_64 h1 h2)
 ·exact .of_right (intBits_le_64 h1 h2)
theorem ZGi (k:Nat):(0:Int)≤2 ^ k:=by
 rw [two_pow_cast];exact Int.natCast_nonneg _
theorem Zf2:OpR X (binaryOp .Add) (rI0 fun i j=>.int (i + j)):=opI0 fun _ _ _ _ _ _ _ q=>add_int q
theorem Zwi:OpR X (binaryOp .Sub) (rI0 fun i j=>.int (i - j)):=opI0 fun _ _ _ _ _ _ _ q=>sub_int q
theorem ZFu:OpR X (binaryOp .Mult) (rI CMul fun i j=>.int (i * j)):=opI fun _ _ _ _ _ _ _ hc q=>mul_int q hc.ok
theorem Zma:OpR X (binaryOp .FloorDiv) (rI CDiv fun i j=>.int (i / j)):=opI fun i j _ _ _ _ _ hc q=>by
 have h1:(0:Int) < j:=hc.1;have h2:j < 1073741824:=hc.2;exact floordiv_int (by omega) (by rw [Int.fdiv_eq_ediv_of_nonneg i (by omega)];exact q) (.inl (PyProof.noPylong_small (by omega)))
theorem Zdr:OpR X (binaryOp .Mod) (rI (fun _ j=>0 < j) fun i j=>.int (i % j)):=opI fun i j _ _ _ _ _ hc q=>by
 have h1:(0:Int) < j:=hc;exact mod_int' (by omega) (by rw [Int.fmod_eq_emod_of_nonneg i (by omega)];exact q)
theorem Zwj:OpR X (binaryOp .Pow) (rI CPow fun i j=>.int (i ^ j.toNat)):=opI fun _ _ _ _ _ _ _ hc q=>pow_int_small hc.1 hc.2.1 hc.2.2 q
theorem ZQf:OpR X (binaryOp .RShift) (rI (fun _ j=>0≤j) fun i j=>.int (i / 2 ^ j.toNat)):=opI fun i j _ _ _ _ _ hc q=>
 rshift_int hc (by rw [Int.fdiv_eq_ediv_of_nonneg i (ZGi _)];exact q)
theorem ZAx:OpR X (binaryOp .BitAnd) (rI0 fun i j=>.int (Builtin.bitAnd i j)):=opI0 fun _ _ _ _ _ _ _ q=>and_int q
theorem unI {f:Value→Sem Value}{g:Int→Int}
  (rule:∀ (i:Int) (t:Tok) (s:Shared) (Q:Value→Shared→Prop) (E:Value→Shared→Prop),Q (.int (g i) s.toks) { s with toks:=s.toks + 1 }→wpAny (model X.prog X.w) X.A (f (.int i t)) Q E s):
  UnR X f (rU fun i=>.int (g i)):=by
 intro pins s σ H x v Q I rx h;obtain ⟨i,rfl,q⟩:=h;obtain ⟨t,rfl⟩:=rx;exact rule i t s _ _ ⟨.int (g i),H,I.tok _,⟨_,rfl⟩,q⟩
theorem ZQ0:UnR X (unaryOp .USub) (rU fun i=>.int (-i)):=unI fun _ _ _ _ _ q=>neg_int q
end
def scal:V→V→Bool
 | .non,.non=>true | .non,.int _=>true | .int _,.non=>true | .non,.bl _=>true | .bl _,.non=>true | .non,.str _=>true | .str _,.non=>true
 | .int _,.int _=>true | .bl _,.bl _=>true | .str _,.str _=>true | .byt _,.byt _=>true
 | .int _,.str _=>true | .str _,.int _=>true | .bl _,.str _=>true | .str _,.bl _=>true
 | _,_=>false
def rEq:R2:=fun x y H Q=>scal x y=true∧Q (.bl (decide (x=y))) H
def rNe:R2:=fun x y H Q=>scal x y=true∧Q (.bl (!decide (x=y))) H
theorem ZLc {i j:Int}:decide (V.int i=V.int j)=(i == j):=by
 rw [Bool.eq_iff_iff];simp
theorem ZNv {i j:Bool}:decide (V.bl i=V.bl j)=(i == j):=by
 rw [Bool.eq_iff_iff];simp
theorem ZLb {i j:Str}:decide (V.str i=V.str j)=(i == j):=by
 rw [Bool.eq_iff_iff];simp
theorem ZLd {i j:Array UInt8}:decide (V.byt i=V.byt j)=(i.toList == j.toList):=by
 rw [Bool.eq_iff_iff];cases i;cases j;simp
section
variable {X:Cx}{a b c:Expr}{ta tb tc:TE}{pos:Pos}
theorem Zcj {pins:List (Addr×Obj)}{σ:St}{H:Hp}{s:Shared}{Q:VK}{k k':Bool} (I:Inv X pins σ H s) (q:Q (.bl k) H) (e:k=k'):EP X pins σ Q (.bool k') s:=by
 subst e;exact ⟨.bl k,H,I,rfl,q⟩
theorem Zet:OpR X (compareOp .Eq) rEq:=by
 intro pins s σ H x y v u Q I rx ry h;obtain ⟨hs,q⟩:=h;cases x with
 | non=>
  cases rx;cases y with
  | non=>cases ry;exact PySem.EqNone.eq_none_none (Zcj I q (by simp))
  | bl j=>cases ry;exact PySem.EqNone.eq_none_bool (Zcj I q (by simp))
  | int j=>obtain ⟨t',rfl⟩:=ry;exact PySem.EqNone.eq_none_int (Zcj I q (by simp))
  | str j=>obtain ⟨t',rfl⟩:=ry;exact PySem.EqNone.eq_none_str (Zcj I q (by simp))
  | _=>exact absurd (show false=true from hs) Bool.false_ne_true
 | bl i=>
  cases rx;cases y with
  | non=>cases ry;exact PySem.EqNone.eq_bool_none (Zcj I q (by simp))
  | bl j=>cases ry;exact eq_bool (Zcj I q ZNv)
  | str j=>obtain ⟨t',rfl⟩:=ry;exact PySem.EqMixed.eq_bool_str (Zcj I q (by simp))
  | _=>exact absurd (show false=true from hs) Bool.false_ne_true
 | int i=>
  obtain ⟨t,rfl⟩:=rx;cases y with
  | non=>cases ry;exact PySem.EqNone.eq_int_none (Zcj I q (by simp))
  | int j=>obtain ⟨t',rfl⟩:=ry;exact eq_int (Zcj I q ZLc)
  | str j=>obtain ⟨t',rfl⟩:=ry;exact PySem.EqMixed.eq_int_str (Zcj I q (by simp))
  | _=>exact absurd (show false=true from hs) Bool.false_ne_true
 | str i=>
  obtain ⟨t,rfl⟩:=rx;cases y with
  | non=>cases ry;exact PySem.EqNone.eq_str_none (Zcj I q (by simp))
  | bl j=>cases ry;exact PySem.EqMixed.eq_str_bool (Zcj I q (by simp))
  | int j=>obtain ⟨t',rfl⟩:=ry;exact PySem.EqMixed.eq_str_int (Zcj I q (by simp))
  | str j=>obtain ⟨t',rfl⟩:=ry;exact eq_str (Zcj I q ZLb)
  | _=>exact absurd (show false=true from hs) Bool.false_ne_true
 | byt i=>
  obtain ⟨t,rfl⟩:=rx;cases y with
  | byt j=>obtain ⟨t',rfl⟩:=ry;exact PySem.W.eq_bytes (Zcj I q ZLd)
  | _=>exact absurd (show false=true from hs) Bool.false_ne_true
 | _=>cases y<;>exact absurd (show false=true from hs) Bool.false_ne_true
theorem ZAw:OpR X (compareOp .NotEq) rNe:=by
 intro pins s σ H x y v u Q I rx ry h;obtain ⟨hs,q⟩:=h;cases x with
 | non=>
  cases rx;cases y with
  | non=>cases ry;exact PySem.EqNone.ne_none_none (Zcj I q (by simp))
  | bl j=>cases ry;exact PySem.EqNone.ne_none_bool (Zcj I q (by simp))
  | int j=>obtain ⟨t',rfl⟩:=ry;exact PySem.EqNone.ne_none_int (Zcj I q (by simp))
  | str j=>obtain ⟨t',rfl⟩:=ry;exact PySem.EqNone.ne_none_str (Zcj I q (by simp))
  | _=>exact absurd (show false=true from hs) Bool.false_ne_true
 | bl i=>
  cases rx;cases y with
  | non=>cases ry;exact PySem.EqNone.ne_bool_none (Zcj I q (by simp))
  | bl j=>cases ry;exact ne_bool (Zcj I q (congrArg not ZNv))
  | str j=>obtain ⟨t',rfl⟩:=ry;exact PySem.EqMixed.ne_bool_str (Zcj I q (by simp))
  | _=>exact absurd (show false=true from hs) Bool.false_ne_true
 | int i=>
  obtain ⟨t,rfl⟩:=rx;cases y with
  | non=>cases ry;exact PySem.EqNone.ne_int_none (Zcj I q (by simp))
  | int j=>obtain ⟨t',rfl⟩:=ry;exact ne_int (Zcj I q (congrArg not ZLc))
  | str j=>obtain ⟨t',rfl⟩:=ry;exact PySem.EqMixed.ne_int_str (Zcj I q (by simp))
  | _=>exact absurd (show false=true from hs) Bool.false_ne_true
 | str i=>
  obtain ⟨t,rfl⟩:=rx;cases y with
  | non=>cases ry;exact PySem.EqNone.ne_str_none (Zcj I q (by simp))
  | bl j=>cases ry;exact PySem.EqMixed.ne_str_bool (Zcj I q (by simp))
  | int j=>obtain ⟨t',rfl⟩:=ry;exact PySem.EqMixed.ne_str_int (Zcj I q (by simp))
  | str j=>obtain ⟨t',rfl⟩:=ry;exact ne_str (Zcj I q (congrArg not ZLb))
  | _=>exact absurd (show false=true from hs) Bool.false_ne_true
 | byt i=>
  obtain ⟨t,rfl⟩:=rx;cases y with
  | byt j=>obtain ⟨t',rfl⟩:=ry;exact PySem.W.ne_bytes (Zcj I q (congrArg not ZLd))
  | _=>exact absurd (show false=true from hs) Bool.false_ne_true
 | _=>cases y<;>exact absurd (show false=true from hs) Bool.false_ne_true
theorem ZHe:OpR X (compareOp .Lt) (rI0 fun i j=>.bl (decide (i < j))):=opB0 fun _ _ _ _ _ _ _ q=>lt_int q
theorem ZS2:OpR X (compareOp .LtE) (rI0 fun i j=>.bl (decide (i≤j))):=opB0 fun _ _ _ _ _ _ _ q=>le_int q
theorem ZQh:OpR X (compareOp .Gt) (rI0 fun i j=>.bl (decide (j < i))):=opB0 fun _ _ _ _ _ _ _ q=>gt_int q
theorem ZOp:OpR X (compareOp .GtE) (rI0 fun i j=>.bl (decide (j≤i))):=opB0 fun _ _ _ _ _ _ _ q=>ge_int q
theorem ZQg:OpR X (compareOp .Is) (fun x y H Q=>y=.non∧Q (.bl (decide (x=.non))) H):=by
 intro pins s σ H x y v u Q I rx ry h;obtain ⟨rfl,q⟩:=h;cases ry;refine is_none_gen (Zcj I q ?_);cases x<;>first
  | (cases rx;rfl)
  | (obtain ⟨t,rfl⟩:=rx;rfl)
theorem ZOo:OpR X (compareOp .IsNot) (fun x y H Q=>y=.non∧Q (.bl (!decide (x=.non))) H):=by
 intro pins s σ H x y v u Q I rx ry h;obtain ⟨rfl,q⟩:=h;cases ry;refine isnot_none_gen (Zcj I q ?_);cases x<;>first
  | (cases rx;rfl)
  | (obtain ⟨t,rfl⟩:=rx;rfl)
def isObj:HO→Bool
 | .lst _=>true
 | .ins _ _ _=>true
 | _=>false
theorem Zu8 {pins:List (Addr×Obj)}{s:Shared}{σ:St}{H:Hp}{a:Addr}{o:HO} (I:Inv X pins σ H s) (h:H a=some o) (p:isObj o=true):∃ ob,s.heap.get? a=some ob∧ob.cls≠.type "tuple":=by
 cases o with
 | lst xs=>
  obtain ⟨_,its,n,_,e⟩:xs.length≤sizeLine∧∃ (its:List Value) (n:Nat),Vals xs its∧s.heap.get? a=some { cls:=.type "list",data:=.seq its.toArray n }:=I.hok a _ h;exact ⟨_,e,(by show Value.type "list"≠.type "tuple";decide +kernel)⟩
 | ins C dx fs=>
  have x:=I.hok a _ h;obtain ⟨_,_,_,e,_⟩:=x;exact ⟨_,e,(by show Value.ref C≠.type "tuple";exact fun z=>by cases z)⟩
 | _=>exact absurd (show false=true from p) Bool.false_ne_true
theorem Zau (b:Expr) {op:CmpOp} (h:op≠.In:=by decide) (h2:op≠.NotIn:=by decide):behindInMarks op b=false:=by
 have e1:(op == CmpOp.In)=false:=by cases op<;>first | rfl | exact absurd rfl h
 have e2:(op == CmpOp.NotIn)=false:=by cases op<;>first | rfl | exact absurd rfl h2
 cases b<;>simp [behindInMarks,e1,e2]
theorem Zgi {op:CmpOp}{r:R2} (ho:OpR X (compareOp op) r) (ha:PE X a ta) (hb:PE X b tb) (hm:behindInMarks op b=false):PE X (.Compare a [op] [b] pos) (tOp r ta tb):=by
 intro pins s σ H Q I h;exact wpAny_Compare1 (binT ha hb I h fun v u s2 x y H2 I2 rx ry q=>ho pins s2 σ H2 x y v u Q I2 rx ry q) hm
def Zbw (t:TE):TT:=fun σ H Q=>t σ H fun x H'=>∃ k,x=.bl k∧Q k H'
theorem Zan {op:CmpOp}{r:R2} (ho:OpR X (compareOp op) r) (ha:PE X a ta) (hb:PE X b tb) (hm:behindInMarks op b=false):PT X (.Compare a [op] [b] pos) (Zbw (tOp r ta tb)):=by
 intro pins s σ H Q I h;refine wpAny_isTrue_Compare1 (thn (ha pins s σ H _ I h) fun v s1 ⟨x,H1,I1,r1,q1⟩=>thn (hb pins s1 σ H1 _ I1 q1) fun u s2 ⟨y,H2,I2,r2,q2⟩=>
  thn (ho pins s2 σ H2 x y v u _ I2 r1 r2 q2) fun c s3 ⟨z,H3,I3,r3,k,e,q3⟩=>?_) hm
 subst e;cases r3;exact wpAny_truthy_bool ⟨H3,I3,q3⟩
def ZJ6 (r r':R2) (ta tb tc:TE):TE:=fun σ H Q=>ta σ H fun x H1=>tb σ H1 fun y H2=>r x y H2 fun z H3=>∃ k,z=.bl k∧
 (if k=true then tc σ H3 fun w' H4=>r' y w' H4 Q else Q (.bl false) H3)
theorem ZM4 {op op':CmpOp}{r r':R2} (ho:OpR X (compareOp op) r) (ho':OpR X (compareOp op') r') (ha:PE X a ta) (hb:PE X b tb) (hc:PE X c tc)
  (hm:lastMarks [op,op'] [b,c]=false:=by with_unfolding_all rfl):PE X (.Compare a [op,op'] [b,c] pos) (ZJ6 r r' ta tb tc):=by
 intro pins s σ H Q I h;refine Compare_chain (thn (ha pins s σ H _ I h) fun v s1 ⟨x,H1,I1,r1,q1⟩=>chain_link (thn (hb pins s1 σ H1 _ I1 q1) fun u s2 ⟨y,H2,I2,r2,q2⟩=>
  thn (ho pins s2 σ H2 x y v u _ I2 r1 r2 q2) fun d s3 ⟨z,H3,I3,r3,k,e,q3⟩=>?_)) hm
 subst e;cases r3;refine wpAny_truthy_bool ?_;cases k with
 | false=>exact ite_ff ⟨.bl false,H3,I3,rfl,q3⟩
 | true=>exact ite_tt (chain_last (thn (hc pins s3 σ H3 _ I3 q3) fun w' s4 ⟨z',H4,I4,r4,q4⟩=>ho' pins s4 σ H4 y z' u w' Q I4 r2 r4 q4))
theorem ZBi:(sizeLine:Nat) < 2 ^ 63:=by rw [sizeLine_eq];decide
theorem Zhw:OpR X (binaryOp .Add) (fun x y H Q=>∃ i j,x=.str i∧y=.str j∧i.length + j.length≤sizeLine∧Q (.str (i ++ j)) H):=by
 intro pins s σ H x y v u Q I rx ry h;obtain ⟨i,j,rfl,rfl,hz,q⟩:=h;obtain ⟨t,rfl⟩:=rx;obtain ⟨t',rfl⟩:=ry;exact add_str (fun t' tk=>⟨.str (i ++ j),H,I.tok _,⟨_,rfl⟩,q⟩) hz
theorem vals1 {x:V}{us:List Value} (r:Vals [x] us):∃ u,us=[u]∧RelV x u:=by
 cases r with
 | cons r1 r2=>cases r2;exact ⟨_,rfl,r1⟩
theorem vals2 {x y:V}{us:List Value} (r:Vals [x,y] us):∃ u w',us=[u,w']∧RelV x u∧RelV y w':=by
 cases r with
 | cons r1 r2=>
  cases r2 with
  | cons r3 r4=>cases r4;exact ⟨_,_,rfl,r1,r3⟩
end
end L2
namespace L2
open PySem PySem.Spec PyProof.Rows
structure ObjM (h:Heap) (x dx C:Addr) (mA:Str→Option Value):Prop where
 obj:h.get? x=some (PySem.W.instObj C dx)
 ns:h.Ns1 dx mA
 ne:dx≠x
theorem ZKg {h:Heap}{dx:Addr}{mA:Str→Option Value} (n:h.Ns1 dx mA):∃ od,h.get? dx=some od∧∀ name,PySem.W.lookIn name od=some (mA name):=by
 obtain ⟨o,es,ep,ho,hd,hk,_,hm⟩:=n;refine ⟨o,ho,fun name=>?_⟩;have e:=hm name;unfold nsFind findBy at e;rw [← Array.find?_toList] at e;unfold PySem.W.lookIn;rw [hd];dsimp only;split
 ·rename_i y q
  rw [q] at e;exact congrArg some e
 ·rename_i q
  rw [q] at e;have a:es.toList.any (·.refKey)=false:=by
   rw [List.any_eq_false];intro y hy;obtain ⟨z,t,hkey⟩:=hk y (Array.mem_toList_iff.mp hy);simp [DictEntry.refKey,hkey]
  have a':¬ es.toList.any (·.refKey)=true:=by rw [a];exact Bool.false_ne_true
  rw [if_neg a'];exact congrArg some e
theorem ObjM.look {h:Heap}{x dx C:Addr}{mA:Str→Option Value} (I:ObjM h x dx C mA):∃ od,PySem.W.InstAt h x (PySem.W.instObj C dx) C (some od)∧∀ name,PySem.W.lookIn name od=some (mA name):=
 let ⟨od,ho,hl⟩:=ZKg I.ns
 ⟨od,⟨I.obj,rfl,rfl,ho⟩,hl⟩
section
variable {prog:Program}{w:World}{A:Around}{E:Value→Shared→Prop}{s:Shared}{K:PySem.W.Frag}{x dx C f:Addr}{mA:Str→Option Value}{name:Str}{v:Value}
theorem ZPi {expr:Bool}{Q:Value→Shared→Prop} (X:K.In s.heap) (I:ObjM s.heap x dx C mA) (hg:PySem.W.plainGet K C name=true) (hh:PySem.W.hasDictIn K C=true)
  (ha:PySem.W.findIn K (.ref C) name=some none) (hv:mA name=some v) (hv':PySem.W.handedIn v=true) (h:Q v { s with toks:=s.toks + 1 }):
  wpAny (model prog w) A (getAttr (.ref x) name expr) Q E s:=by
 obtain ⟨od,J,hl⟩:=I.look;exact PySem.W.get_value X J (PySem.W.plainGet_of hg).1 (PySem.W.findObj_own hh ha rfl (by rw [hl,hv])) hv' h
theorem ZMt {pl:Sem Bool}{Q:Value×List Value→Shared→Prop} (X:K.In s.heap) (I:ObjM s.heap x dx C mA) (hg:PySem.W.plainGet K C name=true)
  (hf:PySem.W.findIn K (.ref C) name=some (some (.ref f))) (ht:PySem.W.isFn K (.ref f)=true) (hv:mA name=none) (h:Q (.ref f,[.ref x]) s):
  wpAny (model prog w) A (getMethod (.ref x) name pl) Q E s:=by
 obtain ⟨od,J,hl⟩:=I.look;exact PySem.W.method_fn X J (PySem.W.plainGet_of hg).1 (PySem.W.plainGet_of hg).2 hf (beq_iff_eq.mp ht) (by show (PySem.W.lookIn name od).map (·.isSome)=some false;rw [hl,hv];rfl) h
theorem ZOb {ns:List Str}{Q:Unit→Shared→Prop} (X:K.In s.heap) (I:ObjM s.heap x dx C mA)
  (hs:PySem.W.findIn K (.ref C) "__setattr__"=some (some (.builtin "object.__setattr__"))) (hp:PySem.W.plainOver K C=true) (ht:PySem.W.takerIn K C name=some none) (hh:PySem.W.hasDictIn K C=true)
  (hw:PySem.Within mA ns) (hsz:ns.length≤sizeLine)
  (h:∀ h',ObjM h' x dx C (fun y=>if y=name then some v else mA y)→Heap.SameBut dx s.heap h'→Q () { s with heap:=h',toks:=s.toks + 2 }):
  wpAny (model prog w) A (setAttr (.ref x) name v) Q E s:=by
 obtain ⟨od,J,hl⟩:=I.look;refine PySem.W.set_plain X J hs (PySem.W.osa_open (s:={ s with toks:=s.toks + 1 }) (r:=none) X J hp ht fun b=>?_);obtain ⟨cd,hc,hd'⟩:=PySem.W.any_some hh;have hx:s.heap.get? x=some ⟨.ref C,some dx,.plain,#[]⟩:=I.obj;refine wpAny_bind (wpAny_pure (wpAny_bind (wpAny_bind (wpAny_loadPart hx (wpAny_bind (PySem.W.Looks.here (s:={ s with toks:=s.toks + 1 }) (PySem.W.looks_clsIn X hc) ?_))))));rw [hd'];refine wpAny_pure (a:=some dx) (wpAny_bind (wpAny_pure (wpAny_bind ?_)));refine wpAny_nsSet1 (s:={ s with toks:=s.toks + 1 }) I.ns fun h' hn2 hs2=>?_;obtain ⟨oD,esD,epD,hoD,hdD,hcD⟩:=hn2.count (PySem.Within.cons name v hw);refine wpAny_bind (wpAny_lookBehind hoD (by rw [hdD];exact pastItsLine_dict (Nat.le_trans hcD (by rw [List.length_cons];omega))) ?_);exact wpAny_pure (h _ ⟨(hs2.2 _ (Ne.symm I.ne)).trans I.obj,hn2,I.ne⟩ hs2)
theorem ZMc {R:Result→Shared→Prop}{vs:List Value}{kw:List (Str×Value)} (X:K.In s.heap) (hm:PySem.W.makesIn K C=true)
  (hi:PySem.W.findIn K (.ref C) "__init__"=some (some (.ref f))) (hf:PySem.W.typeIn K (.ref f)=some (.type "function"))
  (h:codeAny (model prog w) (A.under (.builtin "type.__call__" ⟨.ref C :: vs,kw⟩)) (.call (.ref f) ⟨.ref (s.heap.objs.size + 1) :: vs,kw⟩) (PySem.W.InitBack (s.heap.objs.size + 1) R)
   { s with heap:=(s.heap.push PySem.W.emptyDict).push (PySem.W.instObj C s.heap.objs.size) }):
  codeAny (model prog w) A (.call (.ref C) ⟨vs,kw⟩) R s:=by
 obtain ⟨hh,g,d,t,os⟩:=s;exact PySem.W.make_core (PySem.W.makes_of X hm) (PySem.W.looks_findIn X hi) (fun self=>PySem.W.bind_fn X self hf) (.inl rfl) h
theorem ZK6 {R:Result→Shared→Prop} (X:K.In s.heap) (hm:PySem.W.makesIn K C=true)
  (hi:PySem.W.findIn K (.ref C) "__init__"=some (some (.builtin "object.__init__")))
  (hb:∀ self,PySem.W.Looks (model prog w) s.heap (bindSpecial (.builtin "object.__init__") self) (.builtin "object.__init__",[self]))
  (h:codeAny (model prog w) (A.under (.builtin "type.__call__" ⟨[.ref C],[]⟩)) (.call (.builtin "object.__init__") ⟨[.ref (s.heap.objs.size + 1)],[]⟩) (PySem.W.InitBack (s.heap.objs.size + 1) R)
   { s with heap:=(s.heap.push PySem.W.emptyDict).push (PySem.W.instObj C s.heap.objs.size) }):
  codeAny (model prog w) A (.call (.ref C) ⟨[],[]⟩) R s:=by
 obtain ⟨hh,g,d,t,os⟩:=s;exact PySem.W.make_core (PySem.W.makes_of X hm) (PySem.W.looks_findIn X hi) hb (.inr ⟨rfl,rfl⟩) h
end
def putF (f:Str) (v:V):List (Str×V)→List (Str×V)
 | []=>[(f,v)]
 | (g,x) :: r=>if g=f then (g,v) :: r else (g,x) :: putF f v r
theorem Zuj (f g:Str) (v:V):∀ fs:List (Str×V),(putF f v fs).lookup g=if g=f then some v else fs.lookup g
 | []=>by
  show List.lookup g [(f,v)]=_
  by_cases h:g=f
  ·have hb:(g == f)=true:=beq_iff_eq.mpr h;simp only [List.lookup,hb,if_pos h]
  ·have hb:(g == f)=false:=beq_eq_false_iff_ne.mpr h;simp only [List.lookup,hb,if_neg h]
 | (k,x) :: r=>by
  have ih:=Zuj f g v r;rw [show putF f v ((k,x) :: r)=(if k=f then (k,v) :: r else (k,x) :: putF f v r) from rfl]
  by_cases hk:k=f
  ·rw [if_pos hk]
   by_cases h:g=k
   ·have hb:(g == k)=true:=beq_iff_eq.mpr h;simp only [List.lookup,hb,if_pos (h.trans hk)]
   ·have hb:(g == k)=false:=beq_eq_false_iff_ne.mpr h;simp only [List.lookup,hb,if_neg (fun e:g=f=>h (e.trans hk.symm))]
  ·rw [if_neg hk]
   by_cases h:g=k
   ·have hb:(g == k)=true:=beq_iff_eq.mpr h;simp only [List.lookup,hb,if_neg (fun e:g=f=>hk (h.symm.trans e))]
   ·have hb:(g == k)=false:=beq_eq_false_iff_ne.mpr h;simp only [List.lookup,hb];exact ih
theorem Zun (f:Str) (v:V):∀ fs:List (Str×V),f∈(putF f v fs).map (·.1)∧∀ g,g∈fs.map (·.1)→g∈(putF f v fs).map (·.1)
 | []=>⟨by simp [putF],fun g h=>by simp at h⟩
 | (k,x) :: r=>by
  obtain ⟨i1,i2⟩:=Zun f v r;rw [show putF f v ((k,x) :: r)=(if k=f then (k,v) :: r else (k,x) :: putF f v r) from rfl]
  by_cases hk:k=f
  ·rw [if_pos hk];subst hk;exact ⟨by simp,fun g h=>by simpa using h⟩
  ·rw [if_neg hk];refine ⟨?_,fun g h=>?_⟩
   ·rw [List.map_cons];exact List.mem_cons_of_mem _ i1
   ·rw [List.map_cons] at h ⊢;rcases List.mem_cons.mp h with e | e
    ·exact List.mem_cons.mpr (.inl e)
    ·exact List.mem_cons_of_mem _ (i2 g e)
theorem Zuk (f:Str) (v:V):∀ fs:List (Str×V),(putF f v fs).length≤fs.length + 1
 | []=>by simp [putF]
 | (k,x) :: r=>by
  have ih:=Zuk f v r;rw [show putF f v ((k,x) :: r)=(if k=f then (k,v) :: r else (k,x) :: putF f v r) from rfl]
  by_cases hk:k=f
  ·rw [if_pos hk,List.length_cons,List.length_cons];omega
  ·rw [if_neg hk,List.length_cons,List.length_cons];omega
theorem RelO.some_of {v:V}{o:Option Value} (r:RelO (some v) o):∃ u,o=some u∧RelV v u:=by
 cases o with
 | none=>exact (show False from r).elim
 | some u=>exact ⟨u,rfl,r⟩
theorem RelO.none_of {o:Option Value} (r:RelO none o):o=none:=by
 cases o with
 | none=>rfl
 | some u=>exact (show False from r).elim
theorem ZKs {v:V}{u:Value} (r:RelV v u):PySem.W.handedIn u=true:=by
 cases v with
 | non=>cases (show u=Value.none from r);rfl
 | bl b=>cases (show u=Value.bool b from r);rfl
 | int i=>obtain ⟨t,e⟩:=(show ∃ t,u=Value.int i t from r);cases e;rfl
 | str x=>obtain ⟨t,e⟩:=(show ∃ t,u=Value.str x t from r);cases e;rfl
 | byt b=>obtain ⟨t,e⟩:=(show ∃ t,u=Value.bytes b t from r);cases e;rfl
 | flt b=>obtain ⟨t,e⟩:=(show ∃ t,u=Value.float b t from r);cases e;rfl
 | ref a=>cases (show u=Value.ref a from r);rfl
 | ty n=>cases (show u=Value.type n from r);rfl
section
variable {P:Program}{w:World}{H H':Hp}{h h':Heap}{a C dx:Addr}{fs fs':List (Str×V)}
theorem Zyo (hok:HOk P w H h) (e:H a=some (.ins C dx fs)):∃ mA,ObjM h a dx C mA∧(∀ f,RelO (fs.lookup f) (mA f))∧PySem.Within mA (fs.map (·.1))∧fs.length≤1000∧H dx=some (.own a):=by
 obtain ⟨d,z,ne,ob,mA,n,r,q⟩:=(show Zgb P w H h a (.ins C dx fs) from hok a _ e);exact ⟨mA,⟨ob,n,ne⟩,r,q,z,d⟩
end
structure Cls (K:PySem.W.Frag) (C:Addr):Prop where
 pg:PySem.W.plainGet K C Str.empty=true
 hd:PySem.W.hasDictIn K C=true
 po:PySem.W.plainOver K C=true
 sa:PySem.W.findIn K (.ref C) "__setattr__"=some (some (.builtin "object.__setattr__"))
theorem Cls.get {K:PySem.W.Frag}{C:Addr} (c:Cls K C) (f:Str):PySem.W.plainGet K C f=true:=c.pg
def Zay (K:PySem.W.Frag) (C:Addr) (f:Str):Prop:=PySem.W.findIn K (.ref C) f=some none
theorem Zay.taker {K:PySem.W.Frag}{C:Addr}{f:Str} (n:Zay K C f):PySem.W.takerIn K C f=some none:=by
 unfold PySem.W.takerIn;rw [show PySem.W.findIn K (.ref C) f=some none from n];rfl
structure Con (K:PySem.W.Frag) (C:Addr) (f:Str) (v:V) (u:Value):Prop where
 at_:PySem.W.findIn K (.ref C) f=some (some u)
 rel:RelV v u
 get:PySem.W.specialIn K u "__get__"=some none
 cp:PySem.W.copiedNames.contains f=false
structure Meth (K:PySem.W.Frag) (C:Addr) (m:Str) (f:Addr):Prop where
 at_:PySem.W.findIn K (.ref C) m=some (some (.ref f))
 fn:PySem.W.isFn K (.ref f)=true
 kp:PySem.W.keepIn K (.ref f)=true
section
variable {X:Cx}{pins:List (Addr×Obj)}{σ:St}{H:Hp}{s:Shared}{a C dx:Addr}{fs:List (Str×V)}{f:Str}{v:V}{A:Around}{E:Value→Shared→Prop}
theorem ZIc {b:Bool}{Q:Value→Shared→Prop} (I:Inv X pins σ H s) (e:H a=some (.ins C dx fs)) (c:Cls X.K C) (n:Zay X.K C f) (l:fs.lookup f=some v)
  (h:∀ u s',Inv X pins σ H s'→RelV v u→Q u s'):wpAny (model X.prog X.w) A (getAttr (.ref a) f b) Q E s:=by
 obtain ⟨mA,O,r,_,_,_⟩:=Zyo I.hok e;obtain ⟨u,hu,ru⟩:=RelO.some_of (v:=v) (o:=mA f) (by rw [← l];exact r f);exact ZPi I.kIn O (c.get f) c.hd n hu (ZKs ru) (h u _ (I.tok _) ru)
theorem Zwr {m:Str}{g:Addr}{pl:Sem Bool}{Q:Value×List Value→Shared→Prop} (I:Inv X pins σ H s) (e:H a=some (.ins C dx fs)) (c:Cls X.K C) (k:Meth X.K C m g) (l:fs.lookup m=none)
  (h:Q (.ref g,[.ref a]) s):wpAny (model X.prog X.w) A (getMethod (.ref a) m pl) Q E s:=by
 obtain ⟨mA,O,r,_,_,_⟩:=Zyo I.hok e;have hn:mA m=none:=RelO.none_of (by rw [← l];exact r m);exact ZMt I.kIn O (c.get m) k.at_ k.fn hn h
theorem ZGv {y:V}{u:Value}{Q:Unit→Shared→Prop} (I:Inv X pins σ H s) (e:H a=some (.ins C dx fs)) (c:Cls X.K C) (n:Zay X.K C f) (hl:fs.length < 1000) (ry:RelV y u)
  (h:∀ s',Inv X pins σ (upd H a (.ins C dx (putF f y fs))) s'→Q () s'):wpAny (model X.prog X.w) A (setAttr (.ref a) f u) Q E s:=by
 obtain ⟨mA,O,r,wi,_,ho⟩:=Zyo I.hok e;have hz:(fs.map (·.1)).length≤sizeLine:=by rw [List.length_map,sizeLine_eq];omega
 refine ZOb I.kIn O c.sa c.po n.taker c.hd wi hz fun h' O' sb=>h _ ?_;have hd:∃ o,h'.get? dx=some o:=let ⟨o,_,_,e',_⟩:=O'.ns;⟨o,e'⟩
 refine I.write (x:=a) (e:=dx) (by rw [e];exact True.intro) (.inr ho) (fun b q hb z=>(sb.2 b hb).trans z) hd ?_;refine ⟨by rw [Za9 O.ne];exact ho,?_,O.ne,O'.obj,_,O'.ns,fun g=>?_,fun g hg=>?_⟩
 ·have:=Zuk f y fs;omega
 ·show RelO ((putF f y fs).lookup g) (if g=f then some u else mA g);rw [Zuj]
  by_cases q:g=f
  ·rw [if_pos q,if_pos q];exact ry
  ·rw [if_neg q,if_neg q];exact r g
 ·by_cases q:g=f
  ·rw [q];exact (Zun f y fs).1
  ·refine (Zun f y fs).2 g (wi g fun z=>hg ?_);show (if g=f then some u else mA g)=none;rw [if_neg q];exact z
theorem Inv.made (I:Inv X pins σ H s):Inv X pins σ (upd (upd H s.heap.objs.size (.own (s.heap.objs.size + 1))) (s.heap.objs.size + 1) (.ins C s.heap.objs.size []))
  { s with heap:=(s.heap.push PySem.W.emptyDict).push (PySem.W.instObj C s.heap.objs.size) }:=by
 have e1:(s.heap.push PySem.W.emptyDict).get? s.heap.objs.size=some PySem.W.emptyDict:=Heap.get?_push_size s.heap rfl;have e2:((s.heap.push PySem.W.emptyDict).push (PySem.W.instObj C s.heap.objs.size)).get? (s.heap.objs.size + 1)=some (PySem.W.instObj C s.heap.objs.size):=by
  have:=Heap.get?_push_size (s.heap.push PySem.W.emptyDict) (o:=PySem.W.instObj C s.heap.objs.size) rfl
  rwa [Heap.size_push] at this
 have e3:(s.heap.push PySem.W.emptyDict).Ns s.heap.objs.size (fun _=>none):=⟨PySem.W.emptyDict,#[],_,e1,rfl,(fun e he=>absurd he (by simp)),fun _=>rfl⟩;have I1:=I.laid (a:=s.heap.objs.size) (o:=.own (s.heap.objs.size + 1)) (h':=s.heap.push PySem.W.emptyDict) (t':=s.toks) (fun b u q=>Heap.get?_push_of_some _ q) (Nat.le_refl _) ⟨_,e1⟩;refine I1.laid (a:=s.heap.objs.size + 1) (o:=.ins C s.heap.objs.size []) (t':=s.toks) (fun b u q=>Heap.get?_push_of_some _ q) (Nat.le_of_eq (Heap.size_push _ _)) ?_;have ne:s.heap.objs.size≠s.heap.objs.size + 1:=Nat.ne_of_lt (Nat.lt_succ_self _);refine ⟨by rw [Za9 ne,Za2],Nat.zero_le _,ne,e2,fun _=>none,(Heap.Ns1.of_empty e3).at fun o q=>Heap.get?_push_of_some _ q,fun _=>True.intro,fun y hy=>absurd rfl hy⟩
theorem ZPw {prog:Program}{w:World}{env:Env}{e:Expr}{f:Str}{pos:Pos}{s:Shared}{Q:Value→Shared→Prop} (hb:attributeBase e f env (eval e env)=eval e env)
  (h:wpAny (model prog w) A (eval e env) (fun o s₁=>wpAny (model prog w) A (getAttr o f true) Q E s₁) E s):wpAny (model prog w) A (eval (.Attribute e f pos) env) Q E s:=
 Attribute_any_ h (by rw [arm_eval_Attribute,hb])
end
def tFld (K:PySem.W.Frag) (ta:TE) (f:Str):TE:=fun σ H Q=>ta σ H fun x H1=>∃ a C dx fs v,x=.ref a∧H1 a=some (.ins C dx fs)∧Cls K C∧Zay K C f∧fs.lookup f=some v∧Q v H1
def sFld (K:PySem.W.Frag) (ta tv:TE) (f:Str):TS:=fun D σ H=>tv σ H fun y H1=>ta σ H1 fun x H2=>∃ a C dx fs,x=.ref a∧H2 a=some (.ins C dx fs)∧Cls K C∧Zay K C f∧fs.length < 1000∧
 D.nx σ (upd H2 a (.ins C dx (putF f y fs)))
section
variable {X:Cx}{o e value:Expr}{f:Str}{pos pos' tpos:Pos}{ta tv:TE}
theorem Zaq (he:PE X e ta) (hb:attributeBase e f X.env (eval e X.env)=eval e X.env):PE X (.Attribute e f pos) (tFld X.K ta f):=by
 intro pins s σ H Q I h;refine ZPw hb (thn (he pins s σ H _ I h) fun u s1 ⟨x,H1,I1,rx,a,C,dx,fs,v,ex,ea,c,n,l,q⟩=>?_);subst ex;obtain rfl:u=Value.ref a:=rx;exact ZIc I1 ea c n l fun u' s2 I2 ru=>⟨v,H1,I2,ru,q⟩
theorem Zd8 (ha:PE X o ta) (hv:PE X value tv) (hs:swapsWith value (some (.Attribute o f pos')) pos.line X.env=pure false):PS X (.Assign [.Attribute o f pos'] value pos) (sFld X.K ta tv f):=by
 intro pins s σ H D I h;refine plainObj_wpAny_Assign_Attribute (thn (hv pins s σ H _ I h) fun u s1 ⟨y,H1,I1,ry,q⟩=>thn (ha pins s1 σ H1 _ I1 q) fun ov s2 ⟨x,H2,I2,rx,a,C,dx,fs,ex,ea,c,n,l,q2⟩=>?_) hs;subst ex;obtain rfl:ov=Value.ref a:=rx;exact ZGv I2 ea c n l ry fun s3 I3=>⟨σ,_,I3,q2⟩
end
section
variable {X:Cx}{pins:List (Addr×Obj)}{σ:St}{H:Hp}{s:Shared}{A:Around}{E:Value→Shared→Prop}{Q:Value→Shared→Prop}{c:Value}{b:Bool}
inductive TyOf (K:PySem.W.Frag) (H:Hp):V→Value→Prop where
 | non:TyOf K H .non (.type "NoneType")
 | bl (x:Bool):TyOf K H (.bl x) (.type "bool")
 | int (i:Int):TyOf K H (.int i) (.type "int")
 | str (x:Str):TyOf K H (.str x) (.type "str")
 | flt (x:UInt64):TyOf K H (.flt x) (.type "float")
 | lst {a:Addr}{xs:List V} (e:H a=some (.lst xs)):TyOf K H (.ref a) (.type "list")
 | frz {a:Addr}{o:Obj}{xs:List V} (e:H a=some (.frz o (.lst xs))):TyOf K H (.ref a) (.type "list")
 | tup {a:Addr}{xs:List V} (e:H a=some (.tup xs)):TyOf K H (.ref a) (.type "tuple")
 | dK {a:Addr}{kvs:List (Key×V)} (e:H a=some (.dK kvs)):TyOf K H (.ref a) (.type "dict")
 | dT {a:Addr}{kvs:List (List Key×V)} (e:H a=some (.dT kvs)):TyOf K H (.ref a) (.type "dict")
 | ins {a C dx:Addr}{fs:List (Str×V)} (e:H a=some (.ins C dx fs)) (cl:Cls K C) (ha:PySem.W.findIn K (.ref C) "__class__"=some (some (.builtin "object.__class__")))
   (hn:PySem.W.specialIn K (.builtin "object.__class__") "__get__"=some (some (.builtin "getset_descriptor.__get__"))) (htk:PySem.W.takesIn K (.builtin "object.__class__")=some true)
   (hm:PySem.W.mroIn K C (.type "object")=some true):TyOf K H (.ref a) (.ref C)
theorem ZKm {x:V}{u t:Value} (I:Inv X pins σ H s) (rx:RelV x u) (ty:TyOf X.K H x t) (e:PySem.W.kitOne X.K t c=some b) (h:∀ tk,Q (.bool b) { s with toks:=tk }):
  wpAny (model X.prog X.w) A (call (.builtin "isinstance") [u,c]) Q E s:=by
 cases ty with
 | non=>cases (show u=Value.none from rx);exact PySem.W.kia_one PySem.W.kitx_none I.kIn True.intro e (fun z=>nomatch z) h
 | bl y=>cases (show u=Value.bool y from rx);exact PySem.W.kia_one PySem.W.kitx_bool I.kIn True.intro e (fun z=>nomatch z) h
 | int i=>obtain ⟨t,q⟩:=(show ∃ t,u=Value.int i t from rx);cases q;exact PySem.W.kia_one PySem.W.kitx_int I.kIn True.intro e (fun z=>nomatch z) h
 | str y=>obtain ⟨t,q⟩:=(show ∃ t,u=Value.str y t from rx);cases q;exact PySem.W.kia_one PySem.W.kitx_str I.kIn True.intro e (fun z=>nomatch z) h
 | flt y=>obtain ⟨t,q⟩:=(show ∃ t,u=Value.float y t from rx);cases q;exact PySem.W.kia_one PySem.W.kitx_float I.kIn True.intro e (fun z=>nomatch z) h
 | @lst a xs ea=>
  cases (show u=Value.ref a from rx);obtain ⟨_,_,n,_,h1⟩:=(show Zgb X.prog X.w H s.heap a (.lst xs) from I.hok a _ ea);exact PySem.W.kia_one PySem.W.kitx_list I.kIn ⟨_,h1,rfl⟩ e (fun z=>nomatch z) h
 | @frz a ob xs ea=>
  cases (show u=Value.ref a from rx);obtain ⟨_,_,_,n,_,h1⟩:=(show Zgb X.prog X.w H s.heap a (.frz ob (.lst xs)) from I.hok a _ ea);exact PySem.W.kia_one PySem.W.kitx_list I.kIn ⟨_,h1,rfl⟩ e (fun z=>nomatch z) h
 | @tup a xs ea=>
  cases (show u=Value.ref a from rx);obtain ⟨_,_,_,p⟩:=(show Zgb X.prog X.w H s.heap a (.tup xs) from I.hok a _ ea);obtain ⟨o,h1,h2,_⟩:=p;exact PySem.W.kia_one PySem.W.kitx_tuple I.kIn ⟨o,h1,h2⟩ e (fun z=>nomatch z) h
 | @dK a kvs ea=>
  cases (show u=Value.ref a from rx);obtain ⟨_,_,vs,_,p⟩:=(show Zgb X.prog X.w H s.heap a (.dK kvs) from I.hok a _ ea);obtain ⟨o,es,ep,h1,h2,_⟩:=p;exact PySem.W.kia_one PySem.W.kitx_dict I.kIn ⟨o,h1,h2.1⟩ e (fun z=>nomatch z) h
 | @dT a kvs ea=>
  cases (show u=Value.ref a from rx);obtain ⟨_,_,xs,_,o,es,ep,h1,h2,_⟩:=(show Zgb X.prog X.w H s.heap a (.dT kvs) from I.hok a _ ea);exact PySem.W.kia_one PySem.W.kitx_dict I.kIn ⟨o,h1,h2.1⟩ e (fun z=>nomatch z) h
 | @ins a C dx fs ea cl ha hn htk hm=>
  cases (show u=Value.ref a from rx);obtain ⟨mA,O,_⟩:=Zyo I.hok ea;obtain ⟨od,J,_⟩:=O.look;exact PySem.W.kia_one (PySem.W.kitx_own (cl.get _) cl.hd ha hn htk hm) I.kIn J e (fun z=>nomatch z) h
end
end L2
namespace L2
open PySem PySem.Spec PyProof.Rows
structure Room (k:Nat) (A:Around):Prop where
 hd:A.handled=none
 dp:A.depth + 3 * k + 5 < recursionLimit
 un:A.units + 16 * k + 200 < cLine
theorem Room.mono {j k:Nat}{A:Around} (r:Room k A) (h:j≤k):Room j A:=⟨r.hd,by have:=r.dp;omega,by have:=r.un;omega⟩
theorem Room.deeper {k:Nat}{A:Around} (r:Room (k + 1) A) (env:Env):Room k (A.deeper env):=
 ⟨r.hd,by have:=r.dp;show A.depth + 1 + 3 * k + 5 < _;omega,by have:=r.un;show A.units + 3 + 16 * k + 200 < _;omega⟩
theorem ZHu {A:Around}{C:Addr}{us:List Value}{kw:List (Str×Value)}:(A.under (.builtin "type.__call__" ⟨.ref C :: us,kw⟩)).depth=A.depth + 1:=by
 first | rfl | simp [Around.under,Code.weight,Code.isCreation,Code.isGuard,Code.isCaller,Code.frames,Code.isFrame,guardIds]
theorem ZHt {A:Around}{C:Addr}{us:List Value}{kw:List (Str×Value)}:(A.under (.builtin "type.__call__" ⟨.ref C :: us,kw⟩)).units=A.units + 1:=by
 first | rfl | simp [Around.under,Code.cUnits,Code.frames,Code.isFrame]
theorem Room.make {k:Nat}{A:Around} (r:Room (k + 1) A) (C:Addr) (us:List Value) (kw:List (Str×Value)):Room k (A.under (.builtin "type.__call__" ⟨.ref C :: us,kw⟩)):=
 ⟨r.hd,by have:=r.dp;rw [ZHu];omega,by have:=r.un;rw [ZHt];omega⟩
theorem Room.depth {k:Nat}{A:Around} (r:Room k A):A.depth < recursionLimit:=by have:=r.dp;omega
theorem Room.units {k:Nat}{A:Around} (r:Room k A):A.units + 64 < cLine:=by have:=r.un;omega
def tNil:TA:=fun _ H Q=>Q [] H
def Za3 (ta:TE) (tr:TA):TA:=fun σ H Q=>ta σ H fun x H1=>tr σ H1 fun xs H2=>Q (x :: xs) H2
section
variable {X:Cx}{e:Expr}{es:List Expr}{te:TE}{t:TA}{pos:Pos}
theorem Za6:PA X [] tNil:=fun _ _ _ _ H Q I h=>Calls.spliced_nil ⟨[],H,I,.nil,h⟩
theorem Za0 (ha:PE X e te) (hr:PA X es t) (hs:starEach (e :: es) X.env=(false,eval e X.env) :: starEach es X.env:=by rfl):PA X (e :: es) (Za3 te t):=by
 intro pos pins s σ H Q I h;rw [hs];show wpAny _ _ (spliced ((false,eval e X.env) :: backTo pos (starEach es X.env))) _ _ s;refine Calls.spliced_cons (thn (ha pins s σ H _ I h) fun u s1 ⟨x,H1,I1,r1,q1⟩=>?_);exact thn (hr pos pins s1 σ H1 _ I1 q1) fun us s2 ⟨xs,H2,I2,r2,q2⟩=>⟨x :: xs,H2,I2,.cons r1 r2,q2⟩
def tTup (t:TA):TE:=fun σ H Q=>t σ H fun xs H1=>xs.length≤sizeLine∧∀ p,H1 p=none→Q (.ref p) (upd H1 p (.tup xs))
def tLst (t:TA):TE:=fun σ H Q=>t σ H fun xs H1=>xs.length≤sizeLine∧∀ p,H1 p=none→Q (.ref p) (upd H1 p (.lst xs))
theorem Zdq {x1} (h:PA X es t):PE X (.Tuple es x1 pos) (tTup t):=by
 intro pins s σ H Q I hq;refine wpAny_Tuple_spliced (thn (h pos pins s σ H _ I hq) fun us s1 ⟨xs,H1,I1,r,z,q⟩=>⟨by rw [← r.length];exact z,?_⟩);have hf:H1 s1.heap.objs.size=none:=I1.hok.fresh (Nat.le_refl _);refine ⟨.ref s1.heap.objs.size,upd H1 s1.heap.objs.size (.tup xs),I1.laid (t':=s1.toks) (fun b u e=>Heap.get?_push_of_some _ e) (Nat.le_refl _) ?_,rfl,q _ hf⟩;exact ⟨z,us,r,⟨_,Heap.get?_push_size _ rfl,rfl,_,rfl⟩⟩
theorem Zd9 (h:PA X es t):PE X (.List es pos) (tLst t):=by
 intro pins s σ H Q I hq;refine wpAny_List_spliced (thn (h pos pins s σ H _ I hq) fun us s1 ⟨xs,H1,I1,r,z,q⟩=>⟨by rw [← r.length];exact z,?_⟩);have hf:H1 s1.heap.objs.size=none:=I1.hok.fresh (Nat.le_refl _);refine ⟨.ref s1.heap.objs.size,upd H1 s1.heap.objs.size (.lst xs),I1.laid (t':=s1.toks) (fun b u e=>Heap.get?_push_of_some _ e) (Nat.le_refl _) ?_,rfl,q _ hf⟩;exact ⟨z,us,0,r,Heap.get?_push_size _ rfl⟩
end
abbrev Sp:=List V→Hp→VK→XK→Prop
abbrev CXT:=List Env→Hp→Shared→XK→Value→Shared→Prop
structure Env0 (P:Program) (w:World) (K:PySem.W.Frag) (mg:Str→Option Value) (base:Heap) (A:Around) (outer:List Env) (s:Shared) (H:Hp):Prop where
 frames:A.frames=some outer
 mod:Mod K mg base
 bs:∀ b o,base.get? b=some o→s.heap.get? b=some o∧H b=none
 bsz:base.objs.size≤s.heap.objs.size
 funs:s.heap.FunFrames base outer
 frf:∀ b∈frs outer,H b=none
 hok:HOk P w H s.heap
 bare:AllBare s.gens
def CE (outer:List Env) (P:Program) (w:World) (H:Hp) (s:Shared) (Q:VK) (u:Value) (s':Shared):Prop:=
 ∃ v H',s'.os=s.os∧AllBare s'.gens∧Un (frs outer) [] H H' s.heap s'.heap∧HOk P w H' s'.heap∧RelV v u∧Q v H'
def CR (CX:CXT) (outer:List Env) (P:Program) (w:World) (H:Hp) (s:Shared) (Q:VK) (E:XK) (r:Result) (s':Shared):Prop:=
 match r with
 | .ok (.ret u)=>CE outer P w H s Q u s'
 | .ok _=>False
 | .error e=>CX outer H s E e s'
structure FnOk (P:Program) (w:World) (K:PySem.W.Frag) (mg:Str→Option Value) (base:Heap) (CX:CXT) (k:Nat) (f:Addr) (fd:FuncData) (ps:List Str) (sp:Sp):Prop where
 len:∀ vs H Q E,sp vs H Q E→vs.length=ps.length
 run:∀ (A:Around) (outer:List Env) (s:Shared) (H:Hp) (args:Args) (us:List Value) (vs:List V) (Q:VK) (E:XK),Room k A→Env0 P w K mg base A outer s H→BindsTo s fd args (ps.zip us)→Vals vs us→sp vs H Q E→
  codeAny (model P w) A (.call (.ref f) args) (CR CX outer P w H s Q E) s
theorem Env0.make {P:Program}{w:World}{K:PySem.W.Frag}{mg:Str→Option Value}{base:Heap}{A:Around}{outer:List Env}{s:Shared}{H:Hp} (e:Env0 P w K mg base A outer s H) (C:Addr) (us:List Value) (kw:List (Str×Value)):
  Env0 P w K mg base (A.under (.builtin "type.__call__" ⟨.ref C :: us,kw⟩)) outer s H:=⟨by first | exact e.frames | (simpa [Around.under,Code.envs,Code.isFrame,pushEnvs] using e.frames),e.mod,e.bs,e.bsz,e.funs,e.frf,e.hok,e.bare⟩
section
variable {X:Cx}{pins:List (Addr×Obj)}{σ:St}{H:Hp}{s s':Shared}
theorem Inv.env0 (I:Inv X pins σ H s):Env0 X.prog X.w X.K X.mg X.base X.A X.stack s H:=
 ⟨I.ok.frames,I.ok.mod,I.bs,Nat.le_trans I.ok.bsz I.sz,I.stack,I.stkFree,I.hok,I.bare⟩
theorem Inv.after {Q:VK}{u:Value} (I:Inv X pins σ H s) (h:CE X.stack X.prog X.w H s Q u s'):EP X pins σ Q u s':=by
 obtain ⟨v,H',os,bare,un,hok,r,q⟩:=h;obtain ⟨hh,g,d,t,os'⟩:=s';obtain rfl:os'=s.os:=os;exact ⟨v,H',I.call (h':=hh) (g':=g) (d':=d) (t':=t) (ch:=[]) un hok bare (fun b z=>absurd z (by simp)),r,q⟩
end
def Zb5 (sp:Sp) (dvs:List V) (E:XK) (t:TA):TE:=fun σ H Q=>t σ H fun vs H1=>sp (vs ++ dvs) H1 Q E
def Zoz (C:Addr) (m:Str) (sp:Sp) (dvs:List V) (E:XK) (ta:TE) (t:TA):TE:=fun σ H Q=>ta σ H fun x H1=>∃ a dx fs,x=.ref a∧H1 a=some (.ins C dx fs)∧fs.lookup m=none∧
 t σ H1 fun vs H2=>sp (x :: (vs ++ dvs)) H2 Q E
def Zvg (C:Addr) (sp:Sp) (dvs:List V) (E:XK) (t:TA):TE:=fun σ H Q=>t σ H fun vs H1=>∀ x dx,H1 x=none→H1 dx=none→dx≠x→
 sp (.ref x :: (vs ++ dvs)) (upd (upd H1 dx (.own x)) x (.ins C dx [])) (fun v H2=>v=.non∧Q (.ref x) H2) E
def Binds (K:PySem.W.Frag) (fd:FuncData) (ps:List Str) (ds:List Value):Prop:=
 ∀ (s:Shared) (us:List Value),K.In s.heap→(us ++ ds).length=ps.length→BindsTo s fd ⟨us,[]⟩ (ps.zip (us ++ ds))
theorem Binds.all {K:PySem.W.Frag}{fd:FuncData}{ps:List Str} (h:∀ us:List Value,us.length=ps.length→bindArgs fd ⟨us,[]⟩=pure (ps.zip us)):Binds K fd ps []:=fun s us _ hl=>by
 rw [List.append_nil] at hl ⊢;exact .of_eq (h us hl)
def Zns (CX:CXT) (X:Cx) (E:XK):Prop:=∀ (pins:List (Addr×Obj)) (σ:St) (H:Hp) (s:Shared) (e:Value) (s':Shared),Inv X pins σ H s→CX X.stack H s E e s'→X.xe e s'
section
variable {X:Cx}{CX:CXT}{k:Nat}{f C:Addr}{fd:FuncData}{ps:List Str}{sp:Sp}{dvs:List V}{ds:List Value}{E:XK}{x m:Str}{p pos apos:Pos}{e o:Expr}{es:List Expr}{ta:TE}{t:TA}
theorem ZFn {pins:List (Addr×Obj)}{σ:St}{H:Hp}{s:Shared}{Q:VK}{us:List Value}{vs:List V} (F:FnOk X.prog X.w X.K X.mg X.base CX k f fd ps sp) (hr:Room k X.A) (hb:Binds X.K fd ps ds) (hd:Vals dvs ds) (hx:Zns CX X E)
  (I:Inv X pins σ H s) (r:Vals vs us) (h:sp (vs ++ dvs) H Q E):wpAny (model X.prog X.w) X.A (call (.ref f) us) (EP X pins σ Q) X.xe s:=by
 have r2:Vals (vs ++ dvs) (us ++ ds):=r.append hd;have hl:(us ++ ds).length=ps.length:=by rw [← r2.length];exact F.len _ _ _ _ h
 refine wpAny_call (codeAny_mono (F.run X.A X.stack s H ⟨us,[]⟩ (us ++ ds) (vs ++ dvs) Q E hr I.env0 (hb s us I.kIn hl) r2 h) fun r s' hq=>?_);cases r with
 | error e=>exact hx pins σ H s e s' I hq
 | ok fl=>
  cases fl with
  | ret u=>exact I.after hq
  | next=>exact False.elim hq
  | brk=>exact False.elim hq
  | cont=>exact False.elim hq
theorem Zjh (F:FnOk X.prog X.w X.K X.mg X.base CX k f fd ps sp) (hr:Room k X.A) (hg:Gl X x) (hm:X.mg x=some (.ref f)) (hk:PySem.W.keepIn X.K (.ref f)=true) (hb:Binds X.K fd ps ds) (hd:Vals dvs ds) (hx:Zns CX X E)
  (ha:PA X (e :: es) t) (hdb:(x == ("__debug__":Str))=false:=by decide) (he:starEach (e :: es) X.env=(false,eval e X.env) :: starEach es X.env:=by rfl) (hpl:(backTo pos (starEach es X.env)).any (·.1)=false:=by rfl):
  PE X (.Call (.Name x p) (e :: es) [] pos) (Zb5 sp dvs E t):=by
 intro pins s σ H Q I h;refine wpAny_Call_Name_kw (Zeo I hg hm ?_ hdb);refine PySem.W.callWith_K (h₀:=X.base) I.ok.mod.kin hk (thn (ha pos pins s σ H _ I h) fun us s1 ⟨vs,H1,I1,r,q⟩=>⟨I1.kIn,?_⟩) he hpl;exact ZFn F hr hb hd hx I1 r q
theorem ZDy {pl:Sem Bool} (he:PE X o ta) (c:Cls X.K C) (hm:Meth X.K C m f) (F:FnOk X.prog X.w X.K X.mg X.base CX k f fd ps sp) (hr:Room k X.A) (hb:Binds X.K fd ps ds) (hd:Vals dvs ds) (hx:Zns CX X E) (ha:PA X (e :: es) t)
  (hst:starEach (e :: es) X.env=(false,eval e X.env) :: starEach es X.env:=by rfl) (hpl:(backTo pos (starEach es X.env)).any (·.1)=false:=by rfl)
  (ht:eval (.Call (.Attribute o m apos) (e :: es) [] pos) X.env=(do
   let ov ← eval o X.env
   standAt apos.atName
   let (f,first) ← holding [ov] (getMethod ov m pl)
   callWith pos f first (backTo pos (starEach (e :: es) X.env)) (backToKw pos (keywordEach [] X.env))):=by rfl):
  PE X (.Call (.Attribute o m apos) (e :: es) [] pos) (Zoz C m sp dvs E ta t):=by
 intro pins s σ H Q I h;refine PySem.W.methodCall_KW (pl:=pl) (thn (he pins s σ H _ I h) fun u s1 ⟨x,H1,I1,rx,a,dx,fs,ex,ea,l,q⟩=>?_) ht;subst ex;obtain rfl:u=Value.ref a:=rx;refine Zwr I1 ea c hm l ?_;refine PySem.W.callWith_K (first:=[.ref a]) (h₀:=X.base) I.ok.mod.kin hm.kp (thn (ha pos pins s1 σ H1 _ I1 q) fun us s2 ⟨vs,H2,I2,r,q2⟩=>⟨I2.kIn,?_⟩) hst hpl;exact ZFn (us:=.ref a :: us) (vs:=.ref a :: vs) F hr hb hd hx I2 (.cons rfl r) q2
theorem Ziw {pl:Sem Bool} (he:PE X o ta) (c:Cls X.K C) (hm:Meth X.K C m f) (F:FnOk X.prog X.w X.K X.mg X.base CX k f fd ps sp) (hr:Room k X.A) (hb:Binds X.K fd ps ds) (hd:Vals dvs ds) (hx:Zns CX X E)
  (ht:eval (.Call (.Attribute o m apos) [] [] pos) X.env=(do
   let ov ← eval o X.env
   standAt apos.atName
   let (f,first) ← holding [ov] (getMethod ov m pl)
   callWith pos f first (backTo pos (starEach [] X.env)) (backToKw pos (keywordEach [] X.env))):=by rfl):
  PE X (.Call (.Attribute o m apos) [] [] pos) (Zoz C m sp dvs E ta tNil):=by
 intro pins s σ H Q I h;refine PySem.W.methodCall_KW (pl:=pl) (thn (he pins s σ H _ I h) fun u s1 ⟨x,H1,I1,rx,a,dx,fs,ex,ea,l,q⟩=>?_) ht;subst ex;obtain rfl:u=Value.ref a:=rx;refine Zwr I1 ea c hm l ?_;exact PySem.W.callWith_K0 (first:=[.ref a]) I1.kIn hm.kp (ZFn (us:=[.ref a]) (vs:=[.ref a]) F hr hb hd hx I1 (.cons rfl .nil) q)
structure Mk (K:PySem.W.Frag) (C f:Addr):Prop where
 makes:PySem.W.makesIn K C=true
 init:PySem.W.findIn K (.ref C) "__init__"=some (some (.ref f))
 fn:PySem.W.isFn K (.ref f)=true
 kp:PySem.W.keepIn K (.ref C)=true
theorem ZFm {pins:List (Addr×Obj)}{σ:St}{H:Hp}{s:Shared}{Q:VK}{us:List Value}{vs:List V} (M:Mk X.K C f) (F:FnOk X.prog X.w X.K X.mg X.base CX k f fd ps sp) (hr:Room (k + 1) X.A) (hb:Binds X.K fd ps ds) (hd:Vals dvs ds)
  (hx:Zns CX X E) (I:Inv X pins σ H s) (r:Vals vs us)
  (h:∀ x dx,H x=none→H dx=none→dx≠x→sp (.ref x :: (vs ++ dvs)) (upd (upd H dx (.own x)) x (.ins C dx [])) (fun v H2=>v=.non∧Q (.ref x) H2) E):
  wpAny (model X.prog X.w) X.A (call (.ref C) us) (EP X pins σ Q) X.xe s:=by
 have hq:=h (s.heap.objs.size + 1) s.heap.objs.size (I.hok.fresh (Nat.le_succ _)) (I.hok.fresh (Nat.le_refl _)) (Nat.ne_of_lt (Nat.lt_succ_self _));have I2:=Inv.made (C:=C) I;have r2:Vals (V.ref (s.heap.objs.size + 1) :: (vs ++ dvs)) (Value.ref (s.heap.objs.size + 1) :: (us ++ ds)):=.cons rfl (r.append hd);have hl:(Value.ref (s.heap.objs.size + 1) :: us ++ ds).length=ps.length:=by
  have e:=r2.length;rw [F.len _ _ _ _ hq] at e;exact e.symm
 refine wpAny_call (ZMc (f:=f) I.kIn M.makes M.init (beq_iff_eq.mp M.fn) (codeAny_mono (F.run _ X.stack _ _ ⟨Value.ref (s.heap.objs.size + 1) :: us,[]⟩ (Value.ref (s.heap.objs.size + 1) :: (us ++ ds)) _ _ E (hr.make C us [])
  (I2.env0.make C us []) (hb _ (Value.ref (s.heap.objs.size + 1) :: us) I2.kIn hl) r2 hq) fun r s' hq'=>?_))
 cases r with
 | error e=>exact hx pins σ _ _ e s' I2 hq'
 | ok fl=>
  cases fl with
  | ret u=>
   obtain ⟨v,H',I3,rv,ev,q3⟩:=I2.after hq';subst ev;exact ⟨rv,⟨V.ref (s.heap.objs.size + 1),H',I3,rfl,q3⟩⟩
  | next=>exact False.elim hq'
  | brk=>exact False.elim hq'
  | cont=>exact False.elim hq'
theorem Zqx (M:Mk X.K C f) (F:FnOk X.prog X.w X.K X.mg X.base CX k f fd ps sp) (hr:Room (k + 1) X.A) (hg:Gl X x) (hm:X.mg x=some (.ref C)) (hb:Binds X.K fd ps ds) (hd:Vals dvs ds) (hx:Zns CX X E)
  (ha:PA X (e :: es) t) (hdb:(x == ("__debug__":Str))=false:=by decide) (he:starEach (e :: es) X.env=(false,eval e X.env) :: starEach es X.env:=by rfl) (hpl:(backTo pos (starEach es X.env)).any (·.1)=false:=by rfl):
  PE X (.Call (.Name x p) (e :: es) [] pos) (Zvg C sp dvs E t):=by
 intro pins s σ H Q I h;refine wpAny_Call_Name_kw (Zeo I hg hm ?_ hdb);refine PySem.W.callWith_K (h₀:=X.base) I.ok.mod.kin M.kp (thn (ha pos pins s σ H _ I h) fun us s1 ⟨vs,H1,I1,r,q⟩=>⟨I1.kIn,?_⟩) he hpl;exact ZFm M F hr hb hd hx I1 r q
theorem ZM3 (M:Mk X.K C f) (F:FnOk X.prog X.w X.K X.mg X.base CX k f fd ps sp) (hr:Room (k + 1) X.A) (hg:Gl X x) (hm:X.mg x=some (.ref C)) (hb:Binds X.K fd ps ds) (hd:Vals dvs ds) (hx:Zns CX X E)
  (hdb:(x == ("__debug__":Str))=false:=by decide):PE X (.Call (.Name x p) [] [] pos) (Zvg C sp dvs E tNil):=by
 intro pins s σ H Q I h;refine wpAny_Call_Name_kw (Zeo I hg hm ?_ hdb);exact PySem.W.callWith_K0 I.kIn M.kp (ZFm (us:=[]) M F hr hb hd hx I .nil h)
end
section
variable {X:Cx}{CX:CXT}{k:Nat}{f C:Addr}{fd:FuncData}{ps ks:List Str}{sp:Sp}{E:XK}{x m:Str}{p pos apos kpos:Pos}{e o:Expr}{es:List Expr}{kws:List Keyword}{te ta:TE}{t tk:TA}{nm:Option Str}
structure KBinds (K:PySem.W.Frag) (fd:FuncData) (ps ks:List Str) (g:List Value→List Value→List Value) (gV:List V→List V→List V):Prop where
 to:∀ (s:Shared) (us ws:List Value),K.In s.heap→(g us ws).length=ps.length→BindsTo s fd ⟨us,ks.zip ws⟩ (ps.zip (g us ws))
 rel:∀ {vs:List V}{us:List Value}{zs:List V}{ws:List Value},Vals vs us→Vals zs ws→Vals (gV vs zs) (g us ws)
variable {g:List Value→List Value→List Value}{gV:List V→List V→List V}
end
structure FnScope (N P:List Str) (sc:Scope):Prop where
 kind:sc.kind=.function
 co:sc.isCoroutine=false
 gen:sc.isGenerator=false
 nd:N.Nodup
 pre:N.take P.length=P
 par:∀ x∈P,sc.names.lookup x=some .local∨sc.names.lookup x=some .cell
 nofree:∀ y∈sc.names,y.2≠.free
theorem ZCt {kindOf:Str→Option NameKind}{x:Str}:∀ {binds:List (Str×Value)}{m:Str→Option Value},(∀ v,(x,v)∉binds)→bindL kindOf binds m x=m x
 | [],_,_=>rfl
 | (n,v) :: r,m,h=>by
  unfold bindL;rw [ZCt fun w hw=>h w (List.mem_cons_of_mem _ hw)];split
  ·have:x≠n:=by rintro rfl;exact h v List.mem_cons_self
   simp [this]
  ·rfl
theorem ZCv {kindOf:Str→Option NameKind}{x:Str}:∀ {binds:List (Str×Value)}{m:Str→Option Value},(∀ v,(x,v)∉binds)→bindC kindOf binds m x=m x
 | [],_,_=>rfl
 | (n,v) :: r,m,h=>by
  unfold bindC;rw [ZCv fun w hw=>h w (List.mem_cons_of_mem _ hw)];split
  ·rfl
  ·have:x≠n:=by rintro rfl;exact h v List.mem_cons_self
   simp [this]
theorem ZCu {kindOf:Str→Option NameKind}{x:Str}{v:Value}:∀ {P:List Str}{vs:List Value}{i:Nat}{m:Str→Option Value},P.Nodup→P[i]? =some x→vs[i]? =some v→kindOf x=some .local→
  bindL kindOf (P.zip vs) m x=some v
 | [],_,_,_,_,h,_,_=>by simp at h
 | _ :: _,[],_,_,_,_,h,_=>by simp at h
 | p :: P,w :: vs,0,m,nd,h1,h2,hk=>by
  simp at h1 h2;subst h1;subst h2;show bindL kindOf ((p,w) :: P.zip vs) m p=_;unfold bindL;rw [ZCt fun v hv=>(List.nodup_cons.mp nd).1 (List.of_mem_zip hv).1,if_pos hk];simp
 | p :: P,w :: vs,i + 1,m,nd,h1,h2,hk=>by
  show bindL kindOf ((p,w) :: P.zip vs) m x=_;unfold bindL;exact ZCu (i:=i) (List.nodup_cons.mp nd).2 (by simpa using h1) (by simpa using h2) hk
theorem ZCw {kindOf:Str→Option NameKind}{x:Str}{v:Value}:∀ {P:List Str}{vs:List Value}{i:Nat}{m:Str→Option Value},P.Nodup→P[i]? =some x→vs[i]? =some v→kindOf x≠some .local→
  bindC kindOf (P.zip vs) m x=some v
 | [],_,_,_,_,h,_,_=>by simp at h
 | _ :: _,[],_,_,_,_,h,_=>by simp at h
 | p :: P,w :: vs,0,m,nd,h1,h2,hk=>by
  simp at h1 h2;subst h1;subst h2;show bindC kindOf ((p,w) :: P.zip vs) m p=_;unfold bindC;rw [ZCv fun v hv=>(List.nodup_cons.mp nd).1 (List.of_mem_zip hv).1,if_neg hk];simp
 | p :: P,w :: vs,i + 1,m,nd,h1,h2,hk=>by
  show bindC kindOf ((p,w) :: P.zip vs) m x=_;unfold bindC;exact ZCw (i:=i) (List.nodup_cons.mp nd).2 (by simpa using h1) (by simpa using h2) hk
def start (N:List Str) (vs:List V):St:=vs.map some ++ List.replicate (N.length - vs.length) none
def cxOf (CX:CXT) (P:Program) (w:World) (K:PySem.W.Frag) (mg:Str→Option Value) (base:Heap) (N:List Str) (qual:Str) (scope:Scope) (f:Addr) (cd:Value) (A:Around) (outer:List Env) (s:Shared) (H:Hp) (E:XK):Cx where
 prog:=P
 w:=w
 K:=K
 mg:=mg
 base:=base
 A:=A.deeper (envOfC qual scope s.heap.objs.size f cd)
 N:=N
 s₀:=s
 H₀:=H
 env:=envOfC qual scope s.heap.objs.size f cd
 outer:=outer
 stack:=envOfC qual scope s.heap.objs.size f cd :: outer
 ex:=[]
 calm:=true
 fn:=fun _=>true
 pn:=[]
 xe:=fun e s'=>wpAny (model P w) (A.deeper (envOfC qual scope s.heap.objs.size f cd)) (leaving (envOfC qual scope s.heap.objs.size f cd) e) (fun _ s''=>CX outer H s E e s'') (fun e' s''=>CX outer H s E e' s'') s'
theorem ZGa {sc:Scope}{n:Nat}{x:Str} (h:sc.names.lookup x=some .cell):∃ c,(cellsFrom n sc.names []).lookup x=some c:=by
 have q:=PySem.W.cellsFrom_some sc.names n [] (.inl h);exact Option.isSome_iff_exists.mp q
theorem ZKo {CX:CXT}{P:Program}{w:World}{K:PySem.W.Frag}{mg:Str→Option Value}{base:Heap}{N ps:List Str}{qual:Str}{scope:Scope}{f:Addr}{cd:Value}{A:Around}{outer:List Env}{s s1:Shared}{H:Hp}{E:XK}{us:List Value}{vs:List V}
  (S:FnScope N ps scope) (hd:A.handled=none) (e0:Env0 P w K mg base A outer s H) (hl:vs.length=ps.length) (r:Vals vs us)
  (x:InCallC s s.heap.objs.size (bindL (envOfC qual scope s.heap.objs.size f cd).kindOf (ps.zip us) fun _=>none) (cellsFrom (s.heap.objs.size + 1) scope.names []) (bindC (envOfC qual scope s.heap.objs.size f cd).kindOf (ps.zip us) fun _=>none) s1):
  Inv (cxOf CX P w K mg base N qual scope f cd A outer s H E) [] (start N vs) H s1:=by
 have hpl:ps.length≤N.length:=by have:=congrArg List.length S.pre;rw [List.length_take] at this;omega
 obtain ⟨h1,tk,rfl,hk⟩:=x.done;have noA:∀ b:Addr,b∉(cxOf CX P w K mg base N qual scope f cd A outer s H E).ex:=fun b z=>absurd (show b∈([]:List Addr) from z) (by simp);refine ⟨⟨e0.mod,S.kind,rfl,rfl,Nat.le_refl _,fun y z c h1 h2=>?_,fun y hy=>?_,fun y c _ h=>?_,fun _=>hd,Around.frames_deeper e0.frames,.inr ⟨rfl,rfl⟩,fun b z=>absurd z (noA b),e0.bs,e0.bsz,fun b _ _=>noA b,fun b z=>absurd z (noA b),e0.funs,e0.frf⟩,
  rfl,e0.bare,Un.kept hk,⟨_,x.toInCall.ns,fun i y v h1 h2 h3=>?_⟩,fun y c h=>⟨_,x.cell y c h⟩,e0.hok.fresh (Nat.le_refl _),fun y c h=>?_,fun p hp=>absurd (show p∈([]:List (Addr×Obj)) from hp) (by simp),e0.hok.kept hk,?_⟩
 ·exact name_of_addr x.apart (PySem.mem_of_lookup h1) (PySem.mem_of_lookup h2)
 ·have hy:scope.names.lookup y=some .cell∨scope.names.lookup y=some .free:=hy;rcases hy with hy | hy
  ·exact ZGa hy
  ·exact absurd rfl (S.nofree _ (PySem.mem_of_lookup hy))
 ·exact Nat.le_of_lt (x.above y c (PySem.mem_of_lookup h))
 ·have hi:i < vs.length:=by
   unfold start at h2
   by_cases hi:i < vs.length
   ·exact hi
   ·rw [List.getElem?_append_right (by simpa using hi)] at h2;rw [List.getElem?_replicate] at h2;split at h2<;>cases h2
  have ha:vs[i]? =some v:=by
   unfold start at h2;rw [List.getElem?_append_left (by simpa using hi),List.getElem?_map] at h2;cases e:vs[i]? with
   | none=>rw [e] at h2;cases h2
   | some a=>rw [e] at h2;cases h2;rfl
  obtain ⟨u,hu,rv⟩:=r.get ha;have hp:ps[i]? =some y:=by
   rw [← S.pre,List.getElem?_take_of_lt (by omega)];exact h1
  have ndP:ps.Nodup:=by rw [← S.pre];exact S.nd.sublist (List.take_sublist _ _)
  refine ⟨u,rv,?_⟩;rcases S.par y (List.mem_of_getElem? hp) with k | k
  ·exact .inl ⟨k,ZCu ndP hp hu k⟩
  ·obtain ⟨c,e⟩:=ZGa (n:=s.heap.objs.size + 1) k;refine .inr ⟨.inl k,c,e,?_⟩;have q:=x.cell y c e;rw [ZCw ndP hp hu (by show scope.names.lookup y≠_;rw [k];decide)] at q;exact q
 ·exact e0.hok.fresh (Nat.le_of_lt (x.above y c (PySem.mem_of_lookup h)))
 ·unfold start;show _=N.length;rw [List.length_append,List.length_map,List.length_replicate];omega
theorem ZPm {CX:CXT}{P:Program}{w:World}{K:PySem.W.Frag}{mg:Str→Option Value}{base:Heap}{k:Nat}{f:Addr}{name qual:Str}{params:Arguments}{body:List Stmt}{scope:Scope}{dV kV doc pm cdv ct oc:Value}{an od:Option Addr}
  {osl:Array (Option Value)}{N ps:List Str}{sp:Sp} (lk:K.lookup f=some ⟨oc,od,.func (PySem.W.fnOf name qual params body scope dV kV doc pm an cdv ct),osl⟩) (hcd:PySem.W.codeIn K cdv qual=true) (S:FnScope N ps scope)
  (len:∀ vs H Q E,sp vs H Q E→vs.length=ps.length)
  (hbody:∀ (A:Around) (outer:List Env) (s:Shared) (H:Hp) (vs:List V) (Q:VK) (E:XK),Room k (A.deeper (envOfC qual scope s.heap.objs.size f cdv))→sp vs H Q E→
   ∃ t,PSs (cxOf CX P w K mg base N qual scope f cdv A outer s H E) body t∧t { nx:=fun _ H'=>Q .non H',rt:=Q } (start N vs) H):
  FnOk P w K mg base CX (k + 1) f (PySem.W.fnOf name qual params body scope dV kV doc pm an cdv ct) ps sp:=by
 refine ⟨len,fun A outer s H args us vs Q E hr e0 hb r hsp=>?_⟩;have hl:=len _ _ _ _ hsp;have KX:K.In s.heap:=e0.mod.kin.keeps fun b o e=>(e0.bs b o e).1;have lim:s.heap.NoLimit:=e0.mod.nolimit.keeps fun b o e=>(e0.bs b o e).1;have hkind:∀ y∈ps.zip us,scope.names.lookup y.1=some .local∨(scope.names.lookup y.1=some .cell∧((cellsFrom (s.heap.objs.size + 1) scope.names []).lookup y.1).isSome=true):=fun ⟨n,v⟩ hy=>by
  rcases S.par n (List.of_mem_zip hy).1 with q | q
  ·exact .inl q
  ·exact .inr ⟨q,PySem.W.cellsFrom_some _ _ _ (.inl q)⟩
 refine codeAny_call_function hr.depth (KX _ _ lk) rfl S.co S.gen rfl (PySem.W.codeRec_of KX hcd) (hb _ _ _ _ ?_);refine wpAny_newFunctionEnv_cells S.kind hkind fun env he s1 x=>?_;subst he;refine ⟨lim.keeps x.toInCall.keep,codeAny_func ?_⟩;obtain ⟨t,ht,hq⟩:=hbody A outer s H vs Q E (hr.deeper _) hsp;have I:Inv (cxOf CX P w K mg base N qual scope f cdv A outer s H E) [] (start N vs) H s1:=ZKo S hr.hd e0 hl r x;refine wpAny_mono (ht [] s1 (start N vs) H _ I hq) (fun fl s' hs=>?_) fun e s' hs=>hs;have fin:∀ {σ':St}{H':Hp}{v:V}{u:Value},Inv (cxOf CX P w K mg base N qual scope f cdv A outer s H E) [] σ' H' s'→RelV v u→Q v H'→CE outer P w H s Q u s':=
  fun {σ' H' v u} J rv q=>⟨v,H',J.os,J.bare,J.base,J.hok,rv,q⟩
 cases fl with
 | ret u=>
  obtain ⟨v,σ',H',J,rv,q⟩:=hs;exact fin J rv q
 | next=>
  obtain ⟨σ',H',J,q⟩:=hs;exact fin (v:=V.non) (u:=Value.none) J rfl q
 | brk=>
  obtain ⟨_,_,_,q⟩:=hs;exact False.elim q
 | cont=>
  obtain ⟨_,_,_,q⟩:=hs;exact False.elim q
end L2
namespace L2
open PySem PySem.Spec PyProof.Rows
section
variable {X:Cx}{x:Str}{p pos:Pos}{e:Expr}{es:List Expr}{t:TA}{id T:String}{r:List V→Hp→VK→Prop}
def tCB (r:List V→Hp→VK→Prop) (t:TA):TE:=fun σ H Q=>t σ H fun vs H1=>r vs H1 Q
theorem Zb6 (hc:ZFh X (.builtin id) r) (hg:Gl X x) (hm:X.mg x=none) (hv:bootBuiltins x=some (.builtin id)) (ha:PA X (e :: es) t) (hn:x≠"__name__":=by decide) (hdb:(x == ("__debug__":Str))=false:=by decide)
  (he:starEach (e :: es) X.env=(false,eval e X.env) :: starEach es X.env:=by rfl) (hpl:(backTo pos (starEach es X.env)).any (·.1)=false:=by rfl):PE X (.Call (.Name x p) (e :: es) [] pos) (tCB r t):=by
 intro pins s σ H Q I h;refine wpAny_Call_Name_kw (ZG2 I hg hm hv ?_ hn hdb);exact PyProof.Rows.callWith_builtin1 (thn (ha pos pins s σ H _ I h) fun us s1 ⟨vs,H1,I1,r1,q1⟩=>hc pins s1 σ H1 vs us Q I1 r1 q1) he hpl
theorem ZJz (hc:ZFh X (.type T) r) (hg:Gl X x) (hm:X.mg x=none) (hv:bootBuiltins x=some (.type T)) (ha:PA X (e :: es) t) (hn:x≠"__name__":=by decide) (hdb:(x == ("__debug__":Str))=false:=by decide)
  (he:starEach (e :: es) X.env=(false,eval e X.env) :: starEach es X.env:=by rfl) (hpl:(backTo pos (starEach es X.env)).any (·.1)=false:=by rfl):PE X (.Call (.Name x p) (e :: es) [] pos) (tCB r t):=by
 intro pins s σ H Q I h;refine wpAny_Call_Name_kw (ZG2 I hg hm hv ?_ hn hdb);exact PyProof.Rows.callWith_type1 (thn (ha pos pins s σ H _ I h) fun us s1 ⟨vs,H1,I1,r1,q1⟩=>hc pins s1 σ H1 vs us Q I1 r1 q1) he hpl
end
end L2
namespace HT
open PySem PyProof.Rows
section
open PySem.SeqAt
open PySem.AutoSeq1 (wpAny_loadPart')
open PySem.MeetsSeq PySem.MeetsSeq2 PySem.MeetsSeq3
end
section
variable {prog:Program}{w:World}{A:Around}{E:Value→Shared→Prop}{s:Shared}
def sIx (n d:Nat):Option Int→Nat
 | none=>d
 | some v=>if v < 0 then (v + (n:Int)).toNat else min v.toNat n
theorem Ztx (n d:Nat) (hd:d≤n) (o:Option Int):sIx n d o≤n:=by
 cases o with
 | none=>exact hd
 | some v=>
  show (if v < 0 then (v + (n:Int)).toNat else min v.toNat n)≤n
  by_cases hv:v < 0
  ·rw [if_pos hv];omega
  ·rw [if_neg hv];exact Nat.min_le_right _ _
end
end HT
namespace L2
open PySem PySem.Spec PyProof.Rows
abbrev TO:=St→Hp→(Option Int→Hp→Prop)→Prop
def PO (X:Cx) (e:Option Expr) (t:TO):Prop:=
 ∀ (pins:List (Addr×Obj)) (s:Shared) (σ:St) (H:Hp) (Q:Option Int→Hp→Prop),Inv X pins σ H s→t σ H Q→
  wpAny (model X.prog X.w) X.A (evalPart e X.env) (fun u s'=>∃ o H',Inv X pins σ H' s'∧IsPart u o∧Q o H') X.xe s
def Zwy:TO:=fun _ H Q=>Q none H
def ZGk (t:TE):TO:=fun σ H Q=>t σ H fun x H1=>∃ i,x=.int i∧Q (some i) H1
section
variable {X:Cx}{e:Expr}{te:TE}{lo hi:Option Expr}{tl th:TO}{pos p2:Pos}
theorem ZJv:PO X none Zwy:=by
 intro pins s σ H Q I h;rw [evalPart_none];exact wpAny_pure ⟨none,H,I,.none,h⟩
theorem Zxl (h:PE X e te):PO X (some e) (ZGk te):=by
 intro pins s σ H Q I hw;rw [evalPart_some];refine thn (h pins s σ H _ I hw) fun u s1 ⟨x,H1,I1,r1,q1⟩=>?_;obtain ⟨i,rfl,q⟩:=q1;obtain ⟨t,rfl⟩:=r1;exact ⟨some i,H1,I1,.int i t,q⟩
def SlR (X:Cx) (r:V→Option Int→Option Int→Hp→VK→Prop):Prop:=
 ∀ (pins:List (Addr×Obj)) (s:Shared) (σ:St) (H:Hp) (x:V) (v vl vu:Value) (lo hi:Option Int) (sl:Addr) (Q:VK),Inv X pins σ H s→RelV x v→s.heap.IsSliceOf sl vl vu .none→IsPart vl lo→IsPart vu hi→r x lo hi H Q→
  ∃ T id,typeLookup (.type T) "__getitem__"=pure (some (.builtin id))∧s.TypeIs v T∧wpAny (model X.prog X.w) X.A (getItem v (.ref sl)) (EP X pins σ Q) X.xe s
def tSl (r:V→Option Int→Option Int→Hp→VK→Prop) (te:TE) (tl th:TO):TE:=fun σ H Q=>te σ H fun x H1=>tl σ H1 fun l H2=>th σ H2 fun u H3=>r x l u H3 Q
theorem Zxm {r:V→Option Int→Option Int→Hp→VK→Prop} (hr:SlR X r) (he:PE X e te) (hl:PO X lo tl) (hu:PO X hi th):PE X (.Subscript e (.Slice lo hi none p2) pos) (tSl r te tl th):=by
 intro pins s σ H Q I h;refine Subscript_ (thn (he pins s σ H _ I h) fun v s1 ⟨x,H1,I1,r1,q1⟩=>?_);refine wpAny_Slice (thn (hl pins s1 σ H1 _ I1 q1) fun vl s2 ⟨l,H2,I2,pl,q2⟩=>thn (hu pins s2 σ H2 _ I2 q2) fun vu s3 ⟨u,H3,I3,pu,q3⟩=>?_);rw [evalPart_none];refine wpAny_pure ?_;have I4:Inv X pins σ H3 { s3 with heap:=s3.heap.push { cls:=.type "slice",data:=.fields #[vl,vu,.none] } }:=I3.kept (t':=s3.toks) fun b ob q=>Heap.get?_push_of_some _ q;obtain ⟨T,id,hT,ht,hg⟩:=hr pins { s3 with heap:=s3.heap.push { cls:=.type "slice",data:=.fields #[vl,vu,.none] } } σ H3 x v vl vu l u s3.heap.objs.size Q I4 r1 (Heap.IsSliceOf.new ..) pl pu q3;show wpAny (model X.prog X.w) X.A (subscriptTail e (.Slice lo hi none p2) v (.ref s3.heap.objs.size)) (EP X pins σ Q) X.xe { s3 with heap:=s3.heap.push { cls:=.type "slice",data:=.fields #[vl,vu,.none] } };exact tail_any (ops:=[.ref s3.heap.objs.size,v]) ht hT hg (by with_unfolding_all rfl)
def cutV (xs:List V) (lo hi:Option Int):List V:=(xs.drop (HT.sIx xs.length 0 lo)).take (HT.sIx xs.length xs.length hi - HT.sIx xs.length 0 lo)
theorem ZF2 (xs:List V) (lo hi:Option Int):(cutV xs lo hi).length≤xs.length:=by
 unfold cutV;rw [List.length_take,List.length_drop];omega
end
end L2
namespace L2
open PySem PySem.Spec PyProof.Rows
def ixN (n:Nat) (i:Int):Option Nat:=if 0≤i then (if i < n then some i.toNat else none) else if -(n:Int)≤i then some (i + n).toNat else none
def atI {α:Type} (xs:List α) (i:Int):Option α:=(ixN xs.length i).bind fun j=>xs[j]?
theorem ZKl {n:Nat}{i:Int}{j:Nat} (h:ixN n i=some j):seqIndex? i n=some j∧j < n∧-(n:Int)≤i∧i < n:=by
 unfold ixN at h
 by_cases h0:0≤i
 ·rw [if_pos h0] at h
  by_cases h1:i < n
  ·rw [if_pos h1] at h;have e:i.toNat=j:=Option.some.inj h;exact ⟨by rw [seqIndex_of h0 h1,e],by omega,by omega,h1⟩
  ·rw [if_neg h1] at h;cases h
 ·rw [if_neg h0] at h
  by_cases h1:-(n:Int)≤i
  ·rw [if_pos h1] at h;have e:(i + n).toNat=j:=Option.some.inj h;exact ⟨by rw [seqIndex_neg (by omega) h1,e],by omega,h1,by omega⟩
  ·rw [if_neg h1] at h;cases h
theorem ZF5 {α:Type}{xs:List α}{i:Int}{v:α} (h:atI xs i=some v):∃ j,seqIndex? i xs.length=some j∧xs[j]? =some v∧j < xs.length∧-(xs.length:Int)≤i∧i < xs.length:=by
 unfold atI at h;cases e:ixN xs.length i with
 | none=>rw [e] at h;cases h
 | some j=>
  rw [e] at h;obtain ⟨h1,h2,h3,h4⟩:=ZKl e;exact ⟨j,h1,h,h2,h3,h4⟩
theorem Zal {α:Type}{xs:List α}{j:Nat}{v:α} (h:xs[j]? =some v):atI xs (j:Int)=some v:=by
 have hj:j < xs.length:=(List.getElem?_eq_some_iff.mp h).1;have e:ixN xs.length (j:Int)=some j:=by
  unfold ixN;rw [if_pos (by omega),if_pos (by omega)];simp
 unfold atI;rw [e];exact h
def ZF9 (b:Expr):Prop:=∀ o i,subscripted b false o i=operate [o,i] (getItem o i)
def IxR (X:Cx) (r:R2):Prop:=
 ∀ (value slice:Expr) (pins:List (Addr×Obj)) (s:Shared) (σ:St) (H:Hp) (x y:V) (v u:Value) (Q:VK),Inv X pins σ H s→RelV x v→RelV y u→r x y H Q→
  subscripted slice false v u=operate [v,u] (getItem v u)→wpAny (model X.prog X.w) X.A (subscriptTail value slice v u) (EP X pins σ Q) X.xe s
def MtR (X:Cx) (id:String) (r:V→List V→Hp→VK→Prop):Prop:=
 ∀ (pins:List (Addr×Obj)) (s:Shared) (σ:St) (H:Hp) (x:V) (xs:List V) (v:Value) (us:List Value) (Q:VK),Inv X pins σ H s→RelV x v→Vals xs us→r x xs H Q→
  wpAny (model X.prog X.w) X.A (call (.builtin id) (v :: us)) (EP X pins σ Q) X.xe s
section
variable {X:Cx}{a b:Expr}{ta tb:TE}{pos:Pos}
theorem IxR.or {r r':R2} (h:IxR X r) (h':IxR X r'):IxR X (fun x y H Q=>r x y H Q∨r' x y H Q):=by
 intro value slice pins s σ H x y v u Q I rx ry q hs;rcases q with q | q
 ·exact h value slice pins s σ H x y v u Q I rx ry q hs
 ·exact h' value slice pins s σ H x y v u Q I rx ry q hs
theorem Zaj {r:R2} (hr:IxR X r) (ha:PE X a ta) (hb:PE X b tb) (hs:ZF9 b):PE X (.Subscript a b pos) (tOp r ta tb):=by
 intro pins s σ H Q I h;exact Subscript_ (binT ha hb I h fun v u s2 x y H2 I2 rx ry q=>hr a b pins s2 σ H2 x y v u Q I2 rx ry q (hs _ _))
def rIxL (K:PySem.W.Frag):R2:=fun x y H Q=>∃ p xs i v,x=.ref p∧y=.int i∧SqL K H p xs∧atI xs i=some v∧Q v H
def rIxT (K:PySem.W.Frag):R2:=fun x y H Q=>∃ p xs i v,x=.ref p∧y=.int i∧SqT K H p xs∧atI xs i=some v∧Q v H
def rIxS:R2:=fun x y H Q=>∃ z i c,x=.str z∧y=.int i∧z.length≤sizeLine∧atI z.cps.toList i=some c∧Q (.str ⟨#[c]⟩) H
theorem Zap:IxR X (rIxL X.K):=by
 intro value slice pins s σ H x y v u Q I rx ry h hs;obtain ⟨p,xs,i,z,rfl,rfl,hq,he,q⟩:=h;cases rx;obtain ⟨t,rfl⟩:=ry;obtain ⟨its,r,pl,hz⟩:=I.list hq;obtain ⟨j,h1,h2,h3,h4,h5⟩:=ZF5 he;obtain ⟨w,ew,rw'⟩:=r.get h2;have hl:=r.length;have hn:=ZBi;have fin:EP X pins σ Q w s:=⟨z,H,I,rw',q⟩
 by_cases h0:0≤i
 ·have hj:i.toNat=j:=by
   rw [seqIndex_of h0 h5] at h1;exact Option.some.inj h1
  exact item_listR pl.isList h0 (by omega) (by rw [hj];simpa using ew) fin hs
 ·have hj:(i + (its.toArray.size:Int)).toNat=j:=by
   rw [seqIndex_neg (by omega) h4] at h1;rw [List.size_toArray,← hl];exact Option.some.inj h1
  exact subscriptTail_builtinR (x:=w) pl.isList.typeIs slot_list_getitem.lookup
   (wpAny_getItem_list_neg (Q:=fun r s'=>r=w∧EP X pins σ Q r s') pl.isList (by omega) (by rw [List.size_toArray]<;>omega) (by omega) (by rw [hj];simpa using ew) ⟨rfl,fin⟩) hs
theorem Zar:IxR X (rIxT X.K):=by
 intro value slice pins s σ H x y v u Q I rx ry h hs;obtain ⟨p,xs,i,z,rfl,rfl,hq,he,q⟩:=h;cases rx;obtain ⟨t,rfl⟩:=ry;obtain ⟨its,r,pl,hz⟩:=I.tuple hq;obtain ⟨j,h1,h2,h3,h4,h5⟩:=ZF5 he;obtain ⟨w,ew,rw'⟩:=r.get h2;have hl:=r.length;have hn:=ZBi;have fin:EP X pins σ Q w s:=⟨z,H,I,rw',q⟩;exact subscriptTail_builtinR (x:=w) pl.typeIs slot_tuple_getitem.lookup
  (getItem_tuple (j:=j) (Q:=fun r s'=>r=w∧EP X pins σ Q r s') pl (by omega) (by omega) (by rw [List.size_toArray,← hl];exact h1) (by simpa using ew) ⟨rfl,fin⟩) hs
theorem ZG4:IxR X rIxS:=by
 intro value slice pins s σ H x y v u Q I rx ry h hs;obtain ⟨z,i,c,rfl,rfl,hz,he,q⟩:=h;obtain ⟨t,rfl⟩:=rx;obtain ⟨t',rfl⟩:=ry;obtain ⟨j,h1,h2,h3,h4,h5⟩:=ZF5 he;have hl:z.cps.toList.length=z.length:=by simp [Str.length]
 rw [hl] at h1 h4 h5;have hn:=ZBi;exact tail_any (typeIs_str s z t) slot_str_getitem.lookup (getItem_str (c:=c) (by
  have e1:decide (i < -(2 ^ 63:Int))=false:=decide_eq_false (by omega);have e2:decide (i≥2 ^ 63)=false:=decide_eq_false (by omega);rw [e1,e2,Bool.or_false]) (by rw [h1];simpa using h2) ⟨.str ⟨#[c]⟩,H,I.tok _,⟨_,rfl⟩,q⟩) hs
def rIx (K:PySem.W.Frag):R2:=fun x y H Q=>rIxL K x y H Q∨rIxT K x y H Q∨rIxS x y H Q
theorem ZG5:IxR X (rIx X.K):=Zap.or (Zar.or ZG4)
theorem ZHs (its:List Value) (n j:Nat) (u:Value):Obj.mapSeq (·.setIfInBounds j u) { cls:=.type "list",data:=.seq its.toArray n }={ cls:=.type "list",data:=.seq (its.set j u).toArray n }:=by
 simp [Obj.mapSeq]
theorem Inv.lst {pins:List (Addr×Obj)}{σ:St}{H:Hp}{s:Shared}{p:Addr}{xs:List V} (I:Inv X pins σ H s) (h:H p=some (.lst xs)):
  ∃ (its:List Value) (n:Nat),Vals xs its∧s.heap.get? p=some { cls:=.type "list",data:=.seq its.toArray n }∧xs.length≤sizeLine:=by
 obtain ⟨z,its,n,r,e⟩:=I.hok p _ h;exact ⟨its,n,r,e,z⟩
theorem Inv.lstUpd {pins:List (Addr×Obj)}{σ:St}{H:Hp}{s:Shared}{p:Addr}{xs ys:List V}{its its':List Value}{n n':Nat}{f:Obj→Obj} (I:Inv X pins σ H s) (h:H p=some (.lst xs))
  (ho:s.heap.get? p=some { cls:=.type "list",data:=.seq its.toArray n }) (hf:f { cls:=.type "list",data:=.seq its.toArray n }={ cls:=.type "list",data:=.seq its'.toArray n' }) (r:Vals ys its') (hz:ys.length≤sizeLine) (t:Nat):
  Inv X pins σ (upd H p (.lst ys)) { s with heap:=s.heap.update p f,toks:=t }:=by
 have e:(s.heap.update p f).get? p=some { cls:=.type "list",data:=.seq its'.toArray n' }:=by
  rw [Heap.get?_update_self f ho (by rw [hf]<;>rfl),hf]
 refine I.write (x:=p) (e:=p) (by rw [h];trivial) (.inl rfl) (fun b u hb q=>(Heap.get?_update_other _ _ (Ne.symm hb)).trans q) ⟨_,e⟩ ?_;exact ⟨hz,its',n',r,e⟩
def Zm8:V→V→V→Hp→(Hp→Prop)→Prop:=fun o i v H Q=>∃ p xs k j,o=.ref p∧i=.int k∧H p=some (.lst xs)∧ixN xs.length k=some j∧Q (upd H p (.lst (xs.set j v)))
theorem set_list:PSet X Zm8:=by
 intro pins s σ H o i v ov iv u Q I ro ri rv h;obtain ⟨p,xs,k,j,rfl,rfl,hp,hj,q⟩:=h;cases ro;obtain ⟨t,rfl⟩:=ri;obtain ⟨its,n,r,ho,hz⟩:=I.lst hp;obtain ⟨h1,h2,h3,h4⟩:=ZKl hj;have hl:=r.length;have hn:=ZBi;have I':Inv X pins σ (upd H p (.lst (xs.set j v))) { s with heap:=s.heap.update p (Obj.mapSeq (·.setIfInBounds j u)) }:=
  I.lstUpd hp ho (ZHs its n j u) (r.set rv j) (by rw [List.length_set];exact hz) s.toks
 by_cases h0:0≤k
 ·have hk:k.toNat=j:=by
   rw [seqIndex_of h0 h4] at h1;exact Option.some.inj h1
  exact PySem.W.ki_setAt ho h0 (by omega) (by rw [List.size_toArray,← hl];exact h4) (by rw [hk];exact ⟨_,I',q⟩)
 ·have hk:(k + (its.toArray.size:Int)).toNat=j:=by
   rw [seqIndex_neg (by omega) h3] at h1;rw [List.size_toArray,← hl];exact Option.some.inj h1
  exact PySem.W.ki_setBack ho (by omega) (by rw [List.size_toArray,← hl];exact h3) (by omega) (by rw [hk];exact ⟨_,I',q⟩)
theorem ZAe (lo hi:Option Int) (n:Nat):(sliceBounds lo hi none n).1=((HT.sIx n 0 lo:Nat):Int)∧(sliceBounds lo hi none n).2.1=((HT.sIx n n hi:Nat):Int)∧(sliceBounds lo hi none n).2.2=1:=by
 refine ⟨?_,?_,rfl⟩
 ·cases lo with
  | none=>simp [sliceBounds,HT.sIx]
  | some i=>
   simp only [sliceBounds,HT.sIx,Option.getD_none,show (1:Int) > 0 by decide,if_true]
   by_cases h:i < 0
   ·simp only [h,if_true]<;>omega
   ·simp only [h,if_false]<;>omega
 ·cases hi with
  | none=>simp [sliceBounds,HT.sIx]
  | some i=>
   simp only [sliceBounds,HT.sIx,Option.getD_none,show (1:Int) > 0 by decide,if_true]
   by_cases h:i < 0
   ·simp only [h,if_true]<;>omega
   ·simp only [h,if_false]<;>omega
theorem Zx9 (its:List Value) (lo hi:Option Int):slicePick its.toArray lo hi none=((its.drop (HT.sIx its.length 0 lo)).take (HT.sIx its.length its.length hi - HT.sIx its.length 0 lo)).toArray:=by
 obtain ⟨h1,h2,h3⟩:=ZAe lo hi its.toArray.size;unfold slicePick;rw [h1,h2,h3];simp only [sliceRange_one,pick_run,List.size_toArray]<;>rfl
def rSlL (K:PySem.W.Frag):V→Option Int→Option Int→Hp→VK→Prop:=fun x lo hi H Q=>∃ a xs,x=.ref a∧SqL K H a xs∧∀ p,H p=none→Q (.ref p) (upd H p (.lst (cutV xs lo hi)))
theorem ZOa:SlR X (rSlL X.K):=by
 intro pins s σ H x v vl vu lo hi sl Q I rx hs pl pu h;obtain ⟨a,xs,rfl,hx,q⟩:=h;cases rx;obtain ⟨its,r,ht,hz⟩:=I.list hx;have hlen:=r.length;refine ⟨"list",_,slot_list_getitem.lookup,ht.isList.typeIs,?_⟩;refine wpAny_getItem_list_slice ht.isList hs pl pu .none (by simp) ?_ (by rw [List.size_toArray]<;>omega);rw [Zx9,← hlen];refine ⟨.ref s.heap.objs.size,_,I.laid (t':=s.toks) (o:=.lst (cutV xs lo hi)) (fun b ob q=>Heap.get?_push_of_some _ q) (Nat.le_refl _) ?_,rfl,q _ (I.hok.fresh (Nat.le_refl _))⟩;exact ⟨Nat.le_trans (ZF2 xs lo hi) hz,_,0,(r.drop (HT.sIx xs.length 0 lo)).take (HT.sIx xs.length xs.length hi - HT.sIx xs.length 0 lo),Heap.get?_push_size _ rfl⟩
def Zos:V→Bool
 | .non=>true
 | .bl _=>true
 | .int _=>true
 | .str _=>true
 | _=>false
def eqV:V→V→Bool
 | .non,.non=>true
 | .bl a,.bl b=>a == b
 | .bl a,.int b=>(if a then 1 else 0) == b
 | .int a,.bl b=>a == (if b then 1 else 0)
 | .int a,.int b=>a == b
 | .str a,.str b=>a == b
 | _,_=>false
theorem ZRq {A:Around}{s:Shared}{y x:V}{u v:Value} (ry:RelV y u) (rx:RelV x v) (fy:Zos y=true) (fx:Zos x=true):SeqAt.EqAt A s u v (eqV y x):=by
 cases y with
 | non=>
  cases ry;cases x with
  | non=>cases rx;exact SeqAt.EqAt.same _
  | bl b=>cases rx;exact SeqAt.EqAt.none_bool b
  | int b=>obtain ⟨t,rfl⟩:=rx;exact SeqAt.EqAt.none_int b t
  | str b=>obtain ⟨t,rfl⟩:=rx;exact SeqAt.EqAt.none_str b t
  | _=>exact absurd (show false=true from fx) Bool.false_ne_true
 | bl a=>
  cases ry;cases x with
  | non=>cases rx;exact SeqAt.EqAt.bool_none a
  | bl b=>cases rx;exact SeqAt.EqAt.bool_bool a b
  | int b=>obtain ⟨t,rfl⟩:=rx;exact SeqAt.EqAt.bool_int a b t
  | str b=>obtain ⟨t,rfl⟩:=rx;exact SeqAt.EqAt.bool_str a b t
  | _=>exact absurd (show false=true from fx) Bool.false_ne_true
 | int a=>
  obtain ⟨t',rfl⟩:=ry;cases x with
  | non=>cases rx;exact SeqAt.EqAt.int_none a t'
  | bl b=>cases rx;exact SeqAt.EqAt.int_bool a t' b
  | int b=>obtain ⟨t,rfl⟩:=rx;exact SeqAt.EqAt.int_int a t' b t
  | str b=>obtain ⟨t,rfl⟩:=rx;exact SeqAt.EqAt.int_str a t' b t
  | _=>exact absurd (show false=true from fx) Bool.false_ne_true
 | str a=>
  obtain ⟨t',rfl⟩:=ry;cases x with
  | non=>cases rx;exact SeqAt.EqAt.str_none a t'
  | bl b=>cases rx;exact SeqAt.EqAt.str_bool a t' b
  | int b=>obtain ⟨t,rfl⟩:=rx;exact SeqAt.EqAt.str_int a t' b t
  | str b=>obtain ⟨t,rfl⟩:=rx;exact SeqAt.EqAt.str_str a t' b t
  | _=>exact absurd (show false=true from fx) Bool.false_ne_true
 | _=>exact absurd (show false=true from fy) Bool.false_ne_true
def eqU (x:V) (u:Value):Bool:=match u with
 | .none=>eqV .non x
 | .bool b=>eqV (.bl b) x
 | .int i _=>eqV (.int i) x
 | .str z _=>eqV (.str z) x
 | _=>false
theorem ZNu {x y:V}{u:Value} (r:RelV y u) (f:Zos y=true):eqU x u=eqV y x:=by
 cases y with
 | non=>cases r;rfl
 | bl b=>cases r;rfl
 | int i=>obtain ⟨t,rfl⟩:=r;rfl
 | str z=>obtain ⟨t,rfl⟩:=r;rfl
 | _=>exact absurd (show false=true from f) Bool.false_ne_true
theorem ZF6 {x:V}:∀ {xs:List V}{us:List Value},Vals xs us→xs.all Zos=true→us.any (eqU x)=xs.any fun y=>eqV y x
 | _,_,.nil,_=>rfl
 | y :: xs,u :: us,.cons r t,f=>by
  rw [List.all_cons,Bool.and_eq_true] at f;rw [List.any_cons,List.any_cons,ZNu r f.1,ZF6 t f.2]
theorem Zy5 {A:Around}{s:Shared}{x:V}{v:Value} (rx:RelV x v) (fx:Zos x=true):∀ {xs:List V}{us:List Value},Vals xs us→xs.all Zos=true→∀ u∈us,SeqAt.EqAt A s u v (eqU x u)
 | _,_,.nil,_=>fun u hu=>by cases hu
 | y :: xs,u :: us,.cons r t,f=>fun u' hu=>by
  rw [List.all_cons,Bool.and_eq_true] at f;rcases List.mem_cons.mp hu with rfl | hu
  ·rw [ZNu r f.1];exact ZRq r rx f.1 fx
  ·exact Zy5 rx fx t f.2 u' hu
def inV (x:V) (xs:List V):Bool:=xs.any fun y=>eqV y x
def rIn (K:PySem.W.Frag) (neg:Bool):R2:=fun x y H Q=>∃ p xs,y=.ref p∧(SqL K H p xs∨SqT K H p xs)∧Zos x=true∧xs.all Zos=true∧Q (.bl (if neg then !inV x xs else inV x xs)) H
theorem Zu5:OpR X (compareOp .In) (rIn X.K false):=by
 intro pins s σ H x y v u Q I rx ry h;obtain ⟨p,xs,rfl,hq,fx,fs,q⟩:=h;cases ry;rcases hq with hq | hq
 ·obtain ⟨its,r,pl,hz⟩:=I.list hq;refine SeqAt.in_listAt (eqU x) pl.isList (fun w hw=>Zy5 rx fx r fs w (by simpa using hw)) ⟨.bl _,H,I,rfl,?_⟩;rw [show its.toArray.any (eqU x)=its.any (eqU x) by simp,ZF6 r fs];exact q
 ·obtain ⟨its,r,pl,hz⟩:=I.tuple hq;refine SeqAt.in_tupleAt (eqU x) pl (fun w hw=>Zy5 rx fx r fs w (by simpa using hw)) ⟨.bl _,H,I,rfl,?_⟩;rw [show its.toArray.any (eqU x)=its.any (eqU x) by simp,ZF6 r fs];exact q
theorem ZCr:ZFh X (.builtin "len") (fun xs H Q=>∃ p ys,xs=[.ref p]∧(SqL X.K H p ys∨SqT X.K H p ys)∧Q (.int ys.length) H):=by
 intro pins s σ H xs us Q I r h;obtain ⟨p,ys,rfl,hq,q⟩:=h;obtain ⟨u,rfl,rx⟩:=vals1 r;cases rx;have hn:=ZBi;rcases hq with hq | hq
 ·obtain ⟨its,r',pl,hz⟩:=I.list hq;have hlen:=r'.length;exact Calls.call_len_list pl.isList (by simp only [List.size_toArray]<;>omega) ⟨.int ys.length,H,I.tok _,⟨s.toks + 1,by rw [List.size_toArray,hlen]⟩,q⟩
 ·obtain ⟨its,r',pl,hz⟩:=I.tuple hq;have hlen:=r'.length;exact len_tuple pl (by simp only [List.size_toArray]<;>omega) ⟨.int ys.length,H,I.tok _,⟨s.toks + 1,by rw [List.size_toArray,hlen]⟩,q⟩
theorem ZCq:ZFh X (.type "list") (fun xs H Q=>∃ p ys,xs=[.ref p]∧(SqL X.K H p ys∨SqT X.K H p ys)∧∀ l,H l=none→Q (.ref l) (upd H l (.lst ys))):=by
 intro pins s σ H xs us Q I r h;obtain ⟨p,ys,rfl,hq,q⟩:=h;obtain ⟨u,rfl,rx⟩:=vals1 r;cases rx;have fin:∀ (its:List Value),Vals ys its→ys.length≤sizeLine→∀ (h':Heap) (c':Nat),(∀ b o',s.heap.get? b=some o'→h'.get? b=some o')→
   h'.get? s.heap.objs.size=some { cls:=.type "list",dict:=none,data:=.seq its.toArray c',slots:=#[] }→EP X pins σ Q (.ref s.heap.objs.size) { s with heap:=h' }:=fun its r' hz h' c' kp e=>
  ⟨.ref s.heap.objs.size,_,I.laid (t':=s.toks) kp (Nat.le_refl _) (show Zgb X.prog X.w _ h' _ (.lst ys) from ⟨hz,its,c',r',e⟩),rfl,q _ (I.hok.fresh (Nat.le_refl _))⟩
 rcases hq with hq | hq
 ·obtain ⟨its,r',pl,hz⟩:=I.list hq;have hlen:=r'.length;obtain ⟨o,ho,hc,n,hd⟩:=pl.isList;exact call_list_seq p (.inl rfl) ho hc hd (fun h' c' kp e=>fin its r' hz h' c' kp e) (by simp only [List.size_toArray]<;>omega)
 ·obtain ⟨its,r',pl,hz⟩:=I.tuple hq;have hlen:=r'.length;obtain ⟨o,ho,hc,n,hd⟩:=pl;exact call_list_seq p (.inr rfl) ho hc hd (fun h' c' kp e=>fin its r' hz h' c' kp e) (by simp only [List.size_toArray]<;>omega)
def tyV (K:PySem.W.Frag) (T:String) (x:V) (H:Hp):Prop:=match x with
 | .str _=>T="str"
 | .int _=>T="int"
 | .ref p=>(T="list"∧∃ xs,SqL K H p xs)∨(T="tuple"∧∃ o,K.lookup p=some o∧o.cls=.type "tuple"∧o.dict=none)∨
   (T="dict"∧((∃ kvs,H p=some (.dK kvs))∨∃ kvs,H p=some (.dT kvs)))∨(T="set"∧∃ S n,H p=some (.set S n))
 | _=>False
theorem ZQ1 {pins:List (Addr×Obj)}{σ:St}{H:Hp}{s:Shared}{T:String}{x:V}{v:Value} (I:Inv X pins σ H s) (r:RelV x v) (ty:tyV X.K T x H):
  s.TypeIs v T∧∀ a,v=.ref a→∃ ob,s.heap.get? a=some ob∧ob.dict=none:=by
 cases x with
 | str z=>
  obtain ⟨t,rfl⟩:=r;cases (show T="str" from ty);exact ⟨typeIs_str s z t,fun _ e=>nomatch e⟩
 | int i=>
  obtain ⟨t,rfl⟩:=r;cases (show T="int" from ty);exact ⟨typeIs_int s i t,fun _ e=>nomatch e⟩
 | ref p=>
  cases r;rcases ty with ⟨rfl,xs,hq⟩ | ⟨rfl,o,hk,hc,hd⟩ | ⟨rfl,hk⟩ | ⟨rfl,S,n,hk⟩
  ·obtain ⟨its,_,pl,_⟩:=I.list hq;refine ⟨pl.isList.typeIs,fun a e=>?_⟩;cases e;obtain ⟨o,n,e,c,hd,_⟩:=pl;exact ⟨o,e,hd⟩
  ·refine ⟨⟨o,I.kIn p o hk,hc⟩,fun a e=>?_⟩;cases e;exact ⟨o,I.kIn _ o hk,hd⟩
  ·have z:∃ o,s.heap.get? p=some o∧o.ExactDict:=by
    rcases hk with ⟨kvs,hk⟩ | ⟨kvs,hk⟩
    ·obtain ⟨_,_,_,_,o,_,_,e,ex,_⟩:=I.hok p _ hk;exact ⟨o,e,ex⟩
    ·obtain ⟨_,_,_,_,o,_,_,e,ex,_⟩:=I.hok p _ hk;exact ⟨o,e,ex⟩
   obtain ⟨o,e,ex⟩:=z;refine ⟨⟨o,e,ex.1⟩,fun a e2=>?_⟩;cases e2;exact ⟨o,e,ex.2.1⟩
  ·obtain ⟨o,_,_,_,e,ex,_⟩:=I.hok p _ hk;refine ⟨⟨o,e,ex.1⟩,fun a e2=>?_⟩;cases e2;exact ⟨o,e,ex.2.1⟩
 | _=>exact False.elim ty
def tBM (K:PySem.W.Frag) (T:String) (r:V→List V→Hp→VK→Prop) (to:TE) (t:TA):TE:=fun σ H Q=>to σ H fun x H1=>tyV K T x H1∧t σ H1 fun xs H2=>r x xs H2 Q
variable {o e:Expr}{es:List Expr}{to:TE}{t:TA}{name:Str}{apos cpos:Pos}{T id:String}{r:V→List V→Hp→VK→Prop}
theorem ZE0 (pa:PlainAttrs T) (slot:Slot T name id) (hty:typeOf (.builtin id)=pure (.type "method_descriptor")) (hm:MtR X id r) (ho:PE X o to) (ha:PA X (e :: es) t)
  (hbase:attributeBase o name X.env (eval o X.env)=eval o X.env:=by rfl)
  (hfew:((backTo cpos (starEach (e :: es) X.env)).all (fun x=>!x.1) && (backToKw cpos (keywordEach [] X.env)).all (fun x=>x.1.isSome)
   && decide ((e :: es).length + ([]:List Keyword).length + (if ([]:List Keyword).isEmpty then 0 else 1) < 30))=true:=by rfl)
  (hline:(apos.endLine == cpos.line)=true:=by rfl) (hs:starEach (e :: es) X.env=(false,eval e X.env) :: starEach es X.env:=by rfl) (hplain:(backTo cpos (starEach es X.env)).any (·.1)=false:=by rfl):
  PE X (.Call (.Attribute o name apos) (e :: es) [] cpos) (tBM X.K T r to t):=by
 intro pins s σ H Q I h;refine wpAny_Call_method_late hbase hfew hline rfl (thn (ho pins s σ H _ I h) fun v s1 ⟨x,H1,I1,r1,ty,q1⟩=>?_);obtain ⟨h1,h2⟩:=ZQ1 I1 r1 ty;refine ⟨T,id,pa,slot,hty,h1,h2,?_⟩;have hA:=ha cpos pins s1 σ H1 _ I1 q1;rw [hs] at hA ⊢;refine Calls.callWith_builtin (by show (false || (backTo cpos (starEach es X.env)).any (·.1))=false;rw [hplain]<;>rfl) (Calls.evalArgs_plain ?_);exact thn hA fun us s2 ⟨vs,H2,I2,r2,q2⟩=>hm pins s2 σ H2 x vs v us Q I2 r1 r2 q2
end
end L2
namespace L2
open PySem PySem.Spec PyProof.Rows
def MtM (X:Cx) (id:String) (r:V→List V→Hp→VK→Prop):Prop:=
 ∀ (pins:List (Addr×Obj)) (s:Shared) (σ:St) (H:Hp) (x:V) (xs:List V) (v:Value) (us:List Value) (Q:VK),Inv X pins σ H s→RelV x v→Vals xs us→r x xs H Q→
  wpAny (model X.prog X.w) X.A (call (.builtin id) (v :: us)) (EP X pins σ Q) X.xe s
theorem Vals.one:∀ {x:V}{us:List Value},Vals [x] us→∃ u,us=[u]∧RelV x u
 | _,_,.cons r .nil=>⟨_,rfl,r⟩
theorem Vals.rep {xs:List V}{us:List Value} (h:Vals xs us):∀ k:Nat,Vals (List.replicate k xs).flatten (List.replicate k us).flatten
 | 0=>.nil
 | k + 1=>by
  rw [List.replicate_succ,List.replicate_succ,List.flatten_cons,List.flatten_cons];exact Vals.append h (Vals.rep h k)
theorem foldl_rep (its:List Value):∀ (k:Nat) (acc:List Value),
  List.foldl (fun x1 x2=>x1 ++ x2) acc.toArray (List.replicate k its.toArray)=(acc ++ (List.replicate k its).flatten).toArray
 | 0,acc=>by simp
 | k + 1,acc=>by
  have e:acc.toArray ++ its.toArray=(acc ++ its).toArray:=by simp
  have e2:(acc ++ its) ++ (List.replicate k its).flatten=acc ++ (List.replicate (k + 1) its).flatten:=by
   rw [List.replicate_succ,List.flatten_cons,List.append_assoc]
  rw [← e2,← foldl_rep its k (acc ++ its),← e,List.replicate_succ,List.foldl_cons]
section
variable {X:Cx}{pins:List (Addr×Obj)}{σ:St}{H:Hp}{s:Shared}{l b:Addr}{xs ys zs:List V}
theorem Inv.lset {its its':List Value}{n:Nat}{f:Array Value→Array Value}{t':Nat} (I:Inv X pins σ H s) (hH:H l=some (.lst xs))
  (e:s.heap.get? l=some { cls:=.type "list",data:=.seq its.toArray n }) (hf:f its.toArray=its'.toArray) (hv:Vals ys its') (hz:ys.length≤sizeLine):
  Inv X pins σ (upd H l (.lst ys)) { s with heap:=s.heap.update l (Obj.mapSeq f),toks:=t' }:=by
 have q:=PySem.IsL.update e f;rw [hf] at q;refine I.write (x:=l) (e:=l) (by rw [hH];exact trivial) (.inl rfl) (fun b' u hb hu=>(Heap.get?_update_other s.heap (Obj.mapSeq f) (Ne.symm hb)).trans hu) ⟨_,q⟩ ?_;exact ⟨hz,its',_,hv,q⟩
theorem Inv.lnew {its:List Value}{t':Nat} (I:Inv X pins σ H s) (hv:Vals ys its) (hz:ys.length≤sizeLine):
  Inv X pins σ (upd H s.heap.objs.size (.lst ys)) { s with heap:=s.heap.push { cls:=.type "list",data:=.seq its.toArray },toks:=t' }:=
 I.laid (fun _ _ q=>Heap.get?_push_of_some _ q) (Nat.le_refl _) ⟨hz,its,0,hv,Heap.get?_push_size _ rfl⟩
theorem Inv.fresh (I:Inv X pins σ H s):H s.heap.objs.size=none:=I.hok.fresh (Nat.le_refl _)
theorem Inv.lstM (I:Inv X pins σ H s) (hH:H l=some (.lst xs)):xs.length≤sizeLine∧∃ (its:List Value) (n:Nat),Vals xs its∧xs.length=its.length∧s.heap.get? l=some { cls:=.type "list",data:=.seq its.toArray n }:=by
 obtain ⟨z,its,n,r,e⟩:=I.hok l _ hH;exact ⟨z,its,n,r,r.length,e⟩
theorem ZM7 {n:Nat} (h:n≤sizeLine):Builtin.List.listTooLong n=false:=by
 unfold Builtin.List.listTooLong;exact decide_eq_false (by omega)
end
section
variable {X:Cx}
def Zm9:V→List V→Hp→VK→Prop:=fun x vs H Q=>∃ l xs y,x=.ref l∧vs=[y]∧H l=some (.lst xs)∧xs.length < sizeLine∧Q .non (upd H l (.lst (xs ++ [y])))
theorem Zg4:MtM X "list.append" Zm9:=by
 intro pins s σ H x vs v us Q I rx rv h;obtain ⟨l,xs,y,rfl,rfl,hH,hz,q⟩:=h;cases rx;obtain ⟨u,rfl,ru⟩:=rv.one;obtain ⟨z,its,n,r,hl,e⟩:=I.lstM hH;refine call_meets F.slot_list_append ⟨_,e,rfl⟩ F.entry_list_append (F.args_list_append_2 _ _) (PySem.list_append l its.toArray n u (by rw [List.size_toArray];omega)) ⟨e,?_⟩;refine ⟨.non,_,I.lset (its':=its ++ [u]) hH e (by simp) (r.append (.cons ru .nil)) ?_,rfl,q⟩;rw [List.length_append,List.length_singleton];omega
def rCat:R2:=fun x y H Q=>∃ l b xs zs,x=.ref l∧y=.ref b∧H l=some (.lst xs)∧H b=some (.lst zs)∧xs.length + zs.length≤sizeLine∧∀ p,H p=none→Q (.ref p) (upd H p (.lst (xs ++ zs)))
theorem ZQi:OpR X (binaryOp .Add) rCat:=by
 intro pins s σ H x y v u Q I rx ry h;obtain ⟨l,b,xs,zs,rfl,rfl,hH,hB,hz,q⟩:=h;cases rx;cases ry;obtain ⟨z,its,n,r,hl,e⟩:=I.lstM hH;obtain ⟨z2,its2,n2,r2,hl2,e2⟩:=I.lstM hB;refine PySem.P.add_list e e2 ?_ (by rw [List.size_toArray,List.size_toArray];omega);have ea:its.toArray ++ its2.toArray=(its ++ its2).toArray:=by simp
 rw [ea];exact ⟨.ref _,_,I.lnew (t':=s.toks) (r.append r2) (by rw [List.length_append];omega),rfl,q _ I.fresh⟩
def rRep:R2:=fun x y H Q=>∃ l k xs,x=.ref l∧y=.int k∧H l=some (.lst xs)∧-(2 ^ 63)≤k∧k < 2 ^ 63∧xs.length * k.toNat≤sizeLine∧
 ∀ p,H p=none→Q (.ref p) (upd H p (.lst (List.replicate k.toNat xs).flatten))
theorem len_rep {α:Type} (xs:List α) (k:Nat):(List.replicate k xs).flatten.length=k * xs.length:=by
 induction k with
 | zero=>simp
 | succ k ih=>rw [List.replicate_succ,List.flatten_cons,List.length_append,ih,Nat.succ_mul,Nat.add_comm]
theorem ZFs:OpR X (binaryOp .Mult) rRep:=by
 intro pins s σ H x y v u Q I rx ry h;obtain ⟨l,k,xs,rfl,rfl,hH,h1,h2,hz,q⟩:=h;cases rx;obtain ⟨t,rfl⟩:=ry;obtain ⟨z,its,n,r,hl,e⟩:=I.lstM hH;have hlen:its.toArray.size * k.toNat≤sizeLine:=by rw [List.size_toArray,← hl];exact hz
 have hcap:¬ its.toArray.size * k.toNat > (2 ^ 63 - 1) / 8:=by
  have:(sizeLine:Nat)≤(2 ^ 63 - 1) / 8:=by decide
  omega
 have hfit:¬ (!Builtin.List.listFitsIndex k)=true:=by
  rw [fitsIndex_both h1 h2];exact Bool.false_ne_true
 have hlong:¬ Builtin.List.listTooLong (its.toArray.size * k.toNat)=true:=by
  rw [ZM7 hlen];exact Bool.false_ne_true
 have hnew:List.foldl (fun x1 x2=>x1 ++ x2) #[] (List.replicate (if its.toArray.isEmpty=true then 0 else k.toNat) its.toArray)=(List.replicate k.toNat its).flatten.toArray:=by
  have f0:∀ m:Nat,List.foldl (fun x1 x2=>x1 ++ x2) #[] (List.replicate m its.toArray)=(List.replicate m its).flatten.toArray:=fun m=>by
   have:=foldl_rep its m [];rw [List.nil_append] at this;exact this
  rw [f0];cases its with
  | nil=>simp
  | cons a r'=>rw [if_neg (by simp)]
 refine wpAny_binaryOp_repeat_ref (T:="list") (U:="int") (by decide) ⟨_,e,rfl⟩ (fun s'=>typeIs_int s' k t) noFill_list_mul F.fills_int_mul F.slot_int_rmul repeat_list F.slot_int_index.lookup
  (call_meets F.slot_int_rmul (typeIs_int s k t) F.entry_int_rmul (F.args_int_rmul_2 _ _) (int___rmul___int_list k t l its.toArray n)
   ⟨e,rfl,⟨_,e,rfl⟩,call_meets F.slot_list_mul ⟨_,e,rfl⟩ F.entry_list_mul (F.args_list_mul_2 _ _) (AutoListH.list___mul___list_int_3 l its.toArray n k t hfit hcap hlong) ⟨e,?_⟩⟩)
 rw [hnew];exact ⟨.ref _,_,I.lnew (t':=s.toks) (r.rep k.toNat) (by rw [len_rep,Nat.mul_comm];exact hz),rfl,q _ I.fresh⟩
end
section
variable {prog:Program}{w:World}{A:Around}{E:Value→Shared→Prop}{s:Shared}
end
section
variable {X:Cx}
end
end L2
namespace Att
open PySem PySem.W PySem.Calls PyProof.Rows
theorem Zur {P:Params}{h:Heap}:∀ (ns:List Int) (vs:List Value),WellAll P h vs (ns.map WData.int)→IntsAre vs ns:=by
 intro ns
 induction ns with
 | nil=>
  intro vs w;rw [List.map_nil] at w;cases w;exact .nil
 | cons n ns ih=>
  intro vs w;rw [List.map_cons] at w;cases w with
  | cons a b=>
   cases a;exact .cons _ _ (ih _ b)
theorem ZJh {l:OpenLaw}{n:Nat} (hn:l.most=some n) {P:Params}{h:Heap}{args:List WData}{vals:List Value}
  (hpre:l.row.toRowW.claim.pre args=true) (hwl:WellAll P h vals args):
  ∃ a vs ns,vals=[Value.ref a]∧args=[WData.list (ns.map WData.int)]∧h.get? a=some { cls:=.type "list",data:=.seq vs.toArray }∧IntsAre vs ns∧ns.length≤n:=by
 have hsh:WShape.hasAll [] args [.list .int]=true:=(pre_splitW hpre).1;have hc:l.pre.holds [] { args:=args }=true:=(pre_splitW hpre).2;obtain ⟨d,r,rfl,h1,h2⟩:=hasAllW_cons hsh;obtain rfl:=hasAllW_nil h2;obtain ⟨xs,rfl,h3⟩:=hasW_list h1;obtain ⟨ns,rfl⟩:=items_int h3;have hlen:ns.length≤n:=by
  unfold OpenLaw.pre at hc;have h4:(WTm.not (.lt (.lit (.int (n:Int))) (.len (.arg 0)))).holds [] { args:=[.list (ns.map .int)] }=true:=by
   have h4:=(holds_andW hc).1;rw [hn] at h4;exact h4
  have h5:=condW_of h4 (w_not (w_lt w_lit (w_len_list (w_arg rfl))));rw [List.length_map] at h5;refine Nat.le_of_not_lt fun q=>?_;have q':(n:Int) < ((ns.length:Nat):Int):=by omega
  first
   | (rw [decide_eq_true q'] at h5;exact absurd h5 (by decide))
   | (simp at h5;omega)
 cases hwl with
 | cons w1 w2=>
  cases w2;cases w1 with
  | list ho hall=>exact ⟨_,_,ns,rfl,rfl,ho,Zur ns _ hall,hlen⟩
theorem ZJu (l:OpenLaw) (args:List WData):l.row.toRowW.claim.post args (.bool true) args=true:=
 postW_of (r:=l.row.toRowW) (X:=(true == true))
  (show WShape.has [] (.bool true) .bool=true by first | rfl | decide | simp [WShape.has,WShape.arms,WShape.armsAll])
  (show (WTm.eq .res (.lit (.bool true))).value [] { args:=args,res:=some (.bool true),after:=args }=some (.bool (true == true)) from w_eq_bool (w_res rfl) w_lit) rfl
section
variable {prog:Program}{w:World}{A:Around}{E:Value→Shared→Prop}{s:Shared}{K:Frag}
end
end Att
namespace L2
open PySem PySem.Spec PyProof.Rows
theorem Zzx:∀ {vs:List Value}{ns:List Int},IntsAre vs ns→Vals (ns.map V.int) vs
 | _,_,.nil=>.nil
 | _,_,.cons n t h=>.cons ⟨t,rfl⟩ (Zzx h)
def Only (H:Hp):Prop:=∀ b,H b=none∨∃ o xs,H b=some (.frz o (.lst xs))
theorem ZMi {P:Program}{w:World}{K:PySem.W.Frag}{mg mb:Str→Option Value}{CX:CXT}{k:Nat}{fa a:Addr}{fd:FuncData}{x:Str}{sp:Sp}{s₁:Shared}{vs:List Value}{ns:List Int}
  (KX:K.In s₁.heap) (hns:s₁.heap.Ns mainGlobals mg) (hb:s₁.heap.Ns builtinsNs mb) (hbb:∀ x:Str,x≠"__name__"→mb x=bootBuiltins x) (hlim:s₁.heap.NoLimit) (hg:s₁.gens=#[])
  (ha:s₁.heap.get? a=some { cls:=.type "list",data:=.seq vs.toArray }) (hi:IntsAre vs ns) (hl:ns.length≤sizeLine) (hr:Room k callerA)
  (F:∀ base:Heap,K.In base→base.Ns mainGlobals mg→FnOk P w K mg base CX k fa fd [x] sp) (hbind:∀ (s:Shared) (u:Value),BindsTo s fd ⟨[u],[]⟩ [(x,u)])
  (hsp:∀ H:Hp,Only H→SqL K H a (ns.map V.int)→sp [.ref a] H (fun v _=>v=.bl true) fun _ _ _=>False)
  (hCX:∀ H e s',CX [] H s₁ (fun _ _ _=>False) e s'→False):
  codeAny (model P w) callerA (.call (.ref fa) ⟨[.ref a],[]⟩) (fun r s'=>r=.ok (.ret (.bool true))∧OldK s₁.heap s'.heap∧s'.os=s₁.os∧AllBare s'.gens) s₁:=by
 have rv:=Zzx hi;have lenV:=hi.length;have core:∀ H:Hp,Only H→SqL K H a (ns.map V.int)→HOk P w H s₁.heap→(∀ b,H b≠none→b=a)→(H a≠none→K.lookup a=none)→
   codeAny (model P w) callerA (.call (.ref fa) ⟨[.ref a],[]⟩) (fun r s'=>r=.ok (.ret (.bool true))∧OldK s₁.heap s'.heap∧s'.os=s₁.os∧AllBare s'.gens) s₁:=by
  intro H hO hS hok hA hK;have base_of:∀ {b:Addr}{o:Obj},s₁.heap.get? b=some o→H b=none→(hidT s₁.heap H).get? b=some o:=fun e n=>ZMp e n;have noA:∀ {b:Addr}{o:Obj}{es:Array DictEntry}{ep:Nat},s₁.heap.get? b=some o→o.data=.dict es ep→H b=none:=fun {b o es ep} e d=>by
   cases q:H b with
   | none=>rfl
   | some u=>
    have e':b=a:=hA b (by rw [q];simp);subst e';rw [ha] at e;cases e;have d':Data.seq vs.toArray _=Data.dict es ep:=d;cases d'
  have nsK:∀ {b:Addr}{m:Str→Option Value},s₁.heap.Ns b m→(hidT s₁.heap H).Ns b m:=fun {b m} ⟨o,es,ep,e,d,r⟩=>⟨o,es,ep,base_of e (noA e d),d,r⟩;have hKb:K.In (hidT s₁.heap H):=fun b o e=>base_of (KX b o e) (by
   cases q:H b with
   | none=>rfl
   | some u=>
    have e':b=a:=hA b (by rw [q];simp);subst e';rw [hK (by rw [q];simp)] at e;cases e)
  have hM:Mod K mg (hidT s₁.heap H):=⟨hKb,nsK hns,⟨mb,nsK hb,hbb⟩,let ⟨mc,h1,h2⟩:=hlim;⟨mc,nsK h1,h2⟩⟩;have e0:Env0 P w K mg (hidT s₁.heap H) callerA [] s₁ H:=⟨rfl,hM,fun b o e=>ZOs e,Nat.le_of_eq (ZKr _ _),trivial,fun b hb=>absurd (show b∈([]:List Addr) from hb) (by simp),hok,.of_eq hg⟩;refine codeAny_mono ((F _ hKb (nsK hns)).run callerA [] s₁ H ⟨[.ref a],[]⟩ [.ref a] [.ref a] _ _ hr e0 (hbind s₁ (.ref a)) (.cons rfl .nil) (hsp H hO hS)) fun r s' h=>?_;cases r with
  | error e=>exact (hCX H e s' h).elim
  | ok fl=>
   cases fl with
   | next=>exact False.elim h
   | brk=>exact False.elim h
   | cont=>exact False.elim h
   | ret u=>
    obtain ⟨v,H',os,bare,un,hok',r',q⟩:=h;have q':v=.bl true:=q;subst q';obtain rfl:u=Value.bool true:=r';refine ⟨rfl,OldK.of_keep fun b o e=>?_,os,bare⟩;cases q:H b with
    | none=>exact un.keep b o e q (by intro z;exact absurd (show b∈([]:List Addr) from z) (by simp)) (by simp)
    | some u=>
     rcases hO b with z | ⟨ob,xs,z⟩
     ·rw [q] at z;cases z
     ·have z2:=un.frzs b ob _ z;obtain ⟨e1,_⟩:=hok b _ z;obtain ⟨e2,_⟩:=hok' b _ z2;rw [e] at e1;cases e1;exact e2
 cases hk:K.lookup a with
 | some o=>
  have e:=KX a o hk;rw [ha] at e;cases e;refine core (fun _=>none) (fun _=>.inl rfl) (.inr ⟨_,vs.toArray,_,hk,rfl,rfl,rfl,by rw [List.size_toArray,lenV];exact hl,by simpa using rv⟩) (fun b u z=>by have z':(none:Option HO)=some u:=z;cases z') (fun b z=>absurd rfl z) fun z=>absurd rfl z
 | none=>
  refine core (fun b=>if b=a then some (.frz { cls:=.type "list",data:=.seq vs.toArray } (.lst (ns.map V.int))) else none) (fun b=>?_) (.inl (.inr ⟨{ cls:=.type "list",data:=.seq vs.toArray },if_pos rfl⟩)) (fun b u z=>?_) (fun b z=>?_) fun _=>hk
  ·by_cases hb:b=a
   ·exact .inr ⟨_,_,if_pos hb⟩
   ·exact .inl (if_neg hb)
  ·by_cases hb:b=a
   ·have z':=(if_pos hb).symm.trans z;cases z';subst hb;exact ⟨ha,by rw [List.length_map];exact hl,vs,_,rv,ha⟩
   ·have z':=(if_neg hb).symm.trans z;cases z'
  ·by_cases hb:b=a
   ·exact hb
   ·exact absurd (if_neg hb) z
end L2
namespace L2
open PySem PySem.Spec PyProof.Rows
end L2
namespace L2
open PySem PySem.Spec PyProof.Rows
def inClass (s:Stmt) (j:Nat):Stmt:=match s with
 | .ClassDef _ _ _ body _ _ _ _ _ _ _=>body.getD j (.Pass ⟨0,0,0,0⟩)
 | _=>.Pass ⟨0,0,0,0⟩
def Zfi (s:Stmt):Arguments:=match s with
 | .FunctionDef _ a _ _ _ _ _ _ _ _=>a
 | _=>{ posonlyargs:=[],args:=[],vararg:=none,kwonlyargs:=[],kw_defaults:=[],kwarg:=none,defaults:=[] }
def Zeh (s:Stmt):List Stmt:=match s with
 | .FunctionDef _ _ b _ _ _ _ _ _ _=>b
 | _=>[]
def Zaa (s:Stmt):Scope:=match s with
 | .FunctionDef _ _ _ _ _ _ sc _ _ _=>sc
 | _=>{ kind:=.function,names:=[],isGenerator:=false,isCoroutine:=false }
abbrev E0:XK:=fun _ _ _=>False
structure Fun (K:PySem.W.Frag) (x qual:Str) (st:Stmt) (f:Addr) (fd:FuncData):Prop where
 ex:∃ (oc:Value) (od:Option Addr) (kV doc pm:Value) (an:Option Addr) (cdv ct:Value) (osl:Array (Option Value)),
  fd=PySem.W.fnOf x qual (Zfi st) (Zeh st) (Zaa st) .none kV doc pm an cdv ct∧K.lookup f=some ⟨oc,od,.func fd,osl⟩∧PySem.W.codeIn K cdv qual=true
 kp:PySem.W.keepIn K (.ref f)=true
section
variable {P:Program}{w:World}{K:PySem.W.Frag}{mg:Str→Option Value}{base:Heap}
theorem Fun.binds {x qual:Str}{st:Stmt}{f:Addr}{fd:FuncData}{ps:List Str} (F:Fun K x qual st f fd)
  (h:∀ (kV doc pm:Value) (an:Option Addr) (cdv ct:Value) (us:List Value),us.length=ps.length→bindArgs (PySem.W.fnOf x qual (Zfi st) (Zeh st) (Zaa st) .none kV doc pm an cdv ct) ⟨us,[]⟩=pure (ps.zip us)):Binds K fd ps []:=by
 obtain ⟨oc,od,kV,doc,pm,an,cdv,ct,osl,rfl,lk,hcd⟩:=F.ex;exact .all (h kV doc pm an cdv ct)
theorem Zb4 {x qual:Str}{st:Stmt}{f:Addr}{oc:Value}{od an:Option Addr}{osl:Array (Option Value)}{kV doc pm cdv ct:Value} (l:K.lookup f=some ⟨oc,od,.func (PySem.W.fnOf x qual (Zfi st) (Zeh st) (Zaa st) .none kV doc pm an cdv ct),osl⟩)
  (c:PySem.W.codeIn K cdv qual=true) (k:PySem.W.keepIn K (.ref f)=true):Fun K x qual st f (PySem.W.fnOf x qual (Zfi st) (Zeh st) (Zaa st) .none kV doc pm an cdv ct):=⟨⟨oc,od,kV,doc,pm,an,cdv,ct,osl,rfl,l,c⟩,k⟩
end
theorem Zea {A:Around}{k:Nat} (hr:Room k A):A.units + 1 < cLine:=Nat.lt_of_le_of_lt (Nat.add_le_add_left (by decide:1≤64) _) hr.units
section
variable {X:Cx}
theorem pv (i:Nat) {x:Str}{pos:Pos} (hN:X.N[i]? =some x:=by rfl) (hv:Vis X.env.scope x:=by first | exact Or.inl rfl | exact Or.inr (Or.inl rfl) | exact Or.inr (Or.inr rfl)) (hd:(x == ("__debug__":Str))=false:=by decide)
  (hcd:(x == ("__classdict__":Str))=false:=by decide):PE X (.Name x pos) (tVar i):=ZNf hN hv hd hcd
end
theorem iteF {A B:Prop} (h:B):if false=true then A else B:=by
 rw [if_neg Bool.false_ne_true];exact h
theorem iteT {A B:Prop} (h:A):if true=true then A else B:=by
 rw [if_pos rfl];exact h
theorem ite2 {c A B:Prop} [Decidable c] (h1:c→A) (h2:¬ c→B):if c then A else B:=by
 by_cases h:c
 ·rw [if_pos h];exact h1 h
 ·rw [if_neg h];exact h2 h
def Same (H H':Hp):Prop:=∀ b o,H b=some o→H' b=some o
theorem Same.refl (H:Hp):Same H H:=fun _ _ h=>h
theorem Same.trans {H H1 H2:Hp} (a:Same H H1) (b:Same H1 H2):Same H H2:=fun c o h=>b c o (a c o h)
theorem Same.free {H H':Hp} (e:Same H H') {l:Addr} (h:H' l=Option.none):H l=Option.none:=by
 cases q:H l with
 | none=>rfl
 | some o=>
  rw [e l o q] at h;cases h
theorem Same.seq {K:PySem.W.Frag}{H H':Hp}{a:Addr}{xs:List V} (e:Same H H') (h:SqL K H a xs):SqL K H' a xs:=by
 rcases h with (h | ⟨o,h⟩) | h
 ·exact .inl (.inl (e _ _ h))
 ·exact .inl (.inr ⟨o,e _ _ h⟩)
 ·exact .inr h
end L2
namespace L2
open PySem PySem.Spec PyProof.Rows
end L2
namespace L2
open PySem PySem.Spec PyProof.Rows
end L2
namespace L2
open PySem PySem.Spec PyProof.Rows
section
variable {X:Cx}{pins:List (Addr×Obj)}{σ:List (Option V)}{H H':Hp}{s:Shared}{h':Heap}
end
end L2
namespace L2
open PySem PySem.Spec PyProof.Rows
section
variable {X:Cx}
variable {a b:Expr}{ta tb:TE}{pos:Pos}
variable {tA tB':TT}{rest:List Expr}
end
end L2
namespace L2
open PySem PySem.Spec PyProof.Rows
end L2
namespace L2
open PySem PySem.Spec PyProof.Rows
end L2
namespace L2
open PySem PySem.Spec PyProof.Rows
section
variable {X:Cx}{a b c:Expr}{ta tb tc:TE}{pos:Pos}
end
end L2
namespace L2
open PySem PySem.Spec PyProof.Rows
section
variable {prog:Program}{w:World}{A:Around}{E:Value→Shared→Prop}{s:Shared}{K:PySem.W.Frag}{x dx C f:Addr}{mA:Str→Option Value}{name:Str}{v:Value}
end
section
variable {X:Cx}{pins:List (Addr×Obj)}{σ:St}{H:Hp}{s:Shared}{a C dx:Addr}{fs:List (Str×V)}{f:Str}{v:V}{A:Around}{E:Value→Shared→Prop}
end
end L2
namespace L2
open PySem PySem.Spec PyProof.Rows
section
variable {X:Cx}{CX:CXT}{k:Nat}{f C:Addr}{fd:FuncData}{ps:List Str}{sp:Sp}{dvs:List V}{ds:List Value}{E:XK}{x m:Str}{p pos apos:Pos}{e o:Expr}{es:List Expr}{ta:TE}{t:TA}
end
end L2
namespace L2
open PySem PySem.Spec PyProof.Rows
section
variable {X:Cx}{x:Str}{p pos:Pos}{e:Expr}{es:List Expr}{t:TA}{id T:String}{r:List V→Hp→VK→Prop}
end
end L2
namespace L2
open PySem PySem.Spec PyProof.Rows
section
variable {κ:Type} [DecidableEq κ]
def valV (kvs:List (κ×V)) (k:κ):Option V:=(kvs.find? fun kv=>decide (kv.1=k)).map (·.2)
def putK (kvs:List (κ×V)) (k:κ) (v:V):List (κ×V):=
 if (kvs.any fun kv=>decide (kv.1=k))=true then kvs.map (fun kv=>if kv.1=k then (kv.1,v) else kv) else kvs ++ [(k,v)]
theorem Zmq {p:κ×V}{r:List (κ×V)}{k:κ} (e:p.1=k):valV (p :: r) k=some p.2:=by simp [valV,List.find?_cons,e]
theorem Zjv {p:κ×V}{r:List (κ×V)}{k:κ} (e:¬ p.1=k):valV (p :: r) k=valV r k:=by simp [valV,List.find?_cons,e]
theorem Zti (k:κ):∀ kvs:List (κ×V),(kvs.any fun kv=>decide (kv.1=k))=(valV kvs k).isSome
 | []=>rfl
 | p :: r=>by
  rw [List.any_cons]
  by_cases e:p.1=k
  ·simp only [Zmq e,decide_eq_true e,Bool.true_or,Option.isSome_some]
  ·rw [Zjv e,decide_eq_false e,Bool.false_or];exact Zti k r
theorem Zoo (kvs:List (κ×V)) (k:κ) (v:V):(putK kvs k v).length≤kvs.length + 1:=by
 unfold putK;split
 ·rw [List.length_map];omega
 ·rw [List.length_append,List.length_cons,List.length_nil];omega
theorem ZFq {kvs:List (κ×V)}{k:κ} (v:V) (h:valV kvs k=none):putK kvs k v=kvs ++ [(k,v)]:=by
 unfold putK;rw [Zti,h];exact if_neg (by decide)
theorem RelO.isSome_eq {o:Option V}{u:Option Value} (r:RelO o u):o.isSome=u.isSome:=by
 cases o with
 | none=>cases u with
  | none=>rfl
  | some _=>exact (show False from r).elim
 | some _=>cases u with
  | none=>exact (show False from r).elim
  | some _=>rfl
theorem KV.val {kvs:List (κ×V)}{vs:List (κ×Value)} (r:KV kvs vs) (k:κ):RelO (valV kvs k) (valueAt vs k):=by
 unfold KV at r
 induction r with
 | nil=>exact True.intro
 | @cons p q ps qs h t ih=>
  obtain ⟨h1,h2⟩:=h
  by_cases e:p.1=k
  ·have e':q.1=k:=h1.symm.trans e;have b:valueAt (q :: qs) k=some q.2:=by simp [valueAt,List.find?_cons,e']
   rw [Zmq e,b];exact h2
  ·have e':¬ q.1=k:=fun z=>e (h1.trans z);have b:valueAt (q :: qs) k=valueAt qs k:=by simp [valueAt,List.find?_cons,e']
   rw [Zjv e,b];exact ih
theorem KV.any {kvs:List (κ×V)}{vs:List (κ×Value)} (r:KV kvs vs) (k:κ):(kvs.any fun kv=>decide (kv.1=k))=vs.any fun kv=>decide (kv.1=k):=by
 unfold KV at r
 induction r with
 | nil=>rfl
 | cons h t ih=>rw [List.any_cons,List.any_cons,ih,h.1]
theorem KV.repl {kvs:List (κ×V)}{vs:List (κ×Value)} (r:KV kvs vs) (k:κ) {y:V}{u:Value} (ry:RelV y u):
  KV (kvs.map fun kv=>if kv.1=k then (kv.1,y) else kv) (vs.map fun kv=>if kv.1=k then (kv.1,u) else kv):=by
 unfold KV at r ⊢
 induction r with
 | nil=>exact .nil
 | @cons p q ps qs h t ih=>
  rw [List.map_cons,List.map_cons];refine .cons ?_ ih;obtain ⟨h1,h2⟩:=h
  by_cases e:p.1=k
  ·rw [if_pos e,if_pos (h1.symm.trans e)];exact ⟨h1,ry⟩
  ·rw [if_neg e,if_neg (fun z=>e (h1.trans z))];exact ⟨h1,h2⟩
theorem KV.put {kvs:List (κ×V)}{vs:List (κ×Value)} (r:KV kvs vs) (k:κ) {y:V}{u:Value} (ry:RelV y u):KV (putK kvs k y) (stored vs k u):=by
 unfold putK stored;rw [r.any k]
 by_cases e:(vs.any fun kv=>decide (kv.1=k))=true
 ·rw [if_pos e,if_pos e];exact r.repl k ry
 ·rw [if_neg e,if_neg e];exact Paired.snoc r ⟨rfl,ry⟩
theorem KV.keys {kvs:List (κ×V)}{vs:List (κ×Value)} (r:KV kvs vs):kvs.map (·.1)=vs.map (·.1):=by
 unfold KV at r
 induction r with
 | nil=>rfl
 | cons h t ih=>rw [List.map_cons,List.map_cons,ih,h.1]
theorem KV.length {kvs:List (κ×V)}{vs:List (κ×Value)} (r:KV kvs vs):kvs.length=vs.length:=Paired.length r
end
theorem ZKk {P:Program}{w:World}{k:Key}{u:Value} (r:RelV (kV k) u):(Zef P w).is k u=true:=by
 cases k with
 | inl i=>obtain ⟨t,e⟩:=(show ∃ t,u=Value.int i t from r);subst e;exact ZEc P w i t
 | inr x=>obtain ⟨t,e⟩:=(show ∃ t,u=Value.str x t from r);subst e;exact ZEb P w x t
theorem ZBw {P:Program}{w:World}:∀ {ks:List Key}{us:List Value},Vals (ks.map kV) us→ItemsAre (Zef P w) ks us
 | [],_,r=>by rw [List.map_nil] at r;cases r;exact .nil
 | k :: ks,_,r=>by
  rw [List.map_cons] at r;cases r with
  | cons h t=>exact .cons (ZKk h) (ZBw t)
abbrev KT (H:Hp):List (List Key×V)→List (List Key×Addr×Value)→Prop:=Paired fun p q=>p.1=q.1∧H q.2.1=some (.tup (p.1.map kV))∧RelV p.2 q.2.2
theorem KT.val {H:Hp}{kvs:List (List Key×V)}{xs:List (List Key×Addr×Value)} (r:KT H kvs xs) (k:List Key):RelO (valV kvs k) ((atKey xs k).map (·.2)):=by
 induction r with
 | nil=>exact True.intro
 | @cons p q ps qs h t ih=>
  obtain ⟨h1,_,h2⟩:=h
  by_cases e:p.1=k
  ·have e':q.1=k:=h1.symm.trans e;have b:atKey (q :: qs) k=some q.2:=by simp [atKey,List.find?_cons,e']
   rw [Zmq e,b];exact h2
  ·have e':¬ q.1=k:=fun z=>e (h1.trans z);have b:atKey (q :: qs) k=atKey qs k:=by simp [atKey,List.find?_cons,e']
   rw [Zjv e,b];exact ih
theorem KT.repl {H:Hp}{kvs:List (List Key×V)}{xs:List (List Key×Addr×Value)} (r:KT H kvs xs) (k:List Key) {y:V}{u:Value} (ry:RelV y u):
  KT H (kvs.map fun kv=>if kv.1=k then (kv.1,y) else kv) (xs.map (putAt k u)):=by
 induction r with
 | nil=>exact .nil
 | @cons p q ps qs h t ih=>
  rw [List.map_cons,List.map_cons];refine .cons ?_ ih;obtain ⟨h1,h2,h3⟩:=h;unfold putAt
  by_cases e:p.1=k
  ·rw [if_pos e,if_pos (h1.symm.trans e)];exact ⟨h1,h2,ry⟩
  ·rw [if_neg e,if_neg (fun z=>e (h1.trans z))];exact ⟨h1,h2,h3⟩
theorem KT.put {H:Hp}{kvs:List (List Key×V)}{xs:List (List Key×Addr×Value)} (r:KT H kvs xs) (k:List Key) {b:Addr}{y:V}{u:Value} (hb:H b=some (.tup (k.map kV))) (ry:RelV y u):
  KT H (putK kvs k y) (storedH xs k b u):=by
 have e:(kvs.any fun kv=>decide (kv.1=k))=(atKey xs k).isSome:=by
  rw [Zti,(r.val k).isSome_eq,Option.isSome_map]
 unfold putK storedH;rw [e]
 by_cases q:(atKey xs k).isSome=true
 ·rw [if_pos q,if_pos q];exact r.repl k ry
 ·rw [if_neg q,if_neg q];exact Paired.snoc r ⟨rfl,hb,ry⟩
theorem KT.keeps {H H':Hp}{kvs:List (List Key×V)}{xs:List (List Key×Addr×Value)} (r:KT H kvs xs) (ht:∀ b ys,H b=some (.tup ys)→H' b=some (.tup ys)):KT H' kvs xs:=
 Paired.mapP r fun _ _ z=>⟨z.1,ht _ _ z.2.1,z.2.2⟩
section
variable {P:Program}{w:World}{H:Hp}{h:Heap}{a:Addr}
theorem ZQa {u:HO} (ok:HOk P w H h) (e:Rd H a u):Zgb P w H h a u:=e.ok ok
theorem ZL7 {kvs:List (Key×V)} (ok:HOk P w H h) (e:Rd H a (.dK kvs)):kvs.length≤sizeLine∧(a == sysModules)=false∧∃ vs,KV kvs vs∧h.DictOf (Zef P w) a vs:=
 show Zgb P w H h a (.dK kvs) from ZQa ok e
theorem ZL8 {kvs:List (Key×V)} (ok:HOk P w H h) (e:H a=some (.dK kvs)):kvs.length≤sizeLine∧(a == sysModules)=false∧∃ vs,KV kvs vs∧h.DictOf (Zef P w) a vs:=ZL7 ok (.inl e)
theorem ZG3 {ks:List Key} (ok:HOk P w H h) (e:H a=some (.tup (ks.map kV))):(tupleKind (Zef P w)).is h ks a:=by
 obtain ⟨_,its,r,o,h1,h2,n,h3⟩:=(show Zgb P w H h a (.tup (ks.map kV)) from ok a _ e);exact ⟨o,its.toArray,n,h1,h2,h3,by simpa using ZBw r⟩
theorem ZL0 {kvs:List (List Key×V)} (ok:HOk P w H h) (e:Rd H a (.dT kvs)):kvs.length≤sizeLine∧(a == sysModules)=false∧
  ∃ xs,KT H kvs xs∧h.DictOfH (tupleKind (Zef P w)) a xs:=by
 obtain ⟨z,y,xs,r,o,es,ep,h1,h2,h3,h4,h5⟩:=(show Zgb P w H h a (.dT kvs) from ZQa ok e);refine ⟨z,y,xs,r,o,es,ep,h1,h2,h3,h4,fun x hx=>?_,h5⟩;have all:∀ {l:List (List Key×V)}{m:List (List Key×Addr×Value)},KT H l m→∀ x∈m,(tupleKind (Zef P w)).is h x.1 x.2.1:=by
  intro l m q
  induction q with
  | nil=>intro x hx;exact nomatch hx
  | @cons p q ps qs hq t ih=>
   intro x hx;rcases List.mem_cons.mp hx with e | hx
   ·subst e;exact ZG3 ok (by rw [← hq.1];exact hq.2.1)
   ·exact ih x hx
 exact all r x hx
theorem ZSx {kvs:List (List Key×V)} (ok:HOk P w H h) (e:H a=some (.dT kvs)):kvs.length≤sizeLine∧(a == sysModules)=false∧
  ∃ xs,KT H kvs xs∧h.DictOfH (tupleKind (Zef P w)) a xs:=ZL0 ok (.inl e)
end
def DGet (H:Hp) (a:Addr) (y:V) (r:Option V):Prop:=
 (∃ kvs k,Rd H a (.dK kvs)∧y=kV k∧r=valV kvs k)∨∃ kvs k b,Rd H a (.dT kvs)∧y=.ref b∧H b=some (.tup (k.map kV))∧r=valV kvs k
def DPut (H:Hp) (a:Addr) (y v:V) (H':Hp):Prop:=
 (∃ kvs k,H a=some (.dK kvs)∧y=kV k∧kvs.length < sizeLine∧H'=upd H a (.dK (putK kvs k v)))∨
 ∃ kvs k b,H a=some (.dT kvs)∧y=.ref b∧H b=some (.tup (k.map kV))∧kvs.length < sizeLine∧H'=upd H a (.dT (putK kvs k v))
theorem DGet.k {H:Hp}{a:Addr}{kvs:List (Key×V)}{k:Key} (e:H a=some (.dK kvs)):DGet H a (kV k) (valV kvs k):=.inl ⟨kvs,k,.inl e,rfl,rfl⟩
theorem DPut.k {H:Hp}{a:Addr}{kvs:List (Key×V)}{k:Key}{v:V} (e:H a=some (.dK kvs)) (hl:kvs.length < sizeLine):DPut H a (kV k) v (upd H a (.dK (putK kvs k v))):=.inl ⟨kvs,k,e,rfl,hl,rfl⟩
section
variable {X:Cx}{pins:List (Addr×Obj)}{σ:St}{H:Hp}{s:Shared}{a:Addr}{y v:V}{u r:Value}{o:Option V}{A:Around}{E:Value→Shared→Prop}
theorem Inv.big (I:Inv X pins σ H s):sysModules < s.heap.objs.size:=by
 have h:mainGlobals < s.heap.objs.size:=(I.mod.glob.keeps I.bk).lt;exact Nat.lt_trans (by decide) h
theorem ZLf {Q:Value→Shared→Prop} (hu:A.units + 1 < cLine) (I:Inv X pins σ H s) (g:DGet H a y (some v)) (ry:RelV y u) (h:∀ w' s',Inv X pins σ H s'→RelV v w'→Q w' s'):
  wpAny (model X.prog X.w) A (getItem (.ref a) u) Q E s:=by
 rcases g with ⟨kvs,k,e,ey,l⟩ | ⟨kvs,k,b,e,ey,eb,l⟩
 ·subst ey;obtain ⟨z,hd,vs,rel,dd⟩:=ZL7 I.hok e;obtain ⟨w',hw,rw'⟩:=RelO.some_of (v:=v) (o:=valueAt vs k) (by rw [l];exact rel.val k);exact wpAny_getItem_of (ZKk ry) dd.mapOf hw (h w' _ (I.tok _) rw')
 ·subst ey;cases (show u=Value.ref b from ry);obtain ⟨z,hd,xs,rel,dd⟩:=ZL0 I.hok e;obtain ⟨w',hw,rw'⟩:=RelO.some_of (v:=v) (o:=(atKey xs k).map (·.2)) (by rw [l];exact rel.val k);obtain ⟨p,hp,hp2⟩:=Option.map_eq_some_iff.mp hw;refine wpAny_getItem_heap (tupleKind_room_in1 hu) (ZG3 I.hok eb) dd hp ?_;rw [hp2];exact h w' _ (I.tok _) rw'
theorem ZPt {Q:Value→Shared→Prop} (hu:A.units + 1 < cLine) (I:Inv X pins σ H s) (g:DGet H a y o) (ry:RelV y u) (h:∀ s',Inv X pins σ H s'→Q (.bool (!o.isSome)) s'):
  wpAny (model X.prog X.w) A (compareOp .NotIn u (.ref a)) Q E s:=by
 rcases g with ⟨kvs,k,e,ey,l⟩ | ⟨kvs,k,b,e,ey,eb,l⟩
 ·subst ey;obtain ⟨z,hd,vs,rel,dd⟩:=ZL7 I.hok e;refine wpAny_notIn_of (ZKk ry) hd dd.mapOf ?_;rw [← (rel.val k).isSome_eq,← l];exact h _ (I.tok _)
 ·subst ey;cases (show u=Value.ref b from ry);obtain ⟨z,hd,xs,rel,dd⟩:=ZL0 I.hok e;refine wpAny_notIn_heap (tupleKind_room_in1 hu) (ZG3 I.hok eb) hd dd ?_;have q:=(rel.val k).isSome_eq;rw [Option.isSome_map] at q;rw [← q,← l];exact h _ (I.tok _)
theorem Zz6 {h':Heap}{t':Nat}{ob:HO} (I:Inv X pins σ H s) (mu:Mut (H a)) (hs:Heap.SameBut a s.heap h') (he:∃ q,h'.get? a=some q) (new:Zgb X.prog X.w (upd H a ob) h' a ob):
  Inv X pins σ (upd H a ob) { s with heap:=h',toks:=t' }:=
 I.write (x:=a) (e:=a) mu (.inl rfl) (fun b q hb z=>(hs.2 b hb).trans z) he new
theorem ZL9 {P:Program}{w:World}{H':Hp}{h':Heap}{kvs:List (Key×V)}{vs:List (Key×Value)} (z:kvs.length≤sizeLine) (hd:(a == sysModules)=false) (rel:KV kvs vs) (dd:h'.DictOf (Zef P w) a vs):
  Zgb P w H' h' a (.dK kvs):=⟨z,hd,vs,rel,dd⟩
theorem ZLe {H':Hp}{Q:Unit→Shared→Prop} (hu:A.units + 1 < cLine) (I:Inv X pins σ H s) (g:DPut H a y v H') (ry:RelV y u) (rv:RelV v r) (h:∀ s',Inv X pins σ H' s'→Q () s'):
  wpAny (model X.prog X.w) A (setItem (.ref a) u r) Q E s:=by
 rcases g with ⟨kvs,k,e,ey,l,eH⟩ | ⟨kvs,k,b,e,ey,eb,l,eH⟩
 ·subst ey eH;obtain ⟨z,hd,vs,rel,dd⟩:=ZL8 I.hok e;have hz:vs.length≤sizeLine:=by rw [← rel.length];exact z
  have hl:(putK kvs k v).length≤sizeLine:=by have:=Zoo kvs k v;omega
  refine wpAny_setItem_pairs (hsz:=hz) (ZKk ry) dd fun h' dd' hs=>h _ ?_;have he:∃ q,h'.get? a=some q:=let ⟨q,_,_,hq,_⟩:=dd';⟨q,hq⟩
  exact Zz6 I (by rw [e];exact True.intro) hs he (ZL9 hl hd (rel.put k rv) dd')
 ·subst ey eH;cases (show u=Value.ref b from ry);obtain ⟨z,hd,xs,rel,dd⟩:=ZSx I.hok e;have hz:xs.length≤sizeLine:=by rw [← Paired.length rel];exact z
  have hl:(putK kvs k v).length≤sizeLine:=by have:=Zoo kvs k v;omega
  refine wpAny_setItem_heap (hsz:=hz) (tupleKind_room_in1 hu) (ZG3 I.hok eb) dd fun h' dd' hs=>h _ ?_;obtain ⟨q,es,ep,hq,h2,h3,h4,_,h5⟩:=dd';refine Zz6 I (by rw [e];exact True.intro) hs ⟨q,hq⟩ ⟨hl,hd,_,(rel.put k eb rv).keeps fun c ys ec=>?_,q,es,ep,hq,h2,h3,h4,h5⟩;rw [Za9 (ZEa ec e (fun z=>nomatch z))];exact ec
end
section
variable {X:Cx}{pins:List (Addr×Obj)}{σ:St}{H:Hp}{s:Shared}{a:Addr}{kvs:List (Key×V)}{k:Key}{u:Value}{A:Around}{E:Value→Shared→Prop}
end
def NoSl (i:Expr):Prop:=∀ ov iv,subscripted i false ov iv=operate [ov,iv] (getItem ov iv)
theorem ZJa {prog:Program}{w:World}{A:Around}{E:Value→Shared→Prop}{s:Shared}{env:Env}{value slice:Expr}{pos:Pos}{T id:String}{Q:Value→Shared→Prop}
  (hl:typeLookup (.type T) "__getitem__"=pure (some (.builtin id))) (hs:NoSl slice)
  (h:wpAny (model prog w) A (eval value env) (fun o s₁=>wpAny (model prog w) A (eval slice env) (fun i s₂=>s₂.TypeIs o T∧wpAny (model prog w) A (getItem o i) Q E s₂) E s₁) E s):
  wpAny (model prog w) A (eval (.Subscript value slice pos) env) Q E s:=by
 refine Subscript_ (wpAny_mono h (fun o s₁ h₁=>wpAny_mono h₁ (fun i s₂ h₂=>?_) fun _ _ x=>x) fun _ _ x=>x);obtain ⟨hT,h₂⟩:=h₂;unfold subscriptTail;refine wpAny_bind ?_;rw [getitemInPython_of_ne hT.not_modules];refine wpAny_bind (wpAny_specialOf hT hl ?_);have fin:wpAny (model prog w) A (subscripted slice false o i) (fun r s₃=>wpAny (model prog w) A (letTemporaryGo value o r >>= fun _=>pure r) Q E s₃) E s₂:=by
  rw [hs o i];exact wpAny_operating (wpAny_mono h₂ (fun r s₃ h₃=>wpAny_bind (wpAny_letTemporaryGo (wpAny_pure h₃))) fun _ _ x=>x)
 first
  | exact wpAny_pure (wpAny_bind fin)
  | exact wpAny_bind (wpAny_pure (wpAny_bind fin))
  | exact wpAny_bind fin
theorem ZF1 {X:Cx}{pins:List (Addr×Obj)}{σ:St}{H:Hp}{s:Shared}{a:Addr}{y:V}{o:Option V} (I:Inv X pins σ H s) (g:DGet H a y o):s.TypeIs (.ref a) "dict":=by
 rcases g with ⟨kvs,k,e,_,_⟩ | ⟨kvs,k,b,e,_,_,_⟩
 ·obtain ⟨_,_,vs,_,dd⟩:=ZL7 I.hok e;exact dd.typeIs
 ·obtain ⟨_,_,xs,_,dd⟩:=ZL0 I.hok e;exact dd.typeIs
def Zf0 (td ty:TE):TE:=fun σ H Q=>td σ H fun x H1=>ty σ H1 fun y H2=>∃ a v,x=.ref a∧DGet H2 a y (some v)∧Q v H2
def Zwz (ty td:TE):TE:=fun σ H Q=>ty σ H fun y H1=>td σ H1 fun x H2=>∃ a o,x=.ref a∧DGet H2 a y o∧Q (.bl (!o.isSome)) H2
def ZDr (td ty tv:TE):TS:=fun D σ H=>tv σ H fun v H1=>td σ H1 fun x H2=>ty σ H2 fun y H3=>∃ a H4,x=.ref a∧DPut H3 a y v H4∧D.nx σ H4
section
variable {X:Cx}{o i e value:Expr}{pos pos' tpos:Pos}{td ty tv:TE}
theorem Zbx (hu:X.A.units + 1 < cLine) (ho:PE X o td) (hi:PE X i ty) (hs:NoSl i):PE X (.Subscript o i pos) (Zf0 td ty):=by
 intro pins s σ H Q I h;refine ZJa PySem.F.slot_dict_getitem.lookup hs (thn (ho pins s σ H _ I h) fun u s1 ⟨x,H1,I1,rx,q1⟩=>thn (hi pins s1 σ H1 _ I1 q1) fun iv s2 ⟨y,H2,I2,ry,a,v,ex,g,q2⟩=>?_);subst ex;obtain rfl:u=Value.ref a:=rx;exact ⟨ZF1 I2 g,ZLf hu I2 g ry fun w' s3 I3 rw'=>⟨v,H2,I3,rw',q2⟩⟩
theorem ZAv (hu:X.A.units + 1 < cLine) (hi:PE X i ty) (ho:PE X o td):PC X .NotIn i o (Zwz ty td):=by
 intro pins s σ H Q I h;refine thn (hi pins s σ H _ I h) fun iv s1 ⟨y,H1,I1,ry,q1⟩=>thn (ho pins s1 σ H1 _ I1 q1) fun u s2 ⟨x,H2,I2,rx,a,ov,ex,g,q2⟩=>?_;subst ex;obtain rfl:u=Value.ref a:=rx;exact ZPt hu I2 g ry fun s3 I3=>⟨.bl (!ov.isSome),H2,I3,rfl,q2⟩
theorem Zu1 (hu:X.A.units + 1 < cLine) (ho:PE X o td) (hi:PE X i ty) (hv:PE X value tv) (hs:swapsWith value (some (.Subscript o i pos')) pos.line X.env=pure false):
  PS X (.Assign [.Subscript o i pos'] value pos) (ZDr td ty tv):=by
 intro pins s σ H D I h;refine wpAny_Assign_Subscript (thn (hv pins s σ H _ I h) fun r s1 ⟨v,H1,I1,rv,q1⟩=>thn (ho pins s1 σ H1 _ I1 q1) fun u s2 ⟨x,H2,I2,rx,q2⟩=>thn (hi pins s2 σ H2 _ I2 q2) fun iv s3 ⟨y,H3,I3,ry,a,H4,ex,g,q3⟩=>?_) hs;subst ex;obtain rfl:u=Value.ref a:=rx;exact ZLe hu I3 g ry rv fun s4 I4=>⟨σ,H4,I4,q3⟩
end
theorem ZG7 {P:Program}{w:World}{H:Hp} (h:Heap) (hb:sysModules < h.objs.size):Zgb P w H (h.push { cls:=.type "dict",data:=.dict #[] }) h.objs.size (.dK []):=
 ⟨Nat.zero_le _,beq_eq_false_iff_ne.mpr (Ne.symm (Nat.ne_of_lt hb)),[],.nil,Heap.DictOf.new h⟩
def ZFi:TE:=fun _ H Q=>∀ p,H p=none→Q (.ref p) (upd H p (.dK []))
section
variable {X:Cx}{pos:Pos}
theorem Zxn:PE X (.Dict [] [] pos) ZFi:=fun pins s σ H Q I h=>
 wpAny_Dict_empty ⟨.ref s.heap.objs.size,_,I.laid (a:=s.heap.objs.size) (o:=.dK []) (t':=s.toks) (fun _ _ q=>Heap.get?_push_of_some _ q) (Nat.le_refl _) (ZG7 s.heap I.big),rfl,h _ (I.hok.fresh (Nat.le_refl _))⟩
end
def Zwh:List (TE×TE)→St→Hp→(List (V×V)→Hp→Prop)→Prop
 | [],_,H,Q=>Q [] H
 | (tk,tv) :: r,σ,H,Q=>tk σ H fun x H1=>tv σ H1 fun y H2=>Zwh r σ H2 fun ps H3=>Q ((x,y) :: ps) H3
abbrev VV:List (V×V)→List (Value×Value)→Prop:=Paired fun p q=>RelV p.1 q.1∧RelV p.2 q.2
def PPs (X:Cx) (pos:Pos) (keys:List (Option Expr)) (values:List Expr) (trs:List (TE×TE)):Prop:=
 ∀ (pins:List (Addr×Obj)) (s:Shared) (σ:St) (H:Hp) (Q:List (V×V)→Hp→Prop),Inv X pins σ H s→Zwh trs σ H Q→
  wpAny (model X.prog X.w) X.A (evalPairs (pairTrees keys values X.env pos)) (fun vs s'=>∃ ps H',Inv X pins σ H' s'∧VV ps vs∧Q ps H') X.xe s
theorem ZDx {X:Cx}{pos:Pos}:PPs X pos [] [] []:=fun pins s σ H Q I h=>pairTrees_nil_walk ⟨[],H,I,.nil,h⟩
theorem Zfw {X:Cx}{pos:Pos}{k v:Expr}{ks:List (Option Expr)}{vs:List Expr}{tk tv:TE}{trs:List (TE×TE)} (hk:PE X k tk) (hv:PE X v tv) (hr:PPs X pos ks vs trs):
  PPs X pos (some k :: ks) (v :: vs) ((tk,tv) :: trs):=fun pins s σ H Q I h=>
 pairTrees_cons_walk (thn (hk pins s σ H _ I h) fun u s1 ⟨x,H1,I1,rx,q1⟩=>thn (hv pins s1 σ H1 _ I1 q1) fun w2 s2 ⟨y,H2,I2,ry,q2⟩=>
  thn (hr pins s2 σ H2 _ I2 q2) fun ws s3 ⟨ps,H3,I3,rel,q3⟩=>⟨(x,y) :: ps,H3,I3,.cons ⟨rx,ry⟩ rel,q3⟩)
def Zjr (kvs more:List (Key×V)):List (Key×V):=more.foldl (fun acc kv=>putK acc kv.1 kv.2) kvs
theorem KV.merge:∀ {more:List (Key×V)}{rs:List (Key×Value)}{kvs:List (Key×V)}{vs:List (Key×Value)},KV more rs→KV kvs vs→KV (Zjr kvs more) (merged vs rs):=by
 intro more rs kvs vs r;unfold KV at r
 induction r generalizing kvs vs with
 | nil=>intro q;exact q
 | @cons p q ps qs h t ih=>
  intro r0;have e:KV (putK kvs p.1 p.2) (stored vs q.1 q.2):=by
   have:=r0.put p.1 h.2;rw [← h.1];exact this
  exact ih e
theorem Zkv:∀ (more kvs:List (Key×V)),(Zjr kvs more).length≤kvs.length + more.length
 | [],kvs=>by show kvs.length≤kvs.length + 0;omega
 | p :: r,kvs=>by
  have h1:=Zkv r (putK kvs p.1 p.2);have h2:=Zoo kvs p.1 p.2;show (Zjr (putK kvs p.1 p.2) r).length≤_;rw [List.length_cons];omega
theorem Zwt {P:Program}{w:World}:∀ {kvs:List (Key×V)}{ws:List (Value×Value)},VV (kvs.map fun kv=>(kV kv.1,kv.2)) ws→∃ rs,Carries (Zef P w) ws rs∧KV kvs rs
 | [],_,r=>by rw [List.map_nil] at r;cases r;exact ⟨[],True.intro,.nil⟩
 | p :: kvs,_,r=>by
  rw [List.map_cons] at r;cases r with
  | @cons a b as bs h t=>
   obtain ⟨rs,c,q⟩:=Zwt (P:=P) (w:=w) t;obtain ⟨b1,b2⟩:=b;exact ⟨(p.1,b2) :: rs,⟨ZKk h.1,rfl,c⟩,.cons ⟨rfl,h.2⟩ q⟩
def ZJ5 (trs:List (TE×TE)):TE:=fun σ H Q=>∀ p,H p=none→Zwh trs σ (upd H p (.dK [])) fun ps H2=>H2 p=some (.dK [])∧∃ kvs:List (Key×V),ps=kvs.map (fun kv=>(kV kv.1,kv.2))∧kvs.length≤15∧Q (.ref p) (upd H2 p (.dK (Zjr [] kvs)))
theorem ZDz {X:Cx}{pos:Pos}{keys:List (Option Expr)}{values:List Expr}{trs:List (TE×TE)} (h:PPs X pos keys values trs) (hall:keys.all (·.isSome)=true) (hl:keys.length=values.length) (h0:keys≠[])
  (h15:keys.length≤15):PE X (.Dict keys values pos) (ZJ5 trs):=by
 intro pins s σ H Q I q;have hn:=I.hok.fresh (Nat.le_refl s.heap.objs.size);have I1:=I.laid (a:=s.heap.objs.size) (o:=.dK []) (h':=s.heap.push { cls:=.type "dict",data:=.dict #[] }) (t':=s.toks) (fun _ _ q=>Heap.get?_push_of_some _ q) (Nat.le_refl _) (ZG7 s.heap I.big);refine wpAny_Dict_walk (knd:=Zef X.prog X.w) hall hl h0 h15 (thn (h pins _ σ _ _ I1 (q _ hn)) fun ws s2 ⟨ps,H2,I2,rel,e,kvs,ep,lk,q2⟩=>?_);subst ep;obtain ⟨rs,c,rk⟩:=Zwt (P:=X.prog) (w:=X.w) rel;obtain ⟨z,hd,vs0,r0,dd⟩:=ZL8 I2.hok e;cases r0;refine ⟨rs,c,dd,fun h' dd' hs=>⟨.ref s.heap.objs.size,_,?_,rfl,q2⟩⟩;have hz:(Zjr [] kvs).length≤sizeLine:=by
  have h1:=Zkv kvs [];rw [List.length_nil] at h1;rw [sizeLine_eq];omega
 have he:∃ q,h'.get? s.heap.objs.size=some q:=let ⟨q,_,_,hq,_⟩:=dd';⟨q,hq⟩
 exact Zz6 I2 (by rw [e];exact True.intro) hs he (ZL9 hz hd (rk.merge .nil) dd')
structure M1 (X:Cx) (o:Expr) (m:Str) (apos:Pos) (e:Expr) (cpos:Pos):Prop where
 base:attributeBase o m X.env (eval o X.env)=eval o X.env
 few:((backTo cpos (starEach [e] X.env)).all (fun x=>!x.1) && (backToKw cpos (keywordEach [] X.env)).all (fun x=>x.1.isSome)
  && decide (([e]:List Expr).length + ([]:List Keyword).length + (if ([]:List Keyword).isEmpty then 0 else 1) < 30))=true
 line:(apos.endLine == cpos.line)=true
 trees:backTo cpos (starEach [e] X.env)=[(false,eval e X.env)]
structure M2 (X:Cx) (o:Expr) (m:Str) (apos:Pos) (e f:Expr) (cpos:Pos):Prop where
 base:attributeBase o m X.env (eval o X.env)=eval o X.env
 few:((backTo cpos (starEach [e,f] X.env)).all (fun x=>!x.1) && (backToKw cpos (keywordEach [] X.env)).all (fun x=>x.1.isSome)
  && decide (([e,f]:List Expr).length + ([]:List Keyword).length + (if ([]:List Keyword).isEmpty then 0 else 1) < 30))=true
 line:(apos.endLine == cpos.line)=true
 trees:backTo cpos (starEach [e,f] X.env)=[(false,eval e X.env),(false,eval f X.env)]
def IsD (H:Hp) (a:Addr):Prop:=(∃ kvs,Rd H a (.dK kvs))∨∃ kvs,Rd H a (.dT kvs)
theorem ZQx {X:Cx}{pins:List (Addr×Obj)}{σ:St}{H:Hp}{s:Shared}{a:Addr} (I:Inv X pins σ H s) (d:IsD H a):
  s.TypeIs (.ref a) "dict"∧(∀ b,Value.ref a=.ref b→∃ ob,s.heap.get? b=some ob∧ob.dict=none)∧(a == sysModules)=false:=by
 rcases d with ⟨kvs,e⟩ | ⟨kvs,e⟩
 ·obtain ⟨_,hd,vs,_,dd⟩:=ZL7 I.hok e;refine ⟨dd.typeIs,fun b q=>?_,hd⟩;cases q;obtain ⟨ob,_,_,h1,h2,_⟩:=dd;exact ⟨ob,h1,h2.2.1⟩
 ·obtain ⟨_,hd,xs,_,dd⟩:=ZL0 I.hok e;refine ⟨dd.typeIs,fun b q=>?_,hd⟩;cases q;obtain ⟨ob,_,_,h1,h2,_⟩:=dd;exact ⟨ob,h1,h2.2.1⟩
section
variable {X:Cx}{pins:List (Addr×Obj)}{σ:St}{H:Hp}{s:Shared}{a:Addr}{y d:V}{u r:Value}{o:Option V}{A:Around}{E:Value→Shared→Prop}
end
section
variable {X:Cx}{o e f:Expr}{apos cpos:Pos}{td ty tx:TE}
end
section
variable {X:Cx}{pins:List (Addr×Obj)}{σ:St}{H:Hp}{s:Shared}{a:Addr}{kvs:List (Key×V)}{A:Around}{E:Value→Shared→Prop}
end
section
variable {X:Cx}{pins:List (Addr×Obj)}{σ:St}{H:Hp}{s:Shared}{a:Addr}{y:V}{u:Value}{A:Around}{E:Value→Shared→Prop}
end
end L2
namespace Att
open PySem PySem.W PySem.Calls PyProof.Rows
section
variable {prog:Program}{w:World}{A:Around}{E:Value→Shared→Prop}{s:Shared}{K:Frag}
end
end Att
namespace L2
open PySem PySem.Spec PyProof.Rows
end L2
namespace L2
open PySem PySem.Spec PyProof.Rows
end L2
namespace L2
open PySem PySem.Spec PyProof.Rows
section
variable {X:Cx}
end
section
variable {κ:Type} [DecidableEq κ]
theorem ZO2 {kvs:List (κ×V)}{k:κ}{v:V} (h:valV kvs k=some v):k∈kvs.map (·.1):=by
 have q:(kvs.any fun kv=>decide (kv.1=k))=true:=by
  rw [Zti,h]
  all_goals rfl
 obtain ⟨p,hp,e⟩:=List.any_eq_true.mp q;exact List.mem_map.mpr ⟨p,hp,of_decide_eq_true e⟩
end
end L2
set_option maxHeartbeats 40000000
namespace G
open PySem L2
section
variable {D:Ends}{σ:St}{H H1:Hp}{Q:VK}{t u:TS}{ta tb tc te:TE}{n:St→Hp→Prop}{r:VK}{b c:St→Hp→Prop}
theorem ZP3 (h:t ⟨u ⟨n,r,b,c⟩,r,b,c⟩ σ H):tSeq t u ⟨n,r,b,c⟩ σ H:=h
theorem ZNs (h:n σ H):Zbp ⟨n,r,b,c⟩ σ H:=h
theorem ZRh (h:te σ H fun _ H1=>n σ H1):Zvh te ⟨n,r,b,c⟩ σ H:=h
theorem ZSc (h:te σ H r):tRet te ⟨n,r,b,c⟩ σ H:=h
theorem i_if {c':TT} (h:c' σ H fun k H1=>if k=true then t ⟨n,r,b,c⟩ σ H1 else u ⟨n,r,b,c⟩ σ H1):tIfS c' t u ⟨n,r,b,c⟩ σ H:=h
theorem ZRm {g:TG} (h:te σ H fun x H1=>g x σ H1 n):tAsg te g ⟨n,r,b,c⟩ σ H:=h
theorem i_C {v:V} (h:Q v H):tC v σ H Q:=h
theorem i_op {f:R2} (h:ta σ H fun x H1=>tb σ H1 fun y H2=>f x y H2 Q):tOp f ta tb σ H Q:=h
theorem i_un {f:V→Hp→VK→Prop} (h:ta σ H fun x H1=>f x H1 Q):tUn f ta σ H Q:=h
def kB (q:Bool→Hp→Prop):VK:=fun x H'=>∃ k,x=.bl k∧q k H'
theorem i_B {k:Bool}{q:Bool→Hp→Prop} (h:q k H):kB q (.bl k) H:=⟨k,rfl,h⟩
theorem ZR0 {q:Bool→Hp→Prop} (h:te σ H (kB q)):Zbw te σ H q:=h
theorem i_tB {q:Bool→Hp→Prop} (h:te σ H (kB q)):tB te σ H q:=h
theorem ZSt {t u:TT}{q:Bool→Hp→Prop} (h:t σ H fun k H1=>if k=true then u σ H1 q else q false H1):tAnd t u σ H q:=h
theorem i_or {t u:TT}{q:Bool→Hp→Prop} (h:t σ H fun k H1=>if k=true then q true H1 else u σ H1 q):tOr t u σ H q:=h
theorem ZSd {t:TT}{q:Bool→Hp→Prop} (h:t σ H fun k H1=>q (!k) H1):tNot t σ H q:=h
theorem ZRn (h:ta σ H (kB fun k H1=>if k=true then tb σ H1 Q else Q (.bl false) H1)):ZA0 ta tb σ H Q:=h
theorem ZR5 (h:ta σ H (kB fun k H1=>Q (.bl (!k)) H1)):ZLs ta σ H Q:=h
theorem ZSk {t:TT} (h:t σ H fun k H1=>if k=true then ta σ H1 Q else tb σ H1 Q):tIf t ta tb σ H Q:=h
theorem i_I0 {g:Int→Int→V}{i j:Int} (h:Q (g i j) H):rI0 g (.int i) (.int j) H Q:=⟨i,j,rfl,rfl,h⟩
theorem i_I {C:Int→Int→Prop}{g:Int→Int→V}{i j:Int} (hc:C i j) (h:Q (g i j) H):rI C g (.int i) (.int j) H Q:=⟨i,j,rfl,rfl,hc,h⟩
theorem i_U {g:Int→V}{i:Int} (h:Q (g i) H):rU g (.int i) H Q:=⟨i,rfl,h⟩
theorem ZSs {i j:Int} (h:Q (.bl (decide (i=j))) H):rEq (.int i) (.int j) H Q:=⟨rfl,by rw [show decide (V.int i=V.int j)=decide (i=j) from decide_eq_decide.mpr ⟨fun e=>V.int.inj e,fun e=>by rw [e]⟩];exact h⟩
theorem ZSr {i j:Str} (h:Q (.bl (decide (i=j))) H):rEq (.str i) (.str j) H Q:=⟨rfl,by rw [show decide (V.str i=V.str j)=decide (i=j) from decide_eq_decide.mpr ⟨fun e=>V.str.inj e,fun e=>by rw [e]⟩];exact h⟩
theorem ZSg {i j:Int} (h:Q (.bl (!decide (i=j))) H):rNe (.int i) (.int j) H Q:=⟨rfl,by rw [show decide (V.int i=V.int j)=decide (i=j) from decide_eq_decide.mpr ⟨fun e=>V.int.inj e,fun e=>by rw [e]⟩];exact h⟩
theorem ZSf {i j:Str} (h:Q (.bl (!decide (i=j))) H):rNe (.str i) (.str j) H Q:=⟨rfl,by rw [show decide (V.str i=V.str j)=decide (i=j) from decide_eq_decide.mpr ⟨fun e=>V.str.inj e,fun e=>by rw [e]⟩];exact h⟩
def rIsN:R2:=fun x y H Q=>y=.non∧Q (.bl (decide (x=.non))) H
def ZHb:R2:=fun x y H Q=>y=.non∧Q (.bl (!decide (x=.non))) H
theorem ZRe (h:Q (.bl true) H):rIsN .non .non H Q:=⟨rfl,h⟩
theorem ZRd {i:Int} (h:Q (.bl false) H):rIsN (.int i) .non H Q:=⟨rfl,h⟩
theorem ZRc {i:Str} (h:Q (.bl false) H):rIsN (.str i) .non H Q:=⟨rfl,h⟩
theorem ZRb {i:Addr} (h:Q (.bl false) H):rIsN (.ref i) .non H Q:=⟨rfl,h⟩
theorem ZRa {i:Bool} (h:Q (.bl false) H):rIsN (.bl i) .non H Q:=⟨rfl,h⟩
theorem ZP7 (h:Q (.bl false) H):ZHb .non .non H Q:=⟨rfl,h⟩
theorem ZP6 {i:Int} (h:Q (.bl true) H):ZHb (.int i) .non H Q:=⟨rfl,h⟩
theorem ZKq {A B:Prop} (h:A):if true=true then A else B:=iteT h
theorem Zs5 {A B:Prop} (h:B):if false=true then A else B:=iteF h
theorem ZPa {A B:Prop} (h:B):if (!true)=true then A else B:=iteF h
theorem ZPb {A B:Prop} (h:A):if (!false)=true then A else B:=iteT h
theorem ifd {p A B:Prop} [Decidable p] (h1:p→A) (h2:¬ p→B):if decide p=true then A else B:=ite2 (fun e=>h1 (of_decide_eq_true e)) (fun e=>h2 (fun q=>e (decide_eq_true q)))
theorem ifnd {p A B:Prop} [Decidable p] (h1:¬ p→A) (h2:p→B):if (!decide p)=true then A else B:=ite2 (fun e=>h1 (by simpa using e)) (fun e=>h2 (by simpa using e))
theorem ZSe {q:List V→Hp→Prop} (h:q [] H):tNil σ H q:=h
theorem ZRk {q:List V→Hp→Prop}{t:TA} (h:ta σ H fun x H1=>t σ H1 fun xs H2=>q (x :: xs) H2):Za3 ta t σ H q:=h
theorem ZSh {t:TA} (h:t σ H fun xs H1=>xs.length≤sizeLine∧∀ p,H1 p=none→Q (.ref p) (upd H1 p (.lst xs))):tLst t σ H Q:=h
theorem ZSa {t:TA} (h:t σ H fun xs H1=>xs.length≤sizeLine∧∀ p,H1 p=none→Q (.ref p) (upd H1 p (.tup xs))):tTup t σ H Q:=h
theorem ZRl {t:TA}{sp:Sp}{dvs:List V}{E:XK} (h:t σ H fun vs H1=>sp (vs ++ dvs) H1 Q E):Zb5 sp dvs E t σ H Q:=h
theorem i_CB {t:TA}{f:List V→Hp→VK→Prop} (h:t σ H fun vs H1=>f vs H1 Q):tCB f t σ H Q:=h
theorem ZR8 {t:TA}{sp:Sp}{dvs:List V}{E:XK}{C:Addr} (h:t σ H fun vs H1=>∀ x dx,H1 x=none→H1 dx=none→dx≠x→sp (.ref x :: (vs ++ dvs)) (upd (upd H1 dx (.own x)) x (.ins C dx [])) (fun v H2=>v=.non∧Q (.ref x) H2) E):Zvg C sp dvs E t σ H Q:=h
def kFld (K:PySem.W.Frag) (f:Str) (Q:VK):VK:=fun x H1=>∃ a C dx fs v,x=.ref a∧H1 a=some (.ins C dx fs)∧Cls K C∧Zay K C f∧fs.lookup f=some v∧Q v H1
theorem ZSq {K:PySem.W.Frag}{f:Str} (h:ta σ H (kFld K f Q)):tFld K ta f σ H Q:=h
theorem Zao {K:PySem.W.Frag}{f:Str}{a C dx:Addr}{fs:List (Str×V)}{v:V} (h:H a=some (.ins C dx fs)) (hc:Cls K C) (hn:Zay K C f) (hl:fs.lookup f=some v) (q:Q v H):kFld K f Q (.ref a) H:=⟨a,C,dx,fs,v,rfl,h,hc,hn,hl,q⟩
theorem ZR2 {K:PySem.W.Frag}{f:Str}{tv:TE} (h:tv σ H fun y H1=>ta σ H1 fun x H2=>∃ a C dx fs,x=.ref a∧H2 a=some (.ins C dx fs)∧Cls K C∧Zay K C f∧fs.length < 1000∧n σ (upd H2 a (.ins C dx (putF f y fs)))):sFld K ta tv f ⟨n,r,b,c⟩ σ H:=h
theorem ZR7 {C:Addr}{m:Str}{sp:Sp}{dvs:List V}{E:XK}{t:TA} (h:ta σ H fun x H1=>∃ a dx fs,x=.ref a∧H1 a=some (.ins C dx fs)∧fs.lookup m=none∧t σ H1 fun vs H2=>sp (x :: (vs ++ dvs)) H2 Q E):Zoz C m sp dvs E ta t σ H Q:=h
theorem ZMn {q:Option Int→Hp→Prop} (h:q none H):Zwy σ H q:=h
def kI (q:Int→Hp→Prop):VK:=fun x H1=>∃ i,x=.int i∧q i H1
theorem ZR3 {q:Option Int→Hp→Prop} (h:te σ H (kI fun i=>q (some i))):ZGk te σ H q:=h
theorem i_kI {i:Int}{q:Int→Hp→Prop} (h:q i H):kI q (.int i) H:=⟨i,rfl,h⟩
theorem i_sl {f:V→Option Int→Option Int→Hp→VK→Prop}{tl th:TO} (h:te σ H fun x H1=>tl σ H1 fun l H2=>th σ H2 fun u H3=>f x l u H3 Q):tSl f te tl th σ H Q:=h
theorem i_bm {K:PySem.W.Frag}{T:String}{f:V→List V→Hp→VK→Prop}{to:TE}{t:TA} (h:to σ H fun x H1=>tyV K T x H1∧t σ H1 fun xs H2=>f x xs H2 Q):tBM K T f to t σ H Q:=h
theorem ZSp {wi:TI}{g:TG}{tb:TS} (h:wi σ H fun J H1=>∃ W:Nat→Nat→St→Hp→Prop,(∃ m,W 0 m σ H1)∧∀ i m σ H,W i m σ H→
 (J.stop i H∧n σ H)∨(J.go i H∧∃ N:St→Hp→Prop,(∀ σ' H',N σ' H'→∃ m',m' < m∧W (i + 1) m' σ' H')∧∀ x H',J.yld i H x H'→g x σ H' fun σ2 H2=>tb ⟨N,r,n,N⟩ σ2 H2)):tFor wi g tb ⟨n,r,b,c⟩ σ H:=h
theorem i_iL {K:PySem.W.Frag}{R:It→Hp→Prop} (h:te σ H fun x H1=>∃ a,x=.ref a∧(∃ xs,SqL K H1 a xs)∧R (Itl K a) H1):Zut K te σ H R:=h
theorem i_iR {ta:TA}{R:It→Hp→Prop} (h:ta σ H fun vs H1=>∃ j:Int,vs=[.int j]∧-(2 ^ 62)≤j∧j < 2 ^ 62∧R (Itr 0 j.toNat) H1):Zyp ta σ H R:=h
end
theorem i_v0 {v:V}{l:St}{H:Hp}{Q:VK} (h:Q v H):tVar 0 (some v :: l) H Q:=⟨v,rfl,h⟩
theorem i_v1 {x0:Option V}{v:V}{l:St}{H:Hp}{Q:VK} (h:Q v H):tVar 1 (x0 :: some v :: l) H Q:=⟨v,rfl,h⟩
theorem i_g1 {x0:Option V}{y:Option V}{v:V}{l:St}{H:Hp}{Q:St→Hp→Prop} (h:Q (x0 :: some v :: l) H):Zam 1 v (x0 :: y :: l) H Q:=h
theorem i_v2 {x0 x1:Option V}{v:V}{l:St}{H:Hp}{Q:VK} (h:Q v H):tVar 2 (x0 :: x1 :: some v :: l) H Q:=⟨v,rfl,h⟩
theorem i_g2 {x0 x1:Option V}{y:Option V}{v:V}{l:St}{H:Hp}{Q:St→Hp→Prop} (h:Q (x0 :: x1 :: some v :: l) H):Zam 2 v (x0 :: x1 :: y :: l) H Q:=h
theorem i_v3 {x0 x1 x2:Option V}{v:V}{l:St}{H:Hp}{Q:VK} (h:Q v H):tVar 3 (x0 :: x1 :: x2 :: some v :: l) H Q:=⟨v,rfl,h⟩
theorem i_g3 {x0 x1 x2:Option V}{y:Option V}{v:V}{l:St}{H:Hp}{Q:St→Hp→Prop} (h:Q (x0 :: x1 :: x2 :: some v :: l) H):Zam 3 v (x0 :: x1 :: x2 :: y :: l) H Q:=h
theorem i_v4 {x0 x1 x2 x3:Option V}{v:V}{l:St}{H:Hp}{Q:VK} (h:Q v H):tVar 4 (x0 :: x1 :: x2 :: x3 :: some v :: l) H Q:=⟨v,rfl,h⟩
theorem i_g4 {x0 x1 x2 x3:Option V}{y:Option V}{v:V}{l:St}{H:Hp}{Q:St→Hp→Prop} (h:Q (x0 :: x1 :: x2 :: x3 :: some v :: l) H):Zam 4 v (x0 :: x1 :: x2 :: x3 :: y :: l) H Q:=h
theorem i_v5 {x0 x1 x2 x3 x4:Option V}{v:V}{l:St}{H:Hp}{Q:VK} (h:Q v H):tVar 5 (x0 :: x1 :: x2 :: x3 :: x4 :: some v :: l) H Q:=⟨v,rfl,h⟩
theorem i_g5 {x0 x1 x2 x3 x4:Option V}{y:Option V}{v:V}{l:St}{H:Hp}{Q:St→Hp→Prop} (h:Q (x0 :: x1 :: x2 :: x3 :: x4 :: some v :: l) H):Zam 5 v (x0 :: x1 :: x2 :: x3 :: x4 :: y :: l) H Q:=h
theorem i_v6 {x0 x1 x2 x3 x4 x5:Option V}{v:V}{l:St}{H:Hp}{Q:VK} (h:Q v H):tVar 6 (x0 :: x1 :: x2 :: x3 :: x4 :: x5 :: some v :: l) H Q:=⟨v,rfl,h⟩
theorem i_g6 {x0 x1 x2 x3 x4 x5:Option V}{y:Option V}{v:V}{l:St}{H:Hp}{Q:St→Hp→Prop} (h:Q (x0 :: x1 :: x2 :: x3 :: x4 :: x5 :: some v :: l) H):Zam 6 v (x0 :: x1 :: x2 :: x3 :: x4 :: x5 :: y :: l) H Q:=h
theorem i_v7 {x0 x1 x2 x3 x4 x5 x6:Option V}{v:V}{l:St}{H:Hp}{Q:VK} (h:Q v H):tVar 7 (x0 :: x1 :: x2 :: x3 :: x4 :: x5 :: x6 :: some v :: l) H Q:=⟨v,rfl,h⟩
theorem i_g7 {x0 x1 x2 x3 x4 x5 x6:Option V}{y:Option V}{v:V}{l:St}{H:Hp}{Q:St→Hp→Prop} (h:Q (x0 :: x1 :: x2 :: x3 :: x4 :: x5 :: x6 :: some v :: l) H):Zam 7 v (x0 :: x1 :: x2 :: x3 :: x4 :: x5 :: x6 :: y :: l) H Q:=h
theorem i_v8 {x0 x1 x2 x3 x4 x5 x6 x7:Option V}{v:V}{l:St}{H:Hp}{Q:VK} (h:Q v H):tVar 8 (x0 :: x1 :: x2 :: x3 :: x4 :: x5 :: x6 :: x7 :: some v :: l) H Q:=⟨v,rfl,h⟩
theorem i_g8 {x0 x1 x2 x3 x4 x5 x6 x7:Option V}{y:Option V}{v:V}{l:St}{H:Hp}{Q:St→Hp→Prop} (h:Q (x0 :: x1 :: x2 :: x3 :: x4 :: x5 :: x6 :: x7 :: some v :: l) H):Zam 8 v (x0 :: x1 :: x2 :: x3 :: x4 :: x5 :: x6 :: x7 :: y :: l) H Q:=h
theorem i_v9 {x0 x1 x2 x3 x4 x5 x6 x7 x8:Option V}{v:V}{l:St}{H:Hp}{Q:VK} (h:Q v H):tVar 9 (x0 :: x1 :: x2 :: x3 :: x4 :: x5 :: x6 :: x7 :: x8 :: some v :: l) H Q:=⟨v,rfl,h⟩
theorem i_g9 {x0 x1 x2 x3 x4 x5 x6 x7 x8:Option V}{y:Option V}{v:V}{l:St}{H:Hp}{Q:St→Hp→Prop} (h:Q (x0 :: x1 :: x2 :: x3 :: x4 :: x5 :: x6 :: x7 :: x8 :: some v :: l) H):Zam 9 v (x0 :: x1 :: x2 :: x3 :: x4 :: x5 :: x6 :: x7 :: x8 :: y :: l) H Q:=h
theorem ZS9 {x0 x1 x2 x3 x4 x5 x6 x7 x8 x9:Option V}{v:V}{l:St}{H:Hp}{Q:VK} (h:Q v H):tVar 10 (x0 :: x1 :: x2 :: x3 :: x4 :: x5 :: x6 :: x7 :: x8 :: x9 :: some v :: l) H Q:=⟨v,rfl,h⟩
theorem ZSo {x0 x1 x2 x3 x4 x5 x6 x7 x8 x9:Option V}{y:Option V}{v:V}{l:St}{H:Hp}{Q:St→Hp→Prop} (h:Q (x0 :: x1 :: x2 :: x3 :: x4 :: x5 :: x6 :: x7 :: x8 :: x9 :: some v :: l) H):Zam 10 v (x0 :: x1 :: x2 :: x3 :: x4 :: x5 :: x6 :: x7 :: x8 :: x9 :: y :: l) H Q:=h
theorem ZS8 {x0 x1 x2 x3 x4 x5 x6 x7 x8 x9 x10:Option V}{v:V}{l:St}{H:Hp}{Q:VK} (h:Q v H):tVar 11 (x0 :: x1 :: x2 :: x3 :: x4 :: x5 :: x6 :: x7 :: x8 :: x9 :: x10 :: some v :: l) H Q:=⟨v,rfl,h⟩
theorem ZSn {x0 x1 x2 x3 x4 x5 x6 x7 x8 x9 x10:Option V}{y:Option V}{v:V}{l:St}{H:Hp}{Q:St→Hp→Prop} (h:Q (x0 :: x1 :: x2 :: x3 :: x4 :: x5 :: x6 :: x7 :: x8 :: x9 :: x10 :: some v :: l) H):Zam 11 v (x0 :: x1 :: x2 :: x3 :: x4 :: x5 :: x6 :: x7 :: x8 :: x9 :: x10 :: y :: l) H Q:=h
theorem ZS7 {x0 x1 x2 x3 x4 x5 x6 x7 x8 x9 x10 x11:Option V}{v:V}{l:St}{H:Hp}{Q:VK} (h:Q v H):tVar 12 (x0 :: x1 :: x2 :: x3 :: x4 :: x5 :: x6 :: x7 :: x8 :: x9 :: x10 :: x11 :: some v :: l) H Q:=⟨v,rfl,h⟩
theorem ZSm {x0 x1 x2 x3 x4 x5 x6 x7 x8 x9 x10 x11:Option V}{y:Option V}{v:V}{l:St}{H:Hp}{Q:St→Hp→Prop} (h:Q (x0 :: x1 :: x2 :: x3 :: x4 :: x5 :: x6 :: x7 :: x8 :: x9 :: x10 :: x11 :: some v :: l) H):Zam 12 v (x0 :: x1 :: x2 :: x3 :: x4 :: x5 :: x6 :: x7 :: x8 :: x9 :: x10 :: x11 :: y :: l) H Q:=h
theorem ZS6 {x0 x1 x2 x3 x4 x5 x6 x7 x8 x9 x10 x11 x12:Option V}{v:V}{l:St}{H:Hp}{Q:VK} (h:Q v H):tVar 13 (x0 :: x1 :: x2 :: x3 :: x4 :: x5 :: x6 :: x7 :: x8 :: x9 :: x10 :: x11 :: x12 :: some v :: l) H Q:=⟨v,rfl,h⟩
theorem ZSl {x0 x1 x2 x3 x4 x5 x6 x7 x8 x9 x10 x11 x12:Option V}{y:Option V}{v:V}{l:St}{H:Hp}{Q:St→Hp→Prop} (h:Q (x0 :: x1 :: x2 :: x3 :: x4 :: x5 :: x6 :: x7 :: x8 :: x9 :: x10 :: x11 :: x12 :: some v :: l) H):Zam 13 v (x0 :: x1 :: x2 :: x3 :: x4 :: x5 :: x6 :: x7 :: x8 :: x9 :: x10 :: x11 :: x12 :: y :: l) H Q:=h
end G
namespace G
open PySem L2
theorem Zaf {H:Hp}{p:Addr} (h:H p=none) (o:HO):Same H (upd H p o):=fun b u q=>by rw [Za9 (Za5 q h)];exact q
def tyN (H:Hp):V→Option String
 | .non=>some "NoneType"
 | .bl _=>some "bool"
 | .int _=>some "int"
 | .str _=>some "str"
 | .ref a=>match H a with
  | some (.lst _)=>some "list"
  | some (.frz _ (.lst _))=>some "list"
  | some (.tup _)=>some "tuple"
  | some (.dK _)=>some "dict"
  | some (.dT _)=>some "dict"
  | _=>none
 | _=>none
def isK (t n:String):Option Bool:=if ["int","bool","str","list","tuple","dict"].contains n then some (t == n || (t == "bool" && n == "int")) else none
def cIsi:List V→Hp→VK→Prop:=fun xs H Q=>∃ x n t k,xs=[x,.ty n]∧tyN H x=some t∧isK t n=some k∧Q (.bl k) H
theorem Zuq:isK "int" "int"=some true:=by decide +kernel
theorem Zs3:isK "int" "bool"=some false:=by decide +kernel
theorem ZEr:isK "int" "str"=some false:=by decide +kernel
theorem ZC0:isK "int" "list"=some false:=by decide +kernel
theorem Zyh:isK "int" "tuple"=some false:=by decide +kernel
theorem ZC1:isK "int" "dict"=some false:=by decide +kernel
theorem ZC5:isK "bool" "int"=some true:=by decide +kernel
theorem Zyn:isK "bool" "bool"=some true:=by decide +kernel
theorem ZC4:isK "bool" "str"=some false:=by decide +kernel
theorem Zyl:isK "bool" "list"=some false:=by decide +kernel
theorem Zw1:isK "bool" "tuple"=some false:=by decide +kernel
theorem Zym:isK "bool" "dict"=some false:=by decide +kernel
theorem Zup:isK "str" "int"=some false:=by decide +kernel
theorem ZBz:isK "str" "bool"=some false:=by decide +kernel
theorem Zuo:isK "str" "str"=some true:=by decide +kernel
theorem ZBx:isK "str" "list"=some false:=by decide +kernel
theorem Zye:isK "str" "tuple"=some false:=by decide +kernel
theorem ZBy:isK "str" "dict"=some false:=by decide +kernel
theorem Zt4:isK "NoneType" "int"=some false:=by decide +kernel
theorem Zr6:isK "NoneType" "bool"=some false:=by decide +kernel
theorem Zt3:isK "NoneType" "str"=some false:=by decide +kernel
theorem Zr4:isK "NoneType" "list"=some false:=by decide +kernel
theorem Zpz:isK "NoneType" "tuple"=some false:=by decide +kernel
theorem Zr5:isK "NoneType" "dict"=some false:=by decide +kernel
theorem Zs2:isK "list" "int"=some false:=by decide +kernel
theorem Zyg:isK "list" "bool"=some false:=by decide +kernel
theorem Zs1:isK "list" "str"=some false:=by decide +kernel
theorem Zpy:isK "list" "list"=some true:=by decide +kernel
theorem Zno:isK "list" "tuple"=some false:=by decide +kernel
theorem Zyf:isK "list" "dict"=some false:=by decide +kernel
theorem Zpx:isK "tuple" "int"=some false:=by decide +kernel
theorem Zvz:isK "tuple" "bool"=some false:=by decide +kernel
theorem Zpw:isK "tuple" "str"=some false:=by decide +kernel
theorem Znn:isK "tuple" "list"=some false:=by decide +kernel
theorem Zmh:isK "tuple" "tuple"=some true:=by decide +kernel
theorem Zvy:isK "tuple" "dict"=some false:=by decide +kernel
theorem ZC3:isK "dict" "int"=some false:=by decide +kernel
theorem Zyk:isK "dict" "bool"=some false:=by decide +kernel
theorem ZC2:isK "dict" "str"=some false:=by decide +kernel
theorem Zyi:isK "dict" "list"=some false:=by decide +kernel
theorem Zw0:isK "dict" "tuple"=some false:=by decide +kernel
theorem Zyj:isK "dict" "dict"=some true:=by decide +kernel
theorem ZIb {i:Int}{H:Hp}{Q:VK} (h:Q (.bl true) H):cIsi [.int i,.ty "int"] H Q:=⟨_,_,_,_,rfl,rfl,Zuq,h⟩
theorem ZEv {i:Int}{H:Hp}{Q:VK} (h:Q (.bl false) H):cIsi [.int i,.ty "bool"] H Q:=⟨_,_,_,_,rfl,rfl,Zs3,h⟩
theorem ZI8 {i:Str}{H:Hp}{Q:VK} (h:Q (.bl false) H):cIsi [.str i,.ty "int"] H Q:=⟨_,_,_,_,rfl,rfl,Zup,h⟩
theorem ZI7 {i:Str}{H:Hp}{Q:VK} (h:Q (.bl true) H):cIsi [.str i,.ty "str"] H Q:=⟨_,_,_,_,rfl,rfl,Zuo,h⟩
theorem ZIa {a:Addr}{H:Hp}{Q:VK}{xs:List V} (hp:H a=some (.lst xs)) (h:Q (.bl false) H):cIsi [.ref a,.ty "int"] H Q:=⟨_,_,_,_,rfl,(by show (match H a with | some (.lst _)=>some "list" | some (.frz _ (.lst _))=>some "list" | some (.tup _)=>some "tuple" | some (.dK _)=>some "dict" | some (.dT _)=>some "dict" | _=>none)=some "list";rw [hp]),Zs2,h⟩
theorem ZI6 {a:Addr}{H:Hp}{Q:VK}{xs:List V} (hp:H a=some (.tup xs)) (h:Q (.bl false) H):cIsi [.ref a,.ty "int"] H Q:=⟨_,_,_,_,rfl,(by show (match H a with | some (.lst _)=>some "list" | some (.frz _ (.lst _))=>some "list" | some (.tup _)=>some "tuple" | some (.dK _)=>some "dict" | some (.dT _)=>some "dict" | _=>none)=some "tuple";rw [hp]),Zpx,h⟩
theorem ZI9 {a:Addr}{H:Hp}{Q:VK}{xs:List V} (hp:H a=some (.lst xs)) (h:Q (.bl false) H):cIsi [.ref a,.ty "str"] H Q:=⟨_,_,_,_,rfl,(by show (match H a with | some (.lst _)=>some "list" | some (.frz _ (.lst _))=>some "list" | some (.tup _)=>some "tuple" | some (.dK _)=>some "dict" | some (.dT _)=>some "dict" | _=>none)=some "list";rw [hp]),Zs1,h⟩
theorem ZI5 {a:Addr}{H:Hp}{Q:VK}{xs:List V} (hp:H a=some (.tup xs)) (h:Q (.bl false) H):cIsi [.ref a,.ty "str"] H Q:=⟨_,_,_,_,rfl,(by show (match H a with | some (.lst _)=>some "list" | some (.frz _ (.lst _))=>some "list" | some (.tup _)=>some "tuple" | some (.dK _)=>some "dict" | some (.dT _)=>some "dict" | _=>none)=some "tuple";rw [hp]),Zpw,h⟩
theorem Zus {a:Addr}{H:Hp}{Q:VK}{xs:List V} (hp:H a=some (.lst xs)) (h:Q (.bl true) H):cIsi [.ref a,.ty "list"] H Q:=⟨_,_,_,_,rfl,(by show (match H a with | some (.lst _)=>some "list" | some (.frz _ (.lst _))=>some "list" | some (.tup _)=>some "tuple" | some (.dK _)=>some "dict" | some (.dT _)=>some "dict" | _=>none)=some "list";rw [hp]),Zpy,h⟩
theorem ZEu {a:Addr}{H:Hp}{Q:VK}{xs:List V} (hp:H a=some (.tup xs)) (h:Q (.bl false) H):cIsi [.ref a,.ty "list"] H Q:=⟨_,_,_,_,rfl,(by show (match H a with | some (.lst _)=>some "list" | some (.frz _ (.lst _))=>some "list" | some (.tup _)=>some "tuple" | some (.dK _)=>some "dict" | some (.dT _)=>some "dict" | _=>none)=some "tuple";rw [hp]),Znn,h⟩
theorem ZC6 {a:Addr}{H:Hp}{Q:VK}{xs:List V} (hp:H a=some (.lst xs)) (h:Q (.bl false) H):cIsi [.ref a,.ty "tuple"] H Q:=⟨_,_,_,_,rfl,(by show (match H a with | some (.lst _)=>some "list" | some (.frz _ (.lst _))=>some "list" | some (.tup _)=>some "tuple" | some (.dK _)=>some "dict" | some (.dT _)=>some "dict" | _=>none)=some "list";rw [hp]),Zno,h⟩
theorem Zs6 {a:Addr}{H:Hp}{Q:VK}{xs:List V} (hp:H a=some (.tup xs)) (h:Q (.bl true) H):cIsi [.ref a,.ty "tuple"] H Q:=⟨_,_,_,_,rfl,(by show (match H a with | some (.lst _)=>some "list" | some (.frz _ (.lst _))=>some "list" | some (.tup _)=>some "tuple" | some (.dK _)=>some "dict" | some (.dT _)=>some "dict" | _=>none)=some "tuple";rw [hp]),Zmh,h⟩
def Zli (K:PySem.W.Frag):List V→Hp→VK→Prop:=fun xs H Q=>∃ p ys,xs=[.ref p]∧(SqL K H p ys∨SqT K H p ys)∧Q (.int ys.length) H
theorem Zhl {K:PySem.W.Frag}{a:Addr}{H:Hp}{Q:VK}{xs:List V} (hp:SqL K H a xs) (h:Q (.int xs.length) H):Zli K [.ref a] H Q:=⟨a,xs,rfl,.inl hp,h⟩
theorem Zbe {K:PySem.W.Frag}{a:Addr}{H:Hp}{Q:VK}{xs:List V}{i:Int}{v:V} (hp:SqL K H a xs) (hi:atI xs i=some v) (h:Q v H):rIxL K (.ref a) (.int i) H Q:=⟨a,xs,i,v,rfl,rfl,hp,hi,h⟩
section
variable {K:PySem.W.Frag}{a:Addr}{xs:List V}{g:TG}{tb:TS}{σ:St}{H:Hp}{n:St→Hp→Prop}{r:VK}
theorem forL (xs:List V) (Pv:Nat→St→Hp→Prop) (h0:Pv 0 σ H) (hl:∀ i σ H,i≤xs.length→Pv i σ H→SqL K H a xs)
  (hs:∀ i x σ H,xs[i]? =some x→Pv i σ H→g x σ H fun σ2 H2=>tb ⟨Pv (i + 1),r,n,Pv (i + 1)⟩ σ2 H2) (hd:∀ σ H,Pv xs.length σ H→n σ H):
  ∃ W:Nat→Nat→St→Hp→Prop,(∃ m,W 0 m σ H)∧∀ i m σ H,W i m σ H→
   ((Itl K a).stop i H∧n σ H)∨((Itl K a).go i H∧∃ N:St→Hp→Prop,(∀ σ' H',N σ' H'→∃ m',m' < m∧W (i + 1) m' σ' H')∧∀ x H',(Itl K a).yld i H x H'→g x σ H' fun σ2 H2=>tb ⟨N,r,n,N⟩ σ2 H2):=
 ZMv (D:=⟨n,r,fun _ _=>False,fun _ _=>False⟩) Pv h0 hl hs hd
theorem forR {lo:Int}{k:Nat} (Pv:Nat→St→Hp→Prop) (h0:Pv 0 σ H)
  (hs:∀ i σ H,i < k→Pv i σ H→g (.int (lo + i)) σ H fun σ2 H2=>tb ⟨Pv (i + 1),r,n,Pv (i + 1)⟩ σ2 H2) (hd:∀ σ H,Pv k σ H→n σ H):
  ∃ W:Nat→Nat→St→Hp→Prop,(∃ m,W 0 m σ H)∧∀ i m σ H,W i m σ H→
   ((Itr lo k).stop i H∧n σ H)∨((Itr lo k).go i H∧∃ N:St→Hp→Prop,(∀ σ' H',N σ' H'→∃ m',m' < m∧W (i + 1) m' σ' H')∧∀ x H',(Itr lo k).yld i H x H'→g x σ H' fun σ2 H2=>tb ⟨N,r,n,N⟩ σ2 H2):=
 ZKv (D:=⟨n,r,fun _ _=>False,fun _ _=>False⟩) Pv h0 hs hd
end
theorem Zat {n:Nat} (h:n≤1000000):n≤sizeLine:=Nat.le_trans h (by decide)
end G
namespace G
open PySem L2
def Zxk:R2:=fun x y H Q=>∃ i j,x=.str i∧y=.str j∧i.length + j.length≤sizeLine∧Q (.str (i ++ j)) H
theorem ZC7 {i j:Str}{H:Hp}{Q:VK} (hz:i.length + j.length≤sizeLine) (h:Q (.str (i ++ j)) H):Zxk (.str i) (.str j) H Q:=⟨i,j,rfl,rfl,hz,h⟩
theorem ZSi {z:Str}{i:Int}{c:Nat}{H:Hp}{Q:VK} (hz:z.length≤sizeLine) (hi:atI z.cps.toList i=some c) (h:Q (.str ⟨#[c]⟩) H):rIxS (.str z) (.int i) H Q:=⟨z,i,c,rfl,rfl,hz,hi,h⟩
theorem ZKp {z:Str}{i:Int}{H:Hp}{Q:VK} (hz:z.length≤sizeLine) (h0:0≤i) (h1:i < z.length) (h:∀ c:Nat,Q (.str ⟨#[c]⟩) H):rIxS (.str z) (.int i) H Q:=by
 have hk:i.toNat < z.cps.toList.length:=by rw [Array.length_toList];exact (Int.toNat_lt h0).mpr h1
 have ek:i=((i.toNat:Nat):Int):=by omega
 have q:atI z.cps.toList ((i.toNat:Nat):Int)=some z.cps.toList[i.toNat]:=Zal (List.getElem?_eq_getElem hk);rw [← ek] at q;exact ZSi hz q (h _)
def cutS (z:Str) (lo hi:Option Int):Str:=⟨((z.cps.toList.drop (HT.sIx z.length 0 lo)).take (HT.sIx z.length z.length hi - HT.sIx z.length 0 lo)).toArray⟩
theorem Zou (z:Str) (lo hi:Option Int):(cutS z lo hi).length≤z.length:=by
 show (List.toArray _).size≤z.cps.size;rw [List.size_toArray,List.length_take,List.length_drop,Array.length_toList];omega
def rSlS:V→Option Int→Option Int→Hp→VK→Prop:=fun x lo hi H Q=>∃ z,x=.str z∧z.length≤sizeLine∧Q (.str (cutS z lo hi)) H
theorem ZR1 {z:Str}{lo hi:Option Int}{H:Hp}{Q:VK} (hz:z.length≤sizeLine) (h:Q (.str (cutS z lo hi)) H):rSlS (.str z) lo hi H Q:=⟨z,rfl,hz,h⟩
theorem str_len (z:Str):z.cps.toList.length=z.length:=Array.length_toList
def pick (σ:St) (j:Nat):Option V:=match σ[j]? with
 | some v=>v
 | none=>none
def tLC (wi:TI) (caps:List Nat) (tc:TT) (te:TE):TE:=fun σ H Q=>wi σ H fun J H1=>∃ W:Nat→Nat→List V→Hp→Prop,(∃ m,W 0 m [] H1)∧∀ i m ys H,W i m ys H→
 (J.stop i H∧∀ p,H p=none→Q (.ref p) (upd H p (.lst ys)))∨
 (J.go i H∧ys.length < sizeLine∧∀ x H',J.yld i H x H'→tc (some x :: caps.map (pick σ)) H' fun k H2=>if k=true then te (some x :: caps.map (pick σ)) H2 (fun y H3=>∃ m',m' < m∧W (i + 1) m' (ys ++ [y]) H3) else ∃ m',m' < m∧W (i + 1) m' ys H2)
def Zqe:TT:=fun _ H Q=>Q true H
theorem Zs4 {σ:St}{H:Hp}{Q:Bool→Hp→Prop} (h:Q true H):Zqe σ H Q:=h
theorem ZPc {r r':R2}{ta tb tc:TE}{σ:St}{H:Hp}{Q:VK} (h:ta σ H fun x H1=>tb σ H1 fun y H2=>r x y H2 (kB fun k H3=>if k=true then tc σ H3 (fun w H4=>r' y w H4 Q) else Q (.bl false) H3)):ZJ6 r r' ta tb tc σ H Q:=h
end G
namespace G
open PySem L2
end G
namespace G
open PySem L2
structure EqD (K:PySem.W.Frag) (C:Addr):Prop where
 eq:PySem.W.findIn K (.ref C) "__eq__"=some (some (.builtin "object.__eq__"))
 ob:PySem.W.mroIn K C (.type "object")=some true
end G
namespace G
open PySem L2
def Zwg (C:Addr) (E:XK) (ta:TA):TS:=fun _ σ H=>ta σ H fun vs H1=>vs.length≤100∧E (.ref C) none H1
def ZJ7 (sp:Sp) (dvs:List V) (E:St→XK) (t:TA):TE:=fun σ H Q=>t σ H fun vs H1=>sp (vs ++ dvs) H1 Q (E σ)
section
variable {σ:St}{H:Hp}{Q:VK}{n:St→Hp→Prop}{r:VK}{b c:St→Hp→Prop}{te:TE}{t:TA}
theorem ZP4 {C:Addr}{E:XK} (h:t σ H fun vs H1=>vs.length≤100∧E (.ref C) none H1):Zwg C E t ⟨n,r,b,c⟩ σ H:=h
theorem ZPd {sp:Sp}{dvs:List V}{E:St→XK} (h:t σ H fun vs H1=>sp (vs ++ dvs) H1 Q (E σ)):ZJ7 sp dvs E t σ H Q:=h
end
theorem ZRf {to ti:TE}{ts:TSet}{x:V}{σ:St}{H:Hp}{Q:St→Hp→Prop} (h:to σ H fun o H1=>ti σ H1 fun i H2=>ts o i x H2 fun H3=>Q σ H3):gSub to ti ts x σ H Q:=h
def ZLk (K:PySem.W.Frag):List V→Hp→VK→Prop:=fun xs H Q=>∃ (p:Addr) (ys:List V),xs=[.ref p]∧SqL K H p ys∧∀ l,H l=none→Q (.ref l) (upd H l (.lst ys))
theorem ZP9 {K:PySem.W.Frag}{H:Hp}{Q:VK}{p:Addr}{ys:List V} (h1:SqL K H p ys) (h:∀ l,H l=none→Q (.ref l) (upd H l (.lst ys))):ZLk K [.ref p] H Q:=⟨p,ys,rfl,h1,h⟩
def OkN (K:PySem.W.Frag) (H:Hp) (xs:List V):Prop:=∀ y∈xs,y=.non∨∃ a C dx fs,y=.ref a∧H a=some (.ins C dx fs)∧Cls K C∧EqD K C
def rInN (K:PySem.W.Frag) (neg:Bool):R2:=fun x y H Q=>∃ p xs,x=.non∧y=.ref p∧SqL K H p xs∧OkN K H xs∧Q (.bl (if neg then !decide (V.non∈xs) else decide (V.non∈xs))) H
theorem ZMm {K:PySem.W.Frag}{H:Hp}{Q:VK}{p:Addr}{xs:List V} (h1:SqL K H p xs) (h2:OkN K H xs) (h:Q (.bl (!decide (V.non∈xs))) H):rInN K true .non (.ref p) H Q:=⟨p,xs,rfl,rfl,h1,h2,h⟩
def ZJn (K:PySem.W.Frag):V→List V→Hp→VK→Prop:=fun x vs H Q=>∃ p xs,x=.ref p∧vs=[.non]∧SqL K H p xs∧OkN K H xs∧V.non∈xs∧Q (.int (xs.idxOf V.non)) H
def Fm (S:List Addr) (H H':Hp):Prop:=∀ b o,H b=some o→b∉S→H' b=some o
theorem Fm.same {H H':Hp} (a:Fm [] H H'):Same H H':=fun c o h=>a c o h (fun z=>nomatch z)
theorem ZR6 {x:V}{H:Hp}{Q:VK} (h:Q (.bl (!decide (x=.non))) H):ZHb x .non H Q:=⟨rfl,h⟩
def LCg (J:It) (caps:List Nat) (tc:TT) (te:TE) (σ:St) (H:Hp) (Q:VK):Prop:=∃ W:Nat→Nat→List V→Hp→Prop,(∃ m,W 0 m [] H)∧∀ i m ys H,W i m ys H→
 (J.stop i H∧∀ p,H p=none→Q (.ref p) (upd H p (.lst ys)))∨
 (J.go i H∧ys.length < sizeLine∧∀ x H',J.yld i H x H'→tc (some x :: caps.map (pick σ)) H' fun k H2=>if k=true then te (some x :: caps.map (pick σ)) H2 (fun y H3=>∃ m',m' < m∧W (i + 1) m' (ys ++ [y]) H3) else ∃ m',m' < m∧W (i + 1) m' ys H2)
theorem ZEt {wi:TI}{caps:List Nat}{tc:TT}{te:TE}{σ:St}{H:Hp}{Q:VK} (h:wi σ H fun J H1=>LCg J caps tc te σ H1 Q):tLC wi caps tc te σ H Q:=h
theorem ZNr {J:It}{caps:List Nat}{tc:TT}{te:TE}{σ:St}{H:Hp}{Q:VK} (k:Nat) (hz:k≤1000000) (g:Nat→Option V)
  (hstop:J.stop k H) (hgo:∀ i,i < k→J.go i H) (hy:∀ i x H',i < k→J.yld i H x H'→H'=H∧(∀ q:Bool→Hp→Prop,q (g i).isSome H→tc (some x :: caps.map (pick σ)) H q)∧∀ (y:V) (q:VK),g i=some y→q y H→te (some x :: caps.map (pick σ)) H q)
  (q:∀ p,H p=none→Q (.ref p) (upd H p (.lst ((List.range k).filterMap g)))):
  LCg J caps tc te σ H Q:=by
 refine ⟨fun i m ys H'=>H'=H∧i≤k∧m=k - i∧ys=(List.range i).filterMap g,⟨k,rfl,Nat.zero_le _,rfl,rfl⟩,?_⟩;rintro i m ys _ ⟨rfl,hi,rfl,rfl⟩
 by_cases hk:i=k
 ·subst hk;exact .inl ⟨hstop,q⟩
 ·have hlt:i < k:=by omega
  refine .inr ⟨hgo i hlt,?_,fun x H' y=>?_⟩
  ·refine Nat.lt_of_le_of_lt (Nat.le_trans (List.length_filterMap_le _ _) ?_) (show 1000000 < sizeLine by decide);rw [List.length_range];omega
  ·obtain ⟨rfl,h1,h2⟩:=hy i x H' hlt y;refine h1 _ ?_;have er:List.filterMap g (List.range (i + 1))=List.filterMap g (List.range i) ++ (match g i with | some y=>[y] | none=>[]):=by
    rw [List.range_succ,List.filterMap_append];cases e:g i with
    | none=>rw [List.filterMap_cons_none e];rfl
    | some y=>rw [List.filterMap_cons_some e];rfl
   cases e:g i with
   | none=>
    rw [e] at er;dsimp only [Option.isSome];refine iteF ⟨k - (i + 1),by omega,rfl,by omega,rfl,?_⟩;rw [er,List.append_nil]
   | some y=>
    rw [e] at er;dsimp only [Option.isSome];refine iteT (h2 y _ e ⟨k - (i + 1),by omega,rfl,by omega,rfl,?_⟩);rw [er]
theorem ZCa (l:List Nat) (p:Nat→Bool) (f:Nat→V):l.filterMap (fun i=>if p i=true then some (f i) else none)=(l.filter p).map f:=by
 induction l with
 | nil=>rfl
 | cons a l ih=>
  by_cases h:p a=true
  ·rw [List.filterMap_cons_some (by rw [if_pos h]),List.filter_cons_of_pos h,List.map_cons,ih]
  ·rw [List.filterMap_cons_none (by rw [if_neg h]),List.filter_cons_of_neg h,ih]
theorem ZMg {caps:List Nat}{tc:TT}{te:TE}{σ:St}{H:Hp}{Q:VK}{n:Nat}{z:Int} (ez:z.toNat=n) (p:Nat→Bool) (f:Nat→V) (hz:n≤1000000)
  (htc:∀ i,i < n→∀ q:Bool→Hp→Prop,q (p i) H→tc (some (.int i) :: caps.map (pick σ)) H q)
  (hte:∀ i,i < n→p i=true→∀ q:VK,q (f i) H→te (some (.int i) :: caps.map (pick σ)) H q)
  (q:∀ l,H l=none→Q (.ref l) (upd H l (.lst (((List.range n).filter p).map f)))):
  LCg (Itr 0 z.toNat) caps tc te σ H Q:=by
 subst ez;refine ZNr z.toNat hz (fun i=>if p i=true then some (f i) else none) (Nat.le_refl _) (fun i hi=>hi) (fun i x H' hi y=>?_) ?_
 ·obtain ⟨e1,e2⟩:=y;have ex:x=.int i:=by rw [e2];simp
  refine ⟨e1,fun q hq=>?_,fun y q hy hq=>?_⟩
  ·rw [ex];refine htc i hi q ?_;cases e:p i with
   | true=>rw [e] at hq;exact hq
   | false=>rw [e] at hq;exact hq
  ·rw [ex];cases e:p i with
   | true=>
    rw [e] at hy;have ey:f i=y:=by simpa using hy
    exact hte i hi e q (by rw [ey];exact hq)
   | false=>rw [e] at hy;simp at hy
 ·rw [ZCa];exact q
theorem ZP1 {K:PySem.W.Frag}{a:Addr}{xs:List V}{caps:List Nat}{tc:TT}{te:TE}{σ:St}{H:Hp}{Q:VK} (hs:SqL K H a xs) (g:Nat→Option V) (hz:xs.length≤1000000)
  (hy:∀ i x,xs[i]? =some x→(∀ q:Bool→Hp→Prop,q (g i).isSome H→tc (some x :: caps.map (pick σ)) H q)∧∀ (y:V) (q:VK),g i=some y→q y H→te (some x :: caps.map (pick σ)) H q)
  (q:∀ p,H p=none→Q (.ref p) (upd H p (.lst ((List.range xs.length).filterMap g)))):
  LCg (Itl K a) caps tc te σ H Q:=by
 refine ZNr xs.length hz g ⟨xs,hs,Nat.le_refl _⟩ (fun i hi=>⟨xs,xs[i],hs,List.getElem?_eq_getElem hi⟩) (fun i x H' hi y=>?_) q;obtain ⟨e1,e2⟩:=y;exact ⟨e1,hy i x (e2 xs hs)⟩
theorem Zfh {n i:Nat} (h:i < n):ixN n (i:Int)=some i:=by
 unfold ixN;rw [if_pos (by omega),if_pos (by omega)];simp
theorem Zrh {α:Type}{xs:List α}{i:Int}{v:α} (h0:0≤i) (h:xs[i.toNat]? =some v):atI xs i=some v:=by
 have e:i=((i.toNat:Nat):Int):=by omega
 have:=Zal h;rw [← e] at this;exact this
end G
namespace G
open PySem L2
inductive Al {α β:Type} (P:α→β→Prop):List α→List β→Prop
 | nil:Al P [] []
 | cons {x:α}{y:β}{xs:List α}{ys:List β}:P x y→Al P xs ys→Al P (x :: xs) (y :: ys)
section
variable {α β:Type}{P P':α→β→Prop}{xs:List α}{ys:List β}
theorem Al.length (h:Al P xs ys):xs.length=ys.length:=by
 induction h with
 | nil=>rfl
 | cons _ _ ih=>rw [List.length_cons,List.length_cons,ih]
theorem Al.mono (h:Al P xs ys) (f:∀ x y,P x y→P' x y):Al P' xs ys:=by
 induction h with
 | nil=>exact .nil
 | cons p _ ih=>exact .cons (f _ _ p) ih
theorem Al.get (h:Al P xs ys):∀ {i:Nat}{y:β},ys[i]? =some y→∃ x,xs[i]? =some x∧P x y:=by
 induction h with
 | nil=>intro i y e;simp at e
 | cons p _ ih=>
  intro i y e;cases i with
  | zero=>simp at e;subst e;exact ⟨_,rfl,p⟩
  | succ i=>
   obtain ⟨x,e1,e2⟩:=ih (i:=i) (y:=y) (by simpa using e);exact ⟨x,by simpa using e1,e2⟩
end
end G
namespace G
open PySem L2
abbrev Tg:=Addr→Nat×Nat
def WT (H:Hp) (T:Tg):Prop:=∀ b,H b=none→T b=(0,0)
structure Stp (s:Nat) (H H':Hp) (T T':Tg):Prop where
 kp:∀ b o,H b=some o→(T b).1≠s→H' b=some o
 al:∀ b o,H b=some o→∃ o',H' b=some o'
 tg:∀ b o,H b=some o→T' b=T b
 wt:WT H' T'
def setT (T:Tg) (a:Addr) (v:Nat×Nat):Tg:=fun x=>if x=a then v else T x
theorem Zdd {T:Tg}{a:Addr}{v:Nat×Nat}:setT T a v a=v:=by unfold setT;rw [if_pos rfl]
theorem Zdy {T:Tg}{a b:Addr}{v:Nat×Nat} (h:b≠a):setT T a v b=T b:=by unfold setT;rw [if_neg h]
theorem WT.same {H H':Hp}{T:Tg} (w:WT H T) (s:Same H H'):WT H' T:=fun b h=>w b (s.free h)
theorem Stp.refl {s:Nat}{H:Hp}{T:Tg} (w:WT H T):Stp s H H T T:=⟨fun _ _ h _=>h,fun _ o h=>⟨o,h⟩,fun _ _ _=>rfl,w⟩
theorem Stp.same {s:Nat}{H H':Hp}{T:Tg} (w:WT H T) (e:Same H H'):Stp s H H' T T:=⟨fun b o h _=>e b o h,fun b o h=>⟨o,e b o h⟩,fun _ _ _=>rfl,w.same e⟩
theorem Stp.trans {s:Nat}{H H1 H2:Hp}{T T1 T2:Tg} (a:Stp s H H1 T T1) (b:Stp s H1 H2 T1 T2):Stp s H H2 T T2 where
 kp:=fun x o h n=>b.kp x o (a.kp x o h n) (by rw [a.tg x o h];exact n)
 al:=fun x o h=>by
  obtain ⟨o1,h1⟩:=a.al x o h;exact b.al x o1 h1
 tg:=fun x o h=>by
  obtain ⟨o1,h1⟩:=a.al x o h;rw [b.tg x o1 h1,a.tg x o h]
 wt:=b.wt
theorem Stp.upd {s:Nat}{H:Hp}{T:Tg}{a:Addr}{o o':HO} (w:WT H T) (ha:H a=some o) (ht:(T a).1=s):Stp s H (L2.upd H a o') T T where
 kp:=fun x u h n=>by
  have:x≠a:=fun e=>n (by rw [e];exact ht);rw [Za9 this];exact h
 al:=fun x u h=>by
  by_cases e:x=a
  ·exact ⟨o',by rw [e,Za2]⟩
  ·exact ⟨u,by rw [Za9 e];exact h⟩
 tg:=fun _ _ _=>rfl
 wt:=fun b h=>w b (by
  by_cases e:b=a
  ·rw [e,Za2] at h;cases h
  ·rw [Za9 e] at h;exact h)
theorem Zrq {T:Tg}{a b:Addr}{x y:Nat×Nat} (ha:T a=x) (hb:T b=y) (h:x≠y):a≠b:=fun e=>h (by rw [← ha,← hb,e])
end G
namespace G
open PySem L2
theorem ZQp {J:It}{caps:List Nat}{tc:TT}{te:TE}{σ:St}{H:Hp}{Q:VK} (k:Nat) (hz:k≤1000000) (R:Nat→V→Hp→Prop) (mono:∀ i y H1 H2,R i y H1→Same H1 H2→R i y H2)
  (hstop:∀ H',Same H H'→J.stop k H') (hgo:∀ i H',i < k→Same H H'→J.go i H')
  (hy:∀ i x H1 H',i < k→Same H H1→J.yld i H1 x H'→H'=H1∧(∀ q:Bool→Hp→Prop,q true H1→tc (some x :: caps.map (pick σ)) H1 q)∧∀ q:VK,(∀ y H2,Same H1 H2→R i y H2→q y H2)→te (some x :: caps.map (pick σ)) H1 q)
  (q:∀ ys H',Same H H'→ys.length=k→(∀ (i:Nat) y,ys[i]? =some y→R i y H')→∀ p,H' p=none→Q (.ref p) (upd H' p (.lst ys))):
  LCg J caps tc te σ H Q:=by
 refine ⟨fun i m ys H'=>Same H H'∧i≤k∧m=k - i∧ys.length=i∧∀ (j:Nat) y,ys[j]? =some y→R j y H',⟨k,Same.refl _,Nat.zero_le _,rfl,rfl,fun j y e=>by simp at e⟩,?_⟩;rintro i m ys H1 ⟨s1,hi,rfl,hl,hr⟩
 by_cases hk:i=k
 ·subst hk;exact .inl ⟨hstop H1 s1,q ys H1 s1 hl hr⟩
 ·have hlt:i < k:=by omega
  refine .inr ⟨hgo i H1 hlt s1,Nat.lt_of_le_of_lt (show ys.length≤1000000 by omega) (show 1000000 < sizeLine by decide),fun x H' y=>?_⟩;obtain ⟨rfl,h1,h2⟩:=hy i x H1 H' hlt s1 y;refine h1 _ (iteT (h2 _ fun y H2 s2 r=>⟨k - (i + 1),by omega,s1.trans s2,by omega,rfl,by rw [List.length_append,hl];rfl,fun j z e=>?_⟩))
  by_cases hj:j < ys.length
  ·rw [List.getElem?_append_left hj] at e;exact mono j z _ _ (hr j z e) s2
  ·have hj':=(List.getElem?_eq_some_iff.mp e).1;rw [List.length_append,List.length_singleton] at hj';have ej:j=ys.length:=by omega
   subst ej;rw [List.getElem?_append_right (Nat.le_refl _),Nat.sub_self] at e;cases e;rw [hl];exact r
theorem ZP0 {caps:List Nat}{tc:TT}{te:TE}{σ:St}{H:Hp}{Q:VK}{n:Nat}{z:Int} (ez:z.toNat=n) (hz:n≤1000000) (R:Nat→V→Hp→Prop) (mono:∀ i y H1 H2,R i y H1→Same H1 H2→R i y H2)
  (htc:∀ i H1,∀ q:Bool→Hp→Prop,q true H1→tc (some (.int i) :: caps.map (pick σ)) H1 q)
  (hte:∀ (i:Nat) H1,i < n→Same H H1→∀ q:VK,(∀ y H2,Same H1 H2→R i y H2→q y H2)→te (some (.int i) :: caps.map (pick σ)) H1 q)
  (q:∀ ys H',Same H H'→ys.length=n→(∀ (i:Nat) y,ys[i]? =some y→R i y H')→∀ p,H' p=none→Q (.ref p) (upd H' p (.lst ys))):LCg (Itr 0 z.toNat) caps tc te σ H Q:=by
 subst ez;refine ZQp z.toNat hz R mono (fun _ _=>Nat.le_refl _) (fun i _ hi _=>hi) (fun i x H1 H' hi s1 y=>?_) q;obtain ⟨e1,e2⟩:=y;have ex:x=.int i:=by rw [e2];simp
 subst ex;exact ⟨e1,htc i H1,fun q hq=>hte i H1 hi s1 q hq⟩
theorem ZKh {J:It}{caps:List Nat}{tc:TT}{te:TE}{σ:St}{H:Hp}{Q:VK} (k:Nat) (hz:k≤1000000) (R:Nat→Addr→Hp→Prop) (mono:∀ i y H1 H2,R i y H1→Same H1 H2→R i y H2) (al:∀ i y H1,R i y H1→∃ o,H1 y=some o)
  (hstop:∀ H',Same H H'→J.stop k H') (hgo:∀ i H',i < k→Same H H'→J.go i H')
  (hy:∀ i x H1 H',i < k→Same H H1→J.yld i H1 x H'→H'=H1∧(∀ q:Bool→Hp→Prop,q true H1→tc (some x :: caps.map (pick σ)) H1 q)∧∀ q:VK,(∀ r H2,Same H1 H2→H1 r=none→R i r H2→q (.ref r) H2)→te (some x :: caps.map (pick σ)) H1 q)
  (q:∀ (rs:List Addr) H',Same H H'→rs.length=k→rs.Nodup→(∀ r∈rs,H r=none)→(∀ (i:Nat) r,rs[i]? =some r→R i r H')→∀ p,H' p=none→Q (.ref p) (upd H' p (.lst (rs.map V.ref)))):
  LCg J caps tc te σ H Q:=by
 refine ⟨fun i m ys H'=>∃ rs:List Addr,ys=rs.map V.ref∧Same H H'∧i≤k∧m=k - i∧rs.length=i∧rs.Nodup∧(∀ r∈rs,H r=none)∧∀ (j:Nat) r,rs[j]? =some r→R j r H',⟨k,[],rfl,Same.refl _,Nat.zero_le _,rfl,rfl,List.nodup_nil,fun r hr=>(nomatch hr),fun j y e=>by simp at e⟩,?_⟩;rintro i m _ H1 ⟨rs,rfl,s1,hi,rfl,hl,nd,nn,hr⟩
 by_cases hk:i=k
 ·subst hk;exact .inl ⟨hstop H1 s1,q rs H1 s1 hl nd nn hr⟩
 ·have hlt:i < k:=by omega
  refine .inr ⟨hgo i H1 hlt s1,Nat.lt_of_le_of_lt (show (rs.map V.ref).length≤1000000 by rw [List.length_map];omega) (show 1000000 < sizeLine by decide),fun x H' y=>?_⟩;obtain ⟨rfl,h1,h2⟩:=hy i x H1 H' hlt s1 y;refine h1 _ (iteT (h2 _ fun r H2 s2 nr rr=>⟨k - (i + 1),by omega,rs ++ [r],by rw [List.map_append];rfl,s1.trans s2,by omega,rfl,by rw [List.length_append,hl];rfl,?_,fun z hz=>?_,fun j z e=>?_⟩))
  ·rw [List.nodup_append];refine ⟨nd,by simp,fun a ha b hb e=>?_⟩;rw [List.mem_singleton.mp hb] at e;subst e;obtain ⟨j,hj,ej⟩:=List.getElem_of_mem ha;obtain ⟨o,ho⟩:=al j a _ (hr j a (by rw [List.getElem?_eq_getElem hj,ej]));rw [nr] at ho;cases ho
  ·rcases List.mem_append.mp hz with hz | hz
   ·exact nn z hz
   ·rw [List.mem_singleton.mp hz];exact s1.free nr
  ·by_cases hj:j < rs.length
   ·rw [List.getElem?_append_left hj] at e;exact mono j z _ _ (hr j z e) s2
   ·have hj':=(List.getElem?_eq_some_iff.mp e).1;rw [List.length_append,List.length_singleton] at hj';have ej:j=rs.length:=by omega
    subst ej;rw [List.getElem?_append_right (Nat.le_refl _),Nat.sub_self] at e;cases e;rw [hl];exact rr
theorem Zy7 {K:PySem.W.Frag}{a:Addr}{xs:List V}{caps:List Nat}{tc:TT}{te:TE}{σ:St}{H:Hp}{Q:VK} (hs:SqL K H a xs) (hz:xs.length≤1000000) (R:Nat→Addr→Hp→Prop) (mono:∀ i y H1 H2,R i y H1→Same H1 H2→R i y H2) (al:∀ i y H1,R i y H1→∃ o,H1 y=some o)
  (htc:∀ x H1,∀ q:Bool→Hp→Prop,q true H1→tc (some x :: caps.map (pick σ)) H1 q)
  (hte:∀ (i:Nat) x H1,xs[i]? =some x→Same H H1→∀ q:VK,(∀ r H2,Same H1 H2→H1 r=none→R i r H2→q (.ref r) H2)→te (some x :: caps.map (pick σ)) H1 q)
  (q:∀ (rs:List Addr) H',Same H H'→rs.length=xs.length→rs.Nodup→(∀ r∈rs,H r=none)→(∀ (i:Nat) r,rs[i]? =some r→R i r H')→∀ p,H' p=none→Q (.ref p) (upd H' p (.lst (rs.map V.ref)))):LCg (Itl K a) caps tc te σ H Q:=by
 refine ZKh xs.length hz R mono al (fun H' s=>⟨xs,s.seq hs,Nat.le_refl _⟩) (fun i H' hi s=>⟨xs,xs[i],s.seq hs,List.getElem?_eq_getElem hi⟩) (fun i x H1 H' hi s1 y=>?_) q;obtain ⟨e1,e2⟩:=y;exact ⟨e1,htc x H1,fun q hq=>hte i x H1 (e2 xs (s1.seq hs)) s1 q hq⟩
theorem ZMh {caps:List Nat}{tc:TT}{te:TE}{σ:St}{H:Hp}{Q:VK}{n:Nat}{z:Int} (ez:z.toNat=n) (hz:n≤1000000) (R:Nat→Addr→Hp→Prop) (mono:∀ i y H1 H2,R i y H1→Same H1 H2→R i y H2) (al:∀ i y H1,R i y H1→∃ o,H1 y=some o)
  (htc:∀ i H1,∀ q:Bool→Hp→Prop,q true H1→tc (some (.int i) :: caps.map (pick σ)) H1 q)
  (hte:∀ (i:Nat) H1,i < n→Same H H1→∀ q:VK,(∀ r H2,Same H1 H2→H1 r=none→R i r H2→q (.ref r) H2)→te (some (.int i) :: caps.map (pick σ)) H1 q)
  (q:∀ (rs:List Addr) H',Same H H'→rs.length=n→rs.Nodup→(∀ r∈rs,H r=none)→(∀ (i:Nat) r,rs[i]? =some r→R i r H')→∀ p,H' p=none→Q (.ref p) (upd H' p (.lst (rs.map V.ref)))):LCg (Itr 0 z.toNat) caps tc te σ H Q:=by
 subst ez;refine ZKh z.toNat hz R mono al (fun _ _=>Nat.le_refl _) (fun i _ hi _=>hi) (fun i x H1 H' hi s1 y=>?_) q;obtain ⟨e1,e2⟩:=y;have ex:x=.int i:=by rw [e2];simp
 subst ex;exact ⟨e1,htc i H1,fun q hq=>hte i H1 hi s1 q hq⟩
end G
namespace G
open PySem L2 PySem.Spec PyProof.Rows
theorem boot_isinstance:bootBuiltins "isinstance"=some (.builtin "isinstance"):=by decide +kernel
theorem boot_len:bootBuiltins "len"=some (.builtin "len"):=by decide +kernel
theorem boot_int:bootBuiltins "int"=some (.type "int"):=by decide +kernel
theorem boot_str:bootBuiltins "str"=some (.type "str"):=by decide +kernel
theorem boot_bool:bootBuiltins "bool"=some (.type "bool"):=by decide +kernel
theorem boot_list:bootBuiltins "list"=some (.type "list"):=by decide +kernel
theorem boot_tuple:bootBuiltins "tuple"=some (.type "tuple"):=by decide +kernel
structure FunD (K:PySem.W.Frag) (x qual:Str) (st:Stmt) (f:Addr) (fd:FuncData):Prop where
 ex:∃ (oc:Value) (od:Option Addr) (dV kV doc pm:Value) (an:Option Addr) (cdv ct:Value) (osl:Array (Option Value)),
  fd=PySem.W.fnOf x qual (Zfi st) (Zeh st) (Zaa st) dV kV doc pm an cdv ct∧K.lookup f=some ⟨oc,od,.func fd,osl⟩∧PySem.W.codeIn K cdv qual=true
 kp:PySem.W.keepIn K (.ref f)=true
section
variable {P:Program}{w:World}{K:PySem.W.Frag}{mg:Str→Option Value}{base:Heap}
theorem ZPj {x qual:Str}{st:Stmt}{f:Addr}{oc dV:Value}{od an:Option Addr}{osl:Array (Option Value)}{kV doc pm cdv ct:Value} (l:K.lookup f=some ⟨oc,od,.func (PySem.W.fnOf x qual (Zfi st) (Zeh st) (Zaa st) dV kV doc pm an cdv ct),osl⟩)
  (c:PySem.W.codeIn K cdv qual=true) (k:PySem.W.keepIn K (.ref f)=true):FunD K x qual st f (PySem.W.fnOf x qual (Zfi st) (Zeh st) (Zaa st) dV kV doc pm an cdv ct):=⟨⟨oc,od,dV,kV,doc,pm,an,cdv,ct,osl,rfl,l,c⟩,k⟩
theorem ZLl {f td:Addr}{oc tc:Value}{od to_:Option Addr}{osl ts:Array (Option Value)}{fd:FuncData}{items:Array Value}{tn:Nat}{ps:List Str}{ds:List Value} (_:K.lookup f=some ⟨oc,od,.func fd,osl⟩) (t:K.lookup td=some ⟨tc,to_,.seq items tn,ts⟩)
  (h:∀ us:List Value,us.length + ds.length=ps.length→∃ k,bindArgs fd ⟨us,[]⟩=seqItems? (.ref td) >>= k∧k (some items)=pure (ps.zip (us ++ ds))) (hd:fd.defaults=.ref td:=by rfl):Binds K fd ps ds:=by
 intro s us KX hl;obtain ⟨k,h1,h2⟩:=h us (by rw [List.length_append] at hl;exact hl);exact BindsTo.of_defaults hd (KX _ _ t) rfl (by rw [h1,hd]) h2
end
section
variable {X:Cx}
theorem Zji:OpR X (compareOp .Is) rIsN:=ZQg
theorem ZFt:OpR X (compareOp .IsNot) ZHb:=ZOo
theorem Zcb:ZFh X (.builtin "len") (Zli X.K):=ZCr
def kk (t n:String):Option Bool:=if (Value.type t == Value.type n)=true then some true else if PySem.W.kitMeta n=true then (fastBuiltinMro t).map (·.contains (.type n)) else none
theorem ZQr (K:PySem.W.Frag) (t n:String):PySem.W.kitOne K (.type t) (.type n)=kk t n:=rfl
theorem ZHz:kk "int" "int"=some true:=by decide +kernel
theorem ZEm:kk "int" "bool"=some false:=by decide +kernel
theorem ZHy:kk "int" "str"=some false:=by decide +kernel
theorem ZEk:kk "int" "list"=some false:=by decide +kernel
theorem ZBp:kk "int" "tuple"=some false:=by decide +kernel
theorem ZEl:kk "int" "dict"=some false:=by decide +kernel
theorem ZEq:kk "bool" "int"=some true:=by decide +kernel
theorem ZBv:kk "bool" "bool"=some true:=by decide +kernel
theorem ZEp:kk "bool" "str"=some false:=by decide +kernel
theorem ZBt:kk "bool" "list"=some false:=by decide +kernel
theorem Zyd:kk "bool" "tuple"=some false:=by decide +kernel
theorem ZBu:kk "bool" "dict"=some false:=by decide +kernel
theorem ZHx:kk "str" "int"=some false:=by decide +kernel
theorem ZEh:kk "str" "bool"=some false:=by decide +kernel
theorem ZHw:kk "str" "str"=some true:=by decide +kernel
theorem ZEf:kk "str" "list"=some false:=by decide +kernel
theorem ZBl:kk "str" "tuple"=some false:=by decide +kernel
theorem ZEg:kk "str" "dict"=some false:=by decide +kernel
theorem Zum:kk "NoneType" "int"=some false:=by decide +kernel
theorem Zt2:kk "NoneType" "bool"=some false:=by decide +kernel
theorem Zul:kk "NoneType" "str"=some false:=by decide +kernel
theorem Zt0:kk "NoneType" "list"=some false:=by decide +kernel
theorem Zr1:kk "NoneType" "tuple"=some false:=by decide +kernel
theorem Zt1:kk "NoneType" "dict"=some false:=by decide +kernel
theorem ZEj:kk "list" "int"=some false:=by decide +kernel
theorem ZBo:kk "list" "bool"=some false:=by decide +kernel
theorem ZEi:kk "list" "str"=some false:=by decide +kernel
theorem ZBm:kk "list" "list"=some true:=by decide +kernel
theorem Zyb:kk "list" "tuple"=some false:=by decide +kernel
theorem ZBn:kk "list" "dict"=some false:=by decide +kernel
theorem ZBk:kk "tuple" "int"=some false:=by decide +kernel
theorem Zya:kk "tuple" "bool"=some false:=by decide +kernel
theorem ZBj:kk "tuple" "str"=some false:=by decide +kernel
theorem Zy8:kk "tuple" "list"=some false:=by decide +kernel
theorem Zvw:kk "tuple" "tuple"=some true:=by decide +kernel
theorem Zy9:kk "tuple" "dict"=some false:=by decide +kernel
theorem ZEo:kk "dict" "int"=some false:=by decide +kernel
theorem ZBs:kk "dict" "bool"=some false:=by decide +kernel
theorem ZEn:kk "dict" "str"=some false:=by decide +kernel
theorem ZBq:kk "dict" "list"=some false:=by decide +kernel
theorem Zyc:kk "dict" "tuple"=some false:=by decide +kernel
theorem ZBr:kk "dict" "dict"=some true:=by decide +kernel
theorem ZQ2 {H:Hp}{x:V}{t:String} (e:tyN H x=some t):t="int"∨t="bool"∨t="str"∨t="NoneType"∨t="list"∨t="tuple"∨t="dict":=by
 unfold tyN at e;split at e<;>(first | (cases e;simp) | (split at e<;>(first | (cases e;simp) | cases e)) | cases e)
theorem ZQw {t n:String}{k:Bool} (e:isK t n=some k):n="int"∨n="bool"∨n="str"∨n="list"∨n="tuple"∨n="dict":=by
 unfold isK at e
 by_cases h:(["int","bool","str","list","tuple","dict"].contains n)=true
 ·simpa using h
 ·rw [if_neg h] at e;cases e
theorem ZS4 {H:Hp}{x:V}{t n:String}{k:Bool} (ht:tyN H x=some t) (e:isK t n=some k):kk t n=some k:=by
 rcases ZQ2 ht with rfl | rfl | rfl | rfl | rfl | rfl | rfl<;>rcases ZQw e with rfl | rfl | rfl | rfl | rfl | rfl
 ·rw [Zuq] at e;rw [ZHz];exact e
 ·rw [Zs3] at e;rw [ZEm];exact e
 ·rw [ZEr] at e;rw [ZHy];exact e
 ·rw [ZC0] at e;rw [ZEk];exact e
 ·rw [Zyh] at e;rw [ZBp];exact e
 ·rw [ZC1] at e;rw [ZEl];exact e
 ·rw [ZC5] at e;rw [ZEq];exact e
 ·rw [Zyn] at e;rw [ZBv];exact e
 ·rw [ZC4] at e;rw [ZEp];exact e
 ·rw [Zyl] at e;rw [ZBt];exact e
 ·rw [Zw1] at e;rw [Zyd];exact e
 ·rw [Zym] at e;rw [ZBu];exact e
 ·rw [Zup] at e;rw [ZHx];exact e
 ·rw [ZBz] at e;rw [ZEh];exact e
 ·rw [Zuo] at e;rw [ZHw];exact e
 ·rw [ZBx] at e;rw [ZEf];exact e
 ·rw [Zye] at e;rw [ZBl];exact e
 ·rw [ZBy] at e;rw [ZEg];exact e
 ·rw [Zt4] at e;rw [Zum];exact e
 ·rw [Zr6] at e;rw [Zt2];exact e
 ·rw [Zt3] at e;rw [Zul];exact e
 ·rw [Zr4] at e;rw [Zt0];exact e
 ·rw [Zpz] at e;rw [Zr1];exact e
 ·rw [Zr5] at e;rw [Zt1];exact e
 ·rw [Zs2] at e;rw [ZEj];exact e
 ·rw [Zyg] at e;rw [ZBo];exact e
 ·rw [Zs1] at e;rw [ZEi];exact e
 ·rw [Zpy] at e;rw [ZBm];exact e
 ·rw [Zno] at e;rw [Zyb];exact e
 ·rw [Zyf] at e;rw [ZBn];exact e
 ·rw [Zpx] at e;rw [ZBk];exact e
 ·rw [Zvz] at e;rw [Zya];exact e
 ·rw [Zpw] at e;rw [ZBj];exact e
 ·rw [Znn] at e;rw [Zy8];exact e
 ·rw [Zmh] at e;rw [Zvw];exact e
 ·rw [Zvy] at e;rw [Zy9];exact e
 ·rw [ZC3] at e;rw [ZEo];exact e
 ·rw [Zyk] at e;rw [ZBs];exact e
 ·rw [ZC2] at e;rw [ZEn];exact e
 ·rw [Zyi] at e;rw [ZBq];exact e
 ·rw [Zw0] at e;rw [Zyc];exact e
 ·rw [Zyj] at e;rw [ZBr];exact e
theorem tyOf {K:PySem.W.Frag}{H:Hp}{x:V}{t:String} (e:tyN H x=some t):TyOf K H x (.type t):=by
 cases x with
 | non=>cases e;exact .non
 | bl y=>cases e;exact .bl y
 | int y=>cases e;exact .int y
 | str y=>cases e;exact .str y
 | byt y=>cases e
 | flt y=>cases e
 | ty y=>cases e
 | ref a=>
  have e':(match H a with | some (.lst _)=>some "list" | some (.frz _ (.lst _))=>some "list" | some (.tup _)=>some "tuple" | some (.dK _)=>some "dict" | some (.dT _)=>some "dict" | _=>none)=some t:=e;split at e'
  ·rename_i h;cases e';exact .lst h
  ·rename_i h;cases e';exact .frz h
  ·rename_i h;cases e';exact .tup h
  ·rename_i h;cases e';exact .dK h
  ·rename_i h;cases e';exact .dT h
  ·cases e'
theorem Zdo:ZFh X (.builtin "isinstance") cIsi:=by
 intro pins s σ H xs us Q I r h;obtain ⟨x,n,t,k,rfl,ht,hk,q⟩:=h;obtain ⟨u,w',rfl,rx,rn⟩:=vals2 r;have rn':w'=Value.type n:=rn;subst rn';exact ZKm (t:=.type t) (b:=k) I rx (tyOf ht) ((ZQr _ _ _).trans (ZS4 ht hk)) fun tk=>⟨.bl k,H,I.tok _,rfl,q⟩
end
end G
namespace G
open PySem L2 PySem.Spec PyProof.Rows
section
variable {X:Cx}
theorem Ztq (n:Nat) (o:Option Int) (d:Nat) (v:Int) (h:o=some v):max (0:Int) (min (if v < 0 then v + n else v) n)=((HT.sIx n d o:Nat):Int):=by
 subst h;show _=(((if v < 0 then (v + (n:Int)).toNat else min v.toNat n:Nat)):Int);split<;>omega
theorem ZAd (lo hi:Option Int) (n:Nat):Builtin.Str.strSliceIndices lo hi 1 n=Builtin.Str.strSliceIndices (some ((HT.sIx n 0 lo:Nat):Int)) (some ((HT.sIx n n hi:Nat):Int)) 1 n:=by
 have a1:=HT.Ztx n 0 (Nat.zero_le _) lo;have a2:=HT.Ztx n n (Nat.le_refl _) hi;have e1:max (0:Int) (min (if ((HT.sIx n 0 lo:Nat):Int) < 0 then ((HT.sIx n 0 lo:Nat):Int) + n else ((HT.sIx n 0 lo:Nat):Int)) n)=((HT.sIx n 0 lo:Nat):Int):=by
  rw [if_neg (by omega)];omega
 have e2:max (0:Int) (min (if ((HT.sIx n n hi:Nat):Int) < 0 then ((HT.sIx n n hi:Nat):Int) + n else ((HT.sIx n n hi:Nat):Int)) n)=((HT.sIx n n hi:Nat):Int):=by
  rw [if_neg (by omega)];omega
 simp only [Builtin.Str.strSliceIndices,show ((1:Int) > 0)=True from by simp,if_true];rw [e1,e2];cases lo with
 | none=>
  cases hi with
  | none=>rfl
  | some j=>dsimp only;rw [Ztq n (some j) n j rfl];rfl
 | some i=>
  cases hi with
  | none=>dsimp only;rw [Ztq n (some i) 0 i rfl];rfl
  | some j=>dsimp only;rw [Ztq n (some j) n j rfl,Ztq n (some i) 0 i rfl]
theorem ZJf (z:Str) (lo hi:Option Int):(Builtin.Str.strSliceIndices lo hi 1 z.length).filterMap (z.cps[·]?)=(z.cps.toList.drop (HT.sIx z.length 0 lo)).take (HT.sIx z.length z.length hi - HT.sIx z.length 0 lo):=by
 rw [ZAd]
 by_cases h:HT.sIx z.length 0 lo≤HT.sIx z.length z.length hi
 ·exact StrLaws.sliced_plain z h (HT.Ztx _ _ (Nat.le_refl _) _)
 ·have e:HT.sIx z.length z.length hi - HT.sIx z.length 0 lo=0:=by omega
  rw [e,List.take_zero];have e2:Builtin.Str.strSliceIndices (some ((HT.sIx z.length 0 lo:Nat):Int)) (some ((HT.sIx z.length z.length hi:Nat):Int)) 1 z.length=[]:=by
   have a1:=HT.Ztx z.length 0 (Nat.zero_le _) lo;have a2:=HT.Ztx z.length z.length (Nat.le_refl _) hi;simp only [Builtin.Str.strSliceIndices,sliceRange,show ((1:Int) > 0)=True from by simp,if_true];rw [if_neg (by omega:¬ ((HT.sIx z.length 0 lo:Nat):Int) < 0),if_neg (by omega:¬ ((HT.sIx z.length z.length hi:Nat):Int) < 0),if_neg (by omega)];rfl
  rw [e2];rfl
theorem part_of {v:Value}{o:Option Int} (p:IsPart v o):∃ q:Option (Int×Tok),v=partValue q∧q.map (·.1)=o:=by
 cases p with
 | none=>exact ⟨none,rfl,rfl⟩
 | int i t=>exact ⟨some (i,t),rfl,rfl⟩
theorem ZNc:SlR X rSlS:=by
 intro pins s σ H x v vl vu lo hi sl Q I rx hs pl pu h;obtain ⟨z,rfl,hz,q⟩:=h;obtain ⟨t,rfl⟩:=rx;obtain ⟨ql,rfl,el⟩:=part_of pl;obtain ⟨qu,rfl,eu⟩:=part_of pu;refine ⟨"str",_,F.slot_str_getitem.lookup,typeIs_str _ _ _,?_⟩;refine wpAny_getItem_str_slice (l:=ql) (u:=qu) (st:=none) hs rfl ?_;have ep:(slicePicked z ql qu none).filterMap (z.cps[·]?)=(z.cps.toList.drop (HT.sIx z.length 0 lo)).take (HT.sIx z.length z.length hi - HT.sIx z.length 0 lo):=by
  unfold slicePicked;rw [el,eu];exact ZJf z lo hi
 have em:(⟨((slicePicked z ql qu none).filterMap (z.cps[·]?)).toArray⟩:Str)=cutS z lo hi:=by
  rw [ep];rfl
 unfold sliceMade;split
 ·rename_i hw
  have hl:(slicePicked z ql qu none).length=z.length:=by
   rw [Bool.and_eq_true] at hw;exact beq_iff_eq.mp hw.2
  have hc:cutS z lo hi=z:=by
   have h1:(slicePicked z ql qu none)=Builtin.Str.strSliceIndices (some ((HT.sIx z.length 0 lo:Nat):Int)) (some ((HT.sIx z.length z.length hi:Nat):Int)) 1 z.length:=by
    unfold slicePicked;rw [el,eu];exact ZAd lo hi z.length
   have a2:=HT.Ztx z.length z.length (Nat.le_refl _) hi;have a1:=HT.Ztx z.length 0 (Nat.zero_le _) lo;have hz0:HT.sIx z.length 0 lo≤HT.sIx z.length z.length hi∨z.length=0:=by
    by_cases hle:HT.sIx z.length 0 lo≤HT.sIx z.length z.length hi
    ·exact .inl hle
    ·right
     rw [h1] at hl;have e2:Builtin.Str.strSliceIndices (some ((HT.sIx z.length 0 lo:Nat):Int)) (some ((HT.sIx z.length z.length hi:Nat):Int)) 1 z.length=[]:=by
      simp only [Builtin.Str.strSliceIndices,sliceRange,show ((1:Int) > 0)=True from by simp,if_true];rw [if_neg (by omega:¬ ((HT.sIx z.length 0 lo:Nat):Int) < 0),if_neg (by omega:¬ ((HT.sIx z.length z.length hi:Nat):Int) < 0),if_neg (by omega)];rfl
     rw [e2] at hl;exact hl.symm
   unfold cutS;rcases hz0 with hle | h0
   ·rw [h1,StrLaws.strSliceIndices_plain hle a2,List.length_map,List.length_range] at hl;have b1:HT.sIx z.length 0 lo=0:=by omega
    have b2:HT.sIx z.length z.length hi=z.length:=by omega
    rw [b1,b2,List.drop_zero,Nat.sub_zero,← str_len,List.take_length]
    all_goals rfl
   ·have hcz:z.cps=#[]:=Array.eq_empty_of_size_eq_zero h0;obtain ⟨zc⟩:=z;dsimp only at hcz;subst hcz;simp
  rw [hc] at q;exact ⟨.str z,H,I,⟨_,rfl⟩,q⟩
 ·show Str.length _≤sizeLine∧_;rw [em];exact ⟨Nat.le_trans (Zou z lo hi) hz,.str (cutS z lo hi),H,I.tok _,⟨_,rfl⟩,q⟩
def GC (mg:Str→Option Value) (x:Str) (v:V):Prop:=∃ u,mg x=some u∧RelV v u
theorem GC.pe {x:Str}{v:V}{pos:Pos} (h:GC X.mg x v) (hg:Gl X x) (hd:(x == ("__debug__":Str))=false:=by decide):PE X (.Name x pos) (tC v):=by
 obtain ⟨u,hm,r⟩:=h;exact ZOl hg hm r hd
end
end G
namespace G
open PySem L2 PySem.Spec PyProof.Rows
section
variable {X:Cx}
end
end G
namespace G
open PySem L2
end G
namespace G
open PySem L2 PySem.Spec PyProof.Rows
section
variable {X:Cx}{pins:List (Addr×Obj)}{σ:L2.St}{H:Hp}{s:Shared}{acc:Addr}{ys:List V}{its:List Value}{n:Nat}
theorem adopt (I:Inv X pins σ H s) (hf:FpOk X pins H acc) (ho:s.heap.get? acc=some { cls:=.type "list",data:=.seq its.toArray n }) (hv:Vals ys its) (hz:ys.length≤sizeLine):Inv X pins σ (upd H acc (.lst ys)) s:=by
 obtain ⟨f0,f1,f2,f3,f4,f5⟩:=hf;have ne:∀ b u,H b=some u→b≠acc:=fun b u e=>Za5 e f0;refine I.step (h':=s.heap) (g':=s.gens) (t':=s.toks) (d':=s.drawn) (ch:=[acc]) (fun b hb=>?_) (fun _ _ _ _ _ e _=>e) (fun b o _ _ _ e _=>⟨o.slots,e⟩) (fun b o hb e h0=>?_) (fun b o _ e=>⟨o,e⟩)
  (fun b xs e=>by rw [Za9 (ne b _ e)];exact e) (fun b o u e=>by rw [Za9 (ne b _ e)];exact e) (fun b ps e=>⟨#[],by rw [Za9 (ne b _ e),e];simp⟩) (fun m hm=>hm) (fun b u e=>?_) I.bare
 ·have e:b=acc:=by simpa using hb
  subst e;exact ⟨f3,f1,f4,f5⟩
 ·have e:b≠acc:=by simpa using hb
  rw [Za9 e];exact h0
 ·by_cases hb:b=acc
  ·subst hb;rw [Za2] at e;cases e;exact ⟨hz,its,n,hv,ho⟩
  ·rw [Za9 hb] at e;exact (I.hok b u e).stay (fun _ _ _ q=>q) (fun c q=>by rw [Za9 (ne c _ q)];exact q) fun c xs q=>by rw [Za9 (ne c _ q)];exact q
theorem ZLa (I:Inv X pins σ (upd H acc (.lst ys)) s) (hf:FpOk X pins H acc):Inv X pins σ H s:=by
 obtain ⟨f0,f1,f2,f3,f4,f5⟩:=hf;have back:∀ b u,upd H acc (.lst ys) b=some u→u≠.lst ys→H b=some u:=fun b u e hne=>by
  by_cases hb:b=acc
  ·subst hb;rw [Za2] at e;cases e;exact absurd rfl hne
  ·rw [Za9 hb] at e;exact e
 refine I.step (h':=s.heap) (g':=s.gens) (t':=s.toks) (d':=s.drawn) (ch:=[acc]) (fun b hb=>?_) (fun _ _ _ _ _ e _=>e) (fun b o _ _ _ e _=>⟨o.slots,e⟩) (fun b o hb e h0=>?_) (fun b o _ e=>⟨o,e⟩)
  (fun b xs e=>back b _ e (fun z=>nomatch z)) (fun b o u e=>back b _ e (fun z=>nomatch z)) (fun b ps e=>⟨#[],by rw [back b _ e (fun z=>nomatch z)];simp⟩) (fun m hm=>hm) (fun b u e=>?_) I.bare
 ·have e:b=acc:=by simpa using hb
  subst e;exact ⟨f3,f1,f4,f5⟩
 ·have e:b≠acc:=by simpa using hb
  rw [Za9 e] at h0;exact h0
 ·have hb:b≠acc:=Za5 e f0;have e':upd H acc (.lst ys) b=some u:=by rw [Za9 hb];exact e
  exact (I.hok b u e').stay (fun _ _ _ q=>q) (fun c q=>back c _ q (fun z=>nomatch z)) fun c xs q=>back c _ q (fun z=>nomatch z)
end
def PF (X:Cx) (ifs:List Expr) (t:TT):Prop:=
 ∀ (pins:List (Addr×Obj)) (s:Shared) (σ:L2.St) (H:Hp) (Q:Bool→Hp→Prop),Inv X pins σ H s→t σ H Q→
  wpAny (model X.prog X.w) X.A (forIn ifs true fun c r=>if r=true then do let ok ← isTrue c X.env (eval c X.env);pure (ForInStep.yield ok) else pure (ForInStep.yield r)) (TP X pins σ Q) X.xe s
theorem Zu2 {X:Cx}:PF X [] Zqe:=fun _ _ _ H _ I h=>wpAny_tests_nil ⟨H,I,h⟩
theorem ZQc {X:Cx}{c:Expr}{t:TT} (h:PT X c t):PF X [c] t:=fun pins s σ H Q I q=>wpAny_tests_one (h pins s σ H Q I q)
def cxLC (X:Cx) (scope:Scope) (cl:List (Str×Addr)) (N:List Str) (C:Addr) (s:Shared) (H:Hp) (ex:List Addr) (pn:List (Addr×Obj)):Cx:=
 { X with N:=N,s₀:=s,H₀:=H,env:=compEnvC scope cl C X.env,outer:=X.stack,ex:=ex,fn:=fun _=>false,pn:=pn,xe:=fun _ _=>False }
def AllIn (cells:List (Str×Addr)):List (Str×Addr)→Prop
 | []=>True
 | p :: r=>cells.lookup p.1=some p.2∧AllIn cells r
theorem AllIn.get {cells:List (Str×Addr)}:∀ {cl:List (Str×Addr)},AllIn cells cl→∀ {x:Str}{c:Addr},cl.lookup x=some c→cells.lookup x=some c
 | [],_,x,c,h=>by cases h
 | (y,d) :: r,a,x,c,h=>by
  cases e:(x == y) with
  | true=>
   rw [List.lookup_cons,e] at h;have e':x=y:=beq_iff_eq.mp e;subst e';cases h;exact a.1
  | false=>
   rw [List.lookup_cons,e] at h;exact AllIn.get a.2 h
def Zwf (X:Cx):List Str→List Nat→Prop
 | [],[]=>True
 | y :: r,j :: js=>X.N[j]? =some y∧X.env.kindOf y=some .cell∧Zwf X r js
 | _,_=>False
theorem Zwf.len {X:Cx}:∀ {ns:List Str}{js:List Nat},Zwf X ns js→ns.length=js.length
 | [],[],_=>rfl
 | [],_ :: _,h=>h.elim
 | _ :: _,[],h=>h.elim
 | _ :: r,_ :: js,h=>by rw [List.length_cons,List.length_cons,Zwf.len h.2.2]
theorem Zwf.get {X:Cx}{σ:L2.St}:∀ {ns:List Str}{js:List Nat},Zwf X ns js→∀ {i:Nat}{x:Str}{v:V},ns[i]? =some x→(js.map (pick σ))[i]? =some (some v)→∃ j:Nat,X.N[j]? =some x∧X.env.kindOf x=some .cell∧σ[j]? =some (some v)
 | [],_,_,i,x,v,h,_=>by simp at h
 | _ :: _,[],h,_,_,_,_,_=>h.elim
 | y :: r,j :: js,h,0,x,v,h1,h2=>by
  simp at h1 h2;subst h1;refine ⟨j,h.1,h.2.1,?_⟩;unfold pick at h2;split at h2
  ·rename_i e;rw [e,h2]
  ·cases h2
 | y :: r,j :: js,h,i + 1,x,v,h1,h2=>Zwf.get (i:=i) h.2.2 (by simpa using h1) (by simpa using h2)
theorem ZOx {x n:Str}{k:NameKind}{r:List (Str×NameKind)} (h:(x == n)=false):List.lookup x ((n,k) :: r)=List.lookup x r:=by rw [List.lookup_cons,h]
theorem ZOy {x n:Str}{k:NameKind}{r:List (Str×NameKind)} (h:(x == n)=true):List.lookup x ((n,k) :: r)=some k:=by rw [List.lookup_cons,h]
def relK (env:Env) (x:Str) (k:NameKind):NameKind:=if (k == NameKind.free && env.scope.kind == .function && env.kindOf x == some .cell)=true then .cell else k
theorem Ze1 {env:Env}{x:Str}:∀ {names:List (Str×NameKind)},
  (names.map fun (n,k)=>if (k == NameKind.free && env.scope.kind == .function && env.kindOf n == some .cell) then (n,NameKind.cell) else (n,k)).lookup x=(names.lookup x).map (relK env x)
 | []=>rfl
 | (n,k') :: r=>by
  have ih:=@Ze1 env x r;show List.lookup x ((if (k' == NameKind.free && env.scope.kind == .function && env.kindOf n == some .cell)=true then (n,NameKind.cell) else (n,k')) :: r.map fun (n,k)=>if (k == NameKind.free && env.scope.kind == .function && env.kindOf n == some .cell) then (n,NameKind.cell) else (n,k))=_;cases hx:x == n with
  | true=>
   have e:=beq_iff_eq.mp hx;subst e;rw [ZOy (k:=k') hx]
   by_cases hc:(k' == NameKind.free && env.scope.kind == .function && env.kindOf x == some .cell)=true
   ·rw [if_pos hc,ZOy hx];show some NameKind.cell=some (relK env x k');unfold relK;rw [if_pos hc]
   ·rw [if_neg hc,ZOy hx];show some k'=some (relK env x k');unfold relK;rw [if_neg hc]
  | false=>
   rw [ZOx (k:=k') (r:=r) hx]
   by_cases hc:(k' == NameKind.free && env.scope.kind == .function && env.kindOf n == some .cell)=true
   ·rw [if_pos hc,ZOx hx];exact ih
   ·rw [if_neg hc,ZOx hx];exact ih
theorem lookup_all {names:List (Str×NameKind)}{p:Str×NameKind→Bool}:∀ {x:Str}{k:NameKind},names.all p=true→names.lookup x=some k→p (x,k)=true:=by
 induction names with
 | nil=>intro x k _ h;simp at h
 | cons y r ih=>
  intro x k ha h;obtain ⟨n,k'⟩:=y;rw [List.all_cons,Bool.and_eq_true] at ha;cases hx:x == n with
  | true=>
   rw [List.lookup_cons,hx] at h;have e1:x=n:=beq_iff_eq.mp hx;have e2:k'=k:=Option.some.inj h;rw [e1,← e2];exact ha.1
  | false=>
   rw [List.lookup_cons,hx] at h;exact ih ha.2 h
theorem Zov {prog:Program}{w:World}{A:Around}{R:Result→Shared→Prop}{s:Shared}{elt target iter:Expr}{ifs:List Expr}{scope:Scope}{pos:Pos}{it acc:Value}{env:Env} (I:Nat→Shared→Prop)
  (turn:∀ n s,I n s→wpAny (model prog w) A (pyNext it) (fun r s₁=>match r with
   | none=>R (.ok .next) s₁
   | some v=>wpAny (model prog w) A (letOwnedTupleGo target it v) (fun _ s₁'=>wpAny (model prog w) A (assign target env v) (fun _ s₂=>
     wpAny (model prog w) A (forIn ifs true fun c r=>if r=true then do let ok ← isTrue c env (eval c env);pure (ForInStep.yield ok) else pure (ForInStep.yield r)) (fun ok s₃=>
      if ok=true then wpAny (model prog w) A (eval elt env) (fun x s₄=>
       wpAny (model prog w) A (call (.builtin "list.append") [acc,x]) (fun _ s₅=>∃ m,m < n∧I m s₅) (fun _ _=>False) s₄) (fun _ _=>False) s₃
      else ∃ m,m < n∧I m s₃) (fun _ _=>False) s₂) (fun _ _=>False) s₁') (fun _ _=>False) s₁) (fun _ _=>False) s)
  (n:Nat) (h:I n s):
  codeAny (model prog w) A (.compLoop (.ListComp elt [⟨target,iter,ifs,0⟩] scope pos) 0 it acc env) R s:=by
 refine codeAny_loop rfl I (fun n s hI=>?_) n h;show wpAny _ A ((compTurn (.ListComp elt [⟨target,iter,ifs,0⟩] scope pos) 0 it acc env).onRaise (fun x=>do noteFrame x env;theTreesLotGoes x)) _ _ s;refine wpAny_noted ?_;rw [compTurn_list];refine wpAny_bind (wpAny_standAt (wpAny_bind (wpAny_mono (turn n s hI) (fun r s₁ h₁=>?_) fun _ _ h'=>h'.elim)));cases r with
 | none=>exact wpAny_pure h₁
 | some v=>
  refine wpAny_bind (wpAny_mono h₁ (fun _ s₁' h₁'=>?_) fun _ _ h'=>h'.elim);refine wpAny_bind (wpAny_mono h₁' (fun _ s₂ h₂=>wpAny_bind (wpAny_mono h₂ (fun ok s₃ h₃=>?_) fun _ _ h'=>h'.elim)) fun _ _ h'=>h'.elim);cases ok with
  | false=>exact wpAny_pure ⟨rfl,h₃⟩
  | true=>
   exact wpAny_bind (wpAny_bind (wpAny_mono h₃ (fun x s₄ h₄=>wpAny_bind (wpAny_mono h₄ (fun _ s₅ h₅=>wpAny_pure (wpAny_pure ⟨rfl,h₅⟩)) fun _ _ h'=>h'.elim)) fun _ _ h'=>h'.elim))
theorem ZHd {X:Cx}{elt iter:Expr}{x:Str}{px pos:Pos}{ifs:List Expr}{scope:Scope}{cl:List (Str×Addr)}{wi:TI}{tc:TT}{te:TE}{cns:List Str} (caps:List Nat)
  (hi:PI X (.Name x px) iter wi)
  (hf:∀ C s H ex pn,PF (cxLC X scope cl (x :: cns) C s H ex pn) ifs tc) (he:∀ C s H ex pn,PE (cxLC X scope cl (x :: cns) C s H ex pn) elt te) (hc:X.calm=true)
  (hclos:closureFor scope X.env=pure cl) (hcl:AllIn X.env.cells cl) (hcap:Zwf X cns caps)
  (hkind:scope.kind=.function) (hcell:(scope.names.all fun p=>p.2 != .cell)=true) (hfree:(scope.names.all fun p=>p.2 != .free || (cl.lookup p.1).isSome)=true)
  (hcf:(cns.all fun y=>scope.names.lookup y == some .free)=true) (hnames:∀ y∈scope.names,y.2=.local→scope.names.lookup y.1=some .local) (hx:scope.names.lookup x=some .local) (hnd:(x :: cns).Nodup)
  (hs:∀ v,foldedSetIterable iter X.env v=pure v:=by intro _;rfl):
  PE X (.ListComp elt [⟨.Name x px,iter,ifs,0⟩] scope pos) (tLC wi caps tc te):=by
 intro pins s σ H Q I h;rw [eval_ListComp];refine wpAny_comprehension_free (use:=none) rfl hs hclos hkind hnames (thn (hi pins s σ H _ I h) fun xv s1 h1=>thn h1 fun itv s2 h2=>?_);obtain ⟨it,fp,tn,J,H2,rfl,I2,T,st2,f2,W,⟨m0,w0⟩,turn⟩:=h2;have hne:∀ y∈scope.names,y.2≠.cell:=fun y hy e=>by
  have:=List.all_eq_true.mp hcell y hy;rw [e] at this;simp at this
 refine wpAny_newObj_type (wpAny_newFunctionEnv hne (by intro y hy;simp at hy) (fun h₁ hns₁ hsb₁=>?_) hkind);dsimp only at hns₁ hsb₁ ⊢;generalize hacc:s2.heap.objs.size=acc;generalize hH3:s2.heap.push { cls:=.type "list",dict:=none,data:=.seq ([]:List Value).toArray }=h3 at hns₁ hsb₁ ⊢;have hC:h3.objs.size=acc + 1:=by rw [← hH3,Heap.size_push,hacc]
 have k23:∀ b o,s2.heap.get? b=some o→h3.get? b=some o:=fun b o e=>hH3 ▸ Heap.get?_push_of_some _ e;have k34:∀ b o,h3.get? b=some o→h₁.get? b=some o:=fun b o e=>hsb₁.extBut b o (Nat.ne_of_lt (Heap.lt_size e)) (Heap.get?_push_of_some _ e);have oacc:h3.get? acc=some { cls:=.type "list",dict:=none,data:=.seq ([]:List Value).toArray }:=by
  rw [← hH3,← hacc];exact Heap.get?_push_size _ rfl
 have I3:Inv X pins σ H2 { s2 with heap:=h3 }:=I2.kept (t':=s2.toks) k23;have facc:FpOk X pins H2 acc:=I2.fpOk (Nat.le_of_eq hacc) (I2.hok.fresh (Nat.le_of_eq hacc));have fpl:∀ b∈fp,b < acc:=fun b hb=>by
  obtain ⟨o,e,_⟩:=T.obj _ _ st2 b hb;rw [← hacc];exact Heap.lt_size e
 have exok:∀ b∈acc :: fp,FpOk X pins H2 b:=fun b hb=>(List.mem_cons.mp hb).elim (fun e=>e ▸ facc) (f2 b);have exC:∀ b∈acc :: fp,b≠h3.objs.size:=fun b hb=>by
  rcases List.mem_cons.mp hb with e | hb
  ·rw [hC,e];exact Nat.ne_of_lt (Nat.lt_succ_self _)
  ·rw [hC];exact Nat.ne_of_lt (Nat.lt_succ_of_lt (fpl b hb))
 have stk_no:∀ b∈acc :: fp,b∉frs X.stack:=fun b hb hm=>by
  obtain ⟨_,g1,g2,_⟩:=exok b hb;exact (List.mem_cons.mp (I2.stkSub b hm)).elim g1 g2
 let Y:Cx:=cxLC X scope cl (x :: cns) h3.objs.size { s2 with heap:=h3 } H2 (acc :: fp) (X.pn ++ pins)
 have cellsOf:∀ y c,cl.lookup y=some c→X.env.cells.lookup y=some c:=fun y c e=>hcl.get e;have kindY:∀ y k,Y.env.kindOf y=some k→(k=.cell∨k=.free)→∃ c,cl.lookup y=some c:=fun y k e hk=>by
  have e0:(scope.names.lookup y).map (relK X.env y)=some k:=Ze1.symm.trans e;obtain ⟨k0,e1,e2⟩:=Option.map_eq_some_iff.mp e0;have e3:=lookup_all hfree e1;have e4:=lookup_all hcell e1
  by_cases hf:k0=.free
  ·subst hf;rw [Bool.or_eq_true] at e3;rcases e3 with e3 | e3
   ·exact absurd rfl (bne_iff_ne.mp e3)
   ·exact Option.isSome_iff_exists.mp e3
  ·exfalso
   have e5:relK X.env y k0=k0:=by
    unfold relK;rw [if_neg];intro z;rw [Bool.and_eq_true,Bool.and_eq_true] at z;exact hf (beq_iff_eq.mp z.1.1)
   rw [e5] at e2;subst e2;rcases hk with rfl | rfl
   ·simp at e4
   ·exact hf rfl
 have okY:Y.Ok:={
  mod:=I2.ok.mod
  kind:=hkind
  glob:=I2.ok.glob
  blt:=I2.ok.blt
  above:=Nat.le_refl _
  inj:=fun a b c e1 e2=>I2.ok.inj a b c (cellsOf _ _ e1) (cellsOf _ _ e2)
  has:=fun y hy=>hy.elim (fun e=>kindY y _ e (.inl rfl)) (fun e=>kindY y _ e (.inr rfl))
  cab:=fun y c e=>nomatch e
  hd:=I2.ok.hd
  frames:=I2.ok.frames
  stk:=.inl rfl
  exf:=fun b hb=>⟨exC b hb,fun y c e=>(exok b hb).2.2.2.2.1 y c (cellsOf _ _ e)⟩
  bs:=fun b o e=>⟨k23 b o (I2.bs b o e).1,(I2.bs b o e).2⟩
  bsz:=by
   show X.base.objs.size≤h3.objs.size;rw [hC,← hacc];exact Nat.le_succ_of_le (Nat.le_trans I2.ok.bsz I2.sz)
  noex:=fun b o e hb=>by
   rcases (exok b hb).2.2.2.1 with z | z
   ·exact I2.ok.noex b o e z
   ·exact absurd (Nat.lt_of_lt_of_le (Heap.lt_size e) (Nat.le_trans I2.ok.bsz z)) (Nat.lt_irrefl _)
  exfs:=stk_no
  funs:=I3.stack
  frf:=I3.stkFree }
 have lenN:(none :: caps.map (pick σ):L2.St).length=(x :: cns).length:=by rw [List.length_cons,List.length_cons,List.length_map,hcap.len]
 have I4:Inv Y [] (none :: caps.map (pick σ)) H2 { s2 with heap:=h₁,toks:=s2.toks + ([]:List (Str×Value)).length }:={
  ok:=okY
  os:=rfl
  bare:=I2.bare
  base:=Un.kept k34
  loc:=by
   refine ⟨_,hns₁,fun i y v e1 e2 e3=>?_⟩;cases i with
   | zero=>simp at e2
   | succ i=>
    obtain ⟨j,j1,j2,j3⟩:=hcap.get (σ:=σ) (i:=i) (x:=y) (v:=v) (by have e1':(x :: cns)[i + 1]? =some y:=e1;simpa using e1') (by simpa using e2);obtain ⟨m,hn,hl⟩:=I2.loc;obtain ⟨u,r,l⟩:=hl j y v j1 j3 (.inr (.inl j2));rcases l with ⟨l,_⟩ | ⟨_,c,l1,l2⟩
    ·rw [j2] at l;cases l
    ·refine ⟨u,r,.inr ?_⟩;rcases e3 with e3 | e3 | e3
     ·exfalso
      have hm:y∈cns:=List.mem_of_getElem? (show cns[i]? =some y by have e1':(x :: cns)[i + 1]? =some y:=e1;simpa using e1');have hl:scope.names.lookup y=some .free:=beq_iff_eq.mp (List.all_eq_true.mp hcf y hm);have e0:(scope.names.lookup y).map (relK X.env y)=some .local:=Ze1.symm.trans e3;rw [hl] at e0;have e5:relK X.env y .free=.local:=Option.some.inj e0;unfold relK at e5;split at e5<;>cases e5
     ·obtain ⟨c',hc'⟩:=kindY y _ e3 (.inl rfl);have:=cellsOf _ _ hc';rw [l1] at this;cases this;exact ⟨.inl e3,c,hc',l2.keeps fun b o e=>k34 _ _ (k23 _ _ e)⟩
     ·obtain ⟨c',hc'⟩:=kindY y _ e3 (.inr rfl);have:=cellsOf _ _ hc';rw [l1] at this;cases this;exact ⟨.inr e3,c,hc',l2.keeps fun b o e=>k34 _ _ (k23 _ _ e)⟩
  cell:=fun y c e=>by
   obtain ⟨v,z⟩:=I2.cell y c (cellsOf _ _ e);exact ⟨v,z.keeps fun b o e=>k34 _ _ (k23 _ _ e)⟩
  free:=I2.hok.fresh (by rw [hacc];show acc≤h3.objs.size;rw [hC];exact Nat.le_succ _)
  freeC:=fun y c e=>I2.freeC y c (cellsOf _ _ e)
  pin:=fun p hp=>by
   have hp2:p∈(X.pn ++ pins) ++ []:=hp;have hp':p∈X.pn ++ pins:=by rw [List.append_nil] at hp2;exact hp2
   obtain ⟨p1,p2,p3,p4,p5⟩:=I2.pin p hp';refine ⟨k34 _ _ (k23 _ _ p1),p2,?_,fun hm=>(List.mem_cons.mp (I2.stkSub _ hm)).elim p3 p4,p5⟩;exact Nat.ne_of_lt (by show p.1 < h3.objs.size;exact Heap.lt_size (k23 _ _ p1))
  hok:=I2.hok.kept fun b u e=>k34 _ _ (k23 _ _ e)
  len:=lenN }
 have fpY:∀ {H':Hp}{pl:List (Addr×Obj)}{b:Addr},b∈acc :: fp→H' b=none→(∀ p∈pl,p.1≠b)→FpOk Y pl H' b:=fun {H' pl b} hb hn hp=>
  ⟨hn,exC b hb,stk_no b hb,.inl hb,fun y c e=>(exok b hb).2.2.2.2.1 y c (cellsOf _ _ e),fun p hm=>(List.mem_append.mp hm).elim (fun z=>(exok b hb).2.2.2.2.2 p z) (hp p)⟩
 have fin:∀ {σ':L2.St}{H':Hp}{s':Shared}{ys:List V}{its:List Value}{kk:Nat}{pl:List (Addr×Obj)},Inv Y pl σ' H' s'→H' acc=none→Vals ys its→ys.length≤sizeLine→
   s'.heap.get? acc=some { cls:=.type "list",data:=.seq its.toArray kk }→(∀ p,H' p=none→Q (.ref p) (upd H' p (.lst ys)))→
   ∀ h',Heap.SameBut h3.objs.size s'.heap h'→EP X pins σ Q (.ref acc) { s' with heap:=h' }:=fun {σ' H' s' ys its kk pl} J ha hv hz ho hq h' hs'=>by
  have hacC:acc≠h3.objs.size:=exC acc (List.mem_cons_self);have keepC:∀ b o,b≠h3.objs.size→s'.heap.get? b=some o→h'.get? b=some o:=fun b o hb e=>hs'.extBut b o hb e;have ltC:∀ b o,s2.heap.get? b=some o→b≠h3.objs.size:=fun b o e=>Nat.ne_of_lt (Heap.lt_size (k23 b o e));have hCfree:H' h3.objs.size=none:=J.free;have un:Un (frs X.stack) (acc :: fp) H2 H' s2.heap h':={
   keep:=fun b o e n hb hx=>keepC b o (ltC b o e) (J.base.keep b o (k23 b o e) n hb hx)
   slot:=fun b o e n hb hx=>by
    obtain ⟨sl,q⟩:=J.base.slot b o (k23 b o e) n hb hx;exact ⟨sl,keepC b _ (ltC b o e) q⟩
   free:=fun b o e n hx=>J.base.free b o (k23 b o e) n hx
   there:=fun b o e hx=>by
    obtain ⟨o',q⟩:=J.base.there b o (k23 b o e) hx;exact ⟨o',keepC b o' (ltC b o e) q⟩
   tups:=J.base.tups
   frzs:=J.base.frzs
   tbls:=J.base.tbls }
  have hok:HOk X.prog X.w H' h':=fun b u e=>by
   refine (J.hok b u e).stay (fun c v hc q=>keepC c v ?_ q) (fun _ q=>q) fun _ _ q=>q;rintro rfl;rcases hc with rfl | hc
   ·rw [hCfree] at e;cases e
   ·rw [hCfree] at hc;cases hc
  have I5:Inv X pins σ H' { s' with heap:=h' }:=I2.call' (ch:=acc :: fp) J.os un hok J.bare fun b hb=>by
   obtain ⟨g0,g1,g2,g3,g4,g5⟩:=exok b hb;exact ⟨g3,g1,g4,g5⟩
  refine ⟨.ref acc,_,adopt (acc:=acc) I5 ?_ (keepC _ _ hacC ho) hv hz,rfl,hq acc ha⟩;obtain ⟨g0,g1,g2,g3,g4,g5⟩:=facc;exact ⟨ha,g1,g2,g3,g4,g5⟩
 have loop:codeAny (model X.prog X.w) X.A (.compLoop (.ListComp elt [⟨.Name x px,iter,ifs,0⟩] scope pos) 0 (.ref it) (.ref acc) Y.env) (compPost (model X.prog X.w) X.A X.xe none (EP X pins σ Q) (.ref acc) h3.objs.size)
   { s2 with heap:=h₁,toks:=s2.toks + ([]:List (Str×Value)).length }:=by
  refine Zov (fun n s'=>∃ (i:Nat) (v:Option V) (ys:List V) (its:List Value) (kk:Nat) (H':Hp),Inv Y [] (v :: caps.map (pick σ)) H' s'∧tn i s'.heap∧(∀ b∈fp,H' b=none)∧H' acc=none∧Vals ys its∧ys.length≤sizeLine∧
   s'.heap.get? acc=some { cls:=.type "list",data:=.seq its.toArray kk }∧W i n ys H') ?_ m0 ⟨0,none,[],[],0,H2,I4,T.keep _ _ _ st2 (fun b _ o e=>k34 _ _ (k23 _ _ e)),fun b hb=>(f2 b hb).1,facc.1,.nil,Nat.zero_le _,k34 _ _ oacc,w0⟩
  rintro n s5 ⟨i,v,ys,its,kk,H5,I5,st5,fr5,ha5,hv5,hz5,ho5,w5⟩;have pinA:Inv Y [(acc,{ cls:=.type "list",data:=.seq its.toArray kk })] (v :: caps.map (pick σ)) H5 s5:=I5.pins_of fun p hp=>by
   have e:p=(acc,{ cls:=.type "list",data:=.seq its.toArray kk }):=by simpa using hp
   subst e;exact ⟨ho5,ha5,exC acc List.mem_cons_self,stk_no acc List.mem_cons_self,fun v=>by intro z;cases z⟩
  have fpA:∀ {H':Hp},(∀ b∈fp,H' b=none)→∀ b∈fp,FpOk Y [(acc,{ cls:=.type "list",data:=.seq its.toArray kk })] H' b:=fun hn b hb=>fpY (List.mem_cons_of_mem _ hb) (hn b hb) fun p hp=>by
   have e:p=(acc,{ cls:=.type "list",data:=.seq its.toArray kk }):=by simpa using hp
   subst e;exact (Nat.ne_of_lt (fpl b hb)).symm
  rcases turn i n ys H5 w5 with ⟨stop,qn⟩ | ⟨go,hlt,step⟩
  ·refine thn (T.done Y rfl rfl rfl hc i _ s5 _ H5 (fun _ _=>False) pinA (fpA fr5) st5 stop) fun r s6 ⟨hr,I6⟩=>?_;subst hr;obtain ⟨m,hm,_⟩:=I6.loc;have ho6:=(I6.pin (acc,{ cls:=.type "list",data:=.seq its.toArray kk }) (List.mem_append_right _ List.mem_cons_self)).1;exact ⟨m,hm,fin I6 ha5 hv5 hz5 ho6 qn⟩
  ·refine thn (T.item Y rfl rfl rfl hc i _ s5 _ H5 (fun _ _=>False) pinA (fpA fr5) st5 go) fun r s6 ⟨u,hr,h6⟩=>?_;subst hr;refine thn h6 fun _ s7 ⟨z,H7,I7,r7,y7,st7,fr7⟩=>?_;have I7':=I7.pinned (fpA fr7) (T.obj _ _ st7);have pg:PG Y (.Name x px) (Zam 0):=Zff hnd rfl (.inl (lookup_relabel_local hx)) (.inr (lookup_relabel_local hx));refine thn (pg _ s7 _ H7 z u (fun σ2 H2'=>σ2=some z :: caps.map (pick σ)∧H2'=H7) I7' r7 ⟨rfl,rfl⟩) fun _ s8 ⟨σ8,H8,I8,e8,e8'⟩=>?_;subst e8 e8';refine thn (hf _ _ _ _ _ _ s8 _ H8 _ I8 (step z H8 y7)) fun ok s9 ⟨H9,I9,q9⟩=>?_;have stat:∀ {H':Hp}{s':Shared}{σ':L2.St},Inv Y ([(acc,{ cls:=.type "list",data:=.seq its.toArray kk })] ++ Zjq fp s7.heap) σ' H' s'→tn (i + 1) s'.heap∧(∀ b∈fp,H' b=none)∧H' acc=none∧s'.heap.get? acc=some { cls:=.type "list",data:=.seq its.toArray kk }:=fun {H' s' σ'} J=>by
    have pa:=J.pin (acc,{ cls:=.type "list",data:=.seq its.toArray kk }) (List.mem_append_right _ (List.mem_append_left _ List.mem_cons_self));refine ⟨T.keep _ _ _ st7 fun b hb o e=>(J.pin (b,o) (List.mem_append_right _ (List.mem_append_right _ (Ze8 hb e)))).1,fun b hb=>?_,pa.2.1,pa.1⟩;obtain ⟨o,e,d⟩:=T.obj _ _ st7 b hb;exact (J.pin (b,o) (List.mem_append_right _ (List.mem_append_right _ (Ze8 hb e)))).2.1
   have nopin:∀ {H':Hp}{s':Shared}{σ':L2.St}{pl:List (Addr×Obj)},Inv Y pl σ' H' s'→Inv Y [] σ' H' s':=fun J=>J.pins_of fun p hp=>nomatch hp;cases ok with
   | false=>
    obtain ⟨m',hm,w9⟩:=q9;obtain ⟨t1,t2,t3,t4⟩:=stat I9;exact ⟨m',hm,i + 1,some z,ys,its,kk,H9,nopin I9,t1,t2,t3,hv5,hz5,t4,w9⟩
   | true=>
    show wpAny _ _ (eval elt Y.env) _ _ s9;refine thn (he _ _ _ _ _ _ s9 _ H9 _ I9 q9) fun y s10 ⟨yv,H10,I10,r10,m',hm,w10⟩=>?_;obtain ⟨t1,t2,t3,t4⟩:=stat I10;have I10':Inv Y (Zjq fp s7.heap) (some z :: caps.map (pick σ)) H10 s10:=I10.pins_of fun p hp=>I10.pin p (List.mem_append_right _ (List.mem_append_right _ hp));have fA:FpOk Y (Zjq fp s7.heap) H10 acc:=fpY List.mem_cons_self t3 fun p hp=>Nat.ne_of_lt (fpl _ (Zpo hp).1);have Ja:=adopt I10' fA t4 hv5 hz5;refine thn (Zg4 (X:=Y) _ s10 _ _ (.ref acc) [yv] (.ref acc) [y] (fun _ H'=>H'=upd (upd H10 acc (.lst ys)) acc (.lst (ys ++ [yv]))) Ja rfl (.cons r10 .nil) ⟨acc,ys,yv,rfl,rfl,Za2,hlt,rfl⟩) fun _ s11 ⟨_,H11,I11,_,e11⟩=>?_;rw [Zdx] at e11;subst e11;obtain ⟨hz11,its',kk',hv11,ho11⟩:=I11.hok acc _ Za2;have Jd:=ZLa I11 fA;have st11:tn (i + 1) s11.heap:=T.keep _ _ _ st7 fun b hb o e=>(Jd.pin (b,o) (List.mem_append_right _ (Ze8 hb e))).1;exact ⟨m',hm,i + 1,some z,ys ++ [yv],its',kk',H10,nopin Jd,st11,t2,t3,hv11,hz11,ho11,w10⟩
 exact codeAny_compStart_list loop (T.self X.A 0 _ _ _ (T.keep _ _ _ st2 (fun b _ o e=>k34 _ _ (k23 _ _ e))) loop)
end G
namespace G
open PySem L2 PySem.Spec PyProof.Rows
theorem Zu8 {P:Program}{w:World}{H:Hp}{h:Heap}{a:Addr}{o:HO} (x:Zgb P w H h a o):∃ ob,h.get? a=some ob:=by
 induction o with
 | lst xs=>obtain ⟨_,_,_,_,e⟩:=x;exact ⟨_,e⟩
 | tup xs=>obtain ⟨_,_,_,ob,e,_⟩:=x;exact ⟨ob,e⟩
 | dK kvs=>obtain ⟨_,_,_,_,ob,_,_,e,_⟩:=x;exact ⟨ob,e⟩
 | dT kvs=>obtain ⟨_,_,_,_,ob,_,_,e,_⟩:=x;exact ⟨ob,e⟩
 | set S n=>obtain ⟨ob,_,_,_,e,_⟩:=x;exact ⟨ob,e⟩
 | ins C dx fs=>obtain ⟨_,_,_,e,_⟩:=x;exact ⟨_,e⟩
 | own y=>exact x
 | xd fs=>obtain ⟨_,⟨ob,_,_,e,_⟩,_⟩:=x;exact ⟨ob,e⟩
 | rng lo hi=>obtain ⟨_,_,_,e⟩:=x;exact ⟨_,e⟩
 | frz ob u ih=>exact ⟨_,x.1⟩
 | tbl ps=>exact ⟨_,x⟩
 | met f y=>exact ⟨_,x⟩
 | ext φ=>obtain ⟨_,e,_⟩:=x;exact e
theorem ZDf {P:Program}{w:World}{fs:List Addr}{H0 H1:Hp}{h0 h1 h2:Heap} (u:Un fs [] H0 H1 h0 h1) (ok:HOk P w H1 h1) (fr:∀ b∈fs,H1 b=none)
  (kp:∀ b o,h1.get? b=some o→((∃ v,h0.get? b=some v)∨∃ v,H1 b=some v)→b∉fs→h2.get? b=some o) (sl:∀ b o,h1.get? b=some o→b∈fs→∃ z,h2.get? b=some { o with slots:=z }):
  Un fs [] H0 H1 h0 h2∧HOk P w H1 h2:=by
 refine ⟨⟨fun b o e n hb hx=>kp b o (u.keep b o e n hb hx) (.inl ⟨o,e⟩) hb,fun b o e n hb hx=>?_,u.free,fun b o e hx=>?_,u.tups,u.frzs,u.tbls⟩,fun a o e=>?_⟩
 ·obtain ⟨z,e1⟩:=u.slot b o e n hb hx;obtain ⟨z2,e2⟩:=sl b _ e1 hb;exact ⟨z2,e2⟩
 ·obtain ⟨o',e1⟩:=u.there b o e hx
  by_cases hb:b∈fs
  ·obtain ⟨z,e2⟩:=sl b _ e1 hb;exact ⟨_,e2⟩
  ·exact ⟨o',kp b o' e1 (.inl ⟨o,e⟩) hb⟩
 ·refine (ok a o e).stay (fun b v hb q=>?_) (fun _ q=>q) fun _ _ q=>q;have hs:∃ v,H1 b=some v:=by
   rcases hb with z | z
   ·exact ⟨o,by rw [z];exact e⟩
   ·exact ⟨_,z⟩
  refine kp b v q (.inr hs) fun z=>?_;obtain ⟨v',e'⟩:=hs;rw [fr b z] at e';cases e'
def CXe (P:Program) (w:World):CXT:=fun outer H s E e s'=>
 ∃ (ea:Addr) (cls a0:Value) (B:Heap) (H':Hp),e=.ref ea∧s'.os=s.os∧AllBare s'.gens∧Un (frs outer) [] H H' s.heap s'.heap∧HOk P w H' s'.heap∧Heap.FlyingW B outer ea cls a0 s'.heap∧
  (∀ b o,s'.heap.get? b=some o→((∃ v,s.heap.get? b=some v)∨∃ v,H' b=some v)→b∉frs outer→B.get? b=some o)∧E cls none H'
theorem Zfm {P:Program}{w:World}{X:Cx}:Zns (CXe P w) X E0:=fun _ _ _ _ _ _ _ h=>by
 obtain ⟨_,_,_,_,_,_,_,_,_,_,_,_,z⟩:=h;exact z.elim
section
variable {P:Program}{w:World}{K:PySem.W.Frag}{mg:Str→Option Value}{base:Heap}{N:List Str}{qual:Str}{scope:Scope}{f:Addr}{cd:Value}{A:Around}{outer:List Env}{s:Shared}{H:Hp}{E:XK}
theorem Zxp:Zns (CXe P w) (cxOf (CXe P w) P w K mg base N qual scope f cd A outer s H E) E:=by
 intro pins σ H1 s1 e s2 I h;obtain ⟨ea,cls,a0,B,H2,rfl,os,bare,un,ok,fl,hB,hE⟩:=h;have J:Inv (cxOf (CXe P w) P w K mg base N qual scope f cd A outer s H E) pins σ H2 s2:=I.call' os un ok bare (fun b z=>nomatch z);have L0:∀ b o,s.heap.get? b=some o→b≠(envOfC qual scope s.heap.objs.size f cd).locals:=fun b o e=>Nat.ne_of_lt (Nat.lt_of_lt_of_le (Heap.lt_size e) I.ok.above);have nin:∀ b,((∃ v,s.heap.get? b=some v)∨∃ v,H2 b=some v)→b∉frs outer→b∉frs (envOfC qual scope s.heap.objs.size f cd :: outer):=fun b hb hn hm=>by
  rcases List.mem_cons.mp (J.stkSub b hm) with z | z
  ·rcases hb with ⟨v,e⟩ | ⟨v,e⟩
   ·exact L0 b v e z
   ·rw [z] at e;have:=J.free;rw [e] at this;cases this
  ·exact hn z
 have was:∀ b,((∃ v,s.heap.get? b=some v)∨∃ v,H2 b=some v)→(∃ v,s1.heap.get? b=some v)∨∃ v,H2 b=some v:=fun b hb=>by
  rcases hb with ⟨v,e⟩ | hb
  ·exact .inl (I.base.there b v e (fun z=>nomatch z))
  ·exact .inr hb
 refine wpAny_leaves_onW I.ok.frames rfl fl fun h' fl' sm=>?_;have dat:∀ b o,s2.heap.get? b=some o→b∈frs outer→∀ vs,o.data≠.fields vs:=fun b o e hb=>by
  obtain ⟨_,o',ho',hd⟩:=J.funs.mem hb;rw [e] at ho';cases ho';exact hd
 have inB:∀ b o,s2.heap.get? b=some o→((∃ v,s.heap.get? b=some v)∨∃ v,H2 b=some v)→b∉frs outer→B.get? b=some o:=fun b o e hb hn=>hB b o e (was b hb) (nin b hb hn);have U:=ZDf (P:=P) (w:=w) (h2:=h') J.base J.hok (fun b hb=>by
   obtain ⟨_,o,ho,_⟩:=J.ok.funs.mem hb;exact J.base.free b o ho (J.ok.frf b hb) (fun z=>nomatch z)) (fun b o e hb hn=>fl'.1 _ _ (inB b o e hb hn)) fun b o e hb=>sm b o e (dat b o e hb)
 refine ⟨ea,cls,a0,B,H2,rfl,J.os,J.bare,U.1,U.2,fl',fun b o e hb hn=>?_,hE⟩;have there:∃ v,s2.heap.get? b=some v:=by
  rcases hb with ⟨v,z⟩ | ⟨v,z⟩
  ·exact J.base.there b v z (fun z=>nomatch z)
  ·exact Zu8 (J.hok b v z)
 obtain ⟨v,z⟩:=there;have q:=inB b v z hb hn;have:=fl'.1 _ _ q;rw [e] at this;cases this;exact q
theorem ZFo {pins:List (Addr×Obj)}{σ:L2.St}{H1:Hp}{s1:Shared}{C e:Addr}{vs:List Value}{h1:Heap} (I:Inv (cxOf (CXe P w) P w K mg base N qual scope f cd A outer s H E) pins σ H1 s1)
  (hx:Heap.MadeExcOf s1.heap h1 e (.ref C) vs) (hE:E (.ref C) none H1):(cxOf (CXe P w) P w K mg base N qual scope f cd A outer s H E).xe (.ref e) { s1 with heap:=h1 }:=by
 have L0:∀ b o,s.heap.get? b=some o→b≠(envOfC qual scope s.heap.objs.size f cd).locals:=fun b o e=>Nat.ne_of_lt (Nat.lt_of_lt_of_le (Heap.lt_size e) I.ok.above);have nin:∀ b,((∃ v,s.heap.get? b=some v)∨∃ v,H1 b=some v)→b∉frs outer→b∉frs (envOfC qual scope s.heap.objs.size f cd :: outer):=fun b hb hn hm=>by
  rcases List.mem_cons.mp (I.stkSub b hm) with z | z
  ·rcases hb with ⟨v,e⟩ | ⟨v,e⟩
   ·exact L0 b v e z
   ·rw [z] at e;have:=I.free;rw [e] at this;cases this
  ·exact hn z
 have fh:s1.heap.FunFrames (PySem.W.hideAll s1.heap (frs (envOfC qual scope s.heap.objs.size f cd :: outer))) (envOfC qual scope s.heap.objs.size f cd :: outer):=
  PySem.W.funFrames_hide I.stack fun env he b hb=>List.mem_filterMap.mpr ⟨env,he,hb⟩
 refine wpAny_leaves_madeW (s:={ s1 with heap:=h1 }) I.ok.frames rfl (fun b o q=>PySem.W.of_hideAll _ q) fh hx fun h' t fl _ _ sm=>?_;have inB:∀ b o,s1.heap.get? b=some o→((∃ v,s.heap.get? b=some v)∨∃ v,H1 b=some v)→b∉frs outer→(PySem.W.hideAll s1.heap (frs (envOfC qual scope s.heap.objs.size f cd :: outer))).get? b=some o:=
  fun b o e hb hn=>PySem.W.hideAll_get _ e (nin b hb hn)
 have dat:∀ b o,s1.heap.get? b=some o→b∈frs outer→∀ vs,o.data≠.fields vs:=fun b o e hb=>by
  obtain ⟨_,o',ho',hd⟩:=I.funs.mem hb;rw [e] at ho';cases ho';exact hd
 have U:=ZDf (P:=P) (w:=w) (h2:=h') I.base I.hok (fun b hb=>by
   obtain ⟨_,o,ho,_⟩:=I.ok.funs.mem hb;exact I.base.free b o ho (I.ok.frf b hb) (fun z=>nomatch z)) (fun b o e hb hn=>fl.1 _ _ (inB b o e hb hn)) fun b o e hb=>sm b o (hx.keeps b o e) (dat b o e hb)
 refine ⟨e,.ref C,.ref t,_,H1,rfl,I.os,I.bare,U.1,U.2,fl,fun b o q hb hn=>?_,hE⟩;have there:∃ v,s1.heap.get? b=some v:=by
  rcases hb with ⟨v,z⟩ | ⟨v,z⟩
  ·exact I.base.there b v z (fun z=>nomatch z)
  ·exact Zu8 (I.hok b v z)
 obtain ⟨v,z⟩:=there;have q2:=inB b v z hb hn;have:=fl.1 _ _ q2;rw [q] at this;cases this;exact q2
end
abbrev ExcK (K:PySem.W.Frag) (C:Addr):Prop:=PySem.W.excIn K C [.type "ValueError",.type "Exception",.type "BaseException",.type "object"] "ValueError.__new__"=true
theorem ZPp {K:PySem.W.Frag}{h:Heap}{C:Addr}{ms:List Value}{ni:String} (X:K.In h) (q:PySem.W.excIn K C ms ni=true):
  ∃ tl N nm ql bs hd sn sub ab col dd j0 j1 j2 j3 j5 mN,h.get? C=some (excClassObj nm ql C N bs tl hd sn sub ab col dd j0 j1 j2 j3 j5 ni)∧h.Ns N mN∧mN "__init__"=none∧OwnTail h ms tl:=by
 unfold PySem.W.excIn at q;split at q
 ·rename_i dd cdat slots hob
  split at q
  ·rename_i C2 tl j0 j1 j2 j3 n2 j5 em es
   simp only [Bool.and_eq_true,beq_iff_eq,Bool.not_eq_true'] at q;obtain ⟨⟨⟨⟨⟨e1,e2⟩,e3⟩,e4⟩,e5⟩,e6⟩:=q;subst e1 e2;obtain ⟨c1,c2,c3,c4,c5,c6,c7,c8,c9,c10,c11⟩:=cdat;dsimp only at em e3 e5 e6;subst em e3;have eslots:slots=#[j0,j1,j2,j3,some (.builtin n2),j5]:=by
    obtain ⟨ls⟩:=slots;simp only at es;rw [es]
   subst eslots;refine ⟨tl,c4,c1,c5,c2,c6,c7,c8,c9,c10,dd,j0,j1,j2,j3,j5,h.nsMap c4,X _ _ hob,?_,PySem.W.nsMap_none_of_in X e5 e6,PySem.W.tail_of_in X e4⟩;exact .of_isNs (PySem.W.isNs_of_in X e5)
  ·cases q
 ·cases q
section
variable {X:Cx}{x:Str}{C:Addr}{np cpos pos:Pos}{e:Expr}{es:List Expr}{ta:TA}{E:XK}
theorem Ztm (hc:X.calm=true) (hg:Gl X x) (hm:X.mg x=some (.ref C)) (hx:ExcK X.K C) (ha:PA X (e :: es) ta)
  (hE:∀ (pins:List (Addr×Obj)) (σ:L2.St) (H:Hp) (s:Shared) (ea:Addr) (vs:List Value) (h1:Heap),Inv X pins σ H s→Heap.MadeExcOf s.heap h1 ea (.ref C) vs→E (.ref C) none H→X.xe (.ref ea) { s with heap:=h1 })
  (hs:starEach (e :: es) X.env=(false,eval e X.env) :: starEach es X.env:=by rfl) (hpl:(backTo cpos (starEach es X.env)).any (·.1)=false:=by rfl) (hd:(x == ("__debug__":Str))=false:=by decide):
  PS X (.Raise (some (.Call (.Name x np) (e :: es) [] cpos)) none pos) (Zwg C E ta):=by
 intro pins s σ H D I h;obtain ⟨tl,N,nm,ql,bs,hdd,sn,sub,ab,col,dd,j0,j1,j2,j3,j5,mN,hC,hN,hni,T⟩:=ZPp I.ok.mod.kin hx;refine wpAny_Raise_call_subT (C:=C) (nm:=nm) (q:=ql) (N:=N) (bs:=bs) (bm:=tl) (hdct:=hdd) (sn:=sn) (sub:=sub) (ab:=ab) (col:=col) (dd:=dd) (k0:=j0) (k1:=j1) (k2:=j2) (k3:=j3) (k5:=j5) PySem.F.excBase_ValueError (mN:=mN)
  (T.hasType PySem.F.excBase_ValueError.hasBase) (I.ok.hd hc) ?_ hni (Zeo I hg hm ⟨rfl,?_⟩ hd)
 ·rw [hs];show (false || (backTo cpos (starEach es X.env)).any (·.1))=false;rw [hpl];rfl
 ·have q:=ha cpos pins s σ H _ I h;rw [hs] at q ⊢;refine Calls.evalArgs_plain (thn q fun us s1 ⟨vs,H1,I1,r,l1,hE1⟩=>⟨rfl,?_,I1.bk _ _ hC,hN.keeps I1.bk,T.keeps I1.bk,fun h1 ea hmade=>hE pins σ H1 s1 ea _ h1 I1 hmade hE1⟩);rw [← r.length];exact Nat.le_trans l1 (by decide)
end
end G
namespace G
open PySem L2 PySem.Spec PyProof.Rows
def ZNa (CX:CXT) (X:Cx) (E:L2.St→XK):Prop:=∀ (pins:List (Addr×Obj)) (σ:L2.St) (H:Hp) (s:Shared) (e:Value) (s':Shared),Inv X pins σ H s→CX X.stack H s (E σ) e s'→X.xe e s'
section
variable {X:Cx}{CX:CXT}{k:Nat}{f C:Addr}{fd:FuncData}{ps:List Str}{sp:Sp}{dvs:List V}{ds:List Value}{E:L2.St→XK}{x m:Str}{p pos apos:Pos}{e o:Expr}{es:List Expr}{ta:TE}{t:TA}
theorem ZOe {pins:List (Addr×Obj)}{σ:L2.St}{H:Hp}{s:Shared}{Q:VK}{us:List Value}{vs:List V} (F:FnOk X.prog X.w X.K X.mg X.base CX k f fd ps sp) (hr:Room k X.A) (hb:Binds X.K fd ps ds) (hd:Vals dvs ds) (hx:ZNa CX X E)
  (I:Inv X pins σ H s) (r:Vals vs us) (h:sp (vs ++ dvs) H Q (E σ)):wpAny (model X.prog X.w) X.A (call (.ref f) us) (EP X pins σ Q) X.xe s:=by
 have r2:Vals (vs ++ dvs) (us ++ ds):=r.append hd;have hl:(us ++ ds).length=ps.length:=by rw [← r2.length];exact F.len _ _ _ _ h
 refine wpAny_call (codeAny_mono (F.run X.A X.stack s H ⟨us,[]⟩ (us ++ ds) (vs ++ dvs) Q (E σ) hr I.env0 (hb s us I.kIn hl) r2 h) fun r s' hq=>?_);cases r with
 | error e=>exact hx pins σ H s e s' I hq
 | ok fl=>
  cases fl with
  | ret u=>exact I.after hq
  | next=>exact False.elim hq
  | brk=>exact False.elim hq
  | cont=>exact False.elim hq
theorem ZM5 (F:FnOk X.prog X.w X.K X.mg X.base CX k f fd ps sp) (hr:Room k X.A) (hg:Gl X x) (hm:X.mg x=some (.ref f)) (hk:PySem.W.keepIn X.K (.ref f)=true) (hb:Binds X.K fd ps ds) (hd:Vals dvs ds) (hx:ZNa CX X E)
  (ha:PA X (e :: es) t) (hdb:(x == ("__debug__":Str))=false:=by decide) (he:starEach (e :: es) X.env=(false,eval e X.env) :: starEach es X.env:=by rfl) (hpl:(backTo pos (starEach es X.env)).any (·.1)=false:=by rfl):
  PE X (.Call (.Name x p) (e :: es) [] pos) (ZJ7 sp dvs E t):=by
 intro pins s σ H Q I h;refine wpAny_Call_Name_kw (Zeo I hg hm ?_ hdb);refine PySem.W.callWith_K (h₀:=X.base) I.ok.mod.kin hk (thn (ha pos pins s σ H _ I h) fun us s1 ⟨vs,H1,I1,r,q⟩=>⟨I1.kIn,?_⟩) he hpl;exact ZOe F hr hb hd hx I1 r q
end
abbrev cxB (X:Cx) (pn:List (Addr×Obj)) (xe:Value→Shared→Prop):Cx:={ X with pn:=pn,xe:=xe }
abbrev cxH (X:Cx) (ea:Value) (pn:List (Addr×Obj)):Cx:={ X with A:=X.A.mark (some ea),calm:=false,pn:=pn,xe:=fun _ _=>False }
section
variable {X:Cx}{pins:List (Addr×Obj)}{σ:L2.St}{H:Hp}{s:Shared}
theorem ZQl (ok:X.Ok) (pn:List (Addr×Obj)) (xe:Value→Shared→Prop):(cxB X pn xe).Ok:=
 ⟨ok.mod,ok.kind,ok.glob,ok.blt,ok.above,ok.inj,ok.has,ok.cab,ok.hd,ok.frames,ok.stk,ok.exf,ok.bs,ok.bsz,ok.noex,ok.exfs,ok.funs,ok.frf⟩
theorem ZQk (ok:X.Ok) (ea:Value) (pn:List (Addr×Obj)):(cxH X ea pn).Ok:=
 ⟨ok.mod,ok.kind,ok.glob,ok.blt,ok.above,ok.inj,ok.has,ok.cab,fun z=>(nomatch z),ok.frames,ok.stk,ok.exf,ok.bs,ok.bsz,ok.noex,ok.exfs,ok.funs,ok.frf⟩
theorem ZQ4 (I:Inv X pins σ H s) (xe:Value→Shared→Prop):Inv (cxB X (X.pn ++ pins) xe) [] σ H s:=
 ⟨ZQl I.ok _ _,I.os,I.bare,I.base,I.loc,I.cell,I.free,I.freeC,fun p hp=>I.pin p (by simpa using hp),I.hok,I.len⟩
theorem ZBd {xe:Value→Shared→Prop}{pl:List (Addr×Obj)} (ok:X.Ok) (I:Inv (cxB X (X.pn ++ pins) xe) pl σ H s):Inv X pins σ H s:=
 ⟨ok,I.os,I.bare,I.base,I.loc,I.cell,I.free,I.freeC,fun p hp=>I.pin p (List.mem_append_left _ hp),I.hok,I.len⟩
theorem Zil (I:Inv X pins σ H s) (ea:Value):Inv (cxH X ea (X.pn ++ pins)) [] σ H s:=
 ⟨ZQk I.ok _ _,I.os,I.bare,I.base,I.loc,I.cell,I.free,I.freeC,fun p hp=>I.pin p (by simpa using hp),I.hok,I.len⟩
theorem ZFv {ea:Value}{pl:List (Addr×Obj)} (ok:X.Ok) (I:Inv (cxH X ea (X.pn ++ pins)) pl σ H s):Inv X pins σ H s:=
 ⟨ok,I.os,I.bare,I.base,I.loc,I.cell,I.free,I.freeC,fun p hp=>I.pin p (List.mem_append_left _ hp),I.hok,I.len⟩
theorem ZQ5 {xe:Value→Shared→Prop}{D:Ends}{f:Flow} (ok:X.Ok) (h:SP (cxB X (X.pn ++ pins) xe) [] D f s):SP X pins D f s:=by
 cases f with
 | next=>obtain ⟨σ',H',I,q⟩:=h;exact ⟨σ',H',ZBd ok I,q⟩
 | brk=>obtain ⟨σ',H',I,q⟩:=h;exact ⟨σ',H',ZBd ok I,q⟩
 | cont=>obtain ⟨σ',H',I,q⟩:=h;exact ⟨σ',H',ZBd ok I,q⟩
 | ret u=>obtain ⟨v,σ',H',I,r,q⟩:=h;exact ⟨v,σ',H',ZBd ok I,r,q⟩
theorem ZFj {ea:Value}{D:Ends}{f:Flow} (ok:X.Ok) (h:SP (cxH X ea (X.pn ++ pins)) [] D f s):SP X pins D f s:=by
 cases f with
 | next=>obtain ⟨σ',H',I,q⟩:=h;exact ⟨σ',H',ZFv ok I,q⟩
 | brk=>obtain ⟨σ',H',I,q⟩:=h;exact ⟨σ',H',ZFv ok I,q⟩
 | cont=>obtain ⟨σ',H',I,q⟩:=h;exact ⟨σ',H',ZFv ok I,q⟩
 | ret u=>obtain ⟨v,σ',H',I,r,q⟩:=h;exact ⟨v,σ',H',ZFv ok I,r,q⟩
theorem flown {ea:Addr}{cls a0:Value}{B:Heap}{H2:Hp}{s2:Shared}{h3:Heap} (I:Inv X pins σ H s) (os:s2.os=s.os) (bare:AllBare s2.gens) (un:Un (frs X.stack) [] H H2 s.heap s2.heap) (ok:HOk X.prog X.w H2 s2.heap)
  (fl:Heap.FlyingW B X.stack ea cls a0 s2.heap) (hB:∀ b o,s2.heap.get? b=some o→((∃ v,s.heap.get? b=some v)∨∃ v,H2 b=some v)→b∉frs X.stack→B.get? b=some o)
  (st:B.StaysIn h3) (sm:s2.heap.UpToSlots h3):Inv X pins σ H2 { s2 with heap:=h3 }:=by
 have fr:∀ b∈frs X.stack,H2 b=none:=fun b hb=>by
  obtain ⟨_,o,ho,_⟩:=I.stack.mem hb;exact un.free b o ho (I.stkFree b hb) (fun z=>nomatch z)
 have U:=ZDf (P:=X.prog) (w:=X.w) (h2:=h3) un ok fr (fun b o e hb hn=>st _ _ (hB b o e hb hn)) fun b o e hb=>by
  obtain ⟨_,o',ho',hd⟩:=fl.2.2.1.mem hb;rw [e] at ho';cases ho';exact sm b o e hd
 exact I.call' (s':={ s2 with heap:=h3 }) (ch:=[]) os U.1 U.2 bare (fun b z=>nomatch z)
end
section
variable {X:Cx}{x:Str}{C:Addr}{np pos hpos:Pos}{body suite:List Stmt}{b₀:Stmt}{Mt:Value→Prop}{tb:(L2.St→XK)→TS}{th:TS}
end
end G
namespace G
open PySem L2 PySem.Spec PyProof.Rows
section
variable {P:Program}{w:World}{K:PySem.W.Frag}{mg:Str→Option Value}{base:Heap}{x qual:Str}{st:Stmt}{f:Addr}{fd:FuncData}{N ps:List Str}{k:Nat}{sp:Sp}
theorem fok (F:Fun K x qual st f fd) (S:FnScope N ps (Zaa st)) (len:∀ vs H Q E,sp vs H Q E→vs.length=ps.length)
  (hbody:∀ (cdv:Value) (A:Around) (outer:List Env) (s:Shared) (H:Hp) (vs:List V) (Q:VK) (E:XK),Room k (A.deeper (envOfC qual (Zaa st) s.heap.objs.size f cdv))→sp vs H Q E→
   ∃ t,PSs (cxOf (CXe P w) P w K mg base N qual (Zaa st) f cdv A outer s H E).nox (Zeh st) t∧t { nx:=fun _ H'=>Q .non H',rt:=Q } (start N vs) H):FnOk P w K mg base (CXe P w) (k + 1) f fd ps sp:=by
 obtain ⟨oc,od,kV,doc,pm,an,cdv,ct,osl,rfl,lk,hcd⟩:=F.ex;refine ZPm lk hcd S len fun A outer s H vs Q E hr hsp=>?_;obtain ⟨t,h,q⟩:=hbody cdv A outer s H vs Q E hr hsp;exact ⟨t,h.nox,q⟩
theorem fokX (F:Fun K x qual st f fd) (S:FnScope N ps (Zaa st)) (len:∀ vs H Q E,sp vs H Q E→vs.length=ps.length)
  (hbody:∀ (cdv:Value) (A:Around) (outer:List Env) (s:Shared) (H:Hp) (vs:List V) (Q:VK) (E:XK),Room k (A.deeper (envOfC qual (Zaa st) s.heap.objs.size f cdv))→sp vs H Q E→
   ∃ t,PSs (cxOf (CXe P w) P w K mg base N qual (Zaa st) f cdv A outer s H E) (Zeh st) t∧t { nx:=fun _ H'=>Q .non H',rt:=Q } (start N vs) H):FnOk P w K mg base (CXe P w) (k + 1) f fd ps sp:=by
 obtain ⟨oc,od,kV,doc,pm,an,cdv,ct,osl,rfl,lk,hcd⟩:=F.ex;exact ZPm lk hcd S len fun A outer s H vs Q E hr hsp=>hbody cdv A outer s H vs Q E hr hsp
theorem ZSu (F:FunD K x qual st f fd) (S:FnScope N ps (Zaa st)) (len:∀ vs H Q E,sp vs H Q E→vs.length=ps.length)
  (hbody:∀ (cdv:Value) (A:Around) (outer:List Env) (s:Shared) (H:Hp) (vs:List V) (Q:VK) (E:XK),Room k (A.deeper (envOfC qual (Zaa st) s.heap.objs.size f cdv))→sp vs H Q E→
   ∃ t,PSs (cxOf (CXe P w) P w K mg base N qual (Zaa st) f cdv A outer s H E) (Zeh st) t∧t { nx:=fun _ H'=>Q .non H',rt:=Q } (start N vs) H):FnOk P w K mg base (CXe P w) (k + 1) f fd ps sp:=by
 obtain ⟨oc,od,dV,kV,doc,pm,an,cdv,ct,osl,rfl,lk,hcd⟩:=F.ex;exact ZPm lk hcd S len fun A outer s H vs Q E hr hsp=>hbody cdv A outer s H vs Q E hr hsp
end
end G
namespace G
open PySem L2 PySem.Spec PyProof.Rows
structure ExcI (K:PySem.W.Frag) (C:Addr):Prop where
 ga:PySem.W.findIn K (.ref C) "__getattribute__"=some (some (.builtin "BaseException.__getattribute__"))
 no:PySem.W.findIn K (.ref C) "__getattr__"=some none
 cl:PySem.W.findIn K (.ref C) "__class__"=some (some (.builtin "object.__class__"))
 so:PySem.W.mroIn K C (.type "object")=some true
 sb:PySem.W.mroIn K C (.type "BaseException")=some true
 is:PySem.W.hasDictIn K C=true
section
variable {prog:Program}{w:World}{A:Around}{E:Value→Shared→Prop}{h:Heap}{g:Array GenState}{d:Drawn}{t:Nat}{os:OsState}{a:Addr}{o:Obj}{C:Addr}{K:PySem.W.Frag}
end
section
variable {X:Cx}
theorem ZIy:ZFh X (.type "list") (ZLk X.K):=by
 intro pins s σ H xs us Q I r h;obtain ⟨p,ys,rfl,hs,q⟩:=h;exact ZCq pins s σ H [.ref p] us Q I r ⟨p,ys,rfl,.inl hs,q⟩
end
end G
namespace G
open PySem L2 PySem.Spec PyProof.Rows
theorem ZM8:fastBuiltinMro "NoneType"=some [.type "NoneType",.type "object"]:=by decide +kernel
section
variable {K:PySem.W.Frag}{A:Around}{a C:Addr}{o:Obj}
theorem ZRp {M:Model}{E:Value→Shared→Prop}{s:Shared}{Q:Unit→Shared→Prop} (LI:PySem.W.Looks M s.heap (isInstance (.ref a) (.type "object")) true) (hq:Q () s):wpAny M A (checkBuiltinCall "object.__eq__" ⟨[.ref a,.none],[]⟩) Q E s:=by
 have ha:=PySem.F.cmpArgs_eq (.ref a) .none;simp only [checkBuiltinCall,PySem.F.cmpKind_eq,PySem.F.cmpSplit_eq];refine wpAny_bind (LI.here ?_);simp only [Bool.not_true,Bool.false_eq_true,if_false];cases hsig:Manifest.signature? "object.__eq__" with
 | none=>exact wpAny_pure hq
 | some sig=>
  simp only [argsOk,hsig] at ha;have h2:Bind.checkArgs "object.__eq__" sig ⟨[.ref a,.none],[]⟩=pure ():=ha;show wpAny M A (Bind.checkArgs "object.__eq__" sig ⟨[.ref a,.none],[]⟩) Q E _;rw [h2];exact wpAny_pure hq
theorem ZPr {prog:Program}{w:World}{E:Value→Shared→Prop}{s:Shared}{Q:Value→Shared→Prop} (LI:PySem.W.Looks (model prog w) s.heap (isInstance (.ref a) (.type "object")) true) (hq:Q .notImplemented s):
  wpAny (model prog w) A (call (.builtin "object.__eq__") [.ref a,.none]) Q E s:=by
 refine wpAny_call (codeAny_call_builtin PySem.F.cmp_object.eq.plain PySem.F.cmpEntry_eq (ZRp LI ?_));obtain ⟨h,g,d,t,os⟩:=s;unfold Builtin.«object.__eq__»
 repeat (first | with_reducible refine wpAny_bind (m:=isSame (.ref a) .none) (wpAny_pure ?_) | wp_step)
 exact hq
theorem ZQ3 {prog:Program}{w:World}{E:Value→Shared→Prop}{s:Shared}{Q:Option Value→Shared→Prop} (X:K.In s.heap) (hx:s.heap.get? a=some o) (hc:o.cls=.ref C) (hE:EqD K C) (hq:Q none s):
  wpAny (model prog w) A (tryCompare (.ref a) "__eq__" .none) Q E s:=by
 have LT:PySem.W.Looks (model prog w) s.heap (typeOf (.ref a)) (.ref C):=hc ▸ (PySem.W.Looks.ld hx).andThen .now;have LI:PySem.W.Looks (model prog w) s.heap (isInstance (.ref a) (.type "object")) true:=LT.andThen (PySem.W.looks_mroIn X hE.ob);have LS:PySem.W.Looks (model prog w) s.heap (specialOf (.ref a) "__eq__") (some (.builtin "object.__eq__")):=LT.andThen (PySem.W.looks_findIn X hE.eq);simp only [tryCompare];refine wpAny_bind ?_;simp only [callSpecialIfBound?,bindSpecialIfBound?];refine wpAny_holding (wpAny_bind (wpAny_bind (LS.here ?_)));simp only [PySem.F.cmp_object.eq.bind];have fin:wpAny (model prog w) A (call (.builtin "object.__eq__") ([.ref a] ++ [.none]) >>= fun v=>pure (some v)) (fun r s'=>wpAny (model prog w) A (match r with | some .notImplemented | none=>pure none | some v=>pure (some v)) Q E s') E s:=
  wpAny_bind (ZPr LI (wpAny_pure (wpAny_pure hq)))
 refine wpAny_bind (wpAny_askSetting (wpAny_ite ?_));split
 ·exact wpAny_bind (wpAny_pure (wpAny_pure fin))
 ·exact wpAny_tryCatch (wpAny_bind (wpAny_pure (wpAny_pure fin)))
theorem ZOg {s:Shared} (X:K.In s.heap) (hx:s.heap.get? a=some o) (hc:o.cls=.ref C) (hE:EqD K C) (hu:A.units < cLine):SeqAt.RcAt A s (.ref a) .none false:=fun prog w E Q h=>by
 have LT:PySem.W.Looks (model prog w) s.heap (typeOf (.ref a)) (.ref C):=hc ▸ (PySem.W.Looks.ld hx).andThen .now;have hi:cmpInfo CmpOp.Eq=("==",("__eq__":Str),("__eq__":Str)):=rfl;have ho:oneThing? .Eq (.ref a) .none=none:=rfl;simp only [richCompare,hi,ho]
 try with_reducible refine wpAny_holding ?_
 refine wpAny_bind (wpAny_cRoomFor_or (.inr hu) ?_);refine wpAny_bind (LT.here (wpAny_bind (m:=typeOf .none) (wpAny_pure ?_)));have hne:(Value.ref C != Value.type "NoneType")=true:=by simp
 simp only [hne,if_true];have hs:isSubtype (.type "NoneType") (.ref C)=pure false:=by
  rw [isSubtype_type,ZM8];rfl
 refine wpAny_bind (wpAny_of_eq hs ?_);simp only [Bool.false_eq_true,if_false,Bool.not_false,if_true];refine wpAny_bind (m:=tryCompare (.ref a) _ .none) (ZQ3 X hx hc hE ?_);refine wpAny_bind (m:=tryCompare .none _ (.ref a)) (wpAny_tryCompare_declines (T:="NoneType") rfl PySem.F.slot_NoneType_eq_refl (call_gives PySem.F.slot_NoneType_eq_refl rfl PySem.F.entry_NoneType_eq (PySem.F.args_NoneType_eq_2 _ _) (SeqAt.NoneType___eq___none_ref_0 a) ⟨rfl,?_⟩));exact wpAny_bind (wpAny_rule (wpAny_bind (wpAny_of_eq (rfl:isSame (.ref a) .none=pure false) (wpAny_pure h))))
theorem ZPq {s:Shared} (X:K.In s.heap) (hx:s.heap.get? a=some o) (hc:o.cls=.ref C) (hE:EqD K C) (hu:A.units < cLine):SeqAt.EqAt A s (.ref a) .none false:=fun prog w E Q h=>by
 unfold eqBool;refine wpAny_holding ?_;refine wpAny_ite_split (fun hab=>absurd (eq_of_beq hab) nofun) (fun _=>?_);exact wpAny_bind (ZOg X hx hc hE hu prog w E _ (wpAny_truthy_bool h))
end
section
variable {X:Cx}
def Zua (u:Value):Bool:=match u with
 | .none=>true
 | _=>false
theorem ZFz {H:Hp}{y:V}{u:Value} (r:RelV y u) (h:y=.non∨∃ a C dx fs,y=.ref a∧H a=some (.ins C dx fs)∧Cls X.K C∧EqD X.K C):Zua u=decide (y=.non):=by
 rcases h with rfl | ⟨a,_,_,_,rfl,_⟩
 ·obtain rfl:u=Value.none:=r;rfl
 ·obtain rfl:u=Value.ref a:=r;rfl
theorem ZM9 {pins:List (Addr×Obj)}{σ:L2.St}{H:Hp}{s:Shared}{A:Around}{y:V}{u:Value} (I:Inv X pins σ H s) (hu:A.units < cLine) (r:RelV y u) (h:y=.non∨∃ a C dx fs,y=.ref a∧H a=some (.ins C dx fs)∧Cls X.K C∧EqD X.K C):SeqAt.EqAt A s u .none (Zua u):=by
 rcases h with rfl | ⟨a,C,dx,fs,rfl,ha,hc,he⟩
 ·obtain rfl:u=Value.none:=r;exact SeqAt.EqAt.same .none
 ·obtain rfl:u=Value.ref a:=r;obtain ⟨_,_,_,e,_⟩:=(show Zgb X.prog X.w H s.heap a (.ins C dx fs) from I.hok a _ ha);exact ZPq I.kIn e rfl he hu
theorem ZFy {H:Hp}:∀ {xs:List V}{us:List Value},Vals xs us→OkN X.K H xs→us.any Zua=decide (V.non∈xs)
 | _,_,.nil,_=>rfl
 | y :: xs,u :: us,.cons r t,h=>by
  rw [List.any_cons,ZFy t fun z hz=>h z (List.mem_cons_of_mem _ hz),ZFz r (h y List.mem_cons_self),Bool.eq_iff_iff];simp only [Bool.or_eq_true,decide_eq_true_eq,List.mem_cons];constructor
  ·rintro (z | z)
   ·exact .inl z.symm
   ·exact .inr z
  ·rintro (z | z)
   ·exact .inl z.symm
   ·exact .inr z
theorem ZFw {H:Hp}{pins:List (Addr×Obj)}{σ:L2.St}{s:Shared}{A:Around}{xs:List V}{us:List Value} (I:Inv X pins σ H s) (hu:A.units < cLine) (r:Vals xs us) (h:OkN X.K H xs):∀ u∈us,SeqAt.EqAt A s u .none (Zua u):=by
 intro u hm;obtain ⟨i,hi,rfl⟩:=List.getElem_of_mem hm;have hl:=r.length;have hx:xs[i]? =some xs[i]:=List.getElem?_eq_getElem (by omega);obtain ⟨u',e,ru⟩:=r.get hx;rw [List.getElem?_eq_getElem hi] at e;cases e;exact ZM9 I hu ru (h _ (List.getElem_mem (by omega)))
theorem ZK0 (hu:X.A.units + 1 < cLine):OpR X (compareOp .NotIn) (rInN X.K true):=by
 intro pins s σ H x y v u Q I rx ry h;obtain ⟨p,xs,rfl,rfl,hs,hk,q⟩:=h;obtain rfl:v=Value.none:=rx;cases ry;obtain ⟨us,r,pl,_⟩:=I.list hs;refine SeqAt.notIn_listAt Zua pl.isList (fun w hw=>ZFw I (by show X.A.units + 1 < cLine;exact hu) r hk w (by simpa using hw)) ⟨.bl _,H,I,rfl,?_⟩;rw [show us.toArray.any Zua=us.any Zua by simp,ZFy r hk];exact q
theorem ZFx {H:Hp}{xs:List V}{us:List Value} (r:Vals xs us) (h:OkN X.K H xs) (j:Nat) (hj:j < us.length) (hj':j < xs.length):Zua us[j]=decide (xs[j]=V.non):=by
 obtain ⟨u',e,ru⟩:=r.get (List.getElem?_eq_getElem hj');rw [List.getElem?_eq_getElem hj] at e;cases e;exact ZFz ru (h _ (List.getElem_mem hj'))
theorem ZK5 (hu:X.A.units + 1 < cLine):MtR X "list.index" (ZJn X.K):=by
 intro pins s σ H x xs v us Q I rx rs h;obtain ⟨p,ys,rfl,rfl,hs,hk,hn,q⟩:=h;obtain rfl:v=Value.ref p:=rx;obtain ⟨u,rfl,ru⟩:=Vals.one rs;obtain rfl:u=Value.none:=ru;obtain ⟨ws,r,pl,hz⟩:=I.list hs;obtain ⟨⟨cls,dd,data,sl⟩,ho,hc,n,hd⟩:=pl.isList;simp only at hc hd;subst hc hd;have hl:=r.length;have hj:ys.idxOf V.non < ys.length:=List.idxOf_lt_length_iff.mpr hn;have hz2:ys.length < 2 ^ 62:=Nat.lt_of_le_of_lt hz (by decide);refine call_meets PySem.F.slot_list_index ⟨_,ho,rfl⟩ PySem.F.entry_list_index (PySem.F.args_list_index_2 _ _)
  (SeqAt.list_indexAt p ws.toArray n dd sl .none Zua (ys.idxOf V.non) (by simpa [hl] using hj) (by omega) ?_ ?_) ⟨ho,fun y hy=>ZFw I (by show X.A.units + 1 < cLine;exact hu) r hk y (by simpa using hy),⟨.int _,H,I.tok _,⟨_,rfl⟩,q⟩⟩
 ·show Zua ws[ys.idxOf V.non]=true;rw [ZFx r hk _ (by omega) hj,decide_eq_true_eq];exact List.getElem_idxOf hj
 ·intro j hjs hlt;show Zua ws[j]=false;rw [ZFx r hk j (by simpa using hjs) (by omega),decide_eq_false_iff_not];intro e;have:=List.not_of_lt_findIdx (p:=(· == V.non)) (xs:=ys) hlt;simp [e] at this
end
end G
namespace G
open PySem L2
def rIsB:R2:=fun x y H Q=>∃ b,y=.bl b∧Q (.bl (decide (x=.bl b))) H
theorem ZSj {x:V}{b:Bool}{H:Hp}{Q:VK} (h:Q (.bl (decide (x=.bl b))) H):rIsB x (.bl b) H Q:=⟨b,rfl,h⟩
def Zzz (C:Addr):TE:=fun _ H Q=>∀ x dx,H x=none→H dx=none→dx≠x→Q (.ref x) (upd (upd H dx (.own x)) x (.ins C dx []))
theorem ZP8 {C:Addr}{σ:St}{H:Hp}{Q:VK} (h:∀ x dx,H x=none→H dx=none→dx≠x→Q (.ref x) (upd (upd H dx (.own x)) x (.ins C dx []))):Zzz C σ H Q:=h
def tOrE (t u:TE):TE:=fun σ H Q=>t σ H Q∨u σ H Q
theorem ZR4 {t u:TE}{σ:St}{H:Hp}{Q:VK} (h:t σ H Q):tOrE t u σ H Q:=.inl h
theorem ZP5 {t u:TE}{σ:St}{H:Hp}{Q:VK} (h:u σ H Q):tOrE t u σ H Q:=.inr h
end G
namespace G
open PySem L2 PySem.Spec PyProof.Rows
section
variable {X:Cx}
theorem Zrp:OpR X (compareOp .Is) rIsB:=by
 intro pins s σ H x y v u Q I rx ry h;obtain ⟨b,rfl,q⟩:=h;cases ry;cases x with
 | bl c=>
  cases rx;refine wpAny_is_plain rfl (Zcj I q ?_);cases b<;>cases c<;>rfl
 | non=>cases rx;exact wpAny_is_plain rfl (Zcj I q rfl)
 | ref a=>cases rx;exact wpAny_is_plain rfl (Zcj I q rfl)
 | ty a=>cases rx;exact wpAny_is_plain rfl (Zcj I q rfl)
 | _=>obtain ⟨t,rfl⟩:=rx;exact wpAny_is_plain rfl (Zcj I q rfl)
theorem ZJy {e:Expr}{t u:TE} (h1:PE X e t) (h2:PE X e u):PE X e (tOrE t u):=by
 intro pins s σ H Q I h;rcases h with h | h
 ·exact h1 pins s σ H Q I h
 ·exact h2 pins s σ H Q I h
structure Mk0 (K:PySem.W.Frag) (C:Addr):Prop where
 makes:PySem.W.makesIn K C=true
 init:PySem.W.findIn K (.ref C) "__init__"=some (some (.builtin "object.__init__"))
 kp:PySem.W.keepIn K (.ref C)=true
theorem ZH8 {C:Addr}{pins:List (Addr×Obj)}{σ:L2.St}{H:Hp}{s:Shared}{Q:VK} (M:Mk0 X.K C) (I:Inv X pins σ H s)
  (h:∀ x dx,H x=none→H dx=none→dx≠x→Q (.ref x) (upd (upd H dx (.own x)) x (.ins C dx []))):wpAny (model X.prog X.w) X.A (call (.ref C) []) (EP X pins σ Q) X.xe s:=by
 have hq:=h (s.heap.objs.size + 1) s.heap.objs.size (I.hok.fresh (Nat.le_succ _)) (I.hok.fresh (Nat.le_refl _)) (Nat.ne_of_lt (Nat.lt_succ_self _));have I2:=Inv.made (C:=C) I;have Y:=PySem.W.makes_of (M:=model X.prog X.w) I.kIn M.makes;refine wpAny_call (ZK6 I.kIn M.makes M.init (fun self=>PySem.W.Looks.of_pure (PySem.W.oi_bind self)) ?_);have e2:((s.heap.push PySem.W.emptyDict).push (PySem.W.instObj C s.heap.objs.size)).get? (s.heap.objs.size + 1)=some (PySem.W.instObj C s.heap.objs.size):=by
  have:=Heap.get?_push_size (s.heap.push PySem.W.emptyDict) (o:=PySem.W.instObj C s.heap.objs.size) rfl;rw [Heap.size_push] at this;exact this
 have t1:PySem.W.Looks (model X.prog X.w) ((s.heap.push PySem.W.emptyDict).push (PySem.W.instObj C s.heap.objs.size)) (typeOf (.ref (s.heap.objs.size + 1))) (.ref C):=(PySem.W.Looks.ld e2).andThen .now;have t2:PySem.W.Looks (model X.prog X.w) ((s.heap.push PySem.W.emptyDict).push (PySem.W.instObj C s.heap.objs.size)) (isInstance (.ref (s.heap.objs.size + 1)) (.type "object")) true:=t1.andThen (Y.top.keeps fun b o e=>Heap.get?_push_of_some _ (Heap.get?_push_of_some _ e));refine codeAny_call_builtin PySem.W.oi_plain PySem.W.entry_oi (@PySem.W.check_slot (model X.prog X.w) _ _ _ "object.__init__" "object" "__init__" (.ref (s.heap.objs.size + 1)) [] [] _ PySem.W.oi_kind PySem.W.oi_split t2 (PySem.W.oi_args (.ref (s.heap.objs.size + 1))) ?_);rw [PySem.W.oi_run];exact wpAny_pure (And.intro rfl ⟨V.ref (s.heap.objs.size + 1),_,I2,rfl,hq⟩)
theorem Zu4 {C:Addr}{x:Str}{p pos:Pos} (M:Mk0 X.K C) (hg:Gl X x) (hm:X.mg x=some (.ref C)) (hdb:(x == ("__debug__":Str))=false:=by decide):PE X (.Call (.Name x p) [] [] pos) (Zzz C):=by
 intro pins s σ H Q I h;refine wpAny_Call_Name_kw (Zeo I hg hm ?_ hdb);exact PySem.W.callWith_K0 I.kIn M.kp (ZH8 M I h)
structure InsI (K:PySem.W.Frag) (C:Addr):Prop where
 pg:PySem.W.plainGet K C "__class__"=true
 hd:PySem.W.hasDictIn K C=true
 cl:PySem.W.findIn K (.ref C) "__class__"=some (some (.builtin "object.__class__"))
 sp:PySem.W.specialIn K (.builtin "object.__class__") "__get__"=some (some (.builtin "getset_descriptor.__get__"))
 tk:PySem.W.takesIn K (.builtin "object.__class__")=some true
 so:PySem.W.mroIn K C (.type "object")=some true
end
end G
namespace G
open PySem L2
theorem ZMw {P:Program}{w:World}{K:PySem.W.Frag}{mg:Str→Option Value}{base:Heap}{CX:CXT}{k:Nat}{f:Addr}{fd:FuncData}{ps:List Str}{sp:Sp} (h:∀ vs H Q E,sp vs H Q E→False):FnOk P w K mg base CX k f fd ps sp:=
 ⟨fun vs H Q E z=>(h vs H Q E z).elim,fun _ _ _ H _ _ vs Q E _ _ _ _ z=>(h vs H Q E z).elim⟩
end G
namespace G
open PySem L2 PySem.Spec PyProof.Rows
end G
namespace G
open PySem L2 PySem.Spec PyProof.Rows
def TabE (w:World):List DictEntry→List (Str×Addr)→Prop
 | [],[]=>True
 | e :: es,p :: t=>e.hash=hashStr w p.1∧(∃ tk,e.key=.str p.1 tk)∧e.val=.ref p.2∧TabE w es t
 | _,_=>False
def Tab (K:PySem.W.Frag) (w:World) (mg:Str→Option Value) (nm:Str) (tbl:List (Str×Addr)):Prop:=
 ∃ dd o es ep,mg nm=some (.ref dd)∧K.lookup dd=some o∧o.ExactDict∧o.data=.dict es ep∧TabE w es.toList tbl
theorem TabE.keys {prog:Program}{w:World}:∀ {es:List DictEntry}{tbl:List (Str×Addr)},TabE w es tbl→∀ e∈es,∃ k,(strKind prog w).is k e.key=true∧e.hash=(strKind prog w).hash k
 | [],_,_=>fun e he=>absurd he List.not_mem_nil
 | e :: es,[],h=>h.elim
 | e :: es,p :: t,h=>fun x hx=>by
  obtain ⟨h1,⟨tk,h2⟩,_,h4⟩:=h;rcases List.mem_cons.mp hx with rfl | hx
  ·refine ⟨p.1,?_,h1⟩;rw [h2];show Value.isStrOf p.1 (.str p.1 tk)=true;simp [Value.isStrOf]
  ·exact TabE.keys h4 x hx
theorem TabE.find {w:World}:∀ {es:List DictEntry}{tbl:List (Str×Addr)}{k:Str}{f:Addr},TabE w es tbl→tbl.lookup k=some f→(es.find? fun e=>Value.isStrOf k e.key).map (·.val)=some (.ref f)
 | [],[],_,_,_,h=>by cases h
 | [],_ :: _,_,_,h,_=>h.elim
 | _ :: _,[],_,_,h,_=>h.elim
 | e :: es,p :: t,k,f,h,hl=>by
  obtain ⟨_,⟨tk,h2⟩,h3,h4⟩:=h;rw [List.find?_cons,h2]
  by_cases hk:k=p.1
  ·subst hk;have e1:Value.isStrOf p.1 (.str p.1 tk)=true:=by simp [Value.isStrOf]
   rw [e1];have e2:List.lookup p.1 (p :: t)=some p.2:=by
    obtain ⟨a,b⟩:=p;simp [List.lookup]
   rw [e2] at hl;cases hl;show some e.val=_;rw [h3]
  ·have e1:Value.isStrOf k (.str p.1 tk)=false:=by
    simp only [Value.isStrOf,beq_eq_false_iff_ne,ne_eq];exact fun z=>hk z.symm
   rw [e1];have e2:List.lookup k (p :: t)=List.lookup k t:=by
    obtain ⟨a,b⟩:=p;simp only [List.lookup];rw [beq_eq_false_iff_ne.mpr hk]
   rw [e2] at hl;exact TabE.find h4 hl
def tTab (tbl:List (Str×Addr)) (ti:TE):TE:=fun σ H Q=>ti σ H fun y H1=>∃ k f,y=.str k∧tbl.lookup k=some f∧Q (.ref f) H1
theorem ZSb {tbl:List (Str×Addr)}{ti:TE}{σ:L2.St}{H:Hp}{Q:VK} (h:ti σ H fun y H1=>∃ k f,y=.str k∧tbl.lookup k=some f∧Q (.ref f) H1):tTab tbl ti σ H Q:=h
theorem ZQd {X:Cx}{nm:Str}{tbl:List (Str×Addr)}{i:Expr}{ti:TE}{p pos:Pos} (T:Tab X.K X.w X.mg nm tbl) (hg:Gl X nm) (hi:PE X i ti) (hs:NoSl i) (hd:(nm == ("__debug__":Str))=false:=by decide):
  PE X (.Subscript (.Name nm p) i pos) (tTab tbl ti):=by
 intro pins s σ H Q I h;obtain ⟨dd,o,es,ep,hm,hk,ho,hda,te⟩:=T;refine ZJa PySem.F.slot_dict_getitem.lookup hs (Zeo I hg hm ?_ hd);refine thn (hi pins s σ H _ I h) fun iv s2 ⟨y,H2,I2,ry,k,f,ey,l,q2⟩=>?_;subst ey;have hh:=I2.kIn dd o hk;refine ⟨⟨o,hh,ho.1⟩,?_⟩;obtain ⟨tk,rfl⟩:∃ tk,iv=.str k tk:=ry;refine wpAny_getItem_of (knd:=strKind X.prog X.w) (k:=k) (f:=fun k=>findBy Value.isStrOf es k) (by show Value.isStrOf k (.str k tk)=true;simp [Value.isStrOf]) ⟨o,es,ep,hh,ho,hda,fun e he=>te.keys e (by simpa using he),fun _=>rfl⟩ (v:=.ref f) ?_ ⟨.ref f,H2,I2.tok _,rfl,q2⟩;show Option.map (fun x=>x.val) (Array.find? (fun e=>Value.isStrOf k e.key) es)=_;rw [← Array.find?_toList];exact te.find l
def FnT (P:Program) (w:World) (K:PySem.W.Frag) (mg:Str→Option Value) (base:Heap) (CX:CXT) (k:Nat) (ps:List Str) (L:List (Addr×Sp)):Prop:=
 ∀ f sp,(f,sp)∈L→∃ k' fd,k'≤k∧FnOk P w K mg base CX k' f fd ps sp∧PySem.W.keepIn K (.ref f)=true∧L2.Binds K fd ps []
theorem FnT.nil {P:Program}{w:World}{K:PySem.W.Frag}{mg:Str→Option Value}{base:Heap}{CX:CXT}{k:Nat}{ps:List Str}:FnT P w K mg base CX k ps []:=fun _ _ h=>absurd h List.not_mem_nil
theorem FnT.cons {P:Program}{w:World}{K:PySem.W.Frag}{mg:Str→Option Value}{base:Heap}{CX:CXT}{k k':Nat}{ps:List Str}{L:List (Addr×Sp)}{f:Addr}{fd:FuncData}{sp:Sp} (hk:k'≤k) (F:FnOk P w K mg base CX k' f fd ps sp) (hb:L2.Binds K fd ps []) (hp:PySem.W.keepIn K (.ref f)=true) (t:FnT P w K mg base CX k ps L):FnT P w K mg base CX k ps ((f,sp) :: L):=fun g sp' h=>by
 rcases List.mem_cons.mp h with e | h
 ·cases e;exact ⟨k',fd,hk,F,hp,hb⟩
 ·exact t g sp' h
def ZJ8 (i:Nat) (L:List (Addr×Sp)) (E:XK) (t:TA):TE:=fun σ H Q=>∃ f sp,σ[i]? =some (some (.ref f))∧(f,sp)∈L∧t σ H fun vs H1=>sp vs H1 Q E
theorem Zjj {i:Nat}{L:List (Addr×Sp)}{E:XK}{t:TA}{σ:L2.St}{H:Hp}{Q:VK}{f:Addr} (sp:Sp) (hf:σ[i]? =some (some (.ref f))) (hm:(f,sp)∈L) (h:t σ H fun vs H1=>sp vs H1 Q E):ZJ8 i L E t σ H Q:=⟨f,sp,hf,hm,h⟩
theorem ZM6 {X:Cx}{CX:CXT}{k i:Nat}{ps:List Str}{L:List (Addr×Sp)}{x:Str}{E:XK}{e:Expr}{es:List Expr}{t:TA}{p pos:Pos} (F:FnT X.prog X.w X.K X.mg X.base CX k ps L) (hr:Room k X.A) (hN:X.N[i]? =some x) (hv:Vis X.env.scope x) (hx:Zns CX X E)
  (ha:PA X (e :: es) t) (hd:(x == ("__debug__":Str))=false:=by decide) (hcd:(x == ("__classdict__":Str))=false:=by decide) (he:starEach (e :: es) X.env=(false,eval e X.env) :: starEach es X.env:=by rfl) (hpl:(backTo pos (starEach es X.env)).any (·.1)=false:=by rfl):
  PE X (.Call (.Name x p) (e :: es) [] pos) (ZJ8 i L E t):=by
 intro pins s σ H Q I h;obtain ⟨f,sp,ef,hm,h⟩:=h;obtain ⟨k',fd,hk,FO,hp,hb⟩:=F f sp hm;refine wpAny_Call_Name_kw (thn (ZNf hN hv hd hcd pins s σ H (fun v H'=>v=.ref f∧H'=H) I ⟨_,ef,rfl,rfl⟩) fun u s1 ⟨v,H1,I1,r,e1,e2⟩=>?_);subst e1 e2;obtain rfl:u=Value.ref f:=r;refine PySem.W.callWith_K (h₀:=X.base) I1.ok.mod.kin hp (thn (ha pos pins s1 σ H1 _ I1 h) fun us s2 ⟨vs,H2,I2,r2,q2⟩=>⟨I2.kIn,?_⟩) he hpl;refine ZFn (dvs:=[]) FO (hr.mono hk) hb .nil hx I2 r2 ?_;rw [List.append_nil];exact q2
section
variable {σ:L2.St}{H:Hp}{Q:VK}{td ty tv:TE}{n bk ct:L2.St→Hp→Prop}{r:VK}
theorem ZRj (h:td σ H fun x H1=>ty σ H1 fun y H2=>∃ a v,x=.ref a∧DGet H2 a y (some v)∧Q v H2):Zf0 td ty σ H Q:=h
theorem ZMo (h:ty σ H fun y H1=>td σ H1 fun x H2=>∃ a o,x=.ref a∧DGet H2 a y o∧Q (.bl (!o.isSome)) H2):Zwz ty td σ H Q:=h
theorem ZRi (h:tv σ H fun v H1=>td σ H1 fun x H2=>ty σ H2 fun y H3=>∃ a H4,x=.ref a∧DPut H3 a y v H4∧n σ H4):ZDr td ty tv ⟨n,r,bk,ct⟩ σ H:=h
theorem ZPs {a:Addr}{kvs:List (L2.Key×V)}{z:Str} (e:H a=some (.dK kvs)):DGet H a (.str z) (valV kvs (Sum.inr z)):=DGet.k (k:=Sum.inr z) e
theorem ZSy {a:Addr}{kvs:List (L2.Key×V)}{z:Str}{v:V} (e:H a=some (.dK kvs)) (hl:kvs.length < sizeLine):DPut H a (.str z) v (upd H a (.dK (putK kvs (Sum.inr z) v))):=DPut.k (k:=Sum.inr z) e hl
end
end G
namespace G
open PySem L2 PySem.Spec PyProof.Rows
def LCg2 (K:PySem.W.Frag) (J:It) (caps:List Nat) (tc:TT) (te:TE) (σ:L2.St) (H1:Hp) (Q:VK):Prop:=∃ W:Nat→Nat→List V→Hp→Prop,(∃ m,W 0 m [] H1)∧∀ i m ys H,W i m ys H→
 (J.stop i H∧∀ p,H p=none→Q (.ref p) (upd H p (.lst ys)))∨
 (J.go i H∧ys.length < sizeLine∧∀ x H',J.yld i H x H'→∃ a u v,x=.ref a∧SqT K H' a [u,v]∧tc (some u :: some v :: caps.map (pick σ)) H' fun k H2=>if k=true then te (some u :: some v :: caps.map (pick σ)) H2 (fun y H3=>∃ m',m' < m∧W (i + 1) m' (ys ++ [y]) H3) else ∃ m',m' < m∧W (i + 1) m' ys H2)
def tLC2 (K:PySem.W.Frag) (wi:TI) (caps:List Nat) (tc:TT) (te:TE):TE:=fun σ H Q=>wi σ H fun J H1=>LCg2 K J caps tc te σ H1 Q
theorem ZR9 {K:PySem.W.Frag}{wi:TI}{caps:List Nat}{tc:TT}{te:TE}{σ:L2.St}{H:Hp}{Q:VK} (h:wi σ H fun J H1=>LCg2 K J caps tc te σ H1 Q):tLC2 K wi caps tc te σ H Q:=h
def tUnp (K:PySem.W.Frag) (te:TE):TE:=fun σ H Q=>∃ a u v r,σ=some (.ref a) :: r∧SqT K H a [u,v]∧te (some u :: some v :: r) H Q
theorem ZOz {K:PySem.W.Frag}{J:It}{caps:List Nat}{te:TE}{σ:L2.St}{H:Hp}{Q:VK} (h:LCg J caps Zqe (tUnp K te) σ H Q):LCg2 K J caps Zqe te σ H Q:=by
 obtain ⟨W,w0,step⟩:=h;refine ⟨W,w0,fun i m ys H hw=>?_⟩;rcases step i m ys H hw with z | ⟨g,l,st⟩
 ·exact .inl z
 ·refine .inr ⟨g,l,fun x H' y=>?_⟩;have h1:=st x H' y;simp only [Zqe,↓reduceIte] at h1;obtain ⟨a,u,v,r,e,hs,q⟩:=h1;cases e;refine ⟨a,u,v,rfl,hs,?_⟩;simp only [Zqe,↓reduceIte];exact q
theorem ZQe {X:Cx}{elt iter:Expr}{x y:Str}{px py pt pos:Pos}{kt:Nat}{ifs:List Expr}{scope:Scope}{cl:List (Str×Addr)}{wi:TI}{tc:TT}{te:TE}{cns:List Str} (caps:List Nat)
  (hi:PI X (.Tuple [.Name x px,.Name y py] kt pt) iter wi)
  (hf:∀ C s H ex pn,PF (cxLC X scope cl (x :: y :: cns) C s H ex pn) ifs tc) (he:∀ C s H ex pn,PE (cxLC X scope cl (x :: y :: cns) C s H ex pn) elt te) (hc:X.calm=true)
  (hclos:closureFor scope X.env=pure cl) (hcl:AllIn X.env.cells cl) (hcap:Zwf X cns caps)
  (hkind:scope.kind=.function) (hcell:(scope.names.all fun p=>p.2 != .cell)=true) (hfree:(scope.names.all fun p=>p.2 != .free || (cl.lookup p.1).isSome)=true)
  (hcf:(cns.all fun y=>scope.names.lookup y == some .free)=true) (hnames:∀ y∈scope.names,y.2=.local→scope.names.lookup y.1=some .local) (hx:scope.names.lookup x=some .local) (hy:scope.names.lookup y=some .local) (hnd:(x :: y :: cns).Nodup)
  (hs:∀ v,foldedSetIterable iter X.env v=pure v:=by intro _;rfl):
  PE X (.ListComp elt [⟨.Tuple [.Name x px,.Name y py] kt pt,iter,ifs,0⟩] scope pos) (tLC2 X.K wi caps tc te):=by
 intro pins s σ H Q I h;rw [eval_ListComp];refine wpAny_comprehension_free (use:=none) rfl hs hclos hkind hnames (thn (hi pins s σ H _ I h) fun xv s1 h1=>thn h1 fun itv s2 h2=>?_);obtain ⟨it,fp,tn,J,H2,rfl,I2,T,st2,f2,W,⟨m0,w0⟩,turn⟩:=h2;have hne:∀ y∈scope.names,y.2≠.cell:=fun y hy e=>by
  have:=List.all_eq_true.mp hcell y hy;rw [e] at this;simp at this
 refine wpAny_newObj_type (wpAny_newFunctionEnv hne (by intro y hy;simp at hy) (fun h₁ hns₁ hsb₁=>?_) hkind);dsimp only at hns₁ hsb₁ ⊢;generalize hacc:s2.heap.objs.size=acc;generalize hH3:s2.heap.push { cls:=.type "list",dict:=none,data:=.seq ([]:List Value).toArray }=h3 at hns₁ hsb₁ ⊢;have hC:h3.objs.size=acc + 1:=by rw [← hH3,Heap.size_push,hacc]
 have k23:∀ b o,s2.heap.get? b=some o→h3.get? b=some o:=fun b o e=>hH3 ▸ Heap.get?_push_of_some _ e;have k34:∀ b o,h3.get? b=some o→h₁.get? b=some o:=fun b o e=>hsb₁.extBut b o (Nat.ne_of_lt (Heap.lt_size e)) (Heap.get?_push_of_some _ e);have oacc:h3.get? acc=some { cls:=.type "list",dict:=none,data:=.seq ([]:List Value).toArray }:=by
  rw [← hH3,← hacc];exact Heap.get?_push_size _ rfl
 have I3:Inv X pins σ H2 { s2 with heap:=h3 }:=I2.kept (t':=s2.toks) k23;have facc:FpOk X pins H2 acc:=I2.fpOk (Nat.le_of_eq hacc) (I2.hok.fresh (Nat.le_of_eq hacc));have fpl:∀ b∈fp,b < acc:=fun b hb=>by
  obtain ⟨o,e,_⟩:=T.obj _ _ st2 b hb;rw [← hacc];exact Heap.lt_size e
 have exok:∀ b∈acc :: fp,FpOk X pins H2 b:=fun b hb=>(List.mem_cons.mp hb).elim (fun e=>e ▸ facc) (f2 b);have exC:∀ b∈acc :: fp,b≠h3.objs.size:=fun b hb=>by
  rcases List.mem_cons.mp hb with e | hb
  ·rw [hC,e];exact Nat.ne_of_lt (Nat.lt_succ_self _)
  ·rw [hC];exact Nat.ne_of_lt (Nat.lt_succ_of_lt (fpl b hb))
 have stk_no:∀ b∈acc :: fp,b∉frs X.stack:=fun b hb hm=>by
  obtain ⟨_,g1,g2,_⟩:=exok b hb;exact (List.mem_cons.mp (I2.stkSub b hm)).elim g1 g2
 let Y:Cx:=cxLC X scope cl (x :: y :: cns) h3.objs.size { s2 with heap:=h3 } H2 (acc :: fp) (X.pn ++ pins)
 have cellsOf:∀ y c,cl.lookup y=some c→X.env.cells.lookup y=some c:=fun y c e=>hcl.get e;have kindY:∀ y k,Y.env.kindOf y=some k→(k=.cell∨k=.free)→∃ c,cl.lookup y=some c:=fun y k e hk=>by
  have e0:(scope.names.lookup y).map (relK X.env y)=some k:=Ze1.symm.trans e;obtain ⟨k0,e1,e2⟩:=Option.map_eq_some_iff.mp e0;have e3:=lookup_all hfree e1;have e4:=lookup_all hcell e1
  by_cases hf:k0=.free
  ·subst hf;rw [Bool.or_eq_true] at e3;rcases e3 with e3 | e3
   ·exact absurd rfl (bne_iff_ne.mp e3)
   ·exact Option.isSome_iff_exists.mp e3
  ·exfalso
   have e5:relK X.env y k0=k0:=by
    unfold relK;rw [if_neg];intro z;rw [Bool.and_eq_true,Bool.and_eq_true] at z;exact hf (beq_iff_eq.mp z.1.1)
   rw [e5] at e2;subst e2;rcases hk with rfl | rfl
   ·simp at e4
   ·exact hf rfl
 have okY:Y.Ok:={
  mod:=I2.ok.mod
  kind:=hkind
  glob:=I2.ok.glob
  blt:=I2.ok.blt
  above:=Nat.le_refl _
  inj:=fun a b c e1 e2=>I2.ok.inj a b c (cellsOf _ _ e1) (cellsOf _ _ e2)
  has:=fun y hy=>hy.elim (fun e=>kindY y _ e (.inl rfl)) (fun e=>kindY y _ e (.inr rfl))
  cab:=fun y c e=>nomatch e
  hd:=I2.ok.hd
  frames:=I2.ok.frames
  stk:=.inl rfl
  exf:=fun b hb=>⟨exC b hb,fun y c e=>(exok b hb).2.2.2.2.1 y c (cellsOf _ _ e)⟩
  bs:=fun b o e=>⟨k23 b o (I2.bs b o e).1,(I2.bs b o e).2⟩
  bsz:=by
   show X.base.objs.size≤h3.objs.size;rw [hC,← hacc];exact Nat.le_succ_of_le (Nat.le_trans I2.ok.bsz I2.sz)
  noex:=fun b o e hb=>by
   rcases (exok b hb).2.2.2.1 with z | z
   ·exact I2.ok.noex b o e z
   ·exact absurd (Nat.lt_of_lt_of_le (Heap.lt_size e) (Nat.le_trans I2.ok.bsz z)) (Nat.lt_irrefl _)
  exfs:=stk_no
  funs:=I3.stack
  frf:=I3.stkFree }
 have lenN:(none :: none :: caps.map (pick σ):L2.St).length=(x :: y :: cns).length:=by rw [List.length_cons,List.length_cons,List.length_cons,List.length_cons,List.length_map,hcap.len]
 have I4:Inv Y [] (none :: none :: caps.map (pick σ)) H2 { s2 with heap:=h₁,toks:=s2.toks + ([]:List (Str×Value)).length }:={
  ok:=okY
  os:=rfl
  bare:=I2.bare
  base:=Un.kept k34
  loc:=by
   refine ⟨_,hns₁,fun i y₁ v e1 e2 e3=>?_⟩
   match i,e1,e2 with
   | 0,e1,e2=>simp at e2
   | 1,e1,e2=>simp at e2
   | i + 2,e1,e2=>
    obtain ⟨j,j1,j2,j3⟩:=hcap.get (σ:=σ) (i:=i) (x:=y₁) (v:=v) (by have e1':(x :: y :: cns)[i + 2]? =some y₁:=e1;simpa using e1') (by simpa using e2);obtain ⟨m,hn,hl⟩:=I2.loc;obtain ⟨u,r,l⟩:=hl j y₁ v j1 j3 (.inr (.inl j2));rcases l with ⟨l,_⟩ | ⟨_,c,l1,l2⟩
    ·rw [j2] at l;cases l
    ·refine ⟨u,r,.inr ?_⟩;rcases e3 with e3 | e3 | e3
     ·exfalso
      have hm:y₁∈cns:=List.mem_of_getElem? (show cns[i]? =some y₁ by have e1':(x :: y :: cns)[i + 2]? =some y₁:=e1;simpa using e1');have hl:scope.names.lookup y₁=some .free:=beq_iff_eq.mp (List.all_eq_true.mp hcf y₁ hm);have e0:(scope.names.lookup y₁).map (relK X.env y₁)=some .local:=Ze1.symm.trans e3;rw [hl] at e0;have e5:relK X.env y₁ .free=.local:=Option.some.inj e0;unfold relK at e5;split at e5<;>cases e5
     ·obtain ⟨c',hc'⟩:=kindY y₁ _ e3 (.inl rfl);have:=cellsOf _ _ hc';rw [l1] at this;cases this;exact ⟨.inl e3,c,hc',l2.keeps fun b o e=>k34 _ _ (k23 _ _ e)⟩
     ·obtain ⟨c',hc'⟩:=kindY y₁ _ e3 (.inr rfl);have:=cellsOf _ _ hc';rw [l1] at this;cases this;exact ⟨.inr e3,c,hc',l2.keeps fun b o e=>k34 _ _ (k23 _ _ e)⟩
  cell:=fun y c e=>by
   obtain ⟨v,z⟩:=I2.cell y c (cellsOf _ _ e);exact ⟨v,z.keeps fun b o e=>k34 _ _ (k23 _ _ e)⟩
  free:=I2.hok.fresh (by rw [hacc];show acc≤h3.objs.size;rw [hC];exact Nat.le_succ _)
  freeC:=fun y c e=>I2.freeC y c (cellsOf _ _ e)
  pin:=fun p hp=>by
   have hp2:p∈(X.pn ++ pins) ++ []:=hp;have hp':p∈X.pn ++ pins:=by rw [List.append_nil] at hp2;exact hp2
   obtain ⟨p1,p2,p3,p4,p5⟩:=I2.pin p hp';refine ⟨k34 _ _ (k23 _ _ p1),p2,?_,fun hm=>(List.mem_cons.mp (I2.stkSub _ hm)).elim p3 p4,p5⟩;exact Nat.ne_of_lt (by show p.1 < h3.objs.size;exact Heap.lt_size (k23 _ _ p1))
  hok:=I2.hok.kept fun b u e=>k34 _ _ (k23 _ _ e)
  len:=lenN }
 have fpY:∀ {H':Hp}{pl:List (Addr×Obj)}{b:Addr},b∈acc :: fp→H' b=none→(∀ p∈pl,p.1≠b)→FpOk Y pl H' b:=fun {H' pl b} hb hn hp=>
  ⟨hn,exC b hb,stk_no b hb,.inl hb,fun y c e=>(exok b hb).2.2.2.2.1 y c (cellsOf _ _ e),fun p hm=>(List.mem_append.mp hm).elim (fun z=>(exok b hb).2.2.2.2.2 p z) (hp p)⟩
 have fin:∀ {σ':L2.St}{H':Hp}{s':Shared}{ys:List V}{its:List Value}{kk:Nat}{pl:List (Addr×Obj)},Inv Y pl σ' H' s'→H' acc=none→Vals ys its→ys.length≤sizeLine→
   s'.heap.get? acc=some { cls:=.type "list",data:=.seq its.toArray kk }→(∀ p,H' p=none→Q (.ref p) (upd H' p (.lst ys)))→
   ∀ h',Heap.SameBut h3.objs.size s'.heap h'→EP X pins σ Q (.ref acc) { s' with heap:=h' }:=fun {σ' H' s' ys its kk pl} J ha hv hz ho hq h' hs'=>by
  have hacC:acc≠h3.objs.size:=exC acc (List.mem_cons_self);have keepC:∀ b o,b≠h3.objs.size→s'.heap.get? b=some o→h'.get? b=some o:=fun b o hb e=>hs'.extBut b o hb e;have ltC:∀ b o,s2.heap.get? b=some o→b≠h3.objs.size:=fun b o e=>Nat.ne_of_lt (Heap.lt_size (k23 b o e));have hCfree:H' h3.objs.size=none:=J.free;have un:Un (frs X.stack) (acc :: fp) H2 H' s2.heap h':={
   keep:=fun b o e n hb hx=>keepC b o (ltC b o e) (J.base.keep b o (k23 b o e) n hb hx)
   slot:=fun b o e n hb hx=>by
    obtain ⟨sl,q⟩:=J.base.slot b o (k23 b o e) n hb hx;exact ⟨sl,keepC b _ (ltC b o e) q⟩
   free:=fun b o e n hx=>J.base.free b o (k23 b o e) n hx
   there:=fun b o e hx=>by
    obtain ⟨o',q⟩:=J.base.there b o (k23 b o e) hx;exact ⟨o',keepC b o' (ltC b o e) q⟩
   tups:=J.base.tups
   frzs:=J.base.frzs
   tbls:=J.base.tbls }
  have hok:HOk X.prog X.w H' h':=fun b u e=>by
   refine (J.hok b u e).stay (fun c v hc q=>keepC c v ?_ q) (fun _ q=>q) fun _ _ q=>q;rintro rfl;rcases hc with rfl | hc
   ·rw [hCfree] at e;cases e
   ·rw [hCfree] at hc;cases hc
  have I5:Inv X pins σ H' { s' with heap:=h' }:=I2.call' (ch:=acc :: fp) J.os un hok J.bare fun b hb=>by
   obtain ⟨g0,g1,g2,g3,g4,g5⟩:=exok b hb;exact ⟨g3,g1,g4,g5⟩
  refine ⟨.ref acc,_,adopt (acc:=acc) I5 ?_ (keepC _ _ hacC ho) hv hz,rfl,hq acc ha⟩;obtain ⟨g0,g1,g2,g3,g4,g5⟩:=facc;exact ⟨ha,g1,g2,g3,g4,g5⟩
 have loop:codeAny (model X.prog X.w) X.A (.compLoop (.ListComp elt [⟨.Tuple [.Name x px,.Name y py] kt pt,iter,ifs,0⟩] scope pos) 0 (.ref it) (.ref acc) Y.env) (compPost (model X.prog X.w) X.A X.xe none (EP X pins σ Q) (.ref acc) h3.objs.size)
   { s2 with heap:=h₁,toks:=s2.toks + ([]:List (Str×Value)).length }:=by
  refine Zov (fun n s'=>∃ (i:Nat) (v v':Option V) (ys:List V) (its:List Value) (kk:Nat) (H':Hp),Inv Y [] (v :: v' :: caps.map (pick σ)) H' s'∧tn i s'.heap∧(∀ b∈fp,H' b=none)∧H' acc=none∧Vals ys its∧ys.length≤sizeLine∧
   s'.heap.get? acc=some { cls:=.type "list",data:=.seq its.toArray kk }∧W i n ys H') ?_ m0 ⟨0,none,none,[],[],0,H2,I4,T.keep _ _ _ st2 (fun b _ o e=>k34 _ _ (k23 _ _ e)),fun b hb=>(f2 b hb).1,facc.1,.nil,Nat.zero_le _,k34 _ _ oacc,w0⟩
  rintro n s5 ⟨i,v,v',ys,its,kk,H5,I5,st5,fr5,ha5,hv5,hz5,ho5,w5⟩;have pinA:Inv Y [(acc,{ cls:=.type "list",data:=.seq its.toArray kk })] (v :: v' :: caps.map (pick σ)) H5 s5:=I5.pins_of fun p hp=>by
   have e:p=(acc,{ cls:=.type "list",data:=.seq its.toArray kk }):=by simpa using hp
   subst e;exact ⟨ho5,ha5,exC acc List.mem_cons_self,stk_no acc List.mem_cons_self,fun v=>by intro z;cases z⟩
  have fpA:∀ {H':Hp},(∀ b∈fp,H' b=none)→∀ b∈fp,FpOk Y [(acc,{ cls:=.type "list",data:=.seq its.toArray kk })] H' b:=fun hn b hb=>fpY (List.mem_cons_of_mem _ hb) (hn b hb) fun p hp=>by
   have e:p=(acc,{ cls:=.type "list",data:=.seq its.toArray kk }):=by simpa using hp
   subst e;exact (Nat.ne_of_lt (fpl b hb)).symm
  rcases turn i n ys H5 w5 with ⟨stop,qn⟩ | ⟨go,hlt,step⟩
  ·refine thn (T.done Y rfl rfl rfl hc i _ s5 _ H5 (fun _ _=>False) pinA (fpA fr5) st5 stop) fun r s6 ⟨hr,I6⟩=>?_;subst hr;obtain ⟨m,hm,_⟩:=I6.loc;have ho6:=(I6.pin (acc,{ cls:=.type "list",data:=.seq its.toArray kk }) (List.mem_append_right _ List.mem_cons_self)).1;exact ⟨m,hm,fin I6 ha5 hv5 hz5 ho6 qn⟩
  ·refine thn (T.item Y rfl rfl rfl hc i _ s5 _ H5 (fun _ _=>False) pinA (fpA fr5) st5 go) fun r s6 ⟨u,hr,h6⟩=>?_;subst hr;refine thn h6 fun _ s7 ⟨z,H7,I7,r7,y7,st7,fr7⟩=>?_;have I7':=I7.pinned (fpA fr7) (T.obj _ _ st7);obtain ⟨ta,u1,u2,ez,hst,step⟩:=step z H7 y7;have pg:PG Y (.Tuple [.Name x px,.Name y py] kt pt) (gTup X.K 2 (ZKt (Zam 0) (ZKt (Zam 1) gNil))):=ZNe (X:=Y) hc (Ztn (Zff hnd rfl (.inl (lookup_relabel_local hx)) (.inr (lookup_relabel_local hx))) (Ztn (Zff hnd rfl (.inl (lookup_relabel_local hy)) (.inr (lookup_relabel_local hy))) ZJw));refine thn (pg _ s7 _ H7 z u (fun σ2 H2'=>σ2=some u1 :: some u2 :: caps.map (pick σ)∧H2'=H7) I7' r7 ⟨ta,_,ez,hst,rfl,_,_,rfl,_,_,rfl,rfl,rfl,rfl⟩) fun _ s8 ⟨σ8,H8,I8,e8,e8'⟩=>?_;subst e8 e8';refine thn (hf _ _ _ _ _ _ s8 _ H8 _ I8 step) fun ok s9 ⟨H9,I9,q9⟩=>?_;have stat:∀ {H':Hp}{s':Shared}{σ':L2.St},Inv Y ([(acc,{ cls:=.type "list",data:=.seq its.toArray kk })] ++ Zjq fp s7.heap) σ' H' s'→tn (i + 1) s'.heap∧(∀ b∈fp,H' b=none)∧H' acc=none∧s'.heap.get? acc=some { cls:=.type "list",data:=.seq its.toArray kk }:=fun {H' s' σ'} J=>by
    have pa:=J.pin (acc,{ cls:=.type "list",data:=.seq its.toArray kk }) (List.mem_append_right _ (List.mem_append_left _ List.mem_cons_self));refine ⟨T.keep _ _ _ st7 fun b hb o e=>(J.pin (b,o) (List.mem_append_right _ (List.mem_append_right _ (Ze8 hb e)))).1,fun b hb=>?_,pa.2.1,pa.1⟩;obtain ⟨o,e,d⟩:=T.obj _ _ st7 b hb;exact (J.pin (b,o) (List.mem_append_right _ (List.mem_append_right _ (Ze8 hb e)))).2.1
   have nopin:∀ {H':Hp}{s':Shared}{σ':L2.St}{pl:List (Addr×Obj)},Inv Y pl σ' H' s'→Inv Y [] σ' H' s':=fun J=>J.pins_of fun p hp=>nomatch hp;cases ok with
   | false=>
    obtain ⟨m',hm,w9⟩:=q9;obtain ⟨t1,t2,t3,t4⟩:=stat I9;exact ⟨m',hm,i + 1,some u1,some u2,ys,its,kk,H9,nopin I9,t1,t2,t3,hv5,hz5,t4,w9⟩
   | true=>
    show wpAny _ _ (eval elt Y.env) _ _ s9;refine thn (he _ _ _ _ _ _ s9 _ H9 _ I9 q9) fun y s10 ⟨yv,H10,I10,r10,m',hm,w10⟩=>?_;obtain ⟨t1,t2,t3,t4⟩:=stat I10;have I10':Inv Y (Zjq fp s7.heap) (some u1 :: some u2 :: caps.map (pick σ)) H10 s10:=I10.pins_of fun p hp=>I10.pin p (List.mem_append_right _ (List.mem_append_right _ hp));have fA:FpOk Y (Zjq fp s7.heap) H10 acc:=fpY List.mem_cons_self t3 fun p hp=>Nat.ne_of_lt (fpl _ (Zpo hp).1);have Ja:=adopt I10' fA t4 hv5 hz5;refine thn (Zg4 (X:=Y) _ s10 _ _ (.ref acc) [yv] (.ref acc) [y] (fun _ H'=>H'=upd (upd H10 acc (.lst ys)) acc (.lst (ys ++ [yv]))) Ja rfl (.cons r10 .nil) ⟨acc,ys,yv,rfl,rfl,Za2,hlt,rfl⟩) fun _ s11 ⟨_,H11,I11,_,e11⟩=>?_;rw [Zdx] at e11;subst e11;obtain ⟨hz11,its',kk',hv11,ho11⟩:=I11.hok acc _ Za2;have Jd:=ZLa I11 fA;have st11:tn (i + 1) s11.heap:=T.keep _ _ _ st7 fun b hb o e=>(Jd.pin (b,o) (List.mem_append_right _ (Ze8 hb e))).1;exact ⟨m',hm,i + 1,some u1,some u2,ys ++ [yv],its',kk',H10,nopin Jd,st11,t2,t3,hv11,hz11,ho11,w10⟩
 exact codeAny_compStart_list loop (T.self X.A 0 _ _ _ (T.keep _ _ _ st2 (fun b _ o e=>k34 _ _ (k23 _ _ e))) loop)
end G
namespace G
open PySem L2 PySem.Spec PyProof.Rows
theorem ZM1 {X:Cx}{iz:Nat}{z:Str}{pz posA:Pos}{elt iter:Expr}{x:Str}{px pos:Pos}{ifs:List Expr}{scope:Scope}{cl:List (Str×Addr)}{wi:TI}{tc:TT}{te:TE}{cns:List Str} (caps:List Nat)
  (hi:PI X (.Name x px) iter wi)
  (hf:∀ C s H ex pn,PF (cxLC X scope cl (x :: cns) C s H ex pn) ifs tc) (he:∀ C s H ex pn,PE (cxLC X scope cl (x :: cns) C s H ex pn) elt te) (hc:X.calm=true)
  (hclos:closureFor scope X.env=pure cl) (hcl:AllIn X.env.cells cl) (hcap:Zwf X cns caps)
  (hkind:scope.kind=.function) (hcell:(scope.names.all fun p=>p.2 != .cell)=true) (hfree:(scope.names.all fun p=>p.2 != .free || (cl.lookup p.1).isSome)=true)
  (hcf:(cns.all fun y=>scope.names.lookup y == some .free)=true) (hnames:∀ y∈scope.names,y.2=.local→scope.names.lookup y.1=some .local) (hx:scope.names.lookup x=some .local) (hnd:(x :: cns).Nodup)
  (hN:X.N.Nodup) (hiz:X.N[iz]? =some z) (hz:Loc X.env.scope z) (hfz:X.fn z=true∨X.env.scope.names.lookup z=some .local)
  (hsw:swapsWithSole [.Name z pz] (.ListComp elt [⟨.Name x px,iter,ifs,0⟩] scope pos) posA.line X.env=pure true) (hs:∀ v,foldedSetIterable iter X.env v=pure v:=by intro _;rfl):
  PS X (.Assign [.Name z pz] (.ListComp elt [⟨.Name x px,iter,ifs,0⟩] scope pos) posA) (tAsg (tLC wi caps tc te) (Zam iz)):=by
 intro pins s σ H D I h;generalize hQ:(fun v H1=>Zam iz v σ H1 D.nx)=Q;have h:tLC wi caps tc te σ H Q:=hQ ▸ h;rw [exec_Assign_arm];refine wpAny_bind (wpAny_standAt ?_);rw [hsw];refine wpAny_bind (wpAny_pure ?_);rw [if_pos rfl];refine wpAny_bind ?_;rw [evalThenUse]
 suffices key:wpAny (model X.prog X.w) X.A (comprehension (.ListComp elt [⟨.Name x px,iter,ifs,0⟩] scope pos) scope X.env (firstIterPos [⟨.Name x px,iter,ifs,0⟩] pos) (newList []) (firstAsync [⟨.Name x px,iter,ifs,0⟩]) (firstIter [⟨.Name x px,iter,ifs,0⟩] X.env) (some fun v=>assignAll v ((assignEach [.Name z pz] X.env).map (·.2)))) (fun _ s'=>SP X pins D .next s') X.xe s from
  wpAny_bind (wpAny_mono key (fun _ s' h=>wpAny_pure (wpAny_pure h)) fun _ _ h=>h)
 refine wpAny_comprehension_free rfl hs hclos hkind hnames (thn (hi pins s σ H _ I h) fun xv s1 h1=>thn h1 fun itv s2 h2=>?_);obtain ⟨it,fp,tn,J,H2,rfl,I2,T,st2,f2,W,⟨m0,w0⟩,turn⟩:=h2;have hne:∀ y∈scope.names,y.2≠.cell:=fun y hy e=>by
  have:=List.all_eq_true.mp hcell y hy;rw [e] at this;simp at this
 refine wpAny_newObj_type (wpAny_newFunctionEnv hne (by intro y hy;simp at hy) (fun h₁ hns₁ hsb₁=>?_) hkind);dsimp only at hns₁ hsb₁ ⊢;generalize hacc:s2.heap.objs.size=acc;generalize hH3:s2.heap.push { cls:=.type "list",dict:=none,data:=.seq ([]:List Value).toArray }=h3 at hns₁ hsb₁ ⊢;have hC:h3.objs.size=acc + 1:=by rw [← hH3,Heap.size_push,hacc]
 have k23:∀ b o,s2.heap.get? b=some o→h3.get? b=some o:=fun b o e=>hH3 ▸ Heap.get?_push_of_some _ e;have k34:∀ b o,h3.get? b=some o→h₁.get? b=some o:=fun b o e=>hsb₁.extBut b o (Nat.ne_of_lt (Heap.lt_size e)) (Heap.get?_push_of_some _ e);have oacc:h3.get? acc=some { cls:=.type "list",dict:=none,data:=.seq ([]:List Value).toArray }:=by
  rw [← hH3,← hacc];exact Heap.get?_push_size _ rfl
 have I3:Inv X pins σ H2 { s2 with heap:=h3 }:=I2.kept (t':=s2.toks) k23;have facc:FpOk X pins H2 acc:=I2.fpOk (Nat.le_of_eq hacc) (I2.hok.fresh (Nat.le_of_eq hacc));have fpl:∀ b∈fp,b < acc:=fun b hb=>by
  obtain ⟨o,e,_⟩:=T.obj _ _ st2 b hb;rw [← hacc];exact Heap.lt_size e
 have exok:∀ b∈acc :: fp,FpOk X pins H2 b:=fun b hb=>(List.mem_cons.mp hb).elim (fun e=>e ▸ facc) (f2 b);have exC:∀ b∈acc :: fp,b≠h3.objs.size:=fun b hb=>by
  rcases List.mem_cons.mp hb with e | hb
  ·rw [hC,e];exact Nat.ne_of_lt (Nat.lt_succ_self _)
  ·rw [hC];exact Nat.ne_of_lt (Nat.lt_succ_of_lt (fpl b hb))
 have stk_no:∀ b∈acc :: fp,b∉frs X.stack:=fun b hb hm=>by
  obtain ⟨_,g1,g2,_⟩:=exok b hb;exact (List.mem_cons.mp (I2.stkSub b hm)).elim g1 g2
 let Y:Cx:=cxLC X scope cl (x :: cns) h3.objs.size { s2 with heap:=h3 } H2 (acc :: fp) (X.pn ++ pins)
 have cellsOf:∀ y c,cl.lookup y=some c→X.env.cells.lookup y=some c:=fun y c e=>hcl.get e;have kindY:∀ y k,Y.env.kindOf y=some k→(k=.cell∨k=.free)→∃ c,cl.lookup y=some c:=fun y k e hk=>by
  have e0:(scope.names.lookup y).map (relK X.env y)=some k:=Ze1.symm.trans e;obtain ⟨k0,e1,e2⟩:=Option.map_eq_some_iff.mp e0;have e3:=lookup_all hfree e1;have e4:=lookup_all hcell e1
  by_cases hf:k0=.free
  ·subst hf;rw [Bool.or_eq_true] at e3;rcases e3 with e3 | e3
   ·exact absurd rfl (bne_iff_ne.mp e3)
   ·exact Option.isSome_iff_exists.mp e3
  ·exfalso
   have e5:relK X.env y k0=k0:=by
    unfold relK;rw [if_neg];intro z;rw [Bool.and_eq_true,Bool.and_eq_true] at z;exact hf (beq_iff_eq.mp z.1.1)
   rw [e5] at e2;subst e2;rcases hk with rfl | rfl
   ·simp at e4
   ·exact hf rfl
 have okY:Y.Ok:={
  mod:=I2.ok.mod
  kind:=hkind
  glob:=I2.ok.glob
  blt:=I2.ok.blt
  above:=Nat.le_refl _
  inj:=fun a b c e1 e2=>I2.ok.inj a b c (cellsOf _ _ e1) (cellsOf _ _ e2)
  has:=fun y hy=>hy.elim (fun e=>kindY y _ e (.inl rfl)) (fun e=>kindY y _ e (.inr rfl))
  cab:=fun y c e=>nomatch e
  hd:=I2.ok.hd
  frames:=I2.ok.frames
  stk:=.inl rfl
  exf:=fun b hb=>⟨exC b hb,fun y c e=>(exok b hb).2.2.2.2.1 y c (cellsOf _ _ e)⟩
  bs:=fun b o e=>⟨k23 b o (I2.bs b o e).1,(I2.bs b o e).2⟩
  bsz:=by
   show X.base.objs.size≤h3.objs.size;rw [hC,← hacc];exact Nat.le_succ_of_le (Nat.le_trans I2.ok.bsz I2.sz)
  noex:=fun b o e hb=>by
   rcases (exok b hb).2.2.2.1 with z | z
   ·exact I2.ok.noex b o e z
   ·exact absurd (Nat.lt_of_lt_of_le (Heap.lt_size e) (Nat.le_trans I2.ok.bsz z)) (Nat.lt_irrefl _)
  exfs:=stk_no
  funs:=I3.stack
  frf:=I3.stkFree }
 have lenN:(none :: caps.map (pick σ):L2.St).length=(x :: cns).length:=by rw [List.length_cons,List.length_cons,List.length_map,hcap.len]
 have I4:Inv Y [] (none :: caps.map (pick σ)) H2 { s2 with heap:=h₁,toks:=s2.toks + ([]:List (Str×Value)).length }:={
  ok:=okY
  os:=rfl
  bare:=I2.bare
  base:=Un.kept k34
  loc:=by
   refine ⟨_,hns₁,fun i y v e1 e2 e3=>?_⟩;cases i with
   | zero=>simp at e2
   | succ i=>
    obtain ⟨j,j1,j2,j3⟩:=hcap.get (σ:=σ) (i:=i) (x:=y) (v:=v) (by have e1':(x :: cns)[i + 1]? =some y:=e1;simpa using e1') (by simpa using e2);obtain ⟨m,hn,hl⟩:=I2.loc;obtain ⟨u,r,l⟩:=hl j y v j1 j3 (.inr (.inl j2));rcases l with ⟨l,_⟩ | ⟨_,c,l1,l2⟩
    ·rw [j2] at l;cases l
    ·refine ⟨u,r,.inr ?_⟩;rcases e3 with e3 | e3 | e3
     ·exfalso
      have hm:y∈cns:=List.mem_of_getElem? (show cns[i]? =some y by have e1':(x :: cns)[i + 1]? =some y:=e1;simpa using e1');have hl:scope.names.lookup y=some .free:=beq_iff_eq.mp (List.all_eq_true.mp hcf y hm);have e0:(scope.names.lookup y).map (relK X.env y)=some .local:=Ze1.symm.trans e3;rw [hl] at e0;have e5:relK X.env y .free=.local:=Option.some.inj e0;unfold relK at e5;split at e5<;>cases e5
     ·obtain ⟨c',hc'⟩:=kindY y _ e3 (.inl rfl);have:=cellsOf _ _ hc';rw [l1] at this;cases this;exact ⟨.inl e3,c,hc',l2.keeps fun b o e=>k34 _ _ (k23 _ _ e)⟩
     ·obtain ⟨c',hc'⟩:=kindY y _ e3 (.inr rfl);have:=cellsOf _ _ hc';rw [l1] at this;cases this;exact ⟨.inr e3,c,hc',l2.keeps fun b o e=>k34 _ _ (k23 _ _ e)⟩
  cell:=fun y c e=>by
   obtain ⟨v,z⟩:=I2.cell y c (cellsOf _ _ e);exact ⟨v,z.keeps fun b o e=>k34 _ _ (k23 _ _ e)⟩
  free:=I2.hok.fresh (by rw [hacc];show acc≤h3.objs.size;rw [hC];exact Nat.le_succ _)
  freeC:=fun y c e=>I2.freeC y c (cellsOf _ _ e)
  pin:=fun p hp=>by
   have hp2:p∈(X.pn ++ pins) ++ []:=hp;have hp':p∈X.pn ++ pins:=by rw [List.append_nil] at hp2;exact hp2
   obtain ⟨p1,p2,p3,p4,p5⟩:=I2.pin p hp';refine ⟨k34 _ _ (k23 _ _ p1),p2,?_,fun hm=>(List.mem_cons.mp (I2.stkSub _ hm)).elim p3 p4,p5⟩;exact Nat.ne_of_lt (by show p.1 < h3.objs.size;exact Heap.lt_size (k23 _ _ p1))
  hok:=I2.hok.kept fun b u e=>k34 _ _ (k23 _ _ e)
  len:=lenN }
 have fpY:∀ {H':Hp}{pl:List (Addr×Obj)}{b:Addr},b∈acc :: fp→H' b=none→(∀ p∈pl,p.1≠b)→FpOk Y pl H' b:=fun {H' pl b} hb hn hp=>
  ⟨hn,exC b hb,stk_no b hb,.inl hb,fun y c e=>(exok b hb).2.2.2.2.1 y c (cellsOf _ _ e),fun p hm=>(List.mem_append.mp hm).elim (fun z=>(exok b hb).2.2.2.2.2 p z) (hp p)⟩
 have fin:∀ {σ':L2.St}{H':Hp}{s':Shared}{ys:List V}{its:List Value}{kk:Nat}{pl:List (Addr×Obj)},Inv Y pl σ' H' s'→H' acc=none→Vals ys its→ys.length≤sizeLine→
   s'.heap.get? acc=some { cls:=.type "list",data:=.seq its.toArray kk }→(∀ p,H' p=none→Q (.ref p) (upd H' p (.lst ys)))→
   ∀ h',Heap.SameBut h3.objs.size s'.heap h'→EP X pins σ (fun v Hf=>Q v Hf∧Hf h3.objs.size=none) (.ref acc) { s' with heap:=h' }:=fun {σ' H' s' ys its kk pl} J ha hv hz ho hq h' hs'=>by
  have hacC:acc≠h3.objs.size:=exC acc (List.mem_cons_self);have keepC:∀ b o,b≠h3.objs.size→s'.heap.get? b=some o→h'.get? b=some o:=fun b o hb e=>hs'.extBut b o hb e;have ltC:∀ b o,s2.heap.get? b=some o→b≠h3.objs.size:=fun b o e=>Nat.ne_of_lt (Heap.lt_size (k23 b o e));have hCfree:H' h3.objs.size=none:=J.free;have un:Un (frs X.stack) (acc :: fp) H2 H' s2.heap h':={
   keep:=fun b o e n hb hx=>keepC b o (ltC b o e) (J.base.keep b o (k23 b o e) n hb hx)
   slot:=fun b o e n hb hx=>by
    obtain ⟨sl,q⟩:=J.base.slot b o (k23 b o e) n hb hx;exact ⟨sl,keepC b _ (ltC b o e) q⟩
   free:=fun b o e n hx=>J.base.free b o (k23 b o e) n hx
   there:=fun b o e hx=>by
    obtain ⟨o',q⟩:=J.base.there b o (k23 b o e) hx;exact ⟨o',keepC b o' (ltC b o e) q⟩
   tups:=J.base.tups
   frzs:=J.base.frzs
   tbls:=J.base.tbls }
  have hok:HOk X.prog X.w H' h':=fun b u e=>by
   refine (J.hok b u e).stay (fun c v hc q=>keepC c v ?_ q) (fun _ q=>q) fun _ _ q=>q;rintro rfl;rcases hc with rfl | hc
   ·rw [hCfree] at e;cases e
   ·rw [hCfree] at hc;cases hc
  have I5:Inv X pins σ H' { s' with heap:=h' }:=I2.call' (ch:=acc :: fp) J.os un hok J.bare fun b hb=>by
   obtain ⟨g0,g1,g2,g3,g4,g5⟩:=exok b hb;exact ⟨g3,g1,g4,g5⟩
  refine ⟨.ref acc,_,adopt (acc:=acc) I5 ?_ (keepC _ _ hacC ho) hv hz,rfl,hq acc ha,by rw [Za9 hacC.symm];exact hCfree⟩;obtain ⟨g0,g1,g2,g3,g4,g5⟩:=facc;exact ⟨ha,g1,g2,g3,g4,g5⟩
 have loop:codeAny (model X.prog X.w) X.A (.compLoop (.ListComp elt [⟨.Name x px,iter,ifs,0⟩] scope pos) 0 (.ref it) (.ref acc) Y.env) (compPost (model X.prog X.w) X.A X.xe (some fun v=>assignAll v ((assignEach [.Name z pz] X.env).map (·.2))) (fun _ s'=>SP X pins D .next s') (.ref acc) h3.objs.size)
   { s2 with heap:=h₁,toks:=s2.toks + ([]:List (Str×Value)).length }:=by
  refine Zov (fun n s'=>∃ (i:Nat) (v:Option V) (ys:List V) (its:List Value) (kk:Nat) (H':Hp),Inv Y [] (v :: caps.map (pick σ)) H' s'∧tn i s'.heap∧(∀ b∈fp,H' b=none)∧H' acc=none∧Vals ys its∧ys.length≤sizeLine∧
   s'.heap.get? acc=some { cls:=.type "list",data:=.seq its.toArray kk }∧W i n ys H') ?_ m0 ⟨0,none,[],[],0,H2,I4,T.keep _ _ _ st2 (fun b _ o e=>k34 _ _ (k23 _ _ e)),fun b hb=>(f2 b hb).1,facc.1,.nil,Nat.zero_le _,k34 _ _ oacc,w0⟩
  rintro n s5 ⟨i,v,ys,its,kk,H5,I5,st5,fr5,ha5,hv5,hz5,ho5,w5⟩;have pinA:Inv Y [(acc,{ cls:=.type "list",data:=.seq its.toArray kk })] (v :: caps.map (pick σ)) H5 s5:=I5.pins_of fun p hp=>by
   have e:p=(acc,{ cls:=.type "list",data:=.seq its.toArray kk }):=by simpa using hp
   subst e;exact ⟨ho5,ha5,exC acc List.mem_cons_self,stk_no acc List.mem_cons_self,fun v=>by intro z;cases z⟩
  have fpA:∀ {H':Hp},(∀ b∈fp,H' b=none)→∀ b∈fp,FpOk Y [(acc,{ cls:=.type "list",data:=.seq its.toArray kk })] H' b:=fun hn b hb=>fpY (List.mem_cons_of_mem _ hb) (hn b hb) fun p hp=>by
   have e:p=(acc,{ cls:=.type "list",data:=.seq its.toArray kk }):=by simpa using hp
   subst e;exact (Nat.ne_of_lt (fpl b hb)).symm
  rcases turn i n ys H5 w5 with ⟨stop,qn⟩ | ⟨go,hlt,step⟩
  ·refine thn (T.done Y rfl rfl rfl hc i _ s5 _ H5 (fun _ _=>False) pinA (fpA fr5) st5 stop) fun r s6 ⟨hr,I6⟩=>?_;subst hr;obtain ⟨m,hm,_⟩:=I6.loc;have ho6:=(I6.pin (acc,{ cls:=.type "list",data:=.seq its.toArray kk }) (List.mem_append_right _ List.mem_cons_self)).1;obtain ⟨v,Hf,If,rf,qf,hfC⟩:=fin I6 ha5 hv5 hz5 ho6 qn s6.heap (Heap.SameBut.refl _ _);have fC:FpOk X pins Hf h3.objs.size:=I2.fpOk (by rw [hC,hacc];exact Nat.le_succ _) hfC;obtain ⟨oC,esC,epC,gC,dC,kC,nC⟩:=hm;have Ip:Inv X (pins ++ [(h3.objs.size,oC)]) σ Hf s6:=Inv.pins_of If fun p hp=>by
    rcases List.mem_append.mp hp with hp | hp
    ·exact If.pin p (List.mem_append_right _ hp)
    ·rw [List.mem_singleton.mp hp];exact ⟨gC,fC.1,fC.2.1,fC.2.2.1,fun v z=>by rw [dC] at z;cases z⟩
   show wpAny _ _ (assign (.Name z pz) X.env (.ref acc)) _ _ _;refine wpAny_assign_Name (Zx0 Ip hN hiz hz rf (fun s7 I7=>?_) hfz);have g7:=(I7.pin (h3.objs.size,oC) (List.mem_append_right _ (List.mem_append_right _ List.mem_cons_self))).1;refine ⟨m,⟨oC,esC,epC,g7,dC,kC,nC⟩,fun h' hs'=>?_⟩;have I8:=I7.unpinned;have qf:D.nx (σ.set iz (some v)) Hf:=by rw [← hQ] at qf;exact qf
   have kb:∀ b o,b≠h3.objs.size→s7.heap.get? b=some o→h'.get? b=some o:=fun b o hb e=>hs'.extBut b o hb e;refine ⟨_,Hf,I8.step (ch:=[h3.objs.size]) (fun b hb=>?_) (fun b o _ _ hb e _=>kb b o (fun z=>hb (by rw [z];exact List.mem_cons_self)) e) (fun b o _ _ hb e _=>⟨o.slots,kb b o (fun z=>hb (by rw [z];exact List.mem_cons_self)) e⟩) (fun _ _ _ _ h=>h) (fun b o hb e=>⟨o,kb b o (fun z=>hb (by rw [z];exact List.mem_cons_self)) e⟩) (fun _ _ h=>h) (fun _ _ _ h=>h) (fun _ ps h=>⟨#[],by simpa using h⟩) (fun m' hm'=>?_) (fun b u e=>?_) I8.bare,qf⟩
   ·rw [List.mem_singleton.mp hb];exact ⟨fC.2.2.2.1,fC.2.1,fC.2.2.2.2.1,fC.2.2.2.2.2⟩
   ·obtain ⟨o',e1,e2,e3,e4,e5⟩:=hm';exact ⟨o',e1,e2,kb _ _ fC.2.1.symm e3,e4,e5⟩
   ·refine (I8.hok b u e).stay (fun c w' hc q=>kb c w' ?_ q) (fun _ q=>q) fun _ _ q=>q;rintro rfl;rcases hc with rfl | hc
    ·rw [hfC] at e;cases e
    ·rw [hfC] at hc;cases hc
  ·refine thn (T.item Y rfl rfl rfl hc i _ s5 _ H5 (fun _ _=>False) pinA (fpA fr5) st5 go) fun r s6 ⟨u,hr,h6⟩=>?_;subst hr;refine thn h6 fun _ s7 ⟨z,H7,I7,r7,y7,st7,fr7⟩=>?_;have I7':=I7.pinned (fpA fr7) (T.obj _ _ st7);have pg:PG Y (.Name x px) (Zam 0):=Zff hnd rfl (.inl (lookup_relabel_local hx)) (.inr (lookup_relabel_local hx));refine thn (pg _ s7 _ H7 z u (fun σ2 H2'=>σ2=some z :: caps.map (pick σ)∧H2'=H7) I7' r7 ⟨rfl,rfl⟩) fun _ s8 ⟨σ8,H8,I8,e8,e8'⟩=>?_;subst e8 e8';refine thn (hf _ _ _ _ _ _ s8 _ H8 _ I8 (step z H8 y7)) fun ok s9 ⟨H9,I9,q9⟩=>?_;have stat:∀ {H':Hp}{s':Shared}{σ':L2.St},Inv Y ([(acc,{ cls:=.type "list",data:=.seq its.toArray kk })] ++ Zjq fp s7.heap) σ' H' s'→tn (i + 1) s'.heap∧(∀ b∈fp,H' b=none)∧H' acc=none∧s'.heap.get? acc=some { cls:=.type "list",data:=.seq its.toArray kk }:=fun {H' s' σ'} J=>by
    have pa:=J.pin (acc,{ cls:=.type "list",data:=.seq its.toArray kk }) (List.mem_append_right _ (List.mem_append_left _ List.mem_cons_self));refine ⟨T.keep _ _ _ st7 fun b hb o e=>(J.pin (b,o) (List.mem_append_right _ (List.mem_append_right _ (Ze8 hb e)))).1,fun b hb=>?_,pa.2.1,pa.1⟩;obtain ⟨o,e,d⟩:=T.obj _ _ st7 b hb;exact (J.pin (b,o) (List.mem_append_right _ (List.mem_append_right _ (Ze8 hb e)))).2.1
   have nopin:∀ {H':Hp}{s':Shared}{σ':L2.St}{pl:List (Addr×Obj)},Inv Y pl σ' H' s'→Inv Y [] σ' H' s':=fun J=>J.pins_of fun p hp=>nomatch hp;cases ok with
   | false=>
    obtain ⟨m',hm,w9⟩:=q9;obtain ⟨t1,t2,t3,t4⟩:=stat I9;exact ⟨m',hm,i + 1,some z,ys,its,kk,H9,nopin I9,t1,t2,t3,hv5,hz5,t4,w9⟩
   | true=>
    show wpAny _ _ (eval elt Y.env) _ _ s9;refine thn (he _ _ _ _ _ _ s9 _ H9 _ I9 q9) fun y s10 ⟨yv,H10,I10,r10,m',hm,w10⟩=>?_;obtain ⟨t1,t2,t3,t4⟩:=stat I10;have I10':Inv Y (Zjq fp s7.heap) (some z :: caps.map (pick σ)) H10 s10:=I10.pins_of fun p hp=>I10.pin p (List.mem_append_right _ (List.mem_append_right _ hp));have fA:FpOk Y (Zjq fp s7.heap) H10 acc:=fpY List.mem_cons_self t3 fun p hp=>Nat.ne_of_lt (fpl _ (Zpo hp).1);have Ja:=adopt I10' fA t4 hv5 hz5;refine thn (Zg4 (X:=Y) _ s10 _ _ (.ref acc) [yv] (.ref acc) [y] (fun _ H'=>H'=upd (upd H10 acc (.lst ys)) acc (.lst (ys ++ [yv]))) Ja rfl (.cons r10 .nil) ⟨acc,ys,yv,rfl,rfl,Za2,hlt,rfl⟩) fun _ s11 ⟨_,H11,I11,_,e11⟩=>?_;rw [Zdx] at e11;subst e11;obtain ⟨hz11,its',kk',hv11,ho11⟩:=I11.hok acc _ Za2;have Jd:=ZLa I11 fA;have st11:tn (i + 1) s11.heap:=T.keep _ _ _ st7 fun b hb o e=>(Jd.pin (b,o) (List.mem_append_right _ (Ze8 hb e))).1;exact ⟨m',hm,i + 1,some z,ys ++ [yv],its',kk',H10,nopin Jd,st11,t2,t3,hv11,hz11,ho11,w10⟩
 exact codeAny_compStart_list loop (T.self X.A 0 _ _ _ (T.keep _ _ _ st2 (fun b _ o e=>k34 _ _ (k23 _ _ e))) loop)
end G
namespace G
open PySem L2 PySem.Spec PyProof.Rows
def Zwv (ns:List Int):Prop:=∀ i∈ns,Builtin.Int.intBits i≤2 ^ 20
theorem ZN6 {i:Int} (h:(PySem.W.WData.int i).layable=true):Builtin.Int.intBits i≤2 ^ 20:=by
 unfold PySem.W.WData.layable at h;simp only [Bool.and_eq_true,decide_eq_true_eq] at h;have:=h.2;simp [PySem.W.WData.weight] at this;unfold Builtin.Int.intBits;simpa using this
theorem ZLq {l:PySem.W.OpenLaw}{n k:Nat}{q:Program}{loose:List Str}{XP:(Str→Option Value)→Heap→Prop}{YP:World→Heap→Prop}{d:DefRec}{K:Params→PySem.W.Frag}{CX:World→CXT}{sp:World→Sp}{x:Str}
  (hn:l.most=some n) (hn2:n≤sizeLine) (hdf:d.params.defaults=[]) (hr:Room k callerA)
  (hY:∀ (w:World) (h:Heap),YP w h→(K w.params).In h)
  (F:∀ (w:World) (mg:Str→Option Value) (fa:Addr) (h:Heap),(K w.params).In h→h.Ns mainGlobals mg→mg d.name=some (.ref fa)→
   ∃ fd:FuncData,(∀ (s:Shared) (u:Value),BindsTo s fd ⟨[u],[]⟩ [(x,u)])∧
    ∀ base:Heap,(K w.params).In base→base.Ns mainGlobals mg→FnOk l.prog w (K w.params) mg base (CX w) k fa fd [x] (sp w))
  (hsp:∀ (w:World) (H:Hp) (a:Addr) (ns:List Int),ns.length≤n→Only H→SqL (K w.params) H a (ns.map V.int)→Zwv ns→sp w [.ref a] H (fun v _=>v=.bl true) fun _ _ _=>False)
  (hCX:∀ (w:World) (H:Hp) (s:Shared) (e:Value) (s':Shared),CX w [] H s (fun _ _ _=>False) e s'→False):
  PySem.W.WalkO q loose XP YP l.row.toRowW d [] (fun f vs=>PySem.call f vs):=by
 intro w s₀ s₁ mg mb G Y fa o pm cd doc dV kV ho hd hcd hD hmg hg args vals as hpre hlay hrd hwl hlo;obtain rfl:dV=.none:=PySem.W.Dflts.none hD hdf;obtain rfl:kV=.none:=PySem.W.Dflts.noKw hD;obtain ⟨a,vs,ns,rfl,rfl,hobj,hints,hlen⟩:=Att.ZJh hn hpre hwl;have hb:Zwv ns:=fun i hi=>by
  unfold PySem.W.WData.layableAll at hlay;rw [List.all_cons,Bool.and_eq_true] at hlay;exact ZN6 (PySem.W.layableW_item hlay.1 _ (List.mem_map.mpr ⟨i,hi,rfl⟩))
 have KX:=hY w _ Y;obtain ⟨fd,hbd,hF⟩:=F w mg fa _ KX G.T.g hmg;refine PySem.W.enter_call (codeAny_mono (ZMi KX G.T.g G.T.b G.T.builtins G.T.nolimit hg hobj hints (Nat.le_trans hlen hn2) hr hF hbd (fun H hO hS=>hsp w H a ns hlen hO hS hb) fun H e s'=>hCX w H s₁ e s') fun r s' hq=>?_);obtain ⟨rfl,h2,h3,h4⟩:=hq;exact ⟨.inl ⟨.bool true,.bool true,[],rfl,fun _=>rfl,.bool true,Att.ZJu l _,fun _=>⟨List.Pairwise.nil,fun _ hm=>(nomatch hm)⟩⟩,h2,h3,h4⟩
theorem ZE1 {X:Cx}:OpR X (binaryOp .Mult) (rI IntMulOk fun i j=>.int (i * j)):=opI fun _ _ _ _ _ _ _ hc q=>mul_int q hc
theorem mulW {c:Int} (k:Int) (h:Builtin.Int.intBits c≤2 ^ 20) (hk:Builtin.Int.intBits k≤2 ^ 20):IntMulOk c k:=IntMulOk.of_bits h hk
end G
namespace G
open PySem L2
def Itd (a:Addr) (o:Obj) (kvs:List (Key×V)):It:=
 ⟨fun i H=>H a=some (.frz o (.dK kvs))∧i < kvs.length,fun i H x H'=>H'=H∧∃ kv,kvs[i]? =some kv∧x=kV kv.1,fun i H=>H a=some (.frz o (.dK kvs))∧kvs.length≤i⟩
def ZPe (td:TE):TI:=fun σ H R=>td σ H fun x H1=>∃ a kvs,x=.ref a∧H1 a=some (.dK kvs)∧∀ o,R (Itd a o kvs) (upd H1 a (.frz o (.dK kvs)))
theorem i_iD {td:TE}{σ:L2.St}{H:Hp}{R:It→Hp→Prop} (h:td σ H fun x H1=>∃ a kvs,x=.ref a∧H1 a=some (.dK kvs)∧∀ o,R (Itd a o kvs) (upd H1 a (.frz o (.dK kvs)))):ZPe td σ H R:=h
section
variable {K:PySem.W.Frag}{a:Addr}{g:TG}{tb:TS}{σ:L2.St}{H:Hp}{n:L2.St→Hp→Prop}{r:VK}
theorem forD {o:Obj} (kvs:List (Key×V)) (Pv:Nat→L2.St→Hp→Prop) (h0:Pv 0 σ H) (hl:∀ i σ H,i≤kvs.length→Pv i σ H→H a=some (.frz o (.dK kvs)))
  (hs:∀ i kv σ H,kvs[i]? =some kv→Pv i σ H→g (kV kv.1) σ H fun σ2 H2=>tb ⟨Pv (i + 1),r,n,Pv (i + 1)⟩ σ2 H2) (hd:∀ σ H,Pv kvs.length σ H→n σ H):
  ∃ W:Nat→Nat→L2.St→Hp→Prop,(∃ m,W 0 m σ H)∧∀ i m σ H,W i m σ H→
   ((Itd a o kvs).stop i H∧n σ H)∨((Itd a o kvs).go i H∧∃ N:L2.St→Hp→Prop,(∀ σ' H',N σ' H'→∃ m',m' < m∧W (i + 1) m' σ' H')∧∀ x H',(Itd a o kvs).yld i H x H'→g x σ H' fun σ2 H2=>tb ⟨N,r,n,N⟩ σ2 H2):=by
 refine ⟨fun i m σ H=>i≤kvs.length∧m=kvs.length - i∧Pv i σ H,⟨kvs.length,Nat.zero_le _,rfl,h0⟩,?_⟩;rintro i m σ H ⟨hi,rfl,p⟩;have hq:=hl i σ H hi p
 by_cases hk:i=kvs.length
 ·subst hk;exact .inl ⟨⟨hq,Nat.le_refl _⟩,hd σ H p⟩
 ·have hlt:i < kvs.length:=by omega
  refine .inr ⟨⟨hq,hlt⟩,Pv (i + 1),fun σ' H' p'=>⟨kvs.length - (i + 1),by omega,by omega,rfl,p'⟩,?_⟩;rintro x H' ⟨rfl,kv,hv,rfl⟩;exact hs i kv σ H' hv p
end
end G
namespace G
open PySem L2 PySem.Spec PyProof.Rows
end G
namespace G
open PySem L2 PySem.Spec PyProof.Rows
theorem ZRo {X:Cx}{pins:List (Addr×Obj)}{H:Hp}{a b:Addr}{o:HO} (f:FpOk X pins H b) (h:b≠a):FpOk X pins (upd H a o) b:=⟨(Za9 h).trans f.1,f.2⟩
theorem ZS5 {P:Program}{w:World}{k:Key}{u:Value} (h:(Zef P w).is k u=true):RelV (kV k) u:=by
 rcases Ze3 h with ⟨i,t,rfl,rfl⟩ | ⟨x,t,rfl,rfl⟩
 ·exact ⟨t,rfl⟩
 ·exact ⟨t,rfl⟩
theorem ZMu {X:Cx}{pins:List (Addr×Obj)}{σ:L2.St}{H:Hp}{s:Shared}{a:Addr}{o:Obj}{kvs:List (Key×V)} (I:Inv X pins σ H s) (h:H a=some (.dK kvs)) (ho:s.heap.get? a=some o):Inv X pins σ (upd H a (.frz o (.dK kvs))) s:=by
 have ne:∀ b u,H b=some u→u≠.dK kvs→b≠a:=fun b u q n z=>n (by rw [z,h] at q;exact (Option.some.inj q).symm);have r:Inv X pins σ (upd H a (.frz o (.dK kvs))) { s with heap:=s.heap,gens:=s.gens,drawn:=s.drawn,toks:=s.toks }:=by
  refine I.step (g':=s.gens) (t':=s.toks) (d':=s.drawn) (ch:=[]) (fun b hb=>nomatch hb) (fun b u _ _ _ q _=>q) (fun b u _ _ _ q _=>⟨u.slots,q⟩) (fun b u hc q n=>(Za9 (fun z=>by rw [z,h] at n;cases n)).trans n) (fun b u _ q=>⟨u,q⟩)
   (fun b xs q=>(Za9 (ne b _ q (fun z=>by cases z))).trans q) (fun b u xs q=>(Za9 (ne b _ q (fun z=>by cases z))).trans q) (fun b ps q=>⟨#[],by rw [Za9 (ne b _ q (fun z=>by cases z)),q];simp⟩) (fun m hm=>hm) (fun b u q=>?_) I.bare
  have hs:∀ c u,H c=some u→u≠.dK kvs→upd H a (.frz o (.dK kvs)) c=some u:=fun c u z n=>by rw [Za9 (ne c u z n)];exact z
  by_cases hb:b=a
  ·subst hb;rw [Za2] at q;cases q;exact ⟨ho,(I.hok b _ h).stay (fun c v _ z=>z) (fun c z=>hs c _ z (fun y=>by cases y)) fun c xs z=>hs c _ z (fun y=>by cases y)⟩
  ·rw [Za9 hb] at q;exact (I.hok b u q).stay (fun c v _ z=>z) (fun c z=>hs c _ z (fun y=>by cases y)) fun c xs z=>hs c _ z (fun y=>by cases y)
 exact r
theorem ZJ4 {P:Program}{w:World}{K:PySem.W.Frag}{tg:Expr} (a it:Addr) (o:Obj) (kvs:List (Key×V)) (ep:Nat) (hep:∃ es,o.data=.dict es ep):Turn P w K tg (Itd a o kvs) [it] it (fun i h=>h.IsKeyIter it a i kvs.length ep) where
  mem:=by simp
  obj:=fun i h st b hb=>by
    have e:b=it:=by simpa using hb
    subst e;obtain ⟨o,e,c,d⟩:=st;exact ⟨o,e,fun v z=>by rw [d] at z;cases z⟩
  keep:=fun i h h' st k=>st.at fun o e=>k it (by simp) o e
  item:=by
    intro X hP hw hK hc i pins s σ H E I hf st hg;subst hP hw hK;obtain ⟨hz,hi⟩:=hg;obtain ⟨ho,z,hd,vs,rel,dd⟩:s.heap.get? a=some o∧kvs.length≤sizeLine∧(a == sysModules)=false∧∃ vs,KV kvs vs∧s.heap.DictOf (Zef X.prog X.w) a vs:=I.hok a _ hz;obtain ⟨ep',hm⟩:=dd.dictAt;obtain ⟨es,hes⟩:=hep;have he:ep'=ep:=by
      obtain ⟨o',es',ho',_,hd',_⟩:=id hm;rw [ho] at ho';cases ho';rw [hes] at hd';injection hd' with _ e;exact e.symm
    subst he;have hl:=rel.length;have hv:vs[i]? =some vs[i]:=List.getElem?_eq_getElem (by omega);have hv2:kvs[i]? =some kvs[i]:=List.getElem?_eq_getElem hi;have hk:kvs[i].1=vs[i].1:=by
      have e:=rel.keys;have e1:(kvs.map (·.1))[i]? =some kvs[i].1:=by rw [List.getElem?_map,hv2];rfl
      have e2:(vs.map (·.1))[i]? =some vs[i].1:=by rw [List.getElem?_map,hv];rfl
      rw [e,e2] at e1;exact (Option.some.inj e1).symm
    obtain ⟨f0,f1,f2,f3,f4,f5⟩:=hf it (by simp);rw [hl] at st;refine wpAny_pyNext_dict_item st hm (k:=vs[i].1) (v:=vs[i].2) (by rw [hv]) fun key h' hkey st' sb=>?_;have I1:Inv X pins σ H { s with heap:=h' }:=I.turned (t':=s.toks) (fun b o hb e=>(sb.2 b hb).trans e) f0 f1 f3 f4 f5;obtain ⟨oi,e,c,d⟩:=id st';exact ⟨key,rfl,ZPh (s:={ s with heap:=h' }) e c d (by decide) ⟨kV kvs[i].1,H,I1,by rw [hk];exact ZS5 hkey,⟨rfl,_,hv2,rfl⟩,by rw [hl];exact st',fun b hb=>(hf b hb).1⟩⟩
  done:=by
    intro X hP hw hK hc i pins s σ H E I hf st hg;subst hP hw hK;obtain ⟨hz,hi⟩:=hg;obtain ⟨ho,z,hd,vs,rel,dd⟩:s.heap.get? a=some o∧kvs.length≤sizeLine∧(a == sysModules)=false∧∃ vs,KV kvs vs∧s.heap.DictOf (Zef X.prog X.w) a vs:=I.hok a _ hz;obtain ⟨ep',hm⟩:=dd.dictAt;obtain ⟨es,hes⟩:=hep;have he:ep'=ep:=by
      obtain ⟨o',es',ho',_,hd',_⟩:=id hm;rw [ho] at ho';cases ho';rw [hes] at hd';injection hd' with _ e;exact e.symm
    subst he;have hl:=rel.length;obtain ⟨f0,f1,f2,f3,f4,f5⟩:=hf it (by simp);rw [hl] at st;exact wpAny_pyNext_dict_end (I.ok.hd hc) st hm (by rw [List.getElem?_eq_none];omega) fun h' eb=>⟨rfl,I.turned (t':=s.toks) (fun b o hb e=>eb b o hb e) f0 f1 f3 f4 f5⟩
  self:=fun _ _ _ _ _ st h=>wpAny_pyIter_keyiter st h
theorem ZOk {X:Cx}{tg:Expr}{d:Expr}{td:TE} (hd:PE X d td):PI X tg d (ZPe td):=by
 intro pins s σ H R I h;refine thn (hd pins s σ H _ I h) fun v s1 ⟨x,H1,I1,r1,q1⟩=>?_;obtain ⟨a,kvs,e,hq,q⟩:=q1;subst e;obtain rfl:v=Value.ref a:=r1;obtain ⟨z,hs,vs,rel,dd⟩:=ZL8 I1.hok hq;obtain ⟨ep,hm⟩:=dd.dictAt;obtain ⟨o,es,ho,_,hes,_⟩:=id hm;refine wpAny_pyIter_dict hs hm ?_;have I2:=ZMu I1 hq ho;have hne:s1.heap.objs.size≠a:=Nat.ne_of_gt (Heap.lt_size ho);refine ⟨s1.heap.objs.size,[s1.heap.objs.size],_,_,_,rfl,I2.kept (t':=s1.toks) fun b o e=>Heap.get?_push_of_some _ e,ZJ4 a _ o kvs ep ⟨es,hes⟩,?_,fun b hb=>?_,q o⟩
 ·rw [rel.length];exact ⟨_,Heap.get?_push_size _ rfl,rfl,rfl⟩
 ·have e:b=s1.heap.objs.size:=by simpa using hb
  subst e;exact ZRo (I1.fpOk (Nat.le_refl _) (I1.hok.fresh (Nat.le_refl _))) hne
section
variable {X:Cx}{i o:Expr}{ty td:TE}
end
end G
namespace G
open PySem L2 PySem.Spec PyProof.Rows
section
variable {X:Cx}
end
end G
namespace G
open PySem L2 PySem.Spec PyProof.Rows
end G
namespace G
open PySem L2 PySem.Spec PyProof.Rows
def ZO5 (M1 M2 M3 M4:Value→Prop) (tb:(L2.St→XK)→TS) (t1 t2 t3 t4:TS):TS:=fun D σ H=>tb (fun σ' cls _ H'=>(M1 cls∧t1 D σ' H')∨(M2 cls∧t2 D σ' H')∨(M3 cls∧t3 D σ' H')∨(M4 cls∧t4 D σ' H')) D σ H
theorem ZQz {M1 M2 M3 M4:Value→Prop}{tb:(L2.St→XK)→TS}{t1 t2 t3 t4:TS}{σ:L2.St}{H:Hp}{n:L2.St→Hp→Prop}{r:VK}{b c:L2.St→Hp→Prop} (h:tb (fun σ' cls _ H'=>(M1 cls∧t1 ⟨n,r,b,c⟩ σ' H')∨(M2 cls∧t2 ⟨n,r,b,c⟩ σ' H')∨(M3 cls∧t3 ⟨n,r,b,c⟩ σ' H')∨(M4 cls∧t4 ⟨n,r,b,c⟩ σ' H')) ⟨n,r,b,c⟩ σ H):ZO5 M1 M2 M3 M4 tb t1 t2 t3 t4 ⟨n,r,b,c⟩ σ H:=h
section
variable {X:Cx}{x1 x2 x3 x4:Str}{C1 C2 C3 C4:Addr}{pos np1 np2 np3 np4 hp1 hp2 hp3 hp4:Pos}{body su1 su2 su3 su4:List Stmt}{b1 b2 b3 b4:Stmt}{M1 M2 M3 M4:Value→Prop}{tb:(L2.St→XK)→TS}{t1 t2 t3 t4:TS}
theorem ZOi (hst:X.stack=X.env :: X.outer∧X.env.frame=some X.env.locals) (hg1:Gl X x1) (hm1:X.mg x1=some (.ref C1)) (hg2:Gl X x2) (hm2:X.mg x2=some (.ref C2)) (hg3:Gl X x3) (hm3:X.mg x3=some (.ref C3)) (hg4:Gl X x4) (hm4:X.mg x4=some (.ref C4)) (hM1:∀ c,M1 c→PySem.W.exmOne X.K c (.ref C1)=some true) (hM2:∀ c,M2 c→PySem.W.exmOne X.K c (.ref C1)=some false∧PySem.W.exmOne X.K c (.ref C2)=some true) (hM3:∀ c,M3 c→PySem.W.exmOne X.K c (.ref C1)=some false∧PySem.W.exmOne X.K c (.ref C2)=some false∧PySem.W.exmOne X.K c (.ref C3)=some true) (hM4:∀ c,M4 c→PySem.W.exmOne X.K c (.ref C1)=some false∧PySem.W.exmOne X.K c (.ref C2)=some false∧PySem.W.exmOne X.K c (.ref C3)=some false∧PySem.W.exmOne X.K c (.ref C4)=some true)
  (hb:∀ (E:L2.St→XK) (pn:List (Addr×Obj)) (xe:Value→Shared→Prop),ZNa (CXe X.prog X.w) (cxB X pn xe) E→PSs (cxB X pn xe) body (tb E))
  (hs1:∀ (ea:Value) (pn:List (Addr×Obj)),PSs (cxH X ea pn) (b1 :: su1) t1) (hs2:∀ (ea:Value) (pn:List (Addr×Obj)),PSs (cxH X ea pn) (b2 :: su2) t2) (hs3:∀ (ea:Value) (pn:List (Addr×Obj)),PSs (cxH X ea pn) (b3 :: su3) t3) (hs4:∀ (ea:Value) (pn:List (Addr×Obj)),PSs (cxH X ea pn) (b4 :: su4) t4) (hd1:(x1 == ("__debug__":Str))=false:=by decide) (hd2:(x2 == ("__debug__":Str))=false:=by decide) (hd3:(x3 == ("__debug__":Str))=false:=by decide) (hd4:(x4 == ("__debug__":Str))=false:=by decide):
  PS X (.Try body [.ExceptHandler (some (.Name x1 np1)) none (b1 :: su1) hp1,.ExceptHandler (some (.Name x2 np2)) none (b2 :: su2) hp2,.ExceptHandler (some (.Name x3 np3)) none (b3 :: su3) hp3,.ExceptHandler (some (.Name x4 np4)) none (b4 :: su4) hp4] [] [] pos) (ZO5 M1 M2 M3 M4 tb t1 t2 t3 t4):=by
 intro pins s σ H D I h;refine wpAny_Try_except ?_;have hx:ZNa (CXe X.prog X.w) (cxB X (X.pn ++ pins) fun e s'=>∃ σ H s,Inv X pins σ H s∧CXe X.prog X.w X.stack H s (fun cls _ H'=>(M1 cls∧t1 D σ H')∨(M2 cls∧t2 D σ H')∨(M3 cls∧t3 D σ H')∨(M4 cls∧t4 D σ H')) e s') (fun σ' cls _ H'=>(M1 cls∧t1 D σ' H')∨(M2 cls∧t2 D σ' H')∨(M3 cls∧t3 D σ' H')∨(M4 cls∧t4 D σ' H')):=
  fun pl σ H s e s' J z=>⟨σ,H,s,ZBd I.ok J,z⟩
 refine wpAny_mono (hb _ _ _ hx [] s σ H D (ZQ4 I _) h) (fun f s1 q=>?_) fun e s1 q=>?_
 ·have q:=ZQ5 I.ok q;cases f with
  | next=>exact wpAny_execs_nil q
  | ret v=>exact q
  | brk=>exact q
  | cont=>exact q
 ·obtain ⟨σ1,H1,s0,J,ea,cls,a0,B,H2,rfl,os,bare,un,ok,fl,hB,hM⟩:=q;have fl0:=fl;rw [hst.1] at fl0;refine wpAny_looks_onW (hst.1 ▸ J.ok.frames) hst.2 fl0 fun h4 held4 sm4=>?_;refine wpAny_landsW held4 fun h5 fl5 sm5=>?_;have sm25:s1.heap.UpToSlots h5:=sm4.trans sm5;have J5:=flown J os bare un ok fl hB fl5.1 sm25;obtain ⟨ob,hob,hoc⟩:=id fl5.there;have LT:PySem.W.Looks (model X.prog X.w) h5 (typeOf (.ref ea)) cls:=hoc ▸ (PySem.W.Looks.ld hob).andThen .now;rcases hM with ⟨hM,hth⟩ | ⟨hM,hth⟩ | ⟨hM,hth⟩ | ⟨hM,hth⟩
  ·have m1:=hM1 cls hM;refine wpAny_handleBy_cons (codeAny_handlers_test (Zeo (X:=cxH X (.ref ea) (X.pn ++ pins)) (Zil J5 (.ref ea)) hg1 hm1 ?_ hd1)) (by intro z;cases z);refine (PySem.W.exm_one J5.kIn LT m1).here ?_;refine codeAny_handlers_suite ?_;refine lands_againW fl5 fun h6 fl6 sm6=>?_;have J6:=flown J os bare un ok fl hB fl6.1 (sm25.trans sm6);refine wpAny_mono (hs1 (.ref ea) (X.pn ++ pins) [] _ σ1 H2 D (Zil J6 (.ref ea)) hth) (fun f s2 q=>ZFj I.ok q) fun _ _ z=>z.elim
  ·obtain ⟨m1,m2⟩:=hM2 cls hM;refine wpAny_handleBy_cons (codeAny_handlers_test (Zeo (X:=cxH X (.ref ea) (X.pn ++ pins)) (Zil J5 (.ref ea)) hg1 hm1 ?_ hd1)) (by intro z;cases z);refine (PySem.W.exm_one J5.kIn LT m1).here ?_;refine wpAny_handleBy_cons (codeAny_handlers_test (Zeo (X:=cxH X (.ref ea) (X.pn ++ pins)) (Zil J5 (.ref ea)) hg2 hm2 ?_ hd2)) (by intro z;cases z);refine (PySem.W.exm_one J5.kIn LT m2).here ?_;refine codeAny_handlers_suite ?_;refine lands_againW fl5 fun h6 fl6 sm6=>?_;have J6:=flown J os bare un ok fl hB fl6.1 (sm25.trans sm6);refine wpAny_mono (hs2 (.ref ea) (X.pn ++ pins) [] _ σ1 H2 D (Zil J6 (.ref ea)) hth) (fun f s2 q=>ZFj I.ok q) fun _ _ z=>z.elim
  ·obtain ⟨m1,m2,m3⟩:=hM3 cls hM;refine wpAny_handleBy_cons (codeAny_handlers_test (Zeo (X:=cxH X (.ref ea) (X.pn ++ pins)) (Zil J5 (.ref ea)) hg1 hm1 ?_ hd1)) (by intro z;cases z);refine (PySem.W.exm_one J5.kIn LT m1).here ?_;refine wpAny_handleBy_cons (codeAny_handlers_test (Zeo (X:=cxH X (.ref ea) (X.pn ++ pins)) (Zil J5 (.ref ea)) hg2 hm2 ?_ hd2)) (by intro z;cases z);refine (PySem.W.exm_one J5.kIn LT m2).here ?_;refine wpAny_handleBy_cons (codeAny_handlers_test (Zeo (X:=cxH X (.ref ea) (X.pn ++ pins)) (Zil J5 (.ref ea)) hg3 hm3 ?_ hd3)) (by intro z;cases z);refine (PySem.W.exm_one J5.kIn LT m3).here ?_;refine codeAny_handlers_suite ?_;refine lands_againW fl5 fun h6 fl6 sm6=>?_;have J6:=flown J os bare un ok fl hB fl6.1 (sm25.trans sm6);refine wpAny_mono (hs3 (.ref ea) (X.pn ++ pins) [] _ σ1 H2 D (Zil J6 (.ref ea)) hth) (fun f s2 q=>ZFj I.ok q) fun _ _ z=>z.elim
  ·obtain ⟨m1,m2,m3,m4⟩:=hM4 cls hM;refine wpAny_handleBy_cons (codeAny_handlers_test (Zeo (X:=cxH X (.ref ea) (X.pn ++ pins)) (Zil J5 (.ref ea)) hg1 hm1 ?_ hd1)) (by intro z;cases z);refine (PySem.W.exm_one J5.kIn LT m1).here ?_;refine wpAny_handleBy_cons (codeAny_handlers_test (Zeo (X:=cxH X (.ref ea) (X.pn ++ pins)) (Zil J5 (.ref ea)) hg2 hm2 ?_ hd2)) (by intro z;cases z);refine (PySem.W.exm_one J5.kIn LT m2).here ?_;refine wpAny_handleBy_cons (codeAny_handlers_test (Zeo (X:=cxH X (.ref ea) (X.pn ++ pins)) (Zil J5 (.ref ea)) hg3 hm3 ?_ hd3)) (by intro z;cases z);refine (PySem.W.exm_one J5.kIn LT m3).here ?_;refine wpAny_handleBy_cons (codeAny_handlers_test (Zeo (X:=cxH X (.ref ea) (X.pn ++ pins)) (Zil J5 (.ref ea)) hg4 hm4 ?_ hd4)) (by intro z;cases z);refine (PySem.W.exm_one J5.kIn LT m4).here ?_;refine codeAny_handlers_suite ?_;refine lands_againW fl5 fun h6 fl6 sm6=>?_;have J6:=flown J os bare un ok fl hB fl6.1 (sm25.trans sm6);refine wpAny_mono (hs4 (.ref ea) (X.pn ++ pins) [] _ σ1 H2 D (Zil J6 (.ref ea)) hth) (fun f s2 q=>ZFj I.ok q) fun _ _ z=>z.elim
end
end G
namespace G
open PySem L2 PySem.Spec PyProof.Rows
def ZO6 (td ty:TE):TE:=fun σ H Q=>td σ H fun x H1=>∃ a,x=.ref a∧IsD H1 a∧ty σ H1 fun y H2=>∃ b kvs more,y=.ref b∧a≠b∧H2 a=some (.dK kvs)∧H2 b=some (.dK more)∧kvs.length + more.length≤1000∧Q .non (upd H2 a (.dK (Zjr kvs more)))
theorem ZRg {td ty:TE}{σ:L2.St}{H:Hp}{Q:VK} (h:td σ H fun x H1=>∃ a,x=.ref a∧IsD H1 a∧ty σ H1 fun y H2=>∃ b kvs more,y=.ref b∧a≠b∧H2 a=some (.dK kvs)∧H2 b=some (.dK more)∧kvs.length + more.length≤1000∧Q .non (upd H2 a (.dK (Zjr kvs more)))):ZO6 td ty σ H Q:=h
theorem ZOm {X:Cx}{o e:Expr}{apos cpos:Pos}{td ty:TE} (ho:PE X o td) (he:PE X e ty) (m:M1 X o "update" apos e cpos):PE X (.Call (.Attribute o "update" apos) [e] [] cpos) (ZO6 td ty):=by
 intro pins s σ H Q I h;refine wpAny_Call_method m.base m.few m.line PySem.F.plainAttrs_dict PySem.F.slot_dict_update PySem.F.type_dict_update (thn (ho pins s σ H _ I h) fun u s1 ⟨x,H1,I1,rx,a,ex,d,q1⟩=>?_);subst ex;obtain rfl:u=Value.ref a:=rx;obtain ⟨t1,t2,_⟩:=ZQx I1 d;refine ⟨t1,t2,?_⟩;rw [m.trees];refine Calls.callWith_builtin rfl (Calls.evalArgs_plain (Calls.spliced_cons (thn (he pins s1 σ H1 _ I1 q1) fun iv s2 ⟨y,H2,I2,ry,b,kvs,more,ey,ne,ea,eb,hz,q2⟩=>Calls.spliced_nil ?_)));subst ey;obtain rfl:iv=Value.ref b:=ry;obtain ⟨z1,hd1,vs1,r1,dd1⟩:=ZL8 I2.hok ea;obtain ⟨z2,hd2,vs2,r2,dd2⟩:=ZL8 I2.hok eb;refine call_meetsIn PySem.F.slot_dict_update dd1.typeIs PySem.F.entry_dict_update (PySem.F.args_dict_update_2 _ _) (meets_dict_update (Zef X.prog X.w) a b ne hd2) ⟨vs1,vs2,dd1,dd2,?_,fun h' d1' d2' hs=>?_⟩
 ·have e1:=r1.length;have e2:=r2.length;rw [sizeLine_eq];omega
 have hz':(Zjr kvs more).length≤sizeLine:=by
  have h1:=Zkv more kvs;rw [sizeLine_eq];omega
 have hn:∃ q,h'.get? a=some q:=let ⟨q,_,_,hq,_⟩:=d1';⟨q,hq⟩
 exact ⟨.non,_,Zz6 I2 (by rw [ea];exact True.intro) hs hn (ZL9 hz' hd1 (r2.merge r1) d1'),rfl,q2⟩
end G
local macro_rules | `(tactic| walk_at "g2")=>`(tactic| with_reducible first | refine G.ZNs ?_ | refine G.ZRh ?_ | refine G.ZSc ?_ | refine G.i_if ?_ | refine G.ZRm ?_ | refine G.i_C ?_ | refine G.i_op ?_ | refine G.i_un ?_ | refine G.i_B ?_ | refine G.ZR0 ?_ | refine G.i_tB ?_ | refine G.ZSt ?_ | refine G.i_or ?_ | refine G.ZSd ?_ | refine G.ZRn ?_ | refine G.ZR5 ?_ | refine G.ZSk ?_ | refine G.i_I0 ?_ | refine G.i_U ?_ | refine G.ZSs ?_ | refine G.ZSr ?_ | refine G.ZSg ?_ | refine G.ZSf ?_ | refine G.ZRe ?_ | refine G.ZRd ?_ | refine G.ZRc ?_ | refine G.ZRb ?_ | refine G.ZRa ?_ | refine G.ZP7 ?_ | refine G.ZP6 ?_ | refine G.ZKq ?_ | refine G.Zs5 ?_ | refine G.ZPa ?_ | refine G.ZPb ?_ | refine G.ZSe ?_ | refine G.ZRk ?_ | refine G.ZSh ?_ | refine G.ZSa ?_ | refine G.ZRl ?_ | refine G.i_CB ?_ | refine G.ZR8 ?_ | refine G.ZSq ?_ | refine G.ZR2 ?_ | refine G.ZR7 ?_ | refine G.ZMn ?_ | refine G.ZR3 ?_ | refine G.i_kI ?_ | refine G.i_sl ?_ | refine G.i_bm ?_ | refine G.ZSp ?_ | refine G.i_iL ?_ | refine G.i_iR ?_ | refine G.i_v0 ?_ | refine G.i_v1 ?_ | refine G.i_v2 ?_ | refine G.i_v3 ?_ | refine G.i_v4 ?_ | refine G.i_v5 ?_ | refine G.i_v6 ?_ | refine G.i_v7 ?_ | refine G.i_v8 ?_ | refine G.i_v9 ?_ | refine G.ZS9 ?_ | refine G.ZS8 ?_ | refine G.ZS7 ?_ | refine G.ZS6 ?_ | refine G.i_g1 ?_ | refine G.i_g2 ?_ | refine G.i_g3 ?_ | refine G.i_g4 ?_ | refine G.i_g5 ?_ | refine G.i_g6 ?_ | refine G.i_g7 ?_ | refine G.i_g8 ?_ | refine G.i_g9 ?_ | refine G.ZSo ?_ | refine G.ZSn ?_ | refine G.ZSm ?_ | refine G.ZSl ?_ | refine G.Zs4 ?_ | refine G.ZPc ?_ | refine G.ZP4 ?_ | refine G.ZPd ?_ | refine G.ZRf ?_ | refine G.ZSj ?_ | refine G.ZP8 ?_ | refine G.ZSb ?_ | refine G.ZRj ?_ | refine G.ZMo ?_ | refine G.ZRi ?_ | refine G.ZR9 ?_ | refine G.ZIb ?_ | refine G.ZEv ?_ | refine G.ZI8 ?_ | refine G.ZI7 ?_ | refine G.ZQz ?_ | refine G.ZRg ?_ | refine G.i_iD ?_)
local macro_rules | `(tactic| walk_at "g1")=>`(tactic| first | (with_reducible refine G.ZP3 ?_) | walk_at "g2")
local macro_rules | `(tactic| walk_at "ne")=>`(tactic| first | assumption | (exact Ne.symm (by assumption)) | exact L2.Za5 (by assumption) (by assumption) | exact Ne.symm (L2.Za5 (by assumption) (by assumption)) | exact Nat.ne_of_lt (by assumption))
local macro_rules | `(tactic| walk_at "hp")=>`(tactic| first | assumption | exact L2.Za2 | (refine Eq.trans (L2.Za9 ?hne) ?_;(case hne=>walk_at "ne");walk_at "hp"))
local macro_rules | `(tactic| walk_at "side")=>`(tactic| first | omega | decide | (show (_:Int) < _;decide) | exact ⟨by decide,by decide⟩ | exact ⟨by decide,by decide,by decide⟩ | (unfold L2.CMul;omega) | exact .inl (by unfold L2.CMul;omega))
local macro_rules | `(tactic| walk_at "ev")=>`(tactic| repeat (first | walk_at "g1" | ((with_reducible refine G.i_I ?hc ?_);(case hc=>walk_at "side"))))
local macro_rules | `(tactic| walk_at "es")=>`(tactic| repeat (first | walk_at "g2" | ((with_reducible refine G.i_I ?hc ?_);(case hc=>walk_at "side"))))
local macro_rules | `(tactic| walk_at "caps")=>`(tactic| simp only [List.map_cons,List.map_nil,G.pick,List.getElem?_cons_zero,List.getElem?_cons_succ])
namespace K23
open PySem L2 G
def Zf6 (birth:Int) (bulk:Int) (tone:Int) (load:Int) (fa:Addr):List (Str×V):=[("birth",.int birth),("bulk",.int bulk),("tone",.int tone),("load",.int load),("fields",.ref fa)]
theorem Zj4:(("bulk":Str) == ("birth":Str))=false:=by decide +kernel
theorem Zg8:(("tone":Str) == ("birth":Str))=false:=by decide +kernel
theorem Zgo:(("tone":Str) == ("bulk":Str))=false:=by decide +kernel
theorem Zg9:(("load":Str) == ("birth":Str))=false:=by decide +kernel
theorem Zgq:(("load":Str) == ("bulk":Str))=false:=by decide +kernel
theorem Zgp:(("load":Str) == ("tone":Str))=false:=by decide +kernel
theorem Zhm:(("fields":Str) == ("birth":Str))=false:=by decide +kernel
theorem Zif:(("fields":Str) == ("bulk":Str))=false:=by decide +kernel
theorem Zid:(("fields":Str) == ("tone":Str))=false:=by decide +kernel
theorem Zie:(("fields":Str) == ("load":Str))=false:=by decide +kernel
theorem Zel {birth:Int}{bulk:Int}{tone:Int}{load:Int}{fa:Addr}:List.lookup ("birth":Str) (Zf6 birth bulk tone load fa)=some (.int birth:V):=by
 unfold Zf6;simp only [List.lookup,beq_self_eq_true]
theorem Zq9 {birth:Int}{bulk:Int}{tone:Int}{load:Int}{fa:Addr}:List.lookup ("bulk":Str) (Zf6 birth bulk tone load fa)=some (.int bulk:V):=by
 unfold Zf6;simp only [List.lookup,beq_self_eq_true,Zj4]
theorem Zz7 {birth:Int}{bulk:Int}{tone:Int}{load:Int}{fa:Addr}:List.lookup ("tone":Str) (Zf6 birth bulk tone load fa)=some (.int tone:V):=by
 unfold Zf6;simp only [List.lookup,beq_self_eq_true,Zg8,Zgo]
theorem Zky {birth:Int}{bulk:Int}{tone:Int}{load:Int}{fa:Addr}:List.lookup ("load":Str) (Zf6 birth bulk tone load fa)=some (.int load:V):=by
 unfold Zf6;simp only [List.lookup,beq_self_eq_true,Zg9,Zgq,Zgp]
theorem Zga {birth:Int}{bulk:Int}{tone:Int}{load:Int}{fa:Addr}:List.lookup ("fields":Str) (Zf6 birth bulk tone load fa)=some (.ref fa:V):=by
 unfold Zf6;simp only [List.lookup,beq_self_eq_true,Zhm,Zif,Zid,Zie]
theorem Zei {a b:Str} (h:(a == b)=false):¬ b=a:=fun e=>by rw [e,beq_self_eq_true] at h;cases h
theorem Zw9 {birth:Int}{bulk:Int}{tone:Int}{load:Int}{fa:Addr} (y:Int):putF "tone" (.int y) (Zf6 birth bulk tone load fa)=Zf6 birth bulk y load fa:=by
 unfold Zf6;simp only [putF,if_true,if_neg (Zei Zg8),if_neg (Zei Zgo)]
theorem Zwa {birth:Int}{bulk:Int}{tone:Int}{load:Int}{fa:Addr} (y:Int):putF "load" (.int y) (Zf6 birth bulk tone load fa)=Zf6 birth bulk tone y fa:=by
 unfold Zf6;simp only [putF,if_true,if_neg (Zei Zg9),if_neg (Zei Zgq),if_neg (Zei Zgp)]
theorem ZN3 {birth:Int}{bulk:Int}{tone:Int}{load:Int}{fa:Addr}:(putF "fields" (.ref fa) (putF "load" (.int load) (putF "tone" (.int tone) (putF "bulk" (.int bulk) (putF "birth" (.int birth) [])))))=Zf6 birth bulk tone load fa:=by
 unfold Zf6;simp only [putF,if_neg (Zei Zj4),if_neg (Zei Zg8),if_neg (Zei Zgo),if_neg (Zei Zg9),if_neg (Zei Zgq),if_neg (Zei Zgp),if_neg (Zei Zhm),if_neg (Zei Zif),if_neg (Zei Zid),if_neg (Zei Zie)]
theorem Zow:(("units":Str) == ("birth":Str))=false:=by decide +kernel
theorem Zq7:(("units":Str) == ("bulk":Str))=false:=by decide +kernel
theorem Zq5:(("units":Str) == ("tone":Str))=false:=by decide +kernel
theorem Zq6:(("units":Str) == ("load":Str))=false:=by decide +kernel
theorem Znh:(("units":Str) == ("fields":Str))=false:=by decide +kernel
theorem Znr {birth:Int}{bulk:Int}{tone:Int}{load:Int}{fa:Addr}:List.lookup ("units":Str) (Zf6 birth bulk tone load fa)=none:=by
 unfold Zf6;simp only [List.lookup,Zow,Zq7,Zq5,Zq6,Znh]
theorem Zkx:(("has_field":Str) == ("birth":Str))=false:=by decide +kernel
theorem Zlh:(("has_field":Str) == ("bulk":Str))=false:=by decide +kernel
theorem Zlf:(("has_field":Str) == ("tone":Str))=false:=by decide +kernel
theorem Zlg:(("has_field":Str) == ("load":Str))=false:=by decide +kernel
theorem Zjt:(("has_field":Str) == ("fields":Str))=false:=by decide +kernel
theorem Zq8 {birth:Int}{bulk:Int}{tone:Int}{load:Int}{fa:Addr}:List.lookup ("has_field":Str) (Zf6 birth bulk tone load fa)=none:=by
 unfold Zf6;simp only [List.lookup,Zkx,Zlh,Zlf,Zlg,Zjt]
def Zf3 (room:Int) (ca:Addr) (used:Int) (born:Int):List (Str×V):=[("room",.int room),("cells",.ref ca),("used",.int used),("born",.int born)]
theorem Zj2:(("cells":Str) == ("room":Str))=false:=by decide +kernel
theorem Zgj:(("used":Str) == ("room":Str))=false:=by decide +kernel
theorem Zg5:(("used":Str) == ("cells":Str))=false:=by decide +kernel
theorem Zgl:(("born":Str) == ("room":Str))=false:=by decide +kernel
theorem Zg6:(("born":Str) == ("cells":Str))=false:=by decide +kernel
theorem Zgk:(("born":Str) == ("used":Str))=false:=by decide +kernel
theorem Zys {room:Int}{ca:Addr}{used:Int}{born:Int}:List.lookup ("room":Str) (Zf3 room ca used born)=some (.int room:V):=by
 unfold Zf3;simp only [List.lookup,beq_self_eq_true]
theorem Zby {room:Int}{ca:Addr}{used:Int}{born:Int}:List.lookup ("cells":Str) (Zf3 room ca used born)=some (.ref ca:V):=by
 unfold Zf3;simp only [List.lookup,beq_self_eq_true,Zj2]
theorem Zkw {room:Int}{ca:Addr}{used:Int}{born:Int}:List.lookup ("used":Str) (Zf3 room ca used born)=some (.int used:V):=by
 unfold Zf3;simp only [List.lookup,beq_self_eq_true,Zgj,Zg5]
theorem Zyt {room:Int}{ca:Addr}{used:Int}{born:Int}:List.lookup ("born":Str) (Zf3 room ca used born)=some (.int born:V):=by
 unfold Zf3;simp only [List.lookup,beq_self_eq_true,Zgl,Zg6,Zgk]
theorem Zg7 {a b:Str} (h:(a == b)=false):¬ b=a:=fun e=>by rw [e,beq_self_eq_true] at h;cases h
theorem Zw2 {room:Int}{ca:Addr}{used:Int}{born:Int} (y:Int):putF "used" (.int y) (Zf3 room ca used born)=Zf3 room ca y born:=by
 unfold Zf3;simp only [putF,if_true,if_neg (Zg7 Zgj),if_neg (Zg7 Zg5)]
theorem Zw3 {room:Int}{ca:Addr}{used:Int}{born:Int} (y:Int):putF "born" (.int y) (Zf3 room ca used born)=Zf3 room ca used y:=by
 unfold Zf3;simp only [putF,if_true,if_neg (Zg7 Zgl),if_neg (Zg7 Zg6),if_neg (Zg7 Zgk)]
theorem ZMq {room:Int}{ca:Addr}{used:Int}{born:Int}:(putF "born" (.int born) (putF "used" (.int used) (putF "cells" (.ref ca) (putF "room" (.int room) []))))=Zf3 room ca used born:=by
 unfold Zf3;simp only [putF,if_neg (Zg7 Zj2),if_neg (Zg7 Zgj),if_neg (Zg7 Zg5),if_neg (Zg7 Zgl),if_neg (Zg7 Zg6),if_neg (Zg7 Zgk)]
theorem Zr8:(("make":Str) == ("room":Str))=false:=by decide +kernel
theorem Zq3:(("make":Str) == ("cells":Str))=false:=by decide +kernel
theorem Zr7:(("make":Str) == ("used":Str))=false:=by decide +kernel
theorem Zr9:(("make":Str) == ("born":Str))=false:=by decide +kernel
theorem Zyq {room:Int}{ca:Addr}{used:Int}{born:Int}:List.lookup ("make":Str) (Zf3 room ca used born)=none:=by
 unfold Zf3;simp only [List.lookup,Zr8,Zq3,Zr7,Zr9]
theorem Zt6:(("lay":Str) == ("room":Str))=false:=by decide +kernel
theorem Zra:(("lay":Str) == ("cells":Str))=false:=by decide +kernel
theorem Zt5:(("lay":Str) == ("used":Str))=false:=by decide +kernel
theorem Zt7:(("lay":Str) == ("born":Str))=false:=by decide +kernel
theorem ZC8 {room:Int}{ca:Addr}{used:Int}{born:Int}:List.lookup ("lay":Str) (Zf3 room ca used born)=none:=by
 unfold Zf3;simp only [List.lookup,Zt6,Zra,Zt5,Zt7]
theorem Zrc:(("free":Str) == ("room":Str))=false:=by decide +kernel
theorem Zq4:(("free":Str) == ("cells":Str))=false:=by decide +kernel
theorem Zrb:(("free":Str) == ("used":Str))=false:=by decide +kernel
theorem Zrd:(("free":Str) == ("born":Str))=false:=by decide +kernel
theorem Zyr {room:Int}{ca:Addr}{used:Int}{born:Int}:List.lookup ("free":Str) (Zf3 room ca used born)=none:=by
 unfold Zf3;simp only [List.lookup,Zrc,Zq4,Zrb,Zrd]
theorem Zq1:(("there":Str) == ("room":Str))=false:=by decide +kernel
theorem Zoq:(("there":Str) == ("cells":Str))=false:=by decide +kernel
theorem Zq0:(("there":Str) == ("used":Str))=false:=by decide +kernel
theorem Zq2:(("there":Str) == ("born":Str))=false:=by decide +kernel
theorem Zw4 {room:Int}{ca:Addr}{used:Int}{born:Int}:List.lookup ("there":Str) (Zf3 room ca used born)=none:=by
 unfold Zf3;simp only [List.lookup,Zq1,Zoq,Zq0,Zq2]
def Zr2 (lk:Addr) (tl:Int):List (Str×V):=[("looking",.ref lk),("tells",.int tl)]
theorem Zh6:(("tells":Str) == ("looking":Str))=false:=by decide +kernel
theorem Zhf {lk:Addr}{tl:Int}:List.lookup ("looking":Str) (Zr2 lk tl)=some (.ref lk:V):=by
 unfold Zr2;simp only [List.lookup,beq_self_eq_true]
theorem Ze2 {lk:Addr}{tl:Int}:List.lookup ("tells":Str) (Zr2 lk tl)=some (.int tl:V):=by
 unfold Zr2;simp only [List.lookup,beq_self_eq_true,Zh6]
theorem ZMj {a b:Str} (h:(a == b)=false):¬ b=a:=fun e=>by rw [e,beq_self_eq_true] at h;cases h
theorem ZMk {lk:Addr}{tl:Int}:(putF "tells" (.int tl) (putF "looking" (.ref lk) []))=Zr2 lk tl:=by
 unfold Zr2;simp only [putF,if_neg (ZMj Zh6)]
theorem Zmg:(("words":Str) == ("looking":Str))=false:=by decide +kernel
theorem Zop:(("words":Str) == ("tells":Str))=false:=by decide +kernel
theorem Zvx {lk:Addr}{tl:Int}:List.lookup ("words":Str) (Zr2 lk tl)=none:=by
 unfold Zr2;simp only [List.lookup,Zmg,Zop]
def ZEw (nm:Str) (sa:Addr):List (Str×V):=[("name",.str nm),("slots",.ref sa)]
theorem Zj3:(("slots":Str) == ("name":Str))=false:=by decide +kernel
theorem Znp {nm:Str}{sa:Addr}:List.lookup ("slots":Str) (ZEw nm sa)=some (.ref sa:V):=by
 unfold ZEw;simp only [List.lookup,beq_self_eq_true,Zj3]
theorem ZMr {a b:Str} (h:(a == b)=false):¬ b=a:=fun e=>by rw [e,beq_self_eq_true] at h;cases h
theorem ZMs {nm:Str}{sa:Addr}:(putF "slots" (.ref sa) (putF "name" (.str nm) []))=ZEw nm sa:=by
 unfold ZEw;simp only [putF,if_neg (ZMr Zj3)]
def Zik (hp:Addr) (ki:Addr) (hl:Addr) (nm:Addr) (sw:Addr):List (Str×V):=[("heap",.ref hp),("kind",.ref ki),("hands",.ref hl),("names",.ref nm),("sweeper",.ref sw)]
theorem Zij:(("kind":Str) == ("heap":Str))=false:=by decide +kernel
theorem Zi1:(("hands":Str) == ("heap":Str))=false:=by decide +kernel
theorem Zi0:(("hands":Str) == ("kind":Str))=false:=by decide +kernel
theorem Zhz:(("names":Str) == ("heap":Str))=false:=by decide +kernel
theorem Zhy:(("names":Str) == ("kind":Str))=false:=by decide +kernel
theorem Zhg:(("names":Str) == ("hands":Str))=false:=by decide +kernel
theorem Zh1:(("sweeper":Str) == ("heap":Str))=false:=by decide +kernel
theorem Zh0:(("sweeper":Str) == ("kind":Str))=false:=by decide +kernel
theorem Zgd:(("sweeper":Str) == ("hands":Str))=false:=by decide +kernel
theorem Zgc:(("sweeper":Str) == ("names":Str))=false:=by decide +kernel
theorem Zb2 {hp:Addr}{ki:Addr}{hl:Addr}{nm:Addr}{sw:Addr}:List.lookup ("heap":Str) (Zik hp ki hl nm sw)=some (.ref hp:V):=by
 unfold Zik;simp only [List.lookup,beq_self_eq_true]
theorem Zni {hp:Addr}{ki:Addr}{hl:Addr}{nm:Addr}{sw:Addr}:List.lookup ("kind":Str) (Zik hp ki hl nm sw)=some (.ref ki:V):=by
 unfold Zik;simp only [List.lookup,beq_self_eq_true,Zij]
theorem Zlj {hp:Addr}{ki:Addr}{hl:Addr}{nm:Addr}{sw:Addr}:List.lookup ("hands":Str) (Zik hp ki hl nm sw)=some (.ref hl:V):=by
 unfold Zik;simp only [List.lookup,beq_self_eq_true,Zi1,Zi0]
theorem Zfp {hp:Addr}{ki:Addr}{hl:Addr}{nm:Addr}{sw:Addr}:List.lookup ("names":Str) (Zik hp ki hl nm sw)=some (.ref nm:V):=by
 unfold Zik;simp only [List.lookup,beq_self_eq_true,Zhz,Zhy,Zhg]
theorem Zdb {hp:Addr}{ki:Addr}{hl:Addr}{nm:Addr}{sw:Addr}:List.lookup ("sweeper":Str) (Zik hp ki hl nm sw)=some (.ref sw:V):=by
 unfold Zik;simp only [List.lookup,beq_self_eq_true,Zh1,Zh0,Zgd,Zgc]
theorem Zf4 {a b:Str} (h:(a == b)=false):¬ b=a:=fun e=>by rw [e,beq_self_eq_true] at h;cases h
theorem ZJ0 {hp:Addr}{ki:Addr}{hl:Addr}{nm:Addr}{sw:Addr}:(putF "sweeper" (.ref sw) (putF "names" (.ref nm) (putF "hands" (.ref hl) (putF "kind" (.ref ki) (putF "heap" (.ref hp) [])))))=Zik hp ki hl nm sw:=by
 unfold Zik;simp only [putF,if_neg (Zf4 Zij),if_neg (Zf4 Zi1),if_neg (Zf4 Zi0),if_neg (Zf4 Zhz),if_neg (Zf4 Zhy),if_neg (Zf4 Zhg),if_neg (Zf4 Zh1),if_neg (Zf4 Zh0),if_neg (Zf4 Zgd),if_neg (Zf4 Zgc)]
def Zjm (se:Int) (ph:Str) (gr:Addr) (lo:Int) (tu:Int) (at_:Int) (st:Int) (wa:Int) (ls:Int) (pa:Int) (lx:V):List (Str×V):=[("sense",.int se),("phase",.str ph),("grey",.ref gr),("looked",.int lo),("turn",.int tu),("at",.int at_),("stop",.int st),("walks",.int wa),("looks",.int ls),("passes",.int pa),("loss",lx)]
theorem Zhh:(("phase":Str) == ("sense":Str))=false:=by decide +kernel
theorem Zi2:(("grey":Str) == ("sense":Str))=false:=by decide +kernel
theorem Zi3:(("grey":Str) == ("phase":Str))=false:=by decide +kernel
theorem Zh2:(("looked":Str) == ("sense":Str))=false:=by decide +kernel
theorem Zh3:(("looked":Str) == ("phase":Str))=false:=by decide +kernel
theorem Zhi:(("looked":Str) == ("grey":Str))=false:=by decide +kernel
theorem Znx:(("turn":Str) == ("sense":Str))=false:=by decide +kernel
theorem Zny:(("turn":Str) == ("phase":Str))=false:=by decide +kernel
theorem Zp0:(("turn":Str) == ("grey":Str))=false:=by decide +kernel
theorem Zn7:(("turn":Str) == ("looked":Str))=false:=by decide +kernel
theorem Zqh:(("at":Str) == ("sense":Str))=false:=by decide +kernel
theorem Zqi:(("at":Str) == ("phase":Str))=false:=by decide +kernel
theorem Zsf:(("at":Str) == ("grey":Str))=false:=by decide +kernel
theorem Zp7:(("at":Str) == ("looked":Str))=false:=by decide +kernel
theorem Zse:(("at":Str) == ("turn":Str))=false:=by decide +kernel
theorem Znz:(("stop":Str) == ("sense":Str))=false:=by decide +kernel
theorem Zo0:(("stop":Str) == ("phase":Str))=false:=by decide +kernel
theorem Zp2:(("stop":Str) == ("grey":Str))=false:=by decide +kernel
theorem Zn8:(("stop":Str) == ("looked":Str))=false:=by decide +kernel
theorem Zp1:(("stop":Str) == ("turn":Str))=false:=by decide +kernel
theorem Zsc:(("stop":Str) == ("at":Str))=false:=by decide +kernel
theorem Zn5:(("walks":Str) == ("sense":Str))=false:=by decide +kernel
theorem Zn6:(("walks":Str) == ("phase":Str))=false:=by decide +kernel
theorem Znw:(("walks":Str) == ("grey":Str))=false:=by decide +kernel
theorem Zll:(("walks":Str) == ("looked":Str))=false:=by decide +kernel
theorem Znu:(("walks":Str) == ("turn":Str))=false:=by decide +kernel
theorem Zqf:(("walks":Str) == ("at":Str))=false:=by decide +kernel
theorem Znv:(("walks":Str) == ("stop":Str))=false:=by decide +kernel
theorem Znf:(("looks":Str) == ("sense":Str))=false:=by decide +kernel
theorem Zng:(("looks":Str) == ("phase":Str))=false:=by decide +kernel
theorem Zo7:(("looks":Str) == ("grey":Str))=false:=by decide +kernel
theorem Zlq:(("looks":Str) == ("looked":Str))=false:=by decide +kernel
theorem Zo5:(("looks":Str) == ("turn":Str))=false:=by decide +kernel
theorem Zqg:(("looks":Str) == ("at":Str))=false:=by decide +kernel
theorem Zo6:(("looks":Str) == ("stop":Str))=false:=by decide +kernel
theorem Zne:(("looks":Str) == ("walks":Str))=false:=by decide +kernel
theorem Zln:(("passes":Str) == ("sense":Str))=false:=by decide +kernel
theorem Zlo:(("passes":Str) == ("phase":Str))=false:=by decide +kernel
theorem Znb:(("passes":Str) == ("grey":Str))=false:=by decide +kernel
theorem Zle:(("passes":Str) == ("looked":Str))=false:=by decide +kernel
theorem Zn9:(("passes":Str) == ("turn":Str))=false:=by decide +kernel
theorem Zp3:(("passes":Str) == ("at":Str))=false:=by decide +kernel
theorem Zna:(("passes":Str) == ("stop":Str))=false:=by decide +kernel
theorem Zlm:(("passes":Str) == ("walks":Str))=false:=by decide +kernel
theorem Zlp:(("passes":Str) == ("looks":Str))=false:=by decide +kernel
theorem Zo2:(("loss":Str) == ("sense":Str))=false:=by decide +kernel
theorem Zo3:(("loss":Str) == ("phase":Str))=false:=by decide +kernel
theorem Zp6:(("loss":Str) == ("grey":Str))=false:=by decide +kernel
theorem Znd:(("loss":Str) == ("looked":Str))=false:=by decide +kernel
theorem Zp4:(("loss":Str) == ("turn":Str))=false:=by decide +kernel
theorem Zsd:(("loss":Str) == ("at":Str))=false:=by decide +kernel
theorem Zp5:(("loss":Str) == ("stop":Str))=false:=by decide +kernel
theorem Zo1:(("loss":Str) == ("walks":Str))=false:=by decide +kernel
theorem Zo4:(("loss":Str) == ("looks":Str))=false:=by decide +kernel
theorem Znc:(("loss":Str) == ("passes":Str))=false:=by decide +kernel
theorem Zi4 {se:Int}{ph:Str}{gr:Addr}{lo:Int}{tu:Int}{at_:Int}{st:Int}{wa:Int}{ls:Int}{pa:Int}{lx:V}:List.lookup ("sense":Str) (Zjm se ph gr lo tu at_ st wa ls pa lx)=some (.int se:V):=by
 unfold Zjm;simp only [List.lookup,beq_self_eq_true]
theorem Zfq {se:Int}{ph:Str}{gr:Addr}{lo:Int}{tu:Int}{at_:Int}{st:Int}{wa:Int}{ls:Int}{pa:Int}{lx:V}:List.lookup ("phase":Str) (Zjm se ph gr lo tu at_ st wa ls pa lx)=some (.str ph:V):=by
 unfold Zjm;simp only [List.lookup,beq_self_eq_true,Zhh]
theorem Znj {se:Int}{ph:Str}{gr:Addr}{lo:Int}{tu:Int}{at_:Int}{st:Int}{wa:Int}{ls:Int}{pa:Int}{lx:V}:List.lookup ("grey":Str) (Zjm se ph gr lo tu at_ st wa ls pa lx)=some (.ref gr:V):=by
 unfold Zjm;simp only [List.lookup,beq_self_eq_true,Zi2,Zi3]
theorem Zsg {se:Int}{ph:Str}{gr:Addr}{lo:Int}{tu:Int}{at_:Int}{st:Int}{wa:Int}{ls:Int}{pa:Int}{lx:V}:List.lookup ("looked":Str) (Zjm se ph gr lo tu at_ st wa ls pa lx)=some (.int lo:V):=by
 unfold Zjm;simp only [List.lookup,beq_self_eq_true,Zh2,Zh3,Zhi]
theorem Zag {a b:Str} (h:(a == b)=false):¬ b=a:=fun e=>by rw [e,beq_self_eq_true] at h;cases h
theorem ZJ9 {se:Int}{ph:Str}{gr:Addr}{lo:Int}{tu:Int}{at_:Int}{st:Int}{wa:Int}{ls:Int}{pa:Int}{lx:V}:(putF "loss" (lx) (putF "passes" (.int pa) (putF "looks" (.int ls) (putF "walks" (.int wa) (putF "stop" (.int st) (putF "at" (.int at_) (putF "turn" (.int tu) (putF "looked" (.int lo) (putF "grey" (.ref gr) (putF "phase" (.str ph) (putF "sense" (.int se) [])))))))))))=Zjm se ph gr lo tu at_ st wa ls pa lx:=by
 unfold Zjm;simp only [putF,if_neg (Zag Zhh),if_neg (Zag Zi2),if_neg (Zag Zi3),if_neg (Zag Zh2),if_neg (Zag Zh3),if_neg (Zag Zhi),if_neg (Zag Znx),if_neg (Zag Zny),if_neg (Zag Zp0),if_neg (Zag Zn7),if_neg (Zag Zqh),if_neg (Zag Zqi),if_neg (Zag Zsf),if_neg (Zag Zp7),if_neg (Zag Zse),if_neg (Zag Znz),if_neg (Zag Zo0),if_neg (Zag Zp2),if_neg (Zag Zn8),if_neg (Zag Zp1),if_neg (Zag Zsc),if_neg (Zag Zn5),if_neg (Zag Zn6),if_neg (Zag Znw),if_neg (Zag Zll),if_neg (Zag Znu),if_neg (Zag Zqf),if_neg (Zag Znv),if_neg (Zag Znf),if_neg (Zag Zng),if_neg (Zag Zo7),if_neg (Zag Zlq),if_neg (Zag Zo5),if_neg (Zag Zqg),if_neg (Zag Zo6),if_neg (Zag Zne),if_neg (Zag Zln),if_neg (Zag Zlo),if_neg (Zag Znb),if_neg (Zag Zle),if_neg (Zag Zn9),if_neg (Zag Zp3),if_neg (Zag Zna),if_neg (Zag Zlm),if_neg (Zag Zlp),if_neg (Zag Zo2),if_neg (Zag Zo3),if_neg (Zag Zp6),if_neg (Zag Znd),if_neg (Zag Zp4),if_neg (Zag Zsd),if_neg (Zag Zp5),if_neg (Zag Zo1),if_neg (Zag Zo4),if_neg (Zag Znc)]
def Zhd (K:PySem.W.Frag):TS:=
 (tSeq (sFld K (tVar 0) (tVar 1) "birth")
   (tSeq (sFld K (tVar 0) (tVar 3) "bulk")
   (tSeq (sFld K (tVar 0) (tVar 4) "tone")
   (tSeq (sFld K (tVar 0) (tC (.int 0)) "load")
   (sFld K (tVar 0) (tOp (rRep) (tLst (Za3 (tC .non) tNil)) (tVar 2)) "fields")))))
def Zkm (K:PySem.W.Frag):TS:=
 (tRet (tOp (rI0 fun i j=>.int (i + j)) (tOp (rI0 fun i j=>.int (i + j)) (tC (.int 1)) (tCB (G.Zli K) (Za3 (tFld K (tVar 0) "fields") tNil))) (tFld K (tVar 0) "bulk")))
def Zgh (K:PySem.W.Frag):TS:=
 (tRet (ZJ6 (rI0 fun i j=>.bl (decide (i≤j))) (rI0 fun i j=>.bl (decide (i < j))) (tC (.int 0)) (tVar 1) (tCB (G.Zli K) (Za3 (tFld K (tVar 0) "fields") tNil))))
def Zhb (K:PySem.W.Frag):TS:=
 (tSeq (sFld K (tVar 0) (tVar 1) "room")
   (tSeq (sFld K (tVar 0) (tLst tNil) "cells")
   (tSeq (sFld K (tVar 0) (tC (.int 0)) "used")
   (sFld K (tVar 0) (tC (.int 0)) "born"))))
def Zm5 (K:PySem.W.Frag) (Zax Zb0 Zav:Addr) (Zsl Zp9 ZAb ZDh:Sp) (E:XK):TS:=
 (tSeq (tAsg (Zvg Zax Zsl [] E0 (Za3 (tOp (rI0 fun i j=>.int (i + j)) (tFld K (tVar 0) "born") (tC (.int 1))) (Za3 (tVar 1) (Za3 (tVar 2) (Za3 (tVar 3) tNil))))) (Zam 4))
   (tSeq (tIfS (Zbw (tOp (rI0 fun i j=>.bl (decide (j < i))) (Zoz Zax "units" Zp9 [] E0 (tVar 4) tNil) (Zoz Zav "free" ZAb [] E0 (tVar 0) tNil))) (G.Zwg Zb0 E (Za3 (tC (.str "the room does not suffice")) tNil)) Zbp)
   (tSeq (sFld K (tVar 0) (tFld K (tVar 4) "birth") "born")
   (tSeq (sFld K (tVar 0) (tOp (rI0 fun i j=>.int (i + j)) (tFld K (tVar 0) "used") (Zoz Zax "units" Zp9 [] E0 (tVar 4) tNil)) "used")
   (tRet (Zoz Zav "lay" ZDh [] E0 (tVar 0) (Za3 (tVar 4) tNil)))))))
def Zof (K:PySem.W.Frag):TS:=
 (tSeq (tIfS (Zbw (tOp (G.rInN K true) (tC .non) (tFld K (tVar 0) "cells"))) (tSeq (Zvh (tBM K "list" Zm9 (tFld K (tVar 0) "cells") (Za3 (tVar 1) tNil)))
   (tRet (tOp (rI0 fun i j=>.int (i - j)) (tCB (G.Zli K) (Za3 (tFld K (tVar 0) "cells") tNil)) (tC (.int 1))))) Zbp)
   (tSeq (tAsg (tBM K "list" (G.ZJn K) (tFld K (tVar 0) "cells") (Za3 (tC .non) tNil)) (Zam 2))
   (tSeq (tAsg (tVar 1) (gSub (tFld K (tVar 0) "cells") (tVar 2) Zm8))
   (tRet (tVar 2)))))
def Zm6 (K:PySem.W.Frag):TS:=
 (tRet (tOp (rI0 fun i j=>.int (i - j)) (tFld K (tVar 0) "room") (tFld K (tVar 0) "used")))
def Zkk (K:PySem.W.Frag):TS:=
 (tRet (G.tLC (Zyp (Za3 (tCB (G.Zli K) (Za3 (tFld K (tVar 0) "cells") tNil)) tNil)) [0] (Zbw (tOp (G.ZHb) (tOp (rIxL K) (tFld K (tVar 1) "cells") (tVar 0)) (tC .non))) (tVar 0)))
def Zqw (K:PySem.W.Frag):TS:=
 (tSeq (tIfS ((tOr (Zbw (tOp (G.rIsN) (tVar 1) (tC .non))) (tOr (Zbw (tOp (rI0 fun i j=>.bl (decide (i < j))) (tVar 1) (tC (.int 0)))) (Zbw (tOp (rI0 fun i j=>.bl (decide (j≤i))) (tVar 1) (tCB (G.Zli K) (Za3 (tFld K (tVar 0) "cells") tNil))))))) (tRet (tC .non)) Zbp)
   (tRet (tOp (rIxL K) (tFld K (tVar 0) "cells") (tVar 1))))
def Zod (K:PySem.W.Frag) (Zgf:Sp):TS:=
 (tSeq (tAsg (Zb5 Zgf [] E0 (Za3 (tVar 0) (Za3 (tVar 1) tNil))) (Zam 2))
   (tSeq (tIfS (Zbw (tOp (G.rIsN) (tVar 2) (tC .non))) (tRet (tC .non)) Zbp)
   (tRet (tFld K (tVar 2) "birth"))))
def Zkl:TS:=
 (tRet (tC (.str "first")))
def Zm7:TS:=
 (tRet (tC (.str "each")))
def Zm4:TS:=
 (tRet (tC (.str "last")))
def Zha (K:PySem.W.Frag):TS:=
 (tSeq (sFld K (tVar 0) (tVar 1) "looking")
   (sFld K (tVar 0) (tVar 2) "tells"))
def Zkj (K:PySem.W.Frag) (Zfo Zed Zfn:Addr) (ZAc Zx8 ZA9:Sp):TS:=
 (tSeq (tAsg (G.tOrE (Zoz Zed "word" Zx8 [] E0 (tFld K (tVar 0) "looking") tNil) (G.tOrE (Zoz Zfo "word" ZAc [] E0 (tFld K (tVar 0) "looking") tNil) (Zoz Zfn "word" ZA9 [] E0 (tFld K (tVar 0) "looking") tNil))) (Zam 1))
   (tSeq (tIfS (Zbw (tOp (rNe) (tOp (rI0 fun i j=>.int (Builtin.bitAnd i j)) (tFld K (tVar 0) "tells") (tC (.int 1))) (tC (.int 0)))) (tAsg (tOp (G.Zxk) (tVar 1) (tC (.str " old"))) (Zam 1)) Zbp)
   (tSeq (tIfS (Zbw (tOp (rNe) (tOp (rI0 fun i j=>.int (Builtin.bitAnd i j)) (tFld K (tVar 0) "tells") (tC (.int 2))) (tC (.int 0)))) (tAsg (tOp (G.Zxk) (tVar 1) (tC (.str " new"))) (Zam 1)) Zbp)
   (tRet (tVar 1)))))
def Zqn (K:PySem.W.Frag) (Zfo Zed Zer Zfn:Addr) (Zsi Zx6:Sp):TS:=
 (tSeq (tFor (Zut K (tLst (Za3 (G.Zzz Zed) (Za3 (G.Zzz Zfo) (Za3 (G.Zzz Zfn) tNil))))) (Zam 1)
   (tFor (Zyp (Za3 (tC (.int 4)) tNil)) (Zam 2)
   (tSeq (tAsg (Zvg Zer Zsi [] E0 (Za3 (tVar 1) (Za3 (tVar 2) tNil))) (Zam 3))
   (tIfS (Zbw (tOp (rEq) (Zoz Zer "words" Zx6 [] E0 (tVar 3) tNil) (tVar 0))) (tRet (tVar 3)) Zbp))))
   (tRet (tC .non)))
def Zhc (K:PySem.W.Frag):TS:=
 (tSeq (sFld K (tVar 0) (tVar 1) "name")
   (sFld K (tVar 0) (tOp (rRep) (tLst (Za3 (tC .non) tNil)) (tVar 2)) "slots"))
def Zfe (K:PySem.W.Frag):TS:=
 (tSeq (sFld K (tVar 0) (tC (.int 0)) "sense")
   (tSeq (sFld K (tVar 0) (tC (.str "rest")) "phase")
   (tSeq (sFld K (tVar 0) (tLst tNil) "grey")
   (tSeq (sFld K (tVar 0) (tC (.int 0)) "looked")
   (tSeq (sFld K (tVar 0) (tC (.int 0)) "turn")
   (tSeq (sFld K (tVar 0) (tC (.int 0)) "at")
   (tSeq (sFld K (tVar 0) (tC (.int 0)) "stop")
   (tSeq (sFld K (tVar 0) (tC (.int 0)) "walks")
   (tSeq (sFld K (tVar 0) (tC (.int 0)) "looks")
   (tSeq (sFld K (tVar 0) (tC (.int 0)) "passes")
   (sFld K (tVar 0) (tC .non) "loss")))))))))))
def Zgg (K:PySem.W.Frag) (Zf8 Zav Zas:Addr) (Zsk Zsj Zo8:Sp):TS:=
 (tSeq (sFld K (tVar 0) (Zvg Zav Zsj [] E0 (Za3 (tVar 1) tNil)) "heap")
   (tSeq (sFld K (tVar 0) (tVar 2) "kind")
   (tSeq (sFld K (tVar 0) (G.tLC2 K (Zut K (tVar 3)) [] G.Zqe (Zvg Zf8 Zsk [] E0 (Za3 (tVar 0) (Za3 (tVar 1) tNil)))) "hands")
   (tSeq (sFld K (tVar 0) (ZFi) "names")
   (sFld K (tVar 0) (Zvg Zas Zo8 [] E0 tNil) "sweeper")))))
def Zjf (K:PySem.W.Frag) (Zls:Sp):TS:=
 (tRet (G.tLC (Zut K (tFld K (tVar 0) "hands")) [0] G.Zqe (Zb5 Zls [] E0 (Za3 (tFld K (tVar 1) "heap") (Za3 (tFld K (tVar 0) "slots") tNil)))))
def Zlx (K:PySem.W.Frag) (Zc2:Sp):TS:=
 (tRet (G.tLC (Zut K (tVar 1)) [0] G.Zqe (Zb5 Zc2 [] E0 (Za3 (tVar 1) (Za3 (tVar 0) tNil)))))
def Zlu (K:PySem.W.Frag):TS:=
 (tRet (tOp (rEq) (tOp (rI0 fun i j=>.int (Builtin.bitAnd i j)) (tOp (rI (fun _ j=>0≤j) fun i j=>.int (i / 2 ^ j.toNat)) (tFld K (tFld K (tVar 0) "sweeper") "looked") (tVar 1)) (tC (.int 1))) (tC (.int 1))))
def Zlv (K:PySem.W.Frag):TS:=
 (tRet (tOp (rEq) (tFld K (tVar 1) "tone") (tFld K (tFld K (tVar 0) "sweeper") "sense")))
def Zqm (K:PySem.W.Frag) (Zh4:Sp):TS:=
 (tSeq (tAsg (tFld K (tVar 0) "sweeper") (Zam 2))
   (tSeq (tAsg (Zb5 Zh4 [] E0 (Za3 (tVar 0) (Za3 (tOp (rIxL K) (tFld K (tFld K (tVar 0) "heap") "cells") (tVar 1)) tNil))) (Zam 3))
   (tSeq (tIfS (Zbw (tOp (rEq) (tFld K (tVar 2) "phase") (tC (.str "rest")))) (tRet (tC (.str "kept"))) Zbp)
   (tSeq (tIfS (Zbw (tOp (rEq) (tFld K (tVar 2) "phase") (tC (.str "give")))) (tRet (tIf (tB (tVar 3)) (tC (.str "kept")) (tC (.str "doomed")))) Zbp)
   (tSeq (tIfS (tNot (tB (tVar 3))) (tRet (tC (.str "pale"))) Zbp)
   (tRet (tIf (Zbw (tOp (rIn K false) (tVar 1) (tFld K (tVar 2) "grey"))) (tC (.str "grey")) (tC (.str "dark")))))))))
def Zkd (K:PySem.W.Frag) (Zav:Addr) (Zx7 ZA2:Sp):TS:=
 (tRet (G.tLC (Zut K (Zoz Zav "there" Zx7 [] E0 (tFld K (tVar 0) "heap") tNil)) [0] G.Zqe (Zb5 ZA2 [] E0 (Za3 (tVar 1) (Za3 (tVar 0) tNil)))))
def Zlt (K:PySem.W.Frag) (Zls ZGl:Sp):TS:=
 (tSeq (tAsg (tOp (rIxL K) (tFld K (tFld K (tVar 0) "heap") "cells") (tVar 1)) (Zam 2))
   (tSeq (tAsg (Zb5 Zls [] E0 (Za3 (tFld K (tVar 0) "heap") (Za3 (tFld K (tVar 2) "fields") tNil))) (Zam 3))
   (tRet (tTup (Za3 (tVar 1) (Za3 (tFld K (tVar 2) "birth") (Za3 (tFld K (tVar 2) "bulk") (Za3 (tFld K (tVar 2) "load") (Za3 (tVar 3) (Za3 (Zb5 ZGl [] E0 (Za3 (tVar 0) (Za3 (tVar 1) tNil))) tNil))))))))))
def ZDu (K:PySem.W.Frag) (Zgf Zh4:Sp):TS:=
 (tSeq (tAsg (tFld K (tVar 0) "sweeper") (Zam 2))
   (tSeq (tAsg (Zb5 Zgf [] E0 (Za3 (tFld K (tVar 0) "heap") (Za3 (tVar 1) tNil))) (Zam 3))
   (tSeq (tIfS ((tOr (Zbw (tOp (rNe) (tFld K (tVar 2) "phase") (tC (.str "walk")))) (tOr (Zbw (tOp (G.rIsN) (tVar 3) (tC .non))) (tB (Zb5 Zh4 [] E0 (Za3 (tVar 0) (Za3 (tVar 3) tNil))))))) (tRet (tC .non)) Zbp)
   (tSeq (sFld K (tVar 3) (tFld K (tVar 2) "sense") "tone")
   (tSeq (Zvh (tBM K "list" Zm9 (tFld K (tVar 2) "grey") (Za3 (tVar 1) tNil)))
   (tRet (tFld K (tVar 3) "birth")))))))
def Zob (K:PySem.W.Frag) (ZO7:Sp):TS:=
 (tSeq (tAsg (tLst tNil) (Zam 2))
   (tSeq (tFor (Zut K (tVar 1)) (Zam 3)
   (tSeq (tAsg (Zb5 ZO7 [] E0 (Za3 (tVar 0) (Za3 (tVar 3) tNil))) (Zam 4))
   (tIfS (Zbw (tOp (G.ZHb) (tVar 4) (tC .non))) (Zvh (tBM K "list" Zm9 (tVar 2) (Za3 (tVar 4) tNil))) Zbp)))
   (tRet (tVar 2))))
def ZDv (K:PySem.W.Frag) (Zgf Zh4:Sp):TS:=
 (tSeq (tAsg (Zb5 Zgf [] E0 (Za3 (tFld K (tVar 0) "heap") (Za3 (tVar 1) tNil))) (Zam 3))
   (tSeq (tIfS ((tOr (Zbw (tOp (G.rIsN) (tVar 3) (tC .non))) (Zbw (tOp (rNe) (tFld K (tVar 3) "birth") (tVar 2))))) (tRet (tC (.bl true))) Zbp)
   (tRet ((ZA0 (tOp (rEq) (tFld K (tFld K (tVar 0) "sweeper") "phase") (tC (.str "give"))) (ZLs (Zb5 Zh4 [] E0 (Za3 (tVar 0) (Za3 (tVar 3) tNil)))))))))
def Zoa (K:PySem.W.Frag):TS:=
 (tRet (tFld K (tOp (rIxL K) (tFld K (tVar 0) "hands") (tVar 1)) "slots"))
def Zqv (K:PySem.W.Frag) (Za8:Addr) (Zgf Zbh:Sp) (E:XK):TS:=
 (tSeq (tAsg (Zb5 Zgf [] E0 (Za3 (tFld K (tVar 0) "heap") (Za3 (tOp (rIxL K) (Zb5 Zbh [] E0 (Za3 (tVar 0) (Za3 (tVar 1) tNil))) (tVar 2)) tNil))) (Zam 3))
   (tSeq (tIfS (Zbw (tOp (G.rIsN) (tVar 3) (tC .non))) (G.Zwg Za8 E (Za3 (tC (.str "the slot holds no cell")) tNil)) Zbp)
   (tRet (tVar 3))))
def Zlw (K:PySem.W.Frag) (Zax Zad:Addr) (Zqj Zge:Sp) (E:XK):TS:=
 (tSeq (tAsg (Zb5 Zge [] E (Za3 (tVar 0) (Za3 (tVar 1) (Za3 (tVar 2) tNil)))) (Zam 4))
   (tSeq (tIfS (tNot (tB (Zoz Zax "has_field" Zqj [] E0 (tVar 4) (Za3 (tVar 3) tNil)))) (G.Zwg Zad E (Za3 (tC (.str "the cell does not have the field")) tNil)) Zbp)
   (tRet (tFld K (tVar 4) "fields"))))
def Zjc (K:PySem.W.Frag):TS:=
 (tSeq (tIfS (Zbw (tOp (rEq) (tOp (rI0 fun i j=>.int (Builtin.bitAnd i j)) (tFld K (tFld K (tVar 0) "kind") "tells") (tC (.int 1))) (tC (.int 0)))) (tRet (tLst tNil)) Zbp)
   (tRet (tLst (Za3 (tVar 1) tNil))))
def Zjd (K:PySem.W.Frag) (ZA3:Sp):TS:=
 (tSeq (tIfS ((tOr (Zbw (tOp (rEq) (tOp (rI0 fun i j=>.int (Builtin.bitAnd i j)) (tFld K (tFld K (tVar 0) "kind") "tells") (tC (.int 2))) (tC (.int 0)))) (tB (Zb5 ZA3 [] E0 (Za3 (tVar 0) (Za3 (tVar 1) tNil)))))) (tRet (tLst tNil)) Zbp)
   (tRet (tLst (Za3 (tVar 2) tNil))))
def Zqr (K:PySem.W.Frag) (Zav:Addr) (ZAa Zc2 Zbh:Sp) (E:XK):TS:=
 (tSeq (tAsg (Zb5 Zbh [] E0 (Za3 (tVar 0) (Za3 (tOp (rIxT K) (tVar 1) (tC (.int 1))) tNil))) (Zam 2))
   (tSeq (tAsg (tOp (rIxT K) (tVar 1) (tC (.int 3))) (Zam 3))
   (tSeq (tAsg (tOp (rIxT K) (tVar 1) (tC (.int 4))) (Zam 4))
   (tSeq (tAsg (Zoz Zav "make" ZAa [] E (tFld K (tVar 0) "heap") (Za3 (tVar 3) (Za3 (tVar 4) (Za3 (tFld K (tFld K (tVar 0) "sweeper") "sense") tNil)))) (Zam 5))
   (tSeq (tAsg (tVar 5) (gSub (tVar 2) (tOp (rIxT K) (tVar 1) (tC (.int 2))) Zm8))
   (tRet (tTup (Za3 (tC (.str "made")) (Za3 (Zb5 Zc2 [] E0 (Za3 (tFld K (tVar 0) "heap") (Za3 (tVar 5) tNil))) (Za3 (tLst tNil) tNil))))))))))
def Zu0 (K:PySem.W.Frag) (Zc2 Zlr Zbh:Sp) (E:XK):TS:=
 (tSeq (tAsg (tOp (rIxT K) (tVar 1) (tC (.int 1))) (Zam 2))
   (tSeq (tAsg (tOp (rIxT K) (tVar 1) (tC (.int 3))) (Zam 3))
   (tSeq (tAsg (tOp (rIxT K) (tVar 1) (tC (.int 4))) (Zam 4))
   (tSeq (tAsg (tOp (rIxL K) (Zb5 Zlr [] E (Za3 (tVar 0) (Za3 (tVar 2) (Za3 (tVar 3) (Za3 (tVar 4) tNil))))) (tVar 4)) (Zam 5))
   (tSeq (tAsg (tVar 5) (gSub (Zb5 Zbh [] E0 (Za3 (tVar 0) (Za3 (tVar 2) tNil))) (tOp (rIxT K) (tVar 1) (tC (.int 2))) Zm8))
   (tRet (tTup (Za3 (tC (.str "got")) (Za3 (Zb5 Zc2 [] E0 (Za3 (tFld K (tVar 0) "heap") (Za3 (tVar 5) tNil))) (Za3 (tLst tNil) tNil))))))))))
def Ztz (K:PySem.W.Frag) (Zc2 Zlr Zi5 Zbh Zjb Zvi:Sp) (E:XK):TS:=
 (tSeq (tAsg (tOp (rIxT K) (tVar 1) (tC (.int 1))) (Zam 2))
   (tSeq (tAsg (tOp (rIxT K) (tVar 1) (tC (.int 3))) (Zam 3))
   (tSeq (tAsg (Zb5 Zlr [] E (Za3 (tVar 0) (Za3 (tVar 2) (Za3 (tOp (rIxT K) (tVar 1) (tC (.int 2))) (Za3 (tVar 3) tNil))))) (Zam 4))
   (tSeq (tAsg (tOp (rIxL K) (tVar 4) (tVar 3)) (Zam 5))
   (tSeq (tAsg (tOp (rIxL K) (Zb5 Zbh [] E0 (Za3 (tVar 0) (Za3 (tVar 2) tNil))) (tOp (rIxT K) (tVar 1) (tC (.int 4)))) (Zam 6))
   (tSeq (tAsg (tVar 6) (gSub (tVar 4) (tVar 3) Zm8))
   (tSeq (tAsg (Zb5 Zi5 [] E0 (Za3 (tVar 0) (Za3 (tOp (rCat) (Zb5 Zvi [] E0 (Za3 (tVar 0) (Za3 (tVar 5) tNil))) (Zb5 Zjb [] E0 (Za3 (tVar 0) (Za3 (tVar 2) (Za3 (tVar 6) tNil))))) tNil))) (Zam 7))
   (tRet (tTup (Za3 (tC (.str "put")) (Za3 (Zb5 Zc2 [] E0 (Za3 (tFld K (tVar 0) "heap") (Za3 (tVar 5) tNil))) (Za3 (tVar 7) tNil))))))))))))
def Zqu (K:PySem.W.Frag) (Zc2 Zbh:Sp):TS:=
 (tSeq (tAsg (Zb5 Zbh [] E0 (Za3 (tVar 0) (Za3 (tOp (rIxT K) (tVar 1) (tC (.int 1))) tNil))) (Zam 2))
   (tSeq (tAsg (tOp (rIxL K) (tVar 2) (tOp (rIxT K) (tVar 1) (tC (.int 3)))) (Zam 3))
   (tSeq (tAsg (tVar 3) (gSub (tVar 2) (tOp (rIxT K) (tVar 1) (tC (.int 2))) Zm8))
   (tRet (tTup (Za3 (tC (.str "copied")) (Za3 (Zb5 Zc2 [] E0 (Za3 (tFld K (tVar 0) "heap") (Za3 (tVar 3) tNil))) (Za3 (tLst tNil) tNil))))))))
def Zqt (K:PySem.W.Frag) (Zc2 Zbh:Sp):TS:=
 (tSeq (tAsg (Zb5 Zbh [] E0 (Za3 (tVar 0) (Za3 (tOp (rIxT K) (tVar 1) (tC (.int 1))) tNil))) (Zam 2))
   (tSeq (tAsg (tOp (rIxL K) (tVar 2) (tOp (rIxT K) (tVar 1) (tC (.int 2)))) (Zam 3))
   (tSeq (tAsg (tC .non) (gSub (tVar 2) (tOp (rIxT K) (tVar 1) (tC (.int 2))) Zm8))
   (tRet (tTup (Za3 (tC (.str "dropped")) (Za3 (Zb5 Zc2 [] E0 (Za3 (tFld K (tVar 0) "heap") (Za3 (tVar 3) tNil))) (Za3 (tLst tNil) tNil))))))))
def Zqs (K:PySem.W.Frag) (Zc2 Zi5 Zbh Zjb:Sp):TS:=
 (tSeq (tAsg (tOp (rIxT K) (tVar 1) (tC (.int 1))) (Zam 2))
   (tSeq (tAsg (tOp (rIxT K) (tVar 1) (tC (.int 3))) (Zam 3))
   (tSeq (tAsg (tOp (rIxL K) (Zb5 Zbh [] E0 (Za3 (tVar 0) (Za3 (tVar 2) tNil))) (tOp (rIxT K) (tVar 1) (tC (.int 2)))) (Zam 4))
   (tSeq (tAsg (tVar 4) (gSub (Zb5 Zbh [] E0 (Za3 (tVar 0) (Za3 (tVar 3) tNil))) (tOp (rIxT K) (tVar 1) (tC (.int 4))) Zm8))
   (tSeq (tAsg (Zb5 Zi5 [] E0 (Za3 (tVar 0) (Za3 (Zb5 Zjb [] E0 (Za3 (tVar 0) (Za3 (tVar 2) (Za3 (tVar 4) tNil)))) tNil))) (Zam 5))
   (tRet (tTup (Za3 (tC (.str "given")) (Za3 (Zb5 Zc2 [] E0 (Za3 (tFld K (tVar 0) "heap") (Za3 (tVar 4) tNil))) (Za3 (tVar 5) tNil))))))))))
def Zoc (K:PySem.W.Frag) (Zge:Sp) (E:XK):TS:=
 (tSeq (tAsg (Zb5 Zge [] E (Za3 (tVar 0) (Za3 (tOp (rIxT K) (tVar 1) (tC (.int 1))) (Za3 (tOp (rIxT K) (tVar 1) (tC (.int 2))) tNil)))) (Zam 2))
   (tSeq (tAsg (tFld K (tVar 2) "load") (Zam 3))
   (tSeq (sFld K (tVar 2) (tOp (rIxT K) (tVar 1) (tC (.int 3))) "load")
   (tRet (tTup (Za3 (tC (.str "wrote")) (Za3 (tVar 3) (Za3 (tLst tNil) tNil))))))))
def Zqp (K:PySem.W.Frag) (Zge:Sp) (E:XK):TS:=
 (tSeq (tAsg (Zb5 Zge [] E (Za3 (tVar 0) (Za3 (tOp (rIxT K) (tVar 1) (tC (.int 1))) (Za3 (tOp (rIxT K) (tVar 1) (tC (.int 2))) tNil)))) (Zam 2))
   (tRet (tTup (Za3 (tC (.str "read")) (Za3 (tFld K (tVar 2) "load") (Za3 (tLst tNil) tNil))))))
def Zqq (K:PySem.W.Frag) (Zge Zbh:Sp) (E:XK):TS:=
 (tSeq (tAsg (tOp (rIxT K) (tVar 1) (tC (.int 1))) (Zam 2))
   (tSeq (tAsg (tOp (rIxT K) (tVar 1) (tC (.int 2))) (Zam 3))
   (tSeq (tAsg (tFld K (Zb5 Zge [] E (Za3 (tVar 0) (Za3 (tVar 2) (Za3 (tVar 3) tNil)))) "birth") (Zam 4))
   (tSeq (ZDr (tFld K (tVar 0) "names") (tOp (rIxT K) (tVar 1) (tC (.int 3))) (tTup (Za3 (tOp (rIxL K) (Zb5 Zbh [] E0 (Za3 (tVar 0) (Za3 (tVar 2) tNil))) (tVar 3)) (Za3 (tVar 4) tNil))))
   (tRet (tTup (Za3 (tC (.str "named")) (Za3 (tVar 4) (Za3 (tLst tNil) tNil)))))))))
def Zqo (K:PySem.W.Frag) (Zc2 Zi5 Zvj Zbh:Sp) (E:XK):TS:=
 (tSeq (tAsg (Zb5 Zvj [] E (Za3 (tVar 0) (Za3 (tOp (rIxT K) (tVar 1) (tC (.int 3))) tNil))) (Zam 2))
   (tSeq (tAsg (tVar 2) (gSub (Zb5 Zbh [] E0 (Za3 (tVar 0) (Za3 (tOp (rIxT K) (tVar 1) (tC (.int 1))) tNil))) (tOp (rIxT K) (tVar 1) (tC (.int 2))) Zm8))
   (tSeq (tAsg (Zb5 Zi5 [] E0 (Za3 (tVar 0) (Za3 (tLst (Za3 (tVar 2) tNil)) tNil))) (Zam 3))
   (tRet (tTup (Za3 (tC (.str "sought")) (Za3 (Zb5 Zc2 [] E0 (Za3 (tFld K (tVar 0) "heap") (Za3 (tVar 2) tNil))) (Za3 (tVar 3) tNil))))))))
def Zje (K:PySem.W.Frag) (Zai:Addr) (ZO8:Sp) (E:XK):TS:=
 (tSeq (tIfS (tB (Zwz (tVar 1) (tFld K (tVar 0) "names"))) (G.Zwg Zai E (Za3 (tC (.str "the weak name was never given")) tNil)) Zbp)
   (tSeq (tAsg (tOp (rIxT K) (Zf0 (tFld K (tVar 0) "names") (tVar 1)) (tC (.int 0))) (Zam 2))
   (tSeq (tAsg (tOp (rIxT K) (Zf0 (tFld K (tVar 0) "names") (tVar 1)) (tC (.int 1))) (Zam 3))
   (tSeq (tIfS (tB (Zb5 ZO8 [] E0 (Za3 (tVar 0) (Za3 (tVar 2) (Za3 (tVar 3) tNil))))) (tRet (tC .non)) Zbp)
   (tRet (tVar 2))))))
def ZOf (K:PySem.W.Frag) (Zcu Zct Zdu Zcs Zcr Zcq Zdt Zcp Zco Zc4:Addr) (ZGu ZGt ZJd ZGs ZGr ZGq ZJc ZGp ZGn ZDg:Sp) (E:XK):TS:=
 (tSeq (tAsg (G.tTab [("make",Zcr),("get",Zdu),("put",Zdt),("copy",Zcu),("drop",Zct),("give",Zcs),("write",Zc4),("read",Zcp),("name",Zcq),("seek",Zco)] (tOp (rIxT K) (tVar 1) (tC (.int 0)))) (Zam 2))
   (tRet (G.ZJ8 2 [(Zcr,ZGr),(Zdu,ZJd),(Zdt,ZJc),(Zcu,ZGu),(Zct,ZGt),(Zcs,ZGs),(Zc4,ZDg),(Zcp,ZGp),(Zcq,ZGq),(Zco,ZGn)] E (Za3 (tVar 0) (Za3 (tVar 1) tNil)))))
def Zoe:TS:=
 (tSeq (tAsg (tOp (rI (fun _ j=>0 < j) fun i j=>.int (i % j)) (tOp (rI0 fun i j=>.int (i + j)) (tOp (rI CMul fun i j=>.int (i * j)) (tVar 0) (tVar 1)) (tC (.int 12345))) (tC (.int 2147483647))) (Zam 2))
   (tRet (tOp (rI CDiv fun i j=>.int (i / j)) (tOp (rI (fun _ j=>0 < j) fun i j=>.int (i % j)) (tOp (rI CMul fun i j=>.int (i * j)) (tVar 2) (tVar 2)) (tC (.int 2147483629))) (tC (.int 3)))))
def Zia (K:PySem.W.Frag):TS:=
 (tSeq (tIfS (Zbw (tOp (rI0 fun i j=>.bl (decide (i < j))) (tVar 1) (tCB (G.Zli K) (Za3 (tVar 0) tNil)))) (tRet (tOp (rIxL K) (tVar 0) (tVar 1))) Zbp)
   (tRet (tC (.int 0))))
def Zm2 (K:PySem.W.Frag) (Zbi:Sp):TS:=
 (tSeq (tAsg (tOp (rIxL K) (tLst (Za3 (tC (.str "first")) (Za3 (tC (.str "each")) (Za3 (tC (.str "last")) tNil)))) (tOp (rI (fun _ j=>0 < j) fun i j=>.int (i % j)) (Zb5 Zbi [] E0 (Za3 (tVar 0) (Za3 (tC (.int 48271)) tNil))) (tC (.int 3)))) (Zam 1))
   (tRet (tOp (G.Zxk) (tVar 1) (tOp (rIxL K) (tLst (Za3 (tC (.str "")) (Za3 (tC (.str " old")) (Za3 (tC (.str " new")) (Za3 (tC (.str " old new")) tNil))))) (tOp (rI (fun _ j=>0 < j) fun i j=>.int (i % j)) (Zb5 Zbi [] E0 (Za3 (tVar 0) (Za3 (tC (.int 69621)) tNil))) (tC (.int 4)))))))
def Zm0 (Zbi:Sp):TS:=
 (tSeq (tIfS (Zbw (tOp (rEq) (tOp (rI (fun _ j=>0 < j) fun i j=>.int (i % j)) (Zb5 Zbi [] E0 (Za3 (tVar 0) (Za3 (tC (.int 16807)) tNil))) (tC (.int 3))) (tC (.int 1)))) (tRet (tOp (rI0 fun i j=>.int (i + j)) (tC (.int 4)) (tOp (rI (fun _ j=>0 < j) fun i j=>.int (i % j)) (tOp (rI PySem.IntMulOk fun i j=>.int (i * j)) (tVar 0) (tOp (rI CPow fun i j=>.int (i ^ j.toNat)) (tC (.int 7654321)) (tC (.int 3)))) (tOp (rI0 fun i j=>.int (i - j)) (tOp (rI CPow fun i j=>.int (i ^ j.toNat)) (tC (.int 10)) (tC (.int 15))) (tC (.int 3)))))) Zbp)
   (tRet (tOp (rI0 fun i j=>.int (i + j)) (tC (.int 4)) (tOp (rI (fun _ j=>0 < j) fun i j=>.int (i % j)) (Zb5 Zbi [] E0 (Za3 (tVar 0) (Za3 (tC (.int 39373)) tNil))) (tC (.int 60))))))
def Zkh (K:PySem.W.Frag) (Zbi:Sp):TS:=
 (tSeq (tAsg (tC (.str "abcdefghijklmnopqrstuvwxyz")) (Zam 2))
   (tSeq (tAsg (tOp (rI0 fun i j=>.int (i + j)) (tC (.int 1)) (tOp (rI (fun _ j=>0 < j) fun i j=>.int (i % j)) (Zb5 Zbi [] E0 (Za3 (tVar 0) (Za3 (tC (.int 48271)) tNil))) (tC (.int 12)))) (Zam 3))
   (tSeq (tAsg (tC (.str "")) (Zam 4))
   (tSeq (tFor (Zyp (Za3 (tVar 3) tNil)) (Zam 5)
   (tAsg (tOp (G.Zxk) (tVar 4) (tOp (rIxS) (tVar 2) (tOp (rI (fun _ j=>0 < j) fun i j=>.int (i % j)) (Zb5 Zbi [] E0 (Za3 (tVar 0) (Za3 (tOp (rI0 fun i j=>.int (i + j)) (tOp (rI CMul fun i j=>.int (i * j)) (tVar 5) (tVar 5)) (tC (.int 69621))) tNil))) (tC (.int 26))))) (Zam 4)))
   (tSeq (tAsg (tOp (rI (fun _ j=>0 < j) fun i j=>.int (i % j)) (Zb5 Zbi [] E0 (Za3 (tVar 0) (Za3 (tC (.int 16807)) tNil))) (tVar 3)) (Zam 6))
   (tSeq (tAsg (tOp (rI (fun _ j=>0 < j) fun i j=>.int (i % j)) (Zb5 Zbi [] E0 (Za3 (tVar 0) (Za3 (tC (.int 39373)) tNil))) (tC (.int 26))) (Zam 7))
   (tSeq (tAsg (tLst tNil) (Zam 8))
   (tSeq (tFor (Zyp (Za3 (tVar 1) tNil)) (Zam 5)
   (tSeq (tAsg (tOp (G.Zxk) (tOp (G.Zxk) (tSl (G.rSlS) (tVar 4) Zwy (ZGk (tVar 6))) (tOp (rIxS) (tVar 2) (tOp (rI (fun _ j=>0 < j) fun i j=>.int (i % j)) (tOp (rI0 fun i j=>.int (i + j)) (tVar 7) (tVar 5)) (tC (.int 26))))) (tSl (G.rSlS) (tVar 4) (ZGk (tOp (rI0 fun i j=>.int (i + j)) (tVar 6) (tC (.int 1)))) Zwy)) (Zam 9))
   (tSeq (tIfS (Zbw (tOp (rEq) (tVar 9) (tC (.str "sweep")))) (tAsg (tC (.str "sweeps")) (Zam 9)) Zbp)
   (Zvh (tBM K "list" Zm9 (tVar 8) (Za3 (tVar 9) tNil))))))
   (tRet (tVar 8))))))))))
def Zee (K:PySem.W.Frag) (Zda:Sp):TS:=
 (tSeq (tIfS (Zbw (tOp (G.rIsN) (tVar 1) (tC .non))) (tRet (tOp (G.rIsN) (tVar 0) (tC .non))) Zbp)
   (tSeq (tIfS (Zbw (tOp (G.rIsB) (tVar 1) (tC (.bl true)))) (tRet (tOp (G.rIsB) (tVar 0) (tC (.bl true)))) Zbp)
   (tSeq (tIfS (Zbw (tOp (G.rIsB) (tVar 1) (tC (.bl false)))) (tRet (tOp (G.rIsB) (tVar 0) (tC (.bl false)))) Zbp)
   (tSeq (tIfS (tB (tCB (G.cIsi) (Za3 (tVar 1) (Za3 (tC (.ty "int")) tNil)))) (tRet ((ZA0 (tCB (G.cIsi) (Za3 (tVar 0) (Za3 (tC (.ty "int")) tNil))) (ZA0 (ZLs (tCB (G.cIsi) (Za3 (tVar 0) (Za3 (tC (.ty "bool")) tNil)))) (tOp (rEq) (tVar 0) (tVar 1)))))) Zbp)
   (tSeq (tIfS (tB (tCB (G.cIsi) (Za3 (tVar 1) (Za3 (tC (.ty "str")) tNil)))) (tRet ((ZA0 (tCB (G.cIsi) (Za3 (tVar 0) (Za3 (tC (.ty "str")) tNil))) (tOp (rEq) (tVar 0) (tVar 1))))) Zbp)
   (tSeq (tIfS ((tAnd (tB (tCB (G.cIsi) (Za3 (tVar 1) (Za3 (tC (.ty "list")) tNil)))) (tNot (tB (tCB (G.cIsi) (Za3 (tVar 0) (Za3 (tC (.ty "list")) tNil))))))) (tRet (tC (.bl false))) Zbp)
   (tSeq (tIfS ((tAnd (tB (tCB (G.cIsi) (Za3 (tVar 1) (Za3 (tC (.ty "tuple")) tNil)))) (tNot (tB (tCB (G.cIsi) (Za3 (tVar 0) (Za3 (tC (.ty "tuple")) tNil))))))) (tRet (tC (.bl false))) Zbp)
   (tSeq (tIfS (Zbw (tOp (rNe) (tCB (G.Zli K) (Za3 (tVar 0) tNil)) (tCB (G.Zli K) (Za3 (tVar 1) tNil)))) (tRet (tC (.bl false))) Zbp)
   (tSeq (tFor (Zyp (Za3 (tCB (G.Zli K) (Za3 (tVar 1) tNil)) tNil)) (Zam 2)
   (tIfS (tNot (tB (Zb5 Zda [] E0 (Za3 (tOp (rIx K) (tVar 0) (tVar 2)) (Za3 (tOp (rIx K) (tVar 1) (tVar 2)) tNil))))) (tRet (tC (.bl false))) Zbp))
   (tRet (tC (.bl true))))))))))))
def Zkg (K:PySem.W.Frag):TS:=
 (tRet (ZJ5 [((tC (.str "room")),(tVar 0)),((tC (.str "used")),(tC (.int 0))),((tC (.str "born")),(tC (.int 0))),((tC (.str "rows")),(G.tLC (Zut K (tVar 1)) [] G.Zqe (tOp (rRep) (tLst (Za3 (tC .non) tNil)) (tVar 0)))),((tC (.str "cells")),(ZFi)),((tC (.str "words")),(ZFi))]))
def Zh9 (K:PySem.W.Frag):TS:=
 (tSeq (tAsg (tOp (rIxT K) (tVar 1) (tC (.int 0))) (Zam 2))
   (tSeq (tIfS ((tAnd (Zbw (tOp (rEq) (tVar 2) (tC (.str "make")))) (Zbw (tOp (rI0 fun i j=>.bl (decide (j < i))) (tOp (rI0 fun i j=>.int (i + j)) (tOp (rI0 fun i j=>.int (i + j)) (tOp (rI0 fun i j=>.int (i + j)) (Zf0 (tVar 0) (tC (.str "used"))) (tC (.int 1))) (tOp (rIxT K) (tVar 1) (tC (.int 3)))) (tOp (rIxT K) (tVar 1) (tC (.int 4)))) (Zf0 (tVar 0) (tC (.str "room"))))))) (tRet (tC (.str "full"))) Zbp)
   (tSeq (tIfS ((tAnd (Zbw (tOp (rEq) (tVar 2) (tC (.str "seek")))) (tB (Zwz (tOp (rIxT K) (tVar 1) (tC (.int 3))) (Zf0 (tVar 0) (tC (.str "words"))))))) (tRet (tC (.str "name"))) Zbp)
   (tSeq (tIfS (Zbw (tOp (rIn K false) (tVar 2) (tTup (Za3 (tC (.str "make")) (Za3 (tC (.str "seek")) (Za3 (tC (.str "copy")) (Za3 (tC (.str "drop")) (Za3 (tC (.str "give")) tNil)))))))) (tRet (tC (.str ""))) Zbp)
   (tSeq (tAsg (tOp (rIxT K) (tVar 1) (tC (.int 2))) (Zam 3))
   (tSeq (tIfS (Zbw (tOp (rEq) (tVar 2) (tC (.str "get")))) (tAsg (tOp (rIxT K) (tVar 1) (tC (.int 3))) (Zam 3)) Zbp)
   (tSeq (tAsg (tOp (rIxL K) (tOp (rIxL K) (Zf0 (tVar 0) (tC (.str "rows"))) (tOp (rIxT K) (tVar 1) (tC (.int 1)))) (tVar 3)) (Zam 4))
   (tSeq (tIfS (Zbw (tOp (G.rIsN) (tVar 4) (tC .non))) (tRet (tC (.str "empty"))) Zbp)
   (tSeq (tIfS ((tAnd (Zbw (tOp (rEq) (tVar 2) (tC (.str "get")))) (Zbw (tOp (rI0 fun i j=>.bl (decide (j≤i))) (tOp (rIxT K) (tVar 1) (tC (.int 4))) (tCB (G.Zli K) (Za3 (tOp (rIxL K) (Zf0 (Zf0 (tVar 0) (tC (.str "cells"))) (tVar 4)) (tC (.int 2))) tNil)))))) (tRet (tC (.str "field"))) Zbp)
   (tSeq (tIfS ((tAnd (Zbw (tOp (rEq) (tVar 2) (tC (.str "put")))) (Zbw (tOp (rI0 fun i j=>.bl (decide (j≤i))) (tOp (rIxT K) (tVar 1) (tC (.int 3))) (tCB (G.Zli K) (Za3 (tOp (rIxL K) (Zf0 (Zf0 (tVar 0) (tC (.str "cells"))) (tVar 4)) (tC (.int 2))) tNil)))))) (tRet (tC (.str "field"))) Zbp)
   (tRet (tC (.str "")))))))))))))
def Zi9 (K:PySem.W.Frag):TS:=
 (tSeq (tAsg (tOp (rI0 fun i j=>.int (i + j)) (tOp (rI0 fun i j=>.int (i + j)) (tC (.int 1)) (tOp (rIxT K) (tVar 1) (tC (.int 3)))) (tOp (rIxT K) (tVar 1) (tC (.int 4)))) (Zam 2))
   (tSeq (ZDr (tVar 0) (tC (.str "used")) (tOp (rI0 fun i j=>.int (i + j)) (Zf0 (tVar 0) (tC (.str "used"))) (tVar 2)))
   (tSeq (ZDr (tVar 0) (tC (.str "born")) (tOp (rI0 fun i j=>.int (i + j)) (Zf0 (tVar 0) (tC (.str "born"))) (tC (.int 1))))
   (tSeq (ZDr (Zf0 (tVar 0) (tC (.str "cells"))) (Zf0 (tVar 0) (tC (.str "born"))) (tLst (Za3 (tVar 2) (Za3 (tC (.int 0)) (Za3 (tOp (rRep) (tLst (Za3 (tC .non) tNil)) (tOp (rIxT K) (tVar 1) (tC (.int 3)))) tNil)))))
   (tSeq (tAsg (Zf0 (tVar 0) (tC (.str "born"))) (gSub (tOp (rIxL K) (Zf0 (tVar 0) (tC (.str "rows"))) (tOp (rIxT K) (tVar 1) (tC (.int 1)))) (tOp (rIxT K) (tVar 1) (tC (.int 2))) Zm8))
   (tRet (Zf0 (tVar 0) (tC (.str "born")))))))))
def Zki (K:PySem.W.Frag):TS:=
 (tSeq (tAsg (tOp (rIxL K) (Zf0 (tVar 0) (tC (.str "rows"))) (tOp (rIxT K) (tVar 1) (tC (.int 1)))) (Zam 2))
   (tSeq (tIfS (Zbw (tOp (rEq) (tOp (rIxT K) (tVar 1) (tC (.int 0))) (tC (.str "get")))) (tSeq (tAsg (tOp (rIxL K) (tOp (rIxL K) (Zf0 (Zf0 (tVar 0) (tC (.str "cells"))) (tOp (rIxL K) (tVar 2) (tOp (rIxT K) (tVar 1) (tC (.int 3))))) (tC (.int 2))) (tOp (rIxT K) (tVar 1) (tC (.int 4)))) (gSub (tVar 2) (tOp (rIxT K) (tVar 1) (tC (.int 2))) Zm8))
   (tRet (tOp (rIxL K) (tVar 2) (tOp (rIxT K) (tVar 1) (tC (.int 2)))))) Zbp)
   (tSeq (tIfS (Zbw (tOp (rEq) (tOp (rIxT K) (tVar 1) (tC (.int 0))) (tC (.str "copy")))) (tSeq (tAsg (tOp (rIxL K) (tVar 2) (tOp (rIxT K) (tVar 1) (tC (.int 3)))) (gSub (tVar 2) (tOp (rIxT K) (tVar 1) (tC (.int 2))) Zm8))
   (tRet (tOp (rIxL K) (tVar 2) (tOp (rIxT K) (tVar 1) (tC (.int 2)))))) Zbp)
   (tSeq (tIfS (Zbw (tOp (rEq) (tOp (rIxT K) (tVar 1) (tC (.int 0))) (tC (.str "drop")))) (tSeq (tAsg (tOp (rIxL K) (tVar 2) (tOp (rIxT K) (tVar 1) (tC (.int 2)))) (Zam 3))
   (tSeq (tAsg (tC .non) (gSub (tVar 2) (tOp (rIxT K) (tVar 1) (tC (.int 2))) Zm8))
   (tRet (tVar 3)))) Zbp)
   (tSeq (tAsg (tOp (rIxL K) (tVar 2) (tOp (rIxT K) (tVar 1) (tC (.int 2)))) (gSub (tOp (rIxL K) (Zf0 (tVar 0) (tC (.str "rows"))) (tOp (rIxT K) (tVar 1) (tC (.int 3)))) (tOp (rIxT K) (tVar 1) (tC (.int 4))) Zm8))
   (tRet (tOp (rIxL K) (tVar 2) (tOp (rIxT K) (tVar 1) (tC (.int 2))))))))))
def Zkf (K:PySem.W.Frag) (Ztt Zx5:Sp):TS:=
 (tSeq (tAsg (tOp (rIxT K) (tVar 1) (tC (.int 0))) (Zam 2))
   (tSeq (tIfS (Zbw (tOp (rEq) (tVar 2) (tC (.str "make")))) (tRet (Zb5 Ztt [] E0 (Za3 (tVar 0) (Za3 (tVar 1) tNil)))) Zbp)
   (tSeq (tIfS (Zbw (tOp (rIn K false) (tVar 2) (tTup (Za3 (tC (.str "get")) (Za3 (tC (.str "copy")) (Za3 (tC (.str "drop")) (Za3 (tC (.str "give")) tNil))))))) (tRet (Zb5 Zx5 [] E0 (Za3 (tVar 0) (Za3 (tVar 1) tNil)))) Zbp)
   (tSeq (tAsg (tOp (rIxL K) (Zf0 (tVar 0) (tC (.str "rows"))) (tOp (rIxT K) (tVar 1) (tC (.int 1)))) (Zam 3))
   (tSeq (tIfS (Zbw (tOp (rEq) (tVar 2) (tC (.str "seek")))) (tSeq (tAsg (Zf0 (Zf0 (tVar 0) (tC (.str "words"))) (tOp (rIxT K) (tVar 1) (tC (.int 3)))) (gSub (tVar 3) (tOp (rIxT K) (tVar 1) (tC (.int 2))) Zm8))
   (tRet (tOp (rIxL K) (tVar 3) (tOp (rIxT K) (tVar 1) (tC (.int 2)))))) Zbp)
   (tSeq (tAsg (tOp (rIxL K) (tVar 3) (tOp (rIxT K) (tVar 1) (tC (.int 2)))) (Zam 4))
   (tSeq (tAsg (Zf0 (Zf0 (tVar 0) (tC (.str "cells"))) (tVar 4)) (Zam 5))
   (tSeq (tIfS (Zbw (tOp (rEq) (tVar 2) (tC (.str "put")))) (tSeq (tAsg (tOp (rIxL K) (tOp (rIxL K) (tVar 5) (tC (.int 2))) (tOp (rIxT K) (tVar 1) (tC (.int 3)))) (Zam 6))
   (tSeq (tAsg (tOp (rIxL K) (tVar 3) (tOp (rIxT K) (tVar 1) (tC (.int 4)))) (gSub (tOp (rIxL K) (tVar 5) (tC (.int 2))) (tOp (rIxT K) (tVar 1) (tC (.int 3))) Zm8))
   (tRet (tVar 6)))) Zbp)
   (tSeq (tIfS (Zbw (tOp (rEq) (tVar 2) (tC (.str "write")))) (tSeq (tAsg (tOp (rIxL K) (tVar 5) (tC (.int 1))) (Zam 6))
   (tSeq (tAsg (tOp (rIxT K) (tVar 1) (tC (.int 3))) (gSub (tVar 5) (tC (.int 1)) Zm8))
   (tRet (tVar 6)))) Zbp)
   (tSeq (tIfS (Zbw (tOp (rEq) (tVar 2) (tC (.str "read")))) (tRet (tOp (rIxL K) (tVar 5) (tC (.int 1)))) Zbp)
   (tSeq (ZDr (Zf0 (tVar 0) (tC (.str "words"))) (tOp (rIxT K) (tVar 1) (tC (.int 3))) (tVar 4))
   (tRet (tVar 4)))))))))))))
def Zm1 (Zbi:Sp):TS:=
 (tSeq (tAsg (tOp (rI (fun _ j=>0 < j) fun i j=>.int (i % j)) (tOp (rI PySem.IntMulOk fun i j=>.int (i * j)) (tVar 0) (tOp (rI CPow fun i j=>.int (i ^ j.toNat)) (tC (.int 987654321)) (tC (.int 6)))) (tOp (rI CPow fun i j=>.int (i ^ j.toNat)) (tC (.int 10)) (tC (.int 60)))) (Zam 1))
   (tSeq (tIfS (Zbw (tOp (rEq) (tOp (rI (fun _ j=>0 < j) fun i j=>.int (i % j)) (Zb5 Zbi [] E0 (Za3 (tVar 0) (Za3 (tC (.int 16807)) tNil))) (tC (.int 2))) (tC (.int 0)))) (tRet (tUn (rU fun i=>.int (-i)) (tVar 1))) Zbp)
   (tRet (tVar 1))))
def Zm3 (K:PySem.W.Frag) (ZA6 Zbi:Sp):TS:=
 (tSeq (tAsg (Zb5 Zbi [] E0 (Za3 (tVar 0) (Za3 (tC (.int 48271)) tNil))) (Zam 3))
   (tSeq (tAsg (Zb5 Zbi [] E0 (Za3 (tVar 0) (Za3 (tC (.int 69621)) tNil))) (Zam 4))
   (tSeq (tAsg (Zb5 Zbi [] E0 (Za3 (tVar 0) (Za3 (tC (.int 16807)) tNil))) (Zam 5))
   (tSeq (tAsg (tOp (rI (fun _ j=>0 < j) fun i j=>.int (i % j)) (tVar 4) (tCB (G.Zli K) (Za3 (tVar 1) tNil))) (Zam 6))
   (tSeq (tAsg (tOp (rI (fun _ j=>0 < j) fun i j=>.int (i % j)) (tOp (rI CDiv fun i j=>.int (i / j)) (tVar 4) (tC (.int 5))) (tOp (rIxL K) (tVar 1) (tVar 6))) (Zam 7))
   (tSeq (tAsg (tOp (rI (fun _ j=>0 < j) fun i j=>.int (i % j)) (tOp (rI CDiv fun i j=>.int (i / j)) (tVar 4) (tC (.int 45))) (tOp (rIxL K) (tVar 1) (tVar 6))) (Zam 8))
   (tSeq (tAsg (tOp (rIxL K) (tLst (Za3 (tC (.int 0)) (Za3 (tC (.int 0)) (Za3 (tC (.int 1)) (Za3 (tC (.int 1)) (Za3 (tC (.int 2)) (Za3 (tC (.int 0)) (Za3 (tC (.int 1)) (Za3 (tOp (rI (fun _ j=>0 < j) fun i j=>.int (i % j)) (tOp (rI CDiv fun i j=>.int (i / j)) (tVar 5) (tC (.int 64))) (tC (.int 9))) tNil))))))))) (tOp (rI (fun _ j=>0 < j) fun i j=>.int (i % j)) (tOp (rI CDiv fun i j=>.int (i / j)) (tVar 5) (tC (.int 8))) (tC (.int 8)))) (Zam 9))
   (tSeq (tAsg (tOp (rI (fun _ j=>0 < j) fun i j=>.int (i % j)) (tVar 3) (tC (.int 18))) (Zam 10))
   (tSeq (tIfS (Zbw (tOp (rI0 fun i j=>.bl (decide (i < j))) (tVar 10) (tC (.int 5)))) (tSeq (tAsg (tOp (rIxL K) (tLst (Za3 (tC (.int 0)) (Za3 (tC (.int 1)) (Za3 (tC (.int 0)) (Za3 (tC (.int 3)) (Za3 (tC (.int 0)) (Za3 (tOp (rI (fun _ j=>0 < j) fun i j=>.int (i % j)) (tOp (rI PySem.IntMulOk fun i j=>.int (i * j)) (tVar 0) (tOp (rI CPow fun i j=>.int (i ^ j.toNat)) (tC (.int 7654321)) (tC (.int 2)))) (tOp (rI0 fun i j=>.int (i + j)) (tOp (rI CPow fun i j=>.int (i ^ j.toNat)) (tC (.int 10)) (tC (.int 12))) (tC (.int 1)))) tNil))))))) (tOp (rI (fun _ j=>0 < j) fun i j=>.int (i % j)) (tOp (rI CDiv fun i j=>.int (i / j)) (tVar 3) (tC (.int 18))) (tC (.int 6)))) (Zam 11))
   (tRet (tTup (Za3 (tC (.str "make")) (Za3 (tVar 6) (Za3 (tVar 7) (Za3 (tOp (rIxL K) (tLst (Za3 (tC (.int 0)) (Za3 (tC (.int 1)) (Za3 (tC (.int 2)) (Za3 (tC (.int 3)) (Za3 (tC (.int 2)) (Za3 (tC (.int 1)) (Za3 (tC (.int 2)) (Za3 (tC (.int 8)) tNil))))))))) (tOp (rI (fun _ j=>0 < j) fun i j=>.int (i % j)) (tVar 5) (tC (.int 8)))) (Za3 (tVar 11) tNil)))))))) Zbp)
   (tSeq (tIfS (Zbw (tOp (rI0 fun i j=>.bl (decide (i < j))) (tVar 10) (tC (.int 8)))) (tRet (tTup (Za3 (tC (.str "put")) (Za3 (tVar 6) (Za3 (tVar 8) (Za3 (tVar 9) (Za3 (tVar 7) tNil))))))) Zbp)
   (tSeq (tIfS (Zbw (tOp (rI0 fun i j=>.bl (decide (i < j))) (tVar 10) (tC (.int 11)))) (tRet (tTup (Za3 (tC (.str "get")) (Za3 (tVar 6) (Za3 (tVar 7) (Za3 (tVar 8) (Za3 (tVar 9) tNil))))))) Zbp)
   (tSeq (tIfS (Zbw (tOp (rEq) (tVar 10) (tC (.int 11)))) (tRet (tTup (Za3 (tC (.str "copy")) (Za3 (tVar 6) (Za3 (tVar 7) (Za3 (tVar 8) tNil)))))) Zbp)
   (tSeq (tIfS (Zbw (tOp (rEq) (tVar 10) (tC (.int 12)))) (tRet (tTup (Za3 (tC (.str "drop")) (Za3 (tVar 6) (Za3 (tVar 7) tNil))))) Zbp)
   (tSeq (tIfS (Zbw (tOp (rEq) (tVar 10) (tC (.int 13)))) (tSeq (tAsg (tOp (rI (fun _ j=>0 < j) fun i j=>.int (i % j)) (tOp (rI CDiv fun i j=>.int (i / j)) (tVar 5) (tC (.int 600))) (tCB (G.Zli K) (Za3 (tVar 1) tNil))) (Zam 12))
   (tRet (tTup (Za3 (tC (.str "give")) (Za3 (tVar 6) (Za3 (tVar 7) (Za3 (tVar 12) (Za3 (tOp (rI (fun _ j=>0 < j) fun i j=>.int (i % j)) (tOp (rI CDiv fun i j=>.int (i / j)) (tVar 5) (tC (.int 3000))) (tOp (rIxL K) (tVar 1) (tVar 12))) tNil)))))))) Zbp)
   (tSeq (tIfS (Zbw (tOp (rEq) (tVar 10) (tC (.int 14)))) (tRet (tTup (Za3 (tC (.str "write")) (Za3 (tVar 6) (Za3 (tVar 8) (Za3 (Zb5 ZA6 [] E0 (Za3 (tVar 0) tNil)) tNil)))))) Zbp)
   (tSeq (tIfS (Zbw (tOp (rEq) (tVar 10) (tC (.int 15)))) (tRet (tTup (Za3 (tC (.str "read")) (Za3 (tVar 6) (Za3 (tVar 8) tNil))))) Zbp)
   (tSeq (tIfS (Zbw (tOp (rEq) (tVar 10) (tC (.int 16)))) (tRet (tTup (Za3 (tC (.str "name")) (Za3 (tVar 6) (Za3 (tVar 8) (Za3 (tOp (rIxL K) (tVar 2) (tOp (rI (fun _ j=>0 < j) fun i j=>.int (i % j)) (tVar 5) (tCB (G.Zli K) (Za3 (tVar 2) tNil)))) tNil)))))) Zbp)
   (tRet (tTup (Za3 (tC (.str "seek")) (Za3 (tVar 6) (Za3 (tVar 7) (Za3 (tOp (rIxL K) (tVar 2) (tOp (rI (fun _ j=>0 < j) fun i j=>.int (i % j)) (tVar 5) (tCB (G.Zli K) (Za3 (tVar 2) tNil)))) tNil)))))))))))))))))))))))
def Zke (Za8 Zb0 Zad Zai:Addr) (ZRz:Sp):TS:=
 (tSeq (tAsg (tC .non) (Zam 2))
   (tSeq (tAsg (tC (.str "")) (Zam 3))
   (tSeq (G.ZO5 (fun cls=>cls=Value.ref Za8) (fun cls=>cls=Value.ref Zad) (fun cls=>cls=Value.ref Zb0) (fun cls=>cls=Value.ref Zai) (fun Ex=>(tAsg (G.ZJ7 ZRz [] Ex (Za3 (tVar 0) (Za3 (tVar 1) tNil))) (Zam 2))) (tAsg (tC (.str "empty")) (Zam 3)) (tAsg (tC (.str "field")) (Zam 3)) (tAsg (tC (.str "full")) (Zam 3)) (tAsg (tC (.str "name")) (Zam 3)))
   (tSeq (tIfS (Zbw (tOp (rNe) (tVar 3) (tC (.str "")))) (tRet (tTup (Za3 (tC (.str "refused")) (Za3 (tVar 3) (Za3 (tLst tNil) tNil))))) Zbp)
   (tRet (tVar 2))))))
def Zlz:TS:=
 (tSeq (tAsg (ZJ5 [((tC (.str "make")),(tC (.str "made"))),((tC (.str "get")),(tC (.str "got"))),((tC (.str "put")),(tC (.str "put"))),((tC (.str "copy")),(tC (.str "copied"))),((tC (.str "drop")),(tC (.str "dropped"))),((tC (.str "give")),(tC (.str "given")))]) (Zam 1))
   (tSeq (Zvh (G.ZO6 (tVar 1) (ZJ5 [((tC (.str "write")),(tC (.str "wrote"))),((tC (.str "read")),(tC (.str "read"))),((tC (.str "name")),(tC (.str "named"))),((tC (.str "seek")),(tC (.str "sought")))])))
   (tRet (Zf0 (tVar 1) (tVar 0)))))
def Zly (K:PySem.W.Frag) (Zsh ZA4 Zda Zx3 Zx2:Sp):TS:=
 (tSeq (tAsg (Zb5 Zsh [] E0 (Za3 (tVar 1) (Za3 (tVar 2) tNil))) (Zam 3))
   (tSeq (tAsg (Zb5 Zx2 [] E0 (Za3 (tVar 0) (Za3 (tVar 2) tNil))) (Zam 4))
   (tSeq (tIfS (Zbw (tOp (rNe) (tVar 3) (tC (.str "")))) (tRet (Zb5 Zda [] E0 (Za3 (tVar 4) (Za3 (tTup (Za3 (tC (.str "refused")) (Za3 (tVar 3) (Za3 (tLst tNil) tNil)))) tNil)))) Zbp)
   (tRet (Zb5 Zda [] E0 (Za3 (tVar 4) (Za3 (tTup (Za3 (Zb5 ZA4 [] E0 (Za3 (tOp (rIxT K) (tVar 2) (tC (.int 0))) tNil)) (Za3 (Zb5 Zx3 [] E0 (Za3 (tVar 1) (Za3 (tVar 2) tNil))) (Za3 (tLst tNil) tNil)))) tNil)))))))
def Zjg (K:PySem.W.Frag) (Zda Zvk Zx1:Sp):TS:=
 (tSeq (tAsg (tLst tNil) (Zam 2))
   (tSeq (tAsg (Zf0 (tVar 1) (tC (.str "cells"))) (Zam 3))
   (tSeq (tFor (G.ZPe (tVar 3)) (Zam 4)
   (tSeq (tAsg (Zf0 (tVar 3) (tVar 4)) (Zam 5))
   (Zvh (tBM K "list" Zm9 (tVar 2) (Za3 (tTup (Za3 (tOp (rI0 fun i j=>.int (i - j)) (tVar 4) (tC (.int 1))) (Za3 (tVar 4) (Za3 (tOp (rI0 fun i j=>.int (i - j)) (tOp (rI0 fun i j=>.int (i - j)) (tOp (rIxL K) (tVar 5) (tC (.int 0))) (tC (.int 1))) (tCB (G.Zli K) (Za3 (tOp (rIxL K) (tVar 5) (tC (.int 2))) tNil))) (Za3 (tOp (rIxL K) (tVar 5) (tC (.int 1))) (Za3 (tCB (G.ZLk K) (Za3 (tOp (rIxL K) (tVar 5) (tC (.int 2))) tNil)) (Za3 (tC (.str "kept")) tNil))))))) tNil)))))
   (tSeq (tIfS (tNot (tB (Zb5 Zda [] E0 (Za3 (Zb5 Zx1 [] E0 (Za3 (tVar 0) tNil)) (Za3 (tVar 2) tNil))))) (tRet (tC (.bl false))) Zbp)
   (tRet ((ZA0 (Zb5 Zda [] E0 (Za3 (Zb5 Zvk [] E0 (Za3 (tVar 0) tNil)) (Za3 (Zf0 (tVar 1) (tC (.str "rows"))) tNil))) (Zb5 Zda [] E0 (Za3 (tFld K (tFld K (tVar 0) "heap") "used") (Za3 (Zf0 (tVar 1) (tC (.str "used"))) tNil))))))))))
def ZJm (K:PySem.W.Frag) (Zci:Addr) (Zjo Zes Zrn ZA8 Zbi Zx4 ZA5 Zda Znk Zp8 Zrm ZGm:Sp):TS:=
 (tSeq (tAsg (Zb5 ZA5 [] E0 (Za3 (Zb5 Zes [] E0 (Za3 (tVar 0) (Za3 (tC (.int 0)) tNil))) tNil)) (Zam 1))
   (tSeq (tAsg (tOp (rI0 fun i j=>.int (i + j)) (tC (.int 1)) (tOp (rI (fun _ j=>0 < j) fun i j=>.int (i % j)) (Zb5 Zes [] E0 (Za3 (tVar 0) (Za3 (tC (.int 1)) tNil))) (tC (.int 5)))) (Zam 2))
   (tSeq (tAsg (G.tLC (Zyp (Za3 (tVar 2) tNil)) [0] G.Zqe (tOp (rI0 fun i j=>.int (i + j)) (tC (.int 3)) (tOp (rI (fun _ j=>0 < j) fun i j=>.int (i % j)) (Zb5 Zbi [] E0 (Za3 (Zb5 Zes [] E0 (Za3 (tVar 1) (Za3 (tC (.int 1)) tNil))) (Za3 (tOp (rI0 fun i j=>.int (i + j)) (tC (.int 48271)) (tOp (rI CMul fun i j=>.int (i * j)) (tVar 0) (tVar 0))) tNil))) (tC (.int 7))))) (Zam 3))
   (tSeq (tAsg (Zb5 Zx4 [] E0 (Za3 (Zb5 Zes [] E0 (Za3 (tVar 0) (Za3 (tC (.int 2)) tNil))) (Za3 (tC (.int 4)) tNil))) (Zam 4))
   (tSeq (tAsg (Zb5 ZGm [] E0 (Za3 (Zb5 ZA8 [] E0 (Za3 (Zb5 Zes [] E0 (Za3 (tVar 0) (Za3 (tC (.int 0)) tNil))) tNil)) tNil)) (Zam 5))
   (tSeq (tAsg (G.tLC (Zyp (Za3 (tVar 2) tNil)) [3] G.Zqe (tTup (Za3 (tOp (rIxS) (tC (.str "abcde")) (tVar 0)) (Za3 (tOp (rIxL K) (tVar 1) (tVar 0)) tNil)))) (Zam 6))
   (tSeq (tAsg (tLst (Za3 (Zvg Zci Zjo [] E0 (Za3 (tVar 1) (Za3 (tVar 5) (Za3 (tVar 6) tNil)))) (Za3 (Zvg Zci Zjo [] E0 (Za3 (tVar 1) (Za3 (tVar 5) (Za3 (tVar 6) tNil)))) tNil))) (Zam 7))
   (tSeq (tAsg (tLst (Za3 (Zb5 Zp8 [] E0 (Za3 (tVar 1) (Za3 (tVar 3) tNil))) (Za3 (Zb5 Zp8 [] E0 (Za3 (tVar 1) (Za3 (tVar 3) tNil))) tNil))) (Zam 8))
   (tSeq (tAsg (tLst tNil) (Zam 9))
   (tSeq (tFor (Zut K (tSl (rSlL K) (tVar 0) (ZGk (tC (.int 3))) (ZGk (tC (.int 63))))) (Zam 10)
   (tSeq (tAsg (Zb5 Zrn [] E0 (Za3 (tVar 10) (Za3 (tVar 3) (Za3 (tVar 4) tNil)))) (Zam 11))
   (tSeq (Zvh (tBM K "list" Zm9 (tVar 9) (Za3 (tTup (Za3 (tVar 11) (Za3 (Zb5 Zrn [] E0 (Za3 (tVar 10) (Za3 (tVar 3) (Za3 (tVar 4) tNil)))) tNil))) tNil)))
   (tSeq (tIfS (tNot (tB (Zb5 Zrm [] E0 (Za3 (tOp (rIxL K) (tVar 7) (tC (.int 0))) (Za3 (tOp (rIxL K) (tVar 8) (tC (.int 0))) (Za3 (tVar 11) tNil)))))) (tRet (tC (.bl false))) Zbp)
   (tIfS ((tAnd (Zbw (tOp (rEq) (tOp (rI (fun _ j=>0 < j) fun i j=>.int (i % j)) (tVar 10) (tC (.int 3))) (tC (.int 1)))) (tNot (tB (Zb5 Zrm [] E0 (Za3 (tOp (rIxL K) (tVar 7) (tC (.int 1))) (Za3 (tOp (rIxL K) (tVar 8) (tC (.int 1))) (Za3 (tVar 11) tNil)))))))) (tRet (tC (.bl false))) Zbp)))))
   (tSeq (tFor (Zut K (tVar 9)) (gTup K 2 (ZKt (Zam 12) (ZKt (Zam 13) gNil)))
   (tIfS (tNot (tB (Zb5 Zda [] E0 (Za3 (tVar 12) (Za3 (tVar 13) tNil))))) (tRet (tC (.bl false))) Zbp))
   (tRet ((ZA0 (Zb5 Znk [] E0 (Za3 (tOp (rIxL K) (tVar 7) (tC (.int 0))) (Za3 (tOp (rIxL K) (tVar 8) (tC (.int 0))) tNil))) (Zb5 Znk [] E0 (Za3 (tOp (rIxL K) (tVar 7) (tC (.int 1))) (Za3 (tOp (rIxL K) (tVar 8) (tC (.int 1))) tNil)))))))))))))))))
structure TxC (K:PySem.W.Frag) (Zax Zav:Addr):Prop where
 Zc5:Cls K Zax
 Zcd:Zay K Zax "birth"
 Zew:Zay K Zax "bulk"
 Zev:Zay K Zax "tone"
 Ze0:Zay K Zax "load"
 Zcm:Zay K Zax "fields"
 Zca:Cls K Zav
 Zfg:Zay K Zav "room"
 Zbg:Zay K Zav "cells"
 Zdz:Zay K Zav "used"
 Zeu:Zay K Zav "born"
 Zz4:EqD K Zax
structure CellO (CC:Addr) (H:Hp) (p fa:Addr) (birth bulk tone load:Int) (fl:List V):Prop where
 o:∃ dx,H p=some (.ins CC dx (Zf6 birth bulk tone load fa))
 f:H fa=some (.lst fl)
structure HpO (CH:Addr) (H:Hp) (hp ca:Addr) (room used born:Int) (cs:List V):Prop where
 o:∃ dx,H hp=some (.ins CH dx (Zf3 room ca used born))
 c:H ca=some (.lst cs)
def Zl8 (CC:Addr):Sp:=fun vs H Q E=>∃ p birth many bulk tone,vs=[.ref p,.int birth,.int many,.int bulk,.int tone]∧∃ dx,H p=some (.ins CC dx [])∧0≤many∧many≤1000∧
 ∀ fa H',H fa=none→H' p=some (.ins CC dx (Zf6 birth bulk tone 0 fa))→H' fa=some (.lst (List.replicate many.toNat V.non))→(∀ b o,H b=some o→b≠p→H' b=some o)→Q .non H'
def Zj8 (CC:Addr):Sp:=fun vs H Q E=>∃ p,vs=[.ref p]∧∃ fa birth bulk tone load fl,CellO CC H p fa birth bulk tone load fl∧Q (.int (1 + fl.length + bulk)) H
def Zl5 (CH:Addr):Sp:=fun vs H Q E=>∃ p room,vs=[.ref p,.int room]∧∃ dx,H p=some (.ins CH dx [])∧
 ∀ ca H',H ca=none→H' p=some (.ins CH dx (Zf3 room ca 0 0))→H' ca=some (.lst [])→(∀ b o,H b=some o→b≠p→H' b=some o)→Q .non H'
def Zl6 (CH:Addr):Sp:=fun vs H Q E=>∃ hp,vs=[.ref hp]∧∃ ca room used born cs,HpO CH H hp ca room used born cs∧Q (.int (room - used)) H
def plc (cs:List V):List Int:=((List.range cs.length).filter fun i=>!decide (cs[i]? =some V.non)).map fun (i:Nat)=>(i:Int)
def Zj7 (CH:Addr):Sp:=fun vs H Q E=>∃ hp,vs=[.ref hp]∧∃ ca room used born cs,HpO CH H hp ca room used born cs∧cs.length≤1000∧∀ l,H l=none→Q (.ref l) (upd H l (.lst ((plc cs).map V.int)))
def putN (cs:List V) (v:V):List V:=if V.non∈cs then cs.set (cs.idxOf V.non) v else cs ++ [v]
def Zn4 (K:PySem.W.Frag) (CH:Addr):Sp:=fun vs H Q E=>∃ hp v,vs=[.ref hp,v]∧∃ ca room used born cs,HpO CH H hp ca room used born cs∧OkN K H cs∧cs.length≤1000∧Q (.int (cs.idxOf V.non)) (upd H ca (.lst (putN cs v)))
def Zl4 (K:PySem.W.Frag) (CC CH CF:Addr):Sp:=fun vs H Q E=>∃ hp many bulk tone,vs=[.ref hp,.int many,.int bulk,.int tone]∧∃ ca dx room used born cs,H hp=some (.ins CH dx (Zf3 room ca used born))∧H ca=some (.lst cs)∧OkN K H cs∧cs.length≤1000∧0≤many∧many≤1000∧
 (room - used < 1 + many + bulk→∀ H',Same H H'→E (.ref CF) none H')∧
 (1 + many + bulk≤room - used→∀ p fa H',H p=none→H fa=none→Fm [hp,ca] H H'→H' hp=some (.ins CH dx (Zf3 room ca (used + (1 + many + bulk)) (born + 1)))→H' ca=some (.lst (putN cs (.ref p)))→
  CellO CC H' p fa (born + 1) bulk tone 0 (List.replicate many.toNat V.non)→Q (.int (cs.idxOf V.non)) H')
section
variable {K:PySem.W.Frag}{Zax Zav Zb0:Addr}{H:Hp}{Q:VK}{E:XK}{n:St→Hp→Prop}{bk ct:St→Hp→Prop}
theorem Zzu {p:Addr} (T:TxC K Zax Zav) (q:∃ fa birth bulk tone load fl,CellO Zax H p fa birth bulk tone load fl∧Q (.int (1 + fl.length + bulk)) H):Zkm K ⟨n,Q,bk,ct⟩ [some (.ref p)] H:=by
 obtain ⟨fa,birth,bulk,tone,load,fl,⟨⟨dx,h1⟩,h2⟩,h⟩:=q;unfold Zkm;walk_at "ev";refine Zao h1 T.Zc5 T.Zcm Zga ?_;walk_at "ev";refine Zhl (SqL.of h2) ?_;walk_at "ev";refine Zao h1 T.Zc5 T.Zew Zq9 ?_;walk_at "ev";exact h
theorem Zth {p:Addr}{birth many bulk tone:Int} (T:TxC K Zax Zav) (q:∃ dx,H p=some (.ins Zax dx [])∧0≤many∧many≤1000∧
 ∀ fa H',H fa=none→H' p=some (.ins Zax dx (Zf6 birth bulk tone 0 fa))→H' fa=some (.lst (List.replicate many.toNat V.non))→(∀ b o,H b=some o→b≠p→H' b=some o)→Q .non H'):
  Zhd K ⟨fun _ H'=>Q .non H',Q,bk,ct⟩ [some (.ref p),some (.int birth),some (.int many),some (.int bulk),some (.int tone)] H:=by
 obtain ⟨dx,hp,h0,h1,h⟩:=q;unfold Zhd;walk_at "ev";refine ⟨p,Zax,dx,[],rfl,hp,T.Zc5,T.Zcd,by decide,?_⟩;walk_at "ev";refine ⟨p,Zax,dx,_,rfl,Za2,T.Zc5,T.Zew,by show 1 < 1000;decide,?_⟩;rw [Zdx];walk_at "ev";refine ⟨p,Zax,dx,_,rfl,Za2,T.Zc5,T.Zev,by show 2 < 1000;decide,?_⟩;rw [Zdx];walk_at "ev";refine ⟨p,Zax,dx,_,rfl,Za2,T.Zc5,T.Ze0,by show 3 < 1000;decide,?_⟩;rw [Zdx];walk_at "ev";refine ⟨by decide,fun l0 hl0=>?_⟩;walk_at "ev";refine ⟨l0,many,_,rfl,rfl,Za2,by omega,by omega,?_,fun fa hfa=>?_⟩
 ·show 1 * many.toNat≤sizeLine;exact Zat (by omega)
 have npl:p≠l0:=Za5 Za2 hl0;have npf:p≠fa:=Za5 ((Za9 npl).trans Za2) hfa;walk_at "ev";refine ⟨p,Zax,dx,_,rfl,(Za9 npf).trans ((Za9 npl).trans Za2),T.Zc5,T.Zcm,by show 4 < 1000;decide,?_⟩;have nfa:H fa=none:=by
  have e:=hfa;have n1:fa≠l0:=fun z=>by rw [z,Za2] at e;cases e
  rw [Za9 n1,Za9 npf.symm] at e;exact e
 refine h fa _ nfa (Za2.trans (congrArg (fun l=>some (HO.ins Zax dx l)) ZN3)) ?_ fun b o hb hne=>?_
 ·rw [Za9 npf.symm,Za2];have e:(List.replicate many.toNat [V.non]).flatten=List.replicate many.toNat V.non:=by
   generalize many.toNat=k
   induction k with
   | zero=>rfl
   | succ k ih=>rw [List.replicate_succ,List.replicate_succ,List.flatten_cons,ih];rfl
  rw [e]
 ·have e1:upd H p (HO.ins Zax dx (putF "load" (V.int 0) (putF "tone" (V.int tone) (putF "bulk" (V.int bulk) (putF "birth" (V.int birth) []))))) b=some o:=(Za9 hne).trans hb;have n1:b≠l0:=Za5 e1 hl0;have n2:b≠fa:=Za5 ((Za9 n1).trans e1) hfa;rw [Za9 hne,Za9 n2,Za9 n1];exact e1
theorem Ztf {p:Addr}{room:Int} (T:TxC K Zax Zav) (q:∃ dx,H p=some (.ins Zav dx [])∧
 ∀ ca H',H ca=none→H' p=some (.ins Zav dx (Zf3 room ca 0 0))→H' ca=some (.lst [])→(∀ b o,H b=some o→b≠p→H' b=some o)→Q .non H'):
  Zhb K ⟨fun _ H'=>Q .non H',Q,bk,ct⟩ [some (.ref p),some (.int room)] H:=by
 obtain ⟨dx,hp,h⟩:=q;unfold Zhb;walk_at "ev";refine ⟨p,Zav,dx,[],rfl,hp,T.Zca,T.Zfg,by decide,?_⟩;walk_at "ev";refine ⟨by decide,fun ca hca=>?_⟩;walk_at "ev";have npc:p≠ca:=Za5 Za2 hca;refine ⟨p,Zav,dx,_,rfl,(Za9 npc).trans Za2,T.Zca,T.Zbg,by show 1 < 1000;decide,?_⟩;walk_at "ev";refine ⟨p,Zav,dx,_,rfl,Za2,T.Zca,T.Zdz,by show 2 < 1000;decide,?_⟩;rw [Zdx];walk_at "ev";refine ⟨p,Zav,dx,_,rfl,Za2,T.Zca,T.Zeu,by show 3 < 1000;decide,?_⟩;rw [Zdx];have nca:H ca=none:=by
  have e:=hca;rw [Za9 npc.symm] at e;exact e
 refine h ca _ nca (Za2.trans (congrArg (fun l=>some (HO.ins Zav dx l)) ZMq)) ?_ fun b o hb hne=>?_
 ·rw [Za9 npc.symm,Za2]
 ·rw [Za9 hne,Za9 (Za5 ((Za9 hne).trans hb) hca),Za9 hne];exact hb
theorem ZD6 {hp:Addr} (T:TxC K Zax Zav) (q:∃ ca room used born cs,HpO Zav H hp ca room used born cs∧Q (.int (room - used)) H):Zm6 K ⟨n,Q,bk,ct⟩ [some (.ref hp)] H:=by
 obtain ⟨ca,room,used,born,cs,⟨⟨dx,h1⟩,h2⟩,h⟩:=q;unfold Zm6;walk_at "ev";refine Zao h1 T.Zca T.Zfg Zys ?_;walk_at "ev";refine Zao h1 T.Zca T.Zdz Zkw ?_;walk_at "ev";exact h
theorem Zzo {hp:Addr} (T:TxC K Zax Zav) (q:∃ ca room used born cs,HpO Zav H hp ca room used born cs∧cs.length≤1000∧∀ l,H l=none→Q (.ref l) (upd H l (.lst ((plc cs).map V.int)))):Zkk K ⟨n,Q,bk,ct⟩ [some (.ref hp)] H:=by
 obtain ⟨ca,room,used,born,cs,⟨⟨dx,h1⟩,h2⟩,hl,h⟩:=q;unfold Zkk;walk_at "ev";refine ZEt ?_;walk_at "ev";refine Zao h1 T.Zca T.Zbg Zby ?_;walk_at "ev";refine Zhl (SqL.of h2) ?_;walk_at "ev";refine ⟨_,rfl,by omega,by omega,?_⟩;refine ZMg (n:=cs.length) (by omega) (p:=fun i=>!decide (cs[i]? =some V.non)) (f:=fun i=>.int i) (by omega) ?_ ?_ ?_
 ·intro i hi k hk;walk_at "caps";walk_at "ev";refine Zao h1 T.Zca T.Zbg Zby ?_;walk_at "ev";refine Zbe (SqL.of h2) (Zal (List.getElem?_eq_getElem hi)) ?_;walk_at "ev";refine ZR6 ?_;rw [List.getElem?_eq_getElem hi] at hk;walk_at "ev";simpa using hk
 ·intro i hi _ k hk;walk_at "caps";walk_at "ev";exact hk
 ·have e:((plc cs).map V.int)=((List.range cs.length).filter fun i=>!decide (cs[i]? =some V.non)).map fun (i:Nat)=>V.int i:=by
   unfold plc;rw [List.map_map];rfl
  rw [← e];exact h
theorem ZFa {hp:Addr}{v:V} (T:TxC K Zax Zav) (q:∃ ca room used born cs,HpO Zav H hp ca room used born cs∧OkN K H cs∧cs.length≤1000∧Q (.int (cs.idxOf V.non)) (upd H ca (.lst (putN cs v)))):Zof K ⟨n,Q,bk,ct⟩ [some (.ref hp),some v,none] H:=by
 obtain ⟨ca,room,used,born,cs,⟨⟨dx,h1⟩,h2⟩,ho,hl,h⟩:=q;unfold Zof;walk_at "ev";refine Zao h1 T.Zca T.Zbg Zby ?_;walk_at "ev";refine ZMm (SqL.of h2) ho ?_;walk_at "ev";refine ifnd (fun hn=>?_) (fun hn=>?_)
 ·walk_at "ev";refine Zao h1 T.Zca T.Zbg Zby ?_;refine ⟨.inl ⟨rfl,_,SqL.of h2⟩,?_⟩;walk_at "ev";refine ⟨ca,cs,v,rfl,rfl,h2,Nat.lt_of_le_of_lt hl (by decide),?_⟩;walk_at "ev";have hne:hp≠ca:=ZEa h1 h2 (fun z=>by cases z);refine Zao ((Za9 hne).trans h1) T.Zca T.Zbg Zby ?_;walk_at "ev";refine Zhl (SqL.of Za2) ?_;walk_at "ev";have e1:(((cs ++ [v]).length:Int) - 1)=(cs.idxOf V.non:Nat):=by
   rw [List.length_append,List.idxOf_eq_length hn];simp
  have e2:putN cs v=cs ++ [v]:=by unfold putN;rw [if_neg hn]
  rw [e1,← e2];exact h
 ·walk_at "ev";refine Zao h1 T.Zca T.Zbg Zby ?_;refine ⟨.inl ⟨rfl,_,SqL.of h2⟩,?_⟩;walk_at "ev";refine ⟨ca,cs,rfl,rfl,SqL.of h2,ho,hn,?_⟩;walk_at "ev";refine Zao h1 T.Zca T.Zbg Zby ?_;walk_at "ev";have hi:cs.idxOf V.non < cs.length:=List.idxOf_lt_length_iff.mpr hn;refine ⟨ca,cs,_,_,rfl,rfl,h2,Zfh hi,?_⟩;have e2:putN cs v=cs.set (cs.idxOf V.non) v:=by unfold putN;rw [if_pos hn]
  rw [← e2];walk_at "ev";exact h
theorem ZD5 {hp:Addr}{many bulk tone:Int} (T:TxC K Zax Zav) (q:∃ ca dx room used born cs,H hp=some (.ins Zav dx (Zf3 room ca used born))∧H ca=some (.lst cs)∧OkN K H cs∧cs.length≤1000∧0≤many∧many≤1000∧
 (room - used < 1 + many + bulk→∀ H',Same H H'→E (.ref Zb0) none H')∧
 (1 + many + bulk≤room - used→∀ p fa H',H p=none→H fa=none→Fm [hp,ca] H H'→H' hp=some (.ins Zav dx (Zf3 room ca (used + (1 + many + bulk)) (born + 1)))→H' ca=some (.lst (putN cs (.ref p)))→
  CellO Zax H' p fa (born + 1) bulk tone 0 (List.replicate many.toNat V.non)→Q (.int (cs.idxOf V.non)) H')):
  Zm5 K Zax Zb0 Zav (Zl8 Zax) (Zj8 Zax) (Zl6 Zav) (Zn4 K Zav) E ⟨n,Q,bk,ct⟩ [some (.ref hp),some (.int many),some (.int bulk),some (.int tone),none] H:=by
 obtain ⟨ca,dx,room,used,born,cs,h1,h2,ho,hl,m0,m1,hE,hQ⟩:=q;have hne:hp≠ca:=ZEa h1 h2 (fun z=>by cases z);unfold Zm5;walk_at "ev";refine Zao h1 T.Zca T.Zeu Zyt ?_;walk_at "ev";intro p dp np ndp ned;refine ⟨p,_,many,_,_,rfl,dp,Za2,m0,m1,fun fa H1 nfa c1 c2 f3=>⟨rfl,?_⟩⟩;have nfa':H fa=none:=by
  have e:=nfa
  by_cases z1:fa=p
  ·rw [z1,Za2] at e;cases e
  ·rw [Za9 z1] at e
   by_cases z2:fa=dp
   ·rw [z2,Za2] at e;cases e
   ·rw [Za9 z2] at e;exact e
 have sm:Same H H1:=fun b o hb=>by
  refine f3 b o ?_ (Za5 hb np);rw [Za9 (Za5 hb np),Za9 (Za5 hb ndp)];exact hb
 have co:CellO Zax H1 p fa (born + 1) bulk tone 0 (List.replicate many.toNat V.non):=⟨⟨dp,c1⟩,c2⟩;have el:((List.replicate many.toNat V.non).length:Int)=many:=by rw [List.length_replicate];omega
 walk_at "ev";refine ⟨p,dp,_,rfl,c1,Znr,?_⟩;walk_at "ev";refine ⟨p,rfl,fa,_,_,_,_,_,co,?_⟩;walk_at "ev";refine ⟨hp,dx,_,rfl,sm _ _ h1,Zyr,?_⟩;walk_at "ev";refine ⟨hp,rfl,ca,room,used,born,cs,⟨⟨dx,sm _ _ h1⟩,sm _ _ h2⟩,?_⟩;walk_at "ev";rw [el];refine ifd (fun hf=>?_) (fun hf=>?_)
 ·walk_at "ev";exact ⟨by decide,hE hf H1 sm⟩
 ·walk_at "ev";refine Zao c1 T.Zc5 T.Zcd Zel ?_;walk_at "ev";refine ⟨hp,Zav,dx,_,rfl,sm _ _ h1,T.Zca,T.Zeu,by show 4 < 1000;decide,?_⟩;rw [Zw3];walk_at "ev";refine Zao Za2 T.Zca T.Zdz Zkw ?_;walk_at "ev";have n1:p≠hp:=(Za5 h1 np).symm;have n2:fa≠hp:=(Za5 h1 nfa').symm;have n3:p≠ca:=(Za5 h2 np).symm;have n4:fa≠ca:=(Za5 h2 nfa').symm;refine ⟨p,dp,_,rfl,(Za9 n1).trans c1,Znr,?_⟩;walk_at "ev";refine ⟨p,rfl,fa,_,_,_,_,_,⟨⟨dp,(Za9 n1).trans c1⟩,(Za9 n2).trans c2⟩,?_⟩;walk_at "ev";rw [el];refine ⟨hp,Zav,dx,_,rfl,Za2,T.Zca,T.Zdz,by show 4 < 1000;decide,?_⟩;rw [Zw2,Zdx];walk_at "ev";refine ⟨hp,dx,_,rfl,Za2,ZC8,?_⟩;walk_at "ev";refine ⟨hp,.ref p,rfl,ca,room,_,_,cs,⟨⟨dx,Za2⟩,(Za9 hne.symm).trans (sm _ _ h2)⟩,?_,hl,?_⟩
  ·intro y hy;rcases ho y hy with e | ⟨a,C,d,fs,e,ha,hc,he⟩
   ·exact .inl e
   ·refine .inr ?_
    by_cases z:a=hp
    ·rw [z] at ha e;rw [h1] at ha;cases ha;exact ⟨hp,_,_,_,e,Za2,hc,he⟩
    ·exact ⟨a,C,d,fs,e,(Za9 z).trans (sm _ _ ha),hc,he⟩
  ·refine hQ (by omega) p fa _ np nfa' ?_ ((Za9 hne).trans Za2) Za2 ⟨⟨dp,?_⟩,?_⟩
   ·intro b o hb hn;have b1:b≠hp:=fun z=>hn (by rw [z];exact List.mem_cons_self);have b2:b≠ca:=fun z=>hn (by rw [z];exact List.mem_cons_of_mem _ List.mem_cons_self);rw [Za9 b2,Za9 b1];exact sm _ _ hb
   ·rw [Za9 n3,Za9 n1];exact c1
   ·rw [Za9 n4,Za9 n2];exact c2
end
structure Ce where
 birth:Int
 bulk:Int
 tone:Int
 load:Int
 fl:List (Option Int)
 deriving DecidableEq
structure Sw where
 sense:Int
 phase:Str
 grey:List Int
 looked:Int
 turn:Int
 at':Int
 stop:Int
 walks:Int
 looks:Int
 passes:Int
 loss:V
structure Wm where
 room:Int
 used:Int
 born:Int
 cells:List (Option Ce)
 hands:List (Str×List (Option Int))
 names:List (Str×(Int×Int))
 w:Int
 tells:Int
 sw:Sw
structure Wa where
 wo:Addr
 hp:Addr
 ca:Addr
 ki:Addr
 lk:Addr
 hl:Addr
 nm:Addr
 sw:Addr
 gr:Addr
 hs:List (Addr×Addr)
 cs:List (Option (Addr×Addr))
 ns:List Addr
def oV:Option Int→V
 | none=>.non
 | some i=>.int i
def pV:Option (Addr×Addr)→V
 | none=>.non
 | some p=>.ref p.1
structure Frm (s:Nat) (t0:Nat→Prop) (H H':Hp) (T T':Tg):Prop where
 kp:∀ b o,H b=some o→(T b).1=s→¬ t0 (T b).2→H' b=some o
 tg:∀ b o,H b=some o→T' b=T b
section
variable {CHd CC:Addr}{H H':Hp}{T T':Tg}{s j i:Nat}{t0:Nat→Prop}
theorem Frm.at {a:Addr}{o:HO}{m:Nat} (f:Frm s t0 H H' T T') (ht:T a=(s,m)) (n:¬ t0 m) (h:H a=some o):H' a=some o:=f.kp a o h (by rw [ht]) (by rw [ht];exact n)
theorem Frm.tag {a:Addr}{o:HO}{x:Nat×Nat} (f:Frm s t0 H H' T T') (h:H a=some o) (ht:T a=x):T' a=x:=(f.tg a o h).trans ht
theorem Frm.of_upd {a:Addr}{o:HO}{m:Nat} (ht:T a=(s,m)):Frm s (·=m) H (upd H a o) T T:=⟨fun b u h e n=>by
  have:b≠a:=fun z=>n (by rw [z,ht]);rw [Za9 this];exact h,fun _ _ _=>rfl⟩
theorem Frm.of_same (e:Same H H'):Frm s (fun _=>False) H H' T T:=⟨fun b o h _ _=>e b o h,fun _ _ _=>rfl⟩
theorem Frm.of_other {s':Nat} (e:Stp s' H H' T T') (n:s≠s'):Frm s (fun _=>False) H H' T T':=⟨fun b o h z _=>e.kp b o h (by rw [z];exact n),e.tg⟩
structure HdO (CHd:Addr) (H:Hp) (T:Tg) (s j:Nat) (p:Addr×Addr) (m:Str×List (Option Int)):Prop where
 t1:T p.1=(s,20 + 2 * j)
 t2:T p.2=(s,21 + 2 * j)
 o1:∃ dx,H p.1=some (.ins CHd dx (ZEw m.1 p.2))
 o2:H p.2=some (.lst (m.2.map oV))
theorem HdO.mv {p:Addr×Addr}{m:Str×List (Option Int)} (h:HdO CHd H T s j p m) (f:Frm s t0 H H' T T') (n1:¬ t0 (20 + 2 * j)) (n2:¬ t0 (21 + 2 * j)):HdO CHd H' T' s j p m:=by
 obtain ⟨a1,a2,⟨dx,b1⟩,b2⟩:=h;exact ⟨f.tag b1 a1,f.tag b2 a2,⟨dx,f.at a1 n1 b1⟩,f.at a2 n2 b2⟩
structure CeO (CC:Addr) (H:Hp) (T:Tg) (s i:Nat) (p:Addr×Addr) (c:Ce):Prop where
 t1:T p.1=(s,100 + 2 * i)
 t2:T p.2=(s,101 + 2 * i)
 o1:∃ dx,H p.1=some (.ins CC dx (Zf6 c.birth c.bulk c.tone c.load p.2))
 o2:H p.2=some (.lst (c.fl.map oV))
theorem CeO.mv {p:Addr×Addr}{c:Ce} (h:CeO CC H T s i p c) (f:Frm s t0 H H' T T') (n1:¬ t0 (100 + 2 * i)) (n2:¬ t0 (101 + 2 * i)):CeO CC H' T' s i p c:=by
 obtain ⟨a1,a2,⟨dx,b1⟩,b2⟩:=h;exact ⟨f.tag b1 a1,f.tag b2 a2,⟨dx,f.at a1 n1 b1⟩,f.at a2 n2 b2⟩
def CeP (CC:Addr) (H:Hp) (T:Tg) (s i:Nat):Option (Addr×Addr)→Option Ce→Prop
 | none,none=>True
 | some p,some c=>CeO CC H T s i p c
 | _,_=>False
theorem CeP.mv {p:Option (Addr×Addr)}{c:Option Ce} (h:CeP CC H T s i p c) (f:Frm s t0 H H' T T') (n1:¬ t0 (100 + 2 * i)) (n2:¬ t0 (101 + 2 * i)):CeP CC H' T' s i p c:=by
 cases p with
 | none=>cases c with
  | none=>trivial
  | some c=>exact h.elim
 | some p=>cases c with
  | none=>exact h.elim
  | some c=>exact CeO.mv h f n1 n2
end
def NmO (H:Hp) (T:Tg) (t:Addr) (m:Str×(Int×Int)):Prop:=T t=(0,0)∧H t=some (.tup [.int m.2.1,.int m.2.2])
structure Cs where
 W:Addr
 H:Addr
 C:Addr
 K:Addr
 D:Addr
 S:Addr
 F:Addr
 E:Addr
 L:Addr
structure WB (X:Cs) (H:Hp) (T:Tg) (s:Nat) (A:Wa) (w tells:Int):Prop where
 tw:T A.wo=(s,0)
 tk:T A.ki=(0,0)
 tl:T A.lk=(0,0)
 tn:T A.hl=(s,5)
 ow:∃ dx,H A.wo=some (.ins X.W dx (Zik A.hp A.ki A.hl A.nm A.sw))
 ok:∃ dx,H A.ki=some (.ins X.K dx (Zr2 A.lk tells))
 ol:∃ dx,(w=0∧H A.lk=some (.ins X.F dx []))∨(w=1∧H A.lk=some (.ins X.E dx []))∨(w=2∧H A.lk=some (.ins X.L dx []))
 on:H A.hl=some (.lst (A.hs.map fun p=>V.ref p.1))
structure WH (X:Cs) (H:Hp) (T:Tg) (s:Nat) (A:Wa) (room used born:Int):Prop where
 th:T A.hp=(s,1)
 tc:T A.ca=(s,2)
 oh:∃ dx,H A.hp=some (.ins X.H dx (Zf3 room A.ca used born))
 oc:H A.ca=some (.lst (A.cs.map pV))
def nmK (M:List (Str×(Int×Int))) (ns:List Addr):List ((Int ⊕ Str)×V):=List.zipWith (fun (m:Str×(Int×Int)) (t:Addr)=>(Sum.inr m.1,V.ref t)) M ns
structure WN (H:Hp) (T:Tg) (s:Nat) (A:Wa) (names:List (Str×(Int×Int))):Prop where
 tm:T A.nm=(s,6)
 om:H A.nm=some (.dK (nmK names A.ns))
 nms:Al (NmO H T) A.ns names
structure WS (X:Cs) (H:Hp) (T:Tg) (s:Nat) (A:Wa) (S:Sw):Prop where
 ts:T A.sw=(s,7)
 tg:T A.gr=(s,8)
 os:∃ dx,H A.sw=some (.ins X.S dx (Zjm S.sense S.phase A.gr S.looked S.turn S.at' S.stop S.walks S.looks S.passes S.loss))
 og:H A.gr=some (.lst (S.grey.map V.int))
structure WD (X:Cs) (H:Hp) (T:Tg) (s:Nat) (hs:List (Addr×Addr)) (hands:List (Str×List (Option Int))):Prop where
 lh:hs.length=hands.length
 l5:hs.length≤30
 hd:∀ (j:Nat) p m,hs[j]? =some p→hands[j]? =some m→HdO X.D H T s j p m
structure WC (X:Cs) (H:Hp) (T:Tg) (s:Nat) (cs:List (Option (Addr×Addr))) (cells:List (Option Ce)):Prop where
 lc:cs.length=cells.length
 ce:∀ (i:Nat) p c,cs[i]? =some p→cells[i]? =some c→CeP X.C H T s i p c
structure WJ (X:Cs) (H:Hp) (T:Tg) (s:Nat) (A:Wa) (M:Wm):Prop where
 jb:WB X H T s A M.w M.tells
 jh:WH X H T s A M.room M.used M.born
 jn:WN H T s A M.names
 js:WS X H T s A M.sw
 jd:WD X H T s A.hs M.hands
 jc:WC X H T s A.cs M.cells
section
variable {X:Cs}{H H':Hp}{T T':Tg}{s:Nat}{t0:Nat→Prop}{A:Wa}{M:Wm}
theorem WB.mv {w tells:Int} (j:WB X H T s A w tells) (f:Frm s t0 H H' T T') (f0:∀ b o,H b=some o→T b=(0,0)→H' b=some o) (n0:¬ t0 0) (n5:¬ t0 5):WB X H' T' s A w tells:=by
 obtain ⟨tw,tk,tl,tn,⟨d1,ow⟩,⟨d3,ok⟩,⟨d4,ol⟩,on⟩:=j;have hlk:∃ o,H A.lk=some o:=by
  rcases ol with ⟨_,e⟩ | ⟨_,e⟩ | ⟨_,e⟩
  ·exact ⟨_,e⟩
  ·exact ⟨_,e⟩
  ·exact ⟨_,e⟩
 obtain ⟨olk,elk⟩:=hlk;refine ⟨f.tag ow tw,f.tag ok tk,f.tag elk tl,f.tag on tn,⟨d1,f.at tw n0 ow⟩,⟨d3,f0 _ _ ok tk⟩,⟨d4,?_⟩,f.at tn n5 on⟩;rcases ol with ⟨z,e⟩ | ⟨z,e⟩ | ⟨z,e⟩
 ·exact .inl ⟨z,f0 _ _ e tl⟩
 ·exact .inr (.inl ⟨z,f0 _ _ e tl⟩)
 ·exact .inr (.inr ⟨z,f0 _ _ e tl⟩)
theorem WH.mv {room used born:Int} (j:WH X H T s A room used born) (f:Frm s t0 H H' T T') (n1:¬ t0 1) (n2:¬ t0 2):WH X H' T' s A room used born:=by
 obtain ⟨th,tc,⟨d,oh⟩,oc⟩:=j;exact ⟨f.tag oh th,f.tag oc tc,⟨d,f.at th n1 oh⟩,f.at tc n2 oc⟩
theorem WN.mv {names:List (Str×(Int×Int))} (j:WN H T s A names) (f:Frm s t0 H H' T T') (f0:∀ b o,H b=some o→T b=(0,0)→H' b=some o) (n6:¬ t0 6):WN H' T' s A names:=by
 obtain ⟨tm,om,nms⟩:=j;exact ⟨f.tag om tm,f.at tm n6 om,nms.mono fun t m ⟨z1,z2⟩=>⟨f.tag z2 z1,f0 _ _ z2 z1⟩⟩
theorem WS.mv {S:Sw} (j:WS X H T s A S) (f:Frm s t0 H H' T T') (n7:¬ t0 7) (n8:¬ t0 8):WS X H' T' s A S:=by
 obtain ⟨ts,tg,⟨d,os⟩,og⟩:=j;exact ⟨f.tag os ts,f.tag og tg,⟨d,f.at ts n7 os⟩,f.at tg n8 og⟩
theorem WD.mv {hs:List (Addr×Addr)}{hands:List (Str×List (Option Int))} (j:WD X H T s hs hands) (f:Frm s t0 H H' T T') (n:∀ k,20≤k→k < 100→¬ t0 k):WD X H' T' s hs hands:=by
 obtain ⟨lh,l5,hd⟩:=j;refine ⟨lh,l5,fun j p m e1 e2=>?_⟩;have hl:j < hs.length:=(List.getElem?_eq_some_iff.mp e1).1;exact (hd j p m e1 e2).mv f (n _ (by omega) (by omega)) (n _ (by omega) (by omega))
theorem WC.mv {cs:List (Option (Addr×Addr))}{cells:List (Option Ce)} (j:WC X H T s cs cells) (f:Frm s t0 H H' T T') (n:∀ k,100≤k→¬ t0 k):WC X H' T' s cs cells:=by
 obtain ⟨lc,ce⟩:=j;exact ⟨lc,fun i p c e1 e2=>(ce i p c e1 e2).mv f (n _ (by omega)) (n _ (by omega))⟩
theorem WJ.mv (j:WJ X H T s A M) (f:Frm s (fun _=>False) H H' T T') (f0:∀ b o,H b=some o→T b=(0,0)→H' b=some o):WJ X H' T' s A M:=
 ⟨j.jb.mv f f0 id id,j.jh.mv f id id,j.jn.mv f f0 id,j.js.mv f id id,j.jd.mv f fun _ _ _=>id,j.jc.mv f fun _ _=>id⟩
theorem WJ.same (j:WJ X H T s A M) (e:Same H H'):WJ X H' T s A M:=j.mv (Frm.of_same e) fun b o h _=>e b o h
theorem WJ.other {s':Nat} (j:WJ X H T s A M) (e:Stp s' H H' T T') (n:s≠s') (n0:s'≠0):WJ X H' T' s A M:=j.mv (Frm.of_other e n) fun b o h t=>e.kp b o h (by rw [t];exact fun z=>n0 z.symm)
theorem Znq {a:Addr}{o':HO}{m:Nat} (h0:s≠0) (ta:T a=(s,m)):∀ b o,H b=some o→T b=(0,0)→upd H a o' b=some o:=fun b o e t=>by
 rw [Za9 (Zrq t ta (fun z=>h0 (congrArg Prod.fst z).symm))];exact e
theorem WJ.slot (j:WJ X H T s A M) (w:WT H T) (h0:s≠0) {h k:Nat}{p:Addr×Addr}{m:Str×List (Option Int)}{x:Option Int} (hp:A.hs[h]? =some p) (hm:M.hands[h]? =some m):
  Stp s H (upd H p.2 (.lst ((m.2.map oV).set k (oV x)))) T T∧WJ X (upd H p.2 (.lst ((m.2.map oV).set k (oV x)))) T s A { M with hands:=M.hands.set h (m.1,m.2.set k x) }:=by
 have hl:=j.jd.l5;have hh:h < A.hs.length:=(List.getElem?_eq_some_iff.mp hp).1;have hh':h < M.hands.length:=(List.getElem?_eq_some_iff.mp hm).1;have d:=j.jd.hd h p m hp hm;refine ⟨Stp.upd w d.o2 (by rw [d.t2]),?_⟩;have f:Frm s (·=21 + 2 * h) H (upd H p.2 (.lst ((m.2.map oV).set k (oV x)))) T T:=Frm.of_upd d.t2;have b2:upd H p.2 (.lst ((m.2.map oV).set k (oV x))) p.2=some (.lst ((m.2.set k x).map oV)):=by rw [Za2,List.map_set]
 refine ⟨j.jb.mv f (Znq h0 d.t2) (by omega) (by omega),j.jh.mv f (by omega) (by omega),j.jn.mv f (Znq h0 d.t2) (by omega),j.js.mv f (by omega) (by omega),⟨by rw [List.length_set];exact j.jd.lh,hl,fun j' p' m' e1 e2=>?_⟩,j.jc.mv f fun _ _=>by omega⟩
 by_cases hj:j'=h
 ·subst hj;dsimp only at e2;rw [List.getElem?_set_self hh'] at e2;rw [hp] at e1;cases e1;cases e2;obtain ⟨dd,o1⟩:=d.o1;exact ⟨d.t1,d.t2,⟨dd,f.at d.t1 (by omega) o1⟩,b2⟩
 ·dsimp only at e2;rw [List.getElem?_set_ne (fun z=>hj z.symm)] at e2;exact (j.jd.hd j' p' m' e1 e2).mv f (by omega) (by omega)
theorem WC.at (j:WC X H T s A.cs M.cells) {i:Nat}{c:Ce} (h:M.cells[i]? =some (some c)):∃ p,A.cs[i]? =some (some p)∧CeO X.C H T s i p c:=by
 have hl:i < A.cs.length:=by rw [j.lc];exact (List.getElem?_eq_some_iff.mp h).1
 have e:=j.ce i _ _ (List.getElem?_eq_getElem hl) h;cases hg:A.cs[i] with
 | none=>rw [hg] at e;exact e.elim
 | some g=>rw [hg] at e;exact ⟨g,by rw [List.getElem?_eq_getElem hl,hg],e⟩
theorem WC.at0 (j:WC X H T s A.cs M.cells) {i:Nat} (h:M.cells[i]? =some none):A.cs[i]? =some none:=by
 have hl:i < A.cs.length:=by rw [j.lc];exact (List.getElem?_eq_some_iff.mp h).1
 have e:=j.ce i _ _ (List.getElem?_eq_getElem hl) h;cases hg:A.cs[i] with
 | none=>rw [List.getElem?_eq_getElem hl,hg]
 | some g=>rw [hg] at e;exact e.elim
theorem WC.chg (j:WC X H T s A.cs M.cells) {i:Nat}{p:Addr×Addr}{c':Ce} (f:Frm s t0 H H' T T') (hp:A.cs[i]? =some (some p)) (n:∀ k,100≤k→k≠100 + 2 * i→k≠101 + 2 * i→¬ t0 k) (e:CeO X.C H' T' s i p c'):
  WC X H' T' s A.cs (M.cells.set i (some c')):=by
 have hl:i < A.cs.length:=(List.getElem?_eq_some_iff.mp hp).1;refine ⟨by rw [List.length_set];exact j.lc,fun k g c e1 e2=>?_⟩
 by_cases hk:k=i
 ·subst hk;rw [List.getElem?_set_self (by rw [← j.lc];exact hl)] at e2;rw [hp] at e1;cases e1;cases e2;exact e
 ·rw [List.getElem?_set_ne (fun z=>hk z.symm)] at e2;exact (j.ce k g c e1 e2).mv f (n _ (by omega) (by omega) (by omega)) (n _ (by omega) (by omega) (by omega))
theorem WJ.field (j:WJ X H T s A M) (w:WT H T) (h0:s≠0) {i k:Nat}{p:Addr×Addr}{c:Ce}{x:Option Int} (hp:A.cs[i]? =some (some p)) (e:CeO X.C H T s i p c):
  Stp s H (upd H p.2 (.lst ((c.fl.map oV).set k (oV x)))) T T∧WJ X (upd H p.2 (.lst ((c.fl.map oV).set k (oV x)))) T s A { M with cells:=M.cells.set i (some { c with fl:=c.fl.set k x }) }:=by
 refine ⟨Stp.upd w e.o2 (by rw [e.t2]),?_⟩;have f:Frm s (·=101 + 2 * i) H (upd H p.2 (.lst ((c.fl.map oV).set k (oV x)))) T T:=Frm.of_upd e.t2;have b2:upd H p.2 (.lst ((c.fl.map oV).set k (oV x))) p.2=some (.lst ((c.fl.set k x).map oV)):=by rw [Za2,List.map_set]
 obtain ⟨dd,o1⟩:=e.o1;exact ⟨j.jb.mv f (Znq h0 e.t2) (by omega) (by omega),j.jh.mv f (by omega) (by omega),j.jn.mv f (Znq h0 e.t2) (by omega),j.js.mv f (by omega) (by omega),j.jd.mv f fun _ _ _=>by omega,
  j.jc.chg f hp (fun k _ _ n2 z=>n2 z) ⟨e.t1,e.t2,⟨dd,f.at e.t1 (by omega) o1⟩,b2⟩⟩
theorem WJ.cell (j:WJ X H T s A M) (w:WT H T) (h0:s≠0) {i:Nat}{p:Addr×Addr}{c:Ce}{dx:Addr}{tone load:Int} (hp:A.cs[i]? =some (some p)) (e:CeO X.C H T s i p c):
  Stp s H (upd H p.1 (.ins X.C dx (Zf6 c.birth c.bulk tone load p.2))) T T∧WJ X (upd H p.1 (.ins X.C dx (Zf6 c.birth c.bulk tone load p.2))) T s A { M with cells:=M.cells.set i (some { c with tone:=tone,load:=load }) }:=by
 obtain ⟨dd,o1⟩:=e.o1;refine ⟨Stp.upd w o1 (by rw [e.t1]),?_⟩;have f:Frm s (·=100 + 2 * i) H (upd H p.1 (.ins X.C dx (Zf6 c.birth c.bulk tone load p.2))) T T:=Frm.of_upd e.t1;exact ⟨j.jb.mv f (Znq h0 e.t1) (by omega) (by omega),j.jh.mv f (by omega) (by omega),j.jn.mv f (Znq h0 e.t1) (by omega),j.js.mv f (by omega) (by omega),j.jd.mv f fun _ _ _=>by omega,
  j.jc.chg f hp (fun k _ n1 _ z=>n1 z) ⟨e.t1,e.t2,⟨dx,Za2⟩,f.at e.t2 (by omega) e.o2⟩⟩
theorem WJ.greys (j:WJ X H T s A M) (w:WT H T) (h0:s≠0) {g:List Int}:Stp s H (upd H A.gr (.lst (g.map V.int))) T T∧WJ X (upd H A.gr (.lst (g.map V.int))) T s A { M with sw:={ M.sw with grey:=g } }:=by
 obtain ⟨ts,tg,⟨dd,os⟩,og⟩:=j.js;refine ⟨Stp.upd w og (by rw [tg]),?_⟩;have f:Frm s (·=8) H (upd H A.gr (.lst (g.map V.int))) T T:=Frm.of_upd tg;exact ⟨j.jb.mv f (Znq h0 tg) (by omega) (by omega),j.jh.mv f (by omega) (by omega),j.jn.mv f (Znq h0 tg) (by omega),⟨ts,tg,⟨dd,f.at ts (by omega) os⟩,Za2⟩,j.jd.mv f fun _ _ _=>by omega,j.jc.mv f fun _ _=>by omega⟩
end
def fst0 {α:Type}:List (Option α)→Nat
 | []=>0
 | none :: _=>0
 | some _ :: l=>fst0 l + 1
def putO {α:Type} (l:List (Option α)) (x:α):List (Option α):=if fst0 l < l.length then l.set (fst0 l) (some x) else l ++ [some x]
theorem ZKu {α:Type} (l:List (Option α)):fst0 l≤l.length:=by
 induction l with
 | nil=>exact Nat.le_refl _
 | cons a l ih=>cases a with
  | none=>exact Nat.zero_le _
  | some a=>exact Nat.succ_le_succ ih
theorem ZPl {α:Type}{l:List (Option α)} (h:fst0 l < l.length):l[fst0 l]? =some none:=by
 induction l with
 | nil=>exact absurd h (Nat.lt_irrefl _)
 | cons a l ih=>cases a with
  | none=>rfl
  | some a=>exact ih (Nat.lt_of_succ_lt_succ h)
theorem ZG6 {α:Type}{f:Option α→V} (hf:∀ x,f x=V.non↔x=none) (l:List (Option α)):(l.map f).idxOf V.non=fst0 l∧(V.non∈l.map f↔fst0 l < l.length):=by
 induction l with
 | nil=>exact ⟨rfl,⟨fun z=>(nomatch z),fun z=>absurd z (Nat.lt_irrefl _)⟩⟩
 | cons a l ih=>
  rw [List.map_cons,List.idxOf_cons];cases a with
  | none=>
   have e:f none=V.non:=(hf none).mpr rfl;rw [e];exact ⟨rfl,⟨fun _=>Nat.zero_lt_succ _,fun _=>List.mem_cons_self⟩⟩
  | some a=>
   have e:f (some a)≠V.non:=fun z=>by cases (hf (some a)).mp z
   have b:(f (some a) == V.non)=false:=beq_eq_false_iff_ne.mpr e;rw [b];refine ⟨congrArg (· + 1) ih.1,?_⟩;show _↔fst0 l + 1 < l.length + 1;rw [List.mem_cons,ih.2];constructor
   ·rintro (z | z)
    ·exact absurd z.symm e
    ·omega
   ·intro z;exact .inr (by omega)
theorem ZLx {α:Type}{f:Option α→V} (hf:∀ x,f x=V.non↔x=none) (l:List (Option α)) (x:α):putN (l.map f) (f (some x))=(putO l x).map f:=by
 obtain ⟨e1,e2⟩:=ZG6 hf l;unfold putN putO
 by_cases z:fst0 l < l.length
 ·rw [if_pos z,if_pos (e2.mpr z),List.map_set];exact congrArg (fun k=>(l.map f).set k (f (some x))) e1
 ·rw [if_neg z,if_neg (fun w=>z (e2.mp w)),List.map_append];rfl
theorem ZNg (p:Option (Addr×Addr)):pV p=V.non↔p=none:=by cases p<;>simp [pV]
theorem ZDw {α:Type} (l:List (Option α)) (x:α):(putO l x)[fst0 l]? =some (some x):=by
 unfold putO
 by_cases z:fst0 l < l.length
 ·rw [if_pos z,List.getElem?_set_self z]
 ·have e:fst0 l=l.length:=Nat.le_antisymm (ZKu l) (by omega);rw [if_neg z,e,List.getElem?_append_right (Nat.le_refl _),Nat.sub_self];rfl
theorem ZJo {α:Type}{l:List (Option α)}{x:α}{i:Nat}{y:Option α} (hi:i≠fst0 l) (h:(putO l x)[i]? =some y):l[i]? =some y:=by
 unfold putO at h
 by_cases z:fst0 l < l.length
 ·rw [if_pos z,List.getElem?_set_ne (fun w=>hi w.symm)] at h;exact h
 ·rw [if_neg z] at h;have e:fst0 l=l.length:=Nat.le_antisymm (ZKu l) (by omega);have hl:=(List.getElem?_eq_some_iff.mp h).1;rw [List.length_append,List.length_singleton] at hl;rw [List.getElem?_append_left (by omega)] at h;exact h
theorem ZLy {α β:Type}{l:List (Option α)}{m:List (Option β)}{x:α}{y:β} (hl:l.length=m.length) (hf:fst0 l=fst0 m):(putO l x).length=(putO m y).length:=by
 unfold putO
 by_cases z:fst0 l < l.length
 ·rw [if_pos z,if_pos (by omega),List.length_set,List.length_set];exact hl
 ·rw [if_neg z,if_neg (by omega),List.length_append,List.length_append,hl];rfl
theorem ZPk {α β:Type}:∀ (l:List (Option α)) (m:List (Option β)),l.length=m.length→(∀ (i:Nat) x y,l[i]? =some x→m[i]? =some y→(x=none↔y=none))→fst0 l=fst0 m:=by
 intro l
 induction l with
 | nil=>
  intro m hl _;cases m with
  | nil=>rfl
  | cons b m=>simp at hl
 | cons a l ih=>
  intro m hl h;cases m with
  | nil=>simp at hl
  | cons b m=>
   have ih':=ih m (by simpa using hl) fun i x y h1 h2=>h (i + 1) x y (by simpa using h1) (by simpa using h2);have e:=h 0 a b rfl rfl;cases a with
   | none=>rw [e.mp rfl];rfl
   | some a=>cases b with
    | none=>exact absurd (e.mpr rfl) (fun z=>by cases z)
    | some b=>exact congrArg (· + 1) ih'
section
variable {X:Cs}{H H':Hp}{T T':Tg}{s:Nat}{A:Wa}{M:Wm}
theorem WC.fst (j:WC X H T s A.cs M.cells):fst0 A.cs=fst0 M.cells:=ZPk _ _ j.lc fun i p c e1 e2=>by
 have e:=j.ce i p c e1 e2;cases p with
 | none=>cases c with
  | none=>exact ⟨fun _=>rfl,fun _=>rfl⟩
  | some c=>exact e.elim
 | some p=>cases c with
  | none=>exact e.elim
  | some c=>exact ⟨fun z=>(by cases z),fun z=>(by cases z)⟩
theorem WJ.put (j:WJ X H T s A M) (w:WT H T) (h0:s≠0) {dx:Addr}{used':Int}{p fa:Addr}{c:Ce} (kp:∀ b o,H b=some o→b≠A.hp→b≠A.ca→H' b=some o) (a1:H' A.hp=some (.ins X.H dx (Zf3 M.room A.ca used' (M.born + 1)))) (a2:H' A.ca=some (.lst (putN (A.cs.map pV) (.ref p))))
  (n1:H p=none) (n2:H fa=none) (m1:p≠fa) (o1:∃ dx,H' p=some (.ins X.C dx (Zf6 c.birth c.bulk c.tone c.load fa))) (o2:H' fa=some (.lst (c.fl.map oV))):
  ∃ T',Stp s H H' T T'∧WJ X H' T' s { A with cs:=putO A.cs (p,fa) } { M with used:=used',born:=M.born + 1,cells:=putO M.cells c }:=by
 obtain ⟨th,tc,⟨dd,oh⟩,oc⟩:=j.jh;have i1:=j.jc.fst
 let k:=fst0 A.cs
 let T':Tg:=setT (setT T p (s,100 + 2 * k)) fa (s,101 + 2 * k)
 have told:∀ b o,H b=some o→T' b=T b:=fun b o h=>by
  show setT _ _ _ b=_;rw [Zdy (Za5 h n2),Zdy (Za5 h n1)]
 have t1:T' p=(s,100 + 2 * k):=by show setT _ _ _ p=_;rw [Zdy m1,Zdd]
 have t2:T' fa=(s,101 + 2 * k):=by show setT _ _ _ fa=_;rw [Zdd]
 have al:∀ b o,H b=some o→∃ o',H' b=some o':=fun b o h=>by
  by_cases z1:b=A.hp
  ·exact ⟨_,by rw [z1];exact a1⟩
  ·by_cases z2:b=A.ca
   ·exact ⟨_,by rw [z2];exact a2⟩
   ·exact ⟨o,kp b o h z1 z2⟩
 have f:Frm s (fun k=>k=1∨k=2) H H' T T':=⟨fun b o h e n=>kp b o h (fun z=>n (.inl (by rw [z,th]))) (fun z=>n (.inr (by rw [z,tc]))),told⟩;have f0:∀ b o,H b=some o→T b=(0,0)→H' b=some o:=fun b o h t=>kp b o h (Zrq t th (fun z=>h0 (congrArg Prod.fst z).symm)) (Zrq t tc (fun z=>h0 (congrArg Prod.fst z).symm));refine ⟨T',⟨fun b o h nn=>kp b o h (fun z=>nn (by rw [z,th])) (fun z=>nn (by rw [z,tc])),al,told,fun b h=>?_⟩,?_⟩
 ·have b1:b≠p:=fun e=>by obtain ⟨d,z⟩:=o1;rw [e,z] at h;cases h
  have b2:b≠fa:=fun e=>by rw [e,o2] at h;cases h
  have hb:H b=none:=by
   cases z:H b with
   | none=>rfl
   | some o=>obtain ⟨o',z'⟩:=al b o z;rw [h] at z';cases z'
  show setT _ _ _ b=_;rw [Zdy b2,Zdy b1];exact w b hb
 ·refine ⟨?_,⟨f.tag oh th,f.tag oc tc,⟨dx,a1⟩,?_⟩,?_,?_,j.jd.mv f fun _ _ _=>by omega,⟨ZLy j.jc.lc i1,fun i g cc e1 e2=>?_⟩⟩
  ·obtain ⟨b1,b2,b3,b4,b5,b6,b7,b8⟩:=j.jb.mv f f0 (by omega) (by omega);exact ⟨b1,b2,b3,b4,b5,b6,b7,b8⟩
  ·show H' A.ca=some (.lst ((putO A.cs (p,fa)).map pV));rw [← ZLx ZNg];exact a2
  ·obtain ⟨b1,b2,b3⟩:=j.jn.mv f f0 (by omega);exact ⟨b1,b2,b3⟩
  ·obtain ⟨b1,b2,b3,b4⟩:=j.js.mv f (by omega) (by omega);exact ⟨b1,b2,b3,b4⟩
  ·dsimp only at e1 e2
   by_cases hk:i=fst0 A.cs
   ·subst hk;rw [ZDw] at e1;rw [i1,ZDw] at e2;cases e1;cases e2;exact ⟨t1,t2,o1,o2⟩
   ·exact (j.jc.ce i g cc (ZJo hk e1) (ZJo (by rw [← i1];exact hk) e2)).mv f (by omega) (by omega)
end
def cellAt (M:Wm) (x:Int):Option Ce:=if 0≤x then (M.cells[x.toNat]?).join else none
def bAt (M:Wm):Option Int→Option Int
 | none=>none
 | some x=>(cellAt M x).map (·.birth)
def Zab (M:Wm) (h k:Nat):Option Int:=((M.hands[h]?).bind fun m=>m.2[k]?).join
def setSlot (M:Wm) (h k:Nat) (x:Option Int):Wm:={ M with hands:=M.hands.modify h fun m=>(m.1,m.2.set k x) }
def setCell (M:Wm) (i:Int) (c:Ce):Wm:={ M with cells:=M.cells.set i.toNat (some c) }
def Zdp (M:Wm):Option Int→Option Int×Wm
 | none=>(none,M)
 | some i=>match cellAt M i with
  | none=>(none,M)
  | some c=>if M.sw.phase="walk"∧c.tone≠M.sw.sense then (some c.birth,{ setCell M i { c with tone:=M.sw.sense } with sw:={ M.sw with grey:=M.sw.grey ++ [i] } }) else (none,M)
def Zbl (M:Wm) (h:Nat):Bool:=decide (M.sw.looked / 2 ^ h % 2=1)
def Zor (M:Wm) (place birth:Int):Bool:=match cellAt M place with
 | none=>true
 | some c=>if c.birth=birth then decide (M.sw.phase="give"∧c.tone≠M.sw.sense) else true
def Zjp (l:List (Str×(Int×Int))) (k:Str) (v:Int×Int):List (Str×(Int×Int)):=if (l.any fun m=>decide (m.1=k))=true then l.map (fun m=>if m.1=k then (m.1,v) else m) else l ++ [(k,v)]
def Zjk (l:List (Str×(Int×Int))) (k:Str):Option (Int×Int):=(l.find? fun m=>decide (m.1=k)).map (·.2)
inductive Rf where
 | full | empty | nofield | noname
 deriving DecidableEq
structure Ev where
 word:Str
 thing:Option Int
 notes:List Int
inductive Deed where
 | make (h s:Nat) (many bulk:Int)
 | get (h s t f:Nat)
 | put (h t f s:Nat)
 | copy (h s t:Nat)
 | drop (h s:Nat)
 | give (h s g t:Nat)
 | write (h t:Nat) (load:Int)
 | read (h t:Nat)
 | name (h t:Nat) (word:Str)
 | seek (h s:Nat) (word:Str)
def old? (M:Wm):Bool:=decide (M.tells % 2=1)
def new? (M:Wm):Bool:=decide (M.tells / 2 % 2=1)
def ofN:Option Int→List Int
 | none=>[]
 | some b=>[b]
def Zbj (M:Wm):List (Option Int)→List Int×Wm
 | []=>([],M)
 | x :: l=>(ofN (Zdp M x).1 ++ (Zbj (Zdp M x).2 l).1,(Zbj (Zdp M x).2 l).2)
def doM (M:Wm):Deed→Except Rf (Ev×Wm)
 | .make h s many bulk=>
  if M.used + (1 + many + bulk)≤M.room then
   .ok (⟨"made",some (M.born + 1),[]⟩,setSlot { M with used:=M.used + (1 + many + bulk),born:=M.born + 1,cells:=putO M.cells ⟨M.born + 1,bulk,M.sw.sense,0,List.replicate many.toNat none⟩ } h s (some (fst0 M.cells)))
  else .error .full
 | .get h s t f=>match Zab M h t with
  | none=>.error .empty
  | some x=>match cellAt M x with
   | none=>.error .empty
   | some c=>match c.fl[f]? with
    | none=>.error .nofield
    | some v=>.ok (⟨"got",bAt M v,[]⟩,setSlot M h s v)
 | .put h t f s=>match Zab M h t with
  | none=>.error .empty
  | some x=>match cellAt M x with
   | none=>.error .empty
   | some c=>match c.fl[f]? with
    | none=>.error .nofield
    | some v=>
     let M1:=setCell M x { c with fl:=c.fl.set f (Zab M h s) }
     let r:=Zbj M1 ((if old? M=true then [v] else []) ++ if (new? M && !Zbl M h)=true then [Zab M h s] else [])
     .ok (⟨"put",bAt M v,r.1⟩,r.2)
 | .copy h s t=>.ok (⟨"copied",bAt M (Zab M h t),[]⟩,setSlot M h s (Zab M h t))
 | .drop h s=>.ok (⟨"dropped",bAt M (Zab M h s),[]⟩,setSlot M h s none)
 | .give h s g t=>
  let r:=Zbj (setSlot M g t (Zab M h s)) (if (new? M && !Zbl M h)=true then [Zab M h s] else [])
  .ok (⟨"given",bAt M (Zab M h s),r.1⟩,r.2)
 | .write h t load=>match Zab M h t with
  | none=>.error .empty
  | some x=>match cellAt M x with
   | none=>.error .empty
   | some c=>.ok (⟨"wrote",some c.load,[]⟩,setCell M x { c with load:=load })
 | .read h t=>match Zab M h t with
  | none=>.error .empty
  | some x=>match cellAt M x with
   | none=>.error .empty
   | some c=>.ok (⟨"read",some c.load,[]⟩,M)
 | .name h t word=>match Zab M h t with
  | none=>.error .empty
  | some x=>match cellAt M x with
   | none=>.error .empty
   | some c=>.ok (⟨"named",some c.birth,[]⟩,{ M with names:=Zjp M.names word (x,c.birth) })
 | .seek h s word=>match Zjk M.names word with
  | none=>.error .noname
  | some (p,b)=>
   if Zor M p b=true then .ok (⟨"sought",none,[]⟩,setSlot M h s none)
   else
    let r:=Zbj (setSlot M h s (some p)) [some p]
    .ok (⟨"sought",some b,r.1⟩,r.2)
def dV:Deed→List V
 | .make h s many bulk=>[.str "make",.int h,.int s,.int many,.int bulk]
 | .get h s t f=>[.str "get",.int h,.int s,.int t,.int f]
 | .put h t f s=>[.str "put",.int h,.int t,.int f,.int s]
 | .copy h s t=>[.str "copy",.int h,.int s,.int t]
 | .drop h s=>[.str "drop",.int h,.int s]
 | .give h s g t=>[.str "give",.int h,.int s,.int g,.int t]
 | .write h t load=>[.str "write",.int h,.int t,.int load]
 | .read h t=>[.str "read",.int h,.int t]
 | .name h t word=>[.str "name",.int h,.int t,.str word]
 | .seek h s word=>[.str "seek",.int h,.int s,.str word]
def okS (M:Wm) (h s:Nat):Prop:=∃ m,M.hands[h]? =some m∧s < m.2.length
def okD (M:Wm):Deed→Prop
 | .make h s many bulk=>okS M h s∧0≤many∧many≤1000∧0≤bulk
 | .get h s t _=>okS M h s∧okS M h t
 | .put h t _ s=>okS M h t∧okS M h s
 | .copy h s t=>okS M h s∧okS M h t
 | .drop h s=>okS M h s
 | .give h s g t=>okS M h s∧okS M g t
 | .write h t _=>okS M h t
 | .read h t=>okS M h t
 | .name h t _=>okS M h t
 | .seek h s _=>okS M h s
structure Ok (M:Wm):Prop where
 sl:∀ m∈M.hands,∀ x,some x∈m.2→∃ c,cellAt M x=some c
 fl:∀ c,some c∈M.cells→∀ x,some x∈c.fl→∃ d,cellAt M x=some d
 tn:∀ c,some c∈M.cells→c.tone=0∨c.tone=1
def rfA (CFull CEmpty CNoField CNoName:Addr):Rf→Addr
 | .full=>CFull
 | .empty=>CEmpty
 | .nofield=>CNoField
 | .noname=>CNoName
def EvN (H0 H:Hp) (a:Addr) (e:Ev):Prop:=∃ l,H0 l=none∧H a=some (.tup [.str e.word,oV e.thing,.ref l])∧H l=some (.lst (e.notes.map V.int))
def Zbf (X:Cs) (rf:Rf→Addr) (P:Deed→Prop):Sp:=fun vs H Q E=>∃ wo dd,vs=[.ref wo,.ref dd]∧∃ T s A M d,P d∧WT H T∧s≠0∧WJ X H T s A M∧A.wo=wo∧H dd=some (.tup (dV d))∧okD M d∧Ok M∧M.cells.length≤900∧(M.sw.phase="walk"→M.sw.grey.length≤10000)∧(0≤M.tells∧M.tells < 4)∧M.names.length≤1000∧
 (∀ r,doM M d=.error r→∀ H',Same H H'→E (.ref (rf r)) none H')∧
 (∀ e M',doM M d=.ok (e,M')→∀ H' T' A' a,Stp s H H' T T'→WJ X H' T' s A' M'→A'.wo=wo→EvN H H' a e→Q (.ref a) H')
abbrev S_do (X:Cs) (rf:Rf→Addr):Sp:=Zbf X rf fun _=>True
theorem ZJp {α:Type}{l:List (Option α)}{x a:α}{i:Nat} (h:l[i]? =some (some a)):(putO l x)[i]? =some (some a):=by
 have hl:=(List.getElem?_eq_some_iff.mp h).1;unfold putO
 by_cases z:fst0 l < l.length
 ·have hi:i≠fst0 l:=fun e=>by rw [e,ZPl z] at h;cases h
  rw [if_pos z,List.getElem?_set_ne (fun w=>hi w.symm)];exact h
 ·rw [if_neg z,List.getElem?_append_left hl];exact h
theorem Zd7 {M:Wm}{x:Int}{c:Ce}:cellAt M x=some c↔0≤x∧M.cells[x.toNat]? =some (some c):=by
 unfold cellAt
 by_cases z:0≤x
 ·rw [if_pos z];cases e:M.cells[x.toNat]? with
  | none=>simp
  | some y=>cases y with
   | none=>simp
   | some d=>simp [z]
 ·rw [if_neg z];simp [z]
theorem Zn2 {M:Wm}{x:Int}{c:Ce} (h:cellAt M x=some c):some c∈M.cells:=List.mem_of_getElem? (Zd7.mp h).2
theorem Zn1 {M:Wm}{x u b:Int}{c d:Ce} (h:cellAt M x=some d):cellAt { M with used:=u,born:=b,cells:=putO M.cells c } x=some d:=by
 obtain ⟨h0,h1⟩:=Zd7.mp h;exact Zd7.mpr ⟨h0,ZJp h1⟩
theorem Zrg {M:Wm}{u b:Int}{c:Ce}:cellAt { M with used:=u,born:=b,cells:=putO M.cells c } (fst0 M.cells)=some c:=
 Zd7.mpr ⟨by omega,by rw [Int.toNat_natCast];exact ZDw _ _⟩
theorem ZG1 {α:Type}{l:List (Option α)}{x:α}{y:Option α} (h:y∈putO l x):y∈l∨y=some x:=by
 unfold putO at h
 by_cases z:fst0 l < l.length
 ·rw [if_pos z] at h;rcases List.mem_or_eq_of_mem_set h with h | h
  ·exact .inl h
  ·exact .inr h
 ·rw [if_neg z] at h;rcases List.mem_append.mp h with h | h
  ·exact .inl h
  ·exact .inr (List.mem_singleton.mp h)
theorem ZJe {M:Wm}{h k:Nat}{m:Str×List (Option Int)}{x:Option Int} (hm:M.hands[h]? =some m) (hk:m.2[k]? =some x):Zab M h k=x:=by
 unfold Zab;rw [hm];show (m.2[k]?).join=x;rw [hk];rfl
theorem Zto {M:Wm}{h k:Nat} (o:okS M h k):∃ m,M.hands[h]? =some m∧m.2[k]? =some (Zab M h k)∧k < m.2.length:=by
 obtain ⟨m,hm,hk⟩:=o;refine ⟨m,hm,?_,hk⟩;rw [ZJe hm (List.getElem?_eq_getElem hk)];exact List.getElem?_eq_getElem hk
theorem Zpa {M:Wm}{h k:Nat}{x:Option Int}{m:Str×List (Option Int)} (hm:M.hands[h]? =some m):(setSlot M h k x).hands=M.hands.set h (m.1,m.2.set k x):=by
 show M.hands.modify h _=_;apply List.ext_getElem?;intro i;rw [List.getElem?_modify]
 by_cases e:h=i
 ·subst e;rw [List.getElem?_set_self (List.getElem?_eq_some_iff.mp hm).1,hm];simp
 ·rw [List.getElem?_set_ne e];simp [e]
theorem Zwb {M:Wm}{h k:Nat}{x:Option Int}{y:Int}:cellAt (setSlot M h k x) y=cellAt M y:=rfl
theorem Zez {M:Wm}{h k:Nat}{x:Option Int}{y:Option Int}:bAt (setSlot M h k x) y=bAt M y:=by cases y<;>rfl
theorem Ok.slot {M:Wm} (o:Ok M) {h k:Nat}{x:Option Int} (hx:∀ y,x=some y→∃ c,cellAt M y=some c):Ok (setSlot M h k x):=by
 refine ⟨fun m hm y hy=>?_,o.fl,o.tn⟩;rw [Zwb];obtain ⟨i,hi,e⟩:=List.getElem_of_mem hm;have e':(M.hands.modify h fun m=>(m.1,m.2.set k x))[i]? =some m:=by rw [← e];exact List.getElem?_eq_getElem hi
 rw [List.getElem?_modify] at e';cases em:M.hands[i]? with
 | none=>rw [em] at e';cases e'
 | some m0=>
  rw [em] at e';have hm0:m0∈M.hands:=List.mem_of_getElem? em
  by_cases z:h=i
  ·have e2:(m0.1,m0.2.set k x)=m:=by simpa [z] using e'
   rw [← e2] at hy;rcases List.mem_or_eq_of_mem_set hy with hy | hy
   ·exact o.sl m0 hm0 y hy
   ·exact hx y hy.symm
  ·have e2:m0=m:=by simpa [z] using e'
   rw [← e2] at hy;exact o.sl m0 hm0 y hy
theorem Ok.put {M:Wm} (o:Ok M) {u b:Int}{c:Ce} (hf:∀ x,some x∉c.fl) (ht:c.tone=0∨c.tone=1):Ok { M with used:=u,born:=b,cells:=putO M.cells c }:=by
 refine ⟨fun m hm x hx=>?_,fun d hd x hx=>?_,fun d hd=>?_⟩
 ·obtain ⟨e,he⟩:=o.sl m hm x hx;exact ⟨e,Zn1 he⟩
 ·rcases ZG1 hd with hd | hd
  ·obtain ⟨e,he⟩:=o.fl d hd x hx;exact ⟨e,Zn1 he⟩
  ·cases hd;exact absurd hx (hf x)
 ·rcases ZG1 hd with hd | hd
  ·exact o.tn d hd
  ·cases hd;exact ht
def rowsOf (M:Wm):List (List (Option Int)):=M.hands.map fun m=>m.2.map (bAt M)
theorem ZDs {M:Wm}{h k:Nat}{x:Option Int}{m:Str×List (Option Int)} (hm:M.hands[h]? =some m):rowsOf (setSlot M h k x)=(rowsOf M).set h ((m.2.map (bAt M)).set k (bAt M x)):=by
 unfold rowsOf;have e:(fun m:Str×List (Option Int)=>m.2.map (bAt (setSlot M h k x)))=fun m=>m.2.map (bAt M):=funext fun m=>congrArg (fun f=>m.2.map f) (funext fun y=>Zez);rw [e,Zpa hm,List.map_set];dsimp only;rw [List.map_set]
theorem Zty {M:Wm}{h k:Nat} (o:okS M h k):∃ r,(rowsOf M)[h]? =some r∧r[k]? =some (bAt M (Zab M h k))∧k < r.length:=by
 obtain ⟨m,hm,hk,hl⟩:=Zto o;refine ⟨m.2.map (bAt M),?_,?_,by rw [List.length_map];exact hl⟩
 ·unfold rowsOf;rw [List.getElem?_map,hm];rfl
 ·rw [List.getElem?_map,hk];rfl
theorem ZHa {M:Wm}{u b:Int}{c:Ce} (o:Ok M):rowsOf { M with used:=u,born:=b,cells:=putO M.cells c }=rowsOf M:=by
 unfold rowsOf;refine List.map_congr_left fun m hm=>List.map_congr_left fun x hx=>?_;cases x with
 | none=>rfl
 | some x=>
  obtain ⟨d,hd⟩:=o.sl m hm x hx;show (cellAt _ x).map _=(cellAt M x).map _;rw [hd,Zn1 hd]
theorem Zwl {M:Wm} (h:M.sw.phase≠"walk") (x:Option Int):Zdp M x=(none,M):=by
 cases x with
 | none=>rfl
 | some x=>
  unfold Zdp;dsimp only;cases cellAt M x with
  | none=>rfl
  | some c=>
   dsimp only;rw [if_neg (fun z=>h z.1)]
theorem Zkp:∀ {l:List (Option Int)}{M:Wm},M.sw.phase≠"walk"→Zbj M l=([],M)
 | [],_,_=>rfl
 | x :: l,M,h=>by
  show (ofN (Zdp M x).1 ++ (Zbj (Zdp M x).2 l).1,(Zbj (Zdp M x).2 l).2)=_;rw [Zwl h];show (ofN none ++ (Zbj M l).1,(Zbj M l).2)=_;rw [Zkp h];rfl
theorem ZCo {M:Wm} (hp:M.sw.phase≠"walk") (h s g t:Nat):doM M (.give h s g t)=.ok (⟨"given",bAt M (Zab M h s),[]⟩,setSlot M g t (Zab M h s)):=by
 show Except.ok (Ev.mk "given" (bAt M (Zab M h s)) (Zbj (setSlot M g t (Zab M h s)) (if (new? M && !Zbl M h)=true then [Zab M h s] else [])).1,(Zbj (setSlot M g t (Zab M h s)) (if (new? M && !Zbl M h)=true then [Zab M h s] else [])).2)=_;rw [Zkp (M:=setSlot M g t (Zab M h s)) hp]
theorem Zuw {M:Wm}{h s:Nat}{many bulk:Int} (hf:M.used + (1 + many + bulk)≤M.room):doM M (.make h s many bulk)=.ok (⟨"made",some (M.born + 1),[]⟩,setSlot { M with used:=M.used + (1 + many + bulk),born:=M.born + 1,cells:=putO M.cells ⟨M.born + 1,bulk,M.sw.sense,0,List.replicate many.toNat none⟩ } h s (some (fst0 M.cells))):=by
 show (if _ then _ else _)=_;rw [if_pos hf]
structure TxW (K:PySem.W.Frag) (X:Cs):Prop where
 c:TxC K X.C X.H
 cW:Cls K X.W
 nWh:Zay K X.W "heap"
 nWk:Zay K X.W "kind"
 nWd:Zay K X.W "hands"
 nWn:Zay K X.W "names"
 nWs:Zay K X.W "sweeper"
 cD:Cls K X.D
 nDn:Zay K X.D "name"
 nDs:Zay K X.D "slots"
 cK:Cls K X.K
 nKl:Zay K X.K "looking"
 nKt:Zay K X.K "tells"
 cS:Cls K X.S
 n1:Zay K X.S "sense"
 n2:Zay K X.S "phase"
 n3:Zay K X.S "grey"
 n4:Zay K X.S "looked"
 n5:Zay K X.S "turn"
 n6:Zay K X.S "at"
 n7:Zay K X.S "stop"
 n8:Zay K X.S "walks"
 n9:Zay K X.S "looks"
 n10:Zay K X.S "passes"
 n11:Zay K X.S "loss"
def atO (cs:List V):V→V
 | .int i=>if 0≤i then (cs[i.toNat]?).getD .non else .non
 | _=>.non
def Zec (CH:Addr):Sp:=fun vs H Q E=>∃ hp pl,vs=[.ref hp,pl]∧(pl=.non∨∃ i,pl=.int i)∧∃ ca room used born cs,HpO CH H hp ca room used born cs∧Q (atO cs pl) H
def cO (M:Wm) (x:Option Int):Option Ce:=x.bind (cellAt M)
def Zb8 (X:Cs):Sp:=fun vs H Q E=>∃ hp pl,vs=[.ref hp,pl]∧∃ x,pl=oV x∧∃ T s A M,WJ X H T s A M∧A.hp=hp∧Q (oV (bAt M x)) H
def Zl2 (X:Cs):Sp:=fun vs H Q E=>∃ p f,vs=[.ref p,.int f]∧∃ T s i q c,CeO X.C H T s i q c∧q.1=p∧Q (.bl (decide (0≤f) && decide (f < c.fl.length))) H
def Zaz (X:Cs):Sp:=fun vs H Q E=>∃ wo h,vs=[.ref wo,.int h]∧∃ T s A M k p,WJ X H T s A M∧A.wo=wo∧h=((k:Nat):Int)∧A.hs[k]? =some p∧Q (.ref p.2) H
def Ze4 (X:Cs):Sp:=fun vs H Q E=>∃ wo p,vs=[.ref wo,.ref p]∧∃ T s A M i q c,WJ X H T s A M∧A.wo=wo∧CeO X.C H T s i q c∧q.1=p∧Q (.bl (decide (c.tone=M.sw.sense))) H
def Zl1 (X:Cs):Sp:=fun vs H Q E=>∃ wo h,vs=[.ref wo,.int h]∧∃ T s A M k,WJ X H T s A M∧A.wo=wo∧h=((k:Nat):Int)∧Q (.bl (Zbl M k)) H
def Zn3 (X:Cs):Sp:=fun vs H Q E=>∃ wo v,vs=[.ref wo,v]∧∃ T s A M,WJ X H T s A M∧A.wo=wo∧(0≤M.tells∧M.tells < 4)∧∀ l,H l=none→Q (.ref l) (upd H l (.lst (if old? M=true then [v] else [])))
def Zgr (X:Cs):Sp:=fun vs H Q E=>∃ wo h v,vs=[.ref wo,.int h,v]∧∃ T s A M k,WJ X H T s A M∧A.wo=wo∧(0≤M.tells∧M.tells < 4)∧h=((k:Nat):Int)∧∀ l,H l=none→Q (.ref l) (upd H l (.lst (if (new? M && !Zbl M k)=true then [v] else [])))
def Zeb (X:Cs) (CE:Addr):Sp:=fun vs H Q E=>∃ wo h t,vs=[.ref wo,.int h,.int t]∧∃ T s A M hn tn,WJ X H T s A M∧A.wo=wo∧h=((hn:Nat):Int)∧t=((tn:Nat):Int)∧okS M hn tn∧
 (cO M (Zab M hn tn)=none→E (.ref CE) none H)∧
 (∀ i c p,Zab M hn tn=some i→0≤i→cellAt M i=some c→A.cs[i.toNat]? =some (some p)→CeO X.C H T s i.toNat p c→Q (.ref p.1) H)
def Zfj (X:Cs) (CE CF:Addr):Sp:=fun vs H Q E=>∃ wo h t f,vs=[.ref wo,.int h,.int t,.int f]∧∃ T s A M hn tn fn,WJ X H T s A M∧A.wo=wo∧h=((hn:Nat):Int)∧t=((tn:Nat):Int)∧f=((fn:Nat):Int)∧okS M hn tn∧
 (cO M (Zab M hn tn)=none→E (.ref CE) none H)∧
 (∀ i c,Zab M hn tn=some i→0≤i→cellAt M i=some c→c.fl[fn]? =none→E (.ref CF) none H)∧
 (∀ i c p,Zab M hn tn=some i→0≤i→cellAt M i=some c→A.cs[i.toNat]? =some (some p)→CeO X.C H T s i.toNat p c→fn < c.fl.length→Q (.ref p.2) H)
def ZGf (X:Cs):Sp:=fun vs H Q E=>∃ wo pl,vs=[.ref wo,pl]∧∃ x,pl=oV x∧∃ T s A M,WT H T∧s≠0∧WJ X H T s A M∧A.wo=wo∧(M.sw.phase="walk"→M.sw.grey.length≤20000)∧
 ∀ H',Stp s H H' T T→WJ X H' T s A (Zdp M x).2→Q (oV (Zdp M x).1) H'
def Zem (X:Cs):Sp:=fun vs H Q E=>∃ wo pl,vs=[.ref wo,.ref pl]∧∃ xs T s A M,WT H T∧s≠0∧WJ X H T s A M∧A.wo=wo∧H pl=some (.lst (xs.map oV))∧T pl=(0,0)∧xs.length≤100∧(M.sw.phase="walk"→M.sw.grey.length≤10000)∧
 ∀ H' T' l,Stp s H H' T T'→WJ X H' T' s A (Zbj M xs).2→H' l=some (.lst ((Zbj M xs).1.map V.int))→H l=none→Q (.ref l) H'
def ZGh (X:Cs):Sp:=fun vs H Q E=>∃ wo p b,vs=[.ref wo,.int p,.int b]∧∃ T s A M,WJ X H T s A M∧A.wo=wo∧Q (.bl (Zor M p b)) H
def Zhu (X:Cs) (CN:Addr):Sp:=fun vs H Q E=>∃ wo z,vs=[.ref wo,.str z]∧∃ T s A M,WJ X H T s A M∧A.wo=wo∧(Zjk M.names z=none→E (.ref CN) none H)∧(∀ p b,Zjk M.names z=some (p,b)→Q (if Zor M p b=true then .non else .int p) H)
theorem Ztp (x:Option Int):oV x=.non∨∃ i,oV x=.int i:=by cases x with
 | none=>exact .inl rfl
 | some i=>exact .inr ⟨i,rfl⟩
section
variable {X:Cs}{H H':Hp}{T T':Tg}{s:Nat}{A:Wa}{M:Wm}
theorem WJ.hpO (j:WJ X H T s A M):HpO X.H H A.hp A.ca M.room M.used M.born (A.cs.map pV):=⟨j.jh.oh,j.jh.oc⟩
theorem WJ.look (j:WJ X H T s A M) (x:Option Int):(cO M x=none∧atO (A.cs.map pV) (oV x)=.non)∨∃ i c p,x=some i∧0≤i∧cellAt M i=some c∧M.cells[i.toNat]? =some (some c)∧A.cs[i.toNat]? =some (some p)∧atO (A.cs.map pV) (oV x)=.ref p.1∧CeO X.C H T s i.toNat p c:=by
 cases x with
 | none=>exact .inl ⟨rfl,rfl⟩
 | some i=>
  show (cellAt M i=none∧atO _ (.int i)=_)∨_
  by_cases h0:0≤i
  ·cases hc:M.cells[i.toNat]? with
   | none=>
    have hl:A.cs[i.toNat]? =none:=by
     rw [List.getElem?_eq_none_iff] at hc ⊢;rw [j.jc.lc];exact hc
    refine .inl ⟨by unfold cellAt;rw [if_pos h0,hc];rfl,?_⟩;show (if 0≤i then _ else _)=_;rw [if_pos h0,List.getElem?_map,hl];rfl
   | some y=>cases y with
    | none=>
     refine .inl ⟨by unfold cellAt;rw [if_pos h0,hc];rfl,?_⟩;show (if 0≤i then _ else _)=_;rw [if_pos h0,List.getElem?_map,j.jc.at0 hc];rfl
    | some c=>
     obtain ⟨p,hp,e⟩:=j.jc.at hc;refine .inr ⟨i,c,p,rfl,h0,by unfold cellAt;rw [if_pos h0,hc];rfl,hc,hp,?_,e⟩;show (if 0≤i then _ else _)=_;rw [if_pos h0,List.getElem?_map,hp];rfl
  ·refine .inl ⟨by unfold cellAt;rw [if_neg h0],?_⟩;show (if 0≤i then _ else _)=_;rw [if_neg h0]
theorem WJ.hand (j:WJ X H T s A M) {k:Nat}{p:Addr×Addr} (hp:A.hs[k]? =some p):∃ m,M.hands[k]? =some m∧HdO X.D H T s k p m:=by
 have hl:k < M.hands.length:=by rw [← j.jd.lh];exact (List.getElem?_eq_some_iff.mp hp).1
 exact ⟨_,List.getElem?_eq_getElem hl,j.jd.hd k p _ hp (List.getElem?_eq_getElem hl)⟩
theorem WJ.handOf (j:WJ X H T s A M) {h t:Nat} (o:okS M h t):∃ p m,A.hs[h]? =some p∧M.hands[h]? =some m∧m.2[t]? =some (Zab M h t)∧t < m.2.length∧HdO X.D H T s h p m:=by
 obtain ⟨m,hm,hk,hl⟩:=Zto o;have hh:h < A.hs.length:=by rw [j.jd.lh];exact (List.getElem?_eq_some_iff.mp hm).1
 exact ⟨_,m,List.getElem?_eq_getElem hh,hm,hk,hl,j.jd.hd h _ m (List.getElem?_eq_getElem hh) hm⟩
theorem WJ.fresh (j:WJ X H T s A M) {l:Addr}{o:HO}{v:Nat×Nat} (h:H l=none):WJ X (upd H l o) (setT T l v) s A M:=
 j.mv (H':=upd H l o) (T':=setT T l v) ⟨fun b u e _ _=>by rw [Za9 (Za5 e h)];exact e,fun b u e=>Zdy (Za5 e h)⟩ fun b u e _=>by rw [Za9 (Za5 e h)];exact e
end
theorem bit4 {t:Int} (h:0≤t∧t < 4):Builtin.bitAnd t 1=t % 2∧(Builtin.bitAnd t 2=0↔¬ t / 2 % 2=1):=by
 have:t=0∨t=1∨t=2∨t=3:=by omega
 rcases this with rfl | rfl | rfl | rfl<;>decide
section
variable {K:PySem.W.Frag}{X:Cs}{H:Hp}{Q:VK}{E:XK}{n:St→Hp→Prop}{bk ct:St→Hp→Prop}
theorem ZIx {hp:Addr}{pl:V} (T:TxW K X) (q:(pl=.non∨∃ i,pl=.int i)∧∃ ca room used born cs,HpO X.H H hp ca room used born cs∧Q (atO cs pl) H):Zqw K ⟨n,Q,bk,ct⟩ [some (.ref hp),some pl] H:=by
 obtain ⟨hpl,ca,room,used,born,cs,⟨⟨dx,h1⟩,h2⟩,q⟩:=q;unfold Zqw;rcases hpl with rfl | ⟨i,rfl⟩
 ·walk_at "ev";exact q
 ·walk_at "ev";refine ifd (fun z=>?_) (fun z=>?_)
  ·walk_at "ev";rw [show atO cs (.int i)=.non from if_neg (by omega)] at q;exact q
  ·rw [show atO cs (.int i)=(cs[i.toNat]?).getD .non from if_pos (by omega)] at q;walk_at "ev";refine Zao h1 T.c.Zca T.c.Zbg Zby ?_;walk_at "ev";refine Zhl (SqL.of h2) ?_;walk_at "ev";refine ifd (fun y=>?_) (fun y=>?_)
   ·walk_at "ev";rw [List.getElem?_eq_none_iff.mpr (by omega)] at q;exact q
   ·walk_at "ev";refine Zao h1 T.c.Zca T.c.Zbg Zby ?_;walk_at "ev";have hl:i.toNat < cs.length:=by omega
    refine Zbe (SqL.of h2) (Zrh (by omega) (List.getElem?_eq_getElem hl)) ?_;rw [List.getElem?_eq_getElem hl] at q;exact q
theorem ZF4 {hp:Addr}{pl:V} (T:TxW K X) (q:∃ x,pl=oV x∧∃ T s A M,WJ X H T s A M∧A.hp=hp∧Q (oV (bAt M x)) H):Zod K (Zec X.H) ⟨n,Q,bk,ct⟩ [some (.ref hp),some pl,none] H:=by
 obtain ⟨x,rfl,Tg,s,A,M,j,rfl,q⟩:=q;unfold Zod;walk_at "ev";refine ⟨_,_,rfl,Ztp x,_,_,_,_,_,j.hpO,?_⟩;rcases j.look x with ⟨e1,e2⟩ | ⟨i,c,p,rfl,h0,ec,_,_,e2,⟨t1,t2,⟨dx,o1⟩,o2⟩⟩
 ·rw [e2];have:bAt M x=none:=by
   cases x with
   | none=>rfl
   | some i=>show (cellAt M i).map _=none;rw [show cellAt M i=none from e1];rfl
  rw [this] at q;walk_at "ev";exact q
 ·rw [e2];have:bAt M (some i)=some c.birth:=by show (cellAt M i).map _=_;rw [ec];rfl
  rw [this] at q;walk_at "ev";refine Zao o1 T.c.Zc5 T.c.Zcd Zel ?_;exact q
theorem Zrk {p:Addr}{f:Int} (T:TxW K X) (q:∃ T s i q c,CeO X.C H T s i q c∧q.1=p∧Q (.bl (decide (0≤f) && decide (f < c.fl.length))) H):Zgh K ⟨n,Q,bk,ct⟩ [some (.ref p),some (.int f)] H:=by
 obtain ⟨Tg,s,i,r,c,⟨t1,t2,⟨dx,o1⟩,o2⟩,rfl,q⟩:=q;unfold Zgh;walk_at "ev";refine ifd (fun z=>?_) (fun z=>?_)
 ·rw [decide_eq_true z,Bool.true_and] at q;walk_at "ev";refine Zao o1 T.c.Zc5 T.c.Zcm Zga ?_;walk_at "ev";refine Zhl (SqL.of o2) ?_;walk_at "ev";rw [List.length_map];exact q
 ·rw [decide_eq_false z,Bool.false_and] at q;walk_at "ev";exact q
theorem ZDi {wo:Addr}{h:Int} (T:TxW K X) (q:∃ T s A M k p,WJ X H T s A M∧A.wo=wo∧h=((k:Nat):Int)∧A.hs[k]? =some p∧Q (.ref p.2) H):Zoa K ⟨n,Q,bk,ct⟩ [some (.ref wo),some (.int h)] H:=by
 obtain ⟨Tg,s,A,M,k,p,j,rfl,rfl,hp,q⟩:=q;obtain ⟨d1,ow⟩:=j.jb.ow;obtain ⟨m,hm,⟨t1,t2,⟨dx,o1⟩,o2⟩⟩:=j.hand hp;unfold Zoa;walk_at "ev";refine Zao ow T.cW T.nWd Zlj ?_;walk_at "ev";refine Zbe (SqL.of j.jb.on) (Zal (v:=.ref p.1) (by rw [List.getElem?_map,hp];rfl)) ?_;refine Zao o1 T.cD T.nDs Znp ?_;exact q
theorem ZC9 {wo p:Addr} (T:TxW K X) (q:∃ T s A M i q c,WJ X H T s A M∧A.wo=wo∧CeO X.C H T s i q c∧q.1=p∧Q (.bl (decide (c.tone=M.sw.sense))) H):Zlv K ⟨n,Q,bk,ct⟩ [some (.ref wo),some (.ref p)] H:=by
 obtain ⟨Tg,s,A,M,i,r,c,j,rfl,⟨t1,t2,⟨dx,o1⟩,o2⟩,rfl,q⟩:=q;obtain ⟨d1,ow⟩:=j.jb.ow;obtain ⟨d2,os⟩:=j.js.os;unfold Zlv;walk_at "ev";refine Zao o1 T.c.Zc5 T.c.Zev Zz7 ?_;walk_at "ev";refine Zao ow T.cW T.nWs Zdb ?_;walk_at "ev";refine Zao os T.cS T.n1 Zi4 ?_;walk_at "ev";exact q
end
theorem bitS {y:Int}:Builtin.bitAnd y 1=y % 2:=by
 unfold Builtin.bitAnd
 by_cases h:0≤y
 ·rw [decide_eq_true h,decide_eq_true (show (0:Int)≤1 by decide)];show ((y.toNat &&& 1:Nat):Int)=_;rw [Nat.and_one_is_mod];omega
 ·rw [decide_eq_false h,decide_eq_true (show (0:Int)≤1 by decide)];show (1:Int) - ((1 &&& (Builtin.bitNot y).toNat:Nat):Int)=_;rw [Nat.and_comm,Nat.and_one_is_mod];unfold Builtin.bitNot;omega
section
variable {K:PySem.W.Frag}{X:Cs}{H:Hp}{Q:VK}{E:XK}{n:St→Hp→Prop}{bk ct:St→Hp→Prop}{CE CF CN:Addr}
theorem ZBh {wo:Addr}{h:Int} (T:TxW K X) (q:∃ T s A M k,WJ X H T s A M∧A.wo=wo∧h=((k:Nat):Int)∧Q (.bl (Zbl M k)) H):Zlu K ⟨n,Q,bk,ct⟩ [some (.ref wo),some (.int h)] H:=by
 obtain ⟨Tg,s,A,M,k,j,rfl,rfl,q⟩:=q;obtain ⟨d1,ow⟩:=j.jb.ow;obtain ⟨d2,os⟩:=j.js.os;unfold Zlu;walk_at "ev";refine Zao ow T.cW T.nWs Zdb ?_;walk_at "ev";refine Zao os T.cS T.n4 Zsg ?_;walk_at "ev";rw [bitS,Int.toNat_natCast];exact q
theorem Zve {wo:Addr}{v:V} (T:TxW K X) (q:∃ T s A M,WJ X H T s A M∧A.wo=wo∧(0≤M.tells∧M.tells < 4)∧∀ l,H l=none→Q (.ref l) (upd H l (.lst (if old? M=true then [v] else [])))):
  Zjc K ⟨n,Q,bk,ct⟩ [some (.ref wo),some v] H:=by
 obtain ⟨Tg,s,A,M,j,rfl,ht,q⟩:=q;obtain ⟨d1,ow⟩:=j.jb.ow;obtain ⟨d2,ok⟩:=j.jb.ok;obtain ⟨b1,_⟩:=bit4 ht;unfold Zjc;walk_at "ev";refine Zao ow T.cW T.nWk Zni ?_;walk_at "ev";refine Zao ok T.cK T.nKt Ze2 ?_;walk_at "ev";rw [b1];refine ifd (fun z=>?_) (fun z=>?_)
 ·walk_at "ev";refine ⟨Zat (by simp),fun l hl=>?_⟩;have:=q l hl;rw [if_neg (by unfold old?;rw [decide_eq_true_iff];omega)] at this;exact this
 ·walk_at "ev";refine ⟨Zat (by simp),fun l hl=>?_⟩;have:=q l hl;rw [if_pos (by unfold old?;rw [decide_eq_true_iff];omega)] at this;exact this
theorem Zvf {wo:Addr}{h:Int}{v:V} (T:TxW K X) (q:∃ T s A M k,WJ X H T s A M∧A.wo=wo∧(0≤M.tells∧M.tells < 4)∧h=((k:Nat):Int)∧∀ l,H l=none→Q (.ref l) (upd H l (.lst (if (new? M && !Zbl M k)=true then [v] else [])))):
  Zjd K (Zl1 X) ⟨n,Q,bk,ct⟩ [some (.ref wo),some (.int h),some v] H:=by
 obtain ⟨Tg,s,A,M,k,j,rfl,ht,rfl,q⟩:=q;obtain ⟨d1,ow⟩:=j.jb.ow;obtain ⟨d2,ok⟩:=j.jb.ok;obtain ⟨_,b1⟩:=bit4 ht;unfold Zjd;walk_at "ev";refine Zao ow T.cW T.nWk Zni ?_;walk_at "ev";refine Zao ok T.cK T.nKt Ze2 ?_;walk_at "ev";refine ifd (fun z=>?_) (fun z=>?_)
 ·walk_at "ev";refine ⟨Zat (by simp),fun l hl=>?_⟩;have:=q l hl;have e:new? M=false:=by unfold new?;exact decide_eq_false (b1.mp z)
  rw [e,Bool.false_and,if_neg (by decide)] at this;exact this
 ·have e:new? M=true:=by unfold new?;exact decide_eq_true (Decidable.not_not.mp fun w=>z (b1.mpr w))
  rw [e,Bool.true_and] at q;walk_at "ev";refine ⟨_,_,rfl,Tg,s,A,M,k,j,rfl,rfl,?_⟩;cases hl:Zbl M k with
  | true=>
   rw [hl] at q;walk_at "ev";refine ⟨Zat (by simp),fun l hl=>?_⟩;exact q l hl
  | false=>
   rw [hl] at q;walk_at "ev";refine ⟨Zat (by simp),fun l hl=>?_⟩;exact q l hl
theorem ZIw {wo:Addr}{h t:Int} (T:TxW K X) (q:∃ T s A M hn tn,WJ X H T s A M∧A.wo=wo∧h=((hn:Nat):Int)∧t=((tn:Nat):Int)∧okS M hn tn∧
 (cO M (Zab M hn tn)=none→E (.ref CE) none H)∧
 (∀ i c p,Zab M hn tn=some i→0≤i→cellAt M i=some c→A.cs[i.toNat]? =some (some p)→CeO X.C H T s i.toNat p c→Q (.ref p.1) H)):
  Zqv K CE (Zec X.H) (Zaz X) E ⟨n,Q,bk,ct⟩ [some (.ref wo),some (.int h),some (.int t),none] H:=by
 obtain ⟨Tg,s,A,M,hn,tn,j,rfl,rfl,rfl,ok,hE,hQ⟩:=q;obtain ⟨d1,ow⟩:=j.jb.ow;obtain ⟨p,m,hp,hm,hs,hl,⟨t1,t2,o1,o2⟩⟩:=j.handOf ok;unfold Zqv;walk_at "ev";refine Zao ow T.cW T.nWh Zb2 ?_;walk_at "ev";refine ⟨_,_,rfl,Tg,s,A,M,hn,p,j,rfl,rfl,hp,?_⟩;walk_at "ev";refine Zbe (SqL.of o2) (Zal (v:=oV (Zab M hn tn)) (by rw [List.getElem?_map,hs];rfl)) ?_;walk_at "ev";refine ⟨_,_,rfl,Ztp _,_,_,_,_,_,j.hpO,?_⟩;rcases j.look (Zab M hn tn) with ⟨e1,e2⟩ | ⟨i,c,p',e0,h0,ec,_,hp',e2,ce⟩
 ·rw [e2];walk_at "ev";exact ⟨by decide,hE e1⟩
 ·rw [e2];walk_at "ev";exact hQ i c p' e0 h0 ec hp' ce
theorem ZCb {wo:Addr}{h t f:Int} (T:TxW K X) (q:∃ T s A M hn tn fn,WJ X H T s A M∧A.wo=wo∧h=((hn:Nat):Int)∧t=((tn:Nat):Int)∧f=((fn:Nat):Int)∧okS M hn tn∧
 (cO M (Zab M hn tn)=none→E (.ref CE) none H)∧
 (∀ i c,Zab M hn tn=some i→0≤i→cellAt M i=some c→c.fl[fn]? =none→E (.ref CF) none H)∧
 (∀ i c p,Zab M hn tn=some i→0≤i→cellAt M i=some c→A.cs[i.toNat]? =some (some p)→CeO X.C H T s i.toNat p c→fn < c.fl.length→Q (.ref p.2) H)):
  Zlw K X.C CF (Zl2 X) (Zeb X CE) E ⟨n,Q,bk,ct⟩ [some (.ref wo),some (.int h),some (.int t),some (.int f),none] H:=by
 obtain ⟨Tg,s,A,M,hn,tn,fn,j,rfl,rfl,rfl,rfl,ok,hE,hF,hQ⟩:=q;unfold Zlw;walk_at "ev";refine ⟨_,_,_,rfl,Tg,s,A,M,hn,tn,j,rfl,rfl,rfl,ok,hE,fun i c p e0 h0 ec hp ce=>?_⟩;obtain ⟨t1,t2,⟨dx,o1⟩,o2⟩:=id ce;walk_at "ev";refine ⟨p.1,dx,_,rfl,o1,Zq8,?_⟩;walk_at "ev";refine ⟨_,_,rfl,Tg,s,_,p,c,ce,rfl,?_⟩
 by_cases z:fn < c.fl.length
 ·rw [show (decide ((0:Int)≤(fn:Int)) && decide ((fn:Int) < c.fl.length))=true from by simp;omega];walk_at "ev";refine Zao o1 T.c.Zc5 T.c.Zcm Zga ?_;exact hQ i c p e0 h0 ec hp ce z
 ·rw [show (decide ((0:Int)≤(fn:Int)) && decide ((fn:Int) < c.fl.length))=false from by simp;omega];walk_at "ev";exact ⟨by decide,hF i c e0 h0 ec (List.getElem?_eq_none_iff.mpr (by omega))⟩
theorem ZPg {wo:Addr}{pl b:Int} (T:TxW K X) (q:∃ T s A M,WJ X H T s A M∧A.wo=wo∧Q (.bl (Zor M pl b)) H):ZDv K (Zec X.H) (Ze4 X) ⟨n,Q,bk,ct⟩ [some (.ref wo),some (.int pl),some (.int b),none] H:=by
 obtain ⟨Tg,s,A,M,j,rfl,q⟩:=q;obtain ⟨d1,ow⟩:=j.jb.ow;obtain ⟨d2,os⟩:=j.js.os;unfold ZDv;walk_at "ev";refine Zao ow T.cW T.nWh Zb2 ?_;walk_at "ev";refine ⟨_,_,rfl,Ztp (some pl),_,_,_,_,_,j.hpO,?_⟩;unfold Zor at q;rcases j.look (some pl) with ⟨e1,e2⟩ | ⟨i,c,p,ei,h0,ec,_,hp,e2,ce⟩
 ·rw [show atO (A.cs.map pV) (.int pl)=.non from e2];rw [show cellAt M pl=none from e1] at q;walk_at "ev";exact q
 ·cases ei;rw [show atO (A.cs.map pV) (.int pl)=.ref p.1 from e2];rw [ec] at q;dsimp only at q;obtain ⟨t1,t2,⟨dx,o1⟩,o2⟩:=id ce;walk_at "ev";refine Zao o1 T.c.Zc5 T.c.Zcd Zel ?_;walk_at "ev";refine ifnd (fun z=>?_) (fun z=>?_)
  ·rw [if_neg z] at q;walk_at "ev";exact q
  ·rw [if_pos z] at q;walk_at "ev";refine Zao ow T.cW T.nWs Zdb ?_;walk_at "ev";refine Zao os T.cS T.n2 Zfq ?_;walk_at "ev";refine ifd (fun y=>?_) (fun y=>?_)
   ·walk_at "ev";refine ⟨_,_,rfl,Tg,s,A,M,_,p,c,j,rfl,ce,rfl,?_⟩;walk_at "ev";have:decide (M.sw.phase="give"∧c.tone≠M.sw.sense)=!decide (c.tone=M.sw.sense):=by simp [y]
    rw [this] at q;exact q
   ·have:decide (M.sw.phase="give"∧c.tone≠M.sw.sense)=false:=decide_eq_false fun w=>y w.1;rw [this] at q;exact q
theorem ZOt {wo:Addr}{pl:V} (T:TxW K X) (q:∃ x,pl=oV x∧∃ T s A M,WT H T∧s≠0∧WJ X H T s A M∧A.wo=wo∧(M.sw.phase="walk"→M.sw.grey.length≤20000)∧
 ∀ H',Stp s H H' T T→WJ X H' T s A (Zdp M x).2→Q (oV (Zdp M x).1) H'):ZDu K (Zec X.H) (Ze4 X) ⟨n,Q,bk,ct⟩ [some (.ref wo),some pl,none,none] H:=by
 obtain ⟨x,rfl,Tg,s,A,M,w,s0,j,rfl,hg,q⟩:=q;obtain ⟨d1,ow⟩:=j.jb.ow;obtain ⟨d2,os⟩:=j.js.os;unfold ZDu;walk_at "ev";refine Zao ow T.cW T.nWs Zdb ?_;walk_at "ev";refine Zao ow T.cW T.nWh Zb2 ?_;walk_at "ev";refine ⟨_,_,rfl,Ztp x,_,_,_,_,_,j.hpO,?_⟩;walk_at "ev";refine Zao os T.cS T.n2 Zfq ?_;walk_at "ev";have stay:Zdp M x=(none,M)→Q .non H:=fun e=>by
  have:=q H (Stp.refl w);rw [e] at this;exact this j
 refine ifnd (fun z=>?_) (fun z=>?_)
 ·walk_at "ev";exact stay (Zwl z x)
 ·rcases j.look x with ⟨e1,e2⟩ | ⟨i,c,p,rfl,h0,ec,hc,hp,e2,ce⟩
  ·rw [e2];walk_at "ev";refine stay ?_;cases x with
   | none=>rfl
   | some i=>unfold Zdp;dsimp only;rw [show cellAt M i=none from e1]
  ·rw [e2];obtain ⟨t1,t2,⟨dx,o1⟩,o2⟩:=id ce;walk_at "ev";refine ⟨_,_,rfl,Tg,s,A,M,_,p,c,j,rfl,ce,rfl,?_⟩
   by_cases y:c.tone=M.sw.sense
   ·rw [decide_eq_true y];walk_at "ev";refine stay ?_;unfold Zdp;dsimp only;rw [ec];dsimp only;rw [if_neg fun w=>w.2 y]
   ·rw [decide_eq_false y];have en:Zdp M (some i)=(some c.birth,{ setCell M i { c with tone:=M.sw.sense } with sw:={ M.sw with grey:=M.sw.grey ++ [i] } }):=by
     unfold Zdp;dsimp only;rw [ec];dsimp only;rw [if_pos ⟨z,y⟩]
    rw [en] at q;walk_at "ev";refine Zao os T.cS T.n1 Zi4 ?_;walk_at "ev";refine ⟨p.1,X.C,dx,_,rfl,o1,T.c.Zc5,T.c.Zev,by show 5 < 1000;decide,?_⟩;rw [Zw9];obtain ⟨st1,j1⟩:=j.cell w s0 (dx:=dx) (tone:=M.sw.sense) (load:=c.load) hp ce;generalize upd H p.1 (.ins X.C dx (Zf6 c.birth c.bulk M.sw.sense c.load p.2))=H1 at st1 j1 ⊢;obtain ⟨d3,os1⟩:=j1.js.os;obtain ⟨p1,hp1,ce1⟩:=j1.jc.at (i:=i.toNat) (c:={ c with tone:=M.sw.sense,load:=c.load }) (by rw [List.getElem?_set_self (List.getElem?_eq_some_iff.mp hc).1]);rw [hp] at hp1;cases hp1;walk_at "ev";refine Zao os1 T.cS T.n3 Znj ?_;walk_at "ev";have hgl:=hg z;refine ⟨.inl ⟨rfl,_,SqL.of j1.js.og⟩,?_⟩;walk_at "ev";refine ⟨_,_,_,rfl,rfl,j1.js.og,?_,?_⟩
    ·rw [List.length_map];exact Nat.lt_of_le_of_lt hgl (by decide)
    obtain ⟨st2,j2⟩:=j1.greys st1.wt s0 (g:=M.sw.grey ++ [i]);have eg:(M.sw.grey.map V.int ++ [V.int i])=(M.sw.grey ++ [i]).map V.int:=by rw [List.map_append];rfl
    show tRet _ _ _ (upd H1 A.gr (.lst (M.sw.grey.map V.int ++ [oV (some i)])));rw [show (M.sw.grey.map V.int ++ [oV (some i)])=(M.sw.grey ++ [i]).map V.int from eg];generalize upd H1 A.gr (.lst ((M.sw.grey ++ [i]).map V.int))=H2 at st2 j2 ⊢;obtain ⟨p2,hp2,ce2⟩:=j2.jc.at (i:=i.toNat) (c:={ c with tone:=M.sw.sense,load:=c.load }) (by show (M.cells.set _ _)[_]? =_;rw [List.getElem?_set_self (List.getElem?_eq_some_iff.mp hc).1]);rw [hp] at hp2;cases hp2;obtain ⟨_,_,⟨dx2,o3⟩,_⟩:=ce2;walk_at "ev";refine Zao o3 T.c.Zc5 T.c.Zcd Zel ?_;exact q H2 (st1.trans st2) j2
theorem ZQo {Tg:Tg}{z:Str}:∀ {ns:List Addr}{names:List (Str×(Int×Int))},Al (NmO H Tg) ns names→(Zjk names z=none∧valV (nmK names ns) (Sum.inr z)=none)∨∃ p b t,Zjk names z=some (p,b)∧valV (nmK names ns) (Sum.inr z)=some (.ref t)∧H t=some (.tup [.int p,.int b])∧Tg t=(0,0):=by
 intro ns names h
 induction h with
 | nil=>exact .inl ⟨rfl,rfl⟩
 | @cons t m ns names h1 _ ih=>
  by_cases e:m.1=z
  ·refine .inr ⟨m.2.1,m.2.2,t,?_,?_,h1.2,h1.1⟩
   ·unfold Zjk;rw [List.find?_cons_of_pos (by simpa using e)];rfl
   ·show (List.find? _ ((Sum.inr m.1,V.ref t) :: nmK names ns)).map _=_;rw [List.find?_cons_of_pos (by simpa using e)];rfl
  ·have g:Zjk (m :: names) z=Zjk names z:=by unfold Zjk;rw [List.find?_cons_of_neg (by simpa using e)]
   have v:valV (nmK (m :: names) (t :: ns)) (Sum.inr z)=valV (nmK names ns) (Sum.inr z):=by
    show (List.find? _ ((Sum.inr m.1,V.ref t) :: nmK names ns)).map _=_;rw [List.find?_cons_of_neg (by simpa using e)];rfl
   rw [g,v];exact ih
theorem Zvq {wo:Addr}{z:Str} (T:TxW K X) (q:∃ T s A M,WJ X H T s A M∧A.wo=wo∧(Zjk M.names z=none→E (.ref CN) none H)∧(∀ p b,Zjk M.names z=some (p,b)→Q (if Zor M p b=true then .non else .int p) H)):
  Zje K CN (ZGh X) E ⟨n,Q,bk,ct⟩ [some (.ref wo),some (.str z),none,none] H:=by
 obtain ⟨Tg,s,A,M,j,rfl,hE,hQ⟩:=q;obtain ⟨d1,ow⟩:=j.jb.ow;obtain ⟨tm,om,nms⟩:=j.jn;unfold Zje;walk_at "ev";refine Zao ow T.cW T.nWn Zfp ?_;refine ⟨_,_,rfl,ZPs om,?_⟩;rcases ZQo (z:=z) nms with ⟨e1,e2⟩ | ⟨p,b,t,e1,e2,ot,_⟩
 ·rw [e2];walk_at "ev";exact ⟨by decide,hE e1⟩
 ·rw [e2,show (!(some (V.ref t)).isSome)=false from rfl];walk_at "ev";refine Zao ow T.cW T.nWn Zfp ?_;walk_at "ev";refine ⟨_,_,rfl,by have:=ZPs (z:=z) om;rw [e2] at this;exact this,?_⟩;walk_at "ev";refine ⟨t,_,0,_,rfl,rfl,SqT.of ot,rfl,?_⟩;walk_at "ev";refine Zao ow T.cW T.nWn Zfp ?_;walk_at "ev";refine ⟨_,_,rfl,by have:=ZPs (z:=z) om;rw [e2] at this;exact this,?_⟩;walk_at "ev";refine ⟨t,_,1,_,rfl,rfl,SqT.of ot,rfl,?_⟩;walk_at "ev";refine ⟨_,_,_,rfl,Tg,s,A,M,j,rfl,?_⟩;have:=hQ p b e1;cases hg:Zor M p b with
  | true=>
   rw [hg] at this;walk_at "ev";exact this
  | false=>
   rw [hg] at this;walk_at "ev";exact this
theorem Stp.new {s:Nat}{H Hx:Hp}{T Tx:Tg}{l:Addr}{o o0:HO} (e:Stp s H Hx T Tx) (hl:H l=none) (hx:Hx l=some o0):Stp s H (upd Hx l o) T Tx where
 kp:=fun b u h z=>by rw [Za9 (Za5 h hl)];exact e.kp b u h z
 al:=fun b u h=>by rw [Za9 (Za5 h hl)];exact e.al b u h
 tg:=e.tg
 wt:=fun b h=>e.wt b (by
  by_cases z:b=l
  ·rw [z,Za2] at h;cases h
  ·rw [Za9 z] at h;exact h)
theorem Stp.fresh {s:Nat}{H:Hp}{T:Tg}{l:Addr}{o:HO}{v:Nat×Nat} (w:WT H T) (hl:H l=none):Stp s H (upd H l o) T (setT T l v) where
 kp:=fun b u h z=>by rw [Za9 (Za5 h hl)];exact h
 al:=fun b u h=>⟨u,by rw [Za9 (Za5 h hl)];exact h⟩
 tg:=fun b u h=>Zdy (Za5 h hl)
 wt:=fun b h=>by
  by_cases z:b=l
  ·rw [z,Za2] at h;cases h
  ·rw [Za9 z] at h;rw [Zdy z];exact w b h
theorem ZHq {M:Wm}{x:Option Int}:(Zdp M x).2.sw.phase=M.sw.phase∧(Zdp M x).2.sw.grey.length≤M.sw.grey.length + 1∧(Zdp M x).2.tells=M.tells∧(Zdp M x).2.names=M.names:=by
 cases x with
 | none=>exact ⟨rfl,Nat.le_succ _,rfl,rfl⟩
 | some i=>
  unfold Zdp;dsimp only;cases cellAt M i with
  | none=>exact ⟨rfl,Nat.le_succ _,rfl,rfl⟩
  | some c=>
   dsimp only
   by_cases z:M.sw.phase="walk"∧c.tone≠M.sw.sense
   ·rw [if_pos z];exact ⟨rfl,by show (M.sw.grey ++ [i]).length≤_;rw [List.length_append];exact Nat.le_refl _,rfl,rfl⟩
   ·rw [if_neg z];exact ⟨rfl,Nat.le_succ _,rfl,rfl⟩
theorem Zfy:∀ {l:List (Option Int)}{M:Wm}{x:Option Int},Zbj M (l ++ [x])=((Zbj M l).1 ++ ofN (Zdp (Zbj M l).2 x).1,(Zdp (Zbj M l).2 x).2)
 | [],M,x=>by
  show (ofN (Zdp M x).1 ++ [],(Zdp M x).2)=([] ++ ofN (Zdp M x).1,(Zdp M x).2);rw [List.append_nil,List.nil_append]
 | y :: l,M,x=>by
  show (ofN (Zdp M y).1 ++ (Zbj (Zdp M y).2 (l ++ [x])).1,(Zbj (Zdp M y).2 (l ++ [x])).2)=_;rw [Zfy];show _=((ofN (Zdp M y).1 ++ (Zbj (Zdp M y).2 l).1) ++ _,_);rw [List.append_assoc];rfl
theorem Zu9:∀ {l:List (Option Int)}{M:Wm},(Zbj M l).2.sw.phase=M.sw.phase∧(Zbj M l).2.sw.grey.length≤M.sw.grey.length + l.length
 | [],M=>⟨rfl,Nat.le_refl _⟩
 | y :: l,M=>by
  obtain ⟨a,b,_⟩:=ZHq (M:=M) (x:=y);obtain ⟨c,d⟩:=Zu9 (l:=l) (M:=(Zdp M y).2);refine ⟨c.trans a,?_⟩;show (Zbj (Zdp M y).2 l).2.sw.grey.length≤_;rw [List.length_cons];omega
theorem Zwk:∀ {l:List (Option Int)}{M:Wm},(Zbj M l).1.length≤l.length
 | [],M=>Nat.le_refl _
 | y :: l,M=>by
  have:=Zwk (l:=l) (M:=(Zdp M y).2);show (ofN (Zdp M y).1 ++ (Zbj (Zdp M y).2 l).1).length≤_;rw [List.length_append,List.length_cons];have:(ofN (Zdp M y).1).length≤1:=by cases (Zdp M y).1<;>simp [ofN]
  omega
theorem ZE9 {wo pl:Addr} (T:TxW K X) (q:∃ xs T s A M,WT H T∧s≠0∧WJ X H T s A M∧A.wo=wo∧H pl=some (.lst (xs.map oV))∧T pl=(0,0)∧xs.length≤100∧(M.sw.phase="walk"→M.sw.grey.length≤10000)∧
 ∀ H' T' l,Stp s H H' T T'→WJ X H' T' s A (Zbj M xs).2→H' l=some (.lst ((Zbj M xs).1.map V.int))→H l=none→Q (.ref l) H'):Zob K (ZGf X) ⟨n,Q,bk,ct⟩ [some (.ref wo),some (.ref pl),none,none,none] H:=by
 obtain ⟨xs,Tg,s,A,M,w,s0,j,rfl,opl,tpl,hx,hg,q⟩:=q;unfold Zob;walk_at "ev";refine ⟨Zat (by simp),fun l hl=>?_⟩;have npl:pl≠l:=Za5 opl hl;have st1:Stp s H (upd H l (.lst [])) Tg (setT Tg l (s + 1,0)):=Stp.fresh w hl;have j1:WJ X (upd H l (.lst [])) (setT Tg l (s + 1,0)) s A M:=j.fresh hl;have g1:upd H l (.lst []) l=some (.lst []):=Za2;have tl:setT Tg l (s + 1,0) l=(s + 1,0):=Zdd;have tp:setT Tg l (s + 1,0) pl=(0,0):=(Zdy npl).trans tpl;have op1:upd H l (.lst []) pl=some (.lst (xs.map oV)):=(Za9 npl).trans opl;generalize upd H l (.lst [])=H1 at st1 j1 g1 op1 ⊢;generalize setT Tg l (s + 1,0)=T1 at st1 j1 tl tp;walk_at "ev";refine ⟨pl,rfl,⟨_,SqL.of op1⟩,forL (xs.map oV) (fun i σ Hx=>∃ v3 v4,σ=[some (.ref A.wo),some (.ref pl),some (.ref l),v3,v4]∧Stp s H Hx Tg T1∧WJ X Hx T1 s A (Zbj M (xs.take i)).2∧Hx l=some (.lst ((Zbj M (xs.take i)).1.map V.int))∧Hx pl=some (.lst (xs.map oV))) ⟨_,_,rfl,st1,j1,g1,op1⟩ (fun _ _ _ _ ⟨_,_,_,_,_,_,e⟩=>SqL.of e) ?_ ?_⟩
 ·rintro i x σ Hx hi ⟨v3,v4,rfl,st2,j2,g2,op2⟩;obtain ⟨y,hy,rfl⟩:∃ y,xs[i]? =some y∧oV y=x:=by
   rw [List.getElem?_map] at hi;obtain ⟨y,a,b⟩:=Option.map_eq_some_iff.mp hi;exact ⟨y,a,b⟩
  have il:=(List.getElem?_eq_some_iff.mp hy).1;have et:xs.take (i + 1)=xs.take i ++ [y]:=by
   rw [List.take_add_one,hy];rfl
  obtain ⟨gp,gl⟩:=Zu9 (l:=xs.take i) (M:=M);have nl:=Zwk (l:=xs.take i) (M:=M);have tk:(xs.take i).length≤100:=by rw [List.length_take];omega
  walk_at "ev";refine ⟨_,_,rfl,y,rfl,T1,s,A,_,st2.wt,s0,j2,rfl,fun z=>?_,fun Hy sty jy=>?_⟩
  ·have:=hg (gp.symm.trans z);omega
  have gy:Hy l=some (.lst ((Zbj M (xs.take i)).1.map V.int)):=sty.kp _ _ g2 (by rw [tl];show s + 1≠s;omega);have oy:Hy pl=some (.lst (xs.map oV)):=sty.kp _ _ op2 (by rw [tp];exact fun z=>s0 z.symm);have stt:=st2.trans sty;walk_at "ev";cases hn:(Zdp (Zbj M (xs.take i)).2 y).1 with
  | none=>
   dsimp only [oV];walk_at "ev";refine ⟨_,_,rfl,stt,?_,?_,oy⟩
   ·rw [et,Zfy];exact jy
   ·rw [et,Zfy];show Hy l=some (.lst (((Zbj M (xs.take i)).1 ++ ofN (Zdp (Zbj M (xs.take i)).2 y).1).map V.int));rw [hn];show Hy l=some (.lst (((Zbj M (xs.take i)).1 ++ []).map V.int));rw [List.append_nil];exact gy
  | some b=>
   dsimp only [oV];walk_at "ev";refine ⟨.inl ⟨rfl,_,SqL.of gy⟩,?_⟩;walk_at "ev";refine ⟨_,_,_,rfl,rfl,gy,?_,?_⟩
   ·rw [List.length_map];exact Nat.lt_of_le_of_lt (show _≤100 by omega) (by decide)
   walk_at "ev";refine ⟨_,_,rfl,Stp.new stt hl gy,?_,?_,?_⟩
   ·rw [et,Zfy];exact jy.other (s':=s + 1) (Stp.upd sty.wt gy (by rw [tl])) (by omega) (by omega)
   ·rw [et,Zfy,Za2];show some (HO.lst _)=some (HO.lst (((Zbj M (xs.take i)).1 ++ ofN (Zdp (Zbj M (xs.take i)).2 y).1).map V.int));rw [hn,List.map_append];rfl
   ·rw [Za9 npl];exact oy
 ·rintro σ Hx ⟨v3,v4,rfl,st2,j2,g2,op2⟩;walk_at "ev";rw [show (xs.map oV).length=xs.length from List.length_map _,List.take_length] at j2 g2;exact q Hx T1 l st2 j2 g2 hl
end
theorem Zhv {M:Wm}{h k:Nat}{x:Option Int}{m:Str×List (Option Int)} (hm:M.hands[h]? =some m):{ M with hands:=M.hands.set h (m.1,m.2.set k x) }=setSlot M h k x:=by
 have e:=Zpa (k:=k) (x:=x) hm;show _={ M with hands:=_ };rw [show (M.hands.modify h fun m=>(m.1,m.2.set k x))=M.hands.set h (m.1,m.2.set k x) from e]
def Zs0 (d:Deed):Prop:=∃ h s many bulk,d=.make h s many bulk
def ZI4 (d:Deed):Prop:=∃ h s t f,d=.get h s t f
def ZI2 (d:Deed):Prop:=∃ h t f s,d=.put h t f s
def Zwq (d:Deed):Prop:=∃ h s t,d=.copy h s t
def Zwp (d:Deed):Prop:=∃ h s,d=.drop h s
def Zwo (d:Deed):Prop:=∃ h s g t,d=.give h s g t
def Zr3 (d:Deed):Prop:=∃ h t load,d=.write h t load
def Zwn (d:Deed):Prop:=∃ h t,d=.read h t
def isName (d:Deed):Prop:=∃ h t word,d=.name h t word
def Zwm (d:Deed):Prop:=∃ h s word,d=.seek h s word
abbrev Zvd (X:Cs) (rf:Rf→Addr) (P:Deed→Prop) (wo dd:Addr) (H:Hp) (Q:VK) (E:XK):Prop:=∃ T s A M d,P d∧WT H T∧s≠0∧WJ X H T s A M∧A.wo=wo∧H dd=some (.tup (dV d))∧okD M d∧Ok M∧M.cells.length≤900∧(M.sw.phase="walk"→M.sw.grey.length≤10000)∧(0≤M.tells∧M.tells < 4)∧M.names.length≤1000∧
 (∀ r,doM M d=.error r→∀ H',Same H H'→E (.ref (rf r)) none H')∧
 (∀ e M',doM M d=.ok (e,M')→∀ H' T' A' a,Stp s H H' T T'→WJ X H' T' s A' M'→A'.wo=wo→EvN H H' a e→Q (.ref a) H')
section
variable {X:Cs}{H Hx:Hp}{T Tx:Tg}{s:Nat}{A Ax:Wa}{M M':Wm}{d:Deed}{e:Ev}{wo:Addr}{Q:VK}
theorem Stp.free {s:Nat}{H Hx:Hp}{T Tx:Tg}{l:Addr} (e:Stp s H Hx T Tx) (h:Hx l=none):H l=none:=by
 cases z:H l with
 | none=>rfl
 | some o=>obtain ⟨o',z'⟩:=e.al l o z;rw [h] at z';cases z'
theorem ev0 (hQ:∀ e M',doM M d=.ok (e,M')→∀ H' T' A' a,Stp s H H' T T'→WJ X H' T' s A' M'→A'.wo=wo→EvN H H' a e→Q (.ref a) H') (he:doM M d=.ok (e,M')) (hn:e.notes=[]) (st:Stp s H Hx T Tx) (j:WJ X Hx Tx s Ax M') (aw:Ax.wo=wo) {l a:Addr} (hl:Hx l=none) (ha:upd Hx l (.lst []) a=none):
  Q (.ref a) (upd (upd Hx l (.lst [])) a (.tup [.str e.word,oV e.thing,.ref l])):=by
 have s1:=Zaf hl (.lst []);have s2:=Zaf ha (.tup [.str e.word,oV e.thing,.ref l]);have s3:=s1.trans s2;refine hQ e M' he _ Tx Ax a (st.trans (Stp.same st.wt s3)) (j.same s3) aw ⟨l,Stp.free st hl,Za2,?_⟩;rw [hn];exact s2 _ _ Za2
theorem ev1 {l a:Addr} (hl0:H l=none) (hQ:∀ e M',doM M d=.ok (e,M')→∀ H' T' A' a,Stp s H H' T T'→WJ X H' T' s A' M'→A'.wo=wo→EvN H H' a e→Q (.ref a) H') (he:doM M d=.ok (e,M')) (st:Stp s H Hx T Tx) (j:WJ X Hx Tx s Ax M') (aw:Ax.wo=wo) (hl:Hx l=some (.lst (e.notes.map V.int))) (ha:Hx a=none):
  Q (.ref a) (upd Hx a (.tup [.str e.word,oV e.thing,.ref l])):=by
 have s2:=Zaf ha (.tup [.str e.word,oV e.thing,.ref l]);exact hQ e M' he _ Tx Ax a (st.trans (Stp.same st.wt s2)) (j.same s2) aw ⟨l,hl0,Za2,s2 _ _ hl⟩
end
theorem Ztu {M:Wm}{i:Int}{c c':Ce} (h:cellAt M i=some c) (hb:c'.birth=c.birth) (x:Option Int):bAt (setCell M i c') x=bAt M x:=by
 cases x with
 | none=>rfl
 | some y=>
  obtain ⟨h0,h1⟩:=Zd7.mp h;show (cellAt (setCell M i c') y).map _=(cellAt M y).map _
  by_cases e:y=i
  ·subst e;rw [h,show cellAt (setCell M y c') y=some c' from Zd7.mpr ⟨h0,by show (M.cells.set _ _)[_]? =_;rw [List.getElem?_set_self (List.getElem?_eq_some_iff.mp h1).1]⟩];show some c'.birth=some c.birth;rw [hb]
  ·have:cellAt (setCell M i c') y=cellAt M y:=by
    unfold cellAt setCell
    by_cases z:0≤y
    ·rw [if_pos z,if_pos z];show ((M.cells.set _ _)[_]?).join=_;rw [List.getElem?_set_ne (by omega)]
    ·rw [if_neg z,if_neg z]
   rw [this]
theorem ZK4 {M:Wm}{y:Option Int} (x:Option Int):bAt (Zdp M y).2 x=bAt M x:=by
 cases y with
 | none=>rfl
 | some i=>
  unfold Zdp;dsimp only;cases hc:cellAt M i with
  | none=>rfl
  | some c=>
   dsimp only
   by_cases z:M.sw.phase="walk"∧c.tone≠M.sw.sense
   ·rw [if_pos z];have e:=Ztu (M:=M) (i:=i) (c:=c) (c':={ c with tone:=M.sw.sense }) hc rfl x;cases x with
    | none=>rfl
    | some y=>exact e
   ·rw [if_neg z]
theorem Zmy:∀ {l:List (Option Int)}{M:Wm} (x:Option Int),bAt (Zbj M l).2 x=bAt M x
 | [],_,_=>rfl
 | y :: l,M,x=>(Zmy (l:=l) (M:=(Zdp M y).2) x).trans (ZK4 x)
theorem ZP2 {b:Bool}{x:Option Int}:(if b=true then [oV x] else [])=(if b=true then [x] else []).map oV:=by cases b<;>rfl
section
variable {K:PySem.W.Frag}{X:Cs}{H:Hp}{Q:VK}{E:XK}{n:St→Hp→Prop}{bk ct:St→Hp→Prop}{rf:Rf→Addr}
theorem ZIs {wo dd:Addr} (T:TxW K X) (q:Zvd X rf Zwq wo dd H Q E):Zqu K (Zb8 X) (Zaz X) ⟨n,Q,bk,ct⟩ [some (.ref wo),some (.ref dd),none,none] H:=by
 obtain ⟨Tg,s,A,M,_,⟨h,sl,t,rfl⟩,w,s0,j,rfl,od,⟨o1,o2⟩,ok,hc,hg,ht,hn,hE,hQ⟩:=q;obtain ⟨p,m,hp,hm,hs,hl,hd⟩:=j.handOf o2;obtain ⟨m',hm',_,hl'⟩:=Zto o1;rw [hm] at hm';cases hm';unfold Zqu;walk_at "ev";refine ⟨dd,_,1,_,rfl,rfl,SqT.of od,rfl,?_⟩;walk_at "ev";refine ⟨_,_,rfl,Tg,s,A,M,h,p,j,rfl,rfl,hp,?_⟩;walk_at "ev";refine ⟨dd,_,3,_,rfl,rfl,SqT.of od,rfl,?_⟩;refine Zbe (SqL.of hd.o2) (Zal (v:=oV (Zab M h t)) (by rw [List.getElem?_map,hs];rfl)) ?_;walk_at "ev";refine ⟨dd,_,2,_,rfl,rfl,SqT.of od,rfl,?_⟩;refine ⟨p.2,_,_,sl,rfl,rfl,hd.o2,Zfh (by rw [List.length_map];exact hl'),?_⟩;obtain ⟨st1,j1⟩:=j.slot w s0 (k:=sl) (x:=Zab M h t) hp hm;rw [Zhv hm] at j1;generalize upd H p.2 (.lst ((m.2.map oV).set sl (oV (Zab M h t))))=H1 at st1 j1 ⊢;obtain ⟨d1,ow⟩:=j1.jb.ow;walk_at "ev";refine Zao ow T.cW T.nWh Zb2 ?_;walk_at "ev";refine ⟨_,_,rfl,Zab M h t,rfl,Tg,s,A,_,j1,rfl,?_⟩;rw [Zez];walk_at "ev";refine ⟨Zat (by simp),fun l hl=>⟨Zat (by simp),fun a ha=>?_⟩⟩;exact ev0 hQ (d:=.copy h sl t) rfl rfl st1 j1 rfl hl ha
theorem ZIr {wo dd:Addr} (T:TxW K X) (q:Zvd X rf Zwp wo dd H Q E):Zqt K (Zb8 X) (Zaz X) ⟨n,Q,bk,ct⟩ [some (.ref wo),some (.ref dd),none,none] H:=by
 obtain ⟨Tg,s,A,M,_,⟨h,sl,rfl⟩,w,s0,j,rfl,od,o1,ok,hc,hg,ht,hn,hE,hQ⟩:=q;obtain ⟨p,m,hp,hm,hs,hl,hd⟩:=j.handOf o1;unfold Zqt;walk_at "ev";refine ⟨dd,_,1,_,rfl,rfl,SqT.of od,rfl,?_⟩;walk_at "ev";refine ⟨_,_,rfl,Tg,s,A,M,h,p,j,rfl,rfl,hp,?_⟩;walk_at "ev";refine ⟨dd,_,2,_,rfl,rfl,SqT.of od,rfl,?_⟩;refine Zbe (SqL.of hd.o2) (Zal (v:=oV (Zab M h sl)) (by rw [List.getElem?_map,hs];rfl)) ?_;walk_at "ev";refine ⟨dd,_,2,_,rfl,rfl,SqT.of od,rfl,?_⟩;refine ⟨p.2,_,_,sl,rfl,rfl,hd.o2,Zfh (by rw [List.length_map];exact hl),?_⟩;obtain ⟨st1,j1⟩:=j.slot w s0 (k:=sl) (x:=none) hp hm;rw [Zhv hm] at j1;show tRet _ _ _ (upd H p.2 (.lst ((m.2.map oV).set sl (oV none))));generalize upd H p.2 (.lst ((m.2.map oV).set sl (oV none)))=H1 at st1 j1 ⊢;obtain ⟨d1,ow⟩:=j1.jb.ow;walk_at "ev";refine Zao ow T.cW T.nWh Zb2 ?_;walk_at "ev";refine ⟨_,_,rfl,Zab M h sl,rfl,Tg,s,A,_,j1,rfl,?_⟩;rw [Zez];walk_at "ev";refine ⟨Zat (by simp),fun l hl=>⟨Zat (by simp),fun a ha=>?_⟩⟩;exact ev0 hQ (d:=.drop h sl) rfl rfl st1 j1 rfl hl ha
theorem ZIq {wo dd:Addr} (T:TxW K X) (q:Zvd X rf Zwo wo dd H Q E):Zqs K (Zb8 X) (Zem X) (Zaz X) (Zgr X) ⟨n,Q,bk,ct⟩ [some (.ref wo),some (.ref dd),none,none,none,none] H:=by
 obtain ⟨Tg,s,A,M,_,⟨h,sl,g,t,rfl⟩,w,s0,j,rfl,od,⟨o1,o2⟩,ok,hc,hg,ht,hn,hE,hQ⟩:=q;obtain ⟨p,m,hp,hm,hs,hl,hd⟩:=j.handOf o1;obtain ⟨p',m',hp',hm',hs',hl',hd'⟩:=j.handOf o2;unfold Zqs;walk_at "ev";refine ⟨dd,_,1,_,rfl,rfl,SqT.of od,rfl,?_⟩;walk_at "ev";refine ⟨dd,_,3,_,rfl,rfl,SqT.of od,rfl,?_⟩;walk_at "ev";refine ⟨_,_,rfl,Tg,s,A,M,h,p,j,rfl,rfl,hp,?_⟩;walk_at "ev";refine ⟨dd,_,2,_,rfl,rfl,SqT.of od,rfl,?_⟩;refine Zbe (SqL.of hd.o2) (Zal (v:=oV (Zab M h sl)) (by rw [List.getElem?_map,hs];rfl)) ?_;walk_at "ev";refine ⟨_,_,rfl,Tg,s,A,M,g,p',j,rfl,rfl,hp',?_⟩;walk_at "ev";refine ⟨dd,_,4,_,rfl,rfl,SqT.of od,rfl,?_⟩;refine ⟨p'.2,_,_,t,rfl,rfl,hd'.o2,Zfh (by rw [List.length_map];exact hl'),?_⟩;obtain ⟨st1,j1⟩:=j.slot w s0 (k:=t) (x:=Zab M h sl) hp' hm';rw [Zhv hm'] at j1;generalize upd H p'.2 (.lst ((m'.2.map oV).set t (oV (Zab M h sl))))=H1 at st1 j1 ⊢;walk_at "ev";refine ⟨_,_,_,rfl,Tg,s,A,_,h,j1,rfl,ht,rfl,fun l1 hl1=>?_⟩;rw [show (new? (setSlot M g t (Zab M h sl)) && !Zbl (setSlot M g t (Zab M h sl)) h)=(new? M && !Zbl M h) from rfl,ZP2];have s1:=Zaf hl1 (.lst ((if (new? M && !Zbl M h)=true then [Zab M h sl] else []).map oV));have g1:upd H1 l1 (.lst ((if (new? M && !Zbl M h)=true then [Zab M h sl] else []).map oV)) l1=some (.lst ((if (new? M && !Zbl M h)=true then [Zab M h sl] else []).map oV)):=Za2;generalize upd H1 l1 (.lst ((if (new? M && !Zbl M h)=true then [Zab M h sl] else []).map oV))=H2 at s1 g1 ⊢;walk_at "ev";refine ⟨_,_,rfl,_,Tg,s,A,_,st1.wt.same s1,s0,j1.same s1,rfl,g1,st1.wt _ hl1,by cases (new? M && !Zbl M h)<;>simp,hg,fun H3 T3 l3 st3 j3 g3 nl3=>?_⟩;obtain ⟨d1,ow⟩:=j3.jb.ow;walk_at "ev";refine Zao ow T.cW T.nWh Zb2 ?_;walk_at "ev";refine ⟨_,_,rfl,Zab M h sl,rfl,T3,s,A,_,j3,rfl,?_⟩;rw [Zmy,Zez];walk_at "ev";refine ⟨Zat (by simp),fun a ha=>?_⟩;exact ev1 (Stp.free st1 (s1.free nl3)) hQ (d:=.give h sl g t) rfl (st1.trans ((Stp.same st1.wt s1).trans st3)) j3 rfl g3 ha
theorem ZIp {wo dd CF:Addr} (T:TxW K X) (hF:rf .full=CF) (q:Zvd X rf Zs0 wo dd H Q E):Zqr K X.H (Zl4 K X.C X.H CF) (Zb8 X) (Zaz X) E ⟨n,Q,bk,ct⟩ [some (.ref wo),some (.ref dd),none,none,none,none] H:=by
 obtain ⟨Tg,s,A,M,_,⟨h,sl,many,bulk,rfl⟩,w,s0,j,rfl,od,⟨o1,m0,m1,b0⟩,ok,hc,hg,ht,hn,hE,hQ⟩:=q;obtain ⟨p,m,hp,hm,hs,hl,hd⟩:=j.handOf o1;obtain ⟨d1,ow⟩:=j.jb.ow;obtain ⟨d2,os⟩:=j.js.os;obtain ⟨th,tc,⟨d3,oh⟩,oc⟩:=j.jh;have hcs:A.cs.length≤900:=by rw [j.jc.lc];exact hc
 unfold Zqr;walk_at "ev";refine ⟨dd,_,1,_,rfl,rfl,SqT.of od,rfl,?_⟩;walk_at "ev";refine ⟨_,_,rfl,Tg,s,A,M,h,p,j,rfl,rfl,hp,?_⟩;walk_at "ev";refine ⟨dd,_,3,_,rfl,rfl,SqT.of od,rfl,?_⟩;walk_at "ev";refine ⟨dd,_,4,_,rfl,rfl,SqT.of od,rfl,?_⟩;walk_at "ev";refine Zao ow T.cW T.nWh Zb2 ?_;refine ⟨A.hp,d3,_,rfl,oh,Zyq,?_⟩;walk_at "ev";refine Zao ow T.cW T.nWs Zdb ?_;walk_at "ev";refine Zao os T.cS T.n1 Zi4 ?_;walk_at "ev";refine ⟨_,_,_,_,rfl,A.ca,d3,_,_,_,_,oh,oc,?_,by rw [List.length_map];omega,m0,m1,fun hf H' sm=>?_,fun hf pc fa H1 npc nfa fm a1 a2 co=>?_⟩
 ·intro y hy;obtain ⟨o,ho,rfl⟩:=List.mem_map.mp hy;cases o with
  | none=>exact .inl rfl
  | some g=>
   obtain ⟨i,hi,ei⟩:=List.getElem_of_mem ho;have e:=j.jc.ce i _ _ (List.getElem?_eq_getElem hi) (List.getElem?_eq_getElem (by rw [← j.jc.lc];exact hi));rw [ei] at e;cases hcc:M.cells[i]'(by rw [← j.jc.lc];exact hi) with
   | none=>rw [hcc] at e;exact e.elim
   | some c=>
    rw [hcc] at e;obtain ⟨_,_,⟨dx,o1⟩,_⟩:=(show CeO X.C H Tg s i g c from e);exact .inr ⟨g.1,X.C,dx,_,rfl,o1,T.c.Zc5,T.c.Zz4⟩
 ·rw [← hF];refine hE .full ?_ H' sm;show (if _ then _ else _)=_;rw [if_neg (by omega)]
 ·obtain ⟨⟨dp,c1⟩,c2⟩:=co;have npf:pc≠fa:=ZEa c1 c2 (fun z=>by cases z);obtain ⟨T1,st1,j1⟩:=j.put w s0 (H':=H1) (dx:=d3) (used':=M.used + (1 + many + bulk)) (p:=pc) (fa:=fa) (c:=⟨M.born + 1,bulk,M.sw.sense,0,List.replicate many.toNat none⟩)
   (fun b o hb n1 n2=>fm b o hb (by simp [n1,n2])) a1 a2 npc nfa npf ⟨dp,c1⟩ (by rw [c2,List.map_replicate];rfl)
  have ei:((A.cs.map pV).idxOf V.non:Int)=(fst0 M.cells:Nat):=by rw [(ZG6 ZNg A.cs).1,j.jc.fst]
  walk_at "ev";rw [ei];refine ⟨dd,_,2,_,rfl,rfl,SqT.of (fm _ _ od ?_),rfl,?_⟩
  ·intro z;rcases List.mem_cons.mp z with z | z
   ·rw [z,oh] at od;cases od
   ·rw [List.mem_singleton.mp z,oc] at od;cases od
  have hd1:=j1.jd.hd h p m hp hm;refine ⟨p.2,_,_,sl,rfl,rfl,hd1.o2,Zfh (by rw [List.length_map];exact hl),?_⟩;obtain ⟨st2,j2⟩:=j1.slot st1.wt s0 (k:=sl) (x:=some (fst0 M.cells:Nat)) hp hm;rw [Zhv (M:={ M with used:=M.used + (1 + many + bulk),born:=M.born + 1,cells:=putO M.cells ⟨M.born + 1,bulk,M.sw.sense,0,List.replicate many.toNat none⟩ }) hm] at j2;show tRet _ _ _ (upd H1 p.2 (.lst ((m.2.map oV).set sl (oV (some (fst0 M.cells:Nat))))));generalize upd H1 p.2 (.lst ((m.2.map oV).set sl (oV (some (fst0 M.cells:Nat)))))=H2 at st2 j2 ⊢;obtain ⟨d5,ow2⟩:=j2.jb.ow;walk_at "ev";refine Zao ow2 T.cW T.nWh Zb2 ?_;walk_at "ev";refine ⟨_,_,rfl,some (fst0 M.cells:Nat),rfl,T1,s,_,_,j2,rfl,?_⟩;rw [Zez];rw [show bAt { M with used:=M.used + (1 + many + bulk),born:=M.born + 1,cells:=putO M.cells ⟨M.born + 1,bulk,M.sw.sense,0,List.replicate many.toNat none⟩ } (some (fst0 M.cells:Nat))=some (M.born + 1) from by
   show (cellAt _ _).map _=_;rw [Zrg];rfl]
  walk_at "ev";refine ⟨Zat (by simp),fun l hl=>⟨Zat (by simp),fun a ha=>?_⟩⟩;exact ev0 hQ (d:=.make h sl many bulk) (Zuw (by omega)) rfl (st1.trans st2) j2 rfl hl ha
end
theorem ZL6 {M:Wm}{h s t f:Nat} (e:cO M (Zab M h t)=none):doM M (.get h s t f)=.error .empty:=by
 show (match Zab M h t with | none=>_ | some x=>_)=_;cases hs:Zab M h t with
 | none=>rfl
 | some x=>
  rw [hs] at e;show (match cellAt M x with | none=>_ | some c=>_)=_;rw [show cellAt M x=none from e]
theorem ZL4 {M:Wm}{h s t f:Nat} (e:cO M (Zab M h t)=none):doM M (.put h t f s)=.error .empty:=by
 show (match Zab M h t with | none=>_ | some x=>_)=_;cases hs:Zab M h t with
 | none=>rfl
 | some x=>
  rw [hs] at e;show (match cellAt M x with | none=>_ | some c=>_)=_;rw [show cellAt M x=none from e]
theorem ZF0 {M:Wm}{h t:Nat}{l:Int} (e:cO M (Zab M h t)=none):doM M (.write h t l)=.error .empty:=by
 show (match Zab M h t with | none=>_ | some x=>_)=_;cases hs:Zab M h t with
 | none=>rfl
 | some x=>
  rw [hs] at e;show (match cellAt M x with | none=>_ | some c=>_)=_;rw [show cellAt M x=none from e]
theorem ZIu {M:Wm}{h t:Nat} (e:cO M (Zab M h t)=none):doM M (.read h t)=.error .empty:=by
 show (match Zab M h t with | none=>_ | some x=>_)=_;cases hs:Zab M h t with
 | none=>rfl
 | some x=>
  rw [hs] at e;show (match cellAt M x with | none=>_ | some c=>_)=_;rw [show cellAt M x=none from e]
theorem ZIv {M:Wm}{h t:Nat}{z:Str} (e:cO M (Zab M h t)=none):doM M (.name h t z)=.error .empty:=by
 show (match Zab M h t with | none=>_ | some x=>_)=_;cases hs:Zab M h t with
 | none=>rfl
 | some x=>
  rw [hs] at e;show (match cellAt M x with | none=>_ | some c=>_)=_;rw [show cellAt M x=none from e]
theorem ZN1 {M:Wm}{h s t f:Nat}{i:Int}{c:Ce} (e0:Zab M h t=some i) (ec:cellAt M i=some c) (hf:c.fl[f]? =none):doM M (.get h s t f)=.error .nofield:=by
 show (match Zab M h t with | none=>_ | some x=>_)=_;rw [e0];show (match cellAt M i with | none=>_ | some c=>_)=_;rw [ec];show (match c.fl[f]? with | none=>_ | some v=>_)=_;rw [hf]
theorem ZMz {M:Wm}{h s t f:Nat}{i:Int}{c:Ce} (e0:Zab M h t=some i) (ec:cellAt M i=some c) (hf:c.fl[f]? =none):doM M (.put h t f s)=.error .nofield:=by
 show (match Zab M h t with | none=>_ | some x=>_)=_;rw [e0];show (match cellAt M i with | none=>_ | some c=>_)=_;rw [ec];show (match c.fl[f]? with | none=>_ | some v=>_)=_;rw [hf]
theorem ZN0 {M:Wm}{h s t f:Nat}{i:Int}{c:Ce}{v:Option Int} (e0:Zab M h t=some i) (ec:cellAt M i=some c) (hf:c.fl[f]? =some v):doM M (.get h s t f)=.ok (⟨"got",bAt M v,[]⟩,setSlot M h s v):=by
 show (match Zab M h t with | none=>_ | some x=>_)=_;rw [e0];show (match cellAt M i with | none=>_ | some c=>_)=_;rw [ec];show (match c.fl[f]? with | none=>_ | some v=>_)=_;rw [hf]
def putL (M:Wm) (h s:Nat) (v:Option Int):List (Option Int):=(if old? M=true then [v] else []) ++ if (new? M && !Zbl M h)=true then [Zab M h s] else []
theorem ZMy {M:Wm}{h s t f:Nat}{i:Int}{c:Ce}{v:Option Int} (e0:Zab M h t=some i) (ec:cellAt M i=some c) (hf:c.fl[f]? =some v):doM M (.put h t f s)=.ok (⟨"put",bAt M v,(Zbj (setCell M i { c with fl:=c.fl.set f (Zab M h s) }) (putL M h s v)).1⟩,(Zbj (setCell M i { c with fl:=c.fl.set f (Zab M h s) }) (putL M h s v)).2):=by
 show (match Zab M h t with | none=>_ | some x=>_)=_;rw [e0];show (match cellAt M i with | none=>_ | some c=>_)=_;rw [ec];show (match c.fl[f]? with | none=>_ | some v=>_)=_;rw [hf];rfl
theorem ZIt {M:Wm}{h t:Nat}{l i:Int}{c:Ce} (e0:Zab M h t=some i) (ec:cellAt M i=some c):doM M (.write h t l)=.ok (⟨"wrote",some c.load,[]⟩,setCell M i { c with load:=l }):=by
 show (match Zab M h t with | none=>_ | some x=>_)=_;rw [e0];show (match cellAt M i with | none=>_ | some c=>_)=_;rw [ec]
theorem ZL3 {M:Wm}{h t:Nat}{i:Int}{c:Ce} (e0:Zab M h t=some i) (ec:cellAt M i=some c):doM M (.read h t)=.ok (⟨"read",some c.load,[]⟩,M):=by
 show (match Zab M h t with | none=>_ | some x=>_)=_;rw [e0];show (match cellAt M i with | none=>_ | some c=>_)=_;rw [ec]
theorem ZL5 {M:Wm}{h t:Nat}{z:Str}{i:Int}{c:Ce} (e0:Zab M h t=some i) (ec:cellAt M i=some c):doM M (.name h t z)=.ok (⟨"named",some c.birth,[]⟩,{ M with names:=Zjp M.names z (i,c.birth) }):=by
 show (match Zab M h t with | none=>_ | some x=>_)=_;rw [e0];show (match cellAt M i with | none=>_ | some c=>_)=_;rw [ec]
section
variable {X:Cs}{H H':Hp}{T T':Tg}{s:Nat}{A:Wa}{M:Wm}
theorem ZQm {z:Str}{v:Int×Int}{t:Addr} (ht:NmO H T t (z,v)):∀ {ns:List Addr}{names:List (Str×(Int×Int))},Al (NmO H T) ns names→(∃ ns',(nmK names ns).map (fun kv=>if kv.1=Sum.inr z then (kv.1,V.ref t) else kv)=nmK (names.map fun m=>if m.1=z then (m.1,v) else m) ns'∧Al (NmO H T) ns' (names.map fun m=>if m.1=z then (m.1,v) else m))∧
  ((nmK names ns).any fun kv=>decide (kv.1=Sum.inr z))=(names.any fun m=>decide (m.1=z))∧nmK names ns ++ [(Sum.inr z,V.ref t)]=nmK (names ++ [(z,v)]) (ns ++ [t])∧Al (NmO H T) (ns ++ [t]) (names ++ [(z,v)]):=by
 intro ns names h
 induction h with
 | nil=>exact ⟨⟨[],rfl,.nil⟩,rfl,rfl,.cons ht .nil⟩
 | @cons a m ns names h1 _ ih=>
  obtain ⟨⟨ns',e1,e2⟩,e3,e4,e5⟩:=ih;refine ⟨?_,?_,?_,.cons h1 e5⟩
  ·by_cases e:m.1=z
   ·refine ⟨t :: ns',?_,?_⟩
    ·show (if (Sum.inr m.1:Int ⊕ Str)=Sum.inr z then _ else _) :: _=_;rw [if_pos (by rw [e]),List.map_cons,if_pos e];show _ :: _=(Sum.inr m.1,V.ref t) :: nmK _ ns';rw [← e1];rfl
    ·rw [List.map_cons,if_pos e];exact .cons (by rw [e];exact ht) e2
   ·refine ⟨a :: ns',?_,?_⟩
    ·show (if (Sum.inr m.1:Int ⊕ Str)=Sum.inr z then _ else _) :: _=_;rw [if_neg (fun w=>e (Sum.inr.inj w)),List.map_cons,if_neg e];show _ :: _=(Sum.inr m.1,V.ref a) :: nmK _ ns';rw [← e1];rfl
    ·rw [List.map_cons,if_neg e];exact .cons h1 e2
  ·show (decide ((Sum.inr m.1:Int ⊕ Str)=Sum.inr z) || (nmK names ns).any _)=(decide (m.1=z) || names.any _);rw [e3];congr 1
   by_cases e:m.1=z<;>simp [e]
  ·show (Sum.inr m.1,V.ref a) :: (nmK names ns ++ _)=(Sum.inr m.1,V.ref a) :: nmK (names ++ _) (ns ++ _);rw [e4]
theorem ZQn {ns:List Addr}{names:List (Str×(Int×Int))} (h:Al (NmO H T) ns names):(nmK names ns).length=names.length:=by
 induction h with
 | nil=>rfl
 | @cons a m ns names h1 _ ih=>show (_ :: nmK names ns).length=_;rw [List.length_cons,List.length_cons,ih]
theorem WJ.named (j:WJ X H T s A M) (w:WT H T) (h0:s≠0) {z:Str}{v:Int×Int}{t:Addr} (ht:NmO H T t (z,v)):∃ ns',Stp s H (upd H A.nm (.dK (putK (nmK M.names A.ns) (Sum.inr z) (.ref t)))) T T∧
  WJ X (upd H A.nm (.dK (putK (nmK M.names A.ns) (Sum.inr z) (.ref t)))) T s { A with ns:=ns' } { M with names:=Zjp M.names z v }:=by
 obtain ⟨tm,om,nms⟩:=j.jn;obtain ⟨⟨n1,e1,e2⟩,e3,e4,e5⟩:=ZQm ht nms;have f:Frm s (·=6) H (upd H A.nm (.dK (putK (nmK M.names A.ns) (Sum.inr z) (.ref t)))) T T:=Frm.of_upd tm;have mvn:∀ {ns:List Addr}{names:List (Str×(Int×Int))},Al (NmO H T) ns names→Al (NmO (upd H A.nm (.dK (putK (nmK M.names A.ns) (Sum.inr z) (.ref t)))) T) ns names:=fun h=>h.mono fun t m ⟨z1,z2⟩=>⟨z1,Znq h0 tm _ _ z2 z1⟩;have go:∀ ns',putK (nmK M.names A.ns) (Sum.inr z) (.ref t)=nmK (Zjp M.names z v) ns'→Al (NmO H T) ns' (Zjp M.names z v)→WJ X (upd H A.nm (.dK (putK (nmK M.names A.ns) (Sum.inr z) (.ref t)))) T s { A with ns:=ns' } { M with names:=Zjp M.names z v }:=fun ns' g1 g2=>by
  refine ⟨?_,?_,⟨tm,by show upd _ A.nm _ A.nm=_;rw [Za2,g1],mvn g2⟩,?_,j.jd.mv f fun _ _ _=>by omega,j.jc.mv f fun _ _=>by omega⟩
  ·obtain ⟨b1,b2,b3,b4,b5,b6,b7,b8⟩:=j.jb.mv f (Znq h0 tm) (by omega) (by omega);exact ⟨b1,b2,b3,b4,b5,b6,b7,b8⟩
  ·obtain ⟨b1,b2,b3,b4⟩:=j.jh.mv f (by omega) (by omega);exact ⟨b1,b2,b3,b4⟩
  ·obtain ⟨b1,b2,b3,b4⟩:=j.js.mv f (by omega) (by omega);exact ⟨b1,b2,b3,b4⟩
 by_cases ha:(M.names.any fun m=>decide (m.1=z))=true
 ·refine ⟨n1,Stp.upd w om (by rw [tm]),go n1 ?_ ?_⟩
  ·unfold putK Zjp;rw [if_pos (e3.trans ha),if_pos ha,e1]
  ·unfold Zjp;rw [if_pos ha];exact e2
 ·refine ⟨A.ns ++ [t],Stp.upd w om (by rw [tm]),go _ ?_ ?_⟩
  ·unfold putK Zjp;rw [if_neg (fun y=>ha (e3.symm.trans y)),if_neg ha,e4]
  ·unfold Zjp;rw [if_neg ha];exact e5
end
section
variable {K:PySem.W.Frag}{X:Cs}{H:Hp}{Q:VK}{E:XK}{n:St→Hp→Prop}{bk ct:St→Hp→Prop}{rf:Rf→Addr}{CE CF CN:Addr}
theorem ZL2 {wo dd:Addr} (T:TxW K X) (hE':rf .empty=CE) (hF':rf .nofield=CF) (q:Zvd X rf ZI4 wo dd H Q E):Zu0 K (Zb8 X) (Zfj X CE CF) (Zaz X) E ⟨n,Q,bk,ct⟩ [some (.ref wo),some (.ref dd),none,none,none,none] H:=by
 obtain ⟨Tg,s,A,M,_,⟨h,sl,t,f,rfl⟩,w,s0,j,rfl,od,⟨o1,o2⟩,ok,hc,hg,ht,hn,hE,hQ⟩:=q;obtain ⟨p,m,hp,hm,hs,hl,hd⟩:=j.handOf o1;unfold Zu0;walk_at "ev";refine ⟨dd,_,1,_,rfl,rfl,SqT.of od,rfl,?_⟩;walk_at "ev";refine ⟨dd,_,3,_,rfl,rfl,SqT.of od,rfl,?_⟩;walk_at "ev";refine ⟨dd,_,4,_,rfl,rfl,SqT.of od,rfl,?_⟩;walk_at "ev";refine ⟨_,_,_,_,rfl,Tg,s,A,M,h,t,f,j,rfl,rfl,rfl,rfl,o2,fun e=>?_,fun i c e0 h0 ec hf=>?_,fun i c pc e0 h0 ec hpc ce hf=>?_⟩
 ·rw [← hE'];exact hE .empty (ZL6 e) H (Same.refl _)
 ·rw [← hF'];exact hE .nofield (ZN1 e0 ec hf) H (Same.refl _)
 ·have hv:=List.getElem?_eq_getElem hf;walk_at "ev";refine Zbe (SqL.of ce.o2) (Zal (v:=oV (c.fl[f])) (by rw [List.getElem?_map,hv];rfl)) ?_;walk_at "ev";refine ⟨_,_,rfl,Tg,s,A,M,h,p,j,rfl,rfl,hp,?_⟩;walk_at "ev";refine ⟨dd,_,2,_,rfl,rfl,SqT.of od,rfl,?_⟩;refine ⟨p.2,_,_,sl,rfl,rfl,hd.o2,Zfh (by rw [List.length_map];exact hl),?_⟩;obtain ⟨st1,j1⟩:=j.slot w s0 (k:=sl) (x:=c.fl[f]) hp hm;rw [Zhv hm] at j1;generalize upd H p.2 (.lst ((m.2.map oV).set sl (oV c.fl[f])))=H1 at st1 j1 ⊢;obtain ⟨d1,ow⟩:=j1.jb.ow;walk_at "ev";refine Zao ow T.cW T.nWh Zb2 ?_;walk_at "ev";refine ⟨_,_,rfl,c.fl[f],rfl,Tg,s,A,_,j1,rfl,?_⟩;rw [Zez];walk_at "ev";refine ⟨Zat (by simp),fun l hl=>⟨Zat (by simp),fun a ha=>?_⟩⟩;exact ev0 hQ (d:=.get h sl t f) (ZN0 e0 ec hv) rfl st1 j1 rfl hl ha
theorem ZL1 {wo dd:Addr} (T:TxW K X) (hE':rf .empty=CE) (hF':rf .nofield=CF) (q:Zvd X rf ZI2 wo dd H Q E):Ztz K (Zb8 X) (Zfj X CE CF) (Zem X) (Zaz X) (Zgr X) (Zn3 X) E ⟨n,Q,bk,ct⟩ [some (.ref wo),some (.ref dd),none,none,none,none,none,none] H:=by
 obtain ⟨Tg,s,A,M,_,⟨h,t,f,sl,rfl⟩,w,s0,j,rfl,od,⟨o2,o1⟩,ok,hc,hg,ht,hn,hE,hQ⟩:=q;obtain ⟨p,m,hp,hm,hs,hl,hd⟩:=j.handOf o1;unfold Ztz;walk_at "ev";refine ⟨dd,_,1,_,rfl,rfl,SqT.of od,rfl,?_⟩;walk_at "ev";refine ⟨dd,_,3,_,rfl,rfl,SqT.of od,rfl,?_⟩;walk_at "ev";refine ⟨dd,_,2,_,rfl,rfl,SqT.of od,rfl,?_⟩;walk_at "ev";refine ⟨_,_,_,_,rfl,Tg,s,A,M,h,t,f,j,rfl,rfl,rfl,rfl,o2,fun e=>?_,fun i c e0 h0 ec hf=>?_,fun i c pc e0 h0 ec hpc ce hf=>?_⟩
 ·rw [← hE'];exact hE .empty (ZL4 e) H (Same.refl _)
 ·rw [← hF'];exact hE .nofield (ZMz e0 ec hf) H (Same.refl _)
 ·have hv:=List.getElem?_eq_getElem hf;walk_at "ev";refine Zbe (SqL.of ce.o2) (Zal (v:=oV (c.fl[f])) (by rw [List.getElem?_map,hv];rfl)) ?_;walk_at "ev";refine ⟨_,_,rfl,Tg,s,A,M,h,p,j,rfl,rfl,hp,?_⟩;walk_at "ev";refine ⟨dd,_,4,_,rfl,rfl,SqT.of od,rfl,?_⟩;refine Zbe (SqL.of hd.o2) (Zal (v:=oV (Zab M h sl)) (by rw [List.getElem?_map,hs];rfl)) ?_;walk_at "ev";refine ⟨pc.2,_,_,f,rfl,rfl,ce.o2,Zfh (by rw [List.length_map];exact hf),?_⟩;obtain ⟨st1,j1⟩:=j.field w s0 (k:=f) (x:=Zab M h sl) hpc ce;have j1:WJ X _ Tg s A (setCell M i { c with fl:=c.fl.set f (Zab M h sl) }):=j1;generalize upd H pc.2 (.lst ((c.fl.map oV).set f (oV (Zab M h sl))))=H1 at st1 j1 ⊢;walk_at "ev";refine ⟨_,_,rfl,Tg,s,A,_,j1,rfl,ht,fun l1 hl1=>?_⟩;rw [show old? (setCell M i { c with fl:=c.fl.set f (Zab M h sl) })=old? M from rfl,ZP2];have s1:=Zaf hl1 (.lst ((if old? M=true then [c.fl[f]] else []).map oV));have g1:upd H1 l1 (.lst ((if old? M=true then [c.fl[f]] else []).map oV)) l1=some (.lst ((if old? M=true then [c.fl[f]] else []).map oV)):=Za2;generalize upd H1 l1 (.lst ((if old? M=true then [c.fl[f]] else []).map oV))=H2 at s1 g1 ⊢;walk_at "ev";refine ⟨_,_,_,rfl,Tg,s,A,_,h,j1.same s1,rfl,ht,rfl,fun l2 hl2=>?_⟩;rw [show (new? (setCell M i { c with fl:=c.fl.set f (Zab M h sl) }) && !Zbl (setCell M i { c with fl:=c.fl.set f (Zab M h sl) }) h)=(new? M && !Zbl M h) from rfl,ZP2];have s2:=Zaf hl2 (.lst ((if (new? M && !Zbl M h)=true then [Zab M h sl] else []).map oV));have g2:upd H2 l2 (.lst ((if (new? M && !Zbl M h)=true then [Zab M h sl] else []).map oV)) l2=some (.lst ((if (new? M && !Zbl M h)=true then [Zab M h sl] else []).map oV)):=Za2;generalize upd H2 l2 (.lst ((if (new? M && !Zbl M h)=true then [Zab M h sl] else []).map oV))=H3 at s2 g2 ⊢;walk_at "ev";refine ⟨l1,l2,_,_,rfl,rfl,s2 _ _ g1,g2,?_,fun l3 hl3=>?_⟩
  ·refine Zat ?_;cases old? M<;>cases (new? M && !Zbl M h)<;>simp
  rw [← List.map_append];have s3:=Zaf hl3 (.lst (((if old? M=true then [c.fl[f]] else []) ++ if (new? M && !Zbl M h)=true then [Zab M h sl] else []).map oV));have g3:upd H3 l3 (.lst (((if old? M=true then [c.fl[f]] else []) ++ if (new? M && !Zbl M h)=true then [Zab M h sl] else []).map oV)) l3=some (.lst ((putL M h sl c.fl[f]).map oV)):=Za2;generalize upd H3 l3 (.lst (((if old? M=true then [c.fl[f]] else []) ++ if (new? M && !Zbl M h)=true then [Zab M h sl] else []).map oV))=H4 at s3 g3 ⊢;have s14:=s1.trans (s2.trans s3);walk_at "ev";refine ⟨_,_,rfl,putL M h sl c.fl[f],Tg,s,A,_,st1.wt.same s14,s0,j1.same s14,rfl,g3,(st1.wt.same (s1.trans s2)) _ hl3,?_,hg,fun H5 T5 l5 st5 j5 g5 nl5=>?_⟩
  ·unfold putL;cases old? M<;>cases (new? M && !Zbl M h)<;>simp
  obtain ⟨d1,ow⟩:=j5.jb.ow;walk_at "ev";refine Zao ow T.cW T.nWh Zb2 ?_;walk_at "ev";refine ⟨_,_,rfl,c.fl[f],rfl,T5,s,A,_,j5,rfl,?_⟩;rw [Zmy,Ztu (c':={ c with fl:=c.fl.set f (Zab M h sl) }) ec rfl];walk_at "ev";refine ⟨Zat (by simp),fun a ha=>?_⟩;exact ev1 (Stp.free st1 (s14.free nl5)) hQ (d:=.put h t f sl) (ZMy e0 ec hv) (st1.trans ((Stp.same st1.wt s14).trans st5)) j5 rfl g5 ha
theorem ZEz {wo dd:Addr} (T:TxW K X) (hE':rf .empty=CE) (q:Zvd X rf Zr3 wo dd H Q E):Zoc K (Zeb X CE) E ⟨n,Q,bk,ct⟩ [some (.ref wo),some (.ref dd),none,none] H:=by
 obtain ⟨Tg,s,A,M,_,⟨h,t,load,rfl⟩,w,s0,j,rfl,od,o1,ok,hc,hg,ht,hn,hE,hQ⟩:=q;unfold Zoc;walk_at "ev";refine ⟨dd,_,1,_,rfl,rfl,SqT.of od,rfl,?_⟩;walk_at "ev";refine ⟨dd,_,2,_,rfl,rfl,SqT.of od,rfl,?_⟩;walk_at "ev";refine ⟨_,_,_,rfl,Tg,s,A,M,h,t,j,rfl,rfl,rfl,o1,fun e=>?_,fun i c pc e0 h0 ec hpc ce=>?_⟩
 ·rw [← hE'];exact hE .empty (ZF0 e) H (Same.refl _)
 ·obtain ⟨t1,t2,⟨dx,oo1⟩,oo2⟩:=id ce;walk_at "ev";refine Zao oo1 T.c.Zc5 T.c.Ze0 Zky ?_;walk_at "ev";refine ⟨dd,_,3,_,rfl,rfl,SqT.of od,rfl,?_⟩;walk_at "ev";refine ⟨pc.1,X.C,dx,_,rfl,oo1,T.c.Zc5,T.c.Ze0,by show 5 < 1000;decide,?_⟩;rw [Zwa];obtain ⟨st1,j1⟩:=j.cell w s0 (dx:=dx) (tone:=c.tone) (load:=load) hpc ce;generalize upd H pc.1 (.ins X.C dx (Zf6 c.birth c.bulk c.tone load pc.2))=H1 at st1 j1 ⊢;walk_at "ev";refine ⟨Zat (by simp),fun l hl=>⟨Zat (by simp),fun a ha=>?_⟩⟩;exact ev0 hQ (d:=.write h t load) (ZIt e0 ec) rfl st1 j1 rfl hl ha
theorem ZIn {wo dd:Addr} (T:TxW K X) (hE':rf .empty=CE) (q:Zvd X rf Zwn wo dd H Q E):Zqp K (Zeb X CE) E ⟨n,Q,bk,ct⟩ [some (.ref wo),some (.ref dd),none] H:=by
 obtain ⟨Tg,s,A,M,_,⟨h,t,rfl⟩,w,s0,j,rfl,od,o1,ok,hc,hg,ht,hn,hE,hQ⟩:=q;unfold Zqp;walk_at "ev";refine ⟨dd,_,1,_,rfl,rfl,SqT.of od,rfl,?_⟩;walk_at "ev";refine ⟨dd,_,2,_,rfl,rfl,SqT.of od,rfl,?_⟩;walk_at "ev";refine ⟨_,_,_,rfl,Tg,s,A,M,h,t,j,rfl,rfl,rfl,o1,fun e=>?_,fun i c pc e0 h0 ec hpc ce=>?_⟩
 ·rw [← hE'];exact hE .empty (ZIu e) H (Same.refl _)
 ·obtain ⟨t1,t2,⟨dx,oo1⟩,oo2⟩:=id ce;walk_at "ev";refine Zao oo1 T.c.Zc5 T.c.Ze0 Zky ?_;walk_at "ev";refine ⟨Zat (by simp),fun l hl=>⟨Zat (by simp),fun a ha=>?_⟩⟩;exact ev0 hQ (d:=.read h t) (ZL3 e0 ec) rfl (Stp.refl w) j rfl hl ha
theorem ZIo {wo dd:Addr} (T:TxW K X) (hE':rf .empty=CE) (q:Zvd X rf isName wo dd H Q E):Zqq K (Zeb X CE) (Zaz X) E ⟨n,Q,bk,ct⟩ [some (.ref wo),some (.ref dd),none,none,none] H:=by
 obtain ⟨Tg,s,A,M,_,⟨h,t,z,rfl⟩,w,s0,j,rfl,od,o1,ok,hc,hg,ht,hn,hE,hQ⟩:=q;obtain ⟨p,m,hp,hm,hs,hl,hd⟩:=j.handOf o1;unfold Zqq;walk_at "ev";refine ⟨dd,_,1,_,rfl,rfl,SqT.of od,rfl,?_⟩;walk_at "ev";refine ⟨dd,_,2,_,rfl,rfl,SqT.of od,rfl,?_⟩;walk_at "ev";refine ⟨_,_,_,rfl,Tg,s,A,M,h,t,j,rfl,rfl,rfl,o1,fun e=>?_,fun i c pc e0 h0 ec hpc ce=>?_⟩
 ·rw [← hE'];exact hE .empty (ZIv e) H (Same.refl _)
 ·obtain ⟨t1,t2,⟨dx,oo1⟩,oo2⟩:=id ce;walk_at "ev";refine Zao oo1 T.c.Zc5 T.c.Zcd Zel ?_;walk_at "ev";refine ⟨_,_,rfl,Tg,s,A,M,h,p,j,rfl,rfl,hp,?_⟩;walk_at "ev";refine Zbe (SqL.of hd.o2) (Zal (v:=oV (Zab M h t)) (by rw [List.getElem?_map,hs];rfl)) ?_;rw [e0];walk_at "ev";refine ⟨Zat (by simp),fun tp htp=>?_⟩;have s1:=Zaf htp (.tup [oV (some i),.int c.birth]);have g1:upd H tp (.tup [oV (some i),.int c.birth]) tp=some (.tup [.int i,.int c.birth]):=Za2;generalize upd H tp (.tup [oV (some i),.int c.birth])=H1 at s1 g1 ⊢;have j1:=j.same s1;have w1:=w.same s1;obtain ⟨d1,ow⟩:=j1.jb.ow;walk_at "ev";refine Zao ow T.cW T.nWn Zfp ?_;walk_at "ev";refine ⟨dd,_,3,_,rfl,rfl,SqT.of (s1 _ _ od),rfl,?_⟩;refine ⟨_,_,rfl,ZSy j1.jn.om (by rw [ZQn j1.jn.nms];exact Nat.lt_of_le_of_lt hn (by decide)),?_⟩;obtain ⟨ns',st2,j2⟩:=j1.named w1 s0 (z:=z) (v:=(i,c.birth)) (t:=tp) ⟨w _ htp,g1⟩;generalize upd H1 A.nm (.dK (putK (nmK M.names A.ns) (Sum.inr z) (.ref tp)))=H2 at st2 j2 ⊢;walk_at "ev";refine ⟨Zat (by simp),fun l hl=>⟨Zat (by simp),fun a ha=>?_⟩⟩;exact ev0 hQ (d:=.name h t z) (ZL5 e0 ec) rfl ((Stp.same w s1).trans st2) j2 rfl hl ha
theorem ZIm {wo dd:Addr} (T:TxW K X) (hN':rf .noname=CN) (q:Zvd X rf Zwm wo dd H Q E):Zqo K (Zb8 X) (Zem X) (Zhu X CN) (Zaz X) E ⟨n,Q,bk,ct⟩ [some (.ref wo),some (.ref dd),none,none] H:=by
 obtain ⟨Tg,s,A,M,_,⟨h,sl,z,rfl⟩,w,s0,j,rfl,od,o1,ok,hc,hg,ht,hn,hE,hQ⟩:=q;obtain ⟨p,m,hp,hm,hs,hl,hd⟩:=j.handOf o1;unfold Zqo;walk_at "ev";refine ⟨dd,_,3,_,rfl,rfl,SqT.of od,rfl,?_⟩;walk_at "ev";refine ⟨_,_,rfl,Tg,s,A,M,j,rfl,fun e=>?_,fun pl b e=>?_⟩
 ·rw [← hN'];refine hE .noname ?_ H (Same.refl _);show (match Zjk M.names z with | none=>_ | some (p,b)=>_)=_;rw [e]
 ·let x:Option Int:=if Zor M pl b=true then none else some pl
  have ex:(if Zor M pl b=true then V.non else .int pl)=oV x:=by
   show _=oV (if _ then _ else _);cases Zor M pl b<;>rfl
  rw [ex];have he:doM M (.seek h sl z)=.ok (⟨"sought",bAt M x,(Zbj (setSlot M h sl x) [x]).1⟩,(Zbj (setSlot M h sl x) [x]).2):=by
   show (match Zjk M.names z with | none=>_ | some (p,b)=>_)=_;rw [e];dsimp only;cases hgn:Zor M pl b with
   | true=>
    have:x=none:=by show (if _ then _ else _)=_;rw [hgn];rfl
    rw [this];rfl
   | false=>
    have hx:x=some pl:=by show (if _ then _ else _)=_;rw [hgn];rfl
    have:bAt M (some pl)=some b:=by
     unfold Zor at hgn;show (cellAt M pl).map _=_;cases hcc:cellAt M pl with
     | none=>rw [hcc] at hgn;cases hgn
     | some c=>
      rw [hcc] at hgn;dsimp only at hgn
      by_cases y:c.birth=b
      ·rw [← y];rfl
      ·rw [if_neg y] at hgn;cases hgn
    rw [hx,this];rfl
  clear_value x;walk_at "ev";refine ⟨dd,_,1,_,rfl,rfl,SqT.of od,rfl,?_⟩;walk_at "ev";refine ⟨_,_,rfl,Tg,s,A,M,h,p,j,rfl,rfl,hp,?_⟩;walk_at "ev";refine ⟨dd,_,2,_,rfl,rfl,SqT.of od,rfl,?_⟩;refine ⟨p.2,_,_,sl,rfl,rfl,hd.o2,Zfh (by rw [List.length_map];exact hl),?_⟩;obtain ⟨st1,j1⟩:=j.slot w s0 (k:=sl) (x:=x) hp hm;rw [Zhv hm] at j1;generalize upd H p.2 (.lst ((m.2.map oV).set sl (oV x)))=H1 at st1 j1 ⊢;walk_at "ev";refine ⟨Zat (by simp),fun l1 hl1=>?_⟩;have s1:=Zaf hl1 (.lst [oV x]);have g1:upd H1 l1 (.lst [oV x]) l1=some (.lst ([x].map oV)):=Za2;generalize upd H1 l1 (.lst [oV x])=H2 at s1 g1 ⊢;walk_at "ev";refine ⟨_,_,rfl,[x],Tg,s,A,_,st1.wt.same s1,s0,j1.same s1,rfl,g1,st1.wt _ hl1,by simp,hg,fun H3 T3 l3 st3 j3 g3 nl3=>?_⟩;obtain ⟨d1,ow⟩:=j3.jb.ow;walk_at "ev";refine Zao ow T.cW T.nWh Zb2 ?_;walk_at "ev";refine ⟨_,_,rfl,x,rfl,T3,s,A,_,j3,rfl,?_⟩;rw [Zmy,Zez];walk_at "ev";refine ⟨Zat (by simp),fun a ha=>?_⟩;exact ev1 (Stp.free st1 (s1.free nl3)) hQ (d:=.seek h sl z) he (st1.trans ((Stp.same st1.wt s1).trans st3)) j3 rfl g3 ha
end
section
variable {K:PySem.W.Frag}{X:Cs}{H:Hp}{Q:VK}{E:XK}{n:St→Hp→Prop}{bk ct:St→Hp→Prop}{rf:Rf→Addr}{f1 f2 f3 f4 f5 f6 f7 f8 f9 f10:Addr}
theorem ZSz {wo dd:Addr} (T:TxW K X) (q:Zvd X rf (fun _=>True) wo dd H Q E):
  ZOf K f1 f2 f3 f4 f5 f6 f7 f8 f9 f10 (Zbf X rf Zwq) (Zbf X rf Zwp) (Zbf X rf ZI4) (Zbf X rf Zwo) (Zbf X rf Zs0) (Zbf X rf isName) (Zbf X rf ZI2) (Zbf X rf Zwn) (Zbf X rf Zwm) (Zbf X rf Zr3) E ⟨n,Q,bk,ct⟩ [some (.ref wo),some (.ref dd),none] H:=by
 obtain ⟨Tg,s,A,M,d,_,w,s0,j,rfl,od,r⟩:=q;unfold ZOf;cases d with
 | make h s' many bulk=>
  walk_at "ev";refine ⟨dd,_,0,_,rfl,rfl,SqT.of od,rfl,?_⟩;refine ⟨_,f5,rfl,rfl,?_⟩;walk_at "ev";refine Zjj (Zbf X rf Zs0) rfl (by simp) ?_;walk_at "ev";exact ⟨_,_,rfl,Tg,s,A,M,_,⟨_,_,_,_,rfl⟩,w,s0,j,rfl,od,r⟩
 | get h s' t f=>
  walk_at "ev";refine ⟨dd,_,0,_,rfl,rfl,SqT.of od,rfl,?_⟩;refine ⟨_,f3,rfl,rfl,?_⟩;walk_at "ev";refine Zjj (Zbf X rf ZI4) rfl (by simp) ?_;walk_at "ev";exact ⟨_,_,rfl,Tg,s,A,M,_,⟨_,_,_,_,rfl⟩,w,s0,j,rfl,od,r⟩
 | put h t f s'=>
  walk_at "ev";refine ⟨dd,_,0,_,rfl,rfl,SqT.of od,rfl,?_⟩;refine ⟨_,f7,rfl,rfl,?_⟩;walk_at "ev";refine Zjj (Zbf X rf ZI2) rfl (by simp) ?_;walk_at "ev";exact ⟨_,_,rfl,Tg,s,A,M,_,⟨_,_,_,_,rfl⟩,w,s0,j,rfl,od,r⟩
 | copy h s' t=>
  walk_at "ev";refine ⟨dd,_,0,_,rfl,rfl,SqT.of od,rfl,?_⟩;refine ⟨_,f1,rfl,rfl,?_⟩;walk_at "ev";refine Zjj (Zbf X rf Zwq) rfl (by simp) ?_;walk_at "ev";exact ⟨_,_,rfl,Tg,s,A,M,_,⟨_,_,_,rfl⟩,w,s0,j,rfl,od,r⟩
 | drop h s'=>
  walk_at "ev";refine ⟨dd,_,0,_,rfl,rfl,SqT.of od,rfl,?_⟩;refine ⟨_,f2,rfl,rfl,?_⟩;walk_at "ev";refine Zjj (Zbf X rf Zwp) rfl (by simp) ?_;walk_at "ev";exact ⟨_,_,rfl,Tg,s,A,M,_,⟨_,_,rfl⟩,w,s0,j,rfl,od,r⟩
 | give h s' g t=>
  walk_at "ev";refine ⟨dd,_,0,_,rfl,rfl,SqT.of od,rfl,?_⟩;refine ⟨_,f4,rfl,rfl,?_⟩;walk_at "ev";refine Zjj (Zbf X rf Zwo) rfl (by simp) ?_;walk_at "ev";exact ⟨_,_,rfl,Tg,s,A,M,_,⟨_,_,_,_,rfl⟩,w,s0,j,rfl,od,r⟩
 | write h t load=>
  walk_at "ev";refine ⟨dd,_,0,_,rfl,rfl,SqT.of od,rfl,?_⟩;refine ⟨_,f10,rfl,rfl,?_⟩;walk_at "ev";refine Zjj (Zbf X rf Zr3) rfl (by simp) ?_;walk_at "ev";exact ⟨_,_,rfl,Tg,s,A,M,_,⟨_,_,_,rfl⟩,w,s0,j,rfl,od,r⟩
 | read h t=>
  walk_at "ev";refine ⟨dd,_,0,_,rfl,rfl,SqT.of od,rfl,?_⟩;refine ⟨_,f8,rfl,rfl,?_⟩;walk_at "ev";refine Zjj (Zbf X rf Zwn) rfl (by simp) ?_;walk_at "ev";exact ⟨_,_,rfl,Tg,s,A,M,_,⟨_,_,rfl⟩,w,s0,j,rfl,od,r⟩
 | name h t z=>
  walk_at "ev";refine ⟨dd,_,0,_,rfl,rfl,SqT.of od,rfl,?_⟩;refine ⟨_,f6,rfl,rfl,?_⟩;walk_at "ev";refine Zjj (Zbf X rf isName) rfl (by simp) ?_;walk_at "ev";exact ⟨_,_,rfl,Tg,s,A,M,_,⟨_,_,_,rfl⟩,w,s0,j,rfl,od,r⟩
 | seek h s' z=>
  walk_at "ev";refine ⟨dd,_,0,_,rfl,rfl,SqT.of od,rfl,?_⟩;refine ⟨_,f9,rfl,rfl,?_⟩;walk_at "ev";refine Zjj (Zbf X rf Zwm) rfl (by simp) ?_;walk_at "ev";exact ⟨_,_,rfl,Tg,s,A,M,_,⟨_,_,_,rfl⟩,w,s0,j,rfl,od,r⟩
end
def Zfk (X:Cs):Sp:=fun vs H Q E=>∃ hp sl,vs=[.ref hp,.ref sl]∧∃ T s A M,∃ xs:List (Option Int),WJ X H T s A M∧A.hp=hp∧H sl=some (.lst (xs.map oV))∧xs.length≤1000∧∀ l,H l=none→Q (.ref l) (upd H l (.lst ((xs.map (bAt M)).map oV)))
def Zts (X:Cs):Sp:=fun vs H Q E=>∃ wo,vs=[.ref wo]∧∃ T s A M,WJ X H T s A M∧A.wo=wo∧M.cells.length≤1000∧(∀ m∈M.hands,m.2.length≤1000)∧∀ (l:Addr) (ls:List Addr) H',Same H H'→H' l=some (.lst (ls.map V.ref))→ls.length=(rowsOf M).length→(∀ (j:Nat) r x,ls[j]? =some r→(rowsOf M)[j]? =some x→H' r=some (.lst (x.map oV)))→Q (.ref l) H'
section
variable {K:PySem.W.Frag}{X:Cs}{H:Hp}{Q:VK}{E:XK}{n:St→Hp→Prop}{bk ct:St→Hp→Prop}
theorem ZCs {hp sl:Addr} (T:TxW K X) (q:∃ T s A M,∃ xs:List (Option Int),WJ X H T s A M∧A.hp=hp∧H sl=some (.lst (xs.map oV))∧xs.length≤1000∧∀ l,H l=none→Q (.ref l) (upd H l (.lst ((xs.map (bAt M)).map oV)))):
  Zlx K (Zb8 X) ⟨n,Q,bk,ct⟩ [some (.ref hp),some (.ref sl)] H:=by
 obtain ⟨Tg,s,A,M,xs,j,rfl,o,hx,q⟩:=q;unfold Zlx;walk_at "ev";refine ZEt ?_;walk_at "ev";refine ⟨_,rfl,⟨_,SqL.of o⟩,?_⟩;refine ZP1 (SqL.of o) (fun i=>(xs[i]?).map fun x=>oV (bAt M x)) (by rw [List.length_map];omega) (fun i x hx=>?_) ?_
 ·rw [List.getElem?_map] at hx;obtain ⟨y,hy,rfl⟩:=Option.map_eq_some_iff.mp hx;refine ⟨fun q hq=>?_,fun z q hz hq=>?_⟩
  ·rw [hy] at hq;exact Zs4 hq
  ·rw [hy] at hz;cases hz;walk_at "caps";walk_at "ev";exact ⟨_,_,rfl,y,rfl,Tg,s,A,M,j,rfl,hq⟩
 ·intro p hp;have:(List.range (xs.map oV).length).filterMap (fun i=>(xs[i]?).map fun x=>oV (bAt M x))=(xs.map (bAt M)).map oV:=by
   rw [List.length_map,List.map_map];clear q o hx
   induction xs with
   | nil=>rfl
   | cons a l ih=>
    rw [List.length_cons,List.range_succ_eq_map,List.filterMap_cons];simp only [List.getElem?_cons_zero,Option.map_some,List.map_cons,List.filterMap_map];congr 1
  rw [this];exact q p hp
theorem Zwc {wo:Addr} (T:TxW K X) (q:∃ T s A M,WJ X H T s A M∧A.wo=wo∧M.cells.length≤1000∧(∀ m∈M.hands,m.2.length≤1000)∧∀ (l:Addr) (ls:List Addr) H',Same H H'→H' l=some (.lst (ls.map V.ref))→ls.length=(rowsOf M).length→(∀ (j:Nat) r x,ls[j]? =some r→(rowsOf M)[j]? =some x→H' r=some (.lst (x.map oV)))→Q (.ref l) H'):
  Zjf K (Zfk X) ⟨n,Q,bk,ct⟩ [some (.ref wo)] H:=by
 obtain ⟨Tg,s,A,M,j,rfl,hc,hh,q⟩:=q;obtain ⟨d1,ow⟩:=j.jb.ow;have l5:=j.jd.l5;unfold Zjf;walk_at "ev";refine ZEt ?_;walk_at "ev";refine Zao ow T.cW T.nWd Zlj ?_;refine ⟨_,rfl,⟨_,SqL.of j.jb.on⟩,?_⟩;refine Zy7 (SqL.of j.jb.on) (by rw [List.length_map];omega) (fun i r Hx=>∃ x,(rowsOf M)[i]? =some x∧Hx r=some (.lst (x.map oV))) (fun _ _ _ _ ⟨x,e,z⟩ s=>⟨x,e,s _ _ z⟩) (fun _ _ _ ⟨_,_,z⟩=>⟨_,z⟩) (fun x H1 q hq=>Zs4 hq) (fun i x H1 hi s1 q' hq=>?_) ?_
 ·rw [List.getElem?_map] at hi;obtain ⟨p,hp,rfl⟩:=Option.map_eq_some_iff.mp hi;have j1:=j.same s1;obtain ⟨m,hm,hd⟩:=j1.hand hp;obtain ⟨dx,o1⟩:=hd.o1;obtain ⟨d2,ow1⟩:=j1.jb.ow;walk_at "caps";walk_at "ev";refine Zao ow1 T.cW T.nWh Zb2 ?_;walk_at "ev";refine Zao o1 T.cD T.nDs Znp ?_;walk_at "ev";refine ⟨_,_,rfl,Tg,s,A,M,m.2,j1,rfl,hd.o2,hh m (List.mem_of_getElem? hm),fun l hl=>?_⟩;exact hq l _ (Zaf hl _) hl ⟨_,by unfold rowsOf;rw [List.getElem?_map,hm];rfl,Za2⟩
 ·intro rs H' s1 hl _ _ hr p hp;have s2:=Zaf hp (.lst (rs.map V.ref));refine q p rs _ (s1.trans s2) Za2 ?_ fun j' r x e1 e2=>?_
  ·rw [hl,List.length_map];unfold rowsOf;rw [List.length_map,j.jd.lh]
  ·obtain ⟨y,e3,z⟩:=hr j' r e1;rw [e2] at e3;cases e3;exact s2 _ _ z
end
def Zl7 (CD:Addr):Sp:=fun vs H Q E=>∃ p nm many,vs=[.ref p,.str nm,.int many]∧∃ dx,H p=some (.ins CD dx [])∧0≤many∧many≤1000∧
 ∀ sa H',H sa=none→H' p=some (.ins CD dx (ZEw nm sa))→H' sa=some (.lst (List.replicate many.toNat V.non))→(∀ b o,H b=some o→b≠p→H' b=some o)→Q .non H'
def Zgz (CS:Addr):Sp:=fun vs H Q E=>∃ p,vs=[.ref p]∧∃ dx,H p=some (.ins CS dx [])∧
 ∀ gr H',H gr=none→H' p=some (.ins CS dx (Zjm 0 "rest" gr 0 0 0 0 0 0 0 .non))→H' gr=some (.lst [])→(∀ b o,H b=some o→b≠p→H' b=some o)→Q .non H'
section
variable {K:PySem.W.Frag}{X:Cs}{H:Hp}{Q:VK}{E:XK}{n:St→Hp→Prop}{bk ct:St→Hp→Prop}
theorem Ztg {p:Addr}{nm:Str}{many:Int} (T:TxW K X) (q:∃ dx,H p=some (.ins X.D dx [])∧0≤many∧many≤1000∧
 ∀ sa H',H sa=none→H' p=some (.ins X.D dx (ZEw nm sa))→H' sa=some (.lst (List.replicate many.toNat V.non))→(∀ b o,H b=some o→b≠p→H' b=some o)→Q .non H'):
  Zhc K ⟨fun _ H'=>Q .non H',Q,bk,ct⟩ [some (.ref p),some (.str nm),some (.int many)] H:=by
 obtain ⟨dx,hp,h0,h1,h⟩:=q;unfold Zhc;walk_at "ev";refine ⟨p,X.D,dx,[],rfl,hp,T.cD,T.nDn,by decide,?_⟩;walk_at "ev";refine ⟨by decide,fun l0 hl0=>?_⟩;walk_at "ev";refine ⟨l0,many,_,rfl,rfl,Za2,by omega,by omega,?_,fun fa hfa=>?_⟩
 ·show 1 * many.toNat≤sizeLine;exact Zat (by omega)
 have npl:p≠l0:=Za5 Za2 hl0;have npf:p≠fa:=Za5 (by rw [Za9 npl];exact Za2) hfa;have hfa0:H fa=none:=by
  by_cases z:fa=l0
  ·rw [z,Za2] at hfa;cases hfa
  ·rw [Za9 z,Za9 (fun e=>npf e.symm)] at hfa;exact hfa
 have hl00:H l0=none:=by rw [Za9 (fun e=>npl e.symm)] at hl0;exact hl0
 walk_at "ev";refine ⟨p,X.D,dx,_,rfl,by rw [Za9 npf,Za9 npl];exact Za2,T.cD,T.nDs,by show 1 < 1000;decide,?_⟩;refine h fa _ hfa0 ?_ ?_ fun b o hb nb=>?_
 ·rw [Za2,ZMs]
 ·rw [Za9 npf.symm,Za2];congr 2;generalize many.toNat=k
  induction k with
  | zero=>rfl
  | succ k ih=>rw [List.replicate_succ,List.replicate_succ,List.flatten_cons,ih];rfl
 ·rw [Za9 nb,Za9 (Za5 hb hfa0),Za9 (Za5 hb hl00),Za9 nb];exact hb
theorem Zox {p:Addr} (T:TxW K X) (q:∃ dx,H p=some (.ins X.S dx [])∧
 ∀ gr H',H gr=none→H' p=some (.ins X.S dx (Zjm 0 "rest" gr 0 0 0 0 0 0 0 .non))→H' gr=some (.lst [])→(∀ b o,H b=some o→b≠p→H' b=some o)→Q .non H'):
  Zfe K ⟨fun _ H'=>Q .non H',Q,bk,ct⟩ [some (.ref p)] H:=by
 obtain ⟨dx,hp,h⟩:=q;unfold Zfe;walk_at "ev";refine ⟨p,X.S,dx,[],rfl,hp,T.cS,T.n1,by decide,?_⟩;walk_at "ev";refine ⟨p,X.S,dx,_,rfl,Za2,T.cS,T.n2,by show 1 < 1000;decide,?_⟩;rw [Zdx];walk_at "ev";refine ⟨by decide,fun gr hgr=>?_⟩;have npg:p≠gr:=Za5 Za2 hgr;have hgr0:H gr=none:=by rw [Za9 npg.symm] at hgr;exact hgr
 walk_at "ev";refine ⟨p,X.S,dx,_,rfl,by rw [Za9 npg];exact Za2,T.cS,T.n3,by show 2 < 1000;decide,?_⟩;walk_at "ev";refine ⟨p,X.S,dx,_,rfl,Za2,T.cS,T.n4,by show 3 < 1000;decide,?_⟩;rw [Zdx];walk_at "ev";refine ⟨p,X.S,dx,_,rfl,Za2,T.cS,T.n5,by show 4 < 1000;decide,?_⟩;rw [Zdx];walk_at "ev";refine ⟨p,X.S,dx,_,rfl,Za2,T.cS,T.n6,by show 5 < 1000;decide,?_⟩;rw [Zdx];walk_at "ev";refine ⟨p,X.S,dx,_,rfl,Za2,T.cS,T.n7,by show 6 < 1000;decide,?_⟩;rw [Zdx];walk_at "ev";refine ⟨p,X.S,dx,_,rfl,Za2,T.cS,T.n8,by show 7 < 1000;decide,?_⟩;rw [Zdx];walk_at "ev";refine ⟨p,X.S,dx,_,rfl,Za2,T.cS,T.n9,by show 8 < 1000;decide,?_⟩;rw [Zdx];walk_at "ev";refine ⟨p,X.S,dx,_,rfl,Za2,T.cS,T.n10,by show 9 < 1000;decide,?_⟩;rw [Zdx];walk_at "ev";refine ⟨p,X.S,dx,_,rfl,Za2,T.cS,T.n11,by show 10 < 1000;decide,?_⟩;rw [Zdx];refine h gr _ hgr0 ?_ ?_ fun b o hb nb=>?_
 ·rw [Za2,ZJ9]
 ·rw [Za9 npg.symm,Za2]
 ·rw [Za9 nb,Za9 (Za5 hb hgr0),Za9 nb];exact hb
end
def wd (w:Int):Str:=if w=0 then "first" else if w=1 then "each" else "last"
def tlS (t:Int):Str:=if t=0 then "" else if t=1 then " old" else if t=2 then " new" else " old new"
def words (w t:Int):Str:=wd w ++ tlS t
theorem ZJ1 {w t w' t':Int} (w0:0≤w) (w1:w < 3) (t0:0≤t) (t1:t < 4) (a0:0≤w') (a1:w' < 3) (b0:0≤t') (b1:t' < 4) (e:words w t=words w' t'):w=w'∧t=t':=by
 have key:∀ a∈[(0:Int),1,2],∀ b∈[(0:Int),1,2,3],∀ a'∈[(0:Int),1,2],∀ b'∈[(0:Int),1,2,3],words a b=words a' b'→a=a'∧b=b':=by decide +kernel
 exact key w (by simp;omega) t (by simp;omega) w' (by simp;omega) t' (by simp;omega) e
theorem ZNb (w:Int):(wd w).length≤5:=by
 unfold wd
 by_cases h:w=0
 ·rw [if_pos h];decide
 ·rw [if_neg h]
  by_cases h:w=1
  ·rw [if_pos h];decide
  ·rw [if_neg h];decide
structure KdO (X:Cs) (H:Hp) (ki lk:Addr) (w t:Int):Prop where
 ok:∃ dx,H ki=some (.ins X.K dx (Zr2 lk t))
 ol:∃ dx,(w=0∧H lk=some (.ins X.F dx []))∨(w=1∧H lk=some (.ins X.E dx []))∨(w=2∧H lk=some (.ins X.L dx []))
theorem KdO.same {X:Cs}{H H':Hp}{ki lk:Addr}{w t:Int} (k:KdO X H ki lk w t) (s:Same H H'):KdO X H' ki lk w t:=by
 obtain ⟨⟨d1,a⟩,⟨d2,b⟩⟩:=k;refine ⟨⟨d1,s _ _ a⟩,⟨d2,?_⟩⟩;rcases b with ⟨z,e⟩ | ⟨z,e⟩ | ⟨z,e⟩
 ·exact .inl ⟨z,s _ _ e⟩
 ·exact .inr (.inl ⟨z,s _ _ e⟩)
 ·exact .inr (.inr ⟨z,s _ _ e⟩)
def Zqc (X:Cs):Sp:=fun vs H Q E=>∃ z,vs=[.str z]∧∃ w t,0≤w∧w < 3∧0≤t∧t < 4∧z=words w t∧∀ ki lk H',Same H H'→H ki=none→H lk=none→KdO X H' ki lk w t→Q (.ref ki) H'
def newW (room:Int) (hands:List (Str×Int)) (w t:Int):Wm:=⟨room,0,0,[],hands.map fun m=>(m.1,List.replicate m.2.toNat none),[],w,t,⟨0,"rest",[],0,0,0,0,0,0,0,.non⟩⟩
def Zj6 (X:Cs):Sp:=fun vs H Q E=>∃ p room ki hl0,vs=[.ref p,.int room,.ref ki,.ref hl0]∧∃ dx T s lk w t ts hands,H p=some (.ins X.W dx [])∧WT H T∧s≠0∧KdO X H ki lk w t∧T ki=(0,0)∧T lk=(0,0)∧ki≠p∧lk≠p∧H hl0=some (.lst (ts.map V.ref))∧
 Al (fun (t:Addr) (m:Str×Int)=>H t=some (.tup [.str m.1,.int m.2])∧0≤m.2∧m.2≤1000) ts hands∧hands.length≤30∧
 ∀ H' T' A,(∀ b o,H b=some o→b≠p→H' b=some o)→(∀ b o,H b=some o→b≠p→T' b=T b)→WT H' T'→A.wo=p→WJ X H' T' s A (newW room hands w t)→Q .non H'
def Zl3 (CK:Addr):Sp:=fun vs H Q E=>∃ p l t,vs=[.ref p,.ref l,.int t]∧∃ dx,H p=some (.ins CK dx [])∧∀ H',H' p=some (.ins CK dx (Zr2 l t))→(∀ b o,H b=some o→b≠p→H' b=some o)→Q .non H'
def Zlc (v:V):Sp:=fun vs H Q E=>∃ a,vs=[.ref a]∧Q v H
def Zze (X:Cs):Sp:=fun vs H Q E=>∃ ki,vs=[.ref ki]∧∃ lk w t,KdO X H ki lk w t∧0≤t∧t < 4∧∀ H',Same H H'→Q (.str (words w t)) H'
section
variable {K:PySem.W.Frag}{X:Cs}{H:Hp}{Q:VK}{E:XK}{n:St→Hp→Prop}{bk ct:St→Hp→Prop}
theorem Zzt {a:Addr} (T:TxW K X) (q:Q (.str "first") H):Zkl ⟨n,Q,bk,ct⟩ [some (.ref a)] H:=by
 unfold Zkl;walk_at "ev";exact q
theorem ZDc {a:Addr} (T:TxW K X) (q:Q (.str "each") H):Zm7 ⟨n,Q,bk,ct⟩ [some (.ref a)] H:=by
 unfold Zm7;walk_at "ev";exact q
theorem ZD4 {a:Addr} (T:TxW K X) (q:Q (.str "last") H):Zm4 ⟨n,Q,bk,ct⟩ [some (.ref a)] H:=by
 unfold Zm4;walk_at "ev";exact q
theorem Zte {p l:Addr}{t:Int} (T:TxW K X) (q:∃ dx,H p=some (.ins X.K dx [])∧∀ H',H' p=some (.ins X.K dx (Zr2 l t))→(∀ b o,H b=some o→b≠p→H' b=some o)→Q .non H'):
  Zha K ⟨fun _ H'=>Q .non H',Q,bk,ct⟩ [some (.ref p),some (.ref l),some (.int t)] H:=by
 obtain ⟨dx,hp,h⟩:=q;unfold Zha;walk_at "ev";refine ⟨p,X.K,dx,[],rfl,hp,T.cK,T.nKl,by decide,?_⟩;walk_at "ev";refine ⟨p,X.K,dx,_,rfl,Za2,T.cK,T.nKt,by show 1 < 1000;decide,?_⟩;rw [Zdx];refine h _ ?_ fun b o hb nb=>?_
 ·rw [Za2,ZMk]
 ·rw [Za9 nb];exact hb
theorem w0 {w:Int} (hw:w=0∨w=1∨w=2):words w 0=wd w:=by rcases hw with rfl | rfl | rfl<;>decide +kernel
theorem w3 {w:Int} (hw:w=0∨w=1∨w=2):words w 3=(wd w ++ " old") ++ " new":=by rcases hw with rfl | rfl | rfl<;>decide +kernel
theorem w3l {w:Int} (hw:w=0∨w=1∨w=2):(wd w ++ " old":Str).length≤20:=by rcases hw with rfl | rfl | rfl<;>decide +kernel
theorem Zww {p lk:Addr}{dx:Addr}{w t:Int} (hw:w=0∨w=1∨w=2) (T:TxW K X) (hp:H p=some (.ins X.K dx (Zr2 lk t))) (t0:0≤t) (t1:t < 4) (q:Q (.str (words w t)) H):
  (tSeq (tIfS (Zbw (tOp (rNe) (tOp (rI0 fun i j=>.int (Builtin.bitAnd i j)) (tFld K (tVar 0) "tells") (tC (.int 1))) (tC (.int 0)))) (tAsg (tOp (G.Zxk) (tVar 1) (tC (.str " old"))) (Zam 1)) Zbp)
   (tSeq (tIfS (Zbw (tOp (rNe) (tOp (rI0 fun i j=>.int (Builtin.bitAnd i j)) (tFld K (tVar 0) "tells") (tC (.int 2))) (tC (.int 0)))) (tAsg (tOp (G.Zxk) (tVar 1) (tC (.str " new"))) (Zam 1)) Zbp)
   (tRet (tVar 1)))) ⟨n,Q,bk,ct⟩ [some (.ref p),some (.str (wd w))] H:=by
 have lw:=ZNb w;have ht:t=0∨t=1∨t=2∨t=3:=by omega
 walk_at "ev";refine Zao hp T.cK T.nKt Ze2 ?_;walk_at "ev";rcases ht with rfl | rfl | rfl | rfl
 ·refine ifnd (fun z=>absurd (by decide) z) (fun _=>?_);walk_at "ev";refine Zao hp T.cK T.nKt Ze2 ?_;walk_at "ev";refine ifnd (fun z=>absurd (by decide) z) (fun _=>?_);walk_at "ev";rw [w0 hw] at q;exact q
 ·refine ifnd (fun _=>?_) (fun z=>absurd z (by decide));walk_at "ev";refine ZC7 (Zat (by have:(" old":Str).length=4:=rfl;omega)) ?_;walk_at "ev";refine Zao hp T.cK T.nKt Ze2 ?_;walk_at "ev";refine ifnd (fun z=>absurd (by decide) z) (fun _=>?_);walk_at "ev";exact q
 ·refine ifnd (fun z=>absurd (by decide) z) (fun _=>?_);walk_at "ev";refine Zao hp T.cK T.nKt Ze2 ?_;walk_at "ev";refine ifnd (fun _=>?_) (fun z=>absurd z (by decide));walk_at "ev";refine ZC7 (Zat (by have:(" new":Str).length=4:=rfl;omega)) ?_;walk_at "ev";exact q
 ·refine ifnd (fun _=>?_) (fun z=>absurd z (by decide));walk_at "ev";refine ZC7 (Zat (by have:(" old":Str).length=4:=rfl;omega)) ?_;walk_at "ev";refine Zao hp T.cK T.nKt Ze2 ?_;walk_at "ev";refine ifnd (fun _=>?_) (fun z=>absurd z (by decide));walk_at "ev";refine ZC7 (Zat (by have:(" new":Str).length=4:=rfl;have:=w3l hw;omega)) ?_;walk_at "ev";rw [w3 hw] at q;exact q
theorem Zzn {p:Addr} (T:TxW K X) (q:∃ lk w t,KdO X H p lk w t∧0≤t∧t < 4∧∀ H',Same H H'→Q (.str (words w t)) H'):
  Zkj K X.E X.F X.L (Zlc (.str "each")) (Zlc (.str "first")) (Zlc (.str "last")) ⟨n,Q,bk,ct⟩ [some (.ref p),none] H:=by
 obtain ⟨lk,w,t,⟨⟨dx,hp⟩,⟨dl,ol⟩⟩,t0,t1,h⟩:=q;have h:=h H (Same.refl _);unfold Zkj;refine ZP3 ?_;walk_at "es";rcases ol with ⟨rfl,o⟩ | ⟨rfl,o⟩ | ⟨rfl,o⟩
 ·refine ZR4 ?_;walk_at "ev";refine Zao hp T.cK T.nKl Zhf ?_;walk_at "es";refine ⟨lk,dl,_,rfl,o,rfl,?_⟩;walk_at "es";refine ⟨lk,rfl,?_⟩;walk_at "es";exact Zww (w:=0) (by decide) T hp t0 t1 h
 ·refine ZP5 (ZR4 ?_);walk_at "ev";refine Zao hp T.cK T.nKl Zhf ?_;walk_at "es";refine ⟨lk,dl,_,rfl,o,rfl,?_⟩;walk_at "es";refine ⟨lk,rfl,?_⟩;walk_at "es";exact Zww (w:=1) (by decide) T hp t0 t1 h
 ·refine ZP5 (ZP5 ?_);walk_at "ev";refine Zao hp T.cK T.nKl Zhf ?_;walk_at "es";refine ⟨lk,dl,_,rfl,o,rfl,?_⟩;walk_at "es";refine ⟨lk,rfl,?_⟩;walk_at "es";exact Zww (w:=2) (by decide) T hp t0 t1 h
theorem ZI0 {z:Str} (T:TxW K X) (q:∃ w t,0≤w∧w < 3∧0≤t∧t < 4∧z=words w t∧∀ ki lk H',Same H H'→H ki=none→H lk=none→KdO X H' ki lk w t→Q (.ref ki) H'):
  Zqn K X.E X.F X.K X.L (Zl3 X.K) (Zze X) ⟨n,Q,bk,ct⟩ [some (.str z),none,none,none] H:=by
 obtain ⟨wq,tq,wq0,wq1,tq0,tq1,ez,hq⟩:=q;unfold Zqn;walk_at "ev";intro af df n1 m1 e1;have s1:Same H (upd (upd H df (.own af)) af (.ins X.F df [])):=fun b o hb=>by rw [Za9 (Za5 hb n1),Za9 (Za5 hb m1)];exact hb
 have o1:upd (upd H df (.own af)) af (.ins X.F df []) af=some (.ins X.F df []):=Za2;generalize upd (upd H df (.own af)) af (.ins X.F df [])=H1 at s1 o1 ⊢;walk_at "ev";intro ae de n2 m2 e2;have s2:Same H1 (upd (upd H1 de (.own ae)) ae (.ins X.E de [])):=fun b o hb=>by rw [Za9 (Za5 hb n2),Za9 (Za5 hb m2)];exact hb
 have o2:upd (upd H1 de (.own ae)) ae (.ins X.E de []) ae=some (.ins X.E de []):=Za2;generalize upd (upd H1 de (.own ae)) ae (.ins X.E de [])=H2 at s2 o2 ⊢;walk_at "ev";intro al dl n3 m3 e3;have s3:Same H2 (upd (upd H2 dl (.own al)) al (.ins X.L dl [])):=fun b o hb=>by rw [Za9 (Za5 hb n3),Za9 (Za5 hb m3)];exact hb
 have o3:upd (upd H2 dl (.own al)) al (.ins X.L dl []) al=some (.ins X.L dl []):=Za2;generalize upd (upd H2 dl (.own al)) al (.ins X.L dl [])=H3 at s3 o3 ⊢;walk_at "ev";refine ⟨Zat (by simp),fun lp hlp=>?_⟩;have s4:=Zaf hlp (.lst [.ref af,.ref ae,.ref al]);have g4:upd H3 lp (.lst [.ref af,.ref ae,.ref al]) lp=some (.lst [.ref af,.ref ae,.ref al]):=Za2;generalize upd H3 lp (.lst [.ref af,.ref ae,.ref al])=H4 at s4 g4 ⊢;have of4:=s4 _ _ (s3 _ _ (s2 _ _ o1));have oe4:=s4 _ _ (s3 _ _ o2);have ol4:=s4 _ _ o3;have s04:=s1.trans (s2.trans (s3.trans s4));have lko:∀ {i:Nat}{x:V},([.ref af,.ref ae,.ref al]:List V)[i]? =some x→i < 3∧∃ lk,x=.ref lk∧H lk=none∧∃ dx,((i:Int)=0∧H4 lk=some (.ins X.F dx []))∨((i:Int)=1∧H4 lk=some (.ins X.E dx []))∨((i:Int)=2∧H4 lk=some (.ins X.L dx [])):=by
  intro i x hx
  match i,hx with
  | 0,hx=>cases hx;exact ⟨by omega,af,rfl,n1,df,.inl ⟨rfl,of4⟩⟩
  | 1,hx=>cases hx;exact ⟨by omega,ae,rfl,s1.free n2,de,.inr (.inl ⟨rfl,oe4⟩)⟩
  | 2,hx=>cases hx;exact ⟨by omega,al,rfl,(s1.trans s2).free n3,dl,.inr (.inr ⟨rfl,ol4⟩)⟩
  | k + 3,hx=>cases hx
 clear s1 s2 s3 s4 of4 oe4 ol4;refine ⟨lp,rfl,⟨_,SqL.of g4⟩,forL [.ref af,.ref ae,.ref al] (fun i σ Hx=>∃ v1 v2 v3,σ=[some (.str z),v1,v2,v3]∧Same H4 Hx∧∀ (w:Nat) (t:Int),w < i→0≤t→t < 4→z≠words w t) ⟨_,_,_,rfl,Same.refl _,fun w t hw=>absurd hw (Nat.not_lt_zero _)⟩ (fun _ _ _ _ ⟨_,_,_,_,s,_⟩=>SqL.of (s _ _ g4)) ?_ ?_⟩
 ·rintro i x σ H5 hi ⟨v1,v2,v3,rfl,s5,hn⟩;obtain ⟨hi3,lk,rfl,nlk,dlk,ol⟩:=lko hi;walk_at "ev";refine ⟨4,rfl,by omega,by omega,?_⟩;refine forR (fun k σ Hx=>∃ v2 v3,σ=[some (.str z),some (.ref lk),v2,v3]∧Same H4 Hx∧∀ (t:Int),0≤t→t < k→z≠words i t) ⟨_,_,rfl,s5,fun t h0 h1=>absurd h1 (by omega)⟩ ?_ ?_
  ·rintro k σ H6 hk ⟨v2,v3,rfl,s6,hn2⟩;have hk4:k < 4:=hk;have e0:(0:Int) + (k:Int)=k:=by omega
   rw [e0];walk_at "ev";intro p dx np ndx ned;refine ⟨p,lk,k,rfl,dx,Za2,fun H7 k1 k2=>⟨rfl,?_⟩⟩;have s7:Same H6 H7:=fun b o hb=>by
    refine k2 b o ?_ (Za5 hb np);rw [Za9 (Za5 hb np),Za9 (Za5 hb ndx)];exact hb
   have kd:KdO X H7 p lk i k:=⟨⟨dx,k1⟩,⟨dlk,by
    rcases ol with ⟨e,o⟩ | ⟨e,o⟩ | ⟨e,o⟩
    ·exact .inl ⟨e,s7 _ _ (s6 _ _ o)⟩
    ·exact .inr (.inl ⟨e,s7 _ _ (s6 _ _ o)⟩)
    ·exact .inr (.inr ⟨e,s7 _ _ (s6 _ _ o)⟩)⟩⟩
   walk_at "ev";refine ⟨p,dx,_,rfl,k1,Zvx,?_⟩;walk_at "ev";refine ⟨p,rfl,lk,i,k,kd,by omega,by omega,fun H8 s8=>?_⟩;walk_at "ev";refine ifd (fun e=>?_) (fun e=>?_)
   ·walk_at "ev";obtain ⟨rfl,rfl⟩:=ZJ1 wq0 wq1 tq0 tq1 (by omega) (by omega) (by omega) (by omega) (ez.symm.trans e.symm);refine hq p lk _ (s04.trans (s6.trans (s7.trans s8))) ((s04.trans s6).free np) nlk ⟨⟨dx,s8 _ _ k1⟩,?_⟩;obtain ⟨_,⟨d,od⟩⟩:=kd;refine ⟨d,?_⟩;rcases od with ⟨e,o⟩ | ⟨e,o⟩ | ⟨e,o⟩
    ·exact .inl ⟨e,s8 _ _ o⟩
    ·exact .inr (.inl ⟨e,s8 _ _ o⟩)
    ·exact .inr (.inr ⟨e,s8 _ _ o⟩)
   ·walk_at "ev";refine ⟨_,_,rfl,s6.trans (s7.trans s8),fun t t0 t1=>?_⟩
    by_cases ht:t=k
    ·rw [ht];exact fun w=>e w.symm
    ·exact hn2 t t0 (by omega)
  ·rintro σ H3 ⟨v2,v3,rfl,s3,hn2⟩;refine ⟨_,_,_,rfl,s3,fun w t hw t0 t1=>?_⟩
   by_cases hwi:w=i
   ·rw [hwi];exact hn2 t t0 t1
   ·exact hn w t (by omega) t0 t1
 ·rintro σ H2 ⟨v1,v2,v3,rfl,s2,hn⟩
  exfalso
  have:=hn wq.toNat tq (by show wq.toNat < 3;omega) tq0 tq1;have e:((wq.toNat:Nat):Int)=wq:=by omega
  rw [e] at this;exact this ez
end
structure Ex (p:Addr) (H H':Hp) (T T':Tg):Prop where
 kp:∀ b o,H b=some o→b≠p→H' b=some o
 al:∀ b o,H b=some o→∃ o',H' b=some o'
 tg:∀ b o,H b=some o→T' b=T b
 wt:WT H' T'
section
variable {p:Addr}{H H1 H2 H':Hp}{T T1 T2 T':Tg}
theorem Ex.trans (a:Ex p H H1 T T1) (b:Ex p H1 H2 T1 T2):Ex p H H2 T T2 where
 kp:=fun x o h n=>b.kp x o (a.kp x o h n) n
 al:=fun x o h=>by obtain ⟨o1,h1⟩:=a.al x o h;exact b.al x o1 h1
 tg:=fun x o h=>by obtain ⟨o1,h1⟩:=a.al x o h;rw [b.tg x o1 h1,a.tg x o h]
 wt:=b.wt
theorem ZRw (w:WT H T) (al:∀ b o,H b=some o→∃ o',H' b=some o'):WT H' T:=fun b h=>w b (by
 cases z:H b with
 | none=>rfl
 | some o=>obtain ⟨o',e⟩:=al b o z;rw [h] at e;cases e)
theorem ZIz {a:Addr}{o:HO}{v:Nat×Nat} (w:WT H T) (h:H a=some o):WT H (setT T a v):=fun b hb=>by
 rw [Zdy (fun e=>by rw [e,h] at hb;cases hb)];exact w b hb
theorem Ex.updp {o o0:HO} (w:WT H T) (h:H p=some o0):Ex p H (upd H p o) T T where
 kp:=fun x u hx n=>by rw [Za9 n];exact hx
 al:=fun x u hx=>by
  by_cases e:x=p
  ·exact ⟨o,by rw [e,Za2]⟩
  ·exact ⟨u,by rw [Za9 e];exact hx⟩
 tg:=fun _ _ _=>rfl
 wt:=ZRw w fun x u hx=>by
  by_cases e:x=p
  ·exact ⟨o,by rw [e,Za2]⟩
  ·exact ⟨u,by rw [Za9 e];exact hx⟩
theorem Ex.news {vs:List (Addr×(Nat×Nat))} (w:WT H T) (s:Same H H') (hn:∀ v∈vs,H v.1=none∧∃ o,H' v.1=some o):Ex p H H' T (vs.foldr (fun v t=>setT t v.1 v.2) T):=by
 have tg:∀ b o,H b=some o→(vs.foldr (fun v t=>setT t v.1 v.2) T) b=T b:=by
  intro b o hb
  induction vs with
  | nil=>rfl
  | cons v vs ih=>
   show setT _ v.1 v.2 b=_;rw [Zdy (Za5 hb (hn v List.mem_cons_self).1)];exact ih fun u hu=>hn u (List.mem_cons_of_mem _ hu)
 refine ⟨fun b o hb _=>s _ _ hb,fun b o hb=>⟨o,s _ _ hb⟩,tg,?_⟩;clear tg
 induction vs with
 | nil=>exact w.same s
 | cons v vs ih=>
  obtain ⟨o,ho⟩:=(hn v List.mem_cons_self).2;exact ZIz (ih fun u hu=>hn u (List.mem_cons_of_mem _ hu)) ho
end
section
variable {K:PySem.W.Frag}{X:Cs}{H:Hp}{Q:VK}{E:XK}{n:St→Hp→Prop}{bk ct:St→Hp→Prop}
theorem Zri {p ki hl0:Addr}{room:Int} (T:TxW K X) (q:∃ dx T s lk w t,∃ ts:List Addr,∃ hands,H p=some (.ins X.W dx [])∧WT H T∧s≠0∧KdO X H ki lk w t∧T ki=(0,0)∧T lk=(0,0)∧ki≠p∧lk≠p∧H hl0=some (.lst (ts.map V.ref))∧
 Al (fun (t:Addr) (m:Str×Int)=>H t=some (.tup [.str m.1,.int m.2])∧0≤m.2∧m.2≤1000) ts hands∧hands.length≤30∧
 ∀ H' T' A,(∀ b o,H b=some o→b≠p→H' b=some o)→(∀ b o,H b=some o→b≠p→T' b=T b)→WT H' T'→A.wo=p→WJ X H' T' s A (newW room hands w t)→Q .non H'):
  Zgg K X.D X.H X.S (Zl7 X.D) (Zl5 X.H) (Zgz X.S) ⟨fun _ H'=>Q .non H',Q,bk,ct⟩ [some (.ref p),some (.int room),some (.ref ki),some (.ref hl0)] H:=by
 obtain ⟨dx,T0,s,lk,w,t,ts,hands,hp,wt0,s0,kd,tki,tlk,nki,nlk,oh0,al,hn,hQ⟩:=q;have x0:WT H (setT T0 p (s,0)):=ZIz wt0 hp;have tp:setT T0 p (s,0) p=(s,0):=Zdd;have to0:∀ b o,H b=some o→b≠p→setT T0 p (s,0) b=T0 b:=fun b _ _ hb=>Zdy hb;generalize hT:setT T0 p (s,0)=Ta at x0 tp to0;unfold Zgg;walk_at "ev";intro hq dh nh ndh neh;refine ⟨hq,room,rfl,dh,Za2,fun ca H1 nca a1 a2 k1=>⟨rfl,?_⟩⟩;have nca0:H ca=none:=by
  by_cases z:ca=hq
  ·rw [z,Za2] at nca;cases nca
  ·rw [Za9 z] at nca
   by_cases y:ca=dh
   ·rw [y,Za2] at nca;cases nca
   ·rw [Za9 y] at nca;exact nca
 have sm1:Same H H1:=fun b o hb=>k1 b o (by rw [Za9 (Za5 hb nh),Za9 (Za5 hb ndh)];exact hb) (Za5 hb nh);have e1:Ex p H H1 Ta _:=Ex.news (vs:=[(hq,(s,1)),(ca,(s,2))]) x0 sm1 (by
  intro v hv;simp only [List.mem_cons,List.not_mem_nil,or_false] at hv;rcases hv with rfl | rfl
  ·exact ⟨nh,_,a1⟩
  ·exact ⟨nca0,_,a2⟩)
 have nhc:hq≠ca:=ZEa a1 a2 (fun z=>by cases z);have th1:([(hq,(s,1)),(ca,(s,2))].foldr (fun v t=>setT t v.1 v.2) Ta) hq=(s,1):=Zdd;have tc1:([(hq,(s,1)),(ca,(s,2))].foldr (fun v t=>setT t v.1 v.2) Ta) ca=(s,2):=(Zdy nhc.symm).trans Zdd;generalize ([(hq,(s,1)),(ca,(s,2))]:List (Addr×(Nat×Nat))).foldr (fun v t=>setT t v.1 v.2) Ta=Tb at e1 th1 tc1;have hp1:=sm1 _ _ hp;have nph:hq≠p:=fun z=>by rw [z,hp] at nh;cases nh
 have npc:ca≠p:=fun z=>by rw [z,hp] at nca0;cases nca0
 clear k1 nca;walk_at "ev";refine ⟨p,X.W,dx,[],rfl,hp1,T.cW,T.nWh,by decide,?_⟩;have e2:=e1.trans (Ex.updp (o:=.ins X.W dx (putF "heap" (.ref hq) [])) e1.wt hp1);have g2:upd H1 p (.ins X.W dx (putF "heap" (.ref hq) [])) p=some (.ins X.W dx (putF "heap" (.ref hq) [])):=Za2;have a1:=(Za9 (o:=.ins X.W dx (putF "heap" (.ref hq) [])) nph).trans a1;have a2:=(Za9 (o:=.ins X.W dx (putF "heap" (.ref hq) [])) npc).trans a2;generalize upd H1 p (.ins X.W dx (putF "heap" (.ref hq) []))=H2 at e2 g2 a1 a2 ⊢;walk_at "ev";refine ⟨p,X.W,dx,_,rfl,g2,T.cW,T.nWk,by show 1 < 1000;decide,?_⟩;have e3:=e2.trans (Ex.updp (o:=.ins X.W dx (putF "kind" (.ref ki) (putF "heap" (.ref hq) []))) e2.wt g2);have g3:upd H2 p (.ins X.W dx (putF "kind" (.ref ki) (putF "heap" (.ref hq) []))) p=some (.ins X.W dx (putF "kind" (.ref ki) (putF "heap" (.ref hq) []))):=Za2;have a1:=(Za9 (o:=.ins X.W dx (putF "kind" (.ref ki) (putF "heap" (.ref hq) []))) nph).trans a1;have a2:=(Za9 (o:=.ins X.W dx (putF "kind" (.ref ki) (putF "heap" (.ref hq) []))) npc).trans a2;generalize upd H2 p (.ins X.W dx (putF "kind" (.ref ki) (putF "heap" (.ref hq) [])))=H3 at e3 g3 a1 a2 ⊢;generalize hF3:(putF "kind" (.ref ki) (putF "heap" (.ref hq) []))=F3 at g3 ⊢;have lF3:F3.length=2:=by rw [← hF3];rfl
 have oh3:H3 hl0=some (.lst (ts.map V.ref)):=e3.kp _ _ oh0 (fun z=>by rw [z,hp] at oh0;cases oh0);have ltl:ts.length=hands.length:=al.length;have tup3:∀ (i:Nat) a,ts[i]? =some a→∃ m,hands[i]? =some m∧H3 a=some (.tup [.str m.1,.int m.2])∧0≤m.2∧m.2≤1000:=fun i a ha=>by
  have hl:i < hands.length:=by rw [← ltl];exact (List.getElem?_eq_some_iff.mp ha).1
  obtain ⟨a',ha',z1,z2,z3⟩:=al.get (List.getElem?_eq_getElem hl);rw [ha] at ha';cases ha';exact ⟨_,List.getElem?_eq_getElem hl,e3.kp _ _ z1 (fun z=>by rw [z,hp] at z1;cases z1),z2,z3⟩
 have lo:=e3.wt;walk_at "ev";refine ⟨_,rfl,⟨_,SqL.of oh3⟩,ZOz ?_⟩;refine ⟨fun i m ys Hx=>i≤ts.length∧m=ts.length - i∧∃ (hs:List (Addr×Addr)) (Tx:Tg),ys=hs.map (fun q=>V.ref q.1)∧hs.length=i∧Same H3 Hx∧Ex p H3 Hx Tb Tx∧∀ (j:Nat) q m,hs[j]? =some q→hands[j]? =some m→HdO X.D Hx Tx s j q (m.1,List.replicate m.2.toNat none)∧q.1≠p∧q.2≠p,
  ⟨ts.length,Nat.zero_le _,rfl,[],Tb,rfl,rfl,Same.refl _,⟨fun _ _ h _=>h,fun _ o h=>⟨o,h⟩,fun _ _ _=>rfl,lo⟩,fun j q m e=>by simp at e⟩,?_⟩
 rintro i m ys Hx ⟨hi,rfl,hs,Tx,rfl,hl,sx,ex,hds⟩
 by_cases hk:i=ts.length
 ·refine .inl ⟨⟨_,SqL.of (sx _ _ oh3),by rw [List.length_map];omega⟩,fun hla nhl=>?_⟩;have nhl3:H3 hla=none:=sx.free nhl;have s4:=Zaf nhl (.lst (hs.map fun q=>V.ref q.1));have e4:Ex p Hx _ Tx _:=Ex.news (p:=p) (vs:=[(hla,(s,5))]) ex.wt s4 (by
   intro v hv;rw [List.mem_singleton.mp hv];exact ⟨nhl,_,Za2⟩)
  have t4:([(hla,(s,5))].foldr (fun v t=>setT t v.1 v.2) Tx) hla=(s,5):=Zdd;have o4:upd Hx hla (.lst (hs.map fun q=>V.ref q.1)) hla=some (.lst (hs.map fun q=>V.ref q.1)):=Za2;have hpx:=sx _ _ g3;have nhp:hla≠p:=fun z=>by rw [z,hpx] at nhl;cases nhl
  have hp4:=s4 _ _ hpx;generalize upd Hx hla (.lst (hs.map fun q=>V.ref q.1))=H4 at s4 e4 o4 hp4 ⊢;generalize ([(hla,(s,5))]:List (Addr×(Nat×Nat))).foldr (fun v t=>setT t v.1 v.2) Tx=T4 at e4 t4;walk_at "ev";refine ⟨p,X.W,dx,_,rfl,hp4,T.cW,T.nWd,by rw [lF3];decide,?_⟩;have e5:=Ex.updp (p:=p) (o:=.ins X.W dx (putF "hands" (.ref hla) F3)) e4.wt hp4;have hp5:upd H4 p (.ins X.W dx (putF "hands" (.ref hla) F3)) p=some (.ins X.W dx (putF "hands" (.ref hla) F3)):=Za2;generalize upd H4 p (.ins X.W dx (putF "hands" (.ref hla) F3))=H5 at e5 hp5 ⊢;walk_at "ev";intro nm hnm;have nnp:nm≠p:=fun z=>by rw [z,hp5] at hnm;cases hnm
  have s6:=Zaf hnm (.dK []);have e6:Ex p H5 _ T4 _:=Ex.news (p:=p) (vs:=[(nm,(s,6))]) e5.wt s6 (by
   intro v hv;rw [List.mem_singleton.mp hv];exact ⟨hnm,_,Za2⟩)
  have t6:([(nm,(s,6))].foldr (fun v t=>setT t v.1 v.2) T4) nm=(s,6):=Zdd;have o6:upd H5 nm (.dK []) nm=some (.dK []):=Za2;have hp6:=s6 _ _ hp5;generalize upd H5 nm (.dK [])=H6 at s6 e6 o6 hp6 ⊢;generalize ([(nm,(s,6))]:List (Addr×(Nat×Nat))).foldr (fun v t=>setT t v.1 v.2) T4=T6 at e6 t6;walk_at "ev";refine ⟨p,X.W,dx,_,rfl,hp6,T.cW,T.nWn,by rw [← hF3];show 3 < 1000;decide,?_⟩;have e7:=Ex.updp (p:=p) (o:=.ins X.W dx (putF "names" (.ref nm) (putF "hands" (.ref hla) F3))) e6.wt hp6;have hp7:upd H6 p (.ins X.W dx (putF "names" (.ref nm) (putF "hands" (.ref hla) F3))) p=some (.ins X.W dx (putF "names" (.ref nm) (putF "hands" (.ref hla) F3))):=Za2;generalize upd H6 p (.ins X.W dx (putF "names" (.ref nm) (putF "hands" (.ref hla) F3)))=H7 at e7 hp7 ⊢;walk_at "ev";intro sw ds nsw nds nes;refine ⟨sw,rfl,ds,Za2,fun gr H8 ngr b1 b2 k8=>⟨rfl,?_⟩⟩;have ngr0:H7 gr=none:=by
   by_cases z:gr=sw
   ·rw [z,Za2] at ngr;cases ngr
   ·rw [Za9 z] at ngr
    by_cases y:gr=ds
    ·rw [y,Za2] at ngr;cases ngr
    ·rw [Za9 y] at ngr;exact ngr
  have s8:Same H7 H8:=fun b o hb=>k8 b o (by rw [Za9 (Za5 hb nsw),Za9 (Za5 hb nds)];exact hb) (Za5 hb nsw);have e8:Ex p H7 H8 T6 _:=Ex.news (p:=p) (vs:=[(sw,(s,7)),(gr,(s,8))]) e7.wt s8 (by
   intro v hv;simp only [List.mem_cons,List.not_mem_nil,or_false] at hv;rcases hv with rfl | rfl
   ·exact ⟨nsw,_,b1⟩
   ·exact ⟨ngr0,_,b2⟩)
  have nsg:sw≠gr:=ZEa b1 b2 (fun z=>by cases z);have ts8:([(sw,(s,7)),(gr,(s,8))].foldr (fun v t=>setT t v.1 v.2) T6) sw=(s,7):=Zdd;have tg8:([(sw,(s,7)),(gr,(s,8))].foldr (fun v t=>setT t v.1 v.2) T6) gr=(s,8):=(Zdy nsg.symm).trans Zdd;generalize ([(sw,(s,7)),(gr,(s,8))]:List (Addr×(Nat×Nat))).foldr (fun v t=>setT t v.1 v.2) T6=T8 at e8 ts8 tg8;have hp8:=s8 _ _ hp7;have nsp:sw≠p:=fun z=>by rw [z,hp7] at nsw;cases nsw
  have ngp:gr≠p:=fun z=>by rw [z,hp7] at ngr0;cases ngr0
  clear k8 ngr;walk_at "ev";refine ⟨p,X.W,dx,_,rfl,hp8,T.cW,T.nWs,by rw [← hF3];show 4 < 1000;decide,?_⟩;have e9:=Ex.updp (p:=p) (o:=.ins X.W dx (putF "sweeper" (.ref sw) (putF "names" (.ref nm) (putF "hands" (.ref hla) F3)))) e8.wt hp8;have hp9:upd H8 p (.ins X.W dx (putF "sweeper" (.ref sw) (putF "names" (.ref nm) (putF "hands" (.ref hla) F3)))) p=some (.ins X.W dx (Zik hq ki hla nm sw)):=by
   rw [Za2,← hF3,ZJ0]
  generalize upd H8 p (.ins X.W dx (putF "sweeper" (.ref sw) (putF "names" (.ref nm) (putF "hands" (.ref hla) F3))))=H9 at e9 hp9 ⊢;have f89:=e9;have f69:=e7.trans (e8.trans e9);have f49:=e5.trans (e6.trans f69);have fx9:=e4.trans f49;have f39:=ex.trans fx9;have f09:=e3.trans f39;obtain ⟨⟨dk,ok⟩,⟨dl,ol⟩⟩:=kd;have hlk:∃ o,H lk=some o:=by
   rcases ol with ⟨_,z⟩ | ⟨_,z⟩ | ⟨_,z⟩
   ·exact ⟨_,z⟩
   ·exact ⟨_,z⟩
   ·exact ⟨_,z⟩
  obtain ⟨olk,elk⟩:=hlk;refine hQ H9 T8 ⟨p,hq,ca,ki,lk,hla,nm,sw,gr,hs,[],[]⟩ f09.kp (fun b o hb nb=>(f09.tg b o hb).trans (to0 b o hb nb)) f09.wt rfl ⟨⟨(f09.tg _ _ hp).trans tp,(f09.tg _ _ ok).trans ((to0 _ _ ok nki).trans tki),(f09.tg _ _ elk).trans ((to0 _ _ elk nlk).trans tlk),(f49.tg _ _ o4).trans t4,⟨dx,hp9⟩,⟨dk,f09.kp _ _ ok nki⟩,⟨dl,?_⟩,f49.kp _ _ o4 nhp⟩,
   ⟨(f39.tg _ _ a1).trans th1,(f39.tg _ _ a2).trans tc1,⟨dh,f39.kp _ _ a1 nph⟩,f39.kp _ _ a2 npc⟩,⟨(f69.tg _ _ o6).trans t6,f69.kp _ _ o6 nnp,.nil⟩,
   ⟨(f89.tg _ _ b1).trans ts8,(f89.tg _ _ b2).trans tg8,⟨ds,f89.kp _ _ b1 nsp⟩,f89.kp _ _ b2 ngp⟩,⟨?_,by show hs.length≤30;rw [hl,hk,ltl];exact hn,?_⟩,⟨rfl,fun i q c z=>by simp at z⟩⟩
  ·rcases ol with ⟨z,y⟩ | ⟨z,y⟩ | ⟨z,y⟩
   ·exact .inl ⟨z,f09.kp _ _ y nlk⟩
   ·exact .inr (.inl ⟨z,f09.kp _ _ y nlk⟩)
   ·exact .inr (.inr ⟨z,f09.kp _ _ y nlk⟩)
  ·show hs.length=(hands.map _).length;rw [List.length_map,hl,hk,ltl]
  ·intro j q m z1 z2;have z2:(hands.map fun m=>(m.1,List.replicate m.2.toNat none))[j]? =some m:=z2;rw [List.getElem?_map] at z2;obtain ⟨m0,y1,rfl⟩:=Option.map_eq_some_iff.mp z2;obtain ⟨⟨u1,u2,⟨du,u3⟩,u4⟩,v1,v2⟩:=hds j q m0 z1 y1;exact ⟨(fx9.tg _ _ u3).trans u1,(fx9.tg _ _ u4).trans u2,⟨du,fx9.kp _ _ u3 v1⟩,fx9.kp _ _ u4 v2⟩
 ·have hlt:i < ts.length:=by omega
  refine .inr ⟨⟨_,_,SqL.of (sx _ _ oh3),by rw [List.getElem?_map,List.getElem?_eq_getElem hlt];rfl⟩,?_,fun x H' y=>?_⟩
  ·rw [List.length_map,hl];exact Nat.lt_of_lt_of_le hlt (Zat (by omega))
  obtain ⟨y1,y2⟩:=y;subst y1;have ey:=y2 _ (SqL.of (sx _ _ oh3));rw [List.getElem?_map,List.getElem?_eq_getElem hlt] at ey;have ey:x=.ref ts[i]:=(Option.some.inj ey).symm;subst ey;obtain ⟨m,hm,ot,m0,m1⟩:=tup3 i _ (List.getElem?_eq_getElem hlt);refine Zs4 (iteT ⟨ts[i],.str m.1,.int m.2,_,rfl,SqT.of (sx _ _ ot),?_⟩);walk_at "caps";walk_at "ev";intro q1 dq nq ndq neq;refine ⟨q1,m.1,m.2,rfl,dq,Za2,m0,m1,fun sa Hy nsa b1 b2 k=>⟨rfl,?_⟩⟩;have nsa0:H' sa=none:=by
   by_cases z:sa=q1
   ·rw [z,Za2] at nsa;cases nsa
   ·rw [Za9 z] at nsa
    by_cases y:sa=dq
    ·rw [y,Za2] at nsa;cases nsa
    ·rw [Za9 y] at nsa;exact nsa
  have sy:Same H' Hy:=fun b o hb=>k b o (by rw [Za9 (Za5 hb nq),Za9 (Za5 hb ndq)];exact hb) (Za5 hb nq);have ey:Ex p H' Hy Tx _:=Ex.news (p:=p) (vs:=[(q1,(s,20 + 2 * i)),(sa,(s,21 + 2 * i))]) ex.wt sy (by
   intro v hv;simp only [List.mem_cons,List.not_mem_nil,or_false] at hv;rcases hv with rfl | rfl
   ·exact ⟨nq,_,b1⟩
   ·exact ⟨nsa0,_,b2⟩)
  have nqs:q1≠sa:=ZEa b1 b2 (fun z=>by cases z);have hpx:=sx _ _ g3;refine ⟨ts.length - (i + 1),by omega,by omega,rfl,hs ++ [(q1,sa)],_,by rw [List.map_append];rfl,by rw [List.length_append,hl];rfl,sx.trans sy,ex.trans ey,fun j q m' z1 z2=>?_⟩
  by_cases hj:j < hs.length
  ·rw [List.getElem?_append_left hj] at z1;obtain ⟨⟨u1,u2,⟨du,u3⟩,u4⟩,v1,v2⟩:=hds j q m' z1 z2;exact ⟨⟨(ey.tg _ _ u3).trans u1,(ey.tg _ _ u4).trans u2,⟨du,sy _ _ u3⟩,sy _ _ u4⟩,v1,v2⟩
  ·have hj':=(List.getElem?_eq_some_iff.mp z1).1;rw [List.length_append,List.length_singleton] at hj';have ej:j=hs.length:=by omega
   subst ej;rw [List.getElem?_append_right (Nat.le_refl _),Nat.sub_self] at z1;cases z1;rw [hl] at z2 ⊢;rw [hm] at z2;cases z2;exact ⟨⟨Zdd,(Zdy nqs.symm).trans Zdd,⟨dq,b1⟩,by rw [b2,List.map_replicate];rfl⟩,(fun z=>by rw [show q1=p from z,hpx] at nq;cases nq),(fun z=>by rw [show sa=p from z,hpx] at nsa0;cases nsa0)⟩
end
theorem ZRx {w:Int} (h0:0≤w) (h1:w < 3):atI [V.str "first",.str "each",.str "last"] w=some (.str (wd w)):=by
 have:w=0∨w=1∨w=2:=by omega
 rcases this with rfl | rfl | rfl<;>rfl
theorem ZRy {w:Int} (h0:0≤w) (h1:w < 4):atI [V.str "",.str " old",.str " new",.str " old new"] w=some (.str (tlS w)):=by
 have:w=0∨w=1∨w=2∨w=3:=by omega
 rcases this with rfl | rfl | rfl | rfl<;>rfl
theorem ZO4 (w:Int):(tlS w).length≤8:=by
 unfold tlS
 by_cases h:w=0
 ·rw [if_pos h];decide
 ·rw [if_neg h]
  by_cases h:w=1
  ·rw [if_pos h];decide
  ·rw [if_neg h]
   by_cases h:w=2
   ·rw [if_pos h];decide
   ·rw [if_neg h];decide
def mixF (c f:Int):Int:=(c * f + 12345) % 2147483647 * ((c * f + 12345) % 2147483647) % 2147483629 / 3
def Zl0:Sp:=fun vs H Q E=>∃ c f,vs=[.int c,.int f]∧0≤f∧f < 2 ^ 31∧∀ z:Int,0≤z→z=mixF c f→Q (.int z) H
def Zzl:Sp:=fun vs H Q E=>∃ c,vs=[.int c]∧∀ w t H',0≤w→w < 3→0≤t→t < 4→Same H H'→Q (.str (words w t)) H'
section
variable {K:PySem.W.Frag}{H:Hp}{Q:VK}{E:XK}{n:St→Hp→Prop}{bk ct:St→Hp→Prop}
theorem ZF7 {c f:Int} (q:0≤f∧f < 2 ^ 31∧∀ z:Int,0≤z→z=mixF c f→Q (.int z) H):Zoe ⟨n,Q,bk,ct⟩ [some (.int c),some (.int f),none] H:=by
 obtain ⟨h0,h1,h⟩:=q;unfold Zoe;walk_at "ev";refine h _ ?_ rfl;generalize (c * f + 12345) % 2147483647=d;have:=Int.emod_nonneg (d * d) (show (2147483629:Int)≠0 by decide);generalize d * d % 2147483629=e at this ⊢;omega
theorem ZD2 {c:Int} (q:∀ w t H',0≤w→w < 3→0≤t→t < 4→Same H H'→Q (.str (words w t)) H'):Zm2 K Zl0 ⟨n,Q,bk,ct⟩ [some (.int c),none] H:=by
 unfold Zm2;walk_at "ev";refine ⟨Zat (by simp),fun l1 h1=>?_⟩;have s1:=Zaf h1 (.lst [.str "first",.str "each",.str "last"]);have g1:upd H l1 (.lst [.str "first",.str "each",.str "last"]) l1=some (.lst [.str "first",.str "each",.str "last"]):=Za2;generalize upd H l1 (.lst [.str "first",.str "each",.str "last"])=H1 at s1 g1 ⊢;walk_at "ev";refine ⟨_,_,rfl,by decide,by decide,fun z hz _=>?_⟩;walk_at "ev";have z0:0≤z % 3:=by omega
 have z1:z % 3 < 3:=by omega
 generalize z % 3=w at z0 z1 ⊢;refine Zbe (SqL.of g1) (ZRx z0 z1) ?_;walk_at "ev";refine ⟨Zat (by simp),fun l2 h2=>?_⟩;have s2:=Zaf h2 (.lst [.str "",.str " old",.str " new",.str " old new"]);have g2:upd H1 l2 (.lst [.str "",.str " old",.str " new",.str " old new"]) l2=some (.lst [.str "",.str " old",.str " new",.str " old new"]):=Za2;generalize upd H1 l2 (.lst [.str "",.str " old",.str " new",.str " old new"])=H2 at s2 g2 ⊢;walk_at "ev";refine ⟨_,_,rfl,by decide,by decide,fun y hy _=>?_⟩;walk_at "ev";have y0:0≤y % 4:=by omega
 have y1:y % 4 < 4:=by omega
 generalize y % 4=t at y0 y1 ⊢;refine Zbe (SqL.of g2) (ZRy y0 y1) ?_;walk_at "ev";have a1:=ZNb w;have a2:=ZO4 t;refine ZC7 (Zat (by omega)) ?_;exact q w t H2 z0 z1 y0 y1 (s1.trans s2)
end
def ZEd (M:Wm) (i:Int) (c:Ce):Str:=if M.sw.phase="rest" then "kept" else if M.sw.phase="give" then (if c.tone=M.sw.sense then "kept" else "doomed") else if c.tone=M.sw.sense then (if i∈M.sw.grey then "grey" else "dark") else "pale"
def Zjw (M:Wm):List (Int×Ce):=(List.range M.cells.length).filterMap fun (i:Nat)=>((M.cells[i]?).join).map fun c=>((i:Int),c)
def Zqb (X:Cs):Sp:=fun vs H Q E=>∃ wo i,vs=[.ref wo,.int i]∧∃ T s A M c,WJ X H T s A M∧A.wo=wo∧0≤i∧M.cells[i.toNat]? =some (some c)∧Q (.str (ZEd M i c)) H
def TcO (M:Wm) (H:Hp) (p:Addr×Addr) (t:Int×Ce):Prop:=H p.1=some (.tup [.int t.1,.int t.2.birth,.int t.2.bulk,.int t.2.load,.ref p.2,.str (ZEd M t.1 t.2)])∧H p.2=some (.lst ((t.2.fl.map (bAt M)).map oV))
def Zkz (X:Cs):Sp:=fun vs H Q E=>∃ wo i,vs=[.ref wo,.int i]∧∃ T s A M c,WJ X H T s A M∧A.wo=wo∧0≤i∧M.cells[i.toNat]? =some (some c)∧c.fl.length≤1000∧∀ a l H',Same H H'→H a=none→TcO M H' (a,l) (i,c)→Q (.ref a) H'
def ZGd (X:Cs):Sp:=fun vs H Q E=>∃ wo,vs=[.ref wo]∧∃ T s A M,WJ X H T s A M∧A.wo=wo∧M.cells.length≤1000∧(∀ c,some c∈M.cells→c.fl.length≤1000)∧
 ∀ (l:Addr) (ls:List Addr) H',Same H H'→H' l=some (.lst (ls.map V.ref))→ls.length=(Zjw M).length→(∀ (j:Nat) r t,ls[j]? =some r→(Zjw M)[j]? =some t→∃ f,TcO M H' (r,f) t)→Q (.ref l) H'
theorem ZM2 {X:Cs}{H:Hp}{T:Tg}{s:Nat}{A:Wa}{M:Wm} (j:WJ X H T s A M):plc (A.cs.map pV)=(Zjw M).map (·.1):=by
 have key:∀ i,i < M.cells.length→(decide ((A.cs.map pV)[i]? =some V.non)=true↔(M.cells[i]?).join=none):=fun i hi=>by
  rw [decide_eq_true_iff,List.getElem?_map];cases hc:M.cells[i]? with
  | none=>rw [List.getElem?_eq_none_iff] at hc;omega
  | some y=>cases y with
   | none=>rw [j.jc.at0 hc];simp [pV]
   | some c=>
    obtain ⟨p,hp,_⟩:=j.jc.at hc;rw [hp];simp [pV]
 unfold plc Zjw;rw [List.length_map,j.jc.lc];generalize hn:M.cells.length=n at key;clear hn
 induction n with
 | zero=>rfl
 | succ n ih=>
  rw [List.range_succ,List.filter_append,List.map_append,List.filterMap_append,List.map_append,ih fun i hi=>key i (by omega)];congr 1;have k:=key n (by omega);cases hc:(M.cells[n]?).join with
  | none=>
   have:decide ((A.cs.map pV)[n]? =some V.non)=true:=k.mpr hc;simp only [List.filter_cons,this,Bool.not_true,List.filter_nil,List.filterMap_cons,hc,Option.map_none,List.filterMap_nil];rfl
  | some c=>
   have:decide ((A.cs.map pV)[n]? =some V.non)=false:=by
    cases hd:decide ((A.cs.map pV)[n]? =some V.non) with
    | false=>rfl
    | true=>rw [k.mp hd] at hc;cases hc
   simp only [List.filter_cons,this,Bool.not_false,List.filter_nil,List.filterMap_cons,hc,Option.map_some,List.filterMap_nil];rfl
theorem ZO3 {M:Wm}{j:Nat}{t:Int×Ce} (h:(Zjw M)[j]? =some t):0≤t.1∧M.cells[t.1.toNat]? =some (some t.2):=by
 have hm:=List.mem_of_getElem? h;unfold Zjw at hm;obtain ⟨i,hi,e⟩:=List.mem_filterMap.mp hm;obtain ⟨c,hc,rfl⟩:=Option.map_eq_some_iff.mp e;refine ⟨by show (0:Int)≤(i:Nat);omega,?_⟩;show M.cells[((i:Nat):Int).toNat]? =some (some c);rw [Int.toNat_natCast];cases hx:M.cells[i]? with
 | none=>rw [hx] at hc;cases hc
 | some y=>rw [hx] at hc;rw [show y=some c from hc]
section
variable {K:PySem.W.Frag}{X:Cs}{H:Hp}{Q:VK}{E:XK}{n:St→Hp→Prop}{bk ct:St→Hp→Prop}
theorem ZMl {i:Int}{l:List Int}:inV (.int i) (l.map V.int)=decide (i∈l):=by
 unfold inV
 induction l with
 | nil=>rfl
 | cons a l ih=>
  rw [List.map_cons,List.any_cons,ih]
  by_cases e:i=a
  ·subst e;simp [eqV]
  ·have e':¬ a=i:=fun z=>e z.symm;simp [eqV,e,e']
theorem ZHr {wo:Addr}{i:Int} (T:TxW K X) (q:∃ T s A M c,WJ X H T s A M∧A.wo=wo∧0≤i∧M.cells[i.toNat]? =some (some c)∧Q (.str (ZEd M i c)) H):Zqm K (Ze4 X) ⟨n,Q,bk,ct⟩ [some (.ref wo),some (.int i),none,none] H:=by
 obtain ⟨Tg,s,A,M,c,j,rfl,h0,hc,q⟩:=q;obtain ⟨d1,ow⟩:=j.jb.ow;obtain ⟨d2,os⟩:=j.js.os;obtain ⟨th,tc,⟨d3,oh⟩,oc⟩:=j.jh;obtain ⟨p,hp,ce⟩:=j.jc.at hc;unfold Zqm;walk_at "ev";refine Zao ow T.cW T.nWs Zdb ?_;walk_at "ev";refine Zao ow T.cW T.nWh Zb2 ?_;refine Zao oh T.c.Zca T.c.Zbg Zby ?_;walk_at "ev";refine Zbe (SqL.of oc) (Zrh (v:=.ref p.1) h0 (by rw [List.getElem?_map,hp];rfl)) ?_;walk_at "ev";refine ⟨_,_,rfl,Tg,s,A,M,_,p,c,j,rfl,ce,rfl,?_⟩;walk_at "ev";refine Zao os T.cS T.n2 Zfq ?_;walk_at "ev";unfold ZEd at q;refine ifd (fun z=>?_) (fun z=>?_)
 ·rw [if_pos z] at q;walk_at "ev";exact q
 ·rw [if_neg z] at q;walk_at "ev";refine Zao os T.cS T.n2 Zfq ?_;walk_at "ev";refine ifd (fun y=>?_) (fun y=>?_)
  ·rw [if_pos y] at q;walk_at "ev";refine ifd (fun x=>?_) (fun x=>?_)
   ·rw [if_pos x] at q;walk_at "ev";exact q
   ·rw [if_neg x] at q;walk_at "ev";exact q
  ·rw [if_neg y] at q;walk_at "ev";refine ifnd (fun x=>?_) (fun x=>?_)
   ·rw [if_neg x] at q;walk_at "ev";exact q
   ·rw [if_pos x] at q;walk_at "ev";refine Zao os T.cS T.n3 Znj ?_;refine ⟨_,_,rfl,.inl (SqL.of j.js.og),rfl,?_,?_⟩
    ·rw [List.all_map,List.all_eq_true];intro a _;rfl
    rw [if_neg (by decide),ZMl];walk_at "ev";refine ifd (fun y=>?_) (fun y=>?_)
    ·rw [if_pos y] at q;walk_at "ev";exact q
    ·rw [if_neg y] at q;walk_at "ev";exact q
theorem Zzy {wo:Addr}{i:Int} (T:TxW K X) (q:∃ T s A M c,WJ X H T s A M∧A.wo=wo∧0≤i∧M.cells[i.toNat]? =some (some c)∧c.fl.length≤1000∧∀ a l H',Same H H'→H a=none→TcO M H' (a,l) (i,c)→Q (.ref a) H'):
  Zlt K (Zfk X) (Zqb X) ⟨n,Q,bk,ct⟩ [some (.ref wo),some (.int i),none,none] H:=by
 obtain ⟨Tg,s,A,M,c,j,rfl,h0,hc,hl,q⟩:=q;obtain ⟨d1,ow⟩:=j.jb.ow;obtain ⟨th,tc,⟨d3,oh⟩,oc⟩:=j.jh;obtain ⟨p,hp,ce⟩:=j.jc.at hc;obtain ⟨t1,t2,⟨dx,o1⟩,o2⟩:=id ce;unfold Zlt;walk_at "ev";refine Zao ow T.cW T.nWh Zb2 ?_;refine Zao oh T.c.Zca T.c.Zbg Zby ?_;walk_at "ev";refine Zbe (SqL.of oc) (Zrh (v:=.ref p.1) h0 (by rw [List.getElem?_map,hp];rfl)) ?_;walk_at "ev";refine Zao ow T.cW T.nWh Zb2 ?_;walk_at "ev";refine Zao o1 T.c.Zc5 T.c.Zcm Zga ?_;walk_at "ev";refine ⟨_,_,rfl,Tg,s,A,M,c.fl,j,rfl,o2,hl,fun l nl=>?_⟩;have s1:=Zaf nl (.lst ((c.fl.map (bAt M)).map oV));have g1:upd H l (.lst ((c.fl.map (bAt M)).map oV)) l=some (.lst ((c.fl.map (bAt M)).map oV)):=Za2;generalize upd H l (.lst ((c.fl.map (bAt M)).map oV))=H1 at s1 g1 ⊢;walk_at "ev";refine Zao (s1 _ _ o1) T.c.Zc5 T.c.Zcd Zel ?_;walk_at "ev";refine Zao (s1 _ _ o1) T.c.Zc5 T.c.Zew Zq9 ?_;walk_at "ev";refine Zao (s1 _ _ o1) T.c.Zc5 T.c.Ze0 Zky ?_;walk_at "ev";refine ⟨_,_,rfl,Tg,s,A,M,c,j.same s1,rfl,h0,hc,?_⟩;walk_at "ev";refine ⟨Zat (by simp),fun a na=>?_⟩;have s2:=Zaf na (.tup [.int i,.int c.birth,.int c.bulk,.int c.load,.ref l,.str (ZEd M i c)]);exact q a l _ (s1.trans s2) (s1.free na) ⟨Za2,s2 _ _ g1⟩
theorem Zwx {wo:Addr} (T:TxW K X) (q:∃ T s A M,WJ X H T s A M∧A.wo=wo∧M.cells.length≤1000∧(∀ c,some c∈M.cells→c.fl.length≤1000)∧
 ∀ (l:Addr) (ls:List Addr) H',Same H H'→H' l=some (.lst (ls.map V.ref))→ls.length=(Zjw M).length→(∀ (j:Nat) r t,ls[j]? =some r→(Zjw M)[j]? =some t→∃ f,TcO M H' (r,f) t)→Q (.ref l) H'):
  Zkd K X.H (Zj7 X.H) (Zkz X) ⟨n,Q,bk,ct⟩ [some (.ref wo)] H:=by
 obtain ⟨Tg,s,A,M,j,rfl,hc,hf,q⟩:=q;obtain ⟨d1,ow⟩:=j.jb.ow;obtain ⟨th,tc,⟨d3,oh⟩,oc⟩:=j.jh;have hl:(Zjw M).length≤1000:=by
  have:=List.length_filterMap_le (fun (i:Nat)=>((M.cells[i]?).join).map fun c=>((i:Int),c)) (List.range M.cells.length);rw [List.length_range] at this;exact Nat.le_trans this hc
 unfold Zkd;walk_at "ev";refine ZEt ?_;walk_at "ev";refine Zao ow T.cW T.nWh Zb2 ?_;refine ⟨A.hp,d3,_,rfl,oh,Zw4,?_⟩;walk_at "ev";refine ⟨_,rfl,_,_,_,_,_,j.hpO,by rw [List.length_map,j.jc.lc];exact hc,fun l0 nl0=>?_⟩;rw [ZM2 j];have s1:=Zaf nl0 (.lst (((Zjw M).map (·.1)).map V.int));have g1:upd H l0 (.lst (((Zjw M).map (·.1)).map V.int)) l0=some (.lst (((Zjw M).map (·.1)).map V.int)):=Za2;generalize upd H l0 (.lst (((Zjw M).map (·.1)).map V.int))=H1 at s1 g1 ⊢;refine ⟨_,rfl,⟨_,SqL.of g1⟩,?_⟩;refine Zy7 (SqL.of g1) (by rw [List.length_map,List.length_map];omega) (fun i r Hx=>∃ t f,(Zjw M)[i]? =some t∧TcO M Hx (r,f) t) (fun _ _ _ _ ⟨t,f,e,z1,z2⟩ s=>⟨t,f,e,s _ _ z1,s _ _ z2⟩) (fun _ _ _ ⟨_,_,_,z,_⟩=>⟨_,z⟩) (fun x H1 q hq=>Zs4 hq) (fun i x H2 hi s2 q' hq=>?_) ?_
 ·rw [List.getElem?_map,List.getElem?_map] at hi;cases ht:(Zjw M)[i]? with
  | none=>rw [ht] at hi;cases hi
  | some t=>
   rw [ht] at hi;cases hi;obtain ⟨t0,tc'⟩:=ZO3 ht;walk_at "caps";walk_at "ev";refine ⟨_,_,rfl,Tg,s,A,M,t.2,j.same (s1.trans s2),rfl,t0,tc',hf _ (List.mem_of_getElem? tc'),fun a l H3 s3 na tco=>?_⟩;exact hq a H3 s3 na ⟨t,l,ht,tco⟩
 ·intro rs H' s2 hl2 _ _ hr p hp;have s3:=Zaf hp (.lst (rs.map V.ref));refine q p rs _ (s1.trans (s2.trans s3)) Za2 (by rw [hl2,List.length_map,List.length_map]) fun k r t e1 e2=>?_;obtain ⟨t',f,e3,z1,z2⟩:=hr k r e1;rw [e2] at e3;cases e3;exact ⟨f,s3 _ _ z1,s3 _ _ z2⟩
end
def Sm (H:Hp):Nat→V→V→Prop
 | 0,x,y=>x=y∧Zos x=true
 | d + 1,x,y=>(x=y∧Zos x=true)∨∃ a b xs ys,x=.ref a∧y=.ref b∧((H a=some (.lst xs)∧H b=some (.lst ys))∨(H a=some (.tup xs)∧H b=some (.tup ys)))∧xs.length≤1000000∧G.Al (Sm H d) xs ys
def Zj5 (d:Nat):Sp:=fun vs H Q E=>∃ x y,vs=[x,y]∧Sm H d x y∧Q (.bl true) H
def ZF8:Sp:=fun vs H Q E=>∃ x y:V,vs=[x,y]∧False
section
variable {K:PySem.W.Frag}{H:Hp}{Q:VK}{n:St→Hp→Prop}{bk ct:St→Hp→Prop}
theorem ZAu {sp:Sp}{x:V} (hf:Zos x=true) (q:Q (.bl true) H):Zee K sp ⟨n,Q,bk,ct⟩ [some x,some x,none] H:=by
 unfold Zee;cases x with
 | non=>
  walk_at "ev";exact q
 | bl b=>
  walk_at "ev";cases b with
  | true=>
   refine ZKq ?_;walk_at "ev";exact q
  | false=>
   refine Zs5 ?_;walk_at "ev";refine ZKq ?_;walk_at "ev";exact q
 | int i=>
  walk_at "ev";refine Zs5 ?_;walk_at "ev";refine Zs5 ?_;walk_at "ev";rw [decide_eq_true rfl];exact q
 | str z=>
  walk_at "ev";refine Zs5 ?_;walk_at "ev";refine Zs5 ?_;walk_at "ev";rw [decide_eq_true rfl];exact q
 | _=>exact absurd (show false=true from hf) Bool.false_ne_true
theorem ZLv {sp:Sp}{a b:Addr}{xs ys:List V} (hl:xs.length=ys.length) (h1000:xs.length≤1000000) (hab:(H a=some (.lst xs)∧H b=some (.lst ys))∨(H a=some (.tup xs)∧H b=some (.tup ys)))
  (hs:∀ (i:Nat) (x y:V),xs[i]? =some x→ys[i]? =some y→∀ Q' E',Q' (.bl true) H→sp [x,y] H Q' E') (q:Q (.bl true) H):Zee K sp ⟨n,Q,bk,ct⟩ [some (.ref a),some (.ref b),none] H:=by
 unfold Zee;walk_at "ev";refine Zs5 ?_;walk_at "ev";refine Zs5 ?_;walk_at "ev";have lp:∀ (T:TE),True:=fun _=>trivial;rcases hab with ⟨ha,hb⟩ | ⟨ha,hb⟩
 ·refine ZIa hb ?_;walk_at "ev";refine ZI9 hb ?_;walk_at "ev";refine Zus hb ?_;walk_at "ev";refine Zus ha ?_;walk_at "ev";refine ZC6 hb ?_;walk_at "ev";refine Zhl (SqL.of ha) ?_;walk_at "ev";refine Zhl (SqL.of hb) ?_;walk_at "ev";rw [hl];refine ifnd (fun z=>absurd rfl z) (fun _=>?_);walk_at "ev";refine Zhl (SqL.of hb) ?_;walk_at "ev";refine ⟨_,rfl,by omega,by omega,?_⟩;refine forR (fun _ σ Hx=>∃ v,σ=[some (.ref a),some (.ref b),v]∧Hx=H) ⟨_,rfl,rfl⟩ ?_ ?_
  ·rintro i σ Hx hi ⟨v,rfl,rfl⟩;have e0:(0:Int) + (i:Int)=i:=by omega
   rw [e0];have hy:i < ys.length:=by omega
   have hx:i < xs.length:=by omega
   walk_at "ev";refine .inl (Zbe (SqL.of ha) (Zal (List.getElem?_eq_getElem hx)) ?_);walk_at "ev";refine .inl (Zbe (SqL.of hb) (Zal (List.getElem?_eq_getElem hy)) ?_);walk_at "ev";refine hs i _ _ (List.getElem?_eq_getElem hx) (List.getElem?_eq_getElem hy) _ _ ?_;walk_at "ev";exact ⟨_,rfl,rfl⟩
  ·rintro σ Hx ⟨v,rfl,rfl⟩;walk_at "ev";exact q
 ·refine ZI6 hb ?_;walk_at "ev";refine ZI5 hb ?_;walk_at "ev";refine ZEu hb ?_;walk_at "ev";refine Zs6 hb ?_;walk_at "ev";refine Zs6 ha ?_;walk_at "ev";refine ⟨a,xs,rfl,.inr (SqT.of ha),?_⟩;walk_at "ev";refine ⟨b,ys,rfl,.inr (SqT.of hb),?_⟩;walk_at "ev";rw [hl];refine ifnd (fun z=>absurd rfl z) (fun _=>?_);walk_at "ev";refine ⟨b,ys,rfl,.inr (SqT.of hb),?_⟩;walk_at "ev";refine ⟨_,rfl,by omega,by omega,?_⟩;refine forR (fun _ σ Hx=>∃ v,σ=[some (.ref a),some (.ref b),v]∧Hx=H) ⟨_,rfl,rfl⟩ ?_ ?_
  ·rintro i σ Hx hi ⟨v,rfl,rfl⟩;have e0:(0:Int) + (i:Int)=i:=by omega
   rw [e0];have hy:i < ys.length:=by omega
   have hx:i < xs.length:=by omega
   walk_at "ev";refine .inr (.inl ⟨a,xs,i,_,rfl,rfl,SqT.of ha,Zal (List.getElem?_eq_getElem hx),?_⟩);walk_at "ev";refine .inr (.inl ⟨b,ys,i,_,rfl,rfl,SqT.of hb,Zal (List.getElem?_eq_getElem hy),?_⟩);walk_at "ev";refine hs i _ _ (List.getElem?_eq_getElem hx) (List.getElem?_eq_getElem hy) _ _ ?_;walk_at "ev";exact ⟨_,rfl,rfl⟩
  ·rintro σ Hx ⟨v,rfl,rfl⟩;walk_at "ev";exact q
theorem Zzb {x y:V} (q:Sm H 0 x y∧Q (.bl true) H):Zee K ZF8 ⟨n,Q,bk,ct⟩ [some x,some y,none] H:=by
 obtain ⟨⟨rfl,hf⟩,q⟩:=q;exact ZAu hf q
theorem ZCy {d:Nat}{x y:V} (q:Sm H (d + 1) x y∧Q (.bl true) H):Zee K (Zj5 d) ⟨n,Q,bk,ct⟩ [some x,some y,none] H:=by
 obtain ⟨h | ⟨a,b,xs,ys,rfl,rfl,hab,hz,al⟩,q⟩:=q
 ·obtain ⟨rfl,hf⟩:=h;exact ZAu hf q
 ·refine ZLv al.length hz hab (fun i x y e1 e2 Q' E' hq=>?_) q;obtain ⟨x',e3,hs⟩:=al.get e2;rw [e1] at e3;cases e3;exact ⟨x,y,rfl,hs,hq⟩
end
structure Rw (H:Hp) (T:Tg) (lr:Addr) (rs:List Addr) (rows:List (List (Option Int))):Prop where
 tl:T lr=(2,0)
 ol:H lr=some (.lst (rs.map V.ref))
 ln:rs.length=rows.length
 at_:∀ (j:Nat) r x,rs[j]? =some r→rows[j]? =some x→T r=(2,1 + j)∧H r=some (.lst (x.map oV))
section
variable {H H':Hp}{T T':Tg}{lr:Addr}{rs:List Addr}{rows:List (List (Option Int))}
theorem ZEs:∀ {rs:List Addr}{j:Nat}{r:Addr},rs.Nodup→rs[j]? =some r→rs.idxOf r=j:=by
 intro rs
 induction rs with
 | nil=>intro j r _ e;simp at e
 | cons a rs ih=>
  intro j r nd e;obtain ⟨n1,n2⟩:=List.nodup_cons.mp nd;rw [List.idxOf_cons];cases j with
  | zero=>simp at e;subst e;simp
  | succ j=>
   have e':rs[j]? =some r:=by simpa using e
   have hne:a≠r:=fun z=>n1 (by rw [z];exact List.mem_of_getElem? e');have hb:(a == r)=false:=beq_eq_false_iff_ne.mpr hne;rw [hb];show rs.idxOf r + 1=j + 1;rw [ih n2 e']
end
theorem ZKx (x:Option Int):Zos (oV x)=true:=by cases x<;>rfl
theorem Zi6 {H:Hp}{d:Nat}{x:V} (h:Zos x=true):Sm H d x x:=by
 cases d with
 | zero=>exact ⟨rfl,h⟩
 | succ d=>exact .inl ⟨rfl,h⟩
theorem Ztj {H:Hp}{d:Nat}:∀ {xs:List V},xs.all Zos=true→Al (Sm H d) xs xs
 | [],_=>.nil
 | x :: xs,h=>by
  rw [List.all_cons,Bool.and_eq_true] at h;exact .cons (Zi6 h.1) (Ztj h.2)
theorem ZNx (l:List (Option Int)):(l.map oV).all Zos=true:=by
 rw [List.all_eq_true];intro x hx;obtain ⟨i,_,rfl⟩:=List.mem_map.mp hx;exact ZKx i
theorem ZPy {α β:Type}{P:α→β→Prop}:∀ {xs:List α}{ys:List β},xs.length=ys.length→(∀ (i:Nat) x y,xs[i]? =some x→ys[i]? =some y→P x y)→Al P xs ys
 | [],[],_,_=>.nil
 | [],_ :: _,h,_=>by simp at h
 | _ :: _,[],h,_=>by simp at h
 | x :: xs,y :: ys,h,p=>.cons (p 0 x y rfl rfl) (ZPy (by simpa using h) fun i a b h1 h2=>p (i + 1) a b (by simpa using h1) (by simpa using h2))
theorem ZO9 {H:Hp}{l lr:Addr}{ls rs:List Addr}{rows:List (List (Option Int))} (h1:H l=some (.lst (ls.map V.ref))) (h2:H lr=some (.lst (rs.map V.ref))) (n1:ls.length=rows.length) (n2:rs.length=rows.length) (hb:rows.length≤1000) (hr:∀ x∈rows,x.length≤1000)
  (g1:∀ (j:Nat) r x,ls[j]? =some r→rows[j]? =some x→H r=some (.lst (x.map oV))) (g2:∀ (j:Nat) r x,rs[j]? =some r→rows[j]? =some x→H r=some (.lst (x.map oV))):Sm H 3 (.ref l) (.ref lr):=by
 refine .inr ⟨l,lr,_,_,rfl,rfl,.inl ⟨h1,h2⟩,by rw [List.length_map];omega,ZPy (by rw [List.length_map,List.length_map];omega) fun i x y e1 e2=>?_⟩;rw [List.getElem?_map] at e1 e2;cases c1:ls[i]? with
 | none=>rw [c1] at e1;cases e1
 | some r1=>
  cases c2:rs[i]? with
  | none=>rw [c2] at e2;cases e2
  | some r2=>
   rw [c1] at e1;rw [c2] at e2;cases e1;cases e2;have hi:i < rows.length:=by rw [← n1];exact (List.getElem?_eq_some_iff.mp c1).1
   refine .inr ⟨r1,r2,_,_,rfl,rfl,.inl ⟨g1 i r1 _ c1 (List.getElem?_eq_getElem hi),g2 i r2 _ c2 (List.getElem?_eq_getElem hi)⟩,?_,Ztj (ZNx _)⟩;rw [List.length_map];have:=hr _ (List.getElem_mem hi);omega
theorem ZH9 {M:Wm}{h k:Nat}{x:Option Int}{r:List (Option Int)} (hr:(rowsOf M)[h]? =some r):rowsOf (setSlot M h k x)=(rowsOf M).set h (r.set k (bAt M x)):=by
 unfold rowsOf at hr;rw [List.getElem?_map] at hr;cases hm:M.hands[h]? with
 | none=>rw [hm] at hr;cases hr
 | some m=>
  rw [hm] at hr;have e:m.2.map (bAt M)=r:=Option.some.inj hr;rw [ZDs hm,e]
theorem toN {x:Int} (h:0≤x):∃ k:Nat,x=k:=⟨x.toNat,by omega⟩
def Zzj:Sp:=fun vs H Q E=>∃ c m,vs=[.int c,.int m]∧(0≤m∧m≤100)∧∀ (l:Addr) (ws:List Str) H',Same H H'→H' l=some (.lst (ws.map V.str))→ws.length=m.toNat→H l=none→Q (.ref l) H'
def Zzi:Sp:=fun vs H Q E=>∃ c,vs=[.int c]∧Builtin.Int.intBits c≤2 ^ 20∧∀ z:Int,4≤z→z≤10 ^ 15→Q (.int z) H
section
variable {K:PySem.W.Frag}{X:Cs}{rf:Rf→Addr}{H:Hp}{Q:VK}{E:XK}{n:St→Hp→Prop}{bk ct:St→Hp→Prop}
theorem ZLu (c:Nat):(⟨#[c]⟩:Str).length=1:=rfl
theorem ZQ7 (a b:Str):(a ++ b).length=a.length + b.length:=by
 show (a.cps ++ b.cps).size=_;rw [Array.size_append];rfl
theorem Zzc {c m:Int} (q:(0≤m∧m≤100)∧∀ (l:Addr) (ws:List Str) H',Same H H'→H' l=some (.lst (ws.map V.str))→ws.length=m.toNat→H l=none→Q (.ref l) H'):
  Zkh K Zl0 ⟨n,Q,bk,ct⟩ [some (.int c),some (.int m),none,none,none,none,none,none,none,none] H:=by
 obtain ⟨⟨m0,m1⟩,q⟩:=q;unfold Zkh;walk_at "ev";refine ⟨_,_,rfl,by decide,by decide,fun z1 h1 _=>?_⟩;walk_at "ev";have c1:=Int.emod_nonneg z1 (show (12:Int)≠0 by decide);have c2:=Int.emod_lt_of_pos z1 (show (0:Int) < 12 by decide);obtain ⟨size,es⟩:=toN (x:=1 + z1 % 12) (by omega);have hs:1≤size∧size≤12:=by omega
 rw [es];refine ⟨_,rfl,by omega,by omega,?_⟩;refine forR (fun k σ Hx=>Hx=H∧∃ (w:Str) (v5:Option V),σ=[some (.int c),some (.int m),some (.str "abcdefghijklmnopqrstuvwxyz"),some (.int size),some (.str w),v5,none,none,none,none]∧w.length≤k) ⟨rfl,_,_,rfl,Nat.le_refl _⟩ ?_ ?_
 ·rintro k σ Hx hk ⟨rfl,w,v5,rfl,hw⟩;have hk12:k≤12:=by omega
  have hii:(k:Int) * k≤144:=by
   have:=Nat.mul_le_mul hk12 hk12;have e:((k * k:Nat):Int)=(k:Int) * k:=by push_cast;rfl
   omega
  have hi0:0≤(k:Int) * k:=Int.mul_nonneg (by omega) (by omega);rw [Int.zero_add];walk_at "ev";refine ⟨_,_,rfl,by omega,by omega,fun z2 h2 _=>?_⟩;walk_at "ev";have d1:=Int.emod_nonneg z2 (show (26:Int)≠0 by decide);have d2:=Int.emod_lt_of_pos z2 (show (0:Int) < 26 by decide);refine ZKp (by decide) d1 (by show z2 % 26 < 26;exact d2) fun ch=>?_;walk_at "ev";refine ⟨w,⟨#[ch]⟩,rfl,rfl,by rw [ZLu];exact Zat (by omega),?_⟩;walk_at "ev";exact ⟨rfl,_,_,rfl,by rw [ZQ7,ZLu];omega⟩
 ·rintro σ Hx ⟨rfl,w,v5,rfl,hw⟩;have hw:w.length≤12:=by omega
  walk_at "ev";refine ⟨_,_,rfl,by decide,by decide,fun z3 h3 _=>?_⟩;walk_at "ev";refine ⟨_,_,rfl,by decide,by decide,fun z4 h4 _=>?_⟩;walk_at "ev";have e1:=Int.emod_nonneg z3 (show (size:Int)≠0 by omega);have f1:=Int.emod_nonneg z4 (show (26:Int)≠0 by decide);generalize z3 % (size:Int)=at' at e1 ⊢;generalize z4 % 26=start at f1 ⊢;refine ⟨by decide,fun wl nwl=>?_⟩;have s1:=Zaf nwl (.lst []);have g1:upd Hx wl (.lst []) wl=some (.lst (([]:List Str).map V.str)):=Za2;generalize upd Hx wl (.lst [])=H1 at s1 g1 ⊢;walk_at "ev";refine ⟨_,rfl,by omega,by omega,?_⟩;refine forR (fun k σ H2=>∃ (ws:List Str) (v5 v9:Option V),σ=[some (.int c),some (.int m),some (.str "abcdefghijklmnopqrstuvwxyz"),some (.int size),some (.str w),v5,some (.int at'),some (.int start),some (.ref wl),v9]∧Same Hx H2∧H2 wl=some (.lst (ws.map V.str))∧ws.length=k) ⟨[],_,_,rfl,s1,g1,rfl⟩ ?_ ?_
  ·rintro k σ H2 hk ⟨ws,v5,v9,rfl,s2,g2,hl⟩;have hk:k < 101:=by omega
   rw [Int.zero_add];have fin:∀ (one:Str) (v5:Option V),∀ (nn:St→Hp→Prop) (rr:VK) (bb cc:St→Hp→Prop),(∀ σ H',(∃ (ws:List Str) (v5 v9:Option V),σ=[some (.int c),some (.int m),some (.str "abcdefghijklmnopqrstuvwxyz"),some (.int size),some (.str w),v5,some (.int at'),some (.int start),some (.ref wl),v9]∧Same Hx H'∧H' wl=some (.lst (ws.map V.str))∧ws.length=k + 1)→nn σ H')→
     Zvh (tBM K "list" Zm9 (tVar 8) (Za3 (tVar 9) tNil)) ⟨nn,rr,bb,cc⟩ [some (.int c),some (.int m),some (.str "abcdefghijklmnopqrstuvwxyz"),some (.int size),some (.str w),v5,some (.int at'),some (.int start),some (.ref wl),some (.str one)] H2:=by
    intro one v5 nn rr bb cc hD;walk_at "ev";refine ⟨.inl ⟨rfl,_,SqL.of g2⟩,?_⟩;walk_at "ev";refine ⟨wl,_,_,rfl,rfl,g2,?_,?_⟩
    ·rw [List.length_map];exact Nat.lt_of_le_of_lt (show _≤1000 by omega) (by decide)
    rw [show ws.map V.str ++ [V.str one]=(ws ++ [one]).map V.str from by rw [List.map_append];rfl];walk_at "ev";exact hD _ _ ⟨ws ++ [one],_,_,rfl,fun b o hb=>by rw [Za9 (Za5 hb nwl)];exact s2 _ _ hb,Za2,by rw [List.length_append,hl];rfl⟩
   have l1:=Zou w none (some at');have l2:=Zou w (some (at' + 1)) none;walk_at "ev";refine ZR1 (Zat (by omega)) ?_;walk_at "ev";have d1:=Int.emod_nonneg (start + k) (show (26:Int)≠0 by decide);have d2:=Int.emod_lt_of_pos (start + k) (show (0:Int) < 26 by decide);refine ZKp (by decide) d1 (by show (start + k) % 26 < 26;exact d2) fun ch=>?_;walk_at "ev";refine ⟨_,⟨#[ch]⟩,rfl,rfl,by rw [ZLu];exact Zat (by omega),?_⟩;walk_at "ev";refine ZR1 (Zat (by omega)) ?_;walk_at "ev";refine ⟨_,_,rfl,rfl,by rw [ZQ7,ZLu];exact Zat (by omega),?_⟩;walk_at "ev";refine ifd (fun _=>?_) (fun _=>?_)
   ·refine ZRm ?_;refine i_C ?_;refine i_g9 ?_;exact fin _ _ _ _ _ _ fun σ H' h=>h
   ·refine ZNs ?_;exact fin _ _ _ _ _ _ fun σ H' h=>h
  ·rintro σ H2 ⟨ws,v5,v9,rfl,s2,g2,hl⟩;walk_at "ev";exact q wl ws H2 s2 g2 hl nwl
theorem ZD0 {c:Int} (q:Builtin.Int.intBits c≤2 ^ 20∧∀ z:Int,4≤z→z≤10 ^ 15→Q (.int z) H):Zm0 Zl0 ⟨n,Q,bk,ct⟩ [some (.int c)] H:=by
 obtain ⟨hb,q⟩:=q;unfold Zm0;walk_at "ev";refine ⟨_,_,rfl,by decide,by decide,fun z hz _=>?_⟩;walk_at "ev";refine ifd (fun _=>?_) (fun _=>?_)
 ·walk_at "ev";refine i_I (mulW _ hb (by decide)) ?_;walk_at "ev";have e1:(10:Int) ^ Int.toNat 15=10 ^ 15:=rfl;have m1:=Int.emod_nonneg (c * 7654321 ^ Int.toNat 3) (show (10:Int) ^ Int.toNat 15 - 3≠0 by decide);have m2:=Int.emod_lt_of_pos (c * 7654321 ^ Int.toNat 3) (show (0:Int) < 10 ^ Int.toNat 15 - 3 by decide);exact q _ (by omega) (by omega)
 ·walk_at "ev";refine ⟨_,_,rfl,by decide,by decide,fun z hz _=>?_⟩;walk_at "ev";exact q _ (by omega) (by omega)
end
def zK (ks:List Str) (vs:List V):List (L2.Key×V):=List.zipWith (fun z v=>((Sum.inr z:L2.Key),v)) ks vs
theorem zget {k:Str}{v:V}:∀ {ks:List Str}{vs:List V}{i:Nat},ks[i]? =some k→((ks.take i).all fun z=>!decide (z=k))=true→vs[i]? =some v→valV (zK ks vs) (Sum.inr k)=some v
 | [],_,_,h,_,_=>by simp at h
 | _ :: _,[],_,_,_,h=>by simp at h
 | a :: ks,b :: vs,0,h1,_,h3=>by
  have e1:a=k:=by simpa using h1
  have e3:b=v:=by simpa using h3
  subst e1 e3;exact Zmq (p:=((Sum.inr a:L2.Key),b)) rfl
 | a :: ks,b :: vs,i + 1,h1,h2,h3=>by
  rw [List.take_succ_cons,List.all_cons,Bool.and_eq_true] at h2;have ne:¬ a=k:=by simpa using h2.1
  refine (Zjv (p:=((Sum.inr a:L2.Key),b)) (fun e=>ne (Sum.inr.inj e))).trans ?_;exact zget (by simpa using h1) h2.2 (by simpa using h3)
theorem ZPz {k:Str}:∀ {ks:List Str}{vs:List V},(ks.all fun z=>!decide (z=k))=true→valV (zK ks vs) (Sum.inr k)=none
 | [],_,_=>rfl
 | _ :: _,[],_=>rfl
 | a :: ks,b :: vs,h=>by
  rw [List.all_cons,Bool.and_eq_true] at h;have ne:¬ a=k:=by simpa using h.1
  exact (Zjv (p:=((Sum.inr a:L2.Key),b)) (fun e=>ne (Sum.inr.inj e))).trans (ZPz h.2)
theorem zput {ks:List Str}{vs:List V}{k:Str}{v:V} (hl:ks.length=vs.length) (h:(ks.all fun z=>!decide (z=k))=true):putK (zK ks vs) (Sum.inr k) v=zK (ks ++ [k]) (vs ++ [v]):=by
 rw [ZFq _ (ZPz h)];unfold zK;rw [List.zipWith_append hl];rfl
theorem zrd {H:Hp}{d:Addr}{ks:List Str}{vs:List V}{k:Str}{v:V}{i:Nat} (hd:H d=some (.dK (zK ks vs))) (h1:ks[i]? =some k) (h2:((ks.take i).all fun z=>!decide (z=k))=true) (h3:vs[i]? =some v):DGet H d (.str k) (some v):=by
 have:=DGet.k (k:=Sum.inr k) hd;rw [zget h1 h2 h3] at this;exact this
theorem zset {ks:List Str}{vs:List V}{k:Str}{v:V}{i:Nat} (h1:ks[i]? =some k) (nd:ks.Nodup) (hl:ks.length=vs.length):putK (zK ks vs) (Sum.inr k) v=zK ks (vs.set i v):=by
 have hi:i < ks.length:=(List.getElem?_eq_some_iff.mp h1).1;have hk:∀ j,ks[j]? =some k→j=i:=fun j hj=>((List.getElem?_inj hi nd).mp (h1.trans hj.symm)).symm;unfold putK;rw [if_pos]
 ·apply List.ext_getElem?;intro j;unfold zK;rw [List.getElem?_map,List.getElem?_zipWith,List.getElem?_zipWith]
  by_cases e:j=i
  ·subst e;rw [h1,List.getElem?_set_self (by omega),List.getElem?_eq_getElem (show j < vs.length by omega)];simp
  ·rw [List.getElem?_set_ne (Ne.symm e)];cases hj:ks[j]? with
   | none=>rfl
   | some z=>
    cases vs[j]? with
    | none=>rfl
    | some u=>
     have ne:¬ z=k:=fun ez=>e (hk j (by rw [hj,ez]));simp [ne]
 ·rw [List.any_eq_true];refine ⟨(Sum.inr k,vs[i]'(by omega)),?_,by simp⟩;refine List.mem_of_getElem? (i:=i) ?_;unfold zK;rw [List.getElem?_zipWith,h1,List.getElem?_eq_getElem (show i < vs.length by omega)]
theorem zwr2 {H:Hp}{d:Addr}{ks:List Str}{vs:List V}{k:Str}{v:V}{i:Nat} (hd:H d=some (.dK (zK ks vs))) (h1:ks[i]? =some k) (nd:ks.Nodup) (hl:ks.length=vs.length) (h20:ks.length≤20):DPut H d (.str k) v (upd H d (.dK (zK ks (vs.set i v)))):=by
 have:=DPut.k (k:=Sum.inr k) (v:=v) hd (by
  unfold zK;rw [List.length_zipWith];exact Nat.lt_of_le_of_lt (show _≤20 by omega) (by decide))
 rw [zset h1 nd hl] at this;exact this
structure Sc where
 un:Int
 ld:Int
 fl:List (Option Int)
structure Sto where
 room:Int
 used:Int
 born:Int
 rows:List (List (Option Int))
 cells:List Sc
 words:List (Str×Int)
structure Sa where
 d:Addr
 lr:Addr
 dc:Addr
 dw:Addr
 rs:List Addr
 cs:List (Addr×Addr)
def stN:List Str:=["room","used","born","rows","cells","words"]
def stV (room used born:Int) (lr dc dw:Addr):List V:=[.int room,.int used,.int born,.ref lr,.ref dc,.ref dw]
def ceK (cs:List (Addr×Addr)):List (L2.Key×V):=cs.zipIdx.map fun x=>(Sum.inl ((x.2:Int) + 1),V.ref x.1.1)
def wdK (ws:List (Str×Int)):List (L2.Key×V):=ws.map fun m=>(Sum.inr m.1,V.int m.2)
structure StO (H:Hp) (T:Tg) (r:Nat) (A:Sa) (S:Sto):Prop where
 td:T A.d=(r,0)
 od:H A.d=some (.dK (zK stN (stV S.room S.used S.born A.lr A.dc A.dw)))
 tr:T A.lr=(r,1)
 orr:H A.lr=some (.lst (A.rs.map V.ref))
 rl:A.rs.length=S.rows.length
 r5:A.rs.length≤30
 rr:∀ (j:Nat) a x,A.rs[j]? =some a→S.rows[j]? =some x→T a=(r,10 + j)∧H a=some (.lst (x.map oV))
 tc:T A.dc=(r,2)
 oc:H A.dc=some (.dK (ceK A.cs))
 cl:A.cs.length=S.cells.length
 cc:∀ (i:Nat) p c,A.cs[i]? =some p→S.cells[i]? =some c→T p.1=(r,100 + 2 * i)∧T p.2=(r,101 + 2 * i)∧H p.1=some (.lst [.int c.un,.int c.ld,.ref p.2])∧H p.2=some (.lst (c.fl.map oV))
 tw:T A.dw=(r,3)
 ow:H A.dw=some (.dK (wdK S.words))
structure StT (r:Nat) (H H':Hp) (T T':Tg):Prop extends Stp r H H' T T' where
 tk:∀ b xs,H b=some (.tup xs)→H' b=some (.tup xs)
theorem StT.trans {r:Nat}{H H1 H2:Hp}{T T1 T2:Tg} (a:StT r H H1 T T1) (b:StT r H1 H2 T1 T2):StT r H H2 T T2:=⟨a.toStp.trans b.toStp,fun c xs h=>b.tk c xs (a.tk c xs h)⟩
theorem StT.same {r:Nat}{H H':Hp}{T:Tg} (w:WT H T) (e:Same H H'):StT r H H' T T:=⟨Stp.same w e,fun c xs h=>e _ _ h⟩
theorem StT.refl {r:Nat}{H:Hp}{T:Tg} (w:WT H T):StT r H H T T:=⟨Stp.refl w,fun _ _ h=>h⟩
theorem StT.upd {r:Nat}{H:Hp}{T:Tg}{a:Addr}{o o0:HO} (w:WT H T) (h:H a=some o0) (t:(T a).1=r) (hn:∀ xs,o0≠.tup xs):StT r H (L2.upd H a o) T T:=⟨Stp.upd w h t,fun b xs q=>by
 rw [Za9 (fun z=>by rw [z,h] at q;exact hn xs (Option.some.inj q))];exact q⟩
section
variable {H H':Hp}{T T':Tg}{r:Nat}{A:Sa}{S:Sto}
theorem StO.keep (s:StO H T r A S) (hk:∀ b o,H b=some o→(T b).1=r→H' b=some o) (ht:∀ b o,H b=some o→T' b=T b):StO H' T' r A S:=by
 obtain ⟨a1,a2,a3,a4,a5,a6,a7,a8,a9,a10,a11,a12,a13⟩:=s;refine ⟨(ht _ _ a2).trans a1,hk _ _ a2 (by rw [a1]),(ht _ _ a4).trans a3,hk _ _ a4 (by rw [a3]),a5,a6,fun j a x e1 e2=>?_,(ht _ _ a9).trans a8,hk _ _ a9 (by rw [a8]),a10,fun i p c e1 e2=>?_,(ht _ _ a13).trans a12,hk _ _ a13 (by rw [a12])⟩
 ·obtain ⟨b1,b2⟩:=a7 j a x e1 e2;exact ⟨(ht _ _ b2).trans b1,hk _ _ b2 (by rw [b1])⟩
 ·obtain ⟨b1,b2,b3,b4⟩:=a11 i p c e1 e2;exact ⟨(ht _ _ b3).trans b1,(ht _ _ b4).trans b2,hk _ _ b3 (by rw [b1]),hk _ _ b4 (by rw [b2])⟩
theorem StO.same (s:StO H T r A S) (e:Same H H'):StO H' T r A S:=s.keep (fun b o h _=>e b o h) fun _ _ _=>rfl
theorem StO.other {q:Nat} (s:StO H T r A S) (st:Stp q H H' T T') (n:r≠q):StO H' T' r A S:=s.keep (fun b o h t=>st.kp b o h (by rw [t];exact n)) st.tg
theorem StO.room (s:StO H T r A S):DGet H A.d (.str "room") (some (.int S.room)):=zrd (i:=0) s.od rfl (by decide +kernel) rfl
theorem StO.used (s:StO H T r A S):DGet H A.d (.str "used") (some (.int S.used)):=zrd (i:=1) s.od rfl (by decide +kernel) rfl
theorem StO.born (s:StO H T r A S):DGet H A.d (.str "born") (some (.int S.born)):=zrd (i:=2) s.od rfl (by decide +kernel) rfl
theorem StO.rows (s:StO H T r A S):DGet H A.d (.str "rows") (some (.ref A.lr)):=zrd (i:=3) s.od rfl (by decide +kernel) rfl
theorem StO.cells (s:StO H T r A S):DGet H A.d (.str "cells") (some (.ref A.dc)):=zrd (i:=4) s.od rfl (by decide +kernel) rfl
theorem StO.words (s:StO H T r A S):DGet H A.d (.str "words") (some (.ref A.dw)):=zrd (i:=5) s.od rfl (by decide +kernel) rfl
theorem StO.row (s:StO H T r A S) {h:Nat}{x:List (Option Int)} (hx:S.rows[h]? =some x):∃ a,A.rs[h]? =some a∧T a=(r,10 + h)∧H a=some (.lst (x.map oV)):=by
 have hl:h < A.rs.length:=by rw [s.rl];exact (List.getElem?_eq_some_iff.mp hx).1
 exact ⟨_,List.getElem?_eq_getElem hl,s.rr h _ x (List.getElem?_eq_getElem hl) hx⟩
theorem StO.cell (s:StO H T r A S) {i:Nat}{c:Sc} (hc:S.cells[i]? =some c):∃ p,A.cs[i]? =some p∧T p.1=(r,100 + 2 * i)∧T p.2=(r,101 + 2 * i)∧H p.1=some (.lst [.int c.un,.int c.ld,.ref p.2])∧H p.2=some (.lst (c.fl.map oV)):=by
 have hl:i < A.cs.length:=by rw [s.cl];exact (List.getElem?_eq_some_iff.mp hc).1
 exact ⟨_,List.getElem?_eq_getElem hl,s.cc i _ c (List.getElem?_eq_getElem hl) hc⟩
theorem ZNw {cs:List (Addr×Addr)}{i:Nat}{p:Addr×Addr} (h:cs[i]? =some p):valV (ceK cs) (Sum.inl ((i:Int) + 1))=some (.ref p.1):=by
 have go:∀ (cs:List (Addr×Addr)) (n i:Nat),cs[i]? =some p→valV ((cs.zipIdx n).map fun x=>((Sum.inl ((x.2:Int) + 1):L2.Key),V.ref x.1.1)) (Sum.inl (((n + i:Nat):Int) + 1))=some (.ref p.1):=by
  intro cs
  induction cs with
  | nil=>intro n i h;simp at h
  | cons a cs ih=>
   intro n i h;rw [List.zipIdx_cons,List.map_cons];cases i with
   | zero=>
    have e:a=p:=by simpa using h
    subst e;exact Zmq rfl
   | succ i=>
    refine (Zjv (fun e=>?_)).trans ?_
    ·have:=Sum.inl.inj e;dsimp only at this;omega
    ·have:=ih (n + 1) i (by simpa using h);rw [show n + (i + 1)=n + 1 + i from by omega];exact this
 have:=go cs 0 i h;rw [Nat.zero_add] at this;exact this
theorem ZN5 {cs:List (Addr×Addr)}{b:Int} (h:(cs.length:Int) < b):valV (ceK cs) (Sum.inl b)=none:=by
 cases e:valV (ceK cs) (Sum.inl b) with
 | none=>rfl
 | some v=>
  have hm:=ZO2 e;unfold ceK at hm;rw [List.map_map] at hm;obtain ⟨x,hx,ex⟩:=List.mem_map.mp hm;have e2:((x.2:Int) + 1)=b:=Sum.inl.inj ex;have:=List.snd_lt_of_mem_zipIdx hx;omega
theorem ZN4 (cs:List (Addr×Addr)) (p:Addr×Addr):ceK (cs ++ [p])=ceK cs ++ [(Sum.inl ((cs.length:Int) + 1),V.ref p.1)]:=by
 unfold ceK;rw [List.zipIdx_append,List.map_append];simp
theorem ZLj (cs:List (Addr×Addr)):(ceK cs).length=cs.length:=by unfold ceK;rw [List.length_map,List.length_zipIdx]
theorem StO.cellD (s:StO H T r A S) {i:Nat}{p:Addr×Addr} (hp:A.cs[i]? =some p):DGet H A.dc (.int ((i:Int) + 1)) (some (.ref p.1)):=by
 have:=DGet.k (k:=Sum.inl ((i:Int) + 1)) s.oc;rw [ZNw hp] at this;exact this
theorem StO.setU (s:StO H T r A S) (w:WT H T) (used:Int):StT r H (upd H A.d (.dK (zK stN (stV S.room used S.born A.lr A.dc A.dw)))) T T∧StO (upd H A.d (.dK (zK stN (stV S.room used S.born A.lr A.dc A.dw)))) T r A { S with used:=used }:=by
 refine ⟨StT.upd w s.od (by rw [s.td]) (fun _ z=>by cases z),?_⟩;have ne:∀ b m,T b=(r,m)→m≠0→b≠A.d:=fun b m t hm z=>hm (by rw [z,s.td] at t;exact (congrArg Prod.snd t).symm);refine ⟨s.td,Za2,s.tr,(Za9 (ne _ _ s.tr (by decide))).trans s.orr,s.rl,s.r5,fun j a x e1 e2=>?_,s.tc,(Za9 (ne _ _ s.tc (by decide))).trans s.oc,s.cl,fun i p c e1 e2=>?_,s.tw,(Za9 (ne _ _ s.tw (by decide))).trans s.ow⟩
 ·obtain ⟨b1,b2⟩:=s.rr j a x e1 e2;exact ⟨b1,(Za9 (ne _ _ b1 (by omega))).trans b2⟩
 ·obtain ⟨b1,b2,b3,b4⟩:=s.cc i p c e1 e2;exact ⟨b1,b2,(Za9 (ne _ _ b1 (by omega))).trans b3,(Za9 (ne _ _ b2 (by omega))).trans b4⟩
theorem StO.setB (s:StO H T r A S) (w:WT H T) (born:Int):StT r H (upd H A.d (.dK (zK stN (stV S.room S.used born A.lr A.dc A.dw)))) T T∧StO (upd H A.d (.dK (zK stN (stV S.room S.used born A.lr A.dc A.dw)))) T r A { S with born:=born }:=by
 refine ⟨StT.upd w s.od (by rw [s.td]) (fun _ z=>by cases z),?_⟩;have ne:∀ b m,T b=(r,m)→m≠0→b≠A.d:=fun b m t hm z=>hm (by rw [z,s.td] at t;exact (congrArg Prod.snd t).symm);refine ⟨s.td,Za2,s.tr,(Za9 (ne _ _ s.tr (by decide))).trans s.orr,s.rl,s.r5,fun j a x e1 e2=>?_,s.tc,(Za9 (ne _ _ s.tc (by decide))).trans s.oc,s.cl,fun i p c e1 e2=>?_,s.tw,(Za9 (ne _ _ s.tw (by decide))).trans s.ow⟩
 ·obtain ⟨b1,b2⟩:=s.rr j a x e1 e2;exact ⟨b1,(Za9 (ne _ _ b1 (by omega))).trans b2⟩
 ·obtain ⟨b1,b2,b3,b4⟩:=s.cc i p c e1 e2;exact ⟨b1,b2,(Za9 (ne _ _ b1 (by omega))).trans b3,(Za9 (ne _ _ b2 (by omega))).trans b4⟩
theorem StO.setR (s:StO H T r A S) (w:WT H T) {h k:Nat}{a:Addr}{x:List (Option Int)}{y:Option Int} (ha:A.rs[h]? =some a) (hx:S.rows[h]? =some x):
  StT r H (upd H a (.lst ((x.map oV).set k (oV y)))) T T∧StO (upd H a (.lst ((x.map oV).set k (oV y)))) T r A { S with rows:=S.rows.set h (x.set k y) }:=by
 obtain ⟨ta,oa⟩:=s.rr h a x ha hx;have hl:h < A.rs.length:=(List.getElem?_eq_some_iff.mp ha).1;have h30:=s.r5;have hl':h < S.rows.length:=by rw [← s.rl];exact hl
 refine ⟨StT.upd w oa (by rw [ta]) (fun _ z=>by cases z),?_⟩;have ne:∀ b m,T b=(r,m)→m≠10 + h→b≠a:=fun b m t hm z=>hm (by rw [z,ta] at t;exact (congrArg Prod.snd t).symm);refine ⟨s.td,(Za9 (ne _ _ s.td (by omega))).trans s.od,s.tr,(Za9 (ne _ _ s.tr (by omega))).trans s.orr,by rw [List.length_set];exact s.rl,s.r5,fun j b z e1 e2=>?_,s.tc,(Za9 (ne _ _ s.tc (by omega))).trans s.oc,s.cl,fun i p c e1 e2=>?_,s.tw,(Za9 (ne _ _ s.tw (by omega))).trans s.ow⟩
 ·dsimp only at e2
  by_cases hj:j=h
  ·subst hj;rw [List.getElem?_set_self hl'] at e2;rw [ha] at e1;cases e1;cases e2;exact ⟨ta,by rw [Za2,List.map_set]⟩
  ·rw [List.getElem?_set_ne (Ne.symm hj)] at e2;obtain ⟨b1,b2⟩:=s.rr j b z e1 e2;exact ⟨b1,(Za9 (ne _ _ b1 (by omega))).trans b2⟩
 ·obtain ⟨b1,b2,b3,b4⟩:=s.cc i p c e1 e2;exact ⟨b1,b2,(Za9 (ne _ _ b1 (by omega))).trans b3,(Za9 (ne _ _ b2 (by omega))).trans b4⟩
theorem StO.setW (s:StO H T r A S) (w:WT H T) (ws:List (Str×Int)):StT r H (upd H A.dw (.dK (wdK ws))) T T∧StO (upd H A.dw (.dK (wdK ws))) T r A { S with words:=ws }:=by
 refine ⟨StT.upd w s.ow (by rw [s.tw]) (fun _ z=>by cases z),?_⟩;have ne:∀ b m,T b=(r,m)→m≠3→b≠A.dw:=fun b m t hm z=>hm (by rw [z,s.tw] at t;exact (congrArg Prod.snd t).symm);refine ⟨s.td,(Za9 (ne _ _ s.td (by decide))).trans s.od,s.tr,(Za9 (ne _ _ s.tr (by decide))).trans s.orr,s.rl,s.r5,fun j a x e1 e2=>?_,s.tc,(Za9 (ne _ _ s.tc (by decide))).trans s.oc,s.cl,fun i p c e1 e2=>?_,s.tw,Za2⟩
 ·obtain ⟨b1,b2⟩:=s.rr j a x e1 e2;exact ⟨b1,(Za9 (ne _ _ b1 (by omega))).trans b2⟩
 ·obtain ⟨b1,b2,b3,b4⟩:=s.cc i p c e1 e2;exact ⟨b1,b2,(Za9 (ne _ _ b1 (by omega))).trans b3,(Za9 (ne _ _ b2 (by omega))).trans b4⟩
theorem StO.setL (s:StO H T r A S) (w:WT H T) {i:Nat}{p:Addr×Addr}{c:Sc}{l:Int} (hp:A.cs[i]? =some p) (hc:S.cells[i]? =some c):
  StT r H (upd H p.1 (.lst [.int c.un,.int l,.ref p.2])) T T∧StO (upd H p.1 (.lst [.int c.un,.int l,.ref p.2])) T r A { S with cells:=S.cells.set i { c with ld:=l } }:=by
 obtain ⟨t1,t2,o1,o2⟩:=s.cc i p c hp hc;have hl':i < S.cells.length:=(List.getElem?_eq_some_iff.mp hc).1;refine ⟨StT.upd w o1 (by rw [t1]) (fun _ z=>by cases z),?_⟩;have ne:∀ b m,T b=(r,m)→m≠100 + 2 * i→b≠p.1:=fun b m t hm z=>hm (by rw [z,t1] at t;exact (congrArg Prod.snd t).symm);have h30:=s.r5;refine ⟨s.td,(Za9 (ne _ _ s.td (by omega))).trans s.od,s.tr,(Za9 (ne _ _ s.tr (by omega))).trans s.orr,s.rl,s.r5,fun j b z e1 e2=>?_,s.tc,(Za9 (ne _ _ s.tc (by omega))).trans s.oc,by rw [List.length_set];exact s.cl,fun k q c' e1 e2=>?_,s.tw,(Za9 (ne _ _ s.tw (by omega))).trans s.ow⟩
 ·obtain ⟨b1,b2⟩:=s.rr j b z e1 e2;have:=(List.getElem?_eq_some_iff.mp e1).1;exact ⟨b1,(Za9 (ne _ _ b1 (by omega))).trans b2⟩
 ·dsimp only at e2
  by_cases hk:k=i
  ·subst hk;rw [List.getElem?_set_self hl'] at e2;rw [hp] at e1;cases e1;cases e2;exact ⟨t1,t2,Za2,(Za9 (ne _ _ t2 (by omega))).trans o2⟩
  ·rw [List.getElem?_set_ne (Ne.symm hk)] at e2;obtain ⟨b1,b2,b3,b4⟩:=s.cc k q c' e1 e2;exact ⟨b1,b2,(Za9 (ne _ _ b1 (by omega))).trans b3,(Za9 (ne _ _ b2 (by omega))).trans b4⟩
theorem StO.setF (s:StO H T r A S) (w:WT H T) {i k:Nat}{p:Addr×Addr}{c:Sc}{y:Option Int} (hp:A.cs[i]? =some p) (hc:S.cells[i]? =some c):
  StT r H (upd H p.2 (.lst ((c.fl.map oV).set k (oV y)))) T T∧StO (upd H p.2 (.lst ((c.fl.map oV).set k (oV y)))) T r A { S with cells:=S.cells.set i { c with fl:=c.fl.set k y } }:=by
 obtain ⟨t1,t2,o1,o2⟩:=s.cc i p c hp hc;have hl':i < S.cells.length:=(List.getElem?_eq_some_iff.mp hc).1;refine ⟨StT.upd w o2 (by rw [t2]) (fun _ z=>by cases z),?_⟩;have ne:∀ b m,T b=(r,m)→m≠101 + 2 * i→b≠p.2:=fun b m t hm z=>hm (by rw [z,t2] at t;exact (congrArg Prod.snd t).symm);have h30:=s.r5;refine ⟨s.td,(Za9 (ne _ _ s.td (by omega))).trans s.od,s.tr,(Za9 (ne _ _ s.tr (by omega))).trans s.orr,s.rl,s.r5,fun j b z e1 e2=>?_,s.tc,(Za9 (ne _ _ s.tc (by omega))).trans s.oc,by rw [List.length_set];exact s.cl,fun k' q c' e1 e2=>?_,s.tw,(Za9 (ne _ _ s.tw (by omega))).trans s.ow⟩
 ·obtain ⟨b1,b2⟩:=s.rr j b z e1 e2;have:=(List.getElem?_eq_some_iff.mp e1).1;exact ⟨b1,(Za9 (ne _ _ b1 (by omega))).trans b2⟩
 ·dsimp only at e2
  by_cases hk:k'=i
  ·subst hk;rw [List.getElem?_set_self hl'] at e2;rw [hp] at e1;cases e1;cases e2;exact ⟨t1,t2,(Za9 (ne _ _ t1 (by omega))).trans o1,by rw [Za2,List.map_set]⟩
  ·rw [List.getElem?_set_ne (Ne.symm hk)] at e2;obtain ⟨b1,b2,b3,b4⟩:=s.cc k' q c' e1 e2;exact ⟨b1,b2,(Za9 (ne _ _ b1 (by omega))).trans b3,(Za9 (ne _ _ b2 (by omega))).trans b4⟩
theorem StO.addC (s:StO H T r A S) (w:WT H T) {p:Addr×Addr}{c:Sc} (sm:Same H H') (n1:H p.1=none) (n2:H p.2=none) (ne12:p.1≠p.2) (o1:H' p.1=some (.lst [.int c.un,.int c.ld,.ref p.2])) (o2:H' p.2=some (.lst (c.fl.map oV))):
  ∃ T',StT r H (upd H' A.dc (.dK (ceK (A.cs ++ [p])))) T T'∧StO (upd H' A.dc (.dK (ceK (A.cs ++ [p])))) T' r { A with cs:=A.cs ++ [p] } { S with cells:=S.cells ++ [c] }∧∀ b o,H b=some o→T' b=T b:=by
 let T1:Tg:=setT (setT T p.1 (r,100 + 2 * A.cs.length)) p.2 (r,101 + 2 * A.cs.length)
 have told:∀ b o,H b=some o→T1 b=T b:=fun b o h=>by
  show setT _ _ _ b=_;rw [Zdy (Za5 h n2),Zdy (Za5 h n1)]
 have t1:T1 p.1=(r,100 + 2 * A.cs.length):=by show setT _ _ _ p.1=_;rw [Zdy ne12,Zdd]
 have t2:T1 p.2=(r,101 + 2 * A.cs.length):=by show setT _ _ _ p.2=_;rw [Zdd]
 have w1:WT H' T1:=fun b hb=>by
  have b1:b≠p.1:=fun e=>by rw [e,o1] at hb;cases hb
  have b2:b≠p.2:=fun e=>by rw [e,o2] at hb;cases hb
  show setT _ _ _ b=_;rw [Zdy b2,Zdy b1];exact w b (sm.free hb)
 have s1:StO H' T1 r A S:=s.keep (fun b o h _=>sm b o h) told;have st1:StT r H H' T T1:=⟨⟨fun b o h _=>sm b o h,fun b o h=>⟨o,sm b o h⟩,told,w1⟩,fun b xs h=>sm b _ h⟩;refine ⟨T1,st1.trans (StT.upd w1 s1.oc (by rw [s1.tc]) (fun _ z=>by cases z)),?_,told⟩;have ne:∀ b m,T1 b=(r,m)→m≠2→b≠A.dc:=fun b m t hm z=>hm (by rw [z,s1.tc] at t;exact (congrArg Prod.snd t).symm);refine ⟨s1.td,(Za9 (ne _ _ s1.td (by decide))).trans s1.od,s1.tr,(Za9 (ne _ _ s1.tr (by decide))).trans s1.orr,s1.rl,s1.r5,fun j a x e1 e2=>?_,s1.tc,Za2,by rw [List.length_append,List.length_append,s1.cl];rfl,fun i q c' e1 e2=>?_,s1.tw,(Za9 (ne _ _ s1.tw (by decide))).trans s1.ow⟩
 ·obtain ⟨b1,b2⟩:=s1.rr j a x e1 e2;exact ⟨b1,(Za9 (ne _ _ b1 (by omega))).trans b2⟩
 ·dsimp only at e1 e2
  by_cases hi:i < A.cs.length
  ·rw [List.getElem?_append_left hi] at e1;rw [List.getElem?_append_left (by rw [← s1.cl];exact hi)] at e2;obtain ⟨b1,b2,b3,b4⟩:=s1.cc i q c' e1 e2;exact ⟨b1,b2,(Za9 (ne _ _ b1 (by omega))).trans b3,(Za9 (ne _ _ b2 (by omega))).trans b4⟩
  ·have hlen:=(List.getElem?_eq_some_iff.mp e1).1;rw [List.length_append,List.length_singleton] at hlen;have e:i=A.cs.length:=by omega
   subst e;rw [List.getElem?_append_right (Nat.le_refl _),Nat.sub_self] at e1;rw [List.getElem?_append_right (by rw [s1.cl];exact Nat.le_refl _),s1.cl,Nat.sub_self] at e2;have e1':p=q:=by simpa using e1
   have e2':c=c':=by simpa using e2
   subst e1' e2';exact ⟨t1,t2,(Za9 (ne _ _ t1 (by omega))).trans o1,(Za9 (ne _ _ t2 (by omega))).trans o2⟩
end
def rowS (S:Sto) (h s:Nat):Option Int:=((S.rows[h]?).bind fun x=>x[s]?).join
def Zej (S:Sto) (b:Int):Option Sc:=if 1≤b then S.cells[(b - 1).toNat]? else none
def okSS (S:Sto) (h s:Nat):Prop:=∃ x,S.rows[h]? =some x∧s < x.length
def okDS (S:Sto):Deed→Prop
 | .make h s many bulk=>okSS S h s∧0≤many∧many≤1000∧0≤bulk
 | .get h s t _=>okSS S h s∧okSS S h t
 | .put h t _ s=>okSS S h t∧okSS S h s
 | .copy h s t=>okSS S h s∧okSS S h t
 | .drop h s=>okSS S h s
 | .give h s g t=>okSS S h s∧okSS S g t
 | .write h t _=>okSS S h t
 | .read h t=>okSS S h t
 | .name h t _=>okSS S h t
 | .seek h s _=>okSS S h s
def Zlk (S:Sto) (z:Str):Option Int:=(S.words.find? fun m=>decide (m.1=z)).map (·.2)
def fldW (S:Sto) (o:Option Int) (f:Nat):Str:=match o with
 | none=>"empty"
 | some b=>match Zej S b with
  | none=>""
  | some c=>if c.fl.length≤f then "field" else ""
def emW (o:Option Int):Str:=if o.isSome=true then "" else "empty"
def dueW (S:Sto):Deed→Str
 | .make _ _ many bulk=>if S.room < S.used + 1 + many + bulk then "full" else ""
 | .get h _ t f=>fldW S (rowS S h t) f
 | .put h t f _=>fldW S (rowS S h t) f
 | .copy _ _ _=>""
 | .drop _ _=>""
 | .give _ _ _ _=>""
 | .write h t _=>emW (rowS S h t)
 | .read h t=>emW (rowS S h t)
 | .name h t _=>emW (rowS S h t)
 | .seek _ _ z=>if (Zlk S z).isSome=true then "" else "name"
def putW (l:List (Str×Int)) (k:Str) (v:Int):List (Str×Int):=if (l.any fun m=>decide (m.1=k))=true then l.map (fun m=>if m.1=k then (m.1,v) else m) else l ++ [(k,v)]
def Zf5 (S:Sto) (h k:Nat) (x:Option Int):Sto:={ S with rows:=S.rows.modify h fun r=>r.set k x }
def ZGw (S:Sto) (b:Int) (c:Sc):Sto:={ S with cells:=S.cells.set (b - 1).toNat c }
def thS (S:Sto):Deed→Option Int×Sto
 | .make h s many bulk=>(some (S.born + 1),Zf5 { S with used:=S.used + (1 + many + bulk),born:=S.born + 1,cells:=S.cells ++ [⟨1 + many + bulk,0,List.replicate many.toNat none⟩] } h s (some (S.born + 1)))
 | .get h s t f=>let v:=(((rowS S h t).bind (Zej S)).bind fun c=>c.fl[f]?).join;(v,Zf5 S h s v)
 | .put h t f s=>match (rowS S h t) with
  | none=>(none,S)
  | some b=>match Zej S b with
   | none=>(none,S)
   | some c=>((c.fl[f]?).join,ZGw S b { c with fl:=c.fl.set f (rowS S h s) })
 | .copy h s t=>(rowS S h t,Zf5 S h s (rowS S h t))
 | .drop h s=>(rowS S h s,Zf5 S h s none)
 | .give h s g t=>(rowS S h s,Zf5 S g t (rowS S h s))
 | .write h t l=>match (rowS S h t) with
  | none=>(none,S)
  | some b=>match Zej S b with
   | none=>(none,S)
   | some c=>(some c.ld,ZGw S b { c with ld:=l })
 | .read h t=>(((rowS S h t).bind (Zej S)).map (·.ld),S)
 | .name h t z=>match (rowS S h t) with
  | none=>(none,S)
  | some b=>(some b,{ S with words:=putW S.words z b })
 | .seek h s z=>(Zlk S z,Zf5 S h s (Zlk S z))
def WfS (S:Sto):Prop:=∀ x∈S.rows,∀ b,some b∈x→∃ c,Zej S b=some c
section
variable {S:Sto}
theorem Ze7 {h s:Nat} (o:okSS S h s):∃ x,S.rows[h]? =some x∧x[s]? =some (rowS S h s)∧s < x.length:=by
 obtain ⟨x,hx,hs⟩:=o;refine ⟨x,hx,?_,hs⟩;unfold rowS;rw [hx];show x[s]? =some ((x[s]?).join);rw [List.getElem?_eq_getElem hs];rfl
theorem WfS.at (w:WfS S) {h s:Nat}{b:Int} (o:okSS S h s) (e:rowS S h s=some b):∃ (i:Nat) (c:Sc),b=(i:Int) + 1∧S.cells[i]? =some c∧Zej S b=some c:=by
 obtain ⟨x,hx,hxs,_⟩:=Ze7 o;rw [e] at hxs;obtain ⟨c,hc⟩:=w x (List.mem_of_getElem? hx) b (List.mem_of_getElem? hxs);have hc':=hc;unfold Zej at hc
 by_cases h1:1≤b
 ·rw [if_pos h1] at hc;exact ⟨(b - 1).toNat,c,by omega,hc,hc'⟩
 ·rw [if_neg h1] at hc;cases hc
theorem ZJ2 (ws:List (Str×Int)) (z:Str):valV (wdK ws) (Sum.inr z)=((ws.find? fun m=>decide (m.1=z)).map (·.2)).map V.int:=by
 induction ws with
 | nil=>rfl
 | cons m ws ih=>
  show valV ((Sum.inr m.1,V.int m.2) :: wdK ws) _=_
  by_cases e:m.1=z
  ·rw [Zmq (congrArg Sum.inr e),List.find?_cons_of_pos (by simpa using e)];rfl
  ·rw [Zjv (fun x=>e (Sum.inr.inj x)),List.find?_cons_of_neg (by simpa using e)];exact ih
theorem ZO1 (ws:List (Str×Int)) (z:Str) (b:Int):putK (wdK ws) (Sum.inr z) (.int b)=wdK (putW ws z b):=by
 unfold putK putW;have e:((wdK ws).any fun kv=>decide (kv.1=Sum.inr z))=ws.any fun m=>decide (m.1=z):=by
  unfold wdK;rw [List.any_map];congr 1
  funext m
  show decide ((Sum.inr m.1:L2.Key)=Sum.inr z)=_;exact decide_eq_decide.mpr ⟨fun h=>Sum.inr.inj h,fun h=>congrArg _ h⟩
 rw [e];split
 ·unfold wdK;rw [List.map_map,List.map_map];refine List.map_congr_left fun m _=>?_;show (if (Sum.inr m.1:L2.Key)=Sum.inr z then ((Sum.inr m.1:L2.Key),V.int b) else (Sum.inr m.1,V.int m.2))=_
  by_cases h:m.1=z
  ·rw [if_pos (congrArg _ h)];show _=(Sum.inr (if m.1=z then (m.1,b) else m).1,V.int (if m.1=z then (m.1,b) else m).2);rw [if_pos h]
  ·rw [if_neg (fun x=>h (Sum.inr.inj x))];show _=(Sum.inr (if m.1=z then (m.1,b) else m).1,V.int (if m.1=z then (m.1,b) else m).2);rw [if_neg h]
 ·unfold wdK;rw [List.map_append];rfl
theorem ZDj {h k:Nat}{x:List (Option Int)}{y:Option Int} (hx:S.rows[h]? =some x):(Zf5 S h k y).rows=S.rows.set h (x.set k y):=by
 show S.rows.modify h _=_;apply List.ext_getElem?;intro i;rw [List.getElem?_modify]
 by_cases e:h=i
 ·subst e;rw [List.getElem?_set_self (List.getElem?_eq_some_iff.mp hx).1,hx];simp
 ·rw [List.getElem?_set_ne e];simp [e]
theorem Zi7 {h k:Nat}{x:List (Option Int)}{y:Option Int} (hx:S.rows[h]? =some x):Zf5 S h k y={ S with rows:=S.rows.set h (x.set k y) }:=by
 have:=ZDj (k:=k) (y:=y) hx;show { S with rows:=S.rows.modify h _ }=_;rw [show S.rows.modify h (fun r=>r.set k y)=S.rows.set h (x.set k y) from this]
end
def ZN8 (K:PySem.W.Frag):Sp:=fun vs H Q E=>∃ d dd,vs=[.ref d,.ref dd]∧∃ T r A S dl,StO H T r A S∧A.d=d∧H dd=some (.tup (dV dl))∧okDS S dl∧WfS S∧∀ H',Same H H'→Q (.str (dueW S dl)) H'
local macro_rules | `(tactic| walk_at "nx")=>`(tactic| (refine ifd (fun z=>absurd z (by decide)) (fun _=>?_);walk_at "ev"))
local macro_rules | `(tactic| walk_at "yx")=>`(tactic| (refine ifd (fun _=>?_) (fun z=>absurd rfl z);walk_at "ev"))
local macro_rules | `(tactic| walk_at "tx")=>`(tactic| (refine ⟨_,_,_,_,rfl,rfl,SqT.of (by assumption),rfl,?_⟩;walk_at "ev"))
abbrev five:List V:=[V.str "make",V.str "seek",V.str "copy",V.str "drop",V.str "give"]
theorem i5 (w:Str) (b:Bool) (h:inV (V.str w) five=b:=by decide +kernel):(if false=true then !inV (V.str w) five else inV (V.str w) five)=b:=h
set_option hygiene false in
local macro_rules | `(tactic| walk_at "t5")=>`(tactic| (refine ⟨Zat (by simp),fun tp ntp=>?_⟩;have s1:=Zaf ntp (.tup five);have g1:upd H tp (.tup five) tp=some (.tup five):=Za2;generalize upd H tp (.tup five)=H1 at s1 g1 ⊢;refine ⟨tp,_,rfl,.inr (SqT.of g1),rfl,rfl,?_⟩))
section
variable {K:PySem.W.Frag}{H:Hp}{Q:VK}{E:XK}{n:St→Hp→Prop}{bk ct:St→Hp→Prop}
theorem Ztd {d dd:Addr} (q:∃ T r A S dl,StO H T r A S∧A.d=d∧H dd=some (.tup (dV dl))∧okDS S dl∧WfS S∧∀ H',Same H H'→Q (.str (dueW S dl)) H'):
  Zh9 K ⟨n,Q,bk,ct⟩ [some (.ref d),some (.ref dd),none,none,none] H:=by
 obtain ⟨T,r,A,S,dl,so,rfl,ed,od,wf,q⟩:=q;unfold Zh9;cases dl with
 | make h s many bulk=>
  have ed:H dd=some (.tup [.str "make",.int h,.int s,.int many,.int bulk]):=ed;walk_at "ev";walk_at "tx";walk_at "yx";refine ⟨_,_,rfl,so.used,?_⟩;walk_at "ev";walk_at "tx";walk_at "tx";refine ⟨_,_,rfl,so.room,?_⟩;walk_at "ev";refine ifd (fun z=>?_) (fun z=>?_)
  ·walk_at "ev";have:=q H (Same.refl _);rw [show dueW S (.make h s many bulk)="full" from if_pos z] at this;exact this
  walk_at "ev";walk_at "nx";walk_at "t5";rw [i5 "make" true];walk_at "ev";have:=q H1 s1;rw [show dueW S (.make h s many bulk)="" from if_neg z] at this;exact this
 | get h s t f=>
  have ed:H dd=some (.tup [.str "get",.int h,.int s,.int t,.int f]):=ed;walk_at "ev";walk_at "tx";walk_at "nx";walk_at "nx";walk_at "t5";rw [i5 "get" false];walk_at "ev";have ed:=s1 _ _ ed;have so:=so.same s1;walk_at "tx";walk_at "yx";walk_at "tx";obtain ⟨x,hx,hxs,hxl⟩:=Ze7 (od.2);obtain ⟨ra,hra,tra,ora⟩:=so.row hx;refine ⟨_,_,rfl,so.rows,?_⟩;walk_at "ev";walk_at "tx";refine Zbe (SqL.of so.orr) (Zal (v:=.ref ra) (by rw [List.getElem?_map,hra];rfl)) ?_;walk_at "ev";refine Zbe (SqL.of ora) (Zal (v:=oV (rowS S h t)) (by rw [List.getElem?_map,hxs];rfl)) ?_;walk_at "ev";have q:=q H1 s1;cases hr:rowS S h t with
  | none=>
   rw [show oV none=V.non from rfl];walk_at "ev";rw [show dueW S (.get h s t f)="empty" from by show fldW S (rowS S h t) f=_;rw [hr];rfl] at q;exact q
  | some b=>
   rw [show oV (some b)=V.int b from rfl];walk_at "ev";obtain ⟨i,c,rfl,hc,hcS⟩:=wf.at (od.2) hr;obtain ⟨p,hp,t1,t2,o1,o2⟩:=so.cell hc;walk_at "yx";walk_at "tx";refine ⟨_,_,rfl,so.cells,?_⟩;walk_at "ev";refine ⟨_,_,rfl,so.cellD hp,?_⟩;walk_at "ev";refine Zbe (SqL.of o1) (Zal (j:=2) (v:=.ref p.2) rfl) ?_;walk_at "ev";refine Zhl (SqL.of o2) ?_;rw [List.length_map];walk_at "ev";have qe:dueW S (.get h s t f)=(if c.fl.length≤f then ("field":Str) else ("":Str)):=by
    show fldW S (rowS S h t) f=_;rw [hr];show (match Zej S ((i:Int) + 1) with | none=>_ | some c=>_)=_;rw [hcS]
   rw [qe] at q;refine ifd (fun z=>?_) (fun z=>?_)
   ·walk_at "ev";rw [if_pos (by omega)] at q;exact q
   walk_at "ev";rw [if_neg (by omega)] at q;walk_at "nx";exact q
 | put h t f s=>
  have ed:H dd=some (.tup [.str "put",.int h,.int t,.int f,.int s]):=ed;walk_at "ev";walk_at "tx";walk_at "nx";walk_at "nx";walk_at "t5";rw [i5 "put" false];walk_at "ev";have ed:=s1 _ _ ed;have so:=so.same s1;walk_at "tx";walk_at "nx";obtain ⟨x,hx,hxs,hxl⟩:=Ze7 (od.1);obtain ⟨ra,hra,tra,ora⟩:=so.row hx;refine ⟨_,_,rfl,so.rows,?_⟩;walk_at "ev";walk_at "tx";refine Zbe (SqL.of so.orr) (Zal (v:=.ref ra) (by rw [List.getElem?_map,hra];rfl)) ?_;walk_at "ev";refine Zbe (SqL.of ora) (Zal (v:=oV (rowS S h t)) (by rw [List.getElem?_map,hxs];rfl)) ?_;walk_at "ev";have q:=q H1 s1;cases hr:rowS S h t with
  | none=>
   rw [show oV none=V.non from rfl];walk_at "ev";rw [show dueW S (.put h t f s)="empty" from by show fldW S (rowS S h t) f=_;rw [hr];rfl] at q;exact q
  | some b=>
   rw [show oV (some b)=V.int b from rfl];walk_at "ev";obtain ⟨i,c,rfl,hc,hcS⟩:=wf.at (od.1) hr;obtain ⟨p,hp,t1,t2,o1,o2⟩:=so.cell hc;walk_at "nx";walk_at "yx";walk_at "tx";refine ⟨_,_,rfl,so.cells,?_⟩;walk_at "ev";refine ⟨_,_,rfl,so.cellD hp,?_⟩;walk_at "ev";refine Zbe (SqL.of o1) (Zal (j:=2) (v:=.ref p.2) rfl) ?_;walk_at "ev";refine Zhl (SqL.of o2) ?_;rw [List.length_map];walk_at "ev";have qe:dueW S (.put h t f s)=(if c.fl.length≤f then ("field":Str) else ("":Str)):=by
    show fldW S (rowS S h t) f=_;rw [hr];show (match Zej S ((i:Int) + 1) with | none=>_ | some c=>_)=_;rw [hcS]
   rw [qe] at q;refine ifd (fun z=>?_) (fun z=>?_)
   ·walk_at "ev";rw [if_pos (by omega)] at q;exact q
   walk_at "ev";rw [if_neg (by omega)] at q;exact q
 | copy h s t=>
  have ed:H dd=some (.tup [.str "copy",.int h,.int s,.int t]):=ed;walk_at "ev";walk_at "tx";walk_at "nx";walk_at "nx";walk_at "t5";rw [i5 "copy" true];walk_at "ev";have:=q H1 s1;exact this
 | drop h s=>
  have ed:H dd=some (.tup [.str "drop",.int h,.int s]):=ed;walk_at "ev";walk_at "tx";walk_at "nx";walk_at "nx";walk_at "t5";rw [i5 "drop" true];walk_at "ev";have:=q H1 s1;exact this
 | give h s g t=>
  have ed:H dd=some (.tup [.str "give",.int h,.int s,.int g,.int t]):=ed;walk_at "ev";walk_at "tx";walk_at "nx";walk_at "nx";walk_at "t5";rw [i5 "give" true];walk_at "ev";have:=q H1 s1;exact this
 | write h t l=>
  have ed:H dd=some (.tup [.str "write",.int h,.int t,.int l]):=ed;walk_at "ev";walk_at "tx";walk_at "nx";walk_at "nx";walk_at "t5";rw [i5 "write" false];walk_at "ev";have ed:=s1 _ _ ed;have so:=so.same s1;walk_at "tx";walk_at "nx";obtain ⟨x,hx,hxs,hxl⟩:=Ze7 (od);obtain ⟨ra,hra,tra,ora⟩:=so.row hx;refine ⟨_,_,rfl,so.rows,?_⟩;walk_at "ev";walk_at "tx";refine Zbe (SqL.of so.orr) (Zal (v:=.ref ra) (by rw [List.getElem?_map,hra];rfl)) ?_;walk_at "ev";refine Zbe (SqL.of ora) (Zal (v:=oV (rowS S h t)) (by rw [List.getElem?_map,hxs];rfl)) ?_;walk_at "ev";have q:=q H1 s1;cases hr:rowS S h t with
  | none=>
   rw [show oV none=V.non from rfl];walk_at "ev";rw [show dueW S (.write h t l)="empty" from by show emW (rowS S h t)=_;rw [hr];rfl] at q;exact q
  | some b=>
   rw [show oV (some b)=V.int b from rfl];walk_at "ev";walk_at "nx";walk_at "nx";rw [show dueW S (.write h t l)="" from by show emW (rowS S h t)=_;rw [hr];rfl] at q;exact q
 | read h t=>
  have ed:H dd=some (.tup [.str "read",.int h,.int t]):=ed;walk_at "ev";walk_at "tx";walk_at "nx";walk_at "nx";walk_at "t5";rw [i5 "read" false];walk_at "ev";have ed:=s1 _ _ ed;have so:=so.same s1;walk_at "tx";walk_at "nx";obtain ⟨x,hx,hxs,hxl⟩:=Ze7 (od);obtain ⟨ra,hra,tra,ora⟩:=so.row hx;refine ⟨_,_,rfl,so.rows,?_⟩;walk_at "ev";walk_at "tx";refine Zbe (SqL.of so.orr) (Zal (v:=.ref ra) (by rw [List.getElem?_map,hra];rfl)) ?_;walk_at "ev";refine Zbe (SqL.of ora) (Zal (v:=oV (rowS S h t)) (by rw [List.getElem?_map,hxs];rfl)) ?_;walk_at "ev";have q:=q H1 s1;cases hr:rowS S h t with
  | none=>
   rw [show oV none=V.non from rfl];walk_at "ev";rw [show dueW S (.read h t)="empty" from by show emW (rowS S h t)=_;rw [hr];rfl] at q;exact q
  | some b=>
   rw [show oV (some b)=V.int b from rfl];walk_at "ev";walk_at "nx";walk_at "nx";rw [show dueW S (.read h t)="" from by show emW (rowS S h t)=_;rw [hr];rfl] at q;exact q
 | name h t z=>
  have ed:H dd=some (.tup [.str "name",.int h,.int t,.str z]):=ed;walk_at "ev";walk_at "tx";walk_at "nx";walk_at "nx";walk_at "t5";rw [i5 "name" false];walk_at "ev";have ed:=s1 _ _ ed;have so:=so.same s1;walk_at "tx";walk_at "nx";obtain ⟨x,hx,hxs,hxl⟩:=Ze7 (od);obtain ⟨ra,hra,tra,ora⟩:=so.row hx;refine ⟨_,_,rfl,so.rows,?_⟩;walk_at "ev";walk_at "tx";refine Zbe (SqL.of so.orr) (Zal (v:=.ref ra) (by rw [List.getElem?_map,hra];rfl)) ?_;walk_at "ev";refine Zbe (SqL.of ora) (Zal (v:=oV (rowS S h t)) (by rw [List.getElem?_map,hxs];rfl)) ?_;walk_at "ev";have q:=q H1 s1;cases hr:rowS S h t with
  | none=>
   rw [show oV none=V.non from rfl];walk_at "ev";rw [show dueW S (.name h t z)="empty" from by show emW (rowS S h t)=_;rw [hr];rfl] at q;exact q
  | some b=>
   rw [show oV (some b)=V.int b from rfl];walk_at "ev";walk_at "nx";walk_at "nx";rw [show dueW S (.name h t z)="" from by show emW (rowS S h t)=_;rw [hr];rfl] at q;exact q
 | seek h s z=>
  have ed:H dd=some (.tup [.str "seek",.int h,.int s,.str z]):=ed;walk_at "ev";walk_at "tx";walk_at "nx";walk_at "yx";walk_at "tx";refine ⟨_,_,rfl,so.words,?_⟩;walk_at "ev";refine ⟨_,_,rfl,DGet.k (k:=Sum.inr z) so.ow,?_⟩;rw [ZJ2,show ((((S.words.find? fun m=>decide (m.1=z)).map (·.2)).map V.int).isSome)=(Zlk S z).isSome from by unfold Zlk;cases (S.words.find? fun m=>decide (m.1=z))<;>rfl];cases hw:(Zlk S z).isSome with
  | false=>
   walk_at "ev";have:=q H (Same.refl _);rw [show dueW S (.seek h s z)="name" from by show (if _ then _ else _)=_;rw [if_neg (by rw [hw];decide)]] at this;exact this
  | true=>
  walk_at "ev";walk_at "t5";rw [i5 "seek" true];walk_at "ev";have:=q H1 s1;rw [show dueW S (.seek h s z)="" from by show (if _ then _ else _)=_;rw [if_pos hw]] at this;exact this
end
local macro_rules | `(tactic| walk_at "nx")=>`(tactic| (refine ifd (fun z=>absurd z (by decide)) (fun _=>?_);walk_at "ev"))
local macro_rules | `(tactic| walk_at "yx")=>`(tactic| (refine ifd (fun _=>?_) (fun z=>absurd rfl z);walk_at "ev"))
local macro_rules | `(tactic| walk_at "tx")=>`(tactic| (refine ⟨_,_,_,_,rfl,rfl,SqT.of (by assumption),rfl,?_⟩;walk_at "ev"))
structure ThQ (d dd:Addr) (H:Hp) (P:Deed→Prop) (Q:VK):Prop where
 h:∃ T r A S dl,P dl∧WT H T∧r≠0∧StO H T r A S∧A.d=d∧H dd=some (.tup (dV dl))∧T dd=(0,0)∧okDS S dl∧WfS S∧S.born=(S.cells.length:Int)∧S.cells.length≤1000∧S.words.length≤1000∧dueW S dl=""∧∀ H' T' A',StT r H H' T T'→StO H' T' r A' (thS S dl).2→A'.d=d→Q (oV (thS S dl).1) H'
def Ztr:Sp:=fun vs H Q E=>∃ d dd,vs=[.ref d,.ref dd]∧ThQ d dd H Zs0 Q
def ZKn (d:Deed):Prop:=(∃ h s t f,d=.get h s t f)∨(∃ h s t,d=.copy h s t)∨(∃ h s,d=.drop h s)∨∃ h s g t,d=.give h s g t
def Zzk (K:PySem.W.Frag):Sp:=fun vs H Q E=>∃ d dd,vs=[.ref d,.ref dd]∧ThQ d dd H ZKn Q
def Zzg (K:PySem.W.Frag):Sp:=fun vs H Q E=>∃ d dd,vs=[.ref d,.ref dd]∧ThQ d dd H (fun _=>True) Q
section
variable {K:PySem.W.Frag}{H:Hp}{Q:VK}{E:XK}{n:St→Hp→Prop}{bk ct:St→Hp→Prop}
theorem ZSv (k:Nat):(List.replicate k [V.non]).flatten=List.replicate k V.non:=by
 induction k with
 | zero=>rfl
 | succ k ih=>rw [List.replicate_succ,List.replicate_succ,List.flatten_cons,ih];rfl
theorem rowN {σ:St}{tn:TE}{m:Int} (h0:0≤m) (h1:m≤1000) (ht:∀ H' (k:VK),Same H H'→k (.int m) H'→tn σ H' k) (k:∀ r H',H r=none→Same H H'→H' r=some (.lst ((List.replicate m.toNat (none:Option Int)).map oV))→Q (.ref r) H'):tOp (rRep) (tLst (Za3 (tC .non) tNil)) tn σ H Q:=by
 walk_at "ev";refine ⟨by decide,fun l0 hl0=>?_⟩;have s1:=Zaf hl0 (.lst [V.non]);have g1:upd H l0 (.lst [V.non]) l0=some (.lst [V.non]):=Za2;generalize upd H l0 (.lst [V.non])=H1 at s1 g1 ⊢;refine ht _ _ s1 ?_;refine ⟨l0,m,_,rfl,rfl,g1,by omega,by omega,by show 1 * m.toNat≤sizeLine;exact Zat (by omega),fun r hr=>?_⟩;refine k r _ (s1.free hr) (s1.trans (Zaf hr _)) ?_;rw [Za2,ZSv,List.map_replicate];rfl
theorem kp0 {r:Nat}{H H':Hp}{T T':Tg} (st:StT r H H' T T') (n:r≠0) {b:Addr}{o:HO} (h:H b=some o) (t:T b=(0,0)):H' b=some o∧T' b=(0,0):=⟨st.kp b o h (by rw [t];exact fun w=>n w.symm),(st.tg b o h).trans t⟩
theorem Zux {d dd:Addr} (q:ThQ d dd H Zs0 Q):Zi9 K ⟨n,Q,bk,ct⟩ [some (.ref d),some (.ref dd),none] H:=by
 obtain ⟨T,r,A,S,dl,⟨h,s,many,bulk,rfl⟩,w,r0,so,rfl,ed,td,od,wf,eb,cl,wl,du,q⟩:=q.h;have ed:H dd=some (.tup [.str "make",.int h,.int s,.int many,.int bulk]):=ed;obtain ⟨os,m0,m1,b0⟩:=od;unfold Zi9;walk_at "ev";walk_at "tx";walk_at "tx";refine ⟨_,_,rfl,so.used,?_⟩;walk_at "ev";refine ⟨_,_,rfl,zwr2 (i:=1) so.od rfl (by decide +kernel) rfl (by decide),?_⟩;obtain ⟨st1,s1⟩:=so.setU w (S.used + (1 + many + bulk));show tSeq _ _ _ _ (upd H A.d (.dK (zK stN (stV S.room (S.used + (1 + many + bulk)) S.born A.lr A.dc A.dw))));generalize upd H A.d (.dK (zK stN (stV S.room (S.used + (1 + many + bulk)) S.born A.lr A.dc A.dw)))=H1 at st1 s1 ⊢;obtain ⟨ed1,td1⟩:=kp0 st1 r0 ed td;walk_at "ev";refine ⟨_,_,rfl,s1.born,?_⟩;walk_at "ev";refine ⟨_,_,rfl,zwr2 (i:=2) s1.od rfl (by decide +kernel) rfl (by decide),?_⟩;obtain ⟨st2,s2⟩:=s1.setB st1.wt (S.born + 1);show tSeq _ _ _ _ (upd H1 A.d (.dK (zK stN (stV S.room (S.used + (1 + many + bulk)) (S.born + 1) A.lr A.dc A.dw))));generalize upd H1 A.d (.dK (zK stN (stV S.room (S.used + (1 + many + bulk)) (S.born + 1) A.lr A.dc A.dw)))=H2 at st2 s2 ⊢;obtain ⟨ed2,td2⟩:=kp0 st2 r0 ed1 td1;clear ed ed1;refine ZP3 ?_;walk_at "es";refine rowN (m:=many) m0 m1 (fun H' k sm hk=>by
  have ed':=sm _ _ ed2;walk_at "ev";walk_at "tx";exact hk) fun fa H3 nfa s3 ofa=>?_
 walk_at "es";refine ⟨Zat (by simp),fun pa npa=>?_⟩;have s4:=Zaf npa (.lst [.int (1 + many + bulk),.int 0,.ref fa]);have opa:upd H3 pa (.lst [.int (1 + many + bulk),.int 0,.ref fa]) pa=some (.lst [.int (1 + many + bulk),.int 0,.ref fa]):=Za2;have nef:pa≠fa:=(Za5 ofa npa).symm;have npa2:=s3.free npa;have ofa:=s4 _ _ ofa;generalize upd H3 pa (.lst [.int (1 + many + bulk),.int 0,.ref fa])=H4 at s4 opa ofa ⊢;have s24:=s3.trans s4;have so4:=s2.same s24;walk_at "es";refine ⟨_,_,rfl,so4.cells,?_⟩;walk_at "es";refine ⟨_,_,rfl,so4.born,?_⟩;have lcs:A.cs.length=S.cells.length:=so.cl;have ecs:(A.cs.length:Int) + 1=S.born + 1:=by rw [lcs,eb]
 refine ⟨_,_,rfl,DPut.k (k:=Sum.inl (S.born + 1)) so4.oc (by rw [ZLj];exact Nat.lt_of_le_of_lt (show _≤1000 by omega) (by decide)),?_⟩;rw [ZFq _ (ZN5 (by show (A.cs.length:Int) < S.born + 1;omega)),← ecs,← ZN4 A.cs (pa,fa)];obtain ⟨T5,st5,so5,_⟩:=s2.addC st2.wt (p:=(pa,fa)) (c:=⟨1 + many + bulk,0,List.replicate many.toNat none⟩) s24 npa2 nfa nef opa ofa;generalize upd H4 A.dc (.dK (ceK (A.cs ++ [(pa,fa)])))=H5 at st5 so5 ⊢;have st05:=st1.trans (st2.trans st5);obtain ⟨ed5,td5⟩:=kp0 st5 r0 ed2 td2;walk_at "ev";refine ⟨_,_,rfl,so5.born,?_⟩;walk_at "ev";obtain ⟨x,hx,hxs,hxl⟩:=Ze7 os;have hx5:({ S with used:=S.used + (1 + many + bulk),born:=S.born + 1,cells:=S.cells ++ [⟨1 + many + bulk,0,List.replicate many.toNat none⟩] }:Sto).rows[h]? =some x:=hx;obtain ⟨ra,hra,tra,ora⟩:=so5.row hx5;refine ⟨_,_,rfl,so5.rows,?_⟩;walk_at "ev";walk_at "tx";refine Zbe (SqL.of so5.orr) (Zal (v:=.ref ra) (by rw [List.getElem?_map,hra];rfl)) ?_;walk_at "ev";walk_at "tx";refine ⟨ra,_,_,s,rfl,rfl,ora,Zfh (by rw [List.length_map];exact hxl),?_⟩;obtain ⟨st6,so6⟩:=so5.setR st5.wt (k:=s) (y:=some (S.born + 1)) hra hx5;show tRet _ _ _ (upd H5 ra (.lst ((x.map oV).set s (oV (some (S.born + 1))))));generalize upd H5 ra (.lst ((x.map oV).set s (oV (some (S.born + 1)))))=H6 at st6 so6 ⊢;walk_at "ev";refine ⟨_,_,rfl,so6.born,?_⟩;refine q _ _ { A with cs:=A.cs ++ [(pa,fa)] } (st05.trans st6) ?_ rfl;show StO H6 T5 r _ (Zf5 _ h s (some (S.born + 1)));rw [Zi7 hx5];exact so6
theorem Zzd {d dd:Addr} (q:ThQ d dd H ZKn Q):Zki K ⟨n,Q,bk,ct⟩ [some (.ref d),some (.ref dd),none,none] H:=by
 obtain ⟨T,r,A,S,dl,hP,w,r0,so,rfl,ed,td,od,wf,eb,cl,wl,du,q⟩:=q.h;unfold Zki;rcases hP with ⟨h,s,t,f,rfl⟩ | ⟨h,s,t,rfl⟩ | ⟨h,s,rfl⟩ | ⟨h,s,g,t,rfl⟩
 ·have ed:H dd=some (.tup [.str "get",.int h,.int s,.int t,.int f]):=ed;obtain ⟨os,ot⟩:=od;obtain ⟨x,hx,hxt,hxl⟩:=Ze7 ot;obtain ⟨x',hx',hxs,hxl'⟩:=Ze7 os;rw [hx] at hx';cases hx';obtain ⟨ra,hra,tra,ora⟩:=so.row hx;have hdu:fldW S (rowS S h t) f="":=du;obtain ⟨b,hb⟩:∃ b,rowS S h t=some b:=by
   cases e:rowS S h t with
   | none=>rw [e] at hdu;exact absurd hdu (by show ¬ ("empty":Str)="";decide)
   | some b=>exact ⟨b,rfl⟩
  obtain ⟨i,c,rfl,hc,hcS⟩:=wf.at ot hb;have hf:f < c.fl.length:=by
   rw [hb] at hdu;have hdu:(match Zej S ((i:Int) + 1) with | none=>("":Str) | some c=>if c.fl.length≤f then ("field":Str) else ("":Str))=("":Str):=hdu;rw [hcS] at hdu
   by_cases z:c.fl.length≤f
   ·have hdu:(if c.fl.length≤f then ("field":Str) else ("":Str))="":=hdu;rw [if_pos z] at hdu;exact absurd hdu (by decide)
   ·omega
  have hfl:c.fl[f]? =some c.fl[f]:=List.getElem?_eq_getElem hf;obtain ⟨p,hp,t1,t2,o1,o2⟩:=so.cell hc;have ev:(((rowS S h t).bind (Zej S)).bind fun c=>c.fl[f]?).join=c.fl[f]:=by
   rw [hb];show (((Zej S ((i:Int) + 1))).bind fun c=>c.fl[f]?).join=_;rw [hcS];show (c.fl[f]?).join=_;rw [hfl];rfl
  walk_at "ev";refine ⟨_,_,rfl,so.rows,?_⟩;walk_at "ev";walk_at "tx";refine Zbe (SqL.of so.orr) (Zal (v:=.ref ra) (by rw [List.getElem?_map,hra];rfl)) ?_;walk_at "ev";walk_at "tx";walk_at "yx";refine ⟨_,_,rfl,so.cells,?_⟩;walk_at "ev";walk_at "tx";refine Zbe (SqL.of ora) (Zal (v:=oV (rowS S h t)) (by rw [List.getElem?_map,hxt];rfl)) ?_;rw [hb];refine ⟨_,_,rfl,so.cellD hp,?_⟩;walk_at "ev";refine Zbe (SqL.of o1) (Zal (j:=2) (v:=.ref p.2) rfl) ?_;walk_at "ev";walk_at "tx";refine Zbe (SqL.of o2) (Zal (v:=oV c.fl[f]) (by rw [List.getElem?_map,hfl];rfl)) ?_;walk_at "ev";walk_at "tx";refine ⟨ra,_,_,s,rfl,rfl,ora,Zfh (by rw [List.length_map];exact hxl'),?_⟩;obtain ⟨st1,so1⟩:=so.setR w (k:=s) (y:=c.fl[f]) hra hx;have ed1:=(kp0 st1 r0 ed td).1;generalize upd H ra (.lst ((x.map oV).set s (oV c.fl[f])))=H1 at st1 so1 ed1 ⊢;obtain ⟨_,o3⟩:=so1.rr h ra (x.set s c.fl[f]) hra (by show (S.rows.set h _)[h]? =_;rw [List.getElem?_set_self (List.getElem?_eq_some_iff.mp hx).1]);walk_at "ev";walk_at "tx";refine Zbe (SqL.of o3) (Zal (v:=oV c.fl[f]) (by rw [List.getElem?_map,List.getElem?_set_self hxl'];rfl)) ?_;have q1:=q H1 T A st1 (by
   show StO H1 T r A (Zf5 S h s _);rw [ev,Zi7 hx];exact so1) rfl
  rw [show (thS S (.get h s t f)).1=c.fl[f] from ev] at q1;exact q1
 ·have ed:H dd=some (.tup [.str "copy",.int h,.int s,.int t]):=ed;obtain ⟨os,ot⟩:=od;obtain ⟨x,hx,hxt,hxl⟩:=Ze7 ot;obtain ⟨x',hx',hxs,hxl'⟩:=Ze7 os;rw [hx] at hx';cases hx';obtain ⟨ra,hra,tra,ora⟩:=so.row hx;walk_at "ev";refine ⟨_,_,rfl,so.rows,?_⟩;walk_at "ev";walk_at "tx";refine Zbe (SqL.of so.orr) (Zal (v:=.ref ra) (by rw [List.getElem?_map,hra];rfl)) ?_;walk_at "ev";walk_at "tx";walk_at "nx";walk_at "tx";walk_at "yx";walk_at "tx";refine Zbe (SqL.of ora) (Zal (v:=oV (rowS S h t)) (by rw [List.getElem?_map,hxt];rfl)) ?_;walk_at "ev";walk_at "tx";refine ⟨ra,_,_,s,rfl,rfl,ora,Zfh (by rw [List.length_map];exact hxl'),?_⟩;obtain ⟨st1,so1⟩:=so.setR w (k:=s) (y:=rowS S h t) hra hx;have ed1:=(kp0 st1 r0 ed td).1;generalize upd H ra (.lst ((x.map oV).set s (oV (rowS S h t))))=H1 at st1 so1 ed1 ⊢;obtain ⟨_,o3⟩:=so1.rr h ra (x.set s (rowS S h t)) hra (by show (S.rows.set h _)[h]? =_;rw [List.getElem?_set_self (List.getElem?_eq_some_iff.mp hx).1]);walk_at "ev";walk_at "tx";refine Zbe (SqL.of o3) (Zal (v:=oV (rowS S h t)) (by rw [List.getElem?_map,List.getElem?_set_self hxl'];rfl)) ?_;exact q H1 T A st1 (by
   show StO H1 T r A (Zf5 S h s _);rw [Zi7 hx];exact so1) rfl
 ·have ed:H dd=some (.tup [.str "drop",.int h,.int s]):=ed;obtain ⟨x,hx,hxs,hxl⟩:=Ze7 od;obtain ⟨ra,hra,tra,ora⟩:=so.row hx;walk_at "ev";refine ⟨_,_,rfl,so.rows,?_⟩;walk_at "ev";walk_at "tx";refine Zbe (SqL.of so.orr) (Zal (v:=.ref ra) (by rw [List.getElem?_map,hra];rfl)) ?_;walk_at "ev";walk_at "tx";walk_at "nx";walk_at "tx";walk_at "nx";walk_at "tx";walk_at "yx";walk_at "tx";refine Zbe (SqL.of ora) (Zal (v:=oV (rowS S h s)) (by rw [List.getElem?_map,hxs];rfl)) ?_;walk_at "ev";walk_at "tx";refine ⟨ra,_,_,s,rfl,rfl,ora,Zfh (by rw [List.length_map];exact hxl),?_⟩;obtain ⟨st1,so1⟩:=so.setR w (k:=s) (y:=none) hra hx;show tRet _ _ _ (upd H ra (.lst ((x.map oV).set s (oV none))));generalize upd H ra (.lst ((x.map oV).set s (oV none)))=H1 at st1 so1 ⊢;walk_at "ev";exact q H1 T A st1 (by
   show StO H1 T r A (Zf5 S h s _);rw [Zi7 hx];exact so1) rfl
 ·have ed:H dd=some (.tup [.str "give",.int h,.int s,.int g,.int t]):=ed;obtain ⟨os,ot⟩:=od;obtain ⟨x,hx,hxs,hxl⟩:=Ze7 os;obtain ⟨x',hx',hxt,hxl'⟩:=Ze7 ot;obtain ⟨ra,hra,tra,ora⟩:=so.row hx;obtain ⟨rb,hrb,trb,orb⟩:=so.row hx';walk_at "ev";refine ⟨_,_,rfl,so.rows,?_⟩;walk_at "ev";walk_at "tx";refine Zbe (SqL.of so.orr) (Zal (v:=.ref ra) (by rw [List.getElem?_map,hra];rfl)) ?_;walk_at "ev";walk_at "tx";walk_at "nx";walk_at "tx";walk_at "nx";walk_at "tx";walk_at "nx";walk_at "tx";refine Zbe (SqL.of ora) (Zal (v:=oV (rowS S h s)) (by rw [List.getElem?_map,hxs];rfl)) ?_;walk_at "ev";refine ⟨_,_,rfl,so.rows,?_⟩;walk_at "ev";walk_at "tx";refine Zbe (SqL.of so.orr) (Zal (v:=.ref rb) (by rw [List.getElem?_map,hrb];rfl)) ?_;walk_at "ev";walk_at "tx";refine ⟨rb,_,_,t,rfl,rfl,orb,Zfh (by rw [List.length_map];exact hxl'),?_⟩;obtain ⟨st1,so1⟩:=so.setR w (k:=t) (y:=rowS S h s) hrb hx';have ed1:=(kp0 st1 r0 ed td).1;generalize upd H rb (.lst ((x'.map oV).set t (oV (rowS S h s))))=H1 at st1 so1 ed1 ⊢;have hsame:∃ y,(S.rows.set g (x'.set t (rowS S h s)))[h]? =some y∧y[s]? =some (rowS S h s):=by
   by_cases e:g=h
   ·subst e;rw [hx] at hx';cases hx';refine ⟨_,List.getElem?_set_self (List.getElem?_eq_some_iff.mp hx).1,?_⟩
    by_cases e2:t=s
    ·subst e2;rw [List.getElem?_set_self hxl]
    ·rw [List.getElem?_set_ne e2];exact hxs
   ·exact ⟨x,by rw [List.getElem?_set_ne e];exact hx,hxs⟩
  obtain ⟨y,hy,hys⟩:=hsame;obtain ⟨_,o3⟩:=so1.rr h ra y hra hy;walk_at "ev";walk_at "tx";refine Zbe (SqL.of o3) (Zal (v:=oV (rowS S h s)) (by rw [List.getElem?_map,hys];rfl)) ?_;exact q H1 T A st1 (by
   show StO H1 T r A (Zf5 S g t _);rw [Zi7 hx'];exact so1) rfl
end
local macro_rules | `(tactic| walk_at "nx")=>`(tactic| (refine ifd (fun z=>absurd z (by decide)) (fun _=>?_);walk_at "ev"))
local macro_rules | `(tactic| walk_at "yx")=>`(tactic| (refine ifd (fun _=>?_) (fun z=>absurd rfl z);walk_at "ev"))
local macro_rules | `(tactic| walk_at "tx")=>`(tactic| (refine ⟨_,_,_,_,rfl,rfl,SqT.of (by assumption),rfl,?_⟩;walk_at "ev"))
section
variable {K:PySem.W.Frag}{H:Hp}{Q:VK}{E:XK}{n:St→Hp→Prop}{bk ct:St→Hp→Prop}
theorem Zz5 {o:Option Int} (h:emW o=""):∃ b,o=some b:=by
 cases o with
 | none=>exact absurd h (by show ¬ ("empty":Str)="";decide)
 | some b=>exact ⟨b,rfl⟩
theorem ZKw {S:Sto}{o:Option Int}{f:Nat} (h:fldW S o f=""):∃ b,o=some b:=by
 cases o with
 | none=>exact absurd h (by show ¬ ("empty":Str)="";decide)
 | some b=>exact ⟨b,rfl⟩
theorem ZMx {S:Sto}{b:Int}{c:Sc}{f:Nat} (h:fldW S (some b) f="") (hc:Zej S b=some c):f < c.fl.length:=by
 have h:(match Zej S b with | none=>("":Str) | some c=>if c.fl.length≤f then ("field":Str) else ("":Str))=("":Str):=h;rw [hc] at h
 by_cases z:c.fl.length≤f
 ·have h:(if c.fl.length≤f then ("field":Str) else ("":Str))=("":Str):=h;rw [if_pos z] at h;exact absurd h (by decide)
 ·omega
theorem Zz9 {d dd:Addr} (q:ThQ d dd H (fun _=>True) Q):Zkf K Ztr (Zzk K) ⟨n,Q,bk,ct⟩ [some (.ref d),some (.ref dd),none,none,none,none,none] H:=by
 obtain ⟨T,r,A,S,dl,_,w,r0,so,rfl,ed,td,od,wf,eb,cl,wl,du,q⟩:=q.h;unfold Zkf;cases dl with
 | make h s many bulk=>
  have ed':=ed;have ed:H dd=some (.tup [.str "make",.int h,.int s,.int many,.int bulk]):=ed;walk_at "ev";walk_at "tx";walk_at "yx";exact ⟨_,_,rfl,⟨T,r,A,S,_,⟨_,_,_,_,rfl⟩,w,r0,so,rfl,ed',td,od,wf,eb,cl,wl,du,q⟩⟩
 | get h s t f=>
  have ed':=ed;have ed:H dd=some (.tup [.str "get",.int h,.int s,.int t,.int f]):=ed;walk_at "ev";walk_at "tx";walk_at "nx";refine ⟨Zat (by simp),fun tp ntp=>?_⟩;have s1:=Zaf ntp (.tup [V.str "get",.str "copy",.str "drop",.str "give"]);have g1:upd H tp (.tup [V.str "get",.str "copy",.str "drop",.str "give"]) tp=some (.tup [V.str "get",.str "copy",.str "drop",.str "give"]):=Za2;generalize upd H tp (.tup [V.str "get",.str "copy",.str "drop",.str "give"])=H1 at s1 g1 ⊢;refine ⟨tp,_,rfl,.inr (SqT.of g1),rfl,rfl,?_⟩;rw [show (if false=true then !inV (V.str "get") [V.str "get",.str "copy",.str "drop",.str "give"] else inV (V.str "get") [V.str "get",.str "copy",.str "drop",.str "give"])=true from by decide +kernel];walk_at "ev";have ed:=s1 _ _ ed;have so:=so.same s1;have w:=w.same s1;have q:∀ H' T' A',StT r H1 H' T T'→StO H' T' r A' (thS S (.get h s t f)).2→A'.d=A.d→Q (oV (thS S (.get h s t f)).1) H':=fun H' T' A' st=>q H' T' A' ((StT.same ‹WT H T› s1).trans st);exact ⟨_,_,rfl,⟨T,r,A,S,_,.inl ⟨_,_,_,_,rfl⟩,w,r0,so,rfl,s1 _ _ ed',td,od,wf,eb,cl,wl,du,q⟩⟩
 | put h t f s=>
  have ed':=ed;have ed:H dd=some (.tup [.str "put",.int h,.int t,.int f,.int s]):=ed;walk_at "ev";walk_at "tx";walk_at "nx";refine ⟨Zat (by simp),fun tp ntp=>?_⟩;have s1:=Zaf ntp (.tup [V.str "get",.str "copy",.str "drop",.str "give"]);have g1:upd H tp (.tup [V.str "get",.str "copy",.str "drop",.str "give"]) tp=some (.tup [V.str "get",.str "copy",.str "drop",.str "give"]):=Za2;generalize upd H tp (.tup [V.str "get",.str "copy",.str "drop",.str "give"])=H1 at s1 g1 ⊢;refine ⟨tp,_,rfl,.inr (SqT.of g1),rfl,rfl,?_⟩;rw [show (if false=true then !inV (V.str "put") [V.str "get",.str "copy",.str "drop",.str "give"] else inV (V.str "put") [V.str "get",.str "copy",.str "drop",.str "give"])=false from by decide +kernel];walk_at "ev";have ed:=s1 _ _ ed;have so:=so.same s1;have w:=w.same s1;have q:∀ H' T' A',StT r H1 H' T T'→StO H' T' r A' (thS S (.put h t f s)).2→A'.d=A.d→Q (oV (thS S (.put h t f s)).1) H':=fun H' T' A' st=>q H' T' A' ((StT.same ‹WT H T› s1).trans st);have ot:=od.1;obtain ⟨x,hx,hxt,hxl⟩:=Ze7 ot;obtain ⟨ra,hra,tra,ora⟩:=so.row hx;obtain ⟨b,hb⟩:∃ b,rowS S h t=some b:=ZKw du;obtain ⟨i,c,rfl,hc,hcS⟩:=wf.at ot hb;obtain ⟨p,hp,t1,t2,o1,o2⟩:=so.cell hc;refine ⟨_,_,rfl,so.rows,?_⟩;walk_at "ev";walk_at "tx";refine Zbe (SqL.of so.orr) (Zal (v:=.ref ra) (by rw [List.getElem?_map,hra];rfl)) ?_;walk_at "ev";walk_at "nx";walk_at "tx";refine Zbe (SqL.of ora) (Zal (v:=oV (rowS S h t)) (by rw [List.getElem?_map,hxt];rfl)) ?_;rw [hb,show oV (some ((i:Int) + 1))=V.int ((i:Int) + 1) from rfl];walk_at "ev";refine ⟨_,_,rfl,so.cells,?_⟩;walk_at "ev";refine ⟨_,_,rfl,so.cellD hp,?_⟩;walk_at "ev";have hf:=ZMx (show fldW S (some ((i:Int) + 1)) f="" from by rw [← hb];exact du) hcS;have hfl:c.fl[f]? =some c.fl[f]:=List.getElem?_eq_getElem hf;obtain ⟨x',hx',hxs,hxl'⟩:=Ze7 od.2;rw [hx] at hx';cases hx';walk_at "yx";refine Zbe (SqL.of o1) (Zal (j:=2) (v:=.ref p.2) rfl) ?_;walk_at "ev";walk_at "tx";refine Zbe (SqL.of o2) (Zal (v:=oV c.fl[f]) (by rw [List.getElem?_map,hfl];rfl)) ?_;walk_at "ev";walk_at "tx";refine Zbe (SqL.of ora) (Zal (v:=oV (rowS S h s)) (by rw [List.getElem?_map,hxs];rfl)) ?_;walk_at "ev";refine Zbe (SqL.of o1) (Zal (j:=2) (v:=.ref p.2) rfl) ?_;walk_at "ev";walk_at "tx";refine ⟨p.2,_,_,f,rfl,rfl,o2,Zfh (by rw [List.length_map];exact hf),?_⟩;obtain ⟨st1,so1⟩:=so.setF w (k:=f) (y:=rowS S h s) hp hc;generalize upd H1 p.2 (.lst ((c.fl.map oV).set f (oV (rowS S h s))))=H2 at st1 so1 ⊢;walk_at "ev";have et:thS S (.put h t f s)=(c.fl[f],{ S with cells:=S.cells.set i { c with fl:=c.fl.set f (rowS S h s) } }):=by
   show (match rowS S h t with | none=>_ | some b=>_)=_;rw [hb];show (match Zej S ((i:Int) + 1) with | none=>_ | some c=>_)=_;rw [hcS];show ((c.fl[f]?).join,ZGw S ((i:Int) + 1) _)=_;rw [hfl];show (c.fl[f],{ S with cells:=S.cells.set (((i:Int) + 1 - 1).toNat) _ })=_;rw [show ((i:Int) + 1 - 1).toNat=i from by omega]
  have q1:=q H2 T A st1 (by rw [et];exact so1) rfl;rw [et] at q1;exact q1
 | copy h s t=>
  have ed':=ed;have ed:H dd=some (.tup [.str "copy",.int h,.int s,.int t]):=ed;walk_at "ev";walk_at "tx";walk_at "nx";refine ⟨Zat (by simp),fun tp ntp=>?_⟩;have s1:=Zaf ntp (.tup [V.str "get",.str "copy",.str "drop",.str "give"]);have g1:upd H tp (.tup [V.str "get",.str "copy",.str "drop",.str "give"]) tp=some (.tup [V.str "get",.str "copy",.str "drop",.str "give"]):=Za2;generalize upd H tp (.tup [V.str "get",.str "copy",.str "drop",.str "give"])=H1 at s1 g1 ⊢;refine ⟨tp,_,rfl,.inr (SqT.of g1),rfl,rfl,?_⟩;rw [show (if false=true then !inV (V.str "copy") [V.str "get",.str "copy",.str "drop",.str "give"] else inV (V.str "copy") [V.str "get",.str "copy",.str "drop",.str "give"])=true from by decide +kernel];walk_at "ev";have ed:=s1 _ _ ed;have so:=so.same s1;have w:=w.same s1;have q:∀ H' T' A',StT r H1 H' T T'→StO H' T' r A' (thS S (.copy h s t)).2→A'.d=A.d→Q (oV (thS S (.copy h s t)).1) H':=fun H' T' A' st=>q H' T' A' ((StT.same ‹WT H T› s1).trans st);exact ⟨_,_,rfl,⟨T,r,A,S,_,.inr (.inl ⟨_,_,_,rfl⟩),w,r0,so,rfl,s1 _ _ ed',td,od,wf,eb,cl,wl,du,q⟩⟩
 | drop h s=>
  have ed':=ed;have ed:H dd=some (.tup [.str "drop",.int h,.int s]):=ed;walk_at "ev";walk_at "tx";walk_at "nx";refine ⟨Zat (by simp),fun tp ntp=>?_⟩;have s1:=Zaf ntp (.tup [V.str "get",.str "copy",.str "drop",.str "give"]);have g1:upd H tp (.tup [V.str "get",.str "copy",.str "drop",.str "give"]) tp=some (.tup [V.str "get",.str "copy",.str "drop",.str "give"]):=Za2;generalize upd H tp (.tup [V.str "get",.str "copy",.str "drop",.str "give"])=H1 at s1 g1 ⊢;refine ⟨tp,_,rfl,.inr (SqT.of g1),rfl,rfl,?_⟩;rw [show (if false=true then !inV (V.str "drop") [V.str "get",.str "copy",.str "drop",.str "give"] else inV (V.str "drop") [V.str "get",.str "copy",.str "drop",.str "give"])=true from by decide +kernel];walk_at "ev";have ed:=s1 _ _ ed;have so:=so.same s1;have w:=w.same s1;have q:∀ H' T' A',StT r H1 H' T T'→StO H' T' r A' (thS S (.drop h s)).2→A'.d=A.d→Q (oV (thS S (.drop h s)).1) H':=fun H' T' A' st=>q H' T' A' ((StT.same ‹WT H T› s1).trans st);exact ⟨_,_,rfl,⟨T,r,A,S,_,.inr (.inr (.inl ⟨_,_,rfl⟩)),w,r0,so,rfl,s1 _ _ ed',td,od,wf,eb,cl,wl,du,q⟩⟩
 | give h s g t=>
  have ed':=ed;have ed:H dd=some (.tup [.str "give",.int h,.int s,.int g,.int t]):=ed;walk_at "ev";walk_at "tx";walk_at "nx";refine ⟨Zat (by simp),fun tp ntp=>?_⟩;have s1:=Zaf ntp (.tup [V.str "get",.str "copy",.str "drop",.str "give"]);have g1:upd H tp (.tup [V.str "get",.str "copy",.str "drop",.str "give"]) tp=some (.tup [V.str "get",.str "copy",.str "drop",.str "give"]):=Za2;generalize upd H tp (.tup [V.str "get",.str "copy",.str "drop",.str "give"])=H1 at s1 g1 ⊢;refine ⟨tp,_,rfl,.inr (SqT.of g1),rfl,rfl,?_⟩;rw [show (if false=true then !inV (V.str "give") [V.str "get",.str "copy",.str "drop",.str "give"] else inV (V.str "give") [V.str "get",.str "copy",.str "drop",.str "give"])=true from by decide +kernel];walk_at "ev";have ed:=s1 _ _ ed;have so:=so.same s1;have w:=w.same s1;have q:∀ H' T' A',StT r H1 H' T T'→StO H' T' r A' (thS S (.give h s g t)).2→A'.d=A.d→Q (oV (thS S (.give h s g t)).1) H':=fun H' T' A' st=>q H' T' A' ((StT.same ‹WT H T› s1).trans st);exact ⟨_,_,rfl,⟨T,r,A,S,_,.inr (.inr (.inr ⟨_,_,_,_,rfl⟩)),w,r0,so,rfl,s1 _ _ ed',td,od,wf,eb,cl,wl,du,q⟩⟩
 | write h t l=>
  have ed':=ed;have ed:H dd=some (.tup [.str "write",.int h,.int t,.int l]):=ed;walk_at "ev";walk_at "tx";walk_at "nx";refine ⟨Zat (by simp),fun tp ntp=>?_⟩;have s1:=Zaf ntp (.tup [V.str "get",.str "copy",.str "drop",.str "give"]);have g1:upd H tp (.tup [V.str "get",.str "copy",.str "drop",.str "give"]) tp=some (.tup [V.str "get",.str "copy",.str "drop",.str "give"]):=Za2;generalize upd H tp (.tup [V.str "get",.str "copy",.str "drop",.str "give"])=H1 at s1 g1 ⊢;refine ⟨tp,_,rfl,.inr (SqT.of g1),rfl,rfl,?_⟩;rw [show (if false=true then !inV (V.str "write") [V.str "get",.str "copy",.str "drop",.str "give"] else inV (V.str "write") [V.str "get",.str "copy",.str "drop",.str "give"])=false from by decide +kernel];walk_at "ev";have ed:=s1 _ _ ed;have so:=so.same s1;have w:=w.same s1;have q:∀ H' T' A',StT r H1 H' T T'→StO H' T' r A' (thS S (.write h t l)).2→A'.d=A.d→Q (oV (thS S (.write h t l)).1) H':=fun H' T' A' st=>q H' T' A' ((StT.same ‹WT H T› s1).trans st);have ot:=od;obtain ⟨x,hx,hxt,hxl⟩:=Ze7 ot;obtain ⟨ra,hra,tra,ora⟩:=so.row hx;obtain ⟨b,hb⟩:∃ b,rowS S h t=some b:=Zz5 du;obtain ⟨i,c,rfl,hc,hcS⟩:=wf.at ot hb;obtain ⟨p,hp,t1,t2,o1,o2⟩:=so.cell hc;refine ⟨_,_,rfl,so.rows,?_⟩;walk_at "ev";walk_at "tx";refine Zbe (SqL.of so.orr) (Zal (v:=.ref ra) (by rw [List.getElem?_map,hra];rfl)) ?_;walk_at "ev";walk_at "nx";walk_at "tx";refine Zbe (SqL.of ora) (Zal (v:=oV (rowS S h t)) (by rw [List.getElem?_map,hxt];rfl)) ?_;rw [hb,show oV (some ((i:Int) + 1))=V.int ((i:Int) + 1) from rfl];walk_at "ev";refine ⟨_,_,rfl,so.cells,?_⟩;walk_at "ev";refine ⟨_,_,rfl,so.cellD hp,?_⟩;walk_at "ev";walk_at "nx";walk_at "yx";refine Zbe (SqL.of o1) (Zal (j:=1) (v:=.int c.ld) rfl) ?_;walk_at "ev";walk_at "tx";refine ⟨p.1,_,_,1,rfl,rfl,o1,rfl,?_⟩;obtain ⟨st1,so1⟩:=so.setL w (l:=l) hp hc;show tRet _ _ _ (upd H1 p.1 (.lst [.int c.un,.int l,.ref p.2]));generalize upd H1 p.1 (.lst [.int c.un,.int l,.ref p.2])=H2 at st1 so1 ⊢;walk_at "ev";have et:thS S (.write h t l)=(some c.ld,{ S with cells:=S.cells.set i { c with ld:=l } }):=by
   show (match rowS S h t with | none=>_ | some b=>_)=_;rw [hb];show (match Zej S ((i:Int) + 1) with | none=>_ | some c=>_)=_;rw [hcS];show (some c.ld,{ S with cells:=S.cells.set (((i:Int) + 1 - 1).toNat) _ })=_;rw [show ((i:Int) + 1 - 1).toNat=i from by omega]
  have q1:=q H2 T A st1 (by rw [et];exact so1) rfl;rw [et] at q1;exact q1
 | read h t=>
  have ed':=ed;have ed:H dd=some (.tup [.str "read",.int h,.int t]):=ed;walk_at "ev";walk_at "tx";walk_at "nx";refine ⟨Zat (by simp),fun tp ntp=>?_⟩;have s1:=Zaf ntp (.tup [V.str "get",.str "copy",.str "drop",.str "give"]);have g1:upd H tp (.tup [V.str "get",.str "copy",.str "drop",.str "give"]) tp=some (.tup [V.str "get",.str "copy",.str "drop",.str "give"]):=Za2;generalize upd H tp (.tup [V.str "get",.str "copy",.str "drop",.str "give"])=H1 at s1 g1 ⊢;refine ⟨tp,_,rfl,.inr (SqT.of g1),rfl,rfl,?_⟩;rw [show (if false=true then !inV (V.str "read") [V.str "get",.str "copy",.str "drop",.str "give"] else inV (V.str "read") [V.str "get",.str "copy",.str "drop",.str "give"])=false from by decide +kernel];walk_at "ev";have ed:=s1 _ _ ed;have so:=so.same s1;have w:=w.same s1;have q:∀ H' T' A',StT r H1 H' T T'→StO H' T' r A' (thS S (.read h t)).2→A'.d=A.d→Q (oV (thS S (.read h t)).1) H':=fun H' T' A' st=>q H' T' A' ((StT.same ‹WT H T› s1).trans st);have ot:=od;obtain ⟨x,hx,hxt,hxl⟩:=Ze7 ot;obtain ⟨ra,hra,tra,ora⟩:=so.row hx;obtain ⟨b,hb⟩:∃ b,rowS S h t=some b:=Zz5 du;obtain ⟨i,c,rfl,hc,hcS⟩:=wf.at ot hb;obtain ⟨p,hp,t1,t2,o1,o2⟩:=so.cell hc;refine ⟨_,_,rfl,so.rows,?_⟩;walk_at "ev";walk_at "tx";refine Zbe (SqL.of so.orr) (Zal (v:=.ref ra) (by rw [List.getElem?_map,hra];rfl)) ?_;walk_at "ev";walk_at "nx";walk_at "tx";refine Zbe (SqL.of ora) (Zal (v:=oV (rowS S h t)) (by rw [List.getElem?_map,hxt];rfl)) ?_;rw [hb,show oV (some ((i:Int) + 1))=V.int ((i:Int) + 1) from rfl];walk_at "ev";refine ⟨_,_,rfl,so.cells,?_⟩;walk_at "ev";refine ⟨_,_,rfl,so.cellD hp,?_⟩;walk_at "ev";walk_at "nx";walk_at "nx";walk_at "yx";refine Zbe (SqL.of o1) (Zal (j:=1) (v:=.int c.ld) rfl) ?_;have et:thS S (.read h t)=(some c.ld,S):=by
   show (((rowS S h t).bind (Zej S)).map (·.ld),S)=_;rw [hb];show ((Zej S ((i:Int) + 1)).map (·.ld),S)=_;rw [hcS];rfl
  have q1:=q H1 T A (StT.refl w) (by rw [et];exact so) rfl;rw [et] at q1;exact q1
 | name h t z=>
  have ed':=ed;have ed:H dd=some (.tup [.str "name",.int h,.int t,.str z]):=ed;walk_at "ev";walk_at "tx";walk_at "nx";refine ⟨Zat (by simp),fun tp ntp=>?_⟩;have s1:=Zaf ntp (.tup [V.str "get",.str "copy",.str "drop",.str "give"]);have g1:upd H tp (.tup [V.str "get",.str "copy",.str "drop",.str "give"]) tp=some (.tup [V.str "get",.str "copy",.str "drop",.str "give"]):=Za2;generalize upd H tp (.tup [V.str "get",.str "copy",.str "drop",.str "give"])=H1 at s1 g1 ⊢;refine ⟨tp,_,rfl,.inr (SqT.of g1),rfl,rfl,?_⟩;rw [show (if false=true then !inV (V.str "name") [V.str "get",.str "copy",.str "drop",.str "give"] else inV (V.str "name") [V.str "get",.str "copy",.str "drop",.str "give"])=false from by decide +kernel];walk_at "ev";have ed:=s1 _ _ ed;have so:=so.same s1;have w:=w.same s1;have q:∀ H' T' A',StT r H1 H' T T'→StO H' T' r A' (thS S (.name h t z)).2→A'.d=A.d→Q (oV (thS S (.name h t z)).1) H':=fun H' T' A' st=>q H' T' A' ((StT.same ‹WT H T› s1).trans st);have ot:=od;obtain ⟨x,hx,hxt,hxl⟩:=Ze7 ot;obtain ⟨ra,hra,tra,ora⟩:=so.row hx;obtain ⟨b,hb⟩:∃ b,rowS S h t=some b:=Zz5 du;obtain ⟨i,c,rfl,hc,hcS⟩:=wf.at ot hb;obtain ⟨p,hp,t1,t2,o1,o2⟩:=so.cell hc;refine ⟨_,_,rfl,so.rows,?_⟩;walk_at "ev";walk_at "tx";refine Zbe (SqL.of so.orr) (Zal (v:=.ref ra) (by rw [List.getElem?_map,hra];rfl)) ?_;walk_at "ev";walk_at "nx";walk_at "tx";refine Zbe (SqL.of ora) (Zal (v:=oV (rowS S h t)) (by rw [List.getElem?_map,hxt];rfl)) ?_;rw [hb,show oV (some ((i:Int) + 1))=V.int ((i:Int) + 1) from rfl];walk_at "ev";refine ⟨_,_,rfl,so.cells,?_⟩;walk_at "ev";refine ⟨_,_,rfl,so.cellD hp,?_⟩;walk_at "ev";walk_at "nx";walk_at "nx";walk_at "nx";refine ⟨_,_,rfl,so.words,?_⟩;walk_at "ev";walk_at "tx";refine ⟨_,_,rfl,DPut.k (k:=Sum.inr z) so.ow (by unfold wdK;rw [List.length_map];exact Nat.lt_of_le_of_lt wl (by decide)),?_⟩;rw [ZO1];obtain ⟨st1,so1⟩:=so.setW w (putW S.words z ((i:Int) + 1));generalize upd H1 A.dw (.dK (wdK (putW S.words z ((i:Int) + 1))))=H2 at st1 so1 ⊢;walk_at "ev";have et:thS S (.name h t z)=(some ((i:Int) + 1),{ S with words:=putW S.words z ((i:Int) + 1) }):=by
   show (match rowS S h t with | none=>_ | some b=>_)=_;rw [hb]
  have q1:=q H2 T A st1 (by rw [et];exact so1) rfl;rw [et] at q1;exact q1
 | seek h s z=>
  have ed':=ed;have ed:H dd=some (.tup [.str "seek",.int h,.int s,.str z]):=ed;walk_at "ev";walk_at "tx";walk_at "nx";refine ⟨Zat (by simp),fun tp ntp=>?_⟩;have s1:=Zaf ntp (.tup [V.str "get",.str "copy",.str "drop",.str "give"]);have g1:upd H tp (.tup [V.str "get",.str "copy",.str "drop",.str "give"]) tp=some (.tup [V.str "get",.str "copy",.str "drop",.str "give"]):=Za2;generalize upd H tp (.tup [V.str "get",.str "copy",.str "drop",.str "give"])=H1 at s1 g1 ⊢;refine ⟨tp,_,rfl,.inr (SqT.of g1),rfl,rfl,?_⟩;rw [show (if false=true then !inV (V.str "seek") [V.str "get",.str "copy",.str "drop",.str "give"] else inV (V.str "seek") [V.str "get",.str "copy",.str "drop",.str "give"])=false from by decide +kernel];walk_at "ev";have ed:=s1 _ _ ed;have so:=so.same s1;have w:=w.same s1;have q:∀ H' T' A',StT r H1 H' T T'→StO H' T' r A' (thS S (.seek h s z)).2→A'.d=A.d→Q (oV (thS S (.seek h s z)).1) H':=fun H' T' A' st=>q H' T' A' ((StT.same ‹WT H T› s1).trans st);obtain ⟨x,hx,hxs,hxl⟩:=Ze7 od;obtain ⟨ra,hra,tra,ora⟩:=so.row hx;refine ⟨_,_,rfl,so.rows,?_⟩;walk_at "ev";walk_at "tx";refine Zbe (SqL.of so.orr) (Zal (v:=.ref ra) (by rw [List.getElem?_map,hra];rfl)) ?_;walk_at "ev";walk_at "yx";refine ⟨_,_,rfl,so.words,?_⟩;walk_at "ev";walk_at "tx";obtain ⟨b,hb⟩:∃ b,Zlk S z=some b:=by
   have du:(if (Zlk S z).isSome=true then ("":Str) else ("name":Str))=("":Str):=du;cases e:Zlk S z with
   | none=>rw [e] at du;exact absurd du (by decide)
   | some b=>exact ⟨b,rfl⟩
  have dg:=DGet.k (k:=Sum.inr z) so.ow;rw [ZJ2,show ((S.words.find? fun m=>decide (m.1=z)).map (·.2))=Zlk S z from rfl,hb] at dg;refine ⟨_,_,rfl,dg,?_⟩;walk_at "ev";walk_at "tx";refine ⟨ra,_,_,s,rfl,rfl,ora,Zfh (by rw [List.length_map];exact hxl),?_⟩;obtain ⟨st1,so1⟩:=so.setR w (k:=s) (y:=some b) hra hx;have ed1:=(kp0 st1 r0 ed td).1;show tRet _ _ _ (upd H1 ra (.lst ((x.map oV).set s (oV (some b)))));generalize upd H1 ra (.lst ((x.map oV).set s (oV (some b))))=H2 at st1 so1 ed1 ⊢;obtain ⟨_,o3⟩:=so1.rr h ra (x.set s (some b)) hra (by show (S.rows.set h _)[h]? =_;rw [List.getElem?_set_self (List.getElem?_eq_some_iff.mp hx).1]);walk_at "ev";walk_at "tx";refine Zbe (SqL.of o3) (Zal (v:=oV (some b)) (by rw [List.getElem?_map,List.getElem?_set_self hxl];rfl)) ?_;have q1:=q H2 T A st1 (by
   show StO H2 T r A (Zf5 S h s (Zlk S z));rw [hb,Zi7 hx];exact so1) rfl
  rw [show (thS S (.seek h s z)).1=some b from hb] at q1;exact q1
end
local macro_rules | `(tactic| walk_at "nx")=>`(tactic| (refine ifd (fun z=>absurd z (by decide)) (fun _=>?_);walk_at "ev"))
local macro_rules | `(tactic| walk_at "yx")=>`(tactic| (refine ifd (fun _=>?_) (fun z=>absurd rfl z);walk_at "ev"))
def ZMf (c:Int):Int:=if mixF c 16807 % 2=0 then -(c * 987654321 ^ Int.toNat 6 % 10 ^ Int.toNat 60) else c * 987654321 ^ Int.toNat 6 % 10 ^ Int.toNat 60
def ZGg:Sp:=fun vs H Q E=>∃ c,vs=[.int c]∧Builtin.Int.intBits c≤2 ^ 20∧Q (.int (ZMf c)) H
def fF (tri:Int):Int:=(([0,0,1,1,2,0,1,tri / 64 % 9]:List Int)[(tri / 8 % 8).toNat]?).getD 0
def bkF (c one:Int):Int:=(([0,1,0,3,0,c * 7654321 ^ Int.toNat 2 % (10 ^ Int.toNat 12 + 1)]:List Int)[(one / 18 % 6).toNat]?).getD 0
def mnF (tri:Int):Int:=(([0,1,2,3,2,1,2,8]:List Int)[(tri % 8).toNat]?).getD 0
def slF (sl:List Int) (i:Int):Int:=(sl[i.toNat]?).getD 3
def wsF (ws:List Str) (i:Int):Str:=(ws[i.toNat]?).getD ""
def ZN2 (c one two tri:Int) (sl:List Int) (ws:List Str):Deed:=
 if one % 18 < 5 then .make (two % sl.length).toNat (two / 5 % slF sl (two % sl.length)).toNat (mnF tri) (bkF c one)
 else if one % 18 < 8 then .put (two % sl.length).toNat (two / 45 % slF sl (two % sl.length)).toNat (fF tri).toNat (two / 5 % slF sl (two % sl.length)).toNat
 else if one % 18 < 11 then .get (two % sl.length).toNat (two / 5 % slF sl (two % sl.length)).toNat (two / 45 % slF sl (two % sl.length)).toNat (fF tri).toNat
 else if one % 18=11 then .copy (two % sl.length).toNat (two / 5 % slF sl (two % sl.length)).toNat (two / 45 % slF sl (two % sl.length)).toNat
 else if one % 18=12 then .drop (two % sl.length).toNat (two / 5 % slF sl (two % sl.length)).toNat
 else if one % 18=13 then .give (two % sl.length).toNat (two / 5 % slF sl (two % sl.length)).toNat (tri / 600 % sl.length).toNat (tri / 3000 % slF sl (tri / 600 % sl.length)).toNat
 else if one % 18=14 then .write (two % sl.length).toNat (two / 45 % slF sl (two % sl.length)).toNat (ZMf c)
 else if one % 18=15 then .read (two % sl.length).toNat (two / 45 % slF sl (two % sl.length)).toNat
 else if one % 18=16 then .name (two % sl.length).toNat (two / 45 % slF sl (two % sl.length)).toNat (wsF ws (tri % ws.length))
 else .seek (two % sl.length).toNat (two / 5 % slF sl (two % sl.length)).toNat (wsF ws (tri % ws.length))
def ZCp (c:Int) (sl:List Int) (ws:List Str):Deed:=ZN2 c (mixF c 48271) (mixF c 69621) (mixF c 16807) sl ws
structure SlOk (sl:List Int) (ws:List Str):Prop where
 a:1≤sl.length
 b:sl.length≤5
 c:∀ x∈sl,3≤x∧x≤9
 d:1≤ws.length
 e:ws.length≤100
def Zzm (K:PySem.W.Frag):Sp:=fun vs H Q E=>∃ c ls lw,vs=[.int c,.ref ls,.ref lw]∧∃ sl ws,H ls=some (.lst (sl.map V.int))∧H lw=some (.lst (ws.map V.str))∧Builtin.Int.intBits c≤2 ^ 20∧SlOk sl ws∧∀ a H',Same H H'→H a=none→H' a=some (.tup (dV (ZCp c sl ws)))→Q (.ref a) H'
section
variable {K:PySem.W.Frag}{H:Hp}{Q:VK}{E:XK}{n:St→Hp→Prop}{bk ct:St→Hp→Prop}
theorem ZD1 {c:Int} (q:Builtin.Int.intBits c≤2 ^ 20∧Q (.int (ZMf c)) H):Zm1 Zl0 ⟨n,Q,bk,ct⟩ [some (.int c),none] H:=by
 obtain ⟨hb,q⟩:=q;unfold Zm1;walk_at "ev";refine i_I (mulW _ hb (by decide)) ?_;walk_at "ev";refine ⟨_,_,rfl,by decide,by decide,fun z hz ez=>?_⟩;subst ez;unfold ZMf at q;walk_at "ev";refine ifd (fun e=>?_) (fun e=>?_)
 ·walk_at "ev";rw [if_pos e] at q;exact q
 ·walk_at "ev";rw [if_neg e] at q;exact q
theorem at_getD {l:List Int}{i:Int} (h0:0≤i) (h1:i < l.length) (d:Int):atI (l.map V.int) i=some (.int ((l[i.toNat]?).getD d)):=by
 have hk:i.toNat < l.length:=by omega
 rw [List.getElem?_eq_getElem hk];exact Zrh h0 (by rw [List.getElem?_map,List.getElem?_eq_getElem hk];rfl)
theorem ZLn {l:List Str}{i:Int} (h0:0≤i) (h1:i < l.length):atI (l.map V.str) i=some (.str (wsF l i)):=by
 have hk:i.toNat < l.length:=by omega
 unfold wsF;rw [List.getElem?_eq_getElem hk];exact Zrh h0 (by rw [List.getElem?_map,List.getElem?_eq_getElem hk];rfl)
theorem ZJg {sl:List Int}{ws:List Str} (o:SlOk sl ws) (i:Int):3≤slF sl i∧slF sl i≤9:=by
 unfold slF;cases e:sl[i.toNat]? with
 | none=>exact ⟨by decide,by decide⟩
 | some x=>exact o.c x (List.mem_of_getElem? e)
theorem ZD3 {c:Int}{ls lw:Addr} (q:∃ sl ws,H ls=some (.lst (sl.map V.int))∧H lw=some (.lst (ws.map V.str))∧Builtin.Int.intBits c≤2 ^ 20∧SlOk sl ws∧∀ a H',Same H H'→H a=none→H' a=some (.tup (dV (ZCp c sl ws)))→Q (.ref a) H'):
  Zm3 K ZGg Zl0 ⟨n,Q,bk,ct⟩ [some (.int c),some (.ref ls),some (.ref lw),none,none,none,none,none,none,none,none,none,none] H:=by
 obtain ⟨sl,ws,hs,hw,hb,o,q⟩:=q;have o1:=o.a;have o2:=o.d;unfold Zm3;unfold ZCp at q;walk_at "ev";refine ⟨_,_,rfl,by decide,by decide,fun one p1 e1=>?_⟩;rw [← e1] at q;walk_at "ev";refine ⟨_,_,rfl,by decide,by decide,fun two p2 e2=>?_⟩;rw [← e2] at q;walk_at "ev";refine ⟨_,_,rfl,by decide,by decide,fun tri p3 e3=>?_⟩;rw [← e3] at q;clear e1 e2 e3;walk_at "ev";refine Zhl (SqL.of hs) ?_;rw [List.length_map];have hl:(0:Int) < sl.length:=by omega
 refine ⟨_,_,rfl,rfl,hl,?_⟩;have h0:=Int.emod_nonneg two (show (sl.length:Int)≠0 by omega);have h1:=Int.emod_lt_of_pos two hl;have sb:=ZJg o (two % sl.length);walk_at "ev";refine Zbe (SqL.of hs) (at_getD h0 h1 3) ?_;refine ⟨_,_,rfl,rfl,by show 0 < slF sl (two % sl.length);omega,?_⟩;walk_at "ev";refine Zbe (SqL.of hs) (at_getD h0 h1 3) ?_;refine ⟨_,_,rfl,rfl,by show 0 < slF sl (two % sl.length);omega,?_⟩;walk_at "ev";refine ⟨Zat (by simp),fun l1 n1=>?_⟩;have s1:=Zaf n1 (.lst [.int 0,.int 0,.int 1,.int 1,.int 2,.int 0,.int 1,.int (tri / 64 % 9)]);have g1:upd H l1 (.lst [.int 0,.int 0,.int 1,.int 1,.int 2,.int 0,.int 1,.int (tri / 64 % 9)]) l1=some (.lst (([0,0,1,1,2,0,1,tri / 64 % 9]:List Int).map V.int)):=Za2;generalize upd H l1 (.lst [.int 0,.int 0,.int 1,.int 1,.int 2,.int 0,.int 1,.int (tri / 64 % 9)])=H1 at s1 g1 ⊢;walk_at "ev";refine Zbe (SqL.of g1) (at_getD (Int.emod_nonneg _ (by decide)) (by show tri / 8 % 8 < 8;exact Int.emod_lt_of_pos _ (by decide)) 0) ?_;have hs:=s1 _ _ hs;have hw:=s1 _ _ hw;have q:∀ a H',Same H1 H'→H1 a=none→H' a=some (.tup (dV (ZN2 c one two tri sl ws)))→Q (.ref a) H':=fun a H' s na=>q a H' (s1.trans s) (s1.free na);have ff:0≤fF tri:=by
  unfold fF;have a1:=Int.emod_nonneg (tri / 8) (show (8:Int)≠0 by decide);have a2:=Int.emod_lt_of_pos (tri / 8) (show (0:Int) < 8 by decide);have a3:=Int.emod_nonneg (tri / 64) (show (9:Int)≠0 by decide);have:(tri / 8 % 8).toNat=0∨(tri / 8 % 8).toNat=1∨(tri / 8 % 8).toNat=2∨(tri / 8 % 8).toNat=3∨(tri / 8 % 8).toNat=4∨(tri / 8 % 8).toNat=5∨(tri / 8 % 8).toNat=6∨(tri / 8 % 8).toNat=7:=by omega
  rcases this with e | e | e | e | e | e | e | e<;>rw [e]<;>first | exact (by decide:(0:Int)≤0) | exact (by decide:(0:Int)≤1) | exact (by decide:(0:Int)≤2) | exact a3
 have s0:=Int.emod_nonneg (two / 5) (show slF sl (two % sl.length)≠0 by omega);have t0:=Int.emod_nonneg (two / 45) (show slF sl (two % sl.length)≠0 by omega);show tSeq _ _ _ [some (.int c),some (.ref ls),some (.ref lw),some (.int one),some (.int two),some (.int tri),some (.int (two % sl.length)),some (.int (two / 5 % slF sl (two % sl.length))),some (.int (two / 45 % slF sl (two % sl.length))),some (.int (fF tri)),none,none,none] H1;have eh:V.int (two % sl.length)=V.int ((two % sl.length).toNat:Nat):=congrArg V.int (by omega);have es:V.int (two / 5 % slF sl (two % sl.length))=V.int ((two / 5 % slF sl (two % sl.length)).toNat:Nat):=congrArg V.int (by omega);have et:V.int (two / 45 % slF sl (two % sl.length))=V.int ((two / 45 % slF sl (two % sl.length)).toNat:Nat):=congrArg V.int (by omega);have ef:V.int (fF tri)=V.int ((fF tri).toNat:Nat):=congrArg V.int (by omega);generalize hgh:two % (sl.length:Int)=hh at *;generalize hgs:two / 5 % slF sl hh=ss at *;generalize hgt:two / 45 % slF sl hh=tt at *;generalize hgf:fF tri=fn at *;unfold ZN2 at q;rw [hgh,hgs,hgt,hgf] at q;clear hgh hgs hgt hgf h0 h1 sb;walk_at "ev";have wt0:=Int.emod_nonneg tri (show (ws.length:Int)≠0 by omega);have wt1:=Int.emod_lt_of_pos tri (show (0:Int) < ws.length by omega);refine ifd (fun k0=>?_) (fun k0=>?_)
 ·rw [if_pos k0] at q;walk_at "ev";refine i_I (mulW _ hb (by decide)) ?_;walk_at "ev";refine ⟨Zat (by simp),fun l2 n2=>?_⟩;have s2:=Zaf n2 (.lst [.int 0,.int 1,.int 0,.int 3,.int 0,.int (c * 7654321 ^ Int.toNat 2 % (10 ^ Int.toNat 12 + 1))]);have g2:upd H1 l2 (.lst [.int 0,.int 1,.int 0,.int 3,.int 0,.int (c * 7654321 ^ Int.toNat 2 % (10 ^ Int.toNat 12 + 1))]) l2=some (.lst (([0,1,0,3,0,c * 7654321 ^ Int.toNat 2 % (10 ^ Int.toNat 12 + 1)]:List Int).map V.int)):=Za2;generalize upd H1 l2 (.lst [.int 0,.int 1,.int 0,.int 3,.int 0,.int (c * 7654321 ^ Int.toNat 2 % (10 ^ Int.toNat 12 + 1))])=H2 at s2 g2 ⊢;walk_at "ev";refine Zbe (SqL.of g2) (at_getD (Int.emod_nonneg _ (by decide)) (by show one / 18 % 6 < 6;exact Int.emod_lt_of_pos _ (by decide)) 0) ?_;walk_at "ev";refine ⟨Zat (by simp),fun l3 n3=>?_⟩;have s3:=Zaf n3 (.lst [.int 0,.int 1,.int 2,.int 3,.int 2,.int 1,.int 2,.int 8]);have g3:upd H2 l3 (.lst [.int 0,.int 1,.int 2,.int 3,.int 2,.int 1,.int 2,.int 8]) l3=some (.lst (([0,1,2,3,2,1,2,8]:List Int).map V.int)):=Za2;generalize upd H2 l3 (.lst [.int 0,.int 1,.int 2,.int 3,.int 2,.int 1,.int 2,.int 8])=H3 at s3 g3 ⊢;walk_at "ev";refine Zbe (SqL.of g3) (at_getD (Int.emod_nonneg _ (by decide)) (by show tri % 8 < 8;exact Int.emod_lt_of_pos _ (by decide)) 0) ?_;walk_at "ev";refine ⟨Zat (by simp),fun a na=>q a _ ((s2.trans s3).trans (Zaf na _)) ((s2.trans s3).free na) ?_⟩;rw [Za2,eh,es];rfl
 rw [if_neg k0] at q;walk_at "ev";refine ifd (fun k1=>?_) (fun k1=>?_)
 ·rw [if_pos k1] at q;walk_at "ev";refine ⟨Zat (by simp),fun a na=>q a _ (Zaf na _) na ?_⟩;rw [Za2,eh,es,et,ef];rfl
 rw [if_neg k1] at q;walk_at "ev";refine ifd (fun k2=>?_) (fun k2=>?_)
 ·rw [if_pos k2] at q;walk_at "ev";refine ⟨Zat (by simp),fun a na=>q a _ (Zaf na _) na ?_⟩;rw [Za2,eh,es,et,ef];rfl
 rw [if_neg k2] at q;walk_at "ev";refine ifd (fun k3=>?_) (fun k3=>?_)
 ·rw [if_pos k3] at q;walk_at "ev";refine ⟨Zat (by simp),fun a na=>q a _ (Zaf na _) na ?_⟩;rw [Za2,eh,es,et];rfl
 rw [if_neg k3] at q;walk_at "ev";refine ifd (fun k4=>?_) (fun k4=>?_)
 ·rw [if_pos k4] at q;walk_at "ev";refine ⟨Zat (by simp),fun a na=>q a _ (Zaf na _) na ?_⟩;rw [Za2,eh,es];rfl
 rw [if_neg k4] at q;walk_at "ev";refine ifd (fun k5=>?_) (fun k5=>?_)
 ·rw [if_pos k5] at q;walk_at "ev";refine Zhl (SqL.of hs) ?_;rw [List.length_map];refine ⟨_,_,rfl,rfl,hl,?_⟩;have g0:=Int.emod_nonneg (tri / 600) (show (sl.length:Int)≠0 by omega);have g1':=Int.emod_lt_of_pos (tri / 600) hl;have gb:=ZJg o (tri / 600 % sl.length);walk_at "ev";refine Zbe (SqL.of hs) (at_getD g0 g1' 3) ?_;refine ⟨_,_,rfl,rfl,by show 0 < slF sl (tri / 600 % sl.length);omega,?_⟩;have u0:=Int.emod_nonneg (tri / 3000) (show slF sl (tri / 600 % sl.length)≠0 by omega);walk_at "ev";refine ⟨Zat (by simp),fun a na=>q a _ (Zaf na _) na ?_⟩;rw [Za2,eh,es];dsimp only;rw [show V.int (tri / 600 % sl.length)=V.int ((tri / 600 % sl.length).toNat:Nat) from congrArg V.int (by omega),show V.int (tri / 3000 % (sl[(tri / 600 % (sl.length:Int)).toNat]?).getD 3)=V.int ((tri / 3000 % slF sl (tri / 600 % sl.length)).toNat:Nat) from congrArg V.int (by show tri / 3000 % slF sl (tri / 600 % sl.length)=_;omega)];rfl
 rw [if_neg k5] at q;walk_at "ev";refine ifd (fun k6=>?_) (fun k6=>?_)
 ·rw [if_pos k6] at q;walk_at "ev";refine ⟨_,rfl,hb,?_⟩;walk_at "ev";refine ⟨Zat (by simp),fun a na=>q a _ (Zaf na _) na ?_⟩;rw [Za2,eh,et];rfl
 rw [if_neg k6] at q;walk_at "ev";refine ifd (fun k7=>?_) (fun k7=>?_)
 ·rw [if_pos k7] at q;walk_at "ev";refine ⟨Zat (by simp),fun a na=>q a _ (Zaf na _) na ?_⟩;rw [Za2,eh,et];rfl
 rw [if_neg k7] at q;walk_at "ev";refine ifd (fun k8=>?_) (fun k8=>?_)
 ·rw [if_pos k8] at q;walk_at "ev";refine Zhl (SqL.of hw) ?_;rw [List.length_map];refine ⟨_,_,rfl,rfl,by show (0:Int) < ws.length;omega,?_⟩;refine Zbe (SqL.of hw) (ZLn wt0 wt1) ?_;walk_at "ev";refine ⟨Zat (by simp),fun a na=>q a _ (Zaf na _) na ?_⟩;rw [Za2,eh,et];rfl
 rw [if_neg k8] at q;walk_at "ev";refine Zhl (SqL.of hw) ?_;rw [List.length_map];refine ⟨_,_,rfl,rfl,by show (0:Int) < ws.length;omega,?_⟩;refine Zbe (SqL.of hw) (ZLn wt0 wt1) ?_;walk_at "ev";refine ⟨Zat (by simp),fun a na=>q a _ (Zaf na _) na ?_⟩;rw [Za2,eh,es];rfl
end
def rfS:Rf→Str
 | .full=>"full"
 | .empty=>"empty"
 | .nofield=>"field"
 | .noname=>"name"
def ZJl:Deed→Str
 | .make _ _ _ _=>"made"
 | .get _ _ _ _=>"got"
 | .put _ _ _ _=>"put"
 | .copy _ _ _=>"copied"
 | .drop _ _=>"dropped"
 | .give _ _ _ _=>"given"
 | .write _ _ _=>"wrote"
 | .read _ _=>"read"
 | .name _ _ _=>"named"
 | .seek _ _ _=>"sought"
def scOf (M:Wm):Option Ce→Sc
 | some c=>⟨1 + c.fl.length + c.bulk,c.load,c.fl.map (bAt M)⟩
 | none=>⟨0,0,[]⟩
def Zsb (l:List (Str×(Int×Int))):List (Str×Int):=l.map fun m=>(m.1,m.2.2)
def stOf (M:Wm):Sto:=⟨M.room,M.used,M.born,rowsOf M,M.cells.map (scOf M),Zsb M.names⟩
structure Qm (M:Wm) (sl:List Int) (i:Nat):Prop where
 ok:Ok M
 ph:M.sw.phase="rest"
 se:M.sw.sense=0
 cl:M.cells.length≤i
 ce:∀ (k:Nat) x,M.cells[k]? =some x→∃ c,x=some c∧c.birth=(k:Int) + 1∧c.fl.length≤1000
 bo:M.born=(M.cells.length:Int)
 nb:∀ m∈M.names,0≤m.2.1∧m.2.2=m.2.1 + 1∧m.2.1 < M.cells.length
 nl:M.names.length≤i
 tl:0≤M.tells∧M.tells < 4
 hl:M.hands.map (fun m=>m.2.length)=sl.map Int.toNat
section
variable {M M':Wm}{sl:List Int}{i:Nat}
theorem Qm.at (q:Qm M sl i) {x:Int}{c:Ce} (h:cellAt M x=some c):0≤x∧c.birth=x + 1∧x < M.cells.length∧M.cells[x.toNat]? =some (some c):=by
 obtain ⟨h0,h1⟩:=Zd7.mp h;obtain ⟨c',e,eb,_⟩:=q.ce _ _ h1;cases e;have:=(List.getElem?_eq_some_iff.mp h1).1;exact ⟨h0,by omega,by omega,h1⟩
theorem Qm.bAt (q:Qm M sl i) {x:Int}{c:Ce} (h:cellAt M x=some c):K23.bAt M (some x)=some (x + 1):=by
 show (cellAt M x).map _=_;rw [h];show some c.birth=_;rw [(q.at h).2.1]
theorem Qm.slot (q:Qm M sl i) {h s:Nat}{x:Int} (o:okS M h s) (e:Zab M h s=some x):∃ c,cellAt M x=some c:=by
 obtain ⟨m,hm,hk,_⟩:=Zto o;rw [e] at hk;exact q.ok.sl m (List.mem_of_getElem? hm) x (List.mem_of_getElem? hk)
theorem Zkc {h s:Nat} (o:okS M h s):rowS (stOf M) h s=bAt M (Zab M h s):=by
 obtain ⟨r,hr,hk,_⟩:=Zty o;unfold rowS;show (((rowsOf M)[h]?).bind fun x=>x[s]?).join=_;rw [hr];show (r[s]?).join=_;rw [hk];rfl
theorem Zfx {h s:Nat} (o:okS M h s):okSS (stOf M) h s:=by
 obtain ⟨r,hr,_,hl⟩:=Zty o;exact ⟨r,hr,hl⟩
theorem ZK3 {d:Deed} (o:okD M d):okDS (stOf M) d:=by
 cases d with
 | make h s many bulk=>exact ⟨Zfx o.1,o.2⟩
 | get h s t f=>exact ⟨Zfx o.1,Zfx o.2⟩
 | put h t f s=>exact ⟨Zfx o.1,Zfx o.2⟩
 | copy h s t=>exact ⟨Zfx o.1,Zfx o.2⟩
 | drop h s=>exact Zfx o
 | give h s g t=>exact ⟨Zfx o.1,Zfx o.2⟩
 | write h t l=>exact Zfx o
 | read h t=>exact Zfx o
 | name h t z=>exact Zfx o
 | seek h s z=>exact Zfx o
theorem Qm.Zej (q:Qm M sl i) {x:Int}{c:Ce} (h:cellAt M x=some c):K23.Zej (stOf M) (x + 1)=some (scOf M (some c)):=by
 obtain ⟨h0,_,_,h3⟩:=q.at h;unfold K23.Zej;rw [if_pos (by omega),show (x + 1 - 1).toNat=x.toNat from by omega];show (M.cells.map (scOf M))[x.toNat]? =_;rw [List.getElem?_map,h3];rfl
theorem Qm.wf (q:Qm M sl i):WfS (stOf M):=by
 intro x hx b hb;have hx:x∈rowsOf M:=hx;obtain ⟨m,hm,rfl⟩:=List.mem_map.mp hx;obtain ⟨y,hy,ey⟩:=List.mem_map.mp hb;cases y with
 | none=>cases ey
 | some p=>
  obtain ⟨c,hc⟩:=q.ok.sl m hm p hy;rw [q.bAt hc] at ey;have e:p + 1=b:=Option.some.inj ey;rw [← e];exact ⟨_,q.Zej hc⟩
theorem ZPv {x y:Int}{c c':Ce} (h:cellAt M x=some c) (hb:c'.birth=c.birth):bAt (setCell M x c') (some y)=bAt M (some y):=by
 obtain ⟨h0,h1⟩:=Zd7.mp h;show (cellAt (setCell M x c') y).map _=(cellAt M y).map _;unfold cellAt
 by_cases hy:0≤y
 ·rw [if_pos hy,if_pos hy];show (((M.cells.set x.toNat (some c'))[y.toNat]?).join).map _=_
  by_cases e:y.toNat=x.toNat
  ·rw [e,List.getElem?_set_self (List.getElem?_eq_some_iff.mp h1).1,h1];show some c'.birth=some c.birth;rw [hb]
  ·rw [List.getElem?_set_ne (Ne.symm e)]
 ·rw [if_neg hy,if_neg hy]
theorem ZGb {x:Int}{c c':Ce} (h:cellAt M x=some c) (hb:c'.birth=c.birth):bAt (setCell M x c')=bAt M:=by
 funext y
 cases y with
 | none=>rfl
 | some y=>exact ZPv h hb
theorem ZLm {h k:Nat}{x:Option Int}:bAt (setSlot M h k x)=bAt M:=funext fun _=>Zez
theorem ZJk {h k:Nat}{x:Option Int}:scOf (setSlot M h k x)=scOf M:=by
 funext c
 cases c with
 | none=>rfl
 | some c=>show (⟨_,_,c.fl.map (bAt (setSlot M h k x))⟩:Sc)=_;rw [ZLm];rfl
theorem Zjn {h k:Nat}{x:Option Int} (o:okS M h k):stOf (setSlot M h k x)=Zf5 (stOf M) h k (bAt M x):=by
 obtain ⟨r,hr,_,_⟩:=Zty o;rw [Zi7 (S:=stOf M) (x:=r) hr];show (⟨M.room,M.used,M.born,rowsOf (setSlot M h k x),M.cells.map (scOf (setSlot M h k x)),Zsb M.names⟩:Sto)=_;rw [ZH9 hr,ZJk];rfl
theorem ZDt {x:Int}{c c':Ce} (h:cellAt M x=some c) (hb:c'.birth=c.birth):rowsOf (setCell M x c')=rowsOf M:=by
 show (M.hands.map fun m=>m.2.map (bAt (setCell M x c')))=_;rw [ZGb h hb];rfl
theorem ZA1 {x:Int}{c c':Ce} (h:cellAt M x=some c) (hb:c'.birth=c.birth):stOf (setCell M x c')=ZGw (stOf M) (x + 1) (scOf M (some c')):=by
 have hs:scOf (setCell M x c')=scOf M:=by
  funext d
  cases d with
  | none=>rfl
  | some d=>show (⟨_,_,d.fl.map (bAt (setCell M x c'))⟩:Sc)=_;rw [ZGb h hb];rfl
 show (⟨M.room,M.used,M.born,rowsOf (setCell M x c'),(M.cells.set x.toNat (some c')).map (scOf (setCell M x c')),Zsb M.names⟩:Sto)=⟨M.room,M.used,M.born,rowsOf M,(M.cells.map (scOf M)).set (x + 1 - 1).toNat (scOf M (some c')),Zsb M.names⟩;rw [ZDt h hb,hs,List.map_set,show (x + 1 - 1).toNat=x.toNat from by omega]
theorem Qm.full (q:Qm M sl i):fst0 M.cells=M.cells.length:=by
 have:∀ l:List (Option Ce),(∀ x∈l,∃ c,x=some c)→fst0 l=l.length:=by
  intro l
  induction l with
  | nil=>intro _;rfl
  | cons a l ih=>
   intro h;obtain ⟨c,rfl⟩:=h a List.mem_cons_self;show fst0 l + 1=l.length + 1;rw [ih fun x hx=>h x (List.mem_cons_of_mem _ hx)]
 refine this _ fun x hx=>?_;obtain ⟨k,hk,e⟩:=List.getElem_of_mem hx;obtain ⟨c,ec,_⟩:=q.ce k x (by rw [List.getElem?_eq_getElem hk,e]);exact ⟨c,ec⟩
theorem Qm.putO (q:Qm M sl i) (c:Ce):K23.putO M.cells c=M.cells ++ [some c]:=by
 unfold K23.putO;rw [if_neg (by rw [q.full];exact Nat.lt_irrefl _)]
def mkM (M:Wm) (many bulk:Int):Wm:={ M with used:=M.used + (1 + many + bulk),born:=M.born + 1,cells:=K23.putO M.cells ⟨M.born + 1,bulk,M.sw.sense,0,List.replicate many.toNat none⟩ }
theorem ZRs (many bulk:Int) {x:Int}{c:Ce} (h:cellAt M x=some c):bAt (mkM M many bulk) (some x)=bAt M (some x):=by
 show (cellAt (mkM M many bulk) x).map _=(cellAt M x).map _;rw [h,show cellAt (mkM M many bulk) x=some c from Zn1 h]
theorem Qm.stOf_mk (q:Qm M sl i) {many bulk:Int} (m0:0≤many):stOf (mkM M many bulk)={ stOf M with used:=M.used + (1 + many + bulk),born:=M.born + 1,cells:=M.cells.map (scOf M) ++ [⟨1 + many + bulk,0,List.replicate many.toNat none⟩] }:=by
 have hc:(mkM M many bulk).cells.map (scOf (mkM M many bulk))=M.cells.map (scOf M) ++ [⟨1 + many + bulk,0,List.replicate many.toNat none⟩]:=by
  show (K23.putO M.cells _).map _=_;rw [q.putO,List.map_append];congr 1
  ·refine List.map_congr_left fun x hx=>?_;cases x with
   | none=>rfl
   | some c=>
    show (⟨_,_,c.fl.map (K23.bAt (mkM M many bulk))⟩:Sc)=⟨_,_,c.fl.map (K23.bAt M)⟩;congr 1;refine List.map_congr_left fun y hy=>?_;cases y with
    | none=>rfl
    | some y=>
     obtain ⟨d,hd⟩:=q.ok.fl c hx y hy;exact ZRs _ _ hd
  ·show [(⟨1 + ((List.replicate many.toNat (none:Option Int)).length:Int) + bulk,0,(List.replicate many.toNat (none:Option Int)).map (K23.bAt (mkM M many bulk))⟩:Sc)]=_;rw [List.length_replicate,List.map_replicate,show ((many.toNat:Nat):Int)=many from by omega];rfl
 show (⟨M.room,M.used + (1 + many + bulk),M.born + 1,rowsOf (mkM M many bulk),(mkM M many bulk).cells.map (scOf (mkM M many bulk)),Zsb M.names⟩:Sto)=_;rw [hc,show rowsOf (mkM M many bulk)=rowsOf M from ZHa q.ok];rfl
theorem ZNz (l:List (Str×(Int×Int))) (z:Str) (v:Int×Int):Zsb (Zjp l z v)=putW (Zsb l) z v.2:=by
 unfold Zjp putW Zsb;have e:((l.map fun m=>(m.1,m.2.2)).any fun m=>decide (m.1=z))=l.any fun m=>decide (m.1=z):=by rw [List.any_map];rfl
 rw [e];split
 ·rw [List.map_map,List.map_map];refine List.map_congr_left fun m _=>?_;show ((if m.1=z then (m.1,v) else m).1,(if m.1=z then (m.1,v) else m).2.2)=if m.1=z then (m.1,v.2) else (m.1,m.2.2)
  by_cases h:m.1=z
  ·rw [if_pos h,if_pos h]
  ·rw [if_neg h,if_neg h]
 ·rw [List.map_append];rfl
theorem ZO0 (l:List (Str×(Int×Int))) (z:Str):((Zsb l).find? fun m=>decide (m.1=z)).map (·.2)=(Zjk l z).map (·.2):=by
 unfold Zsb Zjk;rw [List.find?_map];cases h:l.find? ((fun m=>decide (m.1=z)) ∘ fun m=>(m.1,m.2.2)) with
 | none=>
  have:(l.find? fun m=>decide (m.1=z))=none:=h;rw [this];rfl
 | some m=>
  have:(l.find? fun m=>decide (m.1=z))=some m:=h;rw [this];rfl
theorem Qm.found (q:Qm M sl i) {z:Str}{p b:Int} (h:Zjk M.names z=some (p,b)):∃ c,cellAt M p=some c∧b=p + 1∧Zor M p b=false:=by
 unfold Zjk at h;obtain ⟨m,hm,e⟩:=Option.map_eq_some_iff.mp h;obtain ⟨h0,h1,h2⟩:=q.nb m (List.mem_of_find?_eq_some hm);rw [e] at h0 h1 h2;have h0:0≤p:=h0;have h1:b=p + 1:=h1;have h2:p < M.cells.length:=h2;have hk:p.toNat < M.cells.length:=by omega
 obtain ⟨c,ec,eb,_⟩:=q.ce p.toNat _ (List.getElem?_eq_getElem hk);have hc:cellAt M p=some c:=Zd7.mpr ⟨h0,by rw [List.getElem?_eq_getElem hk,ec]⟩;refine ⟨c,hc,h1,?_⟩;unfold Zor;rw [hc];show (if c.birth=b then decide (M.sw.phase="give"∧c.tone≠M.sw.sense) else true)=false;rw [if_pos (by omega)];have:¬ M.sw.phase="give":=by rw [q.ph];decide
 simp [this]
theorem Qm.mono (q:Qm M sl i):Qm M sl (i + 1):=⟨q.ok,q.ph,q.se,by have:=q.cl;omega,q.ce,q.bo,q.nb,by have:=q.nl;omega,q.tl,q.hl⟩
theorem ZPf {h k:Nat}{x:Option Int}:(setSlot M h k x).hands.map (fun m=>m.2.length)=M.hands.map fun m=>m.2.length:=by
 show (M.hands.modify h _).map _=_;apply List.ext_getElem?;intro j;rw [List.getElem?_map,List.getElem?_map,List.getElem?_modify]
 by_cases e:h=j
 ·subst e;cases M.hands[h]? with
  | none=>rfl
  | some m=>simp
 ·simp [e]
theorem Qm.setS (q:Qm M sl i) {h k:Nat}{x:Option Int} (hx:∀ y,x=some y→∃ c,cellAt M y=some c):Qm (setSlot M h k x) sl i:=
 ⟨q.ok.slot hx,q.ph,q.se,q.cl,q.ce,q.bo,q.nb,q.nl,q.tl,ZPf.trans q.hl⟩
theorem Qm.setC (q:Qm M sl i) {x:Int}{c c':Ce} (h:cellAt M x=some c) (hb:c'.birth=c.birth) (ht:c'.tone=c.tone) (hl:c'.fl.length=c.fl.length) (hf:∀ y,some y∈c'.fl→∃ d,cellAt M y=some d):Qm (setCell M x c') sl i:=by
 obtain ⟨h0,h1,h2,h3⟩:=q.at h;have ca:∀ y d,cellAt M y=some d→∃ d',cellAt (setCell M x c') y=some d':=fun y d hd=>by
  obtain ⟨y0,y1⟩:=Zd7.mp hd
  by_cases e:y.toNat=x.toNat
  ·exact ⟨c',Zd7.mpr ⟨y0,by show (M.cells.set _ _)[_]? =_;rw [e,List.getElem?_set_self (List.getElem?_eq_some_iff.mp h3).1]⟩⟩
  ·exact ⟨d,Zd7.mpr ⟨y0,by show (M.cells.set _ _)[_]? =_;rw [List.getElem?_set_ne (Ne.symm e)];exact y1⟩⟩
 have mem:∀ d,some d∈(setCell M x c').cells→some d∈M.cells∨d=c':=fun d hd=>by
  rcases List.mem_or_eq_of_mem_set hd with hd | hd
  ·exact .inl hd
  ·exact .inr (Option.some.inj hd)
 refine ⟨⟨fun m hm y hy=>?_,fun d hd y hy=>?_,fun d hd=>?_⟩,q.ph,q.se,by show (M.cells.set _ _).length≤i;rw [List.length_set];exact q.cl,fun k y hk=>?_,by show M.born=((M.cells.set _ _).length:Int);rw [List.length_set];exact q.bo,fun m hm=>?_,q.nl,q.tl,q.hl⟩
 ·obtain ⟨d,hd⟩:=q.ok.sl m hm y hy;exact ca y d hd
 ·rcases mem d hd with hd | rfl
  ·obtain ⟨e,he⟩:=q.ok.fl d hd y hy;exact ca y e he
  ·obtain ⟨e,he⟩:=hf y hy;exact ca y e he
 ·rcases mem d hd with hd | rfl
  ·exact q.ok.tn d hd
  ·rw [ht];exact q.ok.tn c (Zn2 h)
 ·have hk:(M.cells.set x.toNat (some c'))[k]? =some y:=hk
  by_cases e:k=x.toNat
  ·subst e;rw [List.getElem?_set_self (List.getElem?_eq_some_iff.mp h3).1] at hk;cases hk;obtain ⟨c0,e0,_,l0⟩:=q.ce _ _ h3;cases e0;exact ⟨c',rfl,by rw [hb,h1];omega,by rw [hl];exact l0⟩
  ·rw [List.getElem?_set_ne (Ne.symm e)] at hk;exact q.ce k y hk
 ·have:=q.nb m hm;show _∧_∧m.2.1 < ((M.cells.set _ _).length:Int);rw [List.length_set];exact this
theorem Qm.make (q:Qm M sl i) {many bulk:Int} (m0:0≤many) (m1:many≤1000):Qm (mkM M many bulk) sl (i + 1):=by
 have hp:=q.putO ⟨M.born + 1,bulk,M.sw.sense,0,List.replicate many.toNat none⟩;have hlen:(mkM M many bulk).cells.length=M.cells.length + 1:=by
  show (K23.putO M.cells _).length=_;rw [hp,List.length_append];rfl
 refine ⟨q.ok.put (fun x hx=>?_) (by rw [q.se];exact .inl rfl),q.ph,q.se,by rw [hlen];have:=q.cl;omega,fun k x hk=>?_,?_,fun m hm=>?_,by have:=q.nl;show M.names.length≤_;omega,q.tl,q.hl⟩
 ·cases List.eq_of_mem_replicate hx
 ·have hk:(K23.putO M.cells _)[k]? =some x:=hk;rw [hp] at hk
  by_cases e:k < M.cells.length
  ·rw [List.getElem?_append_left e] at hk;exact q.ce k x hk
  ·have:=(List.getElem?_eq_some_iff.mp hk).1;rw [List.length_append,List.length_singleton] at this;have e':k=M.cells.length:=by omega
   subst e';rw [List.getElem?_append_right (Nat.le_refl _),Nat.sub_self] at hk;have hk:some (⟨M.born + 1,bulk,M.sw.sense,0,List.replicate many.toNat none⟩:Ce)=x:=by simpa using hk
   subst hk;exact ⟨_,rfl,by show M.born + 1=_;rw [q.bo],by show (List.replicate many.toNat none).length≤1000;rw [List.length_replicate];omega⟩
 ·show M.born + 1=_;rw [hlen,q.bo];push_cast;rfl
 ·have:=q.nb m hm;rw [hlen]
  push_cast
  omega
theorem ZJr {l:List (Str×(Int×Int))}{z:Str}{v:Int×Int}:(Zjp l z v).length≤l.length + 1:=by
 unfold Zjp;split
 ·rw [List.length_map];omega
 ·rw [List.length_append];simp
theorem ZJq {l:List (Str×(Int×Int))}{z:Str}{v:Int×Int}{m:Str×(Int×Int)} (h:m∈Zjp l z v):m∈l∨m.2=v:=by
 unfold Zjp at h;split at h
 ·obtain ⟨m',h1,e⟩:=List.mem_map.mp h
  by_cases z1:m'.1=z
  ·rw [if_pos z1] at e;exact .inr (by rw [← e])
  ·rw [if_neg z1] at e;exact .inl (by rw [← e];exact h1)
 ·rcases List.mem_append.mp h with h | h
  ·exact .inl h
  ·rw [List.mem_singleton.mp h];exact .inr rfl
theorem Qm.name (q:Qm M sl i) {z:Str}{x:Int}{c:Ce} (h:cellAt M x=some c):Qm { M with names:=Zjp M.names z (x,c.birth) } sl (i + 1):=by
 obtain ⟨h0,h1,h2,_⟩:=q.at h;refine ⟨⟨q.ok.sl,q.ok.fl,q.ok.tn⟩,q.ph,q.se,by have:=q.cl;show M.cells.length≤_;omega,q.ce,q.bo,fun m hm=>?_,?_,q.tl,q.hl⟩
 ·rcases ZJq hm with hm | hm
  ·exact q.nb m hm
  ·rw [hm];exact ⟨h0,h1,h2⟩
 ·have:=ZJr (l:=M.names) (z:=z) (v:=(x,c.birth));have:=q.nl;show (Zjp M.names z _).length≤_;omega
structure Tn (M:Wm) (sl:List Int) (i:Nat) (d:Deed):Prop where
 er:∀ r,doM M d=.error r→dueW (stOf M) d=rfS r
 ok:∀ e M',doM M d=.ok (e,M')→dueW (stOf M) d=""∧e.notes=[]∧e.word=ZJl d∧thS (stOf M) d=(e.thing,stOf M')∧Qm M' sl (i + 1)
theorem Tn.of_ok {d:Deed}{e:Ev} (h:doM M d=.ok (e,M')) (k:dueW (stOf M) d=""∧e.notes=[]∧e.word=ZJl d∧thS (stOf M) d=(e.thing,stOf M')∧Qm M' sl (i + 1)):Tn M sl i d:=
 ⟨fun r er=>(by rw [h] at er;cases er),fun e1 M1 h1=>by
  rw [h] at h1;have:(e,M')=(e1,M1):=Except.ok.inj h1;cases this;exact k⟩
theorem Tn.of_er {d:Deed}{r:Rf} (h:doM M d=.error r) (k:dueW (stOf M) d=rfS r):Tn M sl i d:=
 ⟨fun r' er=>(by
  rw [h] at er;cases er;exact k),fun e1 M1 h1=>(by rw [h] at h1;cases h1)⟩
theorem Qm.turn (q:Qm M sl i) {d:Deed} (od:okD M d):Tn M sl i d:=by
 cases d with
 | make h s many bulk=>
  obtain ⟨o,m0,m1,b0⟩:=od
  by_cases hf:M.used + (1 + many + bulk)≤M.room
  ·refine Tn.of_ok (Zuw hf) ⟨?_,rfl,rfl,?_,?_⟩
   ·show (if M.room < M.used + 1 + many + bulk then ("full":Str) else ("":Str))=_;rw [if_neg (by omega)]
   ·show (some (M.born + 1),Zf5 { stOf M with used:=M.used + (1 + many + bulk),born:=M.born + 1,cells:=M.cells.map (scOf M) ++ [⟨1 + many + bulk,0,List.replicate many.toNat none⟩] } h s (some (M.born + 1)))=(some (M.born + 1),stOf (setSlot (mkM M many bulk) h s (some (fst0 M.cells:Int))));rw [Zjn (M:=mkM M many bulk) o,q.stOf_mk m0];have:K23.bAt (mkM M many bulk) (some (fst0 M.cells:Int))=some (M.born + 1):=by
     show (cellAt (mkM M many bulk) (fst0 M.cells:Int)).map _=_;rw [show cellAt (mkM M many bulk) (fst0 M.cells:Int)=some _ from Zrg];rfl
    rw [this]
   ·exact (q.make m0 m1).setS fun y ey=>by
     cases ey;exact ⟨_,Zrg⟩
  ·refine Tn.of_er (r:=.full) ?_ ?_
   ·show (if _ then _ else _)=_;rw [if_neg hf]
   ·show (if M.room < M.used + 1 + many + bulk then ("full":Str) else ("":Str))=_;rw [if_pos (by omega)];rfl
 | get h s t f=>
  obtain ⟨os,ot⟩:=od;have hr:=Zkc ot;cases hs:Zab M h t with
  | none=>
   rw [hs] at hr;refine Tn.of_er (r:=.empty) ?_ ?_
   ·show (match Zab M h t with | none=>_ | some x=>_)=_;rw [hs]
   ·show fldW (stOf M) (rowS (stOf M) h t) f=_;rw [hr];rfl
  | some x=>
   obtain ⟨c,hc⟩:=q.slot ot hs;rw [hs,q.bAt hc] at hr;have hcs:=q.Zej hc;have hlen:(scOf M (some c)).fl.length=c.fl.length:=List.length_map _;cases hv:c.fl[f]? with
   | none=>
    have hl:c.fl.length≤f:=List.getElem?_eq_none_iff.mp hv;refine Tn.of_er (r:=.nofield) ?_ ?_
    ·show (match Zab M h t with | none=>_ | some x=>_)=_;rw [hs];show (match cellAt M x with | none=>_ | some c=>_)=_;rw [hc];show (match c.fl[f]? with | none=>_ | some v=>_)=_;rw [hv]
    ·show fldW (stOf M) (rowS (stOf M) h t) f=_;rw [hr];show (match K23.Zej (stOf M) (x + 1) with | none=>("":Str) | some c=>if c.fl.length≤f then ("field":Str) else ("":Str))=_;rw [hcs];show (if (scOf M (some c)).fl.length≤f then ("field":Str) else ("":Str))=_;rw [hlen,if_pos hl];rfl
   | some v=>
    have hl:¬ c.fl.length≤f:=by have:=(List.getElem?_eq_some_iff.mp hv).1;omega
    refine Tn.of_ok (e:=⟨"got",K23.bAt M v,[]⟩) (M':=setSlot M h s v) ?_ ⟨?_,rfl,rfl,?_,?_⟩
    ·show (match Zab M h t with | none=>_ | some x=>_)=_;rw [hs];show (match cellAt M x with | none=>_ | some c=>_)=_;rw [hc];show (match c.fl[f]? with | none=>_ | some v=>_)=_;rw [hv]
    ·show fldW (stOf M) (rowS (stOf M) h t) f=_;rw [hr];show (match K23.Zej (stOf M) (x + 1) with | none=>("":Str) | some c=>if c.fl.length≤f then ("field":Str) else ("":Str))=_;rw [hcs];show (if (scOf M (some c)).fl.length≤f then ("field":Str) else ("":Str))=_;rw [hlen,if_neg hl]
    ·have ev:(((rowS (stOf M) h t).bind (K23.Zej (stOf M))).bind fun c=>c.fl[f]?).join=K23.bAt M v:=by
      rw [hr];show ((K23.Zej (stOf M) (x + 1)).bind fun c=>c.fl[f]?).join=_;rw [hcs];show ((c.fl.map (K23.bAt M))[f]?).join=_;rw [List.getElem?_map,hv];rfl
     show ((((rowS (stOf M) h t).bind (K23.Zej (stOf M))).bind fun c=>c.fl[f]?).join,Zf5 (stOf M) h s _)=(K23.bAt M v,stOf (setSlot M h s v));rw [Zjn os,ev]
    ·refine (q.setS fun y ey=>?_).mono;subst ey;exact q.ok.fl c (Zn2 hc) y (List.mem_of_getElem? hv)
 | put h t f s=>
  obtain ⟨ot,os⟩:=od;have hr:=Zkc ot;cases hs:Zab M h t with
  | none=>
   rw [hs] at hr;refine Tn.of_er (r:=.empty) ?_ ?_
   ·show (match Zab M h t with | none=>_ | some x=>_)=_;rw [hs]
   ·show fldW (stOf M) (rowS (stOf M) h t) f=_;rw [hr];rfl
  | some x=>
   obtain ⟨c,hc⟩:=q.slot ot hs;rw [hs,q.bAt hc] at hr;have hcs:=q.Zej hc;have hlen:(scOf M (some c)).fl.length=c.fl.length:=List.length_map _;cases hv:c.fl[f]? with
   | none=>
    have hl:c.fl.length≤f:=List.getElem?_eq_none_iff.mp hv;refine Tn.of_er (r:=.nofield) ?_ ?_
    ·show (match Zab M h t with | none=>_ | some x=>_)=_;rw [hs];show (match cellAt M x with | none=>_ | some c=>_)=_;rw [hc];show (match c.fl[f]? with | none=>_ | some v=>_)=_;rw [hv]
    ·show fldW (stOf M) (rowS (stOf M) h t) f=_;rw [hr];show (match K23.Zej (stOf M) (x + 1) with | none=>("":Str) | some c=>if c.fl.length≤f then ("field":Str) else ("":Str))=_;rw [hcs];show (if (scOf M (some c)).fl.length≤f then ("field":Str) else ("":Str))=_;rw [hlen,if_pos hl];rfl
   | some v=>
    have hl:¬ c.fl.length≤f:=by have:=(List.getElem?_eq_some_iff.mp hv).1;omega
    have hn:∀ l,Zbj (setCell M x { c with fl:=c.fl.set f (Zab M h s) }) l=([],setCell M x { c with fl:=c.fl.set f (Zab M h s) }):=fun l=>Zkp (by show M.sw.phase≠"walk";rw [q.ph];decide);refine Tn.of_ok (e:=⟨"put",K23.bAt M v,[]⟩) (M':=setCell M x { c with fl:=c.fl.set f (Zab M h s) }) ?_ ⟨?_,rfl,rfl,?_,?_⟩
    ·show (match Zab M h t with | none=>_ | some x=>_)=_;rw [hs];show (match cellAt M x with | none=>_ | some c=>_)=_;rw [hc];show (match c.fl[f]? with | none=>_ | some v=>_)=_;rw [hv];show Except.ok (Ev.mk "put" (K23.bAt M v) (Zbj (setCell M x { c with fl:=c.fl.set f (Zab M h s) }) _).1,(Zbj (setCell M x { c with fl:=c.fl.set f (Zab M h s) }) _).2)=_;rw [hn]
    ·show fldW (stOf M) (rowS (stOf M) h t) f=_;rw [hr];show (match K23.Zej (stOf M) (x + 1) with | none=>("":Str) | some c=>if c.fl.length≤f then ("field":Str) else ("":Str))=_;rw [hcs];show (if (scOf M (some c)).fl.length≤f then ("field":Str) else ("":Str))=_;rw [hlen,if_neg hl]
    ·show (match rowS (stOf M) h t with | none=>_ | some b=>_)=_;rw [hr];show (match K23.Zej (stOf M) (x + 1) with | none=>_ | some c=>_)=_;rw [hcs];show (((c.fl.map (K23.bAt M))[f]?).join,ZGw (stOf M) (x + 1) { scOf M (some c) with fl:=(c.fl.map (K23.bAt M)).set f (rowS (stOf M) h s) })=(K23.bAt M v,stOf (setCell M x { c with fl:=c.fl.set f (Zab M h s) }));rw [ZA1 (c':={ c with fl:=c.fl.set f (Zab M h s) }) hc rfl,List.getElem?_map,hv,Zkc os];show (K23.bAt M v,_)=_;congr 2;show (⟨1 + c.fl.length + c.bulk,c.load,_⟩:Sc)=⟨1 + (c.fl.set f (Zab M h s)).length + c.bulk,c.load,(c.fl.set f (Zab M h s)).map (K23.bAt M)⟩;rw [List.length_set,List.map_set]
    ·refine (q.setC (c':={ c with fl:=c.fl.set f (Zab M h s) }) hc rfl rfl (List.length_set ..) fun y hy=>?_).mono;rcases List.mem_or_eq_of_mem_set hy with hy | hy
     ·exact q.ok.fl c (Zn2 hc) y hy
     ·exact q.slot os hy.symm
 | copy h s t=>
  obtain ⟨os,ot⟩:=od;refine Tn.of_ok (e:=⟨"copied",K23.bAt M (Zab M h t),[]⟩) (M':=setSlot M h s (Zab M h t)) rfl ⟨rfl,rfl,rfl,?_,(q.setS fun y ey=>q.slot ot ey).mono⟩;show (rowS (stOf M) h t,Zf5 (stOf M) h s (rowS (stOf M) h t))=(K23.bAt M (Zab M h t),stOf (setSlot M h s (Zab M h t)));rw [Zjn os,Zkc ot]
 | drop h s=>
  refine Tn.of_ok (e:=⟨"dropped",K23.bAt M (Zab M h s),[]⟩) (M':=setSlot M h s none) rfl ⟨rfl,rfl,rfl,?_,(q.setS (x:=none) fun y ey=>by cases ey).mono⟩;show (rowS (stOf M) h s,Zf5 (stOf M) h s none)=(K23.bAt M (Zab M h s),stOf (setSlot M h s none));rw [Zjn od,Zkc od];rfl
 | give h s g t=>
  obtain ⟨os,ot⟩:=od;refine Tn.of_ok (ZCo (by rw [q.ph];decide) h s g t) ⟨rfl,rfl,rfl,?_,(q.setS fun y ey=>q.slot os ey).mono⟩;show (rowS (stOf M) h s,Zf5 (stOf M) g t (rowS (stOf M) h s))=(K23.bAt M (Zab M h s),stOf (setSlot M g t (Zab M h s)));rw [Zjn ot,Zkc os]
 | write h t l=>
  have hr:=Zkc od;cases hs:Zab M h t with
  | none=>
   rw [hs] at hr;refine Tn.of_er (r:=.empty) ?_ ?_
   ·show (match Zab M h t with | none=>_ | some x=>_)=_;rw [hs]
   ·show emW (rowS (stOf M) h t)=_;rw [hr];rfl
  | some x=>
   obtain ⟨c,hc⟩:=q.slot od hs;rw [hs,q.bAt hc] at hr;have hcs:=q.Zej hc;refine Tn.of_ok (e:=⟨"wrote",some c.load,[]⟩) (M':=setCell M x { c with load:=l }) ?_ ⟨?_,rfl,rfl,?_,(q.setC (c':={ c with load:=l }) hc rfl rfl rfl fun y hy=>q.ok.fl c (Zn2 hc) y hy).mono⟩
   ·show (match Zab M h t with | none=>_ | some x=>_)=_;rw [hs];show (match cellAt M x with | none=>_ | some c=>_)=_;rw [hc]
   ·show emW (rowS (stOf M) h t)=_;rw [hr];rfl
   ·show (match rowS (stOf M) h t with | none=>_ | some b=>_)=_;rw [hr];show (match K23.Zej (stOf M) (x + 1) with | none=>_ | some c=>_)=_;rw [hcs];show (some c.load,ZGw (stOf M) (x + 1) { scOf M (some c) with ld:=l })=(some c.load,stOf (setCell M x { c with load:=l }));rw [ZA1 (c':={ c with load:=l }) hc rfl];rfl
 | read h t=>
  have hr:=Zkc od;cases hs:Zab M h t with
  | none=>
   rw [hs] at hr;refine Tn.of_er (r:=.empty) ?_ ?_
   ·show (match Zab M h t with | none=>_ | some x=>_)=_;rw [hs]
   ·show emW (rowS (stOf M) h t)=_;rw [hr];rfl
  | some x=>
   obtain ⟨c,hc⟩:=q.slot od hs;rw [hs,q.bAt hc] at hr;have hcs:=q.Zej hc;refine Tn.of_ok (e:=⟨"read",some c.load,[]⟩) (M':=M) ?_ ⟨?_,rfl,rfl,?_,q.mono⟩
   ·show (match Zab M h t with | none=>_ | some x=>_)=_;rw [hs];show (match cellAt M x with | none=>_ | some c=>_)=_;rw [hc]
   ·show emW (rowS (stOf M) h t)=_;rw [hr];rfl
   ·show (((rowS (stOf M) h t).bind (K23.Zej (stOf M))).map (·.ld),stOf M)=_;rw [hr];show ((K23.Zej (stOf M) (x + 1)).map (·.ld),stOf M)=_;rw [hcs];rfl
 | name h t z=>
  have hr:=Zkc od;cases hs:Zab M h t with
  | none=>
   rw [hs] at hr;refine Tn.of_er (r:=.empty) ?_ ?_
   ·show (match Zab M h t with | none=>_ | some x=>_)=_;rw [hs]
   ·show emW (rowS (stOf M) h t)=_;rw [hr];rfl
  | some x=>
   obtain ⟨c,hc⟩:=q.slot od hs;have hb:=(q.at hc).2.1;rw [hs,q.bAt hc] at hr;refine Tn.of_ok (e:=⟨"named",some c.birth,[]⟩) (M':={ M with names:=Zjp M.names z (x,c.birth) }) ?_ ⟨?_,rfl,rfl,?_,q.name hc⟩
   ·show (match Zab M h t with | none=>_ | some x=>_)=_;rw [hs];show (match cellAt M x with | none=>_ | some c=>_)=_;rw [hc]
   ·show emW (rowS (stOf M) h t)=_;rw [hr];rfl
   ·show (match rowS (stOf M) h t with | none=>_ | some b=>_)=_;rw [hr];show (some (x + 1),{ stOf M with words:=putW (Zsb M.names) z (x + 1) })=(some c.birth,(⟨M.room,M.used,M.born,rowsOf M,M.cells.map (scOf M),Zsb (Zjp M.names z (x,c.birth))⟩:Sto));rw [ZNz,hb];rfl
 | seek h s z=>
  have hw:Zlk (stOf M) z=(Zjk M.names z).map (·.2):=ZO0 M.names z;cases hg:Zjk M.names z with
  | none=>
   rw [hg] at hw;refine Tn.of_er (r:=.noname) ?_ ?_
   ·show (match Zjk M.names z with | none=>_ | some (p,b)=>_)=_;rw [hg]
   ·show (if (Zlk (stOf M) z).isSome=true then ("":Str) else ("name":Str))=_;rw [hw];rfl
  | some pb=>
   obtain ⟨p,b⟩:=pb;rw [hg] at hw;have hw:Zlk (stOf M) z=some b:=hw;obtain ⟨c,hc,eb,hgo⟩:=q.found hg;have hn:Zbj (setSlot M h s (some p)) [some p]=([],setSlot M h s (some p)):=Zkp (by show M.sw.phase≠"walk";rw [q.ph];decide);refine Tn.of_ok (e:=⟨"sought",some b,[]⟩) (M':=setSlot M h s (some p)) ?_ ⟨?_,rfl,rfl,?_,(q.setS fun y ey=>by cases ey;exact ⟨c,hc⟩).mono⟩
   ·show (match Zjk M.names z with | none=>_ | some (p,b)=>_)=_;rw [hg];show (if Zor M p b=true then _ else _)=_;rw [if_neg (by rw [hgo];decide)];show Except.ok (Ev.mk "sought" (some b) (Zbj (setSlot M h s (some p)) [some p]).1,(Zbj (setSlot M h s (some p)) [some p]).2)=_;rw [hn]
   ·show (if (Zlk (stOf M) z).isSome=true then ("":Str) else ("name":Str))=_;rw [hw];rfl
   ·show (Zlk (stOf M) z,Zf5 (stOf M) h s (Zlk (stOf M) z))=(some b,stOf (setSlot M h s (some p)));rw [Zjn od,q.bAt hc,hw,eb]
end
local macro_rules | `(tactic| walk_at "nx")=>`(tactic| (refine ifd (fun z=>absurd z (by decide)) (fun _=>?_);walk_at "ev"))
theorem Zzv:∀ (ls:List Str) (us:List V) (ks:List Str) (vs:List V),ks.length=vs.length→ls.length=us.length→(ks ++ ls).Nodup→Zjr (zK ks vs) (zK ls us)=zK (ks ++ ls) (vs ++ us)
 | [],[],ks,vs,_,_,_=>by rw [List.append_nil,List.append_nil];rfl
 | [],_ :: _,_,_,_,h,_=>by simp at h
 | _ :: _,[],_,_,_,h,_=>by simp at h
 | a :: ls,b :: us,ks,vs,h1,h2,nd=>by
  show Zjr (putK (zK ks vs) (Sum.inr a) b) (zK ls us)=_;have hn:(ks.all fun z=>!decide (z=a))=true:=by
   rw [List.all_eq_true];intro z hz;have:z≠a:=fun e=>(List.nodup_append.mp nd).2.2 z hz a List.mem_cons_self e;simp [this]
  rw [zput h1 hn,Zzv ls us (ks ++ [a]) (vs ++ [b]) (by rw [List.length_append,List.length_append,h1];rfl) (by simpa using h2) (by rw [List.append_assoc];exact nd),List.append_assoc,List.append_assoc];rfl
def ZNy:Deed→Str
 | .make _ _ _ _=>"make"
 | .get _ _ _ _=>"get"
 | .put _ _ _ _=>"put"
 | .copy _ _ _=>"copy"
 | .drop _ _=>"drop"
 | .give _ _ _ _=>"give"
 | .write _ _ _=>"write"
 | .read _ _=>"read"
 | .name _ _ _=>"name"
 | .seek _ _ _=>"seek"
def ZGe:Sp:=fun vs H Q E=>∃ z,vs=[.str z]∧∃ d:Deed,z=ZNy d∧∀ H',Same H H'→Q (.str (ZJl d)) H'
def TriQ (X:Cs) (rf:Rf→Addr) (wo dd:Addr) (H:Hp) (Q:VK):Prop:=∃ T s A M d,WT H T∧s≠0∧WJ X H T s A M∧A.wo=wo∧H dd=some (.tup (dV d))∧okD M d∧Ok M∧M.cells.length≤900∧(M.sw.phase="walk"→M.sw.grey.length≤10000)∧(0≤M.tells∧M.tells < 4)∧M.names.length≤1000∧
 (∀ r,doM M d=.error r→∀ a l H',Same H H'→H' a=some (.tup [.str "refused",.str (rfS r),.ref l])→H' l=some (.lst [])→Q (.ref a) H')∧
 (∀ e M',doM M d=.ok (e,M')→∀ H' T' A' a,Stp s H H' T T'→WJ X H' T' s A' M'→A'.wo=wo→EvN H H' a e→Q (.ref a) H')
def Zzf (X:Cs) (rf:Rf→Addr):Sp:=fun vs H Q E=>∃ wo dd,vs=[.ref wo,.ref dd]∧TriQ X rf wo dd H Q
structure Stp2 (s r:Nat) (H H':Hp) (T T':Tg):Prop where
 kp:∀ b o,H b=some o→(T b).1≠s→(T b).1≠r→H' b=some o
 tg:∀ b o,H b=some o→T' b=T b
 al:∀ b o,H b=some o→∃ o',H' b=some o'
 wt:WT H' T'
theorem Stp2.of1 {s r:Nat}{H H':Hp}{T T':Tg} (a:Stp s H H' T T'):Stp2 s r H H' T T':=⟨fun b o h n _=>a.kp b o h n,a.tg,a.al,a.wt⟩
theorem Stp2.of2 {s r:Nat}{H H':Hp}{T T':Tg} (a:Stp r H H' T T'):Stp2 s r H H' T T':=⟨fun b o h _ n=>a.kp b o h n,a.tg,a.al,a.wt⟩
theorem Stp2.trans {s r:Nat}{H H1 H2:Hp}{T T1 T2:Tg} (a:Stp2 s r H H1 T T1) (b:Stp2 s r H1 H2 T1 T2):Stp2 s r H H2 T T2 where
 kp:=fun x o h n m=>b.kp x o (a.kp x o h n m) (by rw [a.tg x o h];exact n) (by rw [a.tg x o h];exact m)
 tg:=fun x o h=>by
  obtain ⟨o',h'⟩:=a.al x o h;exact (b.tg x o' h').trans (a.tg x o h)
 al:=fun x o h=>by
  obtain ⟨o',h'⟩:=a.al x o h;exact b.al x o' h'
 wt:=b.wt
section
variable {X:Cs}{H:Hp}{T T':Tg}{s:Nat}{A:Wa}{M:Wm}
theorem WJ.retag (j:WJ X H T s A M) (r:Nat) (rs:r≠s) (r0:r≠0) (t:∀ b,(T b).1≠r→T' b=T b):WJ X H T' s A M:=by
 have ts:∀ {b:Addr}{m:Nat},T b=(s,m)→T' b=(s,m):=fun {b m} h=>(t b (by rw [h];exact Ne.symm rs)).trans h;have tz:∀ {b:Addr},T b=(0,0)→T' b=(0,0):=fun {b} h=>(t b (by rw [h];exact Ne.symm r0)).trans h;obtain ⟨⟨b1,b2,b3,b4,b5,b6,b7,b8⟩,⟨h1,h2,h3,h4⟩,⟨n1,n2,n3⟩,⟨s1,s2,s3,s4⟩,⟨d1,d2,d3⟩,⟨c1,c2⟩⟩:=j;refine ⟨⟨ts b1,tz b2,tz b3,ts b4,b5,b6,b7,b8⟩,⟨ts h1,ts h2,h3,h4⟩,⟨ts n1,n2,n3.mono fun t m ⟨z1,z2⟩=>⟨tz z1,z2⟩⟩,⟨ts s1,ts s2,s3,s4⟩,⟨d1,d2,fun j p m e1 e2=>?_⟩,⟨c1,fun i p c e1 e2=>?_⟩⟩
 ·obtain ⟨x1,x2,x3,x4⟩:=d3 j p m e1 e2;exact ⟨ts x1,ts x2,x3,x4⟩
 ·have e:=c2 i p c e1 e2;cases p with
  | none=>cases c with
   | none=>trivial
   | some c=>exact e.elim
  | some p=>cases c with
   | none=>exact e.elim
   | some c=>
    obtain ⟨x1,x2,x3,x4⟩:=(show CeO X.C H T s i p c from e);exact (show CeO X.C H T' s i p c from ⟨ts x1,ts x2,x3,x4⟩)
end
def TuQ (X:Cs) (wo d dd:Addr) (H:Hp) (Q:VK):Prop:=∃ T s r A B M dl sl i,WT H T∧s≠0∧r≠0∧r≠s∧WJ X H T s A M∧A.wo=wo∧StO H T r B (stOf M)∧B.d=d∧H dd=some (.tup (dV dl))∧T dd=(0,0)∧okD M dl∧Qm M sl i∧i≤100∧
 ∀ H' T' A' B' M',Stp2 s r H H' T T'→WJ X H' T' s A' M'→A'.wo=wo→StO H' T' r B' (stOf M')→B'.d=d→Qm M' sl (i + 1)→Q (.bl true) H'
def ZGc (X:Cs):Sp:=fun vs H Q E=>∃ wo d dd,vs=[.ref wo,.ref d,.ref dd]∧TuQ X wo d dd H Q
section
variable {K:PySem.W.Frag}{X:Cs}{rf:Rf→Addr}{H:Hp}{Q:VK}{E:XK}{n:St→Hp→Prop}{bk ct:St→Hp→Prop}
theorem ZCz {z:Str} (q:∃ d:Deed,z=ZNy d∧∀ H',Same H H'→Q (.str (ZJl d)) H'):Zlz ⟨n,Q,bk,ct⟩ [some (.str z),none] H:=by
 obtain ⟨d,rfl,q⟩:=q;unfold Zlz;walk_at "ev";intro d1 nd1;simp only [Zwh];walk_at "ev";refine ⟨Za2,[(Sum.inr "make",.str "made"),(Sum.inr "get",.str "got"),(Sum.inr "put",.str "put"),(Sum.inr "copy",.str "copied"),(Sum.inr "drop",.str "dropped"),(Sum.inr "give",.str "given")],rfl,by decide,?_⟩;rw [Zdx];have e1:Zjr [] [((Sum.inr "make":L2.Key),V.str "made"),(Sum.inr "get",.str "got"),(Sum.inr "put",.str "put"),(Sum.inr "copy",.str "copied"),(Sum.inr "drop",.str "dropped"),(Sum.inr "give",.str "given")]=zK ["make","get","put","copy","drop","give"] [.str "made",.str "got",.str "put",.str "copied",.str "dropped",.str "given"]:=
  Zzv ["make","get","put","copy","drop","give"] [.str "made",.str "got",.str "put",.str "copied",.str "dropped",.str "given"] [] [] rfl rfl (by decide +kernel)
 rw [e1];have s1:=Zaf nd1 (.dK (zK ["make","get","put","copy","drop","give"] [.str "made",.str "got",.str "put",.str "copied",.str "dropped",.str "given"]));have g1:upd H d1 (.dK (zK ["make","get","put","copy","drop","give"] [.str "made",.str "got",.str "put",.str "copied",.str "dropped",.str "given"])) d1=some (.dK (zK ["make","get","put","copy","drop","give"] [.str "made",.str "got",.str "put",.str "copied",.str "dropped",.str "given"])):=Za2;generalize upd H d1 (.dK (zK ["make","get","put","copy","drop","give"] [.str "made",.str "got",.str "put",.str "copied",.str "dropped",.str "given"]))=H1 at s1 g1 ⊢;walk_at "ev";refine ⟨d1,rfl,.inl ⟨_,.inl g1⟩,?_⟩;walk_at "ev";intro d2 nd2;simp only [Zwh];walk_at "ev";refine ⟨Za2,[(Sum.inr "write",.str "wrote"),(Sum.inr "read",.str "read"),(Sum.inr "name",.str "named"),(Sum.inr "seek",.str "sought")],rfl,by decide,?_⟩;rw [Zdx];have e2:Zjr [] [((Sum.inr "write":L2.Key),V.str "wrote"),(Sum.inr "read",.str "read"),(Sum.inr "name",.str "named"),(Sum.inr "seek",.str "sought")]=zK ["write","read","name","seek"] [.str "wrote",.str "read",.str "named",.str "sought"]:=
  Zzv ["write","read","name","seek"] [.str "wrote",.str "read",.str "named",.str "sought"] [] [] rfl rfl (by decide +kernel)
 rw [e2];have s2:=Zaf nd2 (.dK (zK ["write","read","name","seek"] [.str "wrote",.str "read",.str "named",.str "sought"]));have g2:upd H1 d2 (.dK (zK ["write","read","name","seek"] [.str "wrote",.str "read",.str "named",.str "sought"])) d2=some (.dK (zK ["write","read","name","seek"] [.str "wrote",.str "read",.str "named",.str "sought"])):=Za2;have n12:d1≠d2:=Za5 g1 nd2;have g1':=s2 _ _ g1;generalize upd H1 d2 (.dK (zK ["write","read","name","seek"] [.str "wrote",.str "read",.str "named",.str "sought"]))=H2 at s2 g2 g1' ⊢;refine ⟨d2,_,_,rfl,n12,g1',g2,by decide,?_⟩;rw [Zzv _ _ _ _ rfl rfl (by decide +kernel)];have s3:Same H (upd H2 d1 (.dK (zK ((["make","get","put","copy","drop","give"]:List Str) ++ (["write","read","name","seek"]:List Str)) ([.str "made",.str "got",.str "put",.str "copied",.str "dropped",.str "given"] ++ [.str "wrote",.str "read",.str "named",.str "sought"])))):=fun b o hb=>by rw [Za9 (Za5 hb nd1)];exact s2 _ _ (s1 _ _ hb)
 have g3:upd H2 d1 (.dK (zK ((["make","get","put","copy","drop","give"]:List Str) ++ (["write","read","name","seek"]:List Str)) ([.str "made",.str "got",.str "put",.str "copied",.str "dropped",.str "given"] ++ [.str "wrote",.str "read",.str "named",.str "sought"]))) d1=some (.dK (zK ["make","get","put","copy","drop","give","write","read","name","seek"] [.str "made",.str "got",.str "put",.str "copied",.str "dropped",.str "given",.str "wrote",.str "read",.str "named",.str "sought"])):=Za2;generalize upd H2 d1 (.dK (zK ((["make","get","put","copy","drop","give"]:List Str) ++ (["write","read","name","seek"]:List Str)) ([.str "made",.str "got",.str "put",.str "copied",.str "dropped",.str "given"] ++ [.str "wrote",.str "read",.str "named",.str "sought"])))=H3 at s3 g3 ⊢;walk_at "ev";have q:=q H3 s3;cases d with
 | make h s m b=>exact ⟨d1,_,rfl,zrd (i:=0) (k:="make") g3 rfl (by decide +kernel) rfl,q⟩
 | get h s t f=>exact ⟨d1,_,rfl,zrd (i:=1) (k:="get") g3 rfl (by decide +kernel) rfl,q⟩
 | put h t f s=>exact ⟨d1,_,rfl,zrd (i:=2) (k:="put") g3 rfl (by decide +kernel) rfl,q⟩
 | copy h s t=>exact ⟨d1,_,rfl,zrd (i:=3) (k:="copy") g3 rfl (by decide +kernel) rfl,q⟩
 | drop h s=>exact ⟨d1,_,rfl,zrd (i:=4) (k:="drop") g3 rfl (by decide +kernel) rfl,q⟩
 | give h s g t=>exact ⟨d1,_,rfl,zrd (i:=5) (k:="give") g3 rfl (by decide +kernel) rfl,q⟩
 | write h t l=>exact ⟨d1,_,rfl,zrd (i:=6) (k:="write") g3 rfl (by decide +kernel) rfl,q⟩
 | read h t=>exact ⟨d1,_,rfl,zrd (i:=7) (k:="read") g3 rfl (by decide +kernel) rfl,q⟩
 | name h t z=>exact ⟨d1,_,rfl,zrd (i:=8) (k:="name") g3 rfl (by decide +kernel) rfl,q⟩
 | seek h s z=>exact ⟨d1,_,rfl,zrd (i:=9) (k:="seek") g3 rfl (by decide +kernel) rfl,q⟩
theorem Zz8 {wo dd CE CF CN CM:Addr} (h1:rf .empty=CE) (h2:rf .full=CF) (h3:rf .nofield=CN) (h4:rf .noname=CM) (q:TriQ X rf wo dd H Q):
  Zke CE CF CN CM (S_do X rf) ⟨n,Q,bk,ct⟩ [some (.ref wo),some (.ref dd),none,none] H:=by
 obtain ⟨T,s,A,M,d,w,s0,j,rfl,ed,od,ok,hc,hg,tl,nm,k1,k2⟩:=q;subst h1 h2 h3 h4;unfold Zke;walk_at "ev";refine ⟨_,dd,rfl,T,s,A,M,d,trivial,w,s0,j,rfl,ed,od,ok,hc,hg,tl,nm,fun r er H' s=>?_,fun e M' he H' T' A' a st j' aw ev=>?_⟩
 ·have fin:∀ (z:Str),z=rfS r→¬ z=""→tSeq (tIfS (Zbw (tOp (rNe) (tVar 3) (tC (.str "")))) (tRet (tTup (Za3 (tC (.str "refused")) (Za3 (tVar 3) (Za3 (tLst tNil) tNil))))) Zbp) (tRet (tVar 2)) ⟨n,Q,bk,ct⟩ [some (.ref A.wo),some (.ref dd),some .non,some (.str z)] H':=by
   rintro z rfl ne;walk_at "ev";refine ifnd (fun _=>?_) (fun x=>absurd x ne);walk_at "ev";refine ⟨by decide,fun l nl=>?_⟩;refine ⟨Zat (by simp),fun a na=>?_⟩;exact k1 r er a l _ (s.trans ((Zaf nl _).trans (Zaf na _))) Za2 ((Zaf na _) _ _ Za2)
  cases r with
  | full=>
   refine .inr (.inr (.inl ⟨rfl,?_⟩));walk_at "es";exact fin _ rfl (by decide)
  | empty=>
   refine .inl ⟨rfl,?_⟩;walk_at "es";exact fin _ rfl (by decide)
  | nofield=>
   refine .inr (.inl ⟨rfl,?_⟩);walk_at "es";exact fin _ rfl (by decide)
  | noname=>
   refine .inr (.inr (.inr ⟨rfl,?_⟩));walk_at "es";exact fin _ rfl (by decide)
 ·walk_at "ev";refine ifnd (fun z=>absurd rfl z) (fun _=>?_);walk_at "ev";exact k2 e M' he H' T' A' a st j' aw ev
theorem ZQ6 {H:Hp}{a b l l':Addr}{z:Str} (h1:H a=some (.tup [.str "refused",.str z,.ref l])) (h2:H l=some (.lst [])) (h3:H b=some (.tup [.str "refused",.str z,.ref l'])) (h4:H l'=some (.lst [])):Sm H 3 (.ref a) (.ref b):=
 .inr ⟨a,b,_,_,rfl,rfl,.inr ⟨h1,h3⟩,by show 3≤1000000;decide,.cons (Zi6 rfl) (.cons (Zi6 rfl) (.cons (.inr ⟨l,l',_,_,rfl,rfl,.inl ⟨h2,h4⟩,by show 0≤1000000;decide,.nil⟩) .nil))⟩
theorem dV0 (d:Deed):atI (dV d) 0=some (.str (ZNy d)):=by cases d<;>rfl
theorem ZQ9 (r:Rf):¬ rfS r="":=by cases r<;>decide
theorem ZCx {wo d dd:Addr} (q:TuQ X wo d dd H Q):
  Zly K (ZN8 K) ZGe (Zj5 3) (Zzg K) (Zzf X rf) ⟨n,Q,bk,ct⟩ [some (.ref wo),some (.ref d),some (.ref dd),none,none] H:=by
 obtain ⟨T,s,r,A,B,M,dl,sl,i,w,s0,r0,rs,j,rfl,so,rfl,ed,td,od,qm,hi,q⟩:=q;have tn:=qm.turn od;have hcl:=qm.cl;have hnl:=qm.nl;unfold Zly;walk_at "ev";refine ⟨_,dd,rfl,T,r,B,stOf M,dl,so,rfl,ed,ZK3 od,qm.wf,fun H1 s1=>?_⟩;have w1:=w.same s1;have j1:=j.same s1;have so1:=so.same s1;have ed1:=s1 _ _ ed;walk_at "ev";refine ⟨_,dd,rfl,T,s,A,M,dl,w1,s0,j1,rfl,ed1,od,qm.ok,by omega,fun z=>absurd (qm.ph.symm.trans z) (by decide),qm.tl,by omega,fun rr er a l H2 s2 oa ol=>?_,fun e M' he H2 T2 A2 a st2 j2 aw2 ev=>?_⟩
 ·rw [tn.er rr er];walk_at "ev";refine ifnd (fun _=>?_) (fun z=>absurd z (ZQ9 rr));walk_at "ev";refine ⟨by decide,fun l' nl'=>?_⟩;refine ⟨Zat (by simp),fun b nb=>?_⟩;have s3:=Zaf nl' (.lst []);have s4:=Zaf nb (.tup [.str "refused",.str (rfS rr),.ref l']);have s34:=s3.trans s4;refine ⟨.ref a,.ref b,rfl,ZQ6 (s34 _ _ oa) (s34 _ _ ol) Za2 (s4 _ _ Za2),?_⟩;have s04:=s1.trans (s2.trans s34);exact q _ T A B M (Stp2.of1 (Stp.same w s04)) (j.same s04) rfl (so.same s04) rfl qm.mono
 ·obtain ⟨t1,t2,t3w,t4,t5⟩:=tn.ok e M' he;obtain ⟨lv,nlv,ev1,ev2⟩:=ev
  let T3:Tg:=fun b=>if H1 b=none∧(T2 b).1=r then (0,0) else T2 b
  have t3:∀ b,(T2 b).1≠r→T3 b=T2 b:=fun b hb=>if_neg (fun z=>hb z.2);have t3':∀ b o,H1 b=some o→T3 b=T2 b:=fun b o hb=>if_neg (fun z=>by rw [hb] at z;cases z.1);have w3':WT H2 T3:=fun b hb=>by
   rw [t3 b (by rw [st2.wt b hb];exact fun z=>r0 z.symm)];exact st2.wt b hb
  have j3:WJ X H2 T3 s A2 M':=j2.retag r (fun z=>rs z) r0 t3;have st3:Stp s H1 H2 T T3:=⟨st2.kp,st2.al,fun b o hb=>(t3' b o hb).trans (st2.tg b o hb),w3'⟩;have so2:StO H2 T3 r B (stOf M):=so1.other st3 rs;have tlv:(T3 lv).1≠r:=by
   by_cases z:(T2 lv).1=r
   ·rw [show T3 lv=(0,0) from if_pos ⟨nlv,z⟩];exact fun y=>r0 y.symm
   ·rw [t3 lv z];exact z
  clear_value T3;have k2:H2 dd=some (.tup (dV dl))∧T3 dd=(0,0):=⟨st3.kp _ _ ed1 (by rw [td];exact fun x=>s0 x.symm),(st3.tg _ _ ed1).trans td⟩;rw [t1];walk_at "ev";refine ifnd (fun z=>absurd rfl z) (fun _=>?_);walk_at "ev";refine ⟨dd,_,0,_,rfl,rfl,SqT.of k2.1,dV0 dl,?_⟩;walk_at "ev";refine ⟨_,rfl,dl,rfl,fun H3 s3=>?_⟩;have w3:=w3'.same s3;walk_at "ev";have hbo:(stOf M).born=((stOf M).cells.length:Int):=by
   show M.born=((M.cells.map (scOf M)).length:Int);rw [List.length_map];exact qm.bo
  refine ⟨_,dd,rfl,⟨T3,r,B,stOf M,dl,trivial,w3,r0,so2.same s3,rfl,s3 _ _ k2.1,k2.2,ZK3 od,qm.wf,hbo,by show (M.cells.map (scOf M)).length≤1000;rw [List.length_map];omega,by show (M.names.map _).length≤1000;rw [List.length_map];omega,t1,fun H4 T4 B4 st4 so4 bd4=>?_⟩⟩;rw [t4] at so4 ⊢;have ev1:=st4.tk _ _ (s3 _ _ ev1);have ev2:=st4.kp _ _ (s3 _ _ ev2) tlv;have j4:=(j3.same s3).other st4.toStp (Ne.symm rs) r0;walk_at "ev";refine ⟨by decide,fun l' nl'=>?_⟩;refine ⟨Zat (by simp),fun b nb=>?_⟩;have s5:=Zaf nl' (.lst []);have s6:=Zaf nb (.tup [.str (ZJl dl),oV e.thing,.ref l']);have s56:=s5.trans s6;rw [t2] at ev2;refine ⟨.ref a,.ref b,rfl,?_,?_⟩
  ·refine .inr ⟨a,b,_,_,rfl,rfl,.inr ⟨s56 _ _ ev1,by rw [← t3w];exact Za2⟩,by show 3≤1000000;decide,.cons (Zi6 rfl) (.cons (Zi6 (ZKx _)) (.cons (.inr ⟨lv,l',_,_,rfl,rfl,.inl ⟨s56 _ _ ev2,s6 _ _ Za2⟩,by show 0≤1000000;decide,.nil⟩) .nil))⟩
  ·have st03:Stp2 s r H H3 T T3:=((Stp2.of1 (Stp.same w s1)).trans (Stp2.of1 st3)).trans (Stp2.of1 (Stp.same w3' s3));have stA:=(st03.trans (Stp2.of2 st4.toStp)).trans (Stp2.of1 (Stp.same st4.wt s56));exact q _ T4 A2 B4 M' stA (j4.same s56) aw2 (so4.same s56) bd4 t5
end
def ZN9 (K:PySem.W.Frag):Sp:=fun vs H Q E=>∃ a k,vs=[.ref a,.int k]∧∃ ns:List Int,SqL K H a (ns.map V.int)∧Zwv ns∧0≤k∧∀ z:Int,Builtin.Int.intBits z≤2 ^ 20→Q (.int z) H
theorem ZQy {ys:List V}{R:Nat→V→Prop} (h:∀ (i:Nat) y,ys[i]? =some y→∃ k:Int,y=.int k∧3≤k∧k≤9):∃ ns:List Int,ys=ns.map V.int∧∀ k∈ns,3≤k∧k≤9:=by
 induction ys with
 | nil=>exact ⟨[],rfl,fun k hk=>(nomatch hk)⟩
 | cons y ys ih=>
  obtain ⟨k,e,hk⟩:=h 0 y rfl;obtain ⟨ns,e2,hn⟩:=ih fun i z ez=>h (i + 1) z (by simpa using ez);refine ⟨k :: ns,by rw [e,e2];rfl,fun z hz=>?_⟩;rcases List.mem_cons.mp hz with hz | hz
  ·rw [hz];exact hk
  ·exact hn z hz
theorem ZOu:∀ {H:Hp}{ts:List Addr}{ns:List Int},ts.length=ns.length→(∀ k∈ns,3≤k∧k≤9)→(∀ (i:Nat) t,ts[i]? =some t→∃ (nm:Str) (k:Int),ns[i]? =some k∧H t=some (.tup [.str nm,.int k]))→
  ∃ hands:List (Str×Int),hands.map (·.2)=ns∧Al (fun (t:Addr) (m:Str×Int)=>H t=some (.tup [.str m.1,.int m.2])∧0≤m.2∧m.2≤1000) ts hands:=by
 intro H ts
 induction ts with
 | nil=>
  intro ns hl _ _;cases ns with
  | nil=>exact ⟨[],rfl,.nil⟩
  | cons k ns=>simp at hl
 | cons t ts ih=>
  intro ns hl hb h;cases ns with
  | nil=>simp at hl
  | cons k ns=>
   obtain ⟨nm,k',e1,e2⟩:=h 0 t rfl;have ek:k=k':=by simpa using e1
   subst ek;obtain ⟨hands,a1,a2⟩:=ih (ns:=ns) (by simpa using hl) (fun z hz=>hb z (List.mem_cons_of_mem _ hz)) fun i t' et=>by
    obtain ⟨nm',k2,f1,f2⟩:=h (i + 1) t' (by simpa using et);exact ⟨nm',k2,by simpa using f1,f2⟩
   have:=hb k List.mem_cons_self;exact ⟨(nm,k) :: hands,by rw [List.map_cons,a1],.cons ⟨e2,by show 0≤k;omega,by show k≤1000;omega⟩ a2⟩
theorem ZNt {β:Type} (f:Nat→Option β):∀ n,(∀ i,i < n→∃ y,f i=some y)→((List.range n).filterMap f).length=n∧∀ i,i < n→((List.range n).filterMap f)[i]? =f i
 | 0,_=>⟨rfl,fun i hi=>absurd hi (Nat.not_lt_zero _)⟩
 | n + 1,h=>by
  obtain ⟨a,b⟩:=ZNt f n fun i hi=>h i (by omega);obtain ⟨y,hy⟩:=h n (by omega);have e:(List.range (n + 1)).filterMap f=(List.range n).filterMap f ++ [y]:=by
   rw [List.range_succ,List.filterMap_append,List.filterMap_cons_some hy];rfl
  rw [e];refine ⟨by rw [List.length_append,a];rfl,fun i hi=>?_⟩
  by_cases z:i < n
  ·rw [List.getElem?_append_left (by omega)];exact b i z
  ·have:i=n:=by omega
   subst this;rw [List.getElem?_append_right (by omega),a,Nat.sub_self,hy];rfl
def newS (room:Int) (ns:List Int):Sto:=⟨room,0,0,ns.map fun k=>List.replicate k.toNat none,[],[]⟩
def StoQ (room:Int) (ls:Addr) (H:Hp) (Q:VK):Prop:=∃ T r ns,WT H T∧H ls=some (.lst (ns.map V.int))∧ns.length≤30∧(∀ k∈ns,0≤k∧k≤1000)∧∀ H' T' A,Same H H'→(∀ b o,H b=some o→T' b=T b)→WT H' T'→StO H' T' r A (newS room ns)→Q (.ref A.d) H'
def Zzh (K:PySem.W.Frag):Sp:=fun vs H Q E=>∃ room ls,vs=[.int room,.ref ls]∧StoQ room ls H Q
def tagS (T:Tg) (r:Nat) (d lr dc dw:Addr) (rs:List Addr):Tg:=fun b=>if b=d then (r,0) else if b=lr then (r,1) else if b=dc then (r,2) else if b=dw then (r,3) else if b∈rs then (r,10 + rs.idxOf b) else T b
section
variable {K:PySem.W.Frag}{H:Hp}{Q:VK}{E:XK}{n:St→Hp→Prop}{bk ct:St→Hp→Prop}
theorem Zuy {a:Addr}{k:Int} (q:∃ ns:List Int,SqL K H a (ns.map V.int)∧Zwv ns∧0≤k∧∀ z:Int,Builtin.Int.intBits z≤2 ^ 20→Q (.int z) H):Zia K ⟨n,Q,bk,ct⟩ [some (.ref a),some (.int k)] H:=by
 obtain ⟨ns,hS,hb,h0,h⟩:=q;unfold Zia;walk_at "ev";refine Zhl hS ?_;walk_at "ev";refine ifd (fun h1=>?_) (fun h1=>?_)
 ·walk_at "ev";rw [List.length_map] at h1;have hk:k.toNat < ns.length:=by omega
  exact Zbe hS (Zrh h0 (v:=.int ns[k.toNat]) (by rw [List.getElem?_map,List.getElem?_eq_getElem hk]<;>rfl)) (h _ (hb _ (List.getElem_mem hk)))
 ·walk_at "ev";exact h _ (by decide)
theorem Zza {room:Int}{ls:Addr} (q:StoQ room ls H Q):Zkg K ⟨n,Q,bk,ct⟩ [some (.int room),some (.ref ls)] H:=by
 obtain ⟨T,r,ns,w,ol,l30,nb,q⟩:=q;unfold Zkg;walk_at "ev";intro d nd;simp only [Zwh];have s1:=Zaf nd (.dK []);have g1:upd H d (.dK []) d=some (.dK []):=Za2;generalize upd H d (.dK [])=H1 at s1 g1 ⊢;walk_at "ev";refine ZEt ?_;walk_at "ev";refine ⟨ls,rfl,⟨_,SqL.of (s1 _ _ ol)⟩,?_⟩;refine Zy7 (SqL.of (s1 _ _ ol)) (by rw [List.length_map];omega) (fun i r Hx=>∃ k:Int,ns[i]? =some k∧Hx r=some (.lst ((List.replicate k.toNat (none:Option Int)).map oV))) (fun _ _ _ _ ⟨k,e,z⟩ s=>⟨k,e,s _ _ z⟩) (fun _ _ _ ⟨_,_,z⟩=>⟨_,z⟩) (fun x H1 q hq=>Zs4 hq) (fun i x H9 hx s9 q hq=>?_) ?_
 ·rw [List.getElem?_map] at hx;cases hk:ns[i]? with
  | none=>rw [hk] at hx;cases hx
  | some k=>
   rw [hk] at hx;cases hx;have nbk:=nb k (List.mem_of_getElem? hk);walk_at "caps";refine rowN (m:=k) (by omega) (by omega) (fun H' kk sm hk'=>?_) fun r H' nr sm or=>hq r H' sm nr ⟨k,hk,or⟩;walk_at "ev";exact hk'
 intro rs H2 s2 lrs ndr nnr hRr lr nlr;rw [List.length_map] at lrs;have s3:=Zaf nlr (.lst (rs.map V.ref));have g3:upd H2 lr (.lst (rs.map V.ref)) lr=some (.lst (rs.map V.ref)):=Za2;have nlrs:lr∉rs:=fun z=>by
  obtain ⟨i,hi,e⟩:=List.getElem_of_mem z;obtain ⟨k,_,e2⟩:=hRr i lr (by rw [List.getElem?_eq_getElem hi,e]);rw [nlr] at e2;cases e2
 generalize upd H2 lr (.lst (rs.map V.ref))=H3 at s3 g3 ⊢;walk_at "ev";intro dc ndc;have s4:=Zaf ndc (.dK []);have g4:upd H3 dc (.dK []) dc=some (.dK []):=Za2;generalize upd H3 dc (.dK [])=H4 at s4 g4 ⊢;walk_at "ev";intro dw ndw;have s5:=Zaf ndw (.dK []);have g5:upd H4 dw (.dK []) dw=some (.dK []):=Za2;generalize upd H4 dw (.dK [])=H5 at s5 g5 ⊢;walk_at "ev";have s15:Same H1 H5:=s2.trans (s3.trans (s4.trans s5));refine ⟨s15 _ _ g1,[(Sum.inr "room",.int room),(Sum.inr "used",.int 0),(Sum.inr "born",.int 0),(Sum.inr "rows",.ref lr),(Sum.inr "cells",.ref dc),(Sum.inr "words",.ref dw)],rfl,by simp,?_⟩;have em:Zjr [] [((Sum.inr "room":L2.Key),V.int room),(Sum.inr "used",.int 0),(Sum.inr "born",.int 0),(Sum.inr "rows",.ref lr),(Sum.inr "cells",.ref dc),(Sum.inr "words",.ref dw)]=zK stN (stV room 0 0 lr dc dw):=
  Zzv stN (stV room 0 0 lr dc dw) [] [] rfl rfl (by decide +kernel)
 rw [em];have h2d:=s2 _ _ g1;have n1:lr≠d:=(Za5 h2d nlr).symm;have n2:dc≠d:=(Za5 (s3 _ _ h2d) ndc).symm;have n3:dc≠lr:=(Za5 g3 ndc).symm;have n4:dw≠d:=(Za5 (s4 _ _ (s3 _ _ h2d)) ndw).symm;have n5:dw≠lr:=(Za5 (s4 _ _ g3) ndw).symm;have n6:dw≠dc:=(Za5 g4 ndw).symm;have nr:∀ x∈rs,x≠d∧x≠lr∧x≠dc∧x≠dw∧∃ o,H5 x=some o:=fun x hx=>by
  obtain ⟨i,hi,e⟩:=List.getElem_of_mem hx;obtain ⟨k,_,e2⟩:=hRr i x (by rw [List.getElem?_eq_getElem hi,e]);refine ⟨fun z=>?_,fun z=>nlrs (z ▸ hx),Za5 (s3 _ _ e2) ndc,Za5 (s4 _ _ (s3 _ _ e2)) ndw,⟨_,s5 _ _ (s4 _ _ (s3 _ _ e2))⟩⟩;have:=nnr x hx;rw [z,g1] at this;cases this
 have told:∀ b,b≠d→b≠lr→b≠dc→b≠dw→b∉rs→tagS T r d lr dc dw rs b=T b:=fun b z1 z2 z3 z4 z5=>by
  unfold tagS;rw [if_neg z1,if_neg z2,if_neg z3,if_neg z4,if_neg z5]
 refine q _ (tagS T r d lr dc dw rs) ⟨d,lr,dc,dw,rs,[]⟩ (fun b o hb=>(Za9 (Za5 hb nd)).trans (s15 _ _ (s1 _ _ hb))) (fun b o hb=>?_) (fun b hb=>?_) ?_
 ·have h1:=s1 _ _ hb;have h2:=s2 _ _ h1;have h3:=s3 _ _ h2;refine told b (Za5 hb nd) (Za5 h2 nlr) (Za5 h3 ndc) (Za5 (s4 _ _ h3) ndw) fun z=>?_;have:=nnr b z;rw [h1] at this;cases this
 ·have z1:b≠d:=fun z=>by rw [z,Za2] at hb;cases hb
  rw [Za9 z1] at hb;have z0:H b=none:=s1.free (s15.free hb);rw [told b z1 (fun z=>by rw [z,s5 _ _ (s4 _ _ g3)] at hb;cases hb) (fun z=>by rw [z,s5 _ _ g4] at hb;cases hb) (fun z=>by rw [z,g5] at hb;cases hb) (fun z=>by
   obtain ⟨_,_,_,_,o,ho⟩:=nr b z;rw [ho] at hb;cases hb)]
  exact w b z0
 ·have o6:∀ b o,H5 b=some o→b≠d→upd H5 d (.dK (zK stN (stV room 0 0 lr dc dw))) b=some o:=fun b o h ne=>(Za9 ne).trans h;refine ⟨?_,Za2,?_,o6 _ _ (s5 _ _ (s4 _ _ g3)) n1,?_,by show rs.length≤30;omega,fun j a x e1 e2=>?_,?_,o6 _ _ (s5 _ _ g4) n2,rfl,fun i p c e1 e2=>?_,?_,o6 _ _ g5 n4⟩
  ·show tagS T r d lr dc dw rs d=_;unfold tagS;rw [if_pos rfl]
  ·show tagS T r d lr dc dw rs lr=_;unfold tagS;rw [if_neg n1,if_pos rfl]
  ·show rs.length=(ns.map _).length;rw [List.length_map];exact lrs
  ·have e1:rs[j]? =some a:=e1;have e2:(ns.map fun k=>List.replicate k.toNat (none:Option Int))[j]? =some x:=e2;obtain ⟨k,f1,f2⟩:=hRr j a e1;rw [List.getElem?_map,f1] at e2;have e3:List.replicate k.toNat none=x:=Option.some.inj e2;have hm:=List.mem_of_getElem? e1;obtain ⟨m1,m2,m3,m4,_⟩:=nr a hm;refine ⟨?_,?_⟩
   ·show tagS T r d lr dc dw rs a=_;unfold tagS;rw [if_neg m1,if_neg m2,if_neg m3,if_neg m4,if_pos hm,ZEs ndr e1]
   ·rw [← e3];exact o6 _ _ (s5 _ _ (s4 _ _ (s3 _ _ f2))) m1
  ·show tagS T r d lr dc dw rs dc=_;unfold tagS;rw [if_neg n2,if_neg n3,if_pos rfl]
  ·exact absurd (show ([]:List (Addr×Addr))[i]? =some p from e1) (by simp)
  ·show tagS T r d lr dc dw rs dw=_;unfold tagS;rw [if_neg n4,if_neg n5,if_neg n6,if_pos rfl]
end
def StaQ (X:Cs) (wo d:Addr) (H:Hp) (Q:VK):Prop:=∃ T s r A B M sl i,WT H T∧r≠0∧r≠s∧WJ X H T s A M∧A.wo=wo∧StO H T r B (stOf M)∧B.d=d∧Qm M sl i∧i≤100∧(∀ k∈sl,k≤1000)∧∀ H',Stp r H H' T T→Q (.bl true) H'
def Zqa (X:Cs):Sp:=fun vs H Q E=>∃ wo d,vs=[.ref wo,.ref d]∧StaQ X wo d H Q
theorem ZPu {cs:List (Addr×Addr)}{i:Nat}{kv:L2.Key×V} (h:(ceK cs)[i]? =some kv):∃ p,cs[i]? =some p∧kv=(Sum.inl ((i:Int) + 1),V.ref p.1):=by
 unfold ceK at h;rw [List.getElem?_map,List.getElem?_zipIdx] at h;cases hc:cs[i]? with
 | none=>rw [hc] at h;cases h
 | some p=>
  rw [hc] at h;refine ⟨p,rfl,?_⟩;have:=Option.some.inj h;rw [← this];simp
structure DuO (H:Hp) (due:Addr) (j:Nat) (c:Sc) (p:Addr×Addr):Prop where
 o1:H p.1=some (.tup [.int j,.int ((j:Int) + 1),.int (c.un - 1 - c.fl.length),.int c.ld,.ref p.2,.str "kept"])
 o2:H p.2=some (.lst (c.fl.map oV))
 n1:p.1≠due
 n2:p.2≠due
theorem DuO.mv {H H':Hp}{due:Addr}{j:Nat}{c:Sc}{p:Addr×Addr} (o:DuO H due j c p) (s:∀ b o,H b=some o→b≠due→H' b=some o):DuO H' due j c p:=⟨s _ _ o.o1 o.n1,s _ _ o.o2 o.n2,o.n1,o.n2⟩
structure DueL (H1 Hx:Hp) (due dc:Addr) (o:Obj) (cs:List (Addr×Addr)) (cells:List Sc) (ps:List (Addr×Addr)):Prop where
 ol:Hx due=some (.lst (ps.map fun p=>V.ref p.1))
 od:Hx dc=some (.frz o (.dK (ceK cs)))
 kp:∀ b u,H1 b=some u→b≠due→b≠dc→Hx b=some u
 rw_:∀ (j:Nat) p,ps[j]? =some p→∃ c,cells[j]? =some c∧DuO Hx due j c p
section
variable {K:PySem.W.Frag}{X:Cs}{H:Hp}{Q:VK}{E:XK}{n:St→Hp→Prop}{bk ct:St→Hp→Prop}
theorem ZLr {H:Hp}{M:Wm}{sl:List Int}{i:Nat}{lt due:Addr}{ls:List Addr}{ps:List (Addr×Addr)} (qm:Qm M sl i) (hi:i≤100) (g1:H lt=some (.lst (ls.map V.ref))) (g2:ls.length=(Zjw M).length) (g3:∀ (j:Nat) r t,ls[j]? =some r→(Zjw M)[j]? =some t→∃ f,TcO M H (r,f) t)
  (ol:H due=some (.lst (ps.map fun p=>V.ref p.1))) (lp:ps.length=M.cells.length) (rw_:∀ (j:Nat) p,ps[j]? =some p→∃ c,(M.cells.map (scOf M))[j]? =some c∧DuO H due j c p):Sm H 3 (.ref lt) (.ref due):=by
 have hcl:=qm.cl;obtain ⟨t1',t2'⟩:=ZNt (fun (i:Nat)=>((M.cells[i]?).join).map fun c=>((i:Int),c)) M.cells.length fun k hk=>by
  obtain ⟨c,e,_⟩:=qm.ce k _ (List.getElem?_eq_getElem hk);exact ⟨((k:Int),c),by rw [List.getElem?_eq_getElem hk,e];rfl⟩
 have tl:(Zjw M).length=M.cells.length:=t1';refine .inr ⟨lt,due,_,_,rfl,rfl,.inl ⟨g1,ol⟩,by rw [List.length_map,g2,tl];omega,ZPy (by rw [List.length_map,List.length_map,g2,tl,lp]) fun k x y ex ey=>?_⟩;rw [List.getElem?_map] at ex ey;obtain ⟨r,hr,rfl⟩:=Option.map_eq_some_iff.mp ex;obtain ⟨p,hp,rfl⟩:=Option.map_eq_some_iff.mp ey;have hk:k < M.cells.length:=by rw [← lp];exact (List.getElem?_eq_some_iff.mp hp).1
 obtain ⟨c,e,e1,e2⟩:=qm.ce k _ (List.getElem?_eq_getElem hk);have hck:M.cells[k]? =some (some c):=by rw [List.getElem?_eq_getElem hk,e]
 have htk:(Zjw M)[k]? =some ((k:Int),c):=by
  have:=t2' k hk;rw [hck] at this;exact this
 obtain ⟨f,o1,o2⟩:=g3 k r _ hr htk;obtain ⟨c',hc',u⟩:=rw_ k p hp;rw [List.getElem?_map,hck] at hc';have hc'':scOf M (some c)=c':=Option.some.inj hc';subst hc'';have hmk:ZEd M (k:Int) c="kept":=by
  unfold ZEd;rw [if_pos qm.ph]
 simp only at o1 o2;rw [e1,hmk] at o1;have u1:=u.o1;have eu:(scOf M (some c)).un - 1 - (((scOf M (some c)).fl.length:Nat):Int)=c.bulk:=by
  show 1 + (c.fl.length:Int) + c.bulk - 1 - ((c.fl.map (bAt M)).length:Nat)=_;rw [List.length_map];omega
 rw [eu] at u1;refine .inr ⟨r,p.1,_,_,rfl,rfl,.inr ⟨o1,u1⟩,by simp,.cons (Zi6 rfl) (.cons (Zi6 rfl) (.cons (Zi6 rfl) (.cons (Zi6 rfl) (.cons (.inr ⟨f,p.2,_,_,rfl,rfl,.inl ⟨o2,u.o2⟩,?_,Ztj (ZNx _)⟩) (.cons (Zi6 rfl) .nil)))))⟩;rw [List.length_map,List.length_map];omega
theorem Zwd {wo d:Addr} (Tx:TxW K X) (q:StaQ X wo d H Q):Zjg K (Zj5 3) (Zts X) (ZGd X) ⟨n,Q,bk,ct⟩ [some (.ref wo),some (.ref d),none,none,none,none] H:=by
 obtain ⟨T,s,r,A,B,M,sl,i,w,r0,rs,j,rfl,so,rfl,qm,hi,hsl,q⟩:=q;have hcl:=qm.cl;unfold Zjg;walk_at "ev";refine ⟨by decide,fun due ndue=>?_⟩;have s1:=Zaf ndue (.lst []);have g1:upd H due (.lst []) due=some (.lst []):=Za2;generalize upd H due (.lst [])=H1 at s1 g1 ⊢;have so1:=so.same s1;walk_at "ev";refine ⟨_,_,rfl,so1.cells,?_⟩;walk_at "ev";refine ⟨_,_,rfl,so1.oc,fun o=>?_⟩;have ndc:due≠B.dc:=(Za5 so.oc ndue).symm;have lcs:B.cs.length=M.cells.length:=by
  have:=so.cl;rw [this];show (M.cells.map (scOf M)).length=_;rw [List.length_map]
 have d0:DueL H1 (upd H1 B.dc (.frz o (.dK (ceK B.cs)))) due B.dc o B.cs (M.cells.map (scOf M)) []:=
  ⟨(Za9 ndc).trans g1,Za2,fun b u hb z1 z2=>(Za9 z2).trans hb,fun j p e=>by simp at e⟩
 generalize upd H1 B.dc (.frz o (.dK (ceK B.cs)))=H2 at d0 ⊢;refine forD (ceK B.cs) (fun i σ Hx=>∃ v4 v5 ps,σ=[some (.ref A.wo),some (.ref B.d),some (.ref due),some (.ref B.dc),v4,v5]∧DueL H1 Hx due B.dc o B.cs (M.cells.map (scOf M)) ps∧ps.length=i) ⟨_,_,[],rfl,d0,rfl⟩ (fun _ _ _ _ ⟨_,_,_,_,e,_⟩=>e.od) ?_ ?_
 ·rintro k kv σ Hx hkv ⟨v4,v5,ps,rfl,dl,lp⟩;obtain ⟨p,hp,rfl⟩:=ZPu hkv;have hk:k < M.cells.length:=by rw [← lcs];exact (List.getElem?_eq_some_iff.mp hp).1
  have hc:(stOf M).cells[k]? =some ((stOf M).cells[k]'(by show k < (M.cells.map (scOf M)).length;rw [List.length_map];exact hk)):=List.getElem?_eq_getElem _;generalize (stOf M).cells[k]'(by show k < (M.cells.map (scOf M)).length;rw [List.length_map];exact hk)=c at hc;obtain ⟨t1,t2,o1,o2⟩:=so1.cc k p c hp hc;have np1:p.1≠due:=Za5 (so.cc k p c hp hc).2.2.1 ndue;have np2:p.2≠due:=Za5 (so.cc k p c hp hc).2.2.2 ndue;have tc1:=so1.tc;have nq1:p.1≠B.dc:=Zrq t1 tc1 (by simp;omega);have nq2:p.2≠B.dc:=Zrq t2 tc1 (by simp;omega);have o1:=dl.kp _ _ o1 np1 nq1;have o2:=dl.kp _ _ o2 np2 nq2;rw [show kV ((Sum.inl ((k:Int) + 1):L2.Key),V.ref p.1).1=V.int ((k:Int) + 1) from rfl];walk_at "ev";refine ⟨B.dc,_,rfl,.inl ⟨ceK B.cs,Sum.inl ((k:Int) + 1),.inr ⟨o,dl.od⟩,rfl,(ZNw hp).symm⟩,?_⟩;walk_at "ev";refine ⟨.inl ⟨rfl,_,SqL.of dl.ol⟩,?_⟩;walk_at "ev";refine Zbe (SqL.of o1) (Zal (j:=0) (v:=.int c.un) rfl) ?_;walk_at "ev";refine Zbe (SqL.of o1) (Zal (j:=2) (v:=.ref p.2) rfl) ?_;walk_at "ev";refine Zhl (SqL.of o2) ?_;walk_at "ev";refine Zbe (SqL.of o1) (Zal (j:=1) (v:=.int c.ld) rfl) ?_;walk_at "ev";refine Zbe (SqL.of o1) (Zal (j:=2) (v:=.ref p.2) rfl) ?_;walk_at "ev";refine ZP9 (SqL.of o2) fun l nl=>?_;rw [List.length_map,show (k:Int) + 1 - 1=k from by omega];have s3:=Zaf nl (.lst (c.fl.map oV));have g3:upd Hx l (.lst (c.fl.map oV)) l=some (.lst (c.fl.map oV)):=Za2;have nld:l≠due:=(Za5 dl.ol nl).symm;generalize upd Hx l (.lst (c.fl.map oV))=H3 at s3 g3 ⊢;walk_at "ev";refine ⟨Zat (by simp),fun t nt=>?_⟩;have s4:=Zaf nt (.tup [.int k,.int ((k:Int) + 1),.int (c.un - 1 - c.fl.length),.int c.ld,.ref l,.str "kept"]);have g4:upd H3 t (.tup [.int k,.int ((k:Int) + 1),.int (c.un - 1 - c.fl.length),.int c.ld,.ref l,.str "kept"]) t=some (.tup [.int k,.int ((k:Int) + 1),.int (c.un - 1 - c.fl.length),.int c.ld,.ref l,.str "kept"]):=Za2;have ntd:t≠due:=(Za5 (s3 _ _ dl.ol) nt).symm;generalize upd H3 t (.tup [.int k,.int ((k:Int) + 1),.int (c.un - 1 - c.fl.length),.int c.ld,.ref l,.str "kept"])=H4 at s4 g4 ⊢;have s24:=s3.trans s4;walk_at "ev";refine ⟨due,_,_,rfl,rfl,s24 _ _ dl.ol,by rw [List.length_map,lp];exact Nat.lt_of_le_of_lt (show _≤1000 by omega) (by decide),?_⟩;rw [show (ps.map fun p=>V.ref p.1) ++ [V.ref t]=(ps ++ [(t,l)]).map fun p=>V.ref p.1 from by rw [List.map_append];rfl];walk_at "ev";have ok:∀ b u,H4 b=some u→b≠due→upd H4 due (.lst ((ps ++ [(t,l)]).map fun p=>V.ref p.1)) b=some u:=fun b u hb z=>(Za9 z).trans hb;refine ⟨_,_,ps ++ [(t,l)],rfl,⟨Za2,ok _ _ (s24 _ _ dl.od) ndc.symm,fun b u hb z1 z2=>ok _ _ (s24 _ _ (dl.kp b u hb z1 z2)) z1,fun m p' e=>?_⟩,by rw [List.length_append,lp];rfl⟩
  by_cases hm:m < ps.length
  ·rw [List.getElem?_append_left hm] at e;obtain ⟨c',hc',u⟩:=dl.rw_ m p' e;exact ⟨c',hc',u.mv fun b o hb z=>ok _ _ (s24 _ _ hb) z⟩
  ·have hm':=(List.getElem?_eq_some_iff.mp e).1;rw [List.length_append,List.length_singleton] at hm';have em:m=ps.length:=by omega
   subst em;rw [List.getElem?_append_right (Nat.le_refl _),Nat.sub_self] at e;have e':(t,l)=p':=by simpa using e
   subst e';rw [lp];exact ⟨c,hc,⟨ok _ _ g4 ntd,ok _ _ (s4 _ _ g3) nld,ntd,nld⟩⟩
 ·rintro σ Hx ⟨v4,v5,ps,rfl,dl,lp⟩;rw [ZLj,lcs] at lp;have kpx:∀ b u,H b=some u→b≠B.dc→Hx b=some u:=fun b u hb z=>dl.kp _ _ (s1 _ _ hb) (Za5 hb ndue) z;have ntc:∀ b m,T b=m→m≠(r,2)→b≠B.dc:=fun b m h z=>Zrq h so.tc z;have jx:WJ X Hx T s A M:=j.mv ⟨fun b u hb hs _=>kpx b u hb (fun z=>rs (by rw [← hs,z,so.tc])),fun _ _ _=>rfl⟩ fun b u hb ht=>kpx b u hb (ntc _ _ ht (fun z=>r0 (congrArg Prod.fst z).symm));have stx:Stp r H Hx T T:=⟨fun b u hb ht=>kpx b u hb (fun z=>ht (by rw [z,so.tc])),fun b u hb=>by
   by_cases z:b=B.dc
   ·exact ⟨_,z ▸ dl.od⟩
   ·exact ⟨u,kpx b u hb z⟩,fun _ _ _=>rfl,fun b hb=>by
   by_cases z:b=B.dc
   ·rw [z,dl.od] at hb;cases hb
   ·cases hH:H b with
    | none=>exact w b hH
    | some u=>rw [kpx b u hH z] at hb;cases hb⟩
  have odx:Hx B.d=some (.dK (zK stN (stV (stOf M).room (stOf M).used (stOf M).born B.lr B.dc B.dw))):=kpx _ _ so.od (ntc _ _ so.td (by simp));have orx:=kpx _ _ so.orr (ntc _ _ so.tr (by simp));have rrx:∀ (j:Nat) a x,B.rs[j]? =some a→(rowsOf M)[j]? =some x→Hx a=some (.lst (x.map oV)):=fun j a x e1 e2=>by
   obtain ⟨b1,b2⟩:=so.rr j a x e1 e2;exact kpx _ _ b2 (ntc _ _ b1 (by simp;omega))
  have hfl:∀ c,some c∈M.cells→c.fl.length≤1000:=fun c hc=>by
   obtain ⟨k,hk,e⟩:=List.getElem_of_mem hc;obtain ⟨c',e1,_,e3⟩:=qm.ce k _ (by rw [List.getElem?_eq_getElem hk,e]);cases e1;exact e3
  have hhl:∀ m∈M.hands,m.2.length≤1000:=fun m hm=>by
   have:m.2.length∈M.hands.map fun m=>m.2.length:=List.mem_map.mpr ⟨m,hm,rfl⟩;rw [qm.hl] at this;obtain ⟨k,hk,e⟩:=List.mem_map.mp this;have:=hsl k hk;omega
  have hrl:∀ x∈rowsOf M,x.length≤1000:=fun x hx=>by
   obtain ⟨m,hm,rfl⟩:=List.mem_map.mp hx;rw [List.length_map];exact hhl m hm
  have hr30:(rowsOf M).length≤1000:=by
   have h1:=so.rl;have h2:=so.r5;have h1:B.rs.length=(rowsOf M).length:=h1;omega
  walk_at "ev";refine ⟨_,rfl,T,s,A,M,jx,rfl,by omega,hfl,fun lt lts H3 s3 g1 g2 g3=>?_⟩;walk_at "ev";refine ⟨_,_,rfl,ZLr qm hi g1 g2 g3 (s3 _ _ dl.ol) lp (fun m p e=>?_),?_⟩
  ·obtain ⟨c,hc,u⟩:=dl.rw_ m p e;exact ⟨c,hc,u.mv fun b o hb _=>s3 _ _ hb⟩
  walk_at "ev";refine ⟨_,rfl,T,s,A,M,jx.same s3,rfl,by omega,hhl,fun lb lbs H4 s4 h1 h2 h3=>?_⟩;have s34:=s3.trans s4;walk_at "ev";refine ⟨_,_,rfl,zrd (i:=3) (s34 _ _ odx) rfl (by decide +kernel) rfl,?_⟩;walk_at "ev";refine ⟨_,_,rfl,ZO9 h1 (s34 _ _ orx) h2 so.rl hr30 hrl h3 (fun j a x e1 e2=>s34 _ _ (rrx j a x e1 e2)),?_⟩;have j4:=jx.same s34;obtain ⟨dx,ow⟩:=j4.jb.ow;obtain ⟨dh,oh⟩:=j4.jh.oh;walk_at "ev";refine Zao ow Tx.cW Tx.nWh Zb2 ?_;walk_at "ev";refine Zao oh Tx.c.Zca Tx.c.Zdz Zkw ?_;walk_at "ev";refine ⟨_,_,rfl,zrd (i:=1) (s34 _ _ odx) rfl (by decide +kernel) rfl,?_⟩;walk_at "ev";refine ⟨_,_,rfl,Zi6 rfl,?_⟩;exact q _ (stx.trans (Stp.same stx.wt s34))
end
section
variable {M:Wm}{sl:List Int}{ws:List Str}{i:Nat}
theorem ZNh (q:Qm M sl i) (o:SlOk sl ws) {x:Int} (hx0:0≤x) (hx:x < sl.length) (y:Int):okS M x.toNat (y % slF sl x).toNat:=by
 have hl:x.toNat < sl.length:=by omega
 have b:=ZJg o x;have e:slF sl x=sl[x.toNat]:=by unfold slF;rw [List.getElem?_eq_getElem hl];rfl
 have hm:(M.hands.map fun m=>m.2.length)[x.toNat]? =some (sl[x.toNat]).toNat:=by rw [q.hl,List.getElem?_map,List.getElem?_eq_getElem hl];rfl
 rw [List.getElem?_map] at hm;obtain ⟨m,h1,h2⟩:=Option.map_eq_some_iff.mp hm;have c1:=Int.emod_nonneg y (show slF sl x≠0 by omega);have c2:=Int.emod_lt_of_pos y (show 0 < slF sl x by omega);exact ⟨m,h1,by rw [h2,← e];omega⟩
theorem ZNi (tri:Int):0≤mnF tri∧mnF tri≤1000:=by
 unfold mnF;cases e:([0,1,2,3,2,1,2,8]:List Int)[(tri % 8).toNat]? with
 | none=>exact ⟨by decide,by decide⟩
 | some x=>
  have:∀ x∈([0,1,2,3,2,1,2,8]:List Int),0≤x∧x≤1000:=by decide
  exact this x (List.mem_of_getElem? e)
theorem ZRr (c one:Int):0≤bkF c one:=by
 unfold bkF;have hv:=Int.emod_nonneg (c * 7654321 ^ Int.toNat 2) (show ((10:Int) ^ Int.toNat 12 + 1)≠0 by decide);generalize c * 7654321 ^ Int.toNat 2 % (10 ^ Int.toNat 12 + 1)=v at hv;cases e:([0,1,0,3,0,v]:List Int)[(one / 18 % 6).toNat]? with
 | none=>show (0:Int)≤0;decide
 | some x=>
  have hm:=List.mem_of_getElem? e;show 0≤x;simp only [List.mem_cons,List.not_mem_nil,or_false] at hm;omega
theorem Qm.okD (q:Qm M sl i) (o:SlOk sl ws) (c:Int):K23.okD M (ZCp c sl ws):=by
 unfold ZCp ZN2;generalize mixF c 48271=one;generalize mixF c 69621=two;generalize mixF c 16807=tri;have n0:(0:Int) < sl.length:=by have:=o.a;omega
 have h0:=Int.emod_nonneg two (show (sl.length:Int)≠0 by omega);have h1:=Int.emod_lt_of_pos two n0;have g0:=Int.emod_nonneg (tri / 600) (show (sl.length:Int)≠0 by omega);have g1:=Int.emod_lt_of_pos (tri / 600) n0;have hh:=fun y=>ZNh q o h0 h1 y;have hg:=fun y=>ZNh q o g0 g1 y;split
 ·exact ⟨hh _,(ZNi tri).1,(ZNi tri).2,ZRr c one⟩
 split
 ·exact ⟨hh _,hh _⟩
 split
 ·exact ⟨hh _,hh _⟩
 split
 ·exact ⟨hh _,hh _⟩
 split
 ·exact hh _
 split
 ·exact ⟨hh _,hg _⟩
 split
 ·exact hh _
 split
 ·exact hh _
 split
 ·exact hh _
 ·exact hh _
theorem Qm.new {room w t:Int}{hands:List (Str×Int)} (eh:hands.map (·.2)=sl) (t0:0≤t) (t1:t < 4):Qm (newW room hands w t) sl 0:=by
 refine ⟨⟨fun m hm x hx=>?_,fun c hc=>(nomatch hc),fun c hc=>(nomatch hc)⟩,rfl,rfl,Nat.le_refl _,fun k x hk=>(by simp [newW] at hk),rfl,fun m hm=>(nomatch hm),Nat.le_refl _,⟨t0,t1⟩,?_⟩
 ·obtain ⟨m',_,rfl⟩:=List.mem_map.mp hm;have:=List.eq_of_mem_replicate hx;cases this
 ·show (hands.map fun m=>(m.1,List.replicate m.2.toNat (none:Option Int))).map _=_;rw [List.map_map,← eh,List.map_map];refine List.map_congr_left fun m _=>?_;show (List.replicate m.2.toNat (none:Option Int)).length=_;rw [List.length_replicate];rfl
theorem ZLt {room w t:Int}{hands:List (Str×Int)} (eh:hands.map (·.2)=sl):stOf (newW room hands w t)=newS room sl:=by
 have erows:rowsOf (newW room hands w t)=sl.map fun k=>List.replicate k.toNat none:=by
  show (hands.map fun m=>(m.1,List.replicate m.2.toNat (none:Option Int))).map _=_;rw [List.map_map,← eh,List.map_map];refine List.map_congr_left fun m hm=>?_;show (List.replicate m.2.toNat (none:Option Int)).map _=List.replicate m.2.toNat none;rw [List.map_replicate];rfl
 show (⟨room,0,0,rowsOf (newW room hands w t),[],[]⟩:Sto)=_;rw [erows];rfl
end
structure Lw (X:Cs) (H:Hp) (T:Tg) (A1 A2:Wa) (B1 B2:Sa) (M1 M2:Wm) (w1 w2 d1 d2:Addr):Prop where
 w:WT H T
 j1:WJ X H T 1 A1 M1
 a1:A1.wo=w1
 j2:WJ X H T 3 A2 M2
 a2:A2.wo=w2
 s1:StO H T 2 B1 (stOf M1)
 b1:B1.d=d1
 s2:StO H T 4 B2 (stOf M2)
 b2:B2.d=d2
structure Fx (H:Hp) (T:Tg) (src lm lw lW lS lk:Addr) (zs ns:List Int) (ws:List Str) (w1 w2 d1 d2:Addr) (ks:List Addr):Prop where
 z:H src=some (.lst (zs.map V.int))∧T src=(0,0)
 m:H lm=some (.lst (ns.map V.int))∧T lm=(0,0)
 s:H lw=some (.lst (ws.map V.str))∧T lw=(0,0)
 o:H lW=some (.lst [.ref w1,.ref w2])∧T lW=(0,0)
 t:H lS=some (.lst [.ref d1,.ref d2])∧T lS=(0,0)
 k:H lk=some (.lst (ks.map V.ref))∧T lk=(5,0)
 e:∀ k∈ks,∃ x y d,(H k=some (.tup [.ref x,.ref y])∧T k=(0,0))∧(H x=some (.tup (dV d))∧T x=(0,0))∧(H y=some (.tup (dV d))∧T y=(0,0))
section
variable {X:Cs}{H H':Hp}{T T':Tg}{A1 A2:Wa}{B1 B2:Sa}{M1 M2:Wm}{w1 w2 d1 d2 src lm lw lW lS lk:Addr}{zs ns:List Int}{ws:List Str}{ks:List Addr}
theorem Lw.mv (l:Lw X H T A1 A2 B1 B2 M1 M2 w1 w2 d1 d2) (s:Same H H') (tg:∀ b o,H b=some o→T' b=T b) (w:WT H' T'):Lw X H' T' A1 A2 B1 B2 M1 M2 w1 w2 d1 d2:=
 ⟨w,l.j1.mv ⟨fun b o h _ _=>s b o h,tg⟩ fun b o h _=>s b o h,l.a1,l.j2.mv ⟨fun b o h _ _=>s b o h,tg⟩ fun b o h _=>s b o h,l.a2,l.s1.keep (fun b o h _=>s b o h) tg,l.b1,l.s2.keep (fun b o h _=>s b o h) tg,l.b2⟩
theorem Lw.same (l:Lw X H T A1 A2 B1 B2 M1 M2 w1 w2 d1 d2) (s:Same H H'):Lw X H' T A1 A2 B1 B2 M1 M2 w1 w2 d1 d2:=l.mv s (fun _ _ _=>rfl) (l.w.same s)
theorem Fx.mv (f:Fx H T src lm lw lW lS lk zs ns ws w1 w2 d1 d2 ks) (kp:∀ b o,H b=some o→(T b=(0,0)∨T b=(5,0))→H' b=some o) (tg:∀ b o,H b=some o→T' b=T b):Fx H' T' src lm lw lW lS lk zs ns ws w1 w2 d1 d2 ks:=by
 have z:∀ {b:Addr}{o:HO},H b=some o∧T b=(0,0)→H' b=some o∧T' b=(0,0):=fun {b o} h=>⟨kp b o h.1 (.inl h.2),(tg b o h.1).trans h.2⟩;refine ⟨z f.z,z f.m,z f.s,z f.o,z f.t,⟨kp _ _ f.k.1 (.inr f.k.2),(tg _ _ f.k.1).trans f.k.2⟩,fun k hk=>?_⟩;obtain ⟨x,y,d,a,b,c⟩:=f.e k hk;exact ⟨x,y,d,z a,z b,z c⟩
theorem Fx.same (f:Fx H T src lm lw lW lS lk zs ns ws w1 w2 d1 d2 ks) (s:Same H H'):Fx H' T src lm lw lW lS lk zs ns ws w1 w2 d1 d2 ks:=f.mv (fun b o h _=>s b o h) fun _ _ _=>rfl
theorem Fx.push (f:Fx H T src lm lw lW lS lk zs ns ws w1 w2 d1 d2 ks) {k x y:Addr}{d:Deed} (a:H k=some (.tup [.ref x,.ref y])∧T k=(0,0)) (b:H x=some (.tup (dV d))∧T x=(0,0)) (c:H y=some (.tup (dV d))∧T y=(0,0)):
  Fx (upd H lk (.lst ((ks ++ [k]).map V.ref))) T src lm lw lW lS lk zs ns ws w1 w2 d1 d2 (ks ++ [k]):=by
 have z:∀ {b:Addr}{o:HO},H b=some o∧T b=(0,0)→upd H lk (.lst ((ks ++ [k]).map V.ref)) b=some o∧T b=(0,0):=fun {b o} h=>⟨(Za9 (Zrq h.2 f.k.2 (by simp))).trans h.1,h.2⟩;refine ⟨z f.z,z f.m,z f.s,z f.o,z f.t,⟨Za2,f.k.2⟩,fun k' hk=>?_⟩;rcases List.mem_append.mp hk with hk | hk
 ·obtain ⟨x,y,d,a,b,c⟩:=f.e k' hk;exact ⟨x,y,d,z a,z b,z c⟩
 ·rw [List.mem_singleton.mp hk];exact ⟨x,y,d,z a,z b,z c⟩
theorem Lw.push (l:Lw X H T A1 A2 B1 B2 M1 M2 w1 w2 d1 d2) (t:T lk=(5,0)) {o o':HO} (h:H lk=some o):Lw X (upd H lk o') T A1 A2 B1 B2 M1 M2 w1 w2 d1 d2:=by
 have st:Stp 5 H (upd H lk o') T T:=Stp.upd l.w h (by rw [t]);exact ⟨st.wt,l.j1.other st (by decide) (by decide),l.a1,l.j2.other st (by decide) (by decide),l.a2,l.s1.other st (by decide),l.b1,l.s2.other st (by decide),l.b2⟩
theorem Stp2.wj {s r q:Nat}{A:Wa}{M:Wm} (e:Stp2 s r H H' T T') (j:WJ X H T q A M) (n1:q≠s) (n2:q≠r) (s0:s≠0) (r0:r≠0):WJ X H' T' q A M:=
 j.mv ⟨fun b o h t _=>e.kp b o h (by rw [t];exact n1) (by rw [t];exact n2),e.tg⟩ fun b o h t=>e.kp b o h (by rw [t];exact fun z=>s0 z.symm) (by rw [t];exact fun z=>r0 z.symm)
theorem Stp2.so {s r q:Nat}{B:Sa}{S:Sto} (e:Stp2 s r H H' T T') (j:StO H T q B S) (n1:q≠s) (n2:q≠r):StO H' T' q B S:=
 j.keep (fun b o h t=>e.kp b o h (by rw [t];exact n1) (by rw [t];exact n2)) e.tg
theorem Stp2.fx {s r:Nat} (e:Stp2 s r H H' T T') (f:Fx H T src lm lw lW lS lk zs ns ws w1 w2 d1 d2 ks) (s0:s≠0) (r0:r≠0) (s5:s≠5) (r5:r≠5):Fx H' T' src lm lw lW lS lk zs ns ws w1 w2 d1 d2 ks:=
 f.mv (fun b o h t=>by
  rcases t with t | t
  ·exact e.kp b o h (by rw [t];exact fun z=>s0 z.symm) (by rw [t];exact fun z=>r0 z.symm)
  ·exact e.kp b o h (by rw [t];exact fun z=>s5 z.symm) (by rw [t];exact fun z=>r5 z.symm)) e.tg
end
def ZN7 (K:PySem.W.Frag):Sp:=fun vs H Q E=>∃ a,vs=[.ref a]∧∃ ns:List Int,SqL K H a (ns.map V.int)∧ns.length≤63∧Zwv ns∧∀ H',Q (.bl true) H'
section
variable {K:PySem.W.Frag}{X:Cs}{rf:Rf→Addr}{H:Hp}{Q:VK}{E:XK}{n:St→Hp→Prop}{bk ct:St→Hp→Prop}
theorem ZQq {a:Addr} (q:∃ ns:List Int,SqL K H a (ns.map V.int)∧ns.length≤63∧Zwv ns∧∀ H',Q (.bl true) H'):
  ZJm K X.W (Zj6 X) (ZN9 K) (Zzm K) Zzl Zl0 Zzj Zzi (Zj5 3) (Zqa X) (Zzh K) (ZGc X) (Zqc X) ⟨n,Q,bk,ct⟩ [some (.ref a),none,none,none,none,none,none,none,none,none,none,none,none,none] H:=by
 obtain ⟨ns0,hS,hlen,hbits,h⟩:=q;unfold ZJm;walk_at "ev";refine ⟨a,0,rfl,ns0,hS,hbits,by decide,fun zr hzr=>?_⟩;walk_at "ev";refine ⟨zr,rfl,hzr,fun room r4 r15=>?_⟩;walk_at "ev";refine ⟨a,1,rfl,ns0,hS,hbits,by decide,fun z0 hz0=>?_⟩;walk_at "ev";have b1:=Int.emod_nonneg z0 (show (5:Int)≠0 by decide);have b2:=Int.emod_lt_of_pos z0 (show (0:Int) < 5 by decide);have d1:1≤1 + z0 % 5∧1 + z0 % 5≤5:=by omega
 generalize 1 + z0 % 5=count at d1 ⊢;clear b1 b2;refine ZEt ?_;walk_at "ev";refine ⟨_,rfl,by omega,by omega,?_⟩;refine ZP0 (n:=count.toNat) rfl (by omega) (fun _ y _=>∃ k:Int,y=.int k∧3≤k∧k≤9) (fun _ _ _ _ z _=>z) (fun i H1 q hq=>Zs4 hq) (fun i H1 hi s1 q hq=>?_) ?_
 ·walk_at "caps";walk_at "ev";refine ⟨a,1,rfl,ns0,s1.seq hS,hbits,by decide,fun z1 hz1=>?_⟩;walk_at "ev";have hii:(i:Int) * i≤25:=by
   have h5:i≤5:=by omega
   have:=Nat.mul_le_mul h5 h5;have e:((i * i:Nat):Int)=(i:Int) * i:=by push_cast;rfl
   omega
  have hi0:0≤(i:Int) * i:=Int.mul_nonneg (by omega) (by omega);refine ⟨_,_,rfl,by omega,by omega,fun z2 h2 _=>?_⟩;walk_at "ev";have c1:=Int.emod_nonneg z2 (show (7:Int)≠0 by decide);have c2:=Int.emod_lt_of_pos z2 (show (0:Int) < 7 by decide);exact hq _ _ (Same.refl _) ⟨_,rfl,by omega,by omega⟩
 intro ys H1 s1 ly hR lm hlm;obtain ⟨ns,rfl,nb⟩:=ZQy (R:=fun _ _=>True) hR;have lns:ns.length=count.toNat:=by rw [← ly,List.length_map]
 have s2:=Zaf hlm (.lst (ns.map V.int));have g2:upd H1 lm (.lst (ns.map V.int)) lm=some (.lst (ns.map V.int)):=Za2;generalize upd H1 lm (.lst (ns.map V.int))=H2 at s2 g2 ⊢;have s02:=s1.trans s2;walk_at "ev";refine ⟨a,2,rfl,ns0,s02.seq hS,hbits,by decide,fun z9 hz9=>?_⟩;walk_at "ev";refine ⟨_,_,rfl,⟨by decide,by decide⟩,fun lw ws Hw sw ow lws nlw=>?_⟩;have gmw:=sw _ _ g2;have s02w:=s02.trans sw;walk_at "ev";refine ⟨a,0,rfl,ns0,s02w.seq hS,hbits,by decide,fun z3 hz3=>?_⟩;walk_at "ev";refine ⟨_,rfl,fun w t H3 w0 w1 t0 t1 s3=>?_⟩;walk_at "ev";refine ⟨_,rfl,w,t,w0,w1,t0,t1,rfl,fun ki lk H4 s4 nki nlk kd=>?_⟩;have s04:=s02w.trans (s3.trans s4);have g4:=s4 _ _ (s3 _ _ gmw);have ow4:=s4 _ _ (s3 _ _ ow);walk_at "ev";refine ZEt ?_;walk_at "ev";refine ⟨_,rfl,by omega,by omega,?_⟩;refine ZMh (n:=count.toNat) rfl (by omega) (fun i r Hx=>∃ (nm:Str) (k:Int),ns[i]? =some k∧Hx r=some (.tup [.str nm,.int k])) (fun _ _ _ _ ⟨nm,k,e,z⟩ s=>⟨nm,k,e,s _ _ z⟩) (fun _ _ _ ⟨_,_,_,z⟩=>⟨_,z⟩) (fun i H1 q hq=>Zs4 hq) (fun i H5 hi s5 q hq=>?_) ?_
 ·walk_at "caps";walk_at "ev";have hi5:i < 5:=by omega
  refine ZKp (by decide) (by omega) (by show (i:Int) < 5;omega) fun ch=>?_;walk_at "ev";have hn:i < ns.length:=by omega
  refine Zbe (SqL.of (s5 _ _ g4)) (Zal (v:=.int ns[i]) (by rw [List.getElem?_map,List.getElem?_eq_getElem hn];rfl)) ?_;walk_at "ev";exact ⟨Zat (by simp),fun r nr=>hq r _ (Zaf nr _) nr ⟨_,ns[i],List.getElem?_eq_getElem hn,Za2⟩⟩
 intro ts H5 s5 lts nd _ hT hl0 nhl0;have s6:=Zaf nhl0 (.lst (ts.map V.ref));have g6:upd H5 hl0 (.lst (ts.map V.ref)) hl0=some (.lst (ts.map V.ref)):=Za2;generalize upd H5 hl0 (.lst (ts.map V.ref))=H6 at s6 g6 ⊢;obtain ⟨hands,eh,alh⟩:=ZOu (H:=H6) (ts:=ts) (ns:=ns) (by omega) nb fun i t et=>by
  obtain ⟨nm,k,e1,e2⟩:=hT i t et;exact ⟨nm,k,e1,s6 _ _ e2⟩
 have lh:hands.length=ns.length:=by rw [← eh,List.length_map]
 have kd6:=(kd.same s5).same s6;have g6m:=s6 _ _ (s5 _ _ g4);have g6w:=s6 _ _ (s5 _ _ ow4);have s06:=s04.trans (s5.trans s6);have slok:SlOk ns ws:=⟨by omega,by omega,nb,by omega,by omega⟩;clear s1 s2 hR g2 s02 gmw s02w sw ow nlw s3 s4 g4 ow4 s04 s5 s6 hT;walk_at "ev";intro wo dx nwo ndx ned;have s7:Same H6 (upd (upd H6 dx (.own wo)) wo (.ins X.W dx [])):=fun b o hb=>by rw [Za9 (Za5 hb nwo),Za9 (Za5 hb ndx)];exact hb
 have g7:upd (upd H6 dx (.own wo)) wo (.ins X.W dx []) wo=some (.ins X.W dx []):=Za2;generalize upd (upd H6 dx (.own wo)) wo (.ins X.W dx [])=H7 at s7 g7 ⊢;have kd7:=kd6.same s7;have kdi:∃ o,H6 ki=some o:=by
  obtain ⟨⟨_,e⟩,_⟩:=kd6;exact ⟨_,e⟩
 have kdl:∃ o,H6 lk=some o:=by
  obtain ⟨_,⟨_,e⟩⟩:=kd6;rcases e with ⟨_,e⟩ | ⟨_,e⟩ | ⟨_,e⟩
  ·exact ⟨_,e⟩
  ·exact ⟨_,e⟩
  ·exact ⟨_,e⟩
 obtain ⟨oki,hki⟩:=kdi;obtain ⟨olk,hlk⟩:=kdl;refine ⟨wo,_,ki,hl0,rfl,dx,fun _=>(0,0),1,lk,w,t,ts,hands,g7,fun _ _=>rfl,by decide,kd7,rfl,rfl,Za5 hki nwo,Za5 hlk nwo,s7 _ _ g6,alh.mono fun x m ⟨z1,z2⟩=>⟨s7 _ _ z1,z2⟩,by omega,fun H8 T8 A8 k8 t8 w8 aw8 j8=>⟨rfl,?_⟩⟩;have s68:Same H6 H8:=fun b o hb=>k8 b o (s7 _ _ hb) (Za5 hb nwo);have t68:∀ b o,H6 b=some o→T8 b=(0,0):=fun b o hb=>t8 b o (s7 _ _ hb) (Za5 hb nwo);clear k8 t8 kd7;have kd8:=kd6.same s68;walk_at "ev";intro wo2 dx2 nwo2 ndx2 ned2;have s9:Same H8 (upd (upd H8 dx2 (.own wo2)) wo2 (.ins X.W dx2 [])):=fun b o hb=>by rw [Za9 (Za5 hb nwo2),Za9 (Za5 hb ndx2)];exact hb
 have g9:upd (upd H8 dx2 (.own wo2)) wo2 (.ins X.W dx2 []) wo2=some (.ins X.W dx2 []):=Za2;generalize upd (upd H8 dx2 (.own wo2)) wo2 (.ins X.W dx2 [])=H9 at s9 g9 ⊢;refine ⟨wo2,_,ki,hl0,rfl,dx2,T8,3,lk,w,t,ts,hands,g9,w8.same s9,by decide,kd8.same s9,t68 _ _ hki,t68 _ _ hlk,Za5 (s68 _ _ hki) nwo2,Za5 (s68 _ _ hlk) nwo2,s9 _ _ (s68 _ _ g6),alh.mono fun x m ⟨z1,z2⟩=>⟨s9 _ _ (s68 _ _ z1),z2⟩,by omega,fun H10 T10 A10 k10 t10 w10 aw10 j10=>⟨rfl,?_⟩⟩;have s80:Same H8 H10:=fun b o hb=>k10 b o (s9 _ _ hb) (Za5 hb nwo2);have t80:∀ b o,H8 b=some o→T10 b=T8 b:=fun b o hb=>t10 b o (s9 _ _ hb) (Za5 hb nwo2);clear k10 t10 kd8;have j1:=j8.mv (H':=H10) (T':=T10) ⟨fun b o hb _ _=>s80 _ _ hb,t80⟩ fun b o hb _=>s80 _ _ hb;have s60:=s68.trans s80;have t60:∀ b o,H6 b=some o→T10 b=(0,0):=fun b o hb=>(t80 b o (s68 _ _ hb)).trans (t68 b o hb);have q0:Qm (newW room hands w t) ns 0:=Qm.new eh t0 t1;have es:stOf (newW room hands w t)=newS room ns:=ZLt eh;have gm:=s60 _ _ g6m;have tm:=t60 _ _ g6m;have gw:=s60 _ _ g6w;have tw:=t60 _ _ g6w;have s010:=s06.trans s60;clear s68 t68 s80 t80 s60 t60 j8 s9 g9 s7 g7 kd6 hki hlk alh g6 g6m g6w s06 kd;walk_at "ev";refine ⟨Zat (by simp),fun lW nlW=>?_⟩;have tW:=w10 _ nlW;have s11:=Zaf nlW (.lst [.ref wo,.ref wo2]);have gW:upd H10 lW (.lst [.ref wo,.ref wo2]) lW=some (.lst [.ref wo,.ref wo2]):=Za2;generalize upd H10 lW (.lst [.ref wo,.ref wo2])=H11 at s11 gW ⊢;have j1:=j1.same s11;have j2:=j10.same s11;have w11:=w10.same s11;have gm:=s11 _ _ gm;have gw:=s11 _ _ gw;have s011:=s010.trans s11;clear s11 s010 j10 w10;walk_at "ev";refine ⟨_,_,rfl,T10,2,ns,w11,gm,by omega,fun k hk=>by have:=nb k hk;omega,fun H12 T12 B1 s12 t12 w12 so1=>?_⟩;walk_at "ev";refine ⟨_,_,rfl,T12,4,ns,w12,s12 _ _ gm,by omega,fun k hk=>by have:=nb k hk;omega,fun H13 T13 B2 s13 t13 w13 so2=>?_⟩;have s113:=s12.trans s13;have t113:∀ b o,H11 b=some o→T13 b=T10 b:=fun b o hb=>(t13 b o (s12 _ _ hb)).trans (t12 b o hb);rw [← es] at so1 so2;have lw13:Lw X H13 T13 A8 A10 B1 B2 (newW room hands w t) (newW room hands w t) wo wo2 B1.d B2.d:=
  ⟨w13,j1.mv ⟨fun b o h _ _=>s113 b o h,t113⟩ fun b o h _=>s113 b o h,aw8,j2.mv ⟨fun b o h _ _=>s113 b o h,t113⟩ fun b o h _=>s113 b o h,aw10,so1.keep (fun b o h _=>s13 b o h) t13,rfl,so2,rfl⟩
 have gm13:=s113 _ _ gm;have tm13:=(t113 _ _ gm).trans tm;have gw13:=s113 _ _ gw;have tw13:=(t113 _ _ gw).trans tw;have gW13:=s113 _ _ gW;have tW13:=(t113 _ _ gW).trans tW;have s013:=s011.trans s113;generalize newW room hands w t=M0 at lw13 q0;clear s12 s13 t12 t13 s113 t113 so1 so2 w12 w13 w11 j1 j2 gm gw gW tm tw tW s011 es;walk_at "ev";refine ⟨Zat (by simp),fun lS nlS=>?_⟩;have tS:=lw13.w _ nlS;have s14:=Zaf nlS (.lst [.ref B1.d,.ref B2.d]);have gS:upd H13 lS (.lst [.ref B1.d,.ref B2.d]) lS=some (.lst [.ref B1.d,.ref B2.d]):=Za2;generalize upd H13 lS (.lst [.ref B1.d,.ref B2.d])=H14 at s14 gS ⊢;have lw14:=lw13.same s14;walk_at "ev";refine ⟨by decide,fun lk nlk'=>?_⟩;have s15:=Zaf nlk' (.lst []);have f15:∀ b o,H14 b=some o→setT T13 lk (5,0) b=T13 b:=fun b o hb=>Zdy (Za5 hb nlk');have gk:upd H14 lk (.lst []) lk=some (.lst (([]:List Addr).map V.ref)):=Za2;have lw15:=lw14.mv s15 f15 (ZIz (lw14.w.same s15) (o:=.lst []) Za2);have tk:setT T13 lk (5,0) lk=(5,0):=Zdd;have s415:=s14.trans s15;have gS15:=s15 _ _ gS;have tS15:=(f15 _ _ gS).trans tS;have f13:∀ b o,H13 b=some o→setT T13 lk (5,0) b=T13 b:=fun b o hb=>f15 b o (s14 _ _ hb);have tm15:=(f13 _ _ gm13).trans tm13;have tw15:=(f13 _ _ gw13).trans tw13;have tW15:=(f13 _ _ gW13).trans tW13;generalize upd H14 lk (.lst [])=H15 at s15 gk lw15 s415 gS15 ⊢;generalize setT T13 lk (5,0)=T15 at lw15 tk tS15 tm15 tw15 tW15;have s015:=s013.trans s415;walk_at "ev";refine ⟨a,_,rfl,s015.seq hS,fun src hsrc=>?_⟩;have zints:∃ zs:List Int,cutV (ns0.map V.int) (some 3) (some 63)=zs.map V.int∧zs.length≤63∧∀ z∈zs,z∈ns0:=by
  refine ⟨(ns0.drop (HT.sIx ns0.length 0 (some 3))).take (HT.sIx ns0.length ns0.length (some 63) - HT.sIx ns0.length 0 (some 3)),?_,?_,fun z hz=>List.mem_of_mem_drop (List.mem_of_mem_take hz)⟩
  ·unfold cutV;rw [List.map_take,List.map_drop,List.length_map]
  ·rw [List.length_take,List.length_drop];omega
 obtain ⟨zs,ez,lz,mz⟩:=zints;rw [ez];have tsrc:=lw15.w _ hsrc;have s16:=Zaf hsrc (.lst (zs.map V.int));have gsrc:upd H15 src (.lst (zs.map V.int)) src=some (.lst (zs.map V.int)):=Za2;have lw16:=lw15.same s16;have fx16:Fx (upd H15 src (.lst (zs.map V.int))) T15 src lm lw lW lS lk zs ns ws wo wo2 B1.d B2.d []:=
  ⟨⟨gsrc,tsrc⟩,⟨s16 _ _ (s415 _ _ gm13),tm15⟩,⟨s16 _ _ (s415 _ _ gw13),tw15⟩,⟨s16 _ _ (s415 _ _ gW13),tW15⟩,⟨s16 _ _ gS15,tS15⟩,⟨s16 _ _ gk,tk⟩,fun k hk=>(nomatch hk)⟩
 generalize upd H15 src (.lst (zs.map V.int))=H16 at s16 gsrc lw16 fx16 ⊢;generalize B1.d=sd1 at lw16 fx16 ⊢;generalize B2.d=sd2 at lw16 fx16 ⊢;refine ⟨src,rfl,⟨_,SqL.of gsrc⟩,forL (zs.map V.int) (fun i σ Hx=>∃ T A1 A2 B1 B2 M1 M2 ks v10 v11 v12 v13,σ=[some (.ref a),some (.int room),some (.int count),some (.ref lm),some (.ref lw),some (.ref ki),some (.ref hl0),some (.ref lW),some (.ref lS),some (.ref lk),v10,v11,v12,v13]∧Lw X Hx T A1 A2 B1 B2 M1 M2 wo wo2 sd1 sd2∧Fx Hx T src lm lw lW lS lk zs ns ws wo wo2 sd1 sd2 ks∧Qm M1 ns i∧Qm M2 ns i∧ks.length=i) ⟨T15,A8,A10,B1,B2,M0,M0,[],_,_,_,_,rfl,lw16,fx16,q0,q0,rfl⟩ (fun _ _ _ _ ⟨_,_,_,_,_,_,_,_,_,_,_,_,_,_,e,_⟩=>SqL.of e.z.1) ?_ ?_⟩
 ·rintro i x σ Hx hi ⟨T,A1,A2,B1,B2,M1,M2,ks,v10,v11,v12,v13,rfl,l,f,q1,q2,lks⟩;have hil:=(List.getElem?_eq_some_iff.mp hi).1;rw [List.length_map] at hil;obtain ⟨c,hc,rfl⟩:=List.mem_map.mp (List.mem_of_getElem? hi);have hcb:=hbits c (mz c hc);walk_at "ev";refine ⟨_,_,_,rfl,ns,ws,f.m.1,f.s.1,hcb,slok,fun dd H1 s1 ndd odd=>?_⟩;have tdd:=l.w _ ndd;have l1:=l.same s1;have f1:=f.same s1;walk_at "ev";refine ⟨.inl ⟨rfl,_,SqL.of f1.k.1⟩,?_⟩;walk_at "ev";refine ⟨_,_,_,rfl,ns,ws,f1.m.1,f1.s.1,hcb,slok,fun de H2 s2 nde ode=>?_⟩;have tde:=l1.w _ nde;have l2:=l1.same s2;have f2:=f1.same s2;have odd:=s2 _ _ odd;walk_at "ev";refine ⟨Zat (by simp),fun kp nkp=>?_⟩;have tkp:=l2.w _ nkp;have s3:=Zaf nkp (.tup [.ref dd,.ref de]);have okp:upd H2 kp (.tup [.ref dd,.ref de]) kp=some (.tup [.ref dd,.ref de]):=Za2;have l3:=l2.same s3;have f3:=f2.same s3;have odd:=s3 _ _ odd;have ode:=s3 _ _ ode;generalize upd H2 kp (.tup [.ref dd,.ref de])=H3 at s3 okp l3 f3 odd ode ⊢;walk_at "ev";refine ⟨lk,_,_,rfl,rfl,f3.k.1,by rw [List.length_map];exact Nat.lt_of_le_of_lt (show _≤1000 by omega) (by decide),?_⟩;rw [show ks.map V.ref ++ [V.ref kp]=(ks ++ [kp]).map V.ref from by rw [List.map_append];rfl];have l4:=l3.push (o':=.lst ((ks ++ [kp]).map V.ref)) f3.k.2 f3.k.1;have f4:=f3.push ⟨okp,tkp⟩ ⟨odd,tdd⟩ ⟨ode,tde⟩;have odd4:upd H3 lk (.lst ((ks ++ [kp]).map V.ref)) dd=some (.tup (dV (ZCp c ns ws))):=(Za9 (Zrq tdd f3.k.2 (by simp))).trans odd;generalize upd H3 lk (.lst ((ks ++ [kp]).map V.ref))=H4 at l4 f4 odd4 ⊢;clear l1 l2 l3 f1 f2 f3 odd ode okp s1 s2 s3 l f;walk_at "ev";refine Zbe (SqL.of f4.o.1) (Zal (j:=0) (v:=.ref wo) rfl) ?_;walk_at "ev";refine Zbe (SqL.of f4.t.1) (Zal (j:=0) (v:=.ref sd1) rfl) ?_;walk_at "ev";refine ⟨_,_,dd,rfl,T,1,2,A1,B1,M1,ZCp c ns ws,ns,i,l4.w,by decide,by decide,by decide,l4.j1,l4.a1,l4.s1,l4.b1,odd4,tdd,q1.okD slok c,q1,by omega,fun H5 T5 A5 B5 M5 st5 j5 aw5 so5 bd5 q5=>?_⟩;have l5:Lw X H5 T5 A5 A2 B5 B2 M5 M2 wo wo2 sd1 sd2:=⟨st5.wt,j5,aw5,st5.wj l4.j2 (by decide) (by decide) (by decide) (by decide),l4.a2,so5,bd5,st5.so l4.s2 (by decide) (by decide),l4.b2⟩;have f5:=st5.fx f4 (by decide) (by decide) (by decide) (by decide);have odd5:=st5.kp _ _ odd4 (by rw [tdd];decide) (by rw [tdd];decide);have tdd5:=(st5.tg _ _ odd4).trans tdd;have lks5:(ks ++ [kp]).length=i + 1:=by rw [List.length_append,lks];rfl
  walk_at "ev";refine ifd (fun hz=>?_) (fun hz=>?_)
  ·walk_at "ev";refine Zbe (SqL.of f5.o.1) (Zal (j:=1) (v:=.ref wo2) rfl) ?_;walk_at "ev";refine Zbe (SqL.of f5.t.1) (Zal (j:=1) (v:=.ref sd2) rfl) ?_;walk_at "ev";refine ⟨_,_,dd,rfl,T5,3,4,A2,B2,M2,ZCp c ns ws,ns,i,l5.w,by decide,by decide,by decide,l5.j2,l5.a2,l5.s2,l5.b2,odd5,tdd5,q2.okD slok c,q2,by omega,fun H6 T6 A6 B6 M6 st6 j6 aw6 so6 bd6 q6=>?_⟩;have l6:Lw X H6 T6 A5 A6 B5 B6 M5 M6 wo wo2 sd1 sd2:=⟨st6.wt,st6.wj l5.j1 (by decide) (by decide) (by decide) (by decide),l5.a1,j6,aw6,st6.so l5.s1 (by decide) (by decide),l5.b1,so6,bd6⟩;have f6:=st6.fx f5 (by decide) (by decide) (by decide) (by decide);walk_at "ev";exact ⟨T6,A5,A6,B5,B6,M5,M6,ks ++ [kp],_,_,_,_,rfl,l6,f6,q5,q6,lks5⟩
  ·walk_at "ev";exact ⟨T5,A5,A2,B5,B2,M5,M2,ks ++ [kp],_,_,_,_,rfl,l5,f5,q5,q2.mono,lks5⟩
 ·rintro σ Hx ⟨T,A1,A2,B1,B2,M1,M2,ks,v10,v11,v12,v13,rfl,l,f,q1,q2,lks⟩;rw [List.length_map] at q1 q2;walk_at "ev";refine ⟨lk,rfl,⟨_,SqL.of f.k.1⟩,forL (ks.map V.ref) (fun k σ Hy=>∃ v12 v13,σ=[some (.ref a),some (.int room),some (.int count),some (.ref lm),some (.ref lw),some (.ref ki),some (.ref hl0),some (.ref lW),some (.ref lS),some (.ref lk),v10,v11,v12,v13]∧Hy=Hx) ⟨_,_,rfl,rfl⟩ (fun _ _ _ _ ⟨_,_,_,z⟩=>by rw [z];exact SqL.of f.k.1) ?_ ?_⟩
  ·rintro k x σ Hy hk ⟨v12,v13,rfl,rfl⟩;obtain ⟨r,hr,rfl⟩:=List.mem_map.mp (List.mem_of_getElem? hk);obtain ⟨x,y,d,⟨e1,_⟩,⟨e2,_⟩,⟨e3,_⟩⟩:=f.e r hr;refine ⟨r,_,rfl,SqT.of e1,rfl,?_⟩;refine ⟨_,_,rfl,?_⟩;walk_at "ev";refine ⟨_,_,rfl,?_⟩;walk_at "ev";refine ⟨rfl,?_⟩;walk_at "ev";refine ⟨_,_,rfl,.inr ⟨x,y,_,_,rfl,rfl,.inr ⟨e2,e3⟩,?_,Ztj ?_⟩,?_⟩
   ·cases d<;>simp [dV]
   ·cases d<;>rfl
   walk_at "ev";exact ⟨_,_,rfl,rfl⟩
  ·rintro σ Hy ⟨v12,v13,rfl,rfl⟩;have hsl:∀ k∈ns,k≤1000:=fun k hk=>by have:=nb k hk;omega
   walk_at "ev";refine Zbe (SqL.of f.o.1) (Zal (j:=0) (v:=.ref wo) rfl) ?_;walk_at "ev";refine Zbe (SqL.of f.t.1) (Zal (j:=0) (v:=.ref sd1) rfl) ?_;walk_at "ev";refine ⟨_,_,rfl,T,1,2,A1,B1,M1,ns,_,l.w,by decide,by decide,l.j1,l.a1,l.s1,l.b1,q1,by omega,hsl,fun H2 st2=>?_⟩;have f2:=f.mv (H':=H2) (T':=T) (fun b o h t=>st2.kp b o h (by rcases t with t | t<;>rw [t]<;>decide)) st2.tg;have j2:=l.j2.other st2 (by decide) (by decide);have so2:=l.s2.other st2 (by decide);walk_at "ev";refine Zbe (SqL.of f2.o.1) (Zal (j:=1) (v:=.ref wo2) rfl) ?_;walk_at "ev";refine Zbe (SqL.of f2.t.1) (Zal (j:=1) (v:=.ref sd2) rfl) ?_;walk_at "ev";refine ⟨_,_,rfl,T,3,4,A2,B2,M2,ns,_,st2.wt,by decide,by decide,j2,l.a2,so2,l.b2,q2,by omega,hsl,fun H3 st3=>h _⟩
end
def top (i:Nat):Stmt:=PySem.Challenge.pw_greywalk_k23_deeds_in_an_endless_store.main.body.getD i (.Pass ⟨0,0,0,0⟩)
abbrev Zfv:Stmt:=inClass (top 8) 0
abbrev Ziv:Stmt:=inClass (top 8) 1
abbrev Zfa:Stmt:=inClass (top 8) 2
abbrev Zft:Stmt:=inClass (top 9) 0
abbrev Zk9:Stmt:=inClass (top 9) 1
abbrev Zmw:Stmt:=inClass (top 9) 2
abbrev Zka:Stmt:=inClass (top 9) 4
abbrev Zit:Stmt:=inClass (top 9) 5
abbrev Zpl:Stmt:=top 10
abbrev Zmu:Stmt:=top 11
abbrev Ziu:Stmt:=inClass (top 16) 0
abbrev Zkb:Stmt:=inClass (top 17) 0
abbrev Zk8:Stmt:=inClass (top 18) 0
abbrev Zfs:Stmt:=inClass (top 19) 0
abbrev Zis:Stmt:=inClass (top 19) 2
abbrev Zpc:Stmt:=top 20
abbrev Zfu:Stmt:=inClass (top 22) 0
abbrev Zep:Stmt:=inClass (top 23) 0
abbrev Zf9:Stmt:=inClass (top 24) 0
abbrev Zhq:Stmt:=top 25
abbrev Zk1:Stmt:=top 26
abbrev Zjy:Stmt:=top 27
abbrev Zjz:Stmt:=top 28
abbrev Zpb:Stmt:=top 29
abbrev Zim:Stmt:=top 30
abbrev Zjx:Stmt:=top 31
abbrev ZFk:Stmt:=top 32
abbrev Zms:Stmt:=top 33
abbrev ZFl:Stmt:=top 34
abbrev Zmr:Stmt:=top 36
abbrev Zpk:Stmt:=top 37
abbrev Zk0:Stmt:=top 38
abbrev Zhn:Stmt:=top 39
abbrev Zho:Stmt:=top 40
abbrev Zpg:Stmt:=top 41
abbrev Ztl:Stmt:=top 42
abbrev Ztk:Stmt:=top 43
abbrev Zpj:Stmt:=top 44
abbrev Zpi:Stmt:=top 45
abbrev Zph:Stmt:=top 46
abbrev Zmt:Stmt:=top 47
abbrev Zpe:Stmt:=top 48
abbrev Zpf:Stmt:=top 49
abbrev Zpd:Stmt:=top 50
abbrev Zhp:Stmt:=top 51
abbrev s_do:Stmt:=top 53
abbrev Zmv:Stmt:=top 55
abbrev Zgt:Stmt:=top 56
abbrev Zk6:Stmt:=top 57
abbrev Zk4:Stmt:=top 58
abbrev Ziq:Stmt:=top 59
abbrev Zi8:Stmt:=top 60
abbrev Zip:Stmt:=top 61
abbrev Zfr:Stmt:=top 62
abbrev Zgs:Stmt:=top 63
abbrev Zir:Stmt:=top 64
abbrev Zio:Stmt:=top 65
abbrev Zk5:Stmt:=top 66
abbrev Zk7:Stmt:=top 67
abbrev Zin:Stmt:=top 68
abbrev Zk3:Stmt:=top 69
abbrev Zk2:Stmt:=top 70
abbrev Zhr:Stmt:=top 71
abbrev ZDq:Stmt:=top 72
structure Hh (P:Program) (w:World) (K:PySem.W.Frag) (mg:Str→Option Value) (base:Heap) (n:Nat) (f:Addr) (fd:FuncData) (ps:List Str) (sp:Sp):Prop where
 g:FnOk P w K mg base (G.CXe P w) n f fd ps sp
 b:Binds K fd ps []
 k:PySem.W.keepIn K (.ref f)=true
theorem hh {P:Program}{w:World}{K:PySem.W.Frag}{mg:Str→Option Value}{base:Heap}{n:Nat}{f:Addr}{fd:FuncData}{ps:List Str}{sp:Sp} (g:FnOk P w K mg base (G.CXe P w) n f fd ps sp) (b:Binds K fd ps []) (k:PySem.W.keepIn K (.ref f)=true):Hh P w K mg base n f fd ps sp:=⟨g,b,k⟩
abbrev Fn5 (P:Program) (w:World) (K:PySem.W.Frag) (mg:Str→Option Value) (base:Heap) (n:Nat) (f:Addr) (fd:FuncData) (ps:List Str) (sp:Sp):Prop:=FnOk P w K mg base (G.CXe P w) n f fd ps sp
theorem pcl {X:Cx}{n k:Nat}{f:Addr}{fd:FuncData}{ps:List Str}{sp:Sp}{x:Str}{e:Expr}{es:List Expr}{t:TA}{p pos:Pos} (g0:Hh X.prog X.w X.K X.mg X.base n f fd ps sp) (hr:Room k X.A) (hm:X.mg x=some (.ref f)) (ha:PA X (e :: es) t) (hn:n≤k:=by decide) (hg:X.env.kindOf x=some .globalImplicit:=by rfl) (hdb:(x == ("__debug__":Str))=false:=by decide) (he:starEach (e :: es) X.env=(false,eval e X.env) :: starEach es X.env:=by rfl) (hpl:(backTo pos (starEach es X.env)).any (·.1)=false:=by rfl):PE X (.Call (.Name x p) (e :: es) [] pos) (Zb5 sp [] E0 t):=Zjh g0.g (hr.mono hn) hg hm g0.k g0.b .nil G.Zfm ha hdb he hpl
theorem mkSc {N P:List Str}{sc:Scope} (a:sc.kind=.function:=by rfl) (b:sc.isCoroutine=false:=by rfl) (c:sc.isGenerator=false:=by rfl) (d:N.Nodup:=by decide +kernel) (e:N.take P.length=P:=by rfl) (f:∀ x∈P,sc.names.lookup x=some .local∨sc.names.lookup x=some .cell:=by decide +kernel) (g:∀ y∈sc.names,y.2≠.free:=by decide +kernel):FnScope N P sc:=⟨a,b,c,d,e,f,g⟩
structure Txt (w:World) (K:PySem.W.Frag) (mg:Str→Option Value) (Zax Zav Zed Zfo Zfn Zer Zf8 Zas Zci Za8 Zad Zb0 Zai Zbd Zch Zb9 Zbb Zd4 Zds Zd5 Zcf Zdw Zbt Zcg Zd6 Zd3 Zba Zce Zey Zbc Zaw Zb7 Zc8 Zd2 Zdg Zck Zex Zcn Zdf Zmk Zdc Zml Zbq Zdv Zd1 Zc6 Zc1 Zcr Zdu Zdt Zcu Zct Zcs Zc4 Zcp Zcq Zco Zc7 f_do Zcc Zc0 Zdl Zdj Zcy Zbn Zcx Zbo Zbz Zcz Zcw Zdk Zdm Zcv Zdi Zdh Zc9:Addr):Prop where
 tab_DEEDS:G.Tab K w mg "DEEDS" [("make",Zcr),("get",Zdu),("put",Zdt),("copy",Zcu),("drop",Zct),("give",Zcs),("write",Zc4),("read",Zcp),("name",Zcq),("seek",Zco)]
 Zc5:Cls K Zax
 ZNq:mg "Cell"=some (.ref Zax)
 Zy4:Mk K Zax Zbd
 Zcd:Zay K Zax "birth"
 Zew:Zay K Zax "bulk"
 Zev:Zay K Zax "tone"
 Ze0:Zay K Zax "load"
 Zcm:Zay K Zax "fields"
 Zz4:G.EqD K Zax
 Zca:Cls K Zav
 ZNn:mg "Heap"=some (.ref Zav)
 Zy2:Mk K Zav Zbb
 Zfg:Zay K Zav "room"
 Zbg:Zay K Zav "cells"
 Zdz:Zay K Zav "used"
 Zeu:Zay K Zav "born"
 ZG9:Cls K Zed
 ZKf:mg "First"=some (.ref Zed)
 mk0_First:G.Mk0 K Zed
 ZLi:Cls K Zfo
 ZNp:mg "Each"=some (.ref Zfo)
 mk0_Each:G.Mk0 K Zfo
 ZLg:Cls K Zfn
 ZNl:mg "Last"=some (.ref Zfn)
 mk0_Last:G.Mk0 K Zfn
 ZF3:Cls K Zer
 ZNm:mg "Kind"=some (.ref Zer)
 Zy1:Mk K Zer Zba
 Zgy:Zay K Zer "looking"
 Zj0:Zay K Zer "tells"
 ZLh:Cls K Zf8
 ZNo:mg "Hand"=some (.ref Zf8)
 Zy3:Mk K Zf8 Zbc
 Zkq:Zay K Zf8 "name"
 Zj1:Zay K Zf8 "slots"
 Zws:Cls K Zas
 ZBg:mg "Sweeper"=some (.ref Zas)
 Zmz:Mk K Zas Zaw
 Zg1:Zay K Zas "sense"
 Zg2:Zay K Zas "phase"
 Zgx:Zay K Zas "grey"
 Zfc:Zay K Zas "looked"
 Zgu:Zay K Zas "turn"
 Ziz:Zay K Zas "at"
 Zgv:Zay K Zas "stop"
 Zg0:Zay K Zas "walks"
 Zg3:Zay K Zas "looks"
 Zfb:Zay K Zas "passes"
 Zgw:Zay K Zas "loss"
 ZG8:Cls K Zci
 ZEe:mg "World"=some (.ref Zci)
 Zpp:Mk K Zci Zb7
 Ziy:Zay K Zci "heap"
 Zix:Zay K Zci "kind"
 Zht:Zay K Zci "hands"
 Zhs:Zay K Zci "names"
 Zfz:Zay K Zci "sweeper"
 Zon:mg "EmptySlot"=some (.ref Za8)
 Zui:mg "NoField"=some (.ref Zad)
 ZKe:mg "Full"=some (.ref Zb0)
 Zy6:mg "NoName"=some (.ref Zai)
 x_EmptySlot:G.ExcK K Za8
 x_Full:G.ExcK K Zb0
 x_NoField:G.ExcK K Zad
 x_NoName:G.ExcK K Zai
 e_EmptySlot_EmptySlot:PySem.W.exmOne K (.ref Za8) (.ref Za8)=some true
 e_Full_Full:PySem.W.exmOne K (.ref Zb0) (.ref Zb0)=some true
 e_NoField_NoField:PySem.W.exmOne K (.ref Zad) (.ref Zad)=some true
 e_NoName_NoName:PySem.W.exmOne K (.ref Zai) (.ref Zai)=some true
 ne_Full_EmptySlot:PySem.W.exmOne K (.ref Zb0) (.ref Za8)=some false
 ne_Full_NoField:PySem.W.exmOne K (.ref Zb0) (.ref Zad)=some false
 ne_NoField_EmptySlot:PySem.W.exmOne K (.ref Zad) (.ref Za8)=some false
 ne_NoName_EmptySlot:PySem.W.exmOne K (.ref Zai) (.ref Za8)=some false
 ne_NoName_Full:PySem.W.exmOne K (.ref Zai) (.ref Zb0)=some false
 ne_NoName_NoField:PySem.W.exmOne K (.ref Zai) (.ref Zad)=some false
 Zsz:Meth K Zax "__init__" Zbd
 Zkr:Meth K Zax "units" Zch
 Zjs:Meth K Zax "has_field" Zb9
 Zsx:Meth K Zav "__init__" Zbb
 Zrs:Meth K Zav "make" Zd4
 Zub:Meth K Zav "lay" Zds
 Zrt:Meth K Zav "free" Zd5
 Zpr:Meth K Zav "there" Zcf
 Zmd:mg "cell_at"=some (.ref Zdw)
 Zf1:mg "birth_at"=some (.ref Zbt)
 Zps:Meth K Zed "word" Zcg
 Zru:Meth K Zfo "word" Zd6
 Zrr:Meth K Zfn "word" Zd3
 Zsw:Meth K Zer "__init__" Zba
 Zpq:Meth K Zer "words" Zce
 ZBf:mg "kind_of"=some (.ref Zey)
 Zsy:Meth K Zf8 "__init__" Zbc
 Zoi:Meth K Zas "__init__" Zaw
 Zr0:Meth K Zci "__init__" Zb7
 Zpv:mg "births_held"=some (.ref Zc8)
 Zok:mg "births_at"=some (.ref Zd2)
 Zud:mg "looked_at"=some (.ref Zdg)
 Zkt:mg "has_sense"=some (.ref Zck)
 ZBe:mg "mark_of"=some (.ref Zex)
 Zrv:mg "told_cells"=some (.ref Zcn)
 Zuc:mg "told_cell"=some (.ref Zdf)
 ZNj:mg "note"=some (.ref Zmk)
 Zn0:mg "note_all"=some (.ref Zdc)
 ZNk:mg "gone"=some (.ref Zml)
 Ze9:mg "slots_of"=some (.ref Zbq)
 Zmc:mg "cell_in"=some (.ref Zdv)
 Zoj:mg "fields_in"=some (.ref Zd1)
 Zpt:mg "told_as_old"=some (.ref Zc6)
 Zks:mg "told_as_new"=some (.ref Zc1)
 ZKa:mg "do_make"=some (.ref Zcr)
 ZMe:mg "do_get"=some (.ref Zdu)
 ZMd:mg "do_put"=some (.ref Zdt)
 ZKd:mg "do_copy"=some (.ref Zcu)
 ZKc:mg "do_drop"=some (.ref Zct)
 ZKb:mg "do_give"=some (.ref Zcs)
 ZHv:mg "do_write"=some (.ref Zc4)
 ZK8:mg "do_read"=some (.ref Zcp)
 ZK9:mg "do_name"=some (.ref Zcq)
 ZK7:mg "do_seek"=some (.ref Zco)
 Zpu:mg "place_named"=some (.ref Zc7)
 m_do:mg "do"=some (.ref f_do)
 Zd0:mg "_law_mix"=some (.ref Zcc)
 Zek:mg "_law_cell_at"=some (.ref Zc0)
 Zuh:mg "_law_kind"=some (.ref Zdl)
 Zuf:mg "_law_room"=some (.ref Zdj)
 Zry:mg "_law_names"=some (.ref Zcy)
 Zeg:mg "_law_same"=some (.ref Zbn)
 Zme:mg "_law_store"=some (.ref Zcx)
 Zmf:mg "_law_due_word"=some (.ref Zbo)
 Znm:mg "_law_made_in"=some (.ref Zbz)
 Zrz:mg "_law_moved"=some (.ref Zcz)
 Zrx:mg "_law_thing"=some (.ref Zcw)
 Zug:mg "_law_load"=some (.ref Zdk)
 Zom:mg "_law_deed"=some (.ref Zdm)
 Zrw:mg "_law_tried"=some (.ref Zcv)
 Zue:mg "_law_said"=some (.ref Zdi)
 Zol:mg "_law_turn"=some (.ref Zdh)
 Zku:mg "_law_stands"=some (.ref Zc9)
 Zzw:mg "bool"=none
 ZDe:mg "int"=none
 Zb1:mg "isinstance"=none
 Zii:mg "len"=none
 Zrl:mg "list"=none
 Zhx:mg "range"=none
 ZDd:mg "str"=none
 Znt:mg "tuple"=none
 g_NEW:G.GC mg "NEW" (.int 2)
 g_OLD:G.GC mg "OLD" (.int 1)
theorem Zsq:FnScope ["self","birth","many","bulk","tone"] ["self","birth","many","bulk","tone"] (Zaa Zfv):=mkSc
theorem Zxj:FnScope ["self"] ["self"] (Zaa Ziv):=mkSc
theorem Zql:FnScope ["self","field"] ["self","field"] (Zaa Zfa):=mkSc
theorem Zso:FnScope ["self","room"] ["self","room"] (Zaa Zft):=mkSc
theorem ZAr:FnScope ["self","many","bulk","tone","cell"] ["self","many","bulk","tone"] (Zaa Zk9):=mkSc
theorem ZDp:FnScope ["self","cell","place"] ["self","cell"] (Zaa Zmw):=mkSc
theorem ZAs:FnScope ["self"] ["self"] (Zaa Zka):=mkSc
theorem Zxh:FnScope ["self"] ["self"] (Zaa Zit):=mkSc
theorem ZH7:FnScope ["heap","place"] ["heap","place"] (Zaa Zpl):=mkSc
theorem ZDn:FnScope ["heap","place","cell"] ["heap","place"] (Zaa Zmu):=mkSc
theorem Zxi:FnScope ["self"] ["self"] (Zaa Ziu):=mkSc
theorem ZAt:FnScope ["self"] ["self"] (Zaa Zkb):=mkSc
theorem ZAq:FnScope ["self"] ["self"] (Zaa Zk8):=mkSc
theorem Zsn:FnScope ["self","looking","tells"] ["self","looking","tells"] (Zaa Zfs):=mkSc
theorem Zxg:FnScope ["self","text"] ["self"] (Zaa Zis):=mkSc
theorem ZGy:FnScope ["text","looking","tells","kind"] ["text"] (Zaa Zpc):=mkSc
theorem Zsp:FnScope ["self","name","many"] ["self","name","many"] (Zaa Zfu):=mkSc
theorem Zo9:FnScope ["self"] ["self"] (Zaa Zep):=mkSc
theorem Zqk:FnScope ["self","room","kind","hands"] ["self","room","kind","hands"] (Zaa Zf9):=mkSc
theorem Zvo:FnScope ["world"] ["world"] (Zaa Zhq):=mkSc
theorem ZAj:FnScope ["heap","places"] ["heap","places"] (Zaa Zk1):=mkSc
theorem ZAg:FnScope ["world","hand"] ["world","hand"] (Zaa Zjy):=mkSc
theorem ZAh:FnScope ["world","cell"] ["world","cell"] (Zaa Zjz):=mkSc
theorem ZGx:FnScope ["world","place","sweeper","toned"] ["world","place"] (Zaa Zpb):=mkSc
theorem Zxa:FnScope ["world"] ["world"] (Zaa Zim):=mkSc
theorem ZAf:FnScope ["world","place","cell","fields"] ["world","place"] (Zaa Zjx):=mkSc
theorem ZOc:FnScope ["world","place","sweeper","cell"] ["world","place"] (Zaa ZFk):=mkSc
theorem ZDl:FnScope ["world","places","births","place","birth"] ["world","places"] (Zaa Zms):=mkSc
theorem ZOd:FnScope ["world","place","birth","cell"] ["world","place","birth"] (Zaa ZFl):=mkSc
theorem ZDk:FnScope ["world","hand"] ["world","hand"] (Zaa Zmr):=mkSc
theorem ZH6:FnScope ["world","hand","slot","cell"] ["world","hand","slot"] (Zaa Zpk):=mkSc
theorem ZAi:FnScope ["world","hand","slot","field","cell"] ["world","hand","slot","field"] (Zaa Zk0):=mkSc
theorem Zvl:FnScope ["world","place"] ["world","place"] (Zaa Zhn):=mkSc
theorem Zvm:FnScope ["world","hand","place"] ["world","hand","place"] (Zaa Zho):=mkSc
theorem ZH2:FnScope ["world","deed","slots","many","bulk","place"] ["world","deed"] (Zaa Zpg):=mkSc
theorem ZJj:FnScope ["world","deed","hand","source","field","place"] ["world","deed"] (Zaa Ztl):=mkSc
theorem ZJi:FnScope ["world","deed","hand","field","fields","old","new","noted"] ["world","deed"] (Zaa Ztk):=mkSc
theorem ZH5:FnScope ["world","deed","slots","place"] ["world","deed"] (Zaa Zpj):=mkSc
theorem ZH4:FnScope ["world","deed","slots","place"] ["world","deed"] (Zaa Zpi):=mkSc
theorem ZH3:FnScope ["world","deed","giver","taker","place","noted"] ["world","deed"] (Zaa Zph):=mkSc
theorem ZDm:FnScope ["world","deed","cell","before"] ["world","deed"] (Zaa Zmt):=mkSc
theorem ZH0:FnScope ["world","deed","cell"] ["world","deed"] (Zaa Zpe):=mkSc
theorem ZH1:FnScope ["world","deed","hand","slot","birth"] ["world","deed"] (Zaa Zpf):=mkSc
theorem ZGz:FnScope ["world","deed","place","noted"] ["world","deed"] (Zaa Zpd):=mkSc
theorem Zvn:FnScope ["world","word","place","birth"] ["world","word"] (Zaa Zhp):=mkSc
theorem ZS0:FnScope ["world","deed","act"] ["world","deed"] (Zaa s_do):=mkSc
theorem ZDo:FnScope ["_law_cell","_law_factor","_law_mixed"] ["_law_cell","_law_factor"] (Zaa Zmv):=mkSc
theorem Ztw:FnScope ["_law_script","_law_k"] ["_law_script","_law_k"] (Zaa Zgt):=mkSc
theorem ZAo:FnScope ["_law_cell","_law_word"] ["_law_cell"] (Zaa Zk6):=mkSc
theorem ZAm:FnScope ["_law_cell"] ["_law_cell"] (Zaa Zk4):=mkSc
theorem Zxe:FnScope ["_law_cell","_law_many","_law_letters","_law_size","_law_word","_law_k","_law_at","_law_start","_law_words","_law_one"] ["_law_cell","_law_many"] (Zaa Ziq):=mkSc
theorem Zro:FnScope ["_law_found","_law_due","_law_k"] ["_law_found","_law_due"] (Zaa Zi8):=mkSc
theorem Zxd:FnScope ["_law_room_here","_law_slots"] ["_law_room_here","_law_slots"] (Zaa Zip):=mkSc
theorem Zsm:FnScope ["_law_store_here","_law_deed_here","_law_word","_law_at","_law_birth"] ["_law_store_here","_law_deed_here"] (Zaa Zfr):=mkSc
theorem Ztv:FnScope ["_law_store_here","_law_deed_here","_law_units"] ["_law_store_here","_law_deed_here"] (Zaa Zgs):=mkSc
theorem Zxf:FnScope ["_law_store_here","_law_deed_here","_law_row","_law_old"] ["_law_store_here","_law_deed_here"] (Zaa Zir):=mkSc
theorem Zxc:FnScope ["_law_store_here","_law_deed_here","_law_word","_law_row","_law_birth","_law_one","_law_old"] ["_law_store_here","_law_deed_here"] (Zaa Zio):=mkSc
theorem ZAn:FnScope ["_law_cell","_law_load_here"] ["_law_cell"] (Zaa Zk5):=mkSc
theorem ZAp:FnScope ["_law_cell","_law_slots","_law_words","_law_one","_law_two","_law_tri","_law_h","_law_s","_law_t","_law_f","_law_what","_law_bulk","_law_g"] ["_law_cell","_law_slots","_law_words"] (Zaa Zk7):=mkSc
theorem Zxb:FnScope ["_law_world","_law_deed_here","_law_event","_law_word"] ["_law_world","_law_deed_here"] (Zaa Zin):=mkSc
theorem ZAl:FnScope ["_law_word","_law_words"] ["_law_word"] (Zaa Zk3):=mkSc
theorem ZAk:FnScope ["_law_world","_law_store_here","_law_deed_here","_law_word","_law_event"] ["_law_world","_law_store_here","_law_deed_here"] (Zaa Zk2):=mkSc
theorem Zvp:FnScope ["_law_world","_law_store_here","_law_due","_law_cells","_law_birth","_law_one"] ["_law_world","_law_store_here"] (Zaa Zhr):=mkSc
theorem ZQ8:FnScope ["_law_script","_law_room_here","_law_count","_law_slots","_law_words","_law_kind_here","_law_pairs","_law_worlds","_law_stores","_law_kept","_law_cell","_law_deed_here","_law_one","_law_two"] ["_law_script"] (Zaa ZDq):=mkSc
structure PAw (X:Cx) (es:List Expr) (t:TA):Prop where
 h:PA X es t
structure PSw (X:Cx) (st:List Stmt) (t:TS):Prop where
 h:PSs X st t
structure PPw (X:Cx) (pos:Pos) (keys:List (Option Expr)) (values:List Expr) (trs:List (TE×TE)):Prop where
 h:PPs X pos keys values trs
structure PEw (X:Cx) (e:Expr) (t:TE):Prop where
 h:PE X e t
section
variable {X:Cx}
theorem Zhe {z k p}:PEw X (.Constant (.str z) k p) (tC (.str z)):=⟨Zac⟩
theorem ZOj {pos:Pos}:PPw X pos [] [] []:=⟨ZDx⟩
theorem Zmx {pos:Pos}{k v:Expr}{keys:List (Option Expr)}{values:List Expr}{tk tv:TE}{trs:List (TE×TE)} (hk:PEw X k tk) (hv:PEw X v tv) (h:PPw X pos keys values trs):PPw X pos (some k :: keys) (v :: values) ((tk,tv) :: trs):=⟨Zfw hk.h hv.h h.h⟩
theorem Zxo:PAw X [] tNil:=⟨Za6⟩
theorem Zbs {e es te t} (ha:PE X e te) (hr:PAw X es t) (hs:starEach (e :: es) X.env=(false,eval e X.env) :: starEach es X.env:=by rfl):PAw X (e :: es) (Za3 te t):=⟨Za0 ha hr.h hs⟩
theorem ZOn {b es fs tb t u p q} (h:PAw X es t) (hb:PE X b tb) (hp:ZF9 b) (hr:PAw X fs u) (hs:starEach (.Subscript (.List es p) b q :: fs) X.env=(false,eval (.Subscript (.List es p) b q) X.env) :: starEach fs X.env:=by rfl):PAw X (.Subscript (.List es p) b q :: fs) (Za3 (tOp (rIxL X.K) (tLst t) tb) u):=⟨Za0 (Zaj Zap (Zd9 h.h) hb hp) hr.h hs⟩
theorem ZOh:PSw X [] Zbp:=⟨Zak⟩
theorem Ze5 {st rest t u} (h1:PS X st t) (h2:PSw X rest u):PSw X (st :: rest) (tSeq t u):=⟨Za1 h1 h2.h⟩
theorem ZJs {st t} (h1:PS X st t):PSw X [st] t:=⟨Za7 h1⟩
theorem ZQb {c a b tc t u rest v pos} (hc:PT X c tc) (ha:PSw X a t) (hb:PSw X b u) (h2:PSw X rest v):PSw X (.If c a b pos :: rest) (tSeq (tIfS tc t u) v):=⟨Za1 (Zbk hc ha.h hb.h) h2.h⟩
theorem ZLz {es t x1 p pos} (h:PAw X es t):PSw X [.Return (some (.Tuple es x1 p)) pos] (tRet (tTup t)):=⟨Za7 (Zae (Zdq h.h))⟩
theorem ZJt {i:Nat}{x:Str}{es t b tb p q pos' pos rest u} (hN:X.N.Nodup) (hi:X.N[i]? =some x) (hx:Loc X.env.scope x) (h:PAw X es t) (hb:PE X b tb) (hp:ZF9 b) (h2:PSw X rest u) (hs:swapsWith (.Subscript (.List es p) b q) (some (.Name x pos')) pos.line X.env=pure false:=by rfl) (hf:X.fn x=true∨X.env.scope.names.lookup x=some .local:=by first | exact .inl rfl | exact .inr rfl | assumption):PSw X (.Assign [.Name x pos'] (.Subscript (.List es p) b q) pos :: rest) (tSeq (tAsg (tOp (rIxL X.K) (tLst t) tb) (Zam i)) u):=⟨Za1 (Zah hN hi hx (Zaj Zap (Zd9 h.h) hb hp) hs hf) h2.h⟩
theorem ZM0 {i:Nat}{x:Str}{keys values trs p pos' pos rest u} (hN:X.N.Nodup) (hi:X.N[i]? =some x) (hx:Loc X.env.scope x) (h:PPw X p keys values trs) (a1:keys.all (·.isSome)=true) (a2:keys.length=values.length) (a3:keys≠[]) (a4:keys.length≤15) (h2:PSw X rest u) (hf:X.fn x=true∨X.env.scope.names.lookup x=some .local:=by first | exact .inl rfl | exact .inr rfl | assumption):PSw X (.Assign [.Name x pos'] (.Dict keys values p) pos :: rest) (tSeq (tAsg (ZJ5 trs) (Zam i)) u):=⟨Za1 (Zah hN hi hx (ZDz h.h a1 a2 a3 a4) rfl hf) h2.h⟩
end
open PySem.Spec PyProof.Rows in
theorem fokw {P:Program}{w:World}{K:PySem.W.Frag}{mg:Str→Option Value}{base:Heap}{x qual:Str}{st:Stmt}{f:Addr}{fd:FuncData}{N ps:List Str}{sp:Sp}{k:Nat} (F:Fun K x qual st f fd) (S:FnScope N ps (Zaa st)) (len:∀ vs H Q E,sp vs H Q E→vs.length=ps.length)
  (hbody:∀ (cdv:Value) (A:Around) (outer:List Env) (s:Shared) (H:Hp) (vs:List V) (Q:VK) (E:XK),Room k (A.deeper (envOfC qual (Zaa st) s.heap.objs.size f cdv))→sp vs H Q E→
   ∃ t,PSw (cxOf (CXe P w) P w K mg base N qual (Zaa st) f cdv A outer s H E).nox (Zeh st) t∧t { nx:=fun _ H'=>Q .non H',rt:=Q } (start N vs) H):FnOk P w K mg base (CXe P w) (k + 1) f fd ps sp:=
 G.fok F S len fun cdv A outer s H vs Q E hr h=>let ⟨t,p,q⟩:=hbody cdv A outer s H vs Q E hr h;⟨t,p.h,q⟩
section
variable (P:Program) {w:World}{K:PySem.W.Frag}{mg:Str→Option Value} (base:Heap) {Za8 Zad Zb0 Zai Zbd Zch Zb9 Zbb Zd4 Zds Zd5 Zcf Zdw Zbt Zcg Zd6 Zd3 Zba Zce Zey Zbc Zaw Zb7 Zc8 Zd2 Zdg Zck Zex Zcn Zdf Zmk Zdc Zml Zbq Zdv Zd1 Zc6 Zc1 Zcr Zdu Zdt Zcu Zct Zcs Zc4 Zcp Zcq Zco Zc7 f_do Zcc Zc0 Zdl Zdj Zcy Zbn Zcx Zbo Zbz Zcz Zcw Zdk Zdm Zcv Zdi Zdh Zc9:Addr} (XQ:Cs) (T:Txt w K mg XQ.C XQ.H XQ.F XQ.E XQ.L XQ.K XQ.D XQ.S XQ.W Za8 Zad Zb0 Zai Zbd Zch Zb9 Zbb Zd4 Zds Zd5 Zcf Zdw Zbt Zcg Zd6 Zd3 Zba Zce Zey Zbc Zaw Zb7 Zc8 Zd2 Zdg Zck Zex Zcn Zdf Zmk Zdc Zml Zbq Zdv Zd1 Zc6 Zc1 Zcr Zdu Zdt Zcu Zct Zcs Zc4 Zcp Zcq Zco Zc7 f_do Zcc Zc0 Zdl Zdj Zcy Zbn Zcx Zbo Zbz Zcz Zcw Zdk Zdm Zcv Zdi Zdh Zc9)
include T
theorem tx0:TxW K XQ:=⟨⟨T.Zc5,T.Zcd,T.Zew,T.Zev,T.Ze0,T.Zcm,T.Zca,T.Zfg,T.Zbg,T.Zdz,T.Zeu,T.Zz4⟩,T.ZG8,T.Ziy,T.Zix,T.Zht,T.Zhs,T.Zfz,T.ZLh,T.Zkq,T.Zj1,T.ZF3,T.Zgy,T.Zj0,T.Zws,T.Zg1,T.Zg2,T.Zgx,T.Zfc,T.Zgu,T.Ziz,T.Zgv,T.Zg0,T.Zg3,T.Zfb,T.Zgw⟩
theorem Zsv {fd:FuncData} (F:Fun K "__init__" "Cell.__init__" Zfv Zbd fd):Fn5 P w K mg base 1 Zbd fd ["self","birth","many","bulk","tone"] (Zl8 XQ.C):=by
 have sc:=Zsq;have tx:=tx0 _ T;refine G.fok F sc (fun vs H Q E h=>?_) (fun cdv A outer s H vs Q E hr h=>?_)
 ·obtain ⟨z0,z1,z2,z3,z4,rfl,q⟩:=h;rfl
 ·refine ⟨Zhd K,(Za1 (Zd8 (pv 0) (pv 1) rfl)
   (Za1 (Zd8 (pv 0) (pv 3) rfl)
   (Za1 (Zd8 (pv 0) (pv 4) rfl)
   (Za1 (Zd8 (pv 0) (Za4) rfl)
   (Za7 (Zd8 (pv 0) (Zb3 ZFs (Zd9 (Za0 (Ze6) Za6)) (pv 2)) rfl)))))),?_⟩
  obtain ⟨z0,z1,z2,z3,z4,rfl,q⟩:=h;exact Zth tx.c q
theorem Zy0 {fd:FuncData} (F:Fun K "units" "Cell.units" Ziv Zch fd):Fn5 P w K mg base 1 Zch fd ["self"] (Zj8 XQ.C):=by
 have sc:=Zxj;have tx:=tx0 _ T;refine G.fok F sc (fun vs H Q E h=>?_) (fun cdv A outer s H vs Q E hr h=>?_)
 ·obtain ⟨z0,rfl,q⟩:=h;rfl
 ·refine ⟨Zkm K,(Za7 (Zae (Zb3 Zf2 (Zb3 Zf2 (Za4) (Zb6 G.Zcb (by rfl) T.Zii G.boot_len (Za0 (Zaq (pv 0) rfl) Za6))) (Zaq (pv 0) rfl)))),?_⟩;obtain ⟨z0,rfl,q⟩:=h;exact Zzu tx.c q
theorem Zqz {fd:FuncData} (F:Fun K "has_field" "Cell.has_field" Zfa Zb9 fd):Fn5 P w K mg base 1 Zb9 fd ["self","field"] (Zl2 XQ):=by
 have sc:=Zql;have tx:=tx0 _ T;refine G.fok F sc (fun vs H Q E h=>?_) (fun cdv A outer s H vs Q E hr h=>?_)
 ·obtain ⟨z0,z1,rfl,q⟩:=h;rfl
 ·refine ⟨Zgh K,(Za7 (Zae (ZM4 ZS2 ZHe (Za4) (pv 1) (Zb6 G.Zcb (by rfl) T.Zii G.boot_len (Za0 (Zaq (pv 0) rfl) Za6))))),?_⟩;obtain ⟨z0,z1,rfl,q⟩:=h;exact Zrk tx q
theorem Zst {fd:FuncData} (F:Fun K "__init__" "Heap.__init__" Zft Zbb fd):Fn5 P w K mg base 1 Zbb fd ["self","room"] (Zl5 XQ.H):=by
 have sc:=Zso;have tx:=tx0 _ T;refine G.fok F sc (fun vs H Q E h=>?_) (fun cdv A outer s H vs Q E hr h=>?_)
 ·obtain ⟨z0,z1,rfl,q⟩:=h;rfl
 ·refine ⟨Zhb K,(Za1 (Zd8 (pv 0) (pv 1) rfl)
   (Za1 (Zd8 (pv 0) (Zd9 Za6) rfl)
   (Za1 (Zd8 (pv 0) (Za4) rfl)
   (Za7 (Zd8 (pv 0) (Za4) rfl))))),?_⟩
  obtain ⟨z0,z1,rfl,q⟩:=h;exact Ztf tx.c q
theorem ZBa {fd:FuncData} (F:G.FunD K "make" "Heap.make" Zk9 Zd4 fd) {Ztc:FuncData} (Zmp:Hh P w K mg base 1 Zbd Ztc ["self","birth","many","bulk","tone"] (Zl8 XQ.C)) {Zz3:FuncData} (Zja:Hh P w K mg base 1 Zch Zz3 ["self"] (Zj8 XQ.C)) {ZCm:FuncData} (Zvb:Hh P w K mg base 1 Zd5 ZCm ["self"] (Zl6 XQ.H)) {ZEy:FuncData} (Zwu:Hh P w K mg base 1 Zds ZEy ["self","cell"] (Zn4 K XQ.H)):Fn5 P w K mg base 3 Zd4 fd ["self","many","bulk","tone"] (Zl4 K XQ.C XQ.H Zb0):=by
 have sc:=ZAr;have tx:=tx0 _ T;refine G.ZSu F sc (fun vs H Q E h=>?_) (fun cdv A outer s H vs Q E hr h=>?_)
 ·obtain ⟨z0,z1,z2,z3,rfl,q⟩:=h;rfl
 ·refine ⟨Zm5 K XQ.C Zb0 XQ.H (Zl8 XQ.C) (Zj8 XQ.C) (Zl6 XQ.H) (Zn4 K XQ.H) E,(Za1 (Zah (i:=4) sc.nd rfl (Or.inl rfl) (Zqx T.Zy4 Zmp.g (hr.mono (by decide)) rfl T.ZNq Zmp.b .nil G.Zfm (Za0 (Zb3 Zf2 (Zaq (pv 0) rfl) (Za4)) (Za0 (pv 1) (Za0 (pv 2) (Za0 (pv 3) Za6))))))
   (Za1 (Zbk (Zan ZQh (Ziw (pv 4) T.Zc5 T.Zkr Zja.g (hr.mono (by decide)) Zja.b .nil G.Zfm) (Ziw (pv 0) T.Zca T.Zrt Zvb.g (hr.mono (by decide)) Zvb.b .nil G.Zfm) (Zau _)) (Za7 (G.Ztm rfl rfl T.ZKe T.x_Full (Za0 (Zac) Za6) (fun _ _ _ _ _ _ _ I hx hE=>G.ZFo I hx hE))) Zak)
   (Za1 (Zd8 (pv 0) (Zaq (pv 4) rfl) rfl)
   (Za1 (Zd8 (pv 0) (Zb3 Zf2 (Zaq (pv 0) rfl) (Ziw (pv 4) T.Zc5 T.Zkr Zja.g (hr.mono (by decide)) Zja.b .nil G.Zfm)) rfl)
   (Za7 (Zae (ZDy (pv 0) T.Zca T.Zub Zwu.g (hr.mono (by decide)) Zwu.b .nil G.Zfm (Za0 (pv 4) Za6)))))))),?_⟩
  obtain ⟨z0,z1,z2,z3,rfl,q⟩:=h;exact ZD5 tx.c q
theorem ZE8 {fd:FuncData} (F:Fun K "lay" "Heap.lay" Zmw Zds fd):Fn5 P w K mg base 1 Zds fd ["self","cell"] (Zn4 K XQ.H):=by
 have sc:=ZDp;have tx:=tx0 _ T;refine G.fok F sc (fun vs H Q E h=>?_) (fun cdv A outer s H vs Q E hr h=>?_)
 ·obtain ⟨z0,z1,rfl,q⟩:=h;rfl
 ·refine ⟨Zof K,(Za1 (Zbk (Zan (G.ZK0 (Zea hr)) (Ze6) (Zaq (pv 0) rfl) (by with_unfolding_all rfl)) (Za1 (Zog (ZE0 PySem.F.plainAttrs_list PySem.F.slot_list_append PySem.F.type_list_append Zg4 (Zaq (pv 0) rfl) (Za0 (pv 1) Za6)))
   (Za7 (Zae (Zb3 Zwi (Zb6 G.Zcb (by rfl) T.Zii G.boot_len (Za0 (Zaq (pv 0) rfl) Za6)) (Za4))))) Zak)
   (Za1 (Zah (i:=2) sc.nd rfl (Or.inl rfl) (ZE0 PySem.F.plainAttrs_list PySem.F.slot_list_index PySem.F.type_list_index (G.ZK5 (Zea hr)) (Zaq (pv 0) rfl) (Za0 (Ze6) Za6)))
   (Za1 (Zhj (pv 1) (Zhk (Zaq (pv 0) rfl) (pv 2) set_list))
   (Za7 (Zae (pv 2)))))),?_⟩
  obtain ⟨z0,z1,rfl,q⟩:=h;exact ZFa tx.c q
theorem ZBb {fd:FuncData} (F:Fun K "free" "Heap.free" Zka Zd5 fd):Fn5 P w K mg base 1 Zd5 fd ["self"] (Zl6 XQ.H):=by
 have sc:=ZAs;have tx:=tx0 _ T;refine G.fok F sc (fun vs H Q E h=>?_) (fun cdv A outer s H vs Q E hr h=>?_)
 ·obtain ⟨z0,rfl,q⟩:=h;rfl
 ·refine ⟨Zm6 K,(Za7 (Zae (Zb3 Zwi (Zaq (pv 0) rfl) (Zaq (pv 0) rfl)))),?_⟩;obtain ⟨z0,rfl,q⟩:=h;exact ZD6 tx.c q
theorem Zxy {fd:FuncData} (F:Fun K "there" "Heap.there" Zit Zcf fd):Fn5 P w K mg base 1 Zcf fd ["self"] (Zj7 XQ.H):=by
 have sc:=Zxh;have tx:=tx0 _ T;refine G.fok F sc (fun vs H Q E h=>?_) (fun cdv A outer s H vs Q E hr h=>?_)
 ·obtain ⟨z0,rfl,q⟩:=h;rfl
 ·refine ⟨Zkk K,(Za7 (Zae (G.ZHd (cns:=["self"]) [0] (Zh5 rfl T.Zhx (Za0 (Zb6 G.Zcb (by rfl) T.Zii G.boot_len (Za0 (Zaq (pv 0) rfl) Za6)) Za6)) (fun _ _ _ _ _=>(G.ZQc (Zan G.ZFt (Zaj Zap (Zaq (pv 1) rfl) (pv 0) (fun _ _=>rfl)) (Ze6) (Zau _)))) (fun _ _ _ _ _=>(pv 0)) rfl rfl (by repeat (first | exact trivial | refine ⟨rfl,?_⟩)) (by repeat (first | exact trivial | refine ⟨rfl,?_⟩)) rfl (by decide +kernel) rfl (by decide +kernel) (by decide +kernel) rfl (by decide +kernel)))),?_⟩;obtain ⟨z0,rfl,q⟩:=h;exact Zzo tx.c q
theorem ZHp {fd:FuncData} (F:Fun K "cell_at" "cell_at" Zpl Zdw fd):Fn5 P w K mg base 1 Zdw fd ["heap","place"] (Zec XQ.H):=by
 have sc:=ZH7;have tx:=tx0 _ T;refine G.fok F sc (fun vs H Q E h=>?_) (fun cdv A outer s H vs Q E hr h=>?_)
 ·obtain ⟨z0,z1,rfl,q⟩:=h;rfl
 ·refine ⟨Zqw K,(Za1 (Zbk (PW.pt (ZHc (Zan G.Zji (pv 1) (Ze6) (Zau _)) (ZHc (Zan ZHe (pv 1) (Za4) (Zau _)) (ZFp (Zan ZOp (pv 1) (Zb6 G.Zcb (by rfl) T.Zii G.boot_len (Za0 (Zaq (pv 0) rfl) Za6)) (Zau _)))))) (Za7 (Zae (Ze6))) Zak)
   (Za7 (Zae (Zaj Zap (Zaq (pv 0) rfl) (pv 1) (fun _ _=>rfl))))),?_⟩
  obtain ⟨z0,z1,rfl,q⟩:=h;exact ZIx tx q
theorem ZE6 {fd:FuncData} (F:Fun K "birth_at" "birth_at" Zmu Zbt fd) {Zgn:FuncData} (Zih:Hh P w K mg base 1 Zdw Zgn ["heap","place"] (Zec XQ.H)):Fn5 P w K mg base 2 Zbt fd ["heap","place"] (Zb8 XQ):=by
 have sc:=ZDn;have tx:=tx0 _ T;refine G.fok F sc (fun vs H Q E h=>?_) (fun cdv A outer s H vs Q E hr h=>?_)
 ·obtain ⟨z0,z1,rfl,q⟩:=h;rfl
 ·refine ⟨Zod K (Zec XQ.H),(Za1 (Zah (i:=2) sc.nd rfl (Or.inl rfl) (pcl Zih hr T.Zmd (Za0 (pv 0) (Za0 (pv 1) Za6))))
   (Za1 (Zbk (Zan G.Zji (pv 2) (Ze6) (Zau _)) (Za7 (Zae (Ze6))) Zak)
   (Za7 (Zae (Zaq (pv 2) rfl))))),?_⟩
  obtain ⟨z0,z1,rfl,q⟩:=h;exact ZF4 tx q
theorem Zxz {fd:FuncData} (F:Fun K "word" "First.word" Ziu Zcg fd):Fn5 P w K mg base 1 Zcg fd ["self"] (Zlc (.str "first")):=by
 have sc:=Zxi;have tx:=tx0 _ T;refine G.fok F sc (fun vs H Q E h=>?_) (fun cdv A outer s H vs Q E hr h=>?_)
 ·obtain ⟨z0,rfl,q⟩:=h;rfl
 ·refine ⟨Zkl,(Za7 (Zae (Zac))),?_⟩;obtain ⟨z0,rfl,q⟩:=h;exact Zzt tx q
theorem ZBc {fd:FuncData} (F:Fun K "word" "Each.word" Zkb Zd6 fd):Fn5 P w K mg base 1 Zd6 fd ["self"] (Zlc (.str "each")):=by
 have sc:=ZAt;have tx:=tx0 _ T;refine G.fok F sc (fun vs H Q E h=>?_) (fun cdv A outer s H vs Q E hr h=>?_)
 ·obtain ⟨z0,rfl,q⟩:=h;rfl
 ·refine ⟨Zm7,(Za7 (Zae (Zac))),?_⟩;obtain ⟨z0,rfl,q⟩:=h;exact ZDc tx q
theorem ZB9 {fd:FuncData} (F:Fun K "word" "Last.word" Zk8 Zd3 fd):Fn5 P w K mg base 1 Zd3 fd ["self"] (Zlc (.str "last")):=by
 have sc:=ZAq;have tx:=tx0 _ T;refine G.fok F sc (fun vs H Q E h=>?_) (fun cdv A outer s H vs Q E hr h=>?_)
 ·obtain ⟨z0,rfl,q⟩:=h;rfl
 ·refine ⟨Zm4,(Za7 (Zae (Zac))),?_⟩;obtain ⟨z0,rfl,q⟩:=h;exact ZD4 tx q
theorem Zss {fd:FuncData} (F:Fun K "__init__" "Kind.__init__" Zfs Zba fd):Fn5 P w K mg base 1 Zba fd ["self","looking","tells"] (Zl3 XQ.K):=by
 have sc:=Zsn;have tx:=tx0 _ T;refine G.fok F sc (fun vs H Q E h=>?_) (fun cdv A outer s H vs Q E hr h=>?_)
 ·obtain ⟨z0,z1,z2,rfl,q⟩:=h;rfl
 ·refine ⟨Zha K,(Za1 (Zd8 (pv 0) (pv 1) rfl)
   (Za7 (Zd8 (pv 0) (pv 2) rfl))),?_⟩
  obtain ⟨z0,z1,z2,rfl,q⟩:=h;exact Zte tx q
theorem Zxx {fd:FuncData} (F:Fun K "words" "Kind.words" Zis Zce fd) {ZCn:FuncData} (Zvc:Hh P w K mg base 1 Zd6 ZCn ["self"] (Zlc (.str "each"))) {Zz2:FuncData} (Zsa:Hh P w K mg base 1 Zcg Zz2 ["self"] (Zlc (.str "first"))) {ZCk:FuncData} (Zv9:Hh P w K mg base 1 Zd3 ZCk ["self"] (Zlc (.str "last"))):Fn5 P w K mg base 2 Zce fd ["self"] (Zze XQ):=by
 have sc:=Zxg;have tx:=tx0 _ T;refine G.fok F sc (fun vs H Q E h=>?_) (fun cdv A outer s H vs Q E hr h=>?_)
 ·obtain ⟨z0,rfl,q⟩:=h;rfl
 ·refine ⟨Zkj K XQ.E XQ.F XQ.L (Zlc (.str "each")) (Zlc (.str "first")) (Zlc (.str "last")),(Za1 (Zah (i:=1) sc.nd rfl (Or.inl rfl) (G.ZJy (Ziw (Zaq (pv 0) rfl) T.ZG9 T.Zps Zsa.g (hr.mono (by decide)) Zsa.b .nil G.Zfm) (G.ZJy (Ziw (Zaq (pv 0) rfl) T.ZLi T.Zru Zvc.g (hr.mono (by decide)) Zvc.b .nil G.Zfm) (Ziw (Zaq (pv 0) rfl) T.ZLg T.Zrr Zv9.g (hr.mono (by decide)) Zv9.b .nil G.Zfm))))
   (Za1 (Zbk (Zan ZAw (Zb3 ZAx (Zaq (pv 0) rfl) (T.g_OLD.pe rfl)) (Za4) (Zau _)) (Za7 (Zah (i:=1) sc.nd rfl (Or.inl rfl) (Zb3 Zhw (pv 1) (Zac)))) Zak)
   (Za1 (Zbk (Zan ZAw (Zb3 ZAx (Zaq (pv 0) rfl) (T.g_NEW.pe rfl)) (Za4) (Zau _)) (Za7 (Zah (i:=1) sc.nd rfl (Or.inl rfl) (Zb3 Zhw (pv 1) (Zac)))) Zak)
   (Za7 (Zae (pv 1)))))),?_⟩
  obtain ⟨z0,rfl,q⟩:=h;exact Zzn tx q
theorem ZHg {fd:FuncData} (F:Fun K "kind_of" "kind_of" Zpc Zey fd) {Zt9:FuncData} (Zmm:Hh P w K mg base 1 Zba Zt9 ["self","looking","tells"] (Zl3 XQ.K)) {Zz0:FuncData} (Zs8:Hh P w K mg base 2 Zce Zz0 ["self"] (Zze XQ)):Fn5 P w K mg base 3 Zey fd ["text"] (Zqc XQ):=by
 have sc:=ZGy;have tx:=tx0 _ T;refine G.fok F sc (fun vs H Q E h=>?_) (fun cdv A outer s H vs Q E hr h=>?_)
 ·obtain ⟨z0,rfl,q⟩:=h;rfl
 ·refine ⟨Zqn K XQ.E XQ.F XQ.K XQ.L (Zl3 XQ.K) (Zze XQ),(Za1 (Znl PassesOwn.never rfl (Zko (Zd9 (Za0 (G.Zu4 T.mk0_First rfl T.ZKf) (Za0 (G.Zu4 T.mk0_Each rfl T.ZNp) (Za0 (G.Zu4 T.mk0_Last rfl T.ZNl) Za6))))) (Zff (i:=1) sc.nd rfl (Or.inl rfl))
   (Za7 (Znl PassesOwn.never rfl (Zh5 rfl T.Zhx (Za0 (Za4) Za6)) (Zff (i:=2) sc.nd rfl (Or.inl rfl))
   (Za1 (Zah (i:=3) sc.nd rfl (Or.inl rfl) (Zqx T.Zy1 Zmm.g (hr.mono (by decide)) rfl T.ZNm Zmm.b .nil G.Zfm (Za0 (pv 1) (Za0 (pv 2) Za6))))
   (Za7 (Zbk (Zan Zet (Ziw (pv 3) T.ZF3 T.Zpq Zs8.g (hr.mono (by decide)) Zs8.b .nil G.Zfm) (pv 0) (Zau _)) (Za7 (Zae (pv 3))) Zak))))))
   (Za7 (Zae (Ze6)))),?_⟩
  obtain ⟨z0,rfl,q⟩:=h;exact ZI0 tx q
theorem Zsu {fd:FuncData} (F:Fun K "__init__" "Hand.__init__" Zfu Zbc fd):Fn5 P w K mg base 1 Zbc fd ["self","name","many"] (Zl7 XQ.D):=by
 have sc:=Zsp;have tx:=tx0 _ T;refine G.fok F sc (fun vs H Q E h=>?_) (fun cdv A outer s H vs Q E hr h=>?_)
 ·obtain ⟨z0,z1,z2,rfl,q⟩:=h;rfl
 ·refine ⟨Zhc K,(Za1 (Zd8 (pv 0) (pv 1) rfl)
   (Za7 (Zd8 (pv 0) (Zb3 ZFs (Zd9 (Za0 (Ze6) Za6)) (pv 2)) rfl))),?_⟩
  obtain ⟨z0,z1,z2,rfl,q⟩:=h;exact Ztg tx q
theorem Zoh {fd:FuncData} (F:Fun K "__init__" "Sweeper.__init__" Zep Zaw fd):Fn5 P w K mg base 1 Zaw fd ["self"] (Zgz XQ.S):=by
 have sc:=Zo9;have tx:=tx0 _ T;refine G.fok F sc (fun vs H Q E h=>?_) (fun cdv A outer s H vs Q E hr h=>?_)
 ·obtain ⟨z0,rfl,q⟩:=h;rfl
 ·refine ⟨Zfe K,(Za1 (Zd8 (pv 0) (Za4) rfl)
   (Za1 (Zd8 (pv 0) (Zac) rfl)
   (Za1 (Zd8 (pv 0) (Zd9 Za6) rfl)
   (Za1 (Zd8 (pv 0) (Za4) rfl)
   (Za1 (Zd8 (pv 0) (Za4) rfl)
   (Za1 (Zd8 (pv 0) (Za4) rfl)
   (Za1 (Zd8 (pv 0) (Za4) rfl)
   (Za1 (Zd8 (pv 0) (Za4) rfl)
   (Za1 (Zd8 (pv 0) (Za4) rfl)
   (Za1 (Zd8 (pv 0) (Za4) rfl)
   (Za7 (Zd8 (pv 0) (Ze6) rfl)))))))))))),?_⟩
  obtain ⟨z0,rfl,q⟩:=h;exact Zox tx q
theorem Zqy {fd:FuncData} (F:Fun K "__init__" "World.__init__" Zf9 Zb7 fd) {Ztb:FuncData} (Zmo:Hh P w K mg base 1 Zbc Ztb ["self","name","many"] (Zl7 XQ.D)) {Zta:FuncData} (Zmn:Hh P w K mg base 1 Zbb Zta ["self","room"] (Zl5 XQ.H)) {Zot:FuncData} (Zj9:Hh P w K mg base 1 Zaw Zot ["self"] (Zgz XQ.S)):Fn5 P w K mg base 3 Zb7 fd ["self","room","kind","hands"] (Zj6 XQ):=by
 have sc:=Zqk;have tx:=tx0 _ T;refine G.fok F sc (fun vs H Q E h=>?_) (fun cdv A outer s H vs Q E hr h=>?_)
 ·obtain ⟨z0,z1,z2,z3,rfl,q⟩:=h;rfl
 ·refine ⟨Zgg K XQ.D XQ.H XQ.S (Zl7 XQ.D) (Zl5 XQ.H) (Zgz XQ.S),(Za1 (Zd8 (pv 0) (Zqx T.Zy2 Zmn.g (hr.mono (by decide)) rfl T.ZNn Zmn.b .nil G.Zfm (Za0 (pv 1) Za6)) rfl)
   (Za1 (Zd8 (pv 0) (pv 2) rfl)
   (Za1 (Zd8 (pv 0) (G.ZQe (cns:=[]) [] (Zko (pv 3)) (fun _ _ _ _ _=>G.Zu2) (fun _ _ _ _ _=>(Zqx T.Zy3 Zmo.g (hr.mono (by decide)) rfl T.ZNo Zmo.b .nil G.Zfm (Za0 (pv 0) (Za0 (pv 1) Za6)))) rfl rfl (by repeat (first | exact trivial | refine ⟨rfl,?_⟩)) (by repeat (first | exact trivial | refine ⟨rfl,?_⟩)) rfl (by decide +kernel) rfl (by decide +kernel) (by decide +kernel) rfl rfl (by decide +kernel)) rfl)
   (Za1 (Zd8 (pv 0) (Zxn) rfl)
   (Za7 (Zd8 (pv 0) (ZM3 T.Zmz Zj9.g (hr.mono (by decide)) rfl T.ZBg Zj9.b .nil G.Zfm) rfl)))))),?_⟩
  obtain ⟨z0,z1,z2,z3,rfl,q⟩:=h;exact Zri tx q
theorem Zvu {fd:FuncData} (F:Fun K "births_held" "births_held" Zhq Zc8 fd) {Zmj:FuncData} (Zoy:Hh P w K mg base 3 Zd2 Zmj ["heap","places"] (Zfk XQ)):Fn5 P w K mg base 4 Zc8 fd ["world"] (Zts XQ):=by
 have sc:=Zvo;have tx:=tx0 _ T;refine G.fok F sc (fun vs H Q E h=>?_) (fun cdv A outer s H vs Q E hr h=>?_)
 ·obtain ⟨z0,rfl,q⟩:=h;rfl
 ·refine ⟨Zjf K (Zfk XQ),(Za7 (Zae (G.ZHd (cns:=["world"]) [0] (Zko (Zaq (pv 0) rfl)) (fun _ _ _ _ _=>G.Zu2) (fun _ _ _ _ _=>(pcl Zoy hr T.Zok (Za0 (Zaq (pv 1) rfl) (Za0 (Zaq (pv 0) rfl) Za6)))) rfl rfl (by repeat (first | exact trivial | refine ⟨rfl,?_⟩)) (by repeat (first | exact trivial | refine ⟨rfl,?_⟩)) rfl (by decide +kernel) rfl (by decide +kernel) (by decide +kernel) rfl (by decide +kernel)))),?_⟩;obtain ⟨z0,rfl,q⟩:=h;exact Zwc tx q
theorem ZB2 {fd:FuncData} (F:Fun K "births_at" "births_at" Zk1 Zd2 fd) {Zc3:FuncData} (Zcl:Hh P w K mg base 2 Zbt Zc3 ["heap","place"] (Zb8 XQ)):Fn5 P w K mg base 3 Zd2 fd ["heap","places"] (Zfk XQ):=by
 have sc:=ZAj;have tx:=tx0 _ T;refine G.fok F sc (fun vs H Q E h=>?_) (fun cdv A outer s H vs Q E hr h=>?_)
 ·obtain ⟨z0,z1,rfl,q⟩:=h;rfl
 ·refine ⟨Zlx K (Zb8 XQ),(Za7 (Zae (G.ZHd (cns:=["heap"]) [0] (Zko (pv 1)) (fun _ _ _ _ _=>G.Zu2) (fun _ _ _ _ _=>(pcl Zcl hr T.Zf1 (Za0 (pv 1) (Za0 (pv 0) Za6)))) rfl rfl (by repeat (first | exact trivial | refine ⟨rfl,?_⟩)) (by repeat (first | exact trivial | refine ⟨rfl,?_⟩)) rfl (by decide +kernel) rfl (by decide +kernel) (by decide +kernel) rfl (by decide +kernel)))),?_⟩;obtain ⟨z0,z1,rfl,q⟩:=h;exact ZCs tx q
theorem ZAz {fd:FuncData} (F:Fun K "looked_at" "looked_at" Zjy Zdg fd):Fn5 P w K mg base 1 Zdg fd ["world","hand"] (Zl1 XQ):=by
 have sc:=ZAg;have tx:=tx0 _ T;refine G.fok F sc (fun vs H Q E h=>?_) (fun cdv A outer s H vs Q E hr h=>?_)
 ·obtain ⟨z0,z1,rfl,q⟩:=h;rfl
 ·refine ⟨Zlu K,(Za7 (Zae (Zgi Zet (Zb3 ZAx (Zb3 ZQf (Zaq (Zaq (pv 0) rfl) rfl) (pv 1)) (Za4)) (Za4) (Zau _)))),?_⟩;obtain ⟨z0,z1,rfl,q⟩:=h;exact ZBh tx q
theorem ZB0 {fd:FuncData} (F:Fun K "has_sense" "has_sense" Zjz Zck fd):Fn5 P w K mg base 1 Zck fd ["world","cell"] (Ze4 XQ):=by
 have sc:=ZAh;have tx:=tx0 _ T;refine G.fok F sc (fun vs H Q E h=>?_) (fun cdv A outer s H vs Q E hr h=>?_)
 ·obtain ⟨z0,z1,rfl,q⟩:=h;rfl
 ·refine ⟨Zlv K,(Za7 (Zae (Zgi Zet (Zaq (pv 1) rfl) (Zaq (Zaq (pv 0) rfl) rfl) (Zau _)))),?_⟩;obtain ⟨z0,z1,rfl,q⟩:=h;exact ZC9 tx q
theorem ZHf {fd:FuncData} (F:Fun K "mark_of" "mark_of" Zpb Zex fd) {Zh7:FuncData} (Zig:Hh P w K mg base 1 Zck Zh7 ["world","cell"] (Ze4 XQ)):Fn5 P w K mg base 2 Zex fd ["world","place"] (Zqb XQ):=by
 have sc:=ZGx;have tx:=tx0 _ T;refine G.fok F sc (fun vs H Q E h=>?_) (fun cdv A outer s H vs Q E hr h=>?_)
 ·obtain ⟨z0,z1,rfl,q⟩:=h;rfl
 ·refine ⟨Zqm K (Ze4 XQ),(Za1 (Zah (i:=2) sc.nd rfl (Or.inl rfl) (Zaq (pv 0) rfl))
   (Za1 (Zah (i:=3) sc.nd rfl (Or.inl rfl) (pcl Zig hr T.Zkt (Za0 (pv 0) (Za0 (Zaj Zap (Zaq (Zaq (pv 0) rfl) rfl) (pv 1) (fun _ _=>rfl)) Za6))))
   (Za1 (Zbk (Zan Zet (Zaq (pv 2) rfl) (Zac) (Zau _)) (Za7 (Zae (Zac))) Zak)
   (Za1 (Zbk (Zan Zet (Zaq (pv 2) rfl) (Zac) (Zau _)) (Za7 (Zae (ZFr (Zeq (pv 3)) (Zac) (Zac)))) Zak)
   (Za1 (Zbk (Zlb (Zeq (pv 3))) (Za7 (Zae (Zac))) Zak)
   (Za7 (Zae (ZFr (Zan Zu5 (pv 1) (Zaq (pv 2) rfl) (by with_unfolding_all rfl)) (Zac) (Zac))))))))),?_⟩
  obtain ⟨z0,z1,rfl,q⟩:=h;exact ZHr tx q
theorem Zxq {fd:FuncData} (F:Fun K "told_cells" "told_cells" Zim Zcn fd) {Zz1:FuncData} (Zs9:Hh P w K mg base 1 Zcf Zz1 ["self"] (Zj7 XQ.H)) {ZCc:FuncData} (ZFb:Hh P w K mg base 4 Zdf ZCc ["world","place"] (Zkz XQ)):Fn5 P w K mg base 5 Zcn fd ["world"] (ZGd XQ):=by
 have sc:=Zxa;have tx:=tx0 _ T;refine G.fok F sc (fun vs H Q E h=>?_) (fun cdv A outer s H vs Q E hr h=>?_)
 ·obtain ⟨z0,rfl,q⟩:=h;rfl
 ·refine ⟨Zkd K XQ.H (Zj7 XQ.H) (Zkz XQ),(Za7 (Zae (G.ZHd (cns:=["world"]) [0] (Zko (Ziw (Zaq (pv 0) rfl) T.Zca T.Zpr Zs9.g (hr.mono (by decide)) Zs9.b .nil G.Zfm)) (fun _ _ _ _ _=>G.Zu2) (fun _ _ _ _ _=>(pcl ZFb hr T.Zuc (Za0 (pv 1) (Za0 (pv 0) Za6)))) rfl rfl (by repeat (first | exact trivial | refine ⟨rfl,?_⟩)) (by repeat (first | exact trivial | refine ⟨rfl,?_⟩)) rfl (by decide +kernel) rfl (by decide +kernel) (by decide +kernel) rfl (by decide +kernel)))),?_⟩;obtain ⟨z0,rfl,q⟩:=h;exact Zwx tx q
theorem ZAy {fd:FuncData} (F:Fun K "told_cell" "told_cell" Zjx Zdf fd) {Zmj:FuncData} (Zoy:Hh P w K mg base 3 Zd2 Zmj ["heap","places"] (Zfk XQ)) {ZId:FuncData} (ZLo:Hh P w K mg base 2 Zex ZId ["world","place"] (Zqb XQ)):Fn5 P w K mg base 4 Zdf fd ["world","place"] (Zkz XQ):=by
 have sc:=ZAf;have tx:=tx0 _ T;refine G.fok F sc (fun vs H Q E h=>?_) (fun cdv A outer s H vs Q E hr h=>?_)
 ·obtain ⟨z0,z1,rfl,q⟩:=h;rfl
 ·refine ⟨Zlt K (Zfk XQ) (Zqb XQ),(Za1 (Zah (i:=2) sc.nd rfl (Or.inl rfl) (Zaj Zap (Zaq (Zaq (pv 0) rfl) rfl) (pv 1) (fun _ _=>rfl)))
   (Za1 (Zah (i:=3) sc.nd rfl (Or.inl rfl) (pcl Zoy hr T.Zok (Za0 (Zaq (pv 0) rfl) (Za0 (Zaq (pv 2) rfl) Za6))))
   (Za7 (Zae (Zdq (Za0 (pv 1) (Za0 (Zaq (pv 2) rfl) (Za0 (Zaq (pv 2) rfl) (Za0 (Zaq (pv 2) rfl) (Za0 (pv 3) (Za0 (pcl ZLo hr T.ZBe (Za0 (pv 0) (Za0 (pv 1) Za6))) Za6))))))))))),?_⟩
  obtain ⟨z0,z1,rfl,q⟩:=h;exact Zzy tx q
theorem ZOq {fd:FuncData} (F:Fun K "note" "note" ZFk Zmk fd) {Zgn:FuncData} (Zih:Hh P w K mg base 1 Zdw Zgn ["heap","place"] (Zec XQ.H)) {Zh7:FuncData} (Zig:Hh P w K mg base 1 Zck Zh7 ["world","cell"] (Ze4 XQ)):Fn5 P w K mg base 2 Zmk fd ["world","place"] (ZGf XQ):=by
 have sc:=ZOc;have tx:=tx0 _ T;refine G.fok F sc (fun vs H Q E h=>?_) (fun cdv A outer s H vs Q E hr h=>?_)
 ·obtain ⟨z0,z1,rfl,q⟩:=h;rfl
 ·refine ⟨ZDu K (Zec XQ.H) (Ze4 XQ),(Za1 (Zah (i:=2) sc.nd rfl (Or.inl rfl) (Zaq (pv 0) rfl))
   (Za1 (Zah (i:=3) sc.nd rfl (Or.inl rfl) (pcl Zih hr T.Zmd (Za0 (Zaq (pv 0) rfl) (Za0 (pv 1) Za6))))
   (Za1 (Zbk (PW.pt (ZHc (Zan ZAw (Zaq (pv 2) rfl) (Zac) (Zau _)) (ZHc (Zan G.Zji (pv 3) (Ze6) (Zau _)) (ZFp (Zeq (pcl Zig hr T.Zkt (Za0 (pv 0) (Za0 (pv 3) Za6)))))))) (Za7 (Zae (Ze6))) Zak)
   (Za1 (Zd8 (pv 3) (Zaq (pv 2) rfl) rfl)
   (Za1 (Zog (ZE0 PySem.F.plainAttrs_list PySem.F.slot_list_append PySem.F.type_list_append Zg4 (Zaq (pv 2) rfl) (Za0 (pv 1) Za6)))
   (Za7 (Zae (Zaq (pv 3) rfl)))))))),?_⟩
  obtain ⟨z0,z1,rfl,q⟩:=h;exact ZOt tx q
theorem ZE4 {fd:FuncData} (F:Fun K "note_all" "note_all" Zms Zdc fd) {ZPn:FuncData} (ZRu:Hh P w K mg base 2 Zmk ZPn ["world","place"] (ZGf XQ)):Fn5 P w K mg base 3 Zdc fd ["world","places"] (Zem XQ):=by
 have sc:=ZDl;have tx:=tx0 _ T;refine G.fok F sc (fun vs H Q E h=>?_) (fun cdv A outer s H vs Q E hr h=>?_)
 ·obtain ⟨z0,z1,rfl,q⟩:=h;rfl
 ·refine ⟨Zob K (ZGf XQ),(Za1 (Zah (i:=2) sc.nd rfl (Or.inl rfl) (Zd9 Za6))
   (Za1 (Znl PassesOwn.never rfl (Zko (pv 1)) (Zff (i:=3) sc.nd rfl (Or.inl rfl))
   (Za1 (Zah (i:=4) sc.nd rfl (Or.inl rfl) (pcl ZRu hr T.ZNj (Za0 (pv 0) (Za0 (pv 3) Za6))))
   (Za7 (Zbk (Zan G.ZFt (pv 4) (Ze6) (Zau _)) (Za7 (Zog (ZE0 PySem.F.plainAttrs_list PySem.F.slot_list_append PySem.F.type_list_append Zg4 (pv 2) (Za0 (pv 4) Za6)))) Zak))))
   (Za7 (Zae (pv 2))))),?_⟩
  obtain ⟨z0,z1,rfl,q⟩:=h;exact ZE9 tx q
theorem ZOr {fd:FuncData} (F:Fun K "gone" "gone" ZFl Zml fd) {Zgn:FuncData} (Zih:Hh P w K mg base 1 Zdw Zgn ["heap","place"] (Zec XQ.H)) {Zh7:FuncData} (Zig:Hh P w K mg base 1 Zck Zh7 ["world","cell"] (Ze4 XQ)):Fn5 P w K mg base 2 Zml fd ["world","place","birth"] (ZGh XQ):=by
 have sc:=ZOd;have tx:=tx0 _ T;refine G.fok F sc (fun vs H Q E h=>?_) (fun cdv A outer s H vs Q E hr h=>?_)
 ·obtain ⟨z0,z1,z2,rfl,q⟩:=h;rfl
 ·refine ⟨ZDv K (Zec XQ.H) (Ze4 XQ),(Za1 (Zah (i:=3) sc.nd rfl (Or.inl rfl) (pcl Zih hr T.Zmd (Za0 (Zaq (pv 0) rfl) (Za0 (pv 1) Za6))))
   (Za1 (Zbk (PW.pt (ZHc (Zan G.Zji (pv 3) (Ze6) (Zau _)) (ZFp (Zan ZAw (Zaq (pv 3) rfl) (pv 2) (Zau _))))) (Za7 (Zae (Zib))) Zak)
   (Za7 (Zae ((Zpn (Zgi Zet (Zaq (Zaq (pv 0) rfl) rfl) (Zac) (Zau _)) (Zu3 (ZJx (pcl Zig hr T.Zkt (Za0 (pv 0) (Za0 (pv 3) Za6))))))))))),?_⟩
  obtain ⟨z0,z1,z2,rfl,q⟩:=h;exact ZPg tx q
theorem ZE3 {fd:FuncData} (F:Fun K "slots_of" "slots_of" Zmr Zbq fd):Fn5 P w K mg base 1 Zbq fd ["world","hand"] (Zaz XQ):=by
 have sc:=ZDk;have tx:=tx0 _ T;refine G.fok F sc (fun vs H Q E h=>?_) (fun cdv A outer s H vs Q E hr h=>?_)
 ·obtain ⟨z0,z1,rfl,q⟩:=h;rfl
 ·refine ⟨Zoa K,(Za7 (Zae (Zaq (Zaj Zap (Zaq (pv 0) rfl) (pv 1) (fun _ _=>rfl)) rfl))),?_⟩;obtain ⟨z0,z1,rfl,q⟩:=h;exact ZDi tx q
theorem ZHo {fd:FuncData} (F:Fun K "cell_in" "cell_in" Zpk Zdv fd) {Zgn:FuncData} (Zih:Hh P w K mg base 1 Zdw Zgn ["heap","place"] (Zec XQ.H)) {Zbm:FuncData} (Zbu:Hh P w K mg base 1 Zbq Zbm ["world","hand"] (Zaz XQ)):Fn5 P w K mg base 2 Zdv fd ["world","hand","slot"] (Zeb XQ Za8):=by
 have sc:=ZH6;have tx:=tx0 _ T;refine G.fokX F sc (fun vs H Q E h=>?_) (fun cdv A outer s H vs Q E hr h=>?_)
 ·obtain ⟨z0,z1,z2,rfl,q⟩:=h;rfl
 ·refine ⟨Zqv K Za8 (Zec XQ.H) (Zaz XQ) E,(Za1 (Zah (i:=3) sc.nd rfl (Or.inl rfl) (pcl Zih hr T.Zmd (Za0 (Zaq (pv 0) rfl) (Za0 (Zaj Zap (pcl Zbu hr T.Ze9 (Za0 (pv 0) (Za0 (pv 1) Za6))) (pv 2) (fun _ _=>rfl)) Za6))))
   (Za1 (Zbk (Zan G.Zji (pv 3) (Ze6) (Zau _)) (Za7 (G.Ztm rfl rfl T.Zon T.x_EmptySlot (Za0 (Zac) Za6) (fun _ _ _ _ _ _ _ I hx hE=>G.ZFo I hx hE))) Zak)
   (Za7 (Zae (pv 3))))),?_⟩
  obtain ⟨z0,z1,z2,rfl,q⟩:=h;exact ZIw tx q
theorem ZB1 {fd:FuncData} (F:Fun K "fields_in" "fields_in" Zk0 Zd1 fd) {Zrf:FuncData} (Zld:Hh P w K mg base 1 Zb9 Zrf ["self","field"] (Zl2 XQ)) {Zgm:FuncData} (Zdn:Hh P w K mg base 2 Zdv Zgm ["world","hand","slot"] (Zeb XQ Za8)):Fn5 P w K mg base 3 Zd1 fd ["world","hand","slot","field"] (Zfj XQ Za8 Zad):=by
 have sc:=ZAi;have tx:=tx0 _ T;refine G.fokX F sc (fun vs H Q E h=>?_) (fun cdv A outer s H vs Q E hr h=>?_)
 ·obtain ⟨z0,z1,z2,z3,rfl,q⟩:=h;rfl
 ·refine ⟨Zlw K XQ.C Zad (Zl2 XQ) (Zeb XQ Za8) E,(Za1 (Zah (i:=4) sc.nd rfl (Or.inl rfl) (Zjh Zdn.g (hr.mono (by decide)) rfl T.Zmc Zdn.k Zdn.b .nil G.Zxp (Za0 (pv 0) (Za0 (pv 1) (Za0 (pv 2) Za6)))))
   (Za1 (Zbk (Zlb (Zeq (ZDy (pv 4) T.Zc5 T.Zjs Zld.g (hr.mono (by decide)) Zld.b .nil G.Zfm (Za0 (pv 3) Za6)))) (Za7 (G.Ztm rfl rfl T.Zui T.x_NoField (Za0 (Zac) Za6) (fun _ _ _ _ _ _ _ I hx hE=>G.ZFo I hx hE))) Zak)
   (Za7 (Zae (Zaq (pv 4) rfl))))),?_⟩
  obtain ⟨z0,z1,z2,z3,rfl,q⟩:=h;exact ZCb tx q
theorem Zvr {fd:FuncData} (F:Fun K "told_as_old" "told_as_old" Zhn Zc6 fd):Fn5 P w K mg base 1 Zc6 fd ["world","place"] (Zn3 XQ):=by
 have sc:=Zvl;have tx:=tx0 _ T;refine G.fok F sc (fun vs H Q E h=>?_) (fun cdv A outer s H vs Q E hr h=>?_)
 ·obtain ⟨z0,z1,rfl,q⟩:=h;rfl
 ·refine ⟨Zjc K,(Za1 (Zbk (Zan Zet (Zb3 ZAx (Zaq (Zaq (pv 0) rfl) rfl) (T.g_OLD.pe rfl)) (Za4) (Zau _)) (Za7 (Zae (Zd9 Za6))) Zak)
   (Za7 (Zae (Zd9 (Za0 (pv 1) Za6))))),?_⟩
  obtain ⟨z0,z1,rfl,q⟩:=h;exact Zve tx q
theorem Zvs {fd:FuncData} (F:Fun K "told_as_new" "told_as_new" Zho Zc1 fd) {ZCd:FuncData} (ZFc:Hh P w K mg base 1 Zdg ZCd ["world","hand"] (Zl1 XQ)):Fn5 P w K mg base 2 Zc1 fd ["world","hand","place"] (Zgr XQ):=by
 have sc:=Zvm;have tx:=tx0 _ T;refine G.fok F sc (fun vs H Q E h=>?_) (fun cdv A outer s H vs Q E hr h=>?_)
 ·obtain ⟨z0,z1,z2,rfl,q⟩:=h;rfl
 ·refine ⟨Zjd K (Zl1 XQ),(Za1 (Zbk (PW.pt (ZHc (Zan Zet (Zb3 ZAx (Zaq (Zaq (pv 0) rfl) rfl) (T.g_NEW.pe rfl)) (Za4) (Zau _)) (ZFp (Zeq (pcl ZFc hr T.Zud (Za0 (pv 0) (Za0 (pv 1) Za6))))))) (Za7 (Zae (Zd9 Za6))) Zak)
   (Za7 (Zae (Zd9 (Za0 (pv 2) Za6))))),?_⟩
  obtain ⟨z0,z1,z2,rfl,q⟩:=h;exact Zvf tx q
theorem ZHk {fd:FuncData} (F:Fun K "do_make" "do_make" Zpg Zcr fd) {ZCl:FuncData} (Zva:Hh P w K mg base 3 Zd4 ZCl ["self","many","bulk","tone"] (Zl4 K XQ.C XQ.H Zb0)) {Zc3:FuncData} (Zcl:Hh P w K mg base 2 Zbt Zc3 ["heap","place"] (Zb8 XQ)) {Zbm:FuncData} (Zbu:Hh P w K mg base 1 Zbq Zbm ["world","hand"] (Zaz XQ)):Fn5 P w K mg base 4 Zcr fd ["world","deed"] (Zbf XQ (rfA Zb0 Za8 Zad Zai) Zs0):=by
 have sc:=ZH2;have tx:=tx0 _ T;refine G.fokX F sc (fun vs H Q E h=>?_) (fun cdv A outer s H vs Q E hr h=>?_)
 ·obtain ⟨z0,z1,rfl,q⟩:=h;rfl
 ·refine ⟨Zqr K XQ.H (Zl4 K XQ.C XQ.H Zb0) (Zb8 XQ) (Zaz XQ) E,(Za1 (Zah (i:=2) sc.nd rfl (Or.inl rfl) (pcl Zbu hr T.Ze9 (Za0 (pv 0) (Za0 (Zaj Zar (pv 1) (Za4) (fun _ _=>rfl)) Za6))))
   (Za1 (Zah (i:=3) sc.nd rfl (Or.inl rfl) (Zaj Zar (pv 1) (Za4) (fun _ _=>rfl)))
   (Za1 (Zah (i:=4) sc.nd rfl (Or.inl rfl) (Zaj Zar (pv 1) (Za4) (fun _ _=>rfl)))
   (Za1 (Zah (i:=5) sc.nd rfl (Or.inl rfl) (ZDy (Zaq (pv 0) rfl) T.Zca T.Zrs Zva.g (hr.mono (by decide)) Zva.b .nil G.Zxp (Za0 (pv 3) (Za0 (pv 4) (Za0 (Zaq (Zaq (pv 0) rfl) rfl) Za6)))))
   (Za1 (Zhj (pv 5) (Zhk (pv 2) (Zaj Zar (pv 1) (Za4) (fun _ _=>rfl)) set_list))
   (Za7 (Zae (Zdq (Za0 (Zac) (Za0 (pcl Zcl hr T.Zf1 (Za0 (Zaq (pv 0) rfl) (Za0 (pv 5) Za6))) (Za0 (Zd9 Za6) Za6))))))))))),?_⟩
  obtain ⟨z0,z1,rfl,q⟩:=h;exact ZIp tx rfl q
theorem ZK2 {fd:FuncData} (F:Fun K "do_get" "do_get" Ztl Zdu fd) {Zc3:FuncData} (Zcl:Hh P w K mg base 2 Zbt Zc3 ["heap","place"] (Zb8 XQ)) {Zmi:FuncData} (Zfl:Hh P w K mg base 3 Zd1 Zmi ["world","hand","slot","field"] (Zfj XQ Za8 Zad)) {Zbm:FuncData} (Zbu:Hh P w K mg base 1 Zbq Zbm ["world","hand"] (Zaz XQ)):Fn5 P w K mg base 4 Zdu fd ["world","deed"] (Zbf XQ (rfA Zb0 Za8 Zad Zai) ZI4):=by
 have sc:=ZJj;have tx:=tx0 _ T;refine G.fokX F sc (fun vs H Q E h=>?_) (fun cdv A outer s H vs Q E hr h=>?_)
 ·obtain ⟨z0,z1,rfl,q⟩:=h;rfl
 ·refine ⟨Zu0 K (Zb8 XQ) (Zfj XQ Za8 Zad) (Zaz XQ) E,(Za1 (Zah (i:=2) sc.nd rfl (Or.inl rfl) (Zaj Zar (pv 1) (Za4) (fun _ _=>rfl)))
   (Za1 (Zah (i:=3) sc.nd rfl (Or.inl rfl) (Zaj Zar (pv 1) (Za4) (fun _ _=>rfl)))
   (Za1 (Zah (i:=4) sc.nd rfl (Or.inl rfl) (Zaj Zar (pv 1) (Za4) (fun _ _=>rfl)))
   (Za1 (Zah (i:=5) sc.nd rfl (Or.inl rfl) (Zaj Zap (Zjh Zfl.g (hr.mono (by decide)) rfl T.Zoj Zfl.k Zfl.b .nil G.Zxp (Za0 (pv 0) (Za0 (pv 2) (Za0 (pv 3) (Za0 (pv 4) Za6))))) (pv 4) (fun _ _=>rfl)))
   (Za1 (Zhj (pv 5) (Zhk (pcl Zbu hr T.Ze9 (Za0 (pv 0) (Za0 (pv 2) Za6))) (Zaj Zar (pv 1) (Za4) (fun _ _=>rfl)) set_list))
   (Za7 (Zae (Zdq (Za0 (Zac) (Za0 (pcl Zcl hr T.Zf1 (Za0 (Zaq (pv 0) rfl) (Za0 (pv 5) Za6))) (Za0 (Zd9 Za6) Za6))))))))))),?_⟩
  obtain ⟨z0,z1,rfl,q⟩:=h;exact ZL2 tx rfl rfl q
theorem ZK1 {fd:FuncData} (F:Fun K "do_put" "do_put" Ztk Zdt fd) {Zc3:FuncData} (Zcl:Hh P w K mg base 2 Zbt Zc3 ["heap","place"] (Zb8 XQ)) {Zmi:FuncData} (Zfl:Hh P w K mg base 3 Zd1 Zmi ["world","hand","slot","field"] (Zfj XQ Za8 Zad)) {Zic:FuncData} (Zju:Hh P w K mg base 3 Zdc Zic ["world","places"] (Zem XQ)) {Zbm:FuncData} (Zbu:Hh P w K mg base 1 Zbq Zbm ["world","hand"] (Zaz XQ)) {Zjl:FuncData} (Zl9:Hh P w K mg base 2 Zc1 Zjl ["world","hand","place"] (Zgr XQ)) {Zw5:FuncData} (Zzp:Hh P w K mg base 1 Zc6 Zw5 ["world","place"] (Zn3 XQ)):Fn5 P w K mg base 4 Zdt fd ["world","deed"] (Zbf XQ (rfA Zb0 Za8 Zad Zai) ZI2):=by
 have sc:=ZJi;have tx:=tx0 _ T;refine G.fokX F sc (fun vs H Q E h=>?_) (fun cdv A outer s H vs Q E hr h=>?_)
 ·obtain ⟨z0,z1,rfl,q⟩:=h;rfl
 ·refine ⟨Ztz K (Zb8 XQ) (Zfj XQ Za8 Zad) (Zem XQ) (Zaz XQ) (Zgr XQ) (Zn3 XQ) E,(Za1 (Zah (i:=2) sc.nd rfl (Or.inl rfl) (Zaj Zar (pv 1) (Za4) (fun _ _=>rfl)))
   (Za1 (Zah (i:=3) sc.nd rfl (Or.inl rfl) (Zaj Zar (pv 1) (Za4) (fun _ _=>rfl)))
   (Za1 (Zah (i:=4) sc.nd rfl (Or.inl rfl) (Zjh Zfl.g (hr.mono (by decide)) rfl T.Zoj Zfl.k Zfl.b .nil G.Zxp (Za0 (pv 0) (Za0 (pv 2) (Za0 (Zaj Zar (pv 1) (Za4) (fun _ _=>rfl)) (Za0 (pv 3) Za6))))))
   (Za1 (Zah (i:=5) sc.nd rfl (Or.inl rfl) (Zaj Zap (pv 4) (pv 3) (fun _ _=>rfl)))
   (Za1 (Zah (i:=6) sc.nd rfl (Or.inl rfl) (Zaj Zap (pcl Zbu hr T.Ze9 (Za0 (pv 0) (Za0 (pv 2) Za6))) (Zaj Zar (pv 1) (Za4) (fun _ _=>rfl)) (fun _ _=>rfl)))
   (Za1 (Zhj (pv 6) (Zhk (pv 4) (pv 3) set_list))
   (Za1 (Zah (i:=7) sc.nd rfl (Or.inl rfl) (pcl Zju hr T.Zn0 (Za0 (pv 0) (Za0 (Zb3 ZQi (pcl Zzp hr T.Zpt (Za0 (pv 0) (Za0 (pv 5) Za6))) (pcl Zl9 hr T.Zks (Za0 (pv 0) (Za0 (pv 2) (Za0 (pv 6) Za6))))) Za6))))
   (Za7 (Zae (Zdq (Za0 (Zac) (Za0 (pcl Zcl hr T.Zf1 (Za0 (Zaq (pv 0) rfl) (Za0 (pv 5) Za6))) (Za0 (pv 7) Za6))))))))))))),?_⟩
  obtain ⟨z0,z1,rfl,q⟩:=h;exact ZL1 tx rfl rfl q
theorem ZHn {fd:FuncData} (F:Fun K "do_copy" "do_copy" Zpj Zcu fd) {Zc3:FuncData} (Zcl:Hh P w K mg base 2 Zbt Zc3 ["heap","place"] (Zb8 XQ)) {Zbm:FuncData} (Zbu:Hh P w K mg base 1 Zbq Zbm ["world","hand"] (Zaz XQ)):Fn5 P w K mg base 3 Zcu fd ["world","deed"] (Zbf XQ (rfA Zb0 Za8 Zad Zai) Zwq):=by
 have sc:=ZH5;have tx:=tx0 _ T;refine G.fok F sc (fun vs H Q E h=>?_) (fun cdv A outer s H vs Q E hr h=>?_)
 ·obtain ⟨z0,z1,rfl,q⟩:=h;rfl
 ·refine ⟨Zqu K (Zb8 XQ) (Zaz XQ),(Za1 (Zah (i:=2) sc.nd rfl (Or.inl rfl) (pcl Zbu hr T.Ze9 (Za0 (pv 0) (Za0 (Zaj Zar (pv 1) (Za4) (fun _ _=>rfl)) Za6))))
   (Za1 (Zah (i:=3) sc.nd rfl (Or.inl rfl) (Zaj Zap (pv 2) (Zaj Zar (pv 1) (Za4) (fun _ _=>rfl)) (fun _ _=>rfl)))
   (Za1 (Zhj (pv 3) (Zhk (pv 2) (Zaj Zar (pv 1) (Za4) (fun _ _=>rfl)) set_list))
   (Za7 (Zae (Zdq (Za0 (Zac) (Za0 (pcl Zcl hr T.Zf1 (Za0 (Zaq (pv 0) rfl) (Za0 (pv 3) Za6))) (Za0 (Zd9 Za6) Za6))))))))),?_⟩
  obtain ⟨z0,z1,rfl,q⟩:=h;exact ZIs tx q
theorem ZHm {fd:FuncData} (F:Fun K "do_drop" "do_drop" Zpi Zct fd) {Zc3:FuncData} (Zcl:Hh P w K mg base 2 Zbt Zc3 ["heap","place"] (Zb8 XQ)) {Zbm:FuncData} (Zbu:Hh P w K mg base 1 Zbq Zbm ["world","hand"] (Zaz XQ)):Fn5 P w K mg base 3 Zct fd ["world","deed"] (Zbf XQ (rfA Zb0 Za8 Zad Zai) Zwp):=by
 have sc:=ZH4;have tx:=tx0 _ T;refine G.fok F sc (fun vs H Q E h=>?_) (fun cdv A outer s H vs Q E hr h=>?_)
 ·obtain ⟨z0,z1,rfl,q⟩:=h;rfl
 ·refine ⟨Zqt K (Zb8 XQ) (Zaz XQ),(Za1 (Zah (i:=2) sc.nd rfl (Or.inl rfl) (pcl Zbu hr T.Ze9 (Za0 (pv 0) (Za0 (Zaj Zar (pv 1) (Za4) (fun _ _=>rfl)) Za6))))
   (Za1 (Zah (i:=3) sc.nd rfl (Or.inl rfl) (Zaj Zap (pv 2) (Zaj Zar (pv 1) (Za4) (fun _ _=>rfl)) (fun _ _=>rfl)))
   (Za1 (Zhj (Ze6) (Zhk (pv 2) (Zaj Zar (pv 1) (Za4) (fun _ _=>rfl)) set_list))
   (Za7 (Zae (Zdq (Za0 (Zac) (Za0 (pcl Zcl hr T.Zf1 (Za0 (Zaq (pv 0) rfl) (Za0 (pv 3) Za6))) (Za0 (Zd9 Za6) Za6))))))))),?_⟩
  obtain ⟨z0,z1,rfl,q⟩:=h;exact ZIr tx q
theorem ZHl {fd:FuncData} (F:Fun K "do_give" "do_give" Zph Zcs fd) {Zc3:FuncData} (Zcl:Hh P w K mg base 2 Zbt Zc3 ["heap","place"] (Zb8 XQ)) {Zic:FuncData} (Zju:Hh P w K mg base 3 Zdc Zic ["world","places"] (Zem XQ)) {Zbm:FuncData} (Zbu:Hh P w K mg base 1 Zbq Zbm ["world","hand"] (Zaz XQ)) {Zjl:FuncData} (Zl9:Hh P w K mg base 2 Zc1 Zjl ["world","hand","place"] (Zgr XQ)):Fn5 P w K mg base 4 Zcs fd ["world","deed"] (Zbf XQ (rfA Zb0 Za8 Zad Zai) Zwo):=by
 have sc:=ZH3;have tx:=tx0 _ T;refine G.fok F sc (fun vs H Q E h=>?_) (fun cdv A outer s H vs Q E hr h=>?_)
 ·obtain ⟨z0,z1,rfl,q⟩:=h;rfl
 ·refine ⟨Zqs K (Zb8 XQ) (Zem XQ) (Zaz XQ) (Zgr XQ),(Za1 (Zah (i:=2) sc.nd rfl (Or.inl rfl) (Zaj Zar (pv 1) (Za4) (fun _ _=>rfl)))
   (Za1 (Zah (i:=3) sc.nd rfl (Or.inl rfl) (Zaj Zar (pv 1) (Za4) (fun _ _=>rfl)))
   (Za1 (Zah (i:=4) sc.nd rfl (Or.inl rfl) (Zaj Zap (pcl Zbu hr T.Ze9 (Za0 (pv 0) (Za0 (pv 2) Za6))) (Zaj Zar (pv 1) (Za4) (fun _ _=>rfl)) (fun _ _=>rfl)))
   (Za1 (Zhj (pv 4) (Zhk (pcl Zbu hr T.Ze9 (Za0 (pv 0) (Za0 (pv 3) Za6))) (Zaj Zar (pv 1) (Za4) (fun _ _=>rfl)) set_list))
   (Za1 (Zah (i:=5) sc.nd rfl (Or.inl rfl) (pcl Zju hr T.Zn0 (Za0 (pv 0) (Za0 (pcl Zl9 hr T.Zks (Za0 (pv 0) (Za0 (pv 2) (Za0 (pv 4) Za6)))) Za6))))
   (Za7 (Zae (Zdq (Za0 (Zac) (Za0 (pcl Zcl hr T.Zf1 (Za0 (Zaq (pv 0) rfl) (Za0 (pv 4) Za6))) (Za0 (pv 5) Za6))))))))))),?_⟩
  obtain ⟨z0,z1,rfl,q⟩:=h;exact ZIq tx q
theorem ZE5 {fd:FuncData} (F:Fun K "do_write" "do_write" Zmt Zc4 fd) {Zgm:FuncData} (Zdn:Hh P w K mg base 2 Zdv Zgm ["world","hand","slot"] (Zeb XQ Za8)):Fn5 P w K mg base 3 Zc4 fd ["world","deed"] (Zbf XQ (rfA Zb0 Za8 Zad Zai) Zr3):=by
 have sc:=ZDm;have tx:=tx0 _ T;refine G.fokX F sc (fun vs H Q E h=>?_) (fun cdv A outer s H vs Q E hr h=>?_)
 ·obtain ⟨z0,z1,rfl,q⟩:=h;rfl
 ·refine ⟨Zoc K (Zeb XQ Za8) E,(Za1 (Zah (i:=2) sc.nd rfl (Or.inl rfl) (Zjh Zdn.g (hr.mono (by decide)) rfl T.Zmc Zdn.k Zdn.b .nil G.Zxp (Za0 (pv 0) (Za0 (Zaj Zar (pv 1) (Za4) (fun _ _=>rfl)) (Za0 (Zaj Zar (pv 1) (Za4) (fun _ _=>rfl)) Za6)))))
   (Za1 (Zah (i:=3) sc.nd rfl (Or.inl rfl) (Zaq (pv 2) rfl))
   (Za1 (Zd8 (pv 2) (Zaj Zar (pv 1) (Za4) (fun _ _=>rfl)) rfl)
   (Za7 (Zae (Zdq (Za0 (Zac) (Za0 (pv 3) (Za0 (Zd9 Za6) Za6))))))))),?_⟩
  obtain ⟨z0,z1,rfl,q⟩:=h;exact ZEz tx rfl q
theorem ZHi {fd:FuncData} (F:Fun K "do_read" "do_read" Zpe Zcp fd) {Zgm:FuncData} (Zdn:Hh P w K mg base 2 Zdv Zgm ["world","hand","slot"] (Zeb XQ Za8)):Fn5 P w K mg base 3 Zcp fd ["world","deed"] (Zbf XQ (rfA Zb0 Za8 Zad Zai) Zwn):=by
 have sc:=ZH0;have tx:=tx0 _ T;refine G.fokX F sc (fun vs H Q E h=>?_) (fun cdv A outer s H vs Q E hr h=>?_)
 ·obtain ⟨z0,z1,rfl,q⟩:=h;rfl
 ·refine ⟨Zqp K (Zeb XQ Za8) E,(Za1 (Zah (i:=2) sc.nd rfl (Or.inl rfl) (Zjh Zdn.g (hr.mono (by decide)) rfl T.Zmc Zdn.k Zdn.b .nil G.Zxp (Za0 (pv 0) (Za0 (Zaj Zar (pv 1) (Za4) (fun _ _=>rfl)) (Za0 (Zaj Zar (pv 1) (Za4) (fun _ _=>rfl)) Za6)))))
   (Za7 (Zae (Zdq (Za0 (Zac) (Za0 (Zaq (pv 2) rfl) (Za0 (Zd9 Za6) Za6))))))),?_⟩
  obtain ⟨z0,z1,rfl,q⟩:=h;exact ZIn tx rfl q
theorem ZHj {fd:FuncData} (F:Fun K "do_name" "do_name" Zpf Zcq fd) {Zgm:FuncData} (Zdn:Hh P w K mg base 2 Zdv Zgm ["world","hand","slot"] (Zeb XQ Za8)) {Zbm:FuncData} (Zbu:Hh P w K mg base 1 Zbq Zbm ["world","hand"] (Zaz XQ)):Fn5 P w K mg base 3 Zcq fd ["world","deed"] (Zbf XQ (rfA Zb0 Za8 Zad Zai) isName):=by
 have sc:=ZH1;have tx:=tx0 _ T;refine G.fokX F sc (fun vs H Q E h=>?_) (fun cdv A outer s H vs Q E hr h=>?_)
 ·obtain ⟨z0,z1,rfl,q⟩:=h;rfl
 ·refine ⟨Zqq K (Zeb XQ Za8) (Zaz XQ) E,(Za1 (Zah (i:=2) sc.nd rfl (Or.inl rfl) (Zaj Zar (pv 1) (Za4) (fun _ _=>rfl)))
   (Za1 (Zah (i:=3) sc.nd rfl (Or.inl rfl) (Zaj Zar (pv 1) (Za4) (fun _ _=>rfl)))
   (Za1 (Zah (i:=4) sc.nd rfl (Or.inl rfl) (Zaq (Zjh Zdn.g (hr.mono (by decide)) rfl T.Zmc Zdn.k Zdn.b .nil G.Zxp (Za0 (pv 0) (Za0 (pv 2) (Za0 (pv 3) Za6)))) rfl))
   (Za1 (Zu1 (Zea hr) (Zaq (pv 0) rfl) (Zaj Zar (pv 1) (Za4) (fun _ _=>rfl)) (Zdq (Za0 (Zaj Zap (pcl Zbu hr T.Ze9 (Za0 (pv 0) (Za0 (pv 2) Za6))) (pv 3) (fun _ _=>rfl)) (Za0 (pv 4) Za6))) rfl)
   (Za7 (Zae (Zdq (Za0 (Zac) (Za0 (pv 4) (Za0 (Zd9 Za6) Za6)))))))))),?_⟩
  obtain ⟨z0,z1,rfl,q⟩:=h;exact ZIo tx rfl q
theorem ZHh {fd:FuncData} (F:Fun K "do_seek" "do_seek" Zpd Zco fd) {Zc3:FuncData} (Zcl:Hh P w K mg base 2 Zbt Zc3 ["heap","place"] (Zb8 XQ)) {Zic:FuncData} (Zju:Hh P w K mg base 3 Zdc Zic ["world","places"] (Zem XQ)) {Zw6:FuncData} (Zla:Hh P w K mg base 3 Zc7 Zw6 ["world","word"] (Zhu XQ Zai)) {Zbm:FuncData} (Zbu:Hh P w K mg base 1 Zbq Zbm ["world","hand"] (Zaz XQ)):Fn5 P w K mg base 4 Zco fd ["world","deed"] (Zbf XQ (rfA Zb0 Za8 Zad Zai) Zwm):=by
 have sc:=ZGz;have tx:=tx0 _ T;refine G.fokX F sc (fun vs H Q E h=>?_) (fun cdv A outer s H vs Q E hr h=>?_)
 ·obtain ⟨z0,z1,rfl,q⟩:=h;rfl
 ·refine ⟨Zqo K (Zb8 XQ) (Zem XQ) (Zhu XQ Zai) (Zaz XQ) E,(Za1 (Zah (i:=2) sc.nd rfl (Or.inl rfl) (Zjh Zla.g (hr.mono (by decide)) rfl T.Zpu Zla.k Zla.b .nil G.Zxp (Za0 (pv 0) (Za0 (Zaj Zar (pv 1) (Za4) (fun _ _=>rfl)) Za6))))
   (Za1 (Zhj (pv 2) (Zhk (pcl Zbu hr T.Ze9 (Za0 (pv 0) (Za0 (Zaj Zar (pv 1) (Za4) (fun _ _=>rfl)) Za6))) (Zaj Zar (pv 1) (Za4) (fun _ _=>rfl)) set_list))
   (Za1 (Zah (i:=3) sc.nd rfl (Or.inl rfl) (pcl Zju hr T.Zn0 (Za0 (pv 0) (Za0 (Zd9 (Za0 (pv 2) Za6)) Za6))))
   (Za7 (Zae (Zdq (Za0 (Zac) (Za0 (pcl Zcl hr T.Zf1 (Za0 (Zaq (pv 0) rfl) (Za0 (pv 2) Za6))) (Za0 (pv 3) Za6))))))))),?_⟩
  obtain ⟨z0,z1,rfl,q⟩:=h;exact ZIm tx rfl q
theorem Zvt {fd:FuncData} (F:Fun K "place_named" "place_named" Zhp Zc7 fd) {ZPo:FuncData} (ZRv:Hh P w K mg base 2 Zml ZPo ["world","place","birth"] (ZGh XQ)):Fn5 P w K mg base 3 Zc7 fd ["world","word"] (Zhu XQ Zai):=by
 have sc:=Zvn;have tx:=tx0 _ T;refine G.fokX F sc (fun vs H Q E h=>?_) (fun cdv A outer s H vs Q E hr h=>?_)
 ·obtain ⟨z0,z1,rfl,q⟩:=h;rfl
 ·refine ⟨Zje K Zai (ZGh XQ) E,(Za1 (Zbk (ZNd (ZAv (Zea hr) (pv 1) (Zaq (pv 0) rfl))) (Za7 (G.Ztm rfl rfl T.Zy6 T.x_NoName (Za0 (Zac) Za6) (fun _ _ _ _ _ _ _ I hx hE=>G.ZFo I hx hE))) Zak)
   (Za1 (Zah (i:=2) sc.nd rfl (Or.inl rfl) (Zaj Zar (Zbx (Zea hr) (Zaq (pv 0) rfl) (pv 1) (fun _ _=>rfl)) (Za4) (fun _ _=>rfl)))
   (Za1 (Zah (i:=3) sc.nd rfl (Or.inl rfl) (Zaj Zar (Zbx (Zea hr) (Zaq (pv 0) rfl) (pv 1) (fun _ _=>rfl)) (Za4) (fun _ _=>rfl)))
   (Za1 (Zbk (Zeq (pcl ZRv hr T.ZNk (Za0 (pv 0) (Za0 (pv 2) (Za0 (pv 3) Za6))))) (Za7 (Zae (Ze6))) Zak)
   (Za7 (Zae (pv 2))))))),?_⟩
  obtain ⟨z0,z1,rfl,q⟩:=h;exact Zvq tx q
theorem ZS3 {fd:FuncData} (F:Fun K "do" "do" s_do f_do fd) {ZIl:FuncData} (Zv5:Hh P w K mg base 3 Zcu ZIl ["world","deed"] (Zbf XQ (rfA Zb0 Za8 Zad Zai) Zwq)) {ZIk:FuncData} (Zv4:Hh P w K mg base 3 Zct ZIk ["world","deed"] (Zbf XQ (rfA Zb0 Za8 Zad Zai) Zwp)) {ZKz:FuncData} (Zzr:Hh P w K mg base 4 Zdu ZKz ["world","deed"] (Zbf XQ (rfA Zb0 Za8 Zad Zai) ZI4)) {ZIj:FuncData} (Zv3:Hh P w K mg base 4 Zcs ZIj ["world","deed"] (Zbf XQ (rfA Zb0 Za8 Zad Zai) Zwo)) {ZIi:FuncData} (Zv2:Hh P w K mg base 4 Zcr ZIi ["world","deed"] (Zbf XQ (rfA Zb0 Za8 Zad Zai) Zs0)) {ZIh:FuncData} (Zv1:Hh P w K mg base 3 Zcq ZIh ["world","deed"] (Zbf XQ (rfA Zb0 Za8 Zad Zai) isName)) {ZKy:FuncData} (Zzq:Hh P w K mg base 4 Zdt ZKy ["world","deed"] (Zbf XQ (rfA Zb0 Za8 Zad Zai) ZI2)) {ZIg:FuncData} (Zv0:Hh P w K mg base 3 Zcp ZIg ["world","deed"] (Zbf XQ (rfA Zb0 Za8 Zad Zai) Zwn)) {ZIf:FuncData} (Zuz:Hh P w K mg base 4 Zco ZIf ["world","deed"] (Zbf XQ (rfA Zb0 Za8 Zad Zai) Zwm)) {ZEx:FuncData} (Zrj:Hh P w K mg base 3 Zc4 ZEx ["world","deed"] (Zbf XQ (rfA Zb0 Za8 Zad Zai) Zr3)):Fn5 P w K mg base 5 f_do fd ["world","deed"] (Zbf XQ (rfA Zb0 Za8 Zad Zai) (fun _=>True)):=by
 have sc:=ZS0;have tx:=tx0 _ T;refine G.fokX F sc (fun vs H Q E h=>?_) (fun cdv A outer s H vs Q E hr h=>?_)
 ·obtain ⟨z0,z1,rfl,q⟩:=h;rfl
 ·refine ⟨ZOf K Zcu Zct Zdu Zcs Zcr Zcq Zdt Zcp Zco Zc4 (Zbf XQ (rfA Zb0 Za8 Zad Zai) Zwq) (Zbf XQ (rfA Zb0 Za8 Zad Zai) Zwp) (Zbf XQ (rfA Zb0 Za8 Zad Zai) ZI4) (Zbf XQ (rfA Zb0 Za8 Zad Zai) Zwo) (Zbf XQ (rfA Zb0 Za8 Zad Zai) Zs0) (Zbf XQ (rfA Zb0 Za8 Zad Zai) isName) (Zbf XQ (rfA Zb0 Za8 Zad Zai) ZI2) (Zbf XQ (rfA Zb0 Za8 Zad Zai) Zwn) (Zbf XQ (rfA Zb0 Za8 Zad Zai) Zwm) (Zbf XQ (rfA Zb0 Za8 Zad Zai) Zr3) E,(Za1 (Zah (i:=2) sc.nd rfl (Or.inl rfl) (G.ZQd T.tab_DEEDS rfl (Zaj Zar (pv 1) (Za4) (fun _ _=>rfl)) (fun _ _=>rfl)))
   (Za7 (Zae (G.ZM6 (k:=4) (G.FnT.cons (by decide) Zv2.g Zv2.b Zv2.k (G.FnT.cons (by decide) Zzr.g Zzr.b Zzr.k (G.FnT.cons (by decide) Zzq.g Zzq.b Zzq.k (G.FnT.cons (by decide) Zv5.g Zv5.b Zv5.k (G.FnT.cons (by decide) Zv4.g Zv4.b Zv4.k (G.FnT.cons (by decide) Zv3.g Zv3.b Zv3.k (G.FnT.cons (by decide) Zrj.g Zrj.b Zrj.k (G.FnT.cons (by decide) Zv0.g Zv0.b Zv0.k (G.FnT.cons (by decide) Zv1.g Zv1.b Zv1.k (G.FnT.cons (by decide) Zuz.g Zuz.b Zuz.k G.FnT.nil)))))))))) (hr.mono (by decide)) rfl (Or.inl rfl) G.Zxp (Za0 (pv 0) (Za0 (pv 1) Za6)))))),?_⟩
  obtain ⟨z0,z1,rfl,q⟩:=h;exact ZSz tx q
theorem ZE7 {fd:FuncData} (F:Fun K "_law_mix" "_law_mix" Zmv Zcc fd):Fn5 P w K mg base 1 Zcc fd ["_law_cell","_law_factor"] (Zl0):=by
 have sc:=ZDo;have tx:=tx0 _ T;refine G.fok F sc (fun vs H Q E h=>?_) (fun cdv A outer s H vs Q E hr h=>?_)
 ·obtain ⟨z0,z1,rfl,q⟩:=h;rfl
 ·refine ⟨Zoe,(Za1 (Zah (i:=2) sc.nd rfl (Or.inl rfl) (Zb3 Zdr (Zb3 Zf2 (Zb3 ZFu (pv 0) (pv 1)) (Za4)) (Za4)))
   (Za7 (Zae (Zb3 Zma (Zb3 Zdr (Zb3 ZFu (pv 2) (pv 2)) (Za4)) (Za4))))),?_⟩
  obtain ⟨z0,z1,rfl,q⟩:=h;exact ZF7 q
theorem Zu7 {fd:FuncData} (F:Fun K "_law_cell_at" "_law_cell_at" Zgt Zc0 fd):Fn5 P w K mg base 1 Zc0 fd ["_law_script","_law_k"] (ZN9 K):=by
 have sc:=Ztw;have tx:=tx0 _ T;refine G.fok F sc (fun vs H Q E h=>?_) (fun cdv A outer s H vs Q E hr h=>?_)
 ·obtain ⟨z0,z1,rfl,q⟩:=h;rfl
 ·refine ⟨Zia K,(Za1 (Zbk (Zan ZHe (pv 1) (Zb6 G.Zcb (by rfl) T.Zii G.boot_len (Za0 (pv 0) Za6)) (Zau _)) (Za7 (Zae (Zaj Zap (pv 0) (pv 1) (fun _ _=>rfl)))) Zak)
   (Za7 (Zae (Za4)))),?_⟩
  obtain ⟨z0,z1,rfl,q⟩:=h;exact Zuy q
theorem ZB7 {fd:FuncData} (F:Fun K "_law_kind" "_law_kind" Zk6 Zdl fd) {Zde:FuncData} (Zbv:Hh P w K mg base 1 Zcc Zde ["_law_cell","_law_factor"] (Zl0)):Fn5 P w K mg base 2 Zdl fd ["_law_cell"] (Zzl):=by
 have sc:=ZAo;have tx:=tx0 _ T;refine G.fok F sc (fun vs H Q E h=>?_) (fun cdv A outer s H vs Q E hr h=>?_)
 ·obtain ⟨z0,rfl,q⟩:=h;rfl
 ·refine ⟨Zm2 K (Zl0),(Za1 (Zah (i:=1) sc.nd rfl (Or.inl rfl) (Zaj Zap (Zd9 (Za0 (Zac) (Za0 (Zac) (Za0 (Zac) Za6)))) (Zb3 Zdr (pcl Zbv hr T.Zd0 (Za0 (pv 0) (Za0 (Za4) Za6))) (Za4)) (fun _ _=>rfl)))
   (Za7 (Zae (Zb3 Zhw (pv 1) (Zaj Zap (Zd9 (Za0 (Zac) (Za0 (Zac) (Za0 (Zac) (Za0 (Zac) Za6))))) (Zb3 Zdr (pcl Zbv hr T.Zd0 (Za0 (pv 0) (Za0 (Za4) Za6))) (Za4)) (fun _ _=>rfl)))))),?_⟩
  obtain ⟨z0,rfl,q⟩:=h;exact ZD2 q
theorem ZB5 {fd:FuncData} (F:Fun K "_law_room" "_law_room" Zk4 Zdj fd) {Zde:FuncData} (Zbv:Hh P w K mg base 1 Zcc Zde ["_law_cell","_law_factor"] (Zl0)):Fn5 P w K mg base 2 Zdj fd ["_law_cell"] (Zzi):=by
 have sc:=ZAm;have tx:=tx0 _ T;refine G.fok F sc (fun vs H Q E h=>?_) (fun cdv A outer s H vs Q E hr h=>?_)
 ·obtain ⟨z0,rfl,q⟩:=h;rfl
 ·refine ⟨Zm0 (Zl0),(Za1 (Zbk (Zan Zet (Zb3 Zdr (pcl Zbv hr T.Zd0 (Za0 (pv 0) (Za0 (Za4) Za6))) (Za4)) (Za4) (Zau _)) (Za7 (Zae (Zb3 Zf2 (Za4) (Zb3 Zdr (Zb3 G.ZE1 (pv 0) (Zb3 Zwj (Za4) (Za4))) (Zb3 Zwi (Zb3 Zwj (Za4) (Za4)) (Za4)))))) Zak)
   (Za7 (Zae (Zb3 Zf2 (Za4) (Zb3 Zdr (pcl Zbv hr T.Zd0 (Za0 (pv 0) (Za0 (Za4) Za6))) (Za4)))))),?_⟩
  obtain ⟨z0,rfl,q⟩:=h;exact ZD0 q
theorem Zxv {fd:FuncData} (F:Fun K "_law_names" "_law_names" Ziq Zcy fd) {Zde:FuncData} (Zbv:Hh P w K mg base 1 Zcc Zde ["_law_cell","_law_factor"] (Zl0)):Fn5 P w K mg base 2 Zcy fd ["_law_cell","_law_many"] (Zzj):=by
 have sc:=Zxe;have tx:=tx0 _ T;refine G.fok F sc (fun vs H Q E h=>?_) (fun cdv A outer s H vs Q E hr h=>?_)
 ·obtain ⟨z0,z1,rfl,q⟩:=h;rfl
 ·refine ⟨Zkh K (Zl0),(Za1 (Zah (i:=2) sc.nd rfl (Or.inl rfl) (Zac))
   (Za1 (Zah (i:=3) sc.nd rfl (Or.inl rfl) (Zb3 Zf2 (Za4) (Zb3 Zdr (pcl Zbv hr T.Zd0 (Za0 (pv 0) (Za0 (Za4) Za6))) (Za4))))
   (Za1 (Zah (i:=4) sc.nd rfl (Or.inl rfl) (Zac))
   (Za1 (Znl PassesOwn.never rfl (Zh5 rfl T.Zhx (Za0 (pv 3) Za6)) (Zff (i:=5) sc.nd rfl (Or.inl rfl))
   (Za7 (Zah (i:=4) sc.nd rfl (Or.inl rfl) (Zb3 Zhw (pv 4) (Zaj ZG4 (pv 2) (Zb3 Zdr (pcl Zbv hr T.Zd0 (Za0 (pv 0) (Za0 (Zb3 Zf2 (Zb3 ZFu (pv 5) (pv 5)) (Za4)) Za6))) (Za4)) (fun _ _=>rfl))))))
   (Za1 (Zah (i:=6) sc.nd rfl (Or.inl rfl) (Zb3 Zdr (pcl Zbv hr T.Zd0 (Za0 (pv 0) (Za0 (Za4) Za6))) (pv 3)))
   (Za1 (Zah (i:=7) sc.nd rfl (Or.inl rfl) (Zb3 Zdr (pcl Zbv hr T.Zd0 (Za0 (pv 0) (Za0 (Za4) Za6))) (Za4)))
   (Za1 (Zah (i:=8) sc.nd rfl (Or.inl rfl) (Zd9 Za6))
   (Za1 (Znl PassesOwn.never rfl (Zh5 rfl T.Zhx (Za0 (pv 1) Za6)) (Zff (i:=5) sc.nd rfl (Or.inl rfl))
   (Za1 (Zah (i:=9) sc.nd rfl (Or.inl rfl) (Zb3 Zhw (Zb3 Zhw (Zxm G.ZNc (pv 4) ZJv (Zxl (pv 6))) (Zaj ZG4 (pv 2) (Zb3 Zdr (Zb3 Zf2 (pv 7) (pv 5)) (Za4)) (fun _ _=>rfl))) (Zxm G.ZNc (pv 4) (Zxl (Zb3 Zf2 (pv 6) (Za4))) ZJv)))
   (Za1 (Zbk (Zan Zet (pv 9) (Zac) (Zau _)) (Za7 (Zah (i:=9) sc.nd rfl (Or.inl rfl) (Zac))) Zak)
   (Za7 (Zog (ZE0 PySem.F.plainAttrs_list PySem.F.slot_list_append PySem.F.type_list_append Zg4 (pv 8) (Za0 (pv 9) Za6)))))))
   (Za7 (Zae (pv 8))))))))))),?_⟩
  obtain ⟨z0,z1,rfl,q⟩:=h;exact Zzc q
theorem Zxu {fd:FuncData} (F:Fun K "_law_same" "_law_same" Zi8 Zbn fd) (Zbr:Hh P w K mg base 0 Zbn fd ["_law_found","_law_due"] (ZF8)):FnOk P w K mg base (G.CXe P w) 1 Zbn fd ["_law_found","_law_due"] (Zj5 0):=by
 have sc:=Zro;refine G.fok F sc (fun vs H Q E h=>?_) (fun cdv A outer s H vs Q E hr h=>?_)
 ·obtain ⟨z0,z1,rfl,q⟩:=h;rfl
 ·refine ⟨Zee K (ZF8),(Za1 (Zbk (Zan G.Zji (pv 1) (Ze6) (Zau _)) (Za7 (Zae (Zgi G.Zji (pv 0) (Ze6) (Zau _)))) Zak)
   (Za1 (Zbk (Zan G.Zrp (pv 1) (Zib) (Zau _)) (Za7 (Zae (Zgi G.Zrp (pv 0) (Zib) (Zau _)))) Zak)
   (Za1 (Zbk (Zan G.Zrp (pv 1) (Zib) (Zau _)) (Za7 (Zae (Zgi G.Zrp (pv 0) (Zib) (Zau _)))) Zak)
   (Za1 (Zbk (Zeq (Zb6 G.Zdo (by rfl) T.Zb1 G.boot_isinstance (Za0 (pv 1) (Za0 (Zen rfl T.ZDe G.boot_int rfl) Za6)))) (Za7 (Zae ((Zpn (Zb6 G.Zdo (by rfl) T.Zb1 G.boot_isinstance (Za0 (pv 0) (Za0 (Zen rfl T.ZDe G.boot_int rfl) Za6))) (Zpn (ZJx (Zb6 G.Zdo (by rfl) T.Zb1 G.boot_isinstance (Za0 (pv 0) (Za0 (Zen rfl T.Zzw G.boot_bool rfl) Za6)))) (Zu3 (Zgi Zet (pv 0) (pv 1) (Zau _)))))))) Zak)
   (Za1 (Zbk (Zeq (Zb6 G.Zdo (by rfl) T.Zb1 G.boot_isinstance (Za0 (pv 1) (Za0 (Zen rfl T.ZDd G.boot_str rfl) Za6)))) (Za7 (Zae ((Zpn (Zb6 G.Zdo (by rfl) T.Zb1 G.boot_isinstance (Za0 (pv 0) (Za0 (Zen rfl T.ZDd G.boot_str rfl) Za6))) (Zu3 (Zgi Zet (pv 0) (pv 1) (Zau _))))))) Zak)
   (Za1 (Zbk (PW.pt (Zpm (Zeq (Zb6 G.Zdo (by rfl) T.Zb1 G.boot_isinstance (Za0 (pv 1) (Za0 (Zen rfl T.Zrl G.boot_list rfl) Za6)))) (Zkn (Zlb (Zeq (Zb6 G.Zdo (by rfl) T.Zb1 G.boot_isinstance (Za0 (pv 0) (Za0 (Zen rfl T.Zrl G.boot_list rfl) Za6)))))))) (Za7 (Zae (Zib))) Zak)
   (Za1 (Zbk (PW.pt (Zpm (Zeq (Zb6 G.Zdo (by rfl) T.Zb1 G.boot_isinstance (Za0 (pv 1) (Za0 (Zen rfl T.Znt G.boot_tuple rfl) Za6)))) (Zkn (Zlb (Zeq (Zb6 G.Zdo (by rfl) T.Zb1 G.boot_isinstance (Za0 (pv 0) (Za0 (Zen rfl T.Znt G.boot_tuple rfl) Za6)))))))) (Za7 (Zae (Zib))) Zak)
   (Za1 (Zbk (Zan ZAw (Zb6 G.Zcb (by rfl) T.Zii G.boot_len (Za0 (pv 0) Za6)) (Zb6 G.Zcb (by rfl) T.Zii G.boot_len (Za0 (pv 1) Za6)) (Zau _)) (Za7 (Zae (Zib))) Zak)
   (Za1 (Znl PassesOwn.never rfl (Zh5 rfl T.Zhx (Za0 (Zb6 G.Zcb (by rfl) T.Zii G.boot_len (Za0 (pv 1) Za6)) Za6)) (Zff (i:=2) sc.nd rfl (Or.inl rfl))
   (Za7 (Zbk (Zlb (Zeq (Zjh Zbr.g (hr.mono (by omega)) rfl T.Zeg Zbr.k Zbr.b .nil G.Zfm (Za0 (Zaj ZG5 (pv 0) (pv 2) (fun _ _=>rfl)) (Za0 (Zaj ZG5 (pv 1) (pv 2) (fun _ _=>rfl)) Za6))))) (Za7 (Zae (Zib))) Zak)))
   (Za7 (Zae (Zib)))))))))))),?_⟩
  obtain ⟨z0,z1,rfl,q⟩:=h;exact Zzb q
theorem Zmb {d lv:Nat} (hlv:0≤lv) {fd:FuncData} (F:Fun K "_law_same" "_law_same" Zi8 Zbn fd) (Zbr:Hh P w K mg base lv Zbn fd ["_law_found","_law_due"] (Zj5 d)):FnOk P w K mg base (G.CXe P w) (lv + 1) Zbn fd ["_law_found","_law_due"] (Zj5 (d + 1)):=by
 have sc:=Zro;refine G.fok F sc (fun vs H Q E h=>?_) (fun cdv A outer s H vs Q E hr h=>?_)
 ·obtain ⟨z0,z1,rfl,q⟩:=h;rfl
 ·refine ⟨Zee K (Zj5 d),(Za1 (Zbk (Zan G.Zji (pv 1) (Ze6) (Zau _)) (Za7 (Zae (Zgi G.Zji (pv 0) (Ze6) (Zau _)))) Zak)
   (Za1 (Zbk (Zan G.Zrp (pv 1) (Zib) (Zau _)) (Za7 (Zae (Zgi G.Zrp (pv 0) (Zib) (Zau _)))) Zak)
   (Za1 (Zbk (Zan G.Zrp (pv 1) (Zib) (Zau _)) (Za7 (Zae (Zgi G.Zrp (pv 0) (Zib) (Zau _)))) Zak)
   (Za1 (Zbk (Zeq (Zb6 G.Zdo (by rfl) T.Zb1 G.boot_isinstance (Za0 (pv 1) (Za0 (Zen rfl T.ZDe G.boot_int rfl) Za6)))) (Za7 (Zae ((Zpn (Zb6 G.Zdo (by rfl) T.Zb1 G.boot_isinstance (Za0 (pv 0) (Za0 (Zen rfl T.ZDe G.boot_int rfl) Za6))) (Zpn (ZJx (Zb6 G.Zdo (by rfl) T.Zb1 G.boot_isinstance (Za0 (pv 0) (Za0 (Zen rfl T.Zzw G.boot_bool rfl) Za6)))) (Zu3 (Zgi Zet (pv 0) (pv 1) (Zau _)))))))) Zak)
   (Za1 (Zbk (Zeq (Zb6 G.Zdo (by rfl) T.Zb1 G.boot_isinstance (Za0 (pv 1) (Za0 (Zen rfl T.ZDd G.boot_str rfl) Za6)))) (Za7 (Zae ((Zpn (Zb6 G.Zdo (by rfl) T.Zb1 G.boot_isinstance (Za0 (pv 0) (Za0 (Zen rfl T.ZDd G.boot_str rfl) Za6))) (Zu3 (Zgi Zet (pv 0) (pv 1) (Zau _))))))) Zak)
   (Za1 (Zbk (PW.pt (Zpm (Zeq (Zb6 G.Zdo (by rfl) T.Zb1 G.boot_isinstance (Za0 (pv 1) (Za0 (Zen rfl T.Zrl G.boot_list rfl) Za6)))) (Zkn (Zlb (Zeq (Zb6 G.Zdo (by rfl) T.Zb1 G.boot_isinstance (Za0 (pv 0) (Za0 (Zen rfl T.Zrl G.boot_list rfl) Za6)))))))) (Za7 (Zae (Zib))) Zak)
   (Za1 (Zbk (PW.pt (Zpm (Zeq (Zb6 G.Zdo (by rfl) T.Zb1 G.boot_isinstance (Za0 (pv 1) (Za0 (Zen rfl T.Znt G.boot_tuple rfl) Za6)))) (Zkn (Zlb (Zeq (Zb6 G.Zdo (by rfl) T.Zb1 G.boot_isinstance (Za0 (pv 0) (Za0 (Zen rfl T.Znt G.boot_tuple rfl) Za6)))))))) (Za7 (Zae (Zib))) Zak)
   (Za1 (Zbk (Zan ZAw (Zb6 G.Zcb (by rfl) T.Zii G.boot_len (Za0 (pv 0) Za6)) (Zb6 G.Zcb (by rfl) T.Zii G.boot_len (Za0 (pv 1) Za6)) (Zau _)) (Za7 (Zae (Zib))) Zak)
   (Za1 (Znl PassesOwn.never rfl (Zh5 rfl T.Zhx (Za0 (Zb6 G.Zcb (by rfl) T.Zii G.boot_len (Za0 (pv 1) Za6)) Za6)) (Zff (i:=2) sc.nd rfl (Or.inl rfl))
   (Za7 (Zbk (Zlb (Zeq (Zjh Zbr.g (hr.mono (by omega)) rfl T.Zeg Zbr.k Zbr.b .nil G.Zfm (Za0 (Zaj ZG5 (pv 0) (pv 2) (fun _ _=>rfl)) (Za0 (Zaj ZG5 (pv 1) (pv 2) (fun _ _=>rfl)) Za6))))) (Za7 (Zae (Zib))) Zak)))
   (Za7 (Zae (Zib)))))))))))),?_⟩
  obtain ⟨z0,z1,rfl,q⟩:=h;exact ZCy q
theorem Zxt {fd:FuncData} (F:Fun K "_law_store" "_law_store" Zip Zcx fd):Fn5 P w K mg base 1 Zcx fd ["_law_room_here","_law_slots"] (Zzh K):=by
 have sc:=Zxd;have tx:=tx0 _ T;refine G.fok F sc (fun vs H Q E h=>?_) (fun cdv A outer s H vs Q E hr h=>?_)
 ·obtain ⟨z0,z1,rfl,q⟩:=h;rfl
 ·refine ⟨Zkg K,(Za7 (Zae (ZDz (Zfw (Zac) (pv 0) (Zfw (Zac) (Za4) (Zfw (Zac) (Za4) (Zfw (Zac) (G.ZHd (cns:=[]) [] (Zko (pv 1)) (fun _ _ _ _ _=>G.Zu2) (fun _ _ _ _ _=>(Zb3 ZFs (Zd9 (Za0 (Ze6) Za6)) (pv 0))) rfl rfl (by repeat (first | exact trivial | refine ⟨rfl,?_⟩)) (by repeat (first | exact trivial | refine ⟨rfl,?_⟩)) rfl (by decide +kernel) rfl (by decide +kernel) (by decide +kernel) rfl (by decide +kernel)) (Zfw (Zac) (Zxn) (Zfw (Zac) (Zxn) ZDx)))))) rfl rfl (by decide) (by decide)))),?_⟩;obtain ⟨z0,z1,rfl,q⟩:=h;exact Zza q
theorem Zsr {fd:FuncData} (F:Fun K "_law_due_word" "_law_due_word" Zfr Zbo fd):Fn5 P w K mg base 1 Zbo fd ["_law_store_here","_law_deed_here"] (ZN8 K):=by
 have sc:=Zsm;have tx:=tx0 _ T;refine G.fok F sc (fun vs H Q E h=>?_) (fun cdv A outer s H vs Q E hr h=>?_)
 ·obtain ⟨z0,z1,rfl,q⟩:=h;rfl
 ·refine ⟨Zh9 K,(Za1 (Zah (i:=2) sc.nd rfl (Or.inl rfl) (Zaj Zar (pv 1) (Za4) (fun _ _=>rfl)))
   (Za1 (Zbk (PW.pt (Zpm (Zan Zet (pv 2) (Zac) (Zau _)) (Zkn (Zan ZQh (Zb3 Zf2 (Zb3 Zf2 (Zb3 Zf2 (Zbx (Zea hr) (pv 0) (Zac) (fun _ _=>rfl)) (Za4)) (Zaj Zar (pv 1) (Za4) (fun _ _=>rfl))) (Zaj Zar (pv 1) (Za4) (fun _ _=>rfl))) (Zbx (Zea hr) (pv 0) (Zac) (fun _ _=>rfl)) (Zau _))))) (Za7 (Zae (Zac))) Zak)
   (Za1 (Zbk (PW.pt (Zpm (Zan Zet (pv 2) (Zac) (Zau _)) (Zkn (ZNd (ZAv (Zea hr) (Zaj Zar (pv 1) (Za4) (fun _ _=>rfl)) (Zbx (Zea hr) (pv 0) (Zac) (fun _ _=>rfl))))))) (Za7 (Zae (Zac))) Zak)
   (Za1 (Zbk (Zan Zu5 (pv 2) (Zdq (Za0 (Zac) (Za0 (Zac) (Za0 (Zac) (Za0 (Zac) (Za0 (Zac) Za6)))))) (by with_unfolding_all rfl)) (Za7 (Zae (Zac))) Zak)
   (Za1 (Zah (i:=3) sc.nd rfl (Or.inl rfl) (Zaj Zar (pv 1) (Za4) (fun _ _=>rfl)))
   (Za1 (Zbk (Zan Zet (pv 2) (Zac) (Zau _)) (Za7 (Zah (i:=3) sc.nd rfl (Or.inl rfl) (Zaj Zar (pv 1) (Za4) (fun _ _=>rfl)))) Zak)
   (Za1 (Zah (i:=4) sc.nd rfl (Or.inl rfl) (Zaj Zap (Zaj Zap (Zbx (Zea hr) (pv 0) (Zac) (fun _ _=>rfl)) (Zaj Zar (pv 1) (Za4) (fun _ _=>rfl)) (fun _ _=>rfl)) (pv 3) (fun _ _=>rfl)))
   (Za1 (Zbk (Zan G.Zji (pv 4) (Ze6) (Zau _)) (Za7 (Zae (Zac))) Zak)
   (Za1 (Zbk (PW.pt (Zpm (Zan Zet (pv 2) (Zac) (Zau _)) (Zkn (Zan ZOp (Zaj Zar (pv 1) (Za4) (fun _ _=>rfl)) (Zb6 G.Zcb (by rfl) T.Zii G.boot_len (Za0 (Zaj Zap (Zbx (Zea hr) (Zbx (Zea hr) (pv 0) (Zac) (fun _ _=>rfl)) (pv 4) (fun _ _=>rfl)) (Za4) (fun _ _=>rfl)) Za6)) (Zau _))))) (Za7 (Zae (Zac))) Zak)
   (Za1 (Zbk (PW.pt (Zpm (Zan Zet (pv 2) (Zac) (Zau _)) (Zkn (Zan ZOp (Zaj Zar (pv 1) (Za4) (fun _ _=>rfl)) (Zb6 G.Zcb (by rfl) T.Zii G.boot_len (Za0 (Zaj Zap (Zbx (Zea hr) (Zbx (Zea hr) (pv 0) (Zac) (fun _ _=>rfl)) (pv 4) (fun _ _=>rfl)) (Za4) (fun _ _=>rfl)) Za6)) (Zau _))))) (Za7 (Zae (Zac))) Zak)
   (Za7 (Zae (Zac))))))))))))),?_⟩
  obtain ⟨z0,z1,rfl,q⟩:=h;exact Ztd q
theorem Zu6 {fd:FuncData} (F:Fun K "_law_made_in" "_law_made_in" Zgs Zbz fd):Fn5 P w K mg base 1 Zbz fd ["_law_store_here","_law_deed_here"] (Ztr):=by
 have sc:=Ztv;have tx:=tx0 _ T;refine G.fok F sc (fun vs H Q E h=>?_) (fun cdv A outer s H vs Q E hr h=>?_)
 ·obtain ⟨z0,z1,rfl,q⟩:=h;rfl
 ·refine ⟨Zi9 K,(Za1 (Zah (i:=2) sc.nd rfl (Or.inl rfl) (Zb3 Zf2 (Zb3 Zf2 (Za4) (Zaj Zar (pv 1) (Za4) (fun _ _=>rfl))) (Zaj Zar (pv 1) (Za4) (fun _ _=>rfl))))
   (Za1 (Zu1 (Zea hr) (pv 0) (Zac) (Zb3 Zf2 (Zbx (Zea hr) (pv 0) (Zac) (fun _ _=>rfl)) (pv 2)) rfl)
   (Za1 (Zu1 (Zea hr) (pv 0) (Zac) (Zb3 Zf2 (Zbx (Zea hr) (pv 0) (Zac) (fun _ _=>rfl)) (Za4)) rfl)
   (Za1 (Zu1 (Zea hr) (Zbx (Zea hr) (pv 0) (Zac) (fun _ _=>rfl)) (Zbx (Zea hr) (pv 0) (Zac) (fun _ _=>rfl)) (Zd9 (Za0 (pv 2) (Za0 (Za4) (Za0 (Zb3 ZFs (Zd9 (Za0 (Ze6) Za6)) (Zaj Zar (pv 1) (Za4) (fun _ _=>rfl))) Za6)))) rfl)
   (Za1 (Zhj (Zbx (Zea hr) (pv 0) (Zac) (fun _ _=>rfl)) (Zhk (Zaj Zap (Zbx (Zea hr) (pv 0) (Zac) (fun _ _=>rfl)) (Zaj Zar (pv 1) (Za4) (fun _ _=>rfl)) (fun _ _=>rfl)) (Zaj Zar (pv 1) (Za4) (fun _ _=>rfl)) set_list))
   (Za7 (Zae (Zbx (Zea hr) (pv 0) (Zac) (fun _ _=>rfl))))))))),?_⟩
  obtain ⟨z0,z1,rfl,q⟩:=h;exact Zux q
theorem Zxw {fd:FuncData} (F:Fun K "_law_moved" "_law_moved" Zir Zcz fd):Fn5 P w K mg base 1 Zcz fd ["_law_store_here","_law_deed_here"] (Zzk K):=by
 have sc:=Zxf;have tx:=tx0 _ T;refine G.fok F sc (fun vs H Q E h=>?_) (fun cdv A outer s H vs Q E hr h=>?_)
 ·obtain ⟨z0,z1,rfl,q⟩:=h;rfl
 ·refine ⟨Zki K,(Za1 (Zah (i:=2) sc.nd rfl (Or.inl rfl) (Zaj Zap (Zbx (Zea hr) (pv 0) (Zac) (fun _ _=>rfl)) (Zaj Zar (pv 1) (Za4) (fun _ _=>rfl)) (fun _ _=>rfl)))
   (Za1 (Zbk (Zan Zet (Zaj Zar (pv 1) (Za4) (fun _ _=>rfl)) (Zac) (Zau _)) (Za1 (Zhj (Zaj Zap (Zaj Zap (Zbx (Zea hr) (Zbx (Zea hr) (pv 0) (Zac) (fun _ _=>rfl)) (Zaj Zap (pv 2) (Zaj Zar (pv 1) (Za4) (fun _ _=>rfl)) (fun _ _=>rfl)) (fun _ _=>rfl)) (Za4) (fun _ _=>rfl)) (Zaj Zar (pv 1) (Za4) (fun _ _=>rfl)) (fun _ _=>rfl)) (Zhk (pv 2) (Zaj Zar (pv 1) (Za4) (fun _ _=>rfl)) set_list))
   (Za7 (Zae (Zaj Zap (pv 2) (Zaj Zar (pv 1) (Za4) (fun _ _=>rfl)) (fun _ _=>rfl))))) Zak)
   (Za1 (Zbk (Zan Zet (Zaj Zar (pv 1) (Za4) (fun _ _=>rfl)) (Zac) (Zau _)) (Za1 (Zhj (Zaj Zap (pv 2) (Zaj Zar (pv 1) (Za4) (fun _ _=>rfl)) (fun _ _=>rfl)) (Zhk (pv 2) (Zaj Zar (pv 1) (Za4) (fun _ _=>rfl)) set_list))
   (Za7 (Zae (Zaj Zap (pv 2) (Zaj Zar (pv 1) (Za4) (fun _ _=>rfl)) (fun _ _=>rfl))))) Zak)
   (Za1 (Zbk (Zan Zet (Zaj Zar (pv 1) (Za4) (fun _ _=>rfl)) (Zac) (Zau _)) (Za1 (Zah (i:=3) sc.nd rfl (Or.inl rfl) (Zaj Zap (pv 2) (Zaj Zar (pv 1) (Za4) (fun _ _=>rfl)) (fun _ _=>rfl)))
   (Za1 (Zhj (Ze6) (Zhk (pv 2) (Zaj Zar (pv 1) (Za4) (fun _ _=>rfl)) set_list))
   (Za7 (Zae (pv 3))))) Zak)
   (Za1 (Zhj (Zaj Zap (pv 2) (Zaj Zar (pv 1) (Za4) (fun _ _=>rfl)) (fun _ _=>rfl)) (Zhk (Zaj Zap (Zbx (Zea hr) (pv 0) (Zac) (fun _ _=>rfl)) (Zaj Zar (pv 1) (Za4) (fun _ _=>rfl)) (fun _ _=>rfl)) (Zaj Zar (pv 1) (Za4) (fun _ _=>rfl)) set_list))
   (Za7 (Zae (Zaj Zap (pv 2) (Zaj Zar (pv 1) (Za4) (fun _ _=>rfl)) (fun _ _=>rfl))))))))),?_⟩
  obtain ⟨z0,z1,rfl,q⟩:=h;exact Zzd q
theorem Zxs {fd:FuncData} (F:Fun K "_law_thing" "_law_thing" Zio Zcw fd) {Zuu:FuncData} (Zwe:Hh P w K mg base 1 Zbz Zuu ["_law_store_here","_law_deed_here"] (Ztr)) {Zyz:FuncData} (ZDb:Hh P w K mg base 1 Zcz Zyz ["_law_store_here","_law_deed_here"] (Zzk K)):Fn5 P w K mg base 2 Zcw fd ["_law_store_here","_law_deed_here"] (Zzg K):=by
 have sc:=Zxc;have tx:=tx0 _ T;refine G.fok F sc (fun vs H Q E h=>?_) (fun cdv A outer s H vs Q E hr h=>?_)
 ·obtain ⟨z0,z1,rfl,q⟩:=h;rfl
 ·refine ⟨Zkf K (Ztr) (Zzk K),(Za1 (Zah (i:=2) sc.nd rfl (Or.inl rfl) (Zaj Zar (pv 1) (Za4) (fun _ _=>rfl)))
   (Za1 (Zbk (Zan Zet (pv 2) (Zac) (Zau _)) (Za7 (Zae (pcl Zwe hr T.Znm (Za0 (pv 0) (Za0 (pv 1) Za6))))) Zak)
   (Za1 (Zbk (Zan Zu5 (pv 2) (Zdq (Za0 (Zac) (Za0 (Zac) (Za0 (Zac) (Za0 (Zac) Za6))))) (by with_unfolding_all rfl)) (Za7 (Zae (pcl ZDb hr T.Zrz (Za0 (pv 0) (Za0 (pv 1) Za6))))) Zak)
   (Za1 (Zah (i:=3) sc.nd rfl (Or.inl rfl) (Zaj Zap (Zbx (Zea hr) (pv 0) (Zac) (fun _ _=>rfl)) (Zaj Zar (pv 1) (Za4) (fun _ _=>rfl)) (fun _ _=>rfl)))
   (Za1 (Zbk (Zan Zet (pv 2) (Zac) (Zau _)) (Za1 (Zhj (Zbx (Zea hr) (Zbx (Zea hr) (pv 0) (Zac) (fun _ _=>rfl)) (Zaj Zar (pv 1) (Za4) (fun _ _=>rfl)) (fun _ _=>rfl)) (Zhk (pv 3) (Zaj Zar (pv 1) (Za4) (fun _ _=>rfl)) set_list))
   (Za7 (Zae (Zaj Zap (pv 3) (Zaj Zar (pv 1) (Za4) (fun _ _=>rfl)) (fun _ _=>rfl))))) Zak)
   (Za1 (Zah (i:=4) sc.nd rfl (Or.inl rfl) (Zaj Zap (pv 3) (Zaj Zar (pv 1) (Za4) (fun _ _=>rfl)) (fun _ _=>rfl)))
   (Za1 (Zah (i:=5) sc.nd rfl (Or.inl rfl) (Zbx (Zea hr) (Zbx (Zea hr) (pv 0) (Zac) (fun _ _=>rfl)) (pv 4) (fun _ _=>rfl)))
   (Za1 (Zbk (Zan Zet (pv 2) (Zac) (Zau _)) (Za1 (Zah (i:=6) sc.nd rfl (Or.inl rfl) (Zaj Zap (Zaj Zap (pv 5) (Za4) (fun _ _=>rfl)) (Zaj Zar (pv 1) (Za4) (fun _ _=>rfl)) (fun _ _=>rfl)))
   (Za1 (Zhj (Zaj Zap (pv 3) (Zaj Zar (pv 1) (Za4) (fun _ _=>rfl)) (fun _ _=>rfl)) (Zhk (Zaj Zap (pv 5) (Za4) (fun _ _=>rfl)) (Zaj Zar (pv 1) (Za4) (fun _ _=>rfl)) set_list))
   (Za7 (Zae (pv 6))))) Zak)
   (Za1 (Zbk (Zan Zet (pv 2) (Zac) (Zau _)) (Za1 (Zah (i:=6) sc.nd rfl (Or.inl rfl) (Zaj Zap (pv 5) (Za4) (fun _ _=>rfl)))
   (Za1 (Zhj (Zaj Zar (pv 1) (Za4) (fun _ _=>rfl)) (Zhk (pv 5) (Za4) set_list))
   (Za7 (Zae (pv 6))))) Zak)
   (Za1 (Zbk (Zan Zet (pv 2) (Zac) (Zau _)) (Za7 (Zae (Zaj Zap (pv 5) (Za4) (fun _ _=>rfl)))) Zak)
   (Za1 (Zu1 (Zea hr) (Zbx (Zea hr) (pv 0) (Zac) (fun _ _=>rfl)) (Zaj Zar (pv 1) (Za4) (fun _ _=>rfl)) (pv 4) rfl)
   (Za7 (Zae (pv 4)))))))))))))),?_⟩
  obtain ⟨z0,z1,rfl,q⟩:=h;exact Zz9 q
theorem ZB6 {fd:FuncData} (F:Fun K "_law_load" "_law_load" Zk5 Zdk fd) {Zde:FuncData} (Zbv:Hh P w K mg base 1 Zcc Zde ["_law_cell","_law_factor"] (Zl0)):Fn5 P w K mg base 2 Zdk fd ["_law_cell"] (ZGg):=by
 have sc:=ZAn;have tx:=tx0 _ T;refine G.fok F sc (fun vs H Q E h=>?_) (fun cdv A outer s H vs Q E hr h=>?_)
 ·obtain ⟨z0,rfl,q⟩:=h;rfl
 ·refine ⟨Zm1 (Zl0),(Za1 (Zah (i:=1) sc.nd rfl (Or.inl rfl) (Zb3 Zdr (Zb3 G.ZE1 (pv 0) (Zb3 Zwj (Za4) (Za4))) (Zb3 Zwj (Za4) (Za4))))
   (Za1 (Zbk (Zan Zet (Zb3 Zdr (pcl Zbv hr T.Zd0 (Za0 (pv 0) (Za0 (Za4) Za6))) (Za4)) (Za4) (Zau _)) (Za7 (Zae (ZS1 ZQ0 (pv 1)))) Zak)
   (Za7 (Zae (pv 1))))),?_⟩
  obtain ⟨z0,rfl,q⟩:=h;exact ZD1 q
theorem ZB8 {fd:FuncData} (F:Fun K "_law_deed" "_law_deed" Zk7 Zdm fd) {ZCh:FuncData} (ZFf:Hh P w K mg base 2 Zdk ZCh ["_law_cell"] (ZGg)) {Zde:FuncData} (Zbv:Hh P w K mg base 1 Zcc Zde ["_law_cell","_law_factor"] (Zl0)):Fn5 P w K mg base 3 Zdm fd ["_law_cell","_law_slots","_law_words"] (Zzm K):=by
 have sc:=ZAp;have tx:=tx0 _ T;refine fokw F sc (fun vs H Q E h=>?_) (fun cdv A outer s H vs Q E hr h=>?_)
 ·obtain ⟨z0,z1,z2,rfl,q⟩:=h;rfl
 ·refine ⟨Zm3 K (ZGg) (Zl0),(Ze5 (Zah (i:=3) sc.nd rfl (Or.inl rfl) (pcl Zbv hr T.Zd0 (Za0 (pv 0) (Za0 (Za4) Za6))))
   (Ze5 (Zah (i:=4) sc.nd rfl (Or.inl rfl) (pcl Zbv hr T.Zd0 (Za0 (pv 0) (Za0 (Za4) Za6))))
   (Ze5 (Zah (i:=5) sc.nd rfl (Or.inl rfl) (pcl Zbv hr T.Zd0 (Za0 (pv 0) (Za0 (Za4) Za6))))
   (Ze5 (Zah (i:=6) sc.nd rfl (Or.inl rfl) (Zb3 Zdr (pv 4) (Zb6 G.Zcb (by rfl) T.Zii G.boot_len (Za0 (pv 1) Za6))))
   (Ze5 (Zah (i:=7) sc.nd rfl (Or.inl rfl) (Zb3 Zdr (Zb3 Zma (pv 4) (Za4)) (Zaj Zap (pv 1) (pv 6) (fun _ _=>rfl))))
   (Ze5 (Zah (i:=8) sc.nd rfl (Or.inl rfl) (Zb3 Zdr (Zb3 Zma (pv 4) (Za4)) (Zaj Zap (pv 1) (pv 6) (fun _ _=>rfl))))
   (ZJt (i:=9) sc.nd rfl (Or.inl rfl) (Zbs (Za4) (Zbs (Za4) (Zbs (Za4) (Zbs (Za4) (Zbs (Za4) (Zbs (Za4) (Zbs (Za4) (Zbs (Zb3 Zdr (Zb3 Zma (pv 5) (Za4)) (Za4)) Zxo)))))))) (Zb3 Zdr (Zb3 Zma (pv 5) (Za4)) (Za4)) (fun _ _=>rfl)
   (Ze5 (Zah (i:=10) sc.nd rfl (Or.inl rfl) (Zb3 Zdr (pv 3) (Za4)))
   (ZQb (Zan ZHe (pv 10) (Za4) (Zau _)) (ZJt (i:=11) sc.nd rfl (Or.inl rfl) (Zbs (Za4) (Zbs (Za4) (Zbs (Za4) (Zbs (Za4) (Zbs (Za4) (Zbs (Zb3 Zdr (Zb3 G.ZE1 (pv 0) (Zb3 Zwj (Za4) (Za4))) (Zb3 Zf2 (Zb3 Zwj (Za4) (Za4)) (Za4))) Zxo)))))) (Zb3 Zdr (Zb3 Zma (pv 3) (Za4)) (Za4)) (fun _ _=>rfl)
   (ZLz (Zbs (Zac) (Zbs (pv 6) (Zbs (pv 7) (ZOn (Zbs (Za4) (Zbs (Za4) (Zbs (Za4) (Zbs (Za4) (Zbs (Za4) (Zbs (Za4) (Zbs (Za4) (Zbs (Za4) Zxo)))))))) (Zb3 Zdr (pv 5) (Za4)) (fun _ _=>rfl) (Zbs (pv 11) Zxo))))))) ZOh
   (Ze5 (Zbk (Zan ZHe (pv 10) (Za4) (Zau _)) (Za7 (Zae (Zdq (Za0 (Zac) (Za0 (pv 6) (Za0 (pv 8) (Za0 (pv 9) (Za0 (pv 7) Za6)))))))) Zak)
   (Ze5 (Zbk (Zan ZHe (pv 10) (Za4) (Zau _)) (Za7 (Zae (Zdq (Za0 (Zac) (Za0 (pv 6) (Za0 (pv 7) (Za0 (pv 8) (Za0 (pv 9) Za6)))))))) Zak)
   (Ze5 (Zbk (Zan Zet (pv 10) (Za4) (Zau _)) (Za7 (Zae (Zdq (Za0 (Zac) (Za0 (pv 6) (Za0 (pv 7) (Za0 (pv 8) Za6))))))) Zak)
   (Ze5 (Zbk (Zan Zet (pv 10) (Za4) (Zau _)) (Za7 (Zae (Zdq (Za0 (Zac) (Za0 (pv 6) (Za0 (pv 7) Za6)))))) Zak)
   (Ze5 (Zbk (Zan Zet (pv 10) (Za4) (Zau _)) (Za1 (Zah (i:=12) sc.nd rfl (Or.inl rfl) (Zb3 Zdr (Zb3 Zma (pv 5) (Za4)) (Zb6 G.Zcb (by rfl) T.Zii G.boot_len (Za0 (pv 1) Za6))))
   (Za7 (Zae (Zdq (Za0 (Zac) (Za0 (pv 6) (Za0 (pv 7) (Za0 (pv 12) (Za0 (Zb3 Zdr (Zb3 Zma (pv 5) (Za4)) (Zaj Zap (pv 1) (pv 12) (fun _ _=>rfl))) Za6))))))))) Zak)
   (Ze5 (Zbk (Zan Zet (pv 10) (Za4) (Zau _)) (Za7 (Zae (Zdq (Za0 (Zac) (Za0 (pv 6) (Za0 (pv 8) (Za0 (pcl ZFf hr T.Zug (Za0 (pv 0) Za6)) Za6))))))) Zak)
   (Ze5 (Zbk (Zan Zet (pv 10) (Za4) (Zau _)) (Za7 (Zae (Zdq (Za0 (Zac) (Za0 (pv 6) (Za0 (pv 8) Za6)))))) Zak)
   (Ze5 (Zbk (Zan Zet (pv 10) (Za4) (Zau _)) (Za7 (Zae (Zdq (Za0 (Zac) (Za0 (pv 6) (Za0 (pv 8) (Za0 (Zaj Zap (pv 2) (Zb3 Zdr (pv 5) (Zb6 G.Zcb (by rfl) T.Zii G.boot_len (Za0 (pv 2) Za6))) (fun _ _=>rfl)) Za6))))))) Zak)
   (ZJs (Zae (Zdq (Za0 (Zac) (Za0 (pv 6) (Za0 (pv 7) (Za0 (Zaj Zap (pv 2) (Zb3 Zdr (pv 5) (Zb6 G.Zcb (by rfl) T.Zii G.boot_len (Za0 (pv 2) Za6))) (fun _ _=>rfl)) Za6)))))))))))))))))))))))),?_⟩
  obtain ⟨z0,z1,z2,rfl,q⟩:=h;exact ZD3 q
theorem Zxr {fd:FuncData} (F:Fun K "_law_tried" "_law_tried" Zin Zcv fd) {ZSw:FuncData} (G_do:Hh P w K mg base 5 f_do ZSw ["world","deed"] (Zbf XQ (rfA Zb0 Za8 Zad Zai) (fun _=>True))):Fn5 P w K mg base 6 Zcv fd ["_law_world","_law_deed_here"] (Zzf XQ (rfA Zb0 Za8 Zad Zai)):=by
 have sc:=Zxb;have tx:=tx0 _ T;refine G.fok F sc (fun vs H Q E h=>?_) (fun cdv A outer s H vs Q E hr h=>?_)
 ·obtain ⟨z0,z1,rfl,q⟩:=h;rfl
 ·refine ⟨Zke Za8 Zb0 Zad Zai (Zbf XQ (rfA Zb0 Za8 Zad Zai) (fun _=>True)),(Za1 (Zah (i:=2) sc.nd rfl (Or.inl rfl) (Ze6))
   (Za1 (Zah (i:=3) sc.nd rfl (Or.inl rfl) (Zac))
   (Za1 (G.ZOi ⟨rfl,rfl⟩ rfl T.Zon rfl T.Zui rfl T.ZKe rfl T.Zy6 (fun cls h=>by rcases h with rfl<;>first | exact T.e_EmptySlot_EmptySlot) (fun cls h=>by rcases h with rfl<;>first | exact ⟨T.ne_NoField_EmptySlot,T.e_NoField_NoField⟩) (fun cls h=>by rcases h with rfl<;>first | exact ⟨T.ne_Full_EmptySlot,T.ne_Full_NoField,T.e_Full_Full⟩) (fun cls h=>by rcases h with rfl<;>first | exact ⟨T.ne_NoName_EmptySlot,T.ne_NoName_NoField,T.ne_NoName_Full,T.e_NoName_NoName⟩) (fun Ex pn xe hx=>(Za7 (Zah (i:=2) sc.nd rfl (Or.inl rfl) (G.ZM5 G_do.g (hr.mono (by decide)) rfl T.m_do G_do.k G_do.b .nil hx (Za0 (pv 0) (Za0 (pv 1) Za6)))))) (fun ea pn=>(Za7 (Zah (i:=3) sc.nd rfl (Or.inl rfl) (Zac)))) (fun ea pn=>(Za7 (Zah (i:=3) sc.nd rfl (Or.inl rfl) (Zac)))) (fun ea pn=>(Za7 (Zah (i:=3) sc.nd rfl (Or.inl rfl) (Zac)))) (fun ea pn=>(Za7 (Zah (i:=3) sc.nd rfl (Or.inl rfl) (Zac)))))
   (Za1 (Zbk (Zan ZAw (pv 3) (Zac) (Zau _)) (Za7 (Zae (Zdq (Za0 (Zac) (Za0 (pv 3) (Za0 (Zd9 Za6) Za6)))))) Zak)
   (Za7 (Zae (pv 2))))))),?_⟩
  obtain ⟨z0,z1,rfl,q⟩:=h;exact Zz8 rfl rfl rfl rfl q
theorem ZB4 {fd:FuncData} (F:Fun K "_law_said" "_law_said" Zk3 Zdi fd):Fn5 P w K mg base 1 Zdi fd ["_law_word"] (ZGe):=by
 have sc:=ZAl;have tx:=tx0 _ T;refine fokw F sc (fun vs H Q E h=>?_) (fun cdv A outer s H vs Q E hr h=>?_)
 ·obtain ⟨z0,rfl,q⟩:=h;rfl
 ·refine ⟨Zlz,(ZM0 (i:=1) sc.nd rfl (Or.inl rfl) (Zmx Zhe Zhe (Zmx Zhe Zhe (Zmx Zhe Zhe (Zmx Zhe Zhe (Zmx Zhe Zhe (Zmx Zhe Zhe ZOj)))))) rfl rfl (by decide) (by decide)
   (Ze5 (Zog (G.ZOm (pv 1) (ZDz (Zfw (Zac) (Zac) (Zfw (Zac) (Zac) (Zfw (Zac) (Zac) (Zfw (Zac) (Zac) ZDx)))) rfl rfl (by decide) (by decide)) ⟨rfl,rfl,rfl,rfl⟩))
   (ZJs (Zae (Zbx (Zea hr) (pv 1) (pv 0) (fun _ _=>rfl)))))),?_⟩
  obtain ⟨z0,rfl,q⟩:=h;exact ZCz q
theorem ZB3 {fd:FuncData} (F:Fun K "_law_turn" "_law_turn" Zk2 Zdh fd) {Zt8:FuncData} (Zv7:Hh P w K mg base 1 Zbo Zt8 ["_law_store_here","_law_deed_here"] (ZN8 K)) {ZCf:FuncData} (ZFd:Hh P w K mg base 1 Zdi ZCf ["_law_word"] (ZGe)) {Zh8:FuncData} (Zbr:Hh P w K mg base 4 Zbn Zh8 ["_law_found","_law_due"] (Zj5 3)) {Zyw:FuncData} (ZD9:Hh P w K mg base 2 Zcw Zyw ["_law_store_here","_law_deed_here"] (Zzg K)) {Zyv:FuncData} (ZD8:Hh P w K mg base 6 Zcv Zyv ["_law_world","_law_deed_here"] (Zzf XQ (rfA Zb0 Za8 Zad Zai))):Fn5 P w K mg base 7 Zdh fd ["_law_world","_law_store_here","_law_deed_here"] (ZGc XQ):=by
 have sc:=ZAk;have tx:=tx0 _ T;refine G.fok F sc (fun vs H Q E h=>?_) (fun cdv A outer s H vs Q E hr h=>?_)
 ·obtain ⟨z0,z1,z2,rfl,q⟩:=h;rfl
 ·refine ⟨Zly K (ZN8 K) (ZGe) (Zj5 3) (Zzg K) (Zzf XQ (rfA Zb0 Za8 Zad Zai)),(Za1 (Zah (i:=3) sc.nd rfl (Or.inl rfl) (pcl Zv7 hr T.Zmf (Za0 (pv 1) (Za0 (pv 2) Za6))))
   (Za1 (Zah (i:=4) sc.nd rfl (Or.inl rfl) (pcl ZD8 hr T.Zrw (Za0 (pv 0) (Za0 (pv 2) Za6))))
   (Za1 (Zbk (Zan ZAw (pv 3) (Zac) (Zau _)) (Za7 (Zae (pcl Zbr hr T.Zeg (Za0 (pv 4) (Za0 (Zdq (Za0 (Zac) (Za0 (pv 3) (Za0 (Zd9 Za6) Za6)))) Za6))))) Zak)
   (Za7 (Zae (pcl Zbr hr T.Zeg (Za0 (pv 4) (Za0 (Zdq (Za0 (pcl ZFd hr T.Zue (Za0 (Zaj Zar (pv 2) (Za4) (fun _ _=>rfl)) Za6)) (Za0 (pcl ZD9 hr T.Zrx (Za0 (pv 1) (Za0 (pv 2) Za6))) (Za0 (Zd9 Za6) Za6)))) Za6)))))))),?_⟩
  obtain ⟨z0,z1,z2,rfl,q⟩:=h;exact ZCx q
theorem Zvv {fd:FuncData} (F:Fun K "_law_stands" "_law_stands" Zhr Zc9 fd) {Zh8:FuncData} (Zbr:Hh P w K mg base 4 Zbn Zh8 ["_law_found","_law_due"] (Zj5 3)) {Zw7:FuncData} (Zzs:Hh P w K mg base 4 Zc8 Zw7 ["world"] (Zts XQ)) {Zyu:FuncData} (ZD7:Hh P w K mg base 5 Zcn Zyu ["world"] (ZGd XQ)):Fn5 P w K mg base 6 Zc9 fd ["_law_world","_law_store_here"] (Zqa XQ):=by
 have sc:=Zvp;have tx:=tx0 _ T;refine G.fok F sc (fun vs H Q E h=>?_) (fun cdv A outer s H vs Q E hr h=>?_)
 ·obtain ⟨z0,z1,rfl,q⟩:=h;rfl
 ·refine ⟨Zjg K (Zj5 3) (Zts XQ) (ZGd XQ),(Za1 (Zah (i:=2) sc.nd rfl (Or.inl rfl) (Zd9 Za6))
   (Za1 (Zah (i:=3) sc.nd rfl (Or.inl rfl) (Zbx (Zea hr) (pv 1) (Zac) (fun _ _=>rfl)))
   (Za1 (Znl PassesOwn.never rfl (G.ZOk (pv 3)) (Zff (i:=4) sc.nd rfl (Or.inl rfl))
   (Za1 (Zah (i:=5) sc.nd rfl (Or.inl rfl) (Zbx (Zea hr) (pv 3) (pv 4) (fun _ _=>rfl)))
   (Za7 (Zog (ZE0 PySem.F.plainAttrs_list PySem.F.slot_list_append PySem.F.type_list_append Zg4 (pv 2) (Za0 (Zdq (Za0 (Zb3 Zwi (pv 4) (Za4)) (Za0 (pv 4) (Za0 (Zb3 Zwi (Zb3 Zwi (Zaj Zap (pv 5) (Za4) (fun _ _=>rfl)) (Za4)) (Zb6 G.Zcb (by rfl) T.Zii G.boot_len (Za0 (Zaj Zap (pv 5) (Za4) (fun _ _=>rfl)) Za6))) (Za0 (Zaj Zap (pv 5) (Za4) (fun _ _=>rfl)) (Za0 (ZJz G.ZIy (by rfl) T.Zrl G.boot_list (Za0 (Zaj Zap (pv 5) (Za4) (fun _ _=>rfl)) Za6)) (Za0 (Zac) Za6))))))) Za6))))))
   (Za1 (Zbk (Zlb (Zeq (pcl Zbr hr T.Zeg (Za0 (pcl ZD7 hr T.Zrv (Za0 (pv 0) Za6)) (Za0 (pv 2) Za6))))) (Za7 (Zae (Zib))) Zak)
   (Za7 (Zae ((Zpn (pcl Zbr hr T.Zeg (Za0 (pcl Zzs hr T.Zpv (Za0 (pv 0) Za6)) (Za0 (Zbx (Zea hr) (pv 1) (Zac) (fun _ _=>rfl)) Za6))) (Zu3 (pcl Zbr hr T.Zeg (Za0 (Zaq (Zaq (pv 0) rfl) rfl) (Za0 (Zbx (Zea hr) (pv 1) (Zac) (fun _ _=>rfl)) Za6)))))))))))),?_⟩
  obtain ⟨z0,z1,rfl,q⟩:=h;exact Zwd tx q
theorem ZQj {fl:Addr}{fd:FuncData} (F:Fun K "law" "law" ZDq fl fd) {Zre:FuncData} (Zfd:Hh P w K mg base 3 Zb7 Zre ["self","room","kind","hands"] (Zj6 XQ)) {Zuv:FuncData} (Zf7:Hh P w K mg base 1 Zc0 Zuv ["_law_script","_law_k"] (ZN9 K)) {ZCj:FuncData} (Zv8:Hh P w K mg base 3 Zdm ZCj ["_law_cell","_law_slots","_law_words"] (Zzm K)) {ZCi:FuncData} (ZFg:Hh P w K mg base 2 Zdl ZCi ["_law_cell"] (Zzl)) {Zde:FuncData} (Zbv:Hh P w K mg base 1 Zcc Zde ["_law_cell","_law_factor"] (Zl0)) {Zyy:FuncData} (ZDa:Hh P w K mg base 2 Zcy Zyy ["_law_cell","_law_many"] (Zzj)) {ZCg:FuncData} (ZFe:Hh P w K mg base 2 Zdj ZCg ["_law_cell"] (Zzi)) {Zh8:FuncData} (Zbr:Hh P w K mg base 4 Zbn Zh8 ["_law_found","_law_due"] (Zj5 3)) {Zw8:FuncData} (Zqd:Hh P w K mg base 6 Zc9 Zw8 ["_law_world","_law_store_here"] (Zqa XQ)) {Zyx:FuncData} (Zs7:Hh P w K mg base 1 Zcx Zyx ["_law_room_here","_law_slots"] (Zzh K)) {ZCe:FuncData} (Zv6:Hh P w K mg base 7 Zdh ZCe ["_law_world","_law_store_here","_law_deed_here"] (ZGc XQ)) {ZIe:FuncData} (ZLp:Hh P w K mg base 3 Zey ZIe ["text"] (Zqc XQ)):Fn5 P w K mg base 8 fl fd ["_law_script"] (ZN7 K):=by
 have sc:=ZQ8;have tx:=tx0 _ T;refine G.fok F sc (fun vs H Q E h=>?_) (fun cdv A outer s H vs Q E hr h=>?_)
 ·obtain ⟨z0,rfl,q⟩:=h;rfl
 ·refine ⟨ZJm K XQ.W (Zj6 XQ) (ZN9 K) (Zzm K) (Zzl) (Zl0) (Zzj) (Zzi) (Zj5 3) (Zqa XQ) (Zzh K) (ZGc XQ) (Zqc XQ),(Za1 (Zah (i:=1) sc.nd rfl (Or.inl rfl) (pcl ZFe hr T.Zuf (Za0 (pcl Zf7 hr T.Zek (Za0 (pv 0) (Za0 (Za4) Za6))) Za6)))
   (Za1 (Zah (i:=2) sc.nd rfl (Or.inl rfl) (Zb3 Zf2 (Za4) (Zb3 Zdr (pcl Zf7 hr T.Zek (Za0 (pv 0) (Za0 (Za4) Za6))) (Za4))))
   (Za1 (Zah (i:=3) sc.nd rfl (Or.inr rfl) (G.ZHd (cns:=["_law_script"]) [0] (Zh5 rfl T.Zhx (Za0 (pv 2) Za6)) (fun _ _ _ _ _=>G.Zu2) (fun _ _ _ _ _=>(Zb3 Zf2 (Za4) (Zb3 Zdr (pcl Zbv hr T.Zd0 (Za0 (pcl Zf7 hr T.Zek (Za0 (pv 1) (Za0 (Za4) Za6))) (Za0 (Zb3 Zf2 (Za4) (Zb3 ZFu (pv 0) (pv 0))) Za6))) (Za4)))) rfl rfl (by repeat (first | exact trivial | refine ⟨rfl,?_⟩)) (by repeat (first | exact trivial | refine ⟨rfl,?_⟩)) rfl (by decide +kernel) rfl (by decide +kernel) (by decide +kernel) rfl (by decide +kernel)))
   (Za1 (Zah (i:=4) sc.nd rfl (Or.inl rfl) (pcl ZDa hr T.Zry (Za0 (pcl Zf7 hr T.Zek (Za0 (pv 0) (Za0 (Za4) Za6))) (Za0 (Za4) Za6))))
   (Za1 (Zah (i:=5) sc.nd rfl (Or.inl rfl) (pcl ZLp hr T.ZBf (Za0 (pcl ZFg hr T.Zuh (Za0 (pcl Zf7 hr T.Zek (Za0 (pv 0) (Za0 (Za4) Za6))) Za6)) Za6)))
   (Za1 (G.ZM1 (iz:=6) (cns:=["_law_slots"]) [3] (Zh5 rfl T.Zhx (Za0 (pv 2) Za6)) (fun _ _ _ _ _=>G.Zu2) (fun _ _ _ _ _=>(Zdq (Za0 (Zaj ZG4 (Zac) (pv 0) (fun _ _=>rfl)) (Za0 (Zaj Zap (pv 1) (pv 0) (fun _ _=>rfl)) Za6)))) rfl rfl (by repeat (first | exact trivial | refine ⟨rfl,?_⟩)) (by repeat (first | exact trivial | refine ⟨rfl,?_⟩)) rfl (by decide +kernel) rfl (by decide +kernel) (by decide +kernel) rfl (by decide +kernel) sc.nd rfl (Or.inl rfl) (Or.inr rfl) rfl)
   (Za1 (Zah (i:=7) sc.nd rfl (Or.inl rfl) (Zd9 (Za0 (Zqx T.Zpp Zfd.g (hr.mono (by decide)) rfl T.ZEe Zfd.b .nil G.Zfm (Za0 (pv 1) (Za0 (pv 5) (Za0 (pv 6) Za6)))) (Za0 (Zqx T.Zpp Zfd.g (hr.mono (by decide)) rfl T.ZEe Zfd.b .nil G.Zfm (Za0 (pv 1) (Za0 (pv 5) (Za0 (pv 6) Za6)))) Za6))))
   (Za1 (Zah (i:=8) sc.nd rfl (Or.inl rfl) (Zd9 (Za0 (pcl Zs7 hr T.Zme (Za0 (pv 1) (Za0 (pv 3) Za6))) (Za0 (pcl Zs7 hr T.Zme (Za0 (pv 1) (Za0 (pv 3) Za6))) Za6))))
   (Za1 (Zah (i:=9) sc.nd rfl (Or.inl rfl) (Zd9 Za6))
   (Za1 (Znl PassesOwn.never rfl (Zko (Zxm ZOa (pv 0) (Zxl (Za4)) (Zxl (Za4)))) (Zff (i:=10) sc.nd rfl (Or.inl rfl))
   (Za1 (Zah (i:=11) sc.nd rfl (Or.inl rfl) (pcl Zv8 hr T.Zom (Za0 (pv 10) (Za0 (pv 3) (Za0 (pv 4) Za6)))))
   (Za1 (Zog (ZE0 PySem.F.plainAttrs_list PySem.F.slot_list_append PySem.F.type_list_append Zg4 (pv 9) (Za0 (Zdq (Za0 (pv 11) (Za0 (pcl Zv8 hr T.Zom (Za0 (pv 10) (Za0 (pv 3) (Za0 (pv 4) Za6)))) Za6))) Za6)))
   (Za1 (Zbk (Zlb (Zeq (pcl Zv6 hr T.Zol (Za0 (Zaj Zap (pv 7) (Za4) (fun _ _=>rfl)) (Za0 (Zaj Zap (pv 8) (Za4) (fun _ _=>rfl)) (Za0 (pv 11) Za6)))))) (Za7 (Zae (Zib))) Zak)
   (Za7 (Zbk (PW.pt (Zpm (Zan Zet (Zb3 Zdr (pv 10) (Za4)) (Za4) (Zau _)) (Zkn (Zlb (Zeq (pcl Zv6 hr T.Zol (Za0 (Zaj Zap (pv 7) (Za4) (fun _ _=>rfl)) (Za0 (Zaj Zap (pv 8) (Za4) (fun _ _=>rfl)) (Za0 (pv 11) Za6))))))))) (Za7 (Zae (Zib))) Zak))))))
   (Za1 (Znl PassesOwn.never rfl (Zko (pv 9)) (ZNe rfl (Ztn (Zff (i:=12) sc.nd rfl (Or.inl rfl)) (Ztn (Zff (i:=13) sc.nd rfl (Or.inl rfl)) ZJw)))
   (Za7 (Zbk (Zlb (Zeq (pcl Zbr hr T.Zeg (Za0 (pv 12) (Za0 (pv 13) Za6))))) (Za7 (Zae (Zib))) Zak)))
   (Za7 (Zae ((Zpn (pcl Zqd hr T.Zku (Za0 (Zaj Zap (pv 7) (Za4) (fun _ _=>rfl)) (Za0 (Zaj Zap (pv 8) (Za4) (fun _ _=>rfl)) Za6))) (Zu3 (pcl Zqd hr T.Zku (Za0 (Zaj Zap (pv 7) (Za4) (fun _ _=>rfl)) (Za0 (Zaj Zap (pv 8) (Za4) (fun _ _=>rfl)) Za6))))))))))))))))))),?_⟩
  obtain ⟨z0,rfl,q⟩:=h;exact ZQq q
end
abbrev Fi (K:PySem.W.Frag) (c:Addr) (s:Str) (f:Addr):Prop:=PySem.W.findIn K (.ref c) s=some (some (.ref f))
abbrev Fo (K:PySem.W.Frag) (c:Addr) (s:Str):Prop:=PySem.W.findIn K (.ref c) s=some none
abbrev Ns (K:PySem.W.Frag) (s:Str) (f:Addr):Prop:=PySem.W.nsIn K mainGlobals s=some (some (.ref f))
abbrev Ki (K:PySem.W.Frag) (f:Addr):Prop:=PySem.W.keepIn K (.ref f)=true
abbrev Ci (K:PySem.W.Frag) (c:Value) (s:Str):Prop:=PySem.W.codeIn K c s=true
abbrev Lk (K:PySem.W.Frag) (f:Addr) (a b:Str) (s:Stmt) (d:Value) (oc:Value) (od:Option Addr) (kV dc pm:Value) (an:Option Addr) (cd ct:Value) (sl:Array (Option Value)):Prop:=K.lookup f=some ⟨oc,od,.func (PySem.W.fnOf a b (Zfi s) (Zeh s) (Zaa s) d kV dc pm an cd ct),sl⟩
theorem bd1 {K:PySem.W.Frag}{x qual:Str}{st:Stmt}{f:Addr}{fd:FuncData} (F:Fun K x qual st f fd) (a0:Str) (h:∀ (kV doc pm:Value) (an:Option Addr) (cdv ct u0:Value),bindArgs (PySem.W.fnOf x qual (Zfi st) (Zeh st) (Zaa st) .none kV doc pm an cdv ct) ⟨[u0],[]⟩=pure (([a0]:List Str).zip [u0]):=by intros;rfl):Binds K fd [a0] []:=F.binds fun kV doc pm an cdv ct us hl=>match us,hl with | [u0],_=>h kV doc pm an cdv ct u0
theorem bd2 {K:PySem.W.Frag}{x qual:Str}{st:Stmt}{f:Addr}{fd:FuncData} (F:Fun K x qual st f fd) (a0 a1:Str) (h:∀ (kV doc pm:Value) (an:Option Addr) (cdv ct u0 u1:Value),bindArgs (PySem.W.fnOf x qual (Zfi st) (Zeh st) (Zaa st) .none kV doc pm an cdv ct) ⟨[u0,u1],[]⟩=pure (([a0,a1]:List Str).zip [u0,u1]):=by intros;rfl):Binds K fd [a0,a1] []:=F.binds fun kV doc pm an cdv ct us hl=>match us,hl with | [u0,u1],_=>h kV doc pm an cdv ct u0 u1
theorem bd3 {K:PySem.W.Frag}{x qual:Str}{st:Stmt}{f:Addr}{fd:FuncData} (F:Fun K x qual st f fd) (a0 a1 a2:Str) (h:∀ (kV doc pm:Value) (an:Option Addr) (cdv ct u0 u1 u2:Value),bindArgs (PySem.W.fnOf x qual (Zfi st) (Zeh st) (Zaa st) .none kV doc pm an cdv ct) ⟨[u0,u1,u2],[]⟩=pure (([a0,a1,a2]:List Str).zip [u0,u1,u2]):=by intros;rfl):Binds K fd [a0,a1,a2] []:=F.binds fun kV doc pm an cdv ct us hl=>match us,hl with | [u0,u1,u2],_=>h kV doc pm an cdv ct u0 u1 u2
theorem bd4 {K:PySem.W.Frag}{x qual:Str}{st:Stmt}{f:Addr}{fd:FuncData} (F:Fun K x qual st f fd) (a0 a1 a2 a3:Str) (h:∀ (kV doc pm:Value) (an:Option Addr) (cdv ct u0 u1 u2 u3:Value),bindArgs (PySem.W.fnOf x qual (Zfi st) (Zeh st) (Zaa st) .none kV doc pm an cdv ct) ⟨[u0,u1,u2,u3],[]⟩=pure (([a0,a1,a2,a3]:List Str).zip [u0,u1,u2,u3]):=by intros;rfl):Binds K fd [a0,a1,a2,a3] []:=F.binds fun kV doc pm an cdv ct us hl=>match us,hl with | [u0,u1,u2,u3],_=>h kV doc pm an cdv ct u0 u1 u2 u3
theorem bd5 {K:PySem.W.Frag}{x qual:Str}{st:Stmt}{f:Addr}{fd:FuncData} (F:Fun K x qual st f fd) (a0 a1 a2 a3 a4:Str) (h:∀ (kV doc pm:Value) (an:Option Addr) (cdv ct u0 u1 u2 u3 u4:Value),bindArgs (PySem.W.fnOf x qual (Zfi st) (Zeh st) (Zaa st) .none kV doc pm an cdv ct) ⟨[u0,u1,u2,u3,u4],[]⟩=pure (([a0,a1,a2,a3,a4]:List Str).zip [u0,u1,u2,u3,u4]):=by intros;rfl):Binds K fd [a0,a1,a2,a3,a4] []:=F.binds fun kV doc pm an cdv ct us hl=>match us,hl with | [u0,u1,u2,u3,u4],_=>h kV doc pm an cdv ct u0 u1 u2 u3 u4
theorem bd6 {K:PySem.W.Frag}{x qual:Str}{st:Stmt}{f:Addr}{fd:FuncData} (F:Fun K x qual st f fd) (a0 a1 a2 a3 a4 a5:Str) (h:∀ (kV doc pm:Value) (an:Option Addr) (cdv ct u0 u1 u2 u3 u4 u5:Value),bindArgs (PySem.W.fnOf x qual (Zfi st) (Zeh st) (Zaa st) .none kV doc pm an cdv ct) ⟨[u0,u1,u2,u3,u4,u5],[]⟩=pure (([a0,a1,a2,a3,a4,a5]:List Str).zip [u0,u1,u2,u3,u4,u5]):=by intros;rfl):Binds K fd [a0,a1,a2,a3,a4,a5] []:=F.binds fun kV doc pm an cdv ct us hl=>match us,hl with | [u0,u1,u2,u3,u4,u5],_=>h kV doc pm an cdv ct u0 u1 u2 u3 u4 u5
theorem ZRt {l:PySem.W.OpenLaw}{w:World}{K:PySem.W.Frag}{h:Heap}{mg:Str→Option Value}{fa fl Zax Zav Zed Zfo Zfn Zer Zf8 Zas Zci Za8 Zad Zb0 Zai Zbd Zch Zb9 Zbb Zd4 Zds Zd5 Zcf Zdw Zbt Zcg Zd6 Zd3 Zba Zce Zey Zbc Zaw Zb7 Zc8 Zd2 Zdg Zck Zex Zcn Zdf Zmk Zdc Zml Zbq Zdv Zd1 Zc6 Zc1 Zcr Zdu Zdt Zcu Zct Zcs Zc4 Zcp Zcq Zco Zc7 f_do Zcc Zc0 Zdl Zdj Zcy Zbn Zcx Zbo Zbz Zcz Zcw Zdk Zdm Zcv Zdi Zdh Zc9:Addr} (KI:K.In h) (GN:h.Ns mainGlobals mg) (hfa:mg "law"=some (.ref fa))
  {od1 an1 od2 an2 od3 an3 od4 an4 od5 an5 to5 od6 an6 od7 an7 od8 an8 od9 an9 od10 an10 od11 an11 od12 an12 od13 an13 od14 an14 od15 an15 od16 an16 od17 an17 od18 an18 od19 an19 od20 an20 od21 an21 od22 an22 od23 an23 od24 an24 od25 an25 od26 an26 od27 an27 od28 an28 od29 an29 od30 an30 od31 an31 od32 an32 od33 an33 od34 an34 od35 an35 od36 an36 od37 an37 od38 an38 od39 an39 od40 an40 od41 an41 od42 an42 od43 an43 od44 an44 od45 an45 od46 an46 od47 an47 od48 an48 od49 an49 od50 an50 od51 an51 od52 an52 od53 an53 od54 an54 od55 an55 od56 an56 od57 an57 od58 an58 od59 an59 od60 an60 od61 an61 od62 an62 od63 an63 od64 an64:Option Addr}
  {sl1 sl2 sl3 sl4 sl5 ts5 sl6 sl7 sl8 sl9 sl10 sl11 sl12 sl13 sl14 sl15 sl16 sl17 sl18 sl19 sl20 sl21 sl22 sl23 sl24 sl25 sl26 sl27 sl28 sl29 sl30 sl31 sl32 sl33 sl34 sl35 sl36 sl37 sl38 sl39 sl40 sl41 sl42 sl43 sl44 sl45 sl46 sl47 sl48 sl49 sl50 sl51 sl52 sl53 sl54 sl55 sl56 sl57 sl58 sl59 sl60 sl61 sl62 sl63 sl64:Array (Option Value)}
  {oc1 kV1 dc1 pm1 cd1 ct1 oc2 kV2 dc2 pm2 cd2 ct2 oc3 kV3 dc3 pm3 cd3 ct3 oc4 kV4 dc4 pm4 cd4 ct4 oc5 kV5 dc5 pm5 cd5 ct5 tc5 dv5_0 dv5_1 oc6 kV6 dc6 pm6 cd6 ct6 oc7 kV7 dc7 pm7 cd7 ct7 oc8 kV8 dc8 pm8 cd8 ct8 oc9 kV9 dc9 pm9 cd9 ct9 oc10 kV10 dc10 pm10 cd10 ct10 oc11 kV11 dc11 pm11 cd11 ct11 oc12 kV12 dc12 pm12 cd12 ct12 oc13 kV13 dc13 pm13 cd13 ct13 oc14 kV14 dc14 pm14 cd14 ct14 oc15 kV15 dc15 pm15 cd15 ct15 oc16 kV16 dc16 pm16 cd16 ct16 oc17 kV17 dc17 pm17 cd17 ct17 oc18 kV18 dc18 pm18 cd18 ct18 oc19 kV19 dc19 pm19 cd19 ct19 oc20 kV20 dc20 pm20 cd20 ct20 oc21 kV21 dc21 pm21 cd21 ct21 oc22 kV22 dc22 pm22 cd22 ct22 oc23 kV23 dc23 pm23 cd23 ct23 oc24 kV24 dc24 pm24 cd24 ct24 oc25 kV25 dc25 pm25 cd25 ct25 oc26 kV26 dc26 pm26 cd26 ct26 oc27 kV27 dc27 pm27 cd27 ct27 oc28 kV28 dc28 pm28 cd28 ct28 oc29 kV29 dc29 pm29 cd29 ct29 oc30 kV30 dc30 pm30 cd30 ct30 oc31 kV31 dc31 pm31 cd31 ct31 oc32 kV32 dc32 pm32 cd32 ct32 oc33 kV33 dc33 pm33 cd33 ct33 oc34 kV34 dc34 pm34 cd34 ct34 oc35 kV35 dc35 pm35 cd35 ct35 oc36 kV36 dc36 pm36 cd36 ct36 oc37 kV37 dc37 pm37 cd37 ct37 oc38 kV38 dc38 pm38 cd38 ct38 oc39 kV39 dc39 pm39 cd39 ct39 oc40 kV40 dc40 pm40 cd40 ct40 oc41 kV41 dc41 pm41 cd41 ct41 oc42 kV42 dc42 pm42 cd42 ct42 oc43 kV43 dc43 pm43 cd43 ct43 oc44 kV44 dc44 pm44 cd44 ct44 oc45 kV45 dc45 pm45 cd45 ct45 oc46 kV46 dc46 pm46 cd46 ct46 oc47 kV47 dc47 pm47 cd47 ct47 oc48 kV48 dc48 pm48 cd48 ct48 oc49 kV49 dc49 pm49 cd49 ct49 oc50 kV50 dc50 pm50 cd50 ct50 oc51 kV51 dc51 pm51 cd51 ct51 oc52 kV52 dc52 pm52 cd52 ct52 oc53 kV53 dc53 pm53 cd53 ct53 oc54 kV54 dc54 pm54 cd54 ct54 oc55 kV55 dc55 pm55 cd55 ct55 oc56 kV56 dc56 pm56 cd56 ct56 oc57 kV57 dc57 pm57 cd57 ct57 oc58 kV58 dc58 pm58 cd58 ct58 oc59 kV59 dc59 pm59 cd59 ct59 oc60 kV60 dc60 pm60 cd60 ct60 oc61 kV61 dc61 pm61 cd61 ct61 oc62 kV62 dc62 pm62 cd62 ct62 oc63 kV63 dc63 pm63 cd63 ct63 oc64 kV64 dc64 pm64 cd64 ct64 u_NEW u_OLD:Value}
  {td5 dd_DEEDS:Addr}
  {tn5 ep_DEEDS:Nat}
  {hh_DEEDS0 hh_DEEDS1 hh_DEEDS2 hh_DEEDS3 hh_DEEDS4 hh_DEEDS5 hh_DEEDS6 hh_DEEDS7 hh_DEEDS8 hh_DEEDS9:Int}
  {tk_DEEDS0 tk_DEEDS1 tk_DEEDS2 tk_DEEDS3 tk_DEEDS4 tk_DEEDS5 tk_DEEDS6 tk_DEEDS7 tk_DEEDS8 tk_DEEDS9:Tok}
  (a_Cell:Ns K "Cell" Zax)
  (a_Heap:Ns K "Heap" Zav)
  (a_First:Ns K "First" Zed)
  (a_Each:Ns K "Each" Zfo)
  (a_Last:Ns K "Last" Zfn)
  (a_Kind:Ns K "Kind" Zer)
  (a_Hand:Ns K "Hand" Zf8)
  (a_Sweeper:Ns K "Sweeper" Zas)
  (a_World:Ns K "World" Zci)
  (a_EmptySlot:Ns K "EmptySlot" Za8)
  (a_NoField:Ns K "NoField" Zad)
  (a_Full:Ns K "Full" Zb0)
  (a_NoName:Ns K "NoName" Zai)
  (a1:Fi K Zax "__init__" Zbd)
  (i1:PySem.W.isFn K (.ref Zbd)=true)
  (l1:Lk K Zbd "__init__" "Cell.__init__" Zfv .none oc1 od1 kV1 dc1 pm1 an1 cd1 ct1 sl1)
  (c1:Ci K cd1 "Cell.__init__")
  (k1:Ki K Zbd)
  (a2:Fi K Zax "units" Zch)
  (i2:PySem.W.isFn K (.ref Zch)=true)
  (l2:Lk K Zch "units" "Cell.units" Ziv .none oc2 od2 kV2 dc2 pm2 an2 cd2 ct2 sl2)
  (c2:Ci K cd2 "Cell.units")
  (k2:Ki K Zch)
  (a3:Fi K Zax "has_field" Zb9)
  (i3:PySem.W.isFn K (.ref Zb9)=true)
  (l3:Lk K Zb9 "has_field" "Cell.has_field" Zfa .none oc3 od3 kV3 dc3 pm3 an3 cd3 ct3 sl3)
  (c3:Ci K cd3 "Cell.has_field")
  (k3:Ki K Zb9)
  (a4:Fi K Zav "__init__" Zbb)
  (i4:PySem.W.isFn K (.ref Zbb)=true)
  (l4:Lk K Zbb "__init__" "Heap.__init__" Zft .none oc4 od4 kV4 dc4 pm4 an4 cd4 ct4 sl4)
  (c4:Ci K cd4 "Heap.__init__")
  (k4:Ki K Zbb)
  (a5:Fi K Zav "make" Zd4)
  (i5:PySem.W.isFn K (.ref Zd4)=true)
  (l5:Lk K Zd4 "make" "Heap.make" Zk9 (.ref td5) oc5 od5 kV5 dc5 pm5 an5 cd5 ct5 sl5)
  (t5:K.lookup td5=some ⟨tc5,to5,.seq #[dv5_0,dv5_1] tn5,ts5⟩)
  (dr5_0:RelV (.int 0) dv5_0)
  (dr5_1:RelV (.int 0) dv5_1)
  (c5:Ci K cd5 "Heap.make")
  (k5:Ki K Zd4)
  (a6:Fi K Zav "lay" Zds)
  (i6:PySem.W.isFn K (.ref Zds)=true)
  (l6:Lk K Zds "lay" "Heap.lay" Zmw .none oc6 od6 kV6 dc6 pm6 an6 cd6 ct6 sl6)
  (c6:Ci K cd6 "Heap.lay")
  (k6:Ki K Zds)
  (a7:Fi K Zav "free" Zd5)
  (i7:PySem.W.isFn K (.ref Zd5)=true)
  (l7:Lk K Zd5 "free" "Heap.free" Zka .none oc7 od7 kV7 dc7 pm7 an7 cd7 ct7 sl7)
  (c7:Ci K cd7 "Heap.free")
  (k7:Ki K Zd5)
  (a8:Fi K Zav "there" Zcf)
  (i8:PySem.W.isFn K (.ref Zcf)=true)
  (l8:Lk K Zcf "there" "Heap.there" Zit .none oc8 od8 kV8 dc8 pm8 an8 cd8 ct8 sl8)
  (c8:Ci K cd8 "Heap.there")
  (k8:Ki K Zcf)
  (a9:Ns K "cell_at" Zdw)
  (l9:Lk K Zdw "cell_at" "cell_at" Zpl .none oc9 od9 kV9 dc9 pm9 an9 cd9 ct9 sl9)
  (c9:Ci K cd9 "cell_at")
  (k9:Ki K Zdw)
  (a10:Ns K "birth_at" Zbt)
  (l10:Lk K Zbt "birth_at" "birth_at" Zmu .none oc10 od10 kV10 dc10 pm10 an10 cd10 ct10 sl10)
  (c10:Ci K cd10 "birth_at")
  (k10:Ki K Zbt)
  (a11:Fi K Zed "word" Zcg)
  (i11:PySem.W.isFn K (.ref Zcg)=true)
  (l11:Lk K Zcg "word" "First.word" Ziu .none oc11 od11 kV11 dc11 pm11 an11 cd11 ct11 sl11)
  (c11:Ci K cd11 "First.word")
  (k11:Ki K Zcg)
  (a12:Fi K Zfo "word" Zd6)
  (i12:PySem.W.isFn K (.ref Zd6)=true)
  (l12:Lk K Zd6 "word" "Each.word" Zkb .none oc12 od12 kV12 dc12 pm12 an12 cd12 ct12 sl12)
  (c12:Ci K cd12 "Each.word")
  (k12:Ki K Zd6)
  (a13:Fi K Zfn "word" Zd3)
  (i13:PySem.W.isFn K (.ref Zd3)=true)
  (l13:Lk K Zd3 "word" "Last.word" Zk8 .none oc13 od13 kV13 dc13 pm13 an13 cd13 ct13 sl13)
  (c13:Ci K cd13 "Last.word")
  (k13:Ki K Zd3)
  (a14:Fi K Zer "__init__" Zba)
  (i14:PySem.W.isFn K (.ref Zba)=true)
  (l14:Lk K Zba "__init__" "Kind.__init__" Zfs .none oc14 od14 kV14 dc14 pm14 an14 cd14 ct14 sl14)
  (c14:Ci K cd14 "Kind.__init__")
  (k14:Ki K Zba)
  (a15:Fi K Zer "words" Zce)
  (i15:PySem.W.isFn K (.ref Zce)=true)
  (l15:Lk K Zce "words" "Kind.words" Zis .none oc15 od15 kV15 dc15 pm15 an15 cd15 ct15 sl15)
  (c15:Ci K cd15 "Kind.words")
  (k15:Ki K Zce)
  (a16:Ns K "kind_of" Zey)
  (l16:Lk K Zey "kind_of" "kind_of" Zpc .none oc16 od16 kV16 dc16 pm16 an16 cd16 ct16 sl16)
  (c16:Ci K cd16 "kind_of")
  (k16:Ki K Zey)
  (a17:Fi K Zf8 "__init__" Zbc)
  (i17:PySem.W.isFn K (.ref Zbc)=true)
  (l17:Lk K Zbc "__init__" "Hand.__init__" Zfu .none oc17 od17 kV17 dc17 pm17 an17 cd17 ct17 sl17)
  (c17:Ci K cd17 "Hand.__init__")
  (k17:Ki K Zbc)
  (a18:Fi K Zas "__init__" Zaw)
  (i18:PySem.W.isFn K (.ref Zaw)=true)
  (l18:Lk K Zaw "__init__" "Sweeper.__init__" Zep .none oc18 od18 kV18 dc18 pm18 an18 cd18 ct18 sl18)
  (c18:Ci K cd18 "Sweeper.__init__")
  (k18:Ki K Zaw)
  (a19:Fi K Zci "__init__" Zb7)
  (i19:PySem.W.isFn K (.ref Zb7)=true)
  (l19:Lk K Zb7 "__init__" "World.__init__" Zf9 .none oc19 od19 kV19 dc19 pm19 an19 cd19 ct19 sl19)
  (c19:Ci K cd19 "World.__init__")
  (k19:Ki K Zb7)
  (a20:Ns K "births_held" Zc8)
  (l20:Lk K Zc8 "births_held" "births_held" Zhq .none oc20 od20 kV20 dc20 pm20 an20 cd20 ct20 sl20)
  (c20:Ci K cd20 "births_held")
  (k20:Ki K Zc8)
  (a21:Ns K "births_at" Zd2)
  (l21:Lk K Zd2 "births_at" "births_at" Zk1 .none oc21 od21 kV21 dc21 pm21 an21 cd21 ct21 sl21)
  (c21:Ci K cd21 "births_at")
  (k21:Ki K Zd2)
  (a22:Ns K "looked_at" Zdg)
  (l22:Lk K Zdg "looked_at" "looked_at" Zjy .none oc22 od22 kV22 dc22 pm22 an22 cd22 ct22 sl22)
  (c22:Ci K cd22 "looked_at")
  (k22:Ki K Zdg)
  (a23:Ns K "has_sense" Zck)
  (l23:Lk K Zck "has_sense" "has_sense" Zjz .none oc23 od23 kV23 dc23 pm23 an23 cd23 ct23 sl23)
  (c23:Ci K cd23 "has_sense")
  (k23:Ki K Zck)
  (a24:Ns K "mark_of" Zex)
  (l24:Lk K Zex "mark_of" "mark_of" Zpb .none oc24 od24 kV24 dc24 pm24 an24 cd24 ct24 sl24)
  (c24:Ci K cd24 "mark_of")
  (k24:Ki K Zex)
  (a25:Ns K "told_cells" Zcn)
  (l25:Lk K Zcn "told_cells" "told_cells" Zim .none oc25 od25 kV25 dc25 pm25 an25 cd25 ct25 sl25)
  (c25:Ci K cd25 "told_cells")
  (k25:Ki K Zcn)
  (a26:Ns K "told_cell" Zdf)
  (l26:Lk K Zdf "told_cell" "told_cell" Zjx .none oc26 od26 kV26 dc26 pm26 an26 cd26 ct26 sl26)
  (c26:Ci K cd26 "told_cell")
  (k26:Ki K Zdf)
  (a27:Ns K "note" Zmk)
  (l27:Lk K Zmk "note" "note" ZFk .none oc27 od27 kV27 dc27 pm27 an27 cd27 ct27 sl27)
  (c27:Ci K cd27 "note")
  (k27:Ki K Zmk)
  (a28:Ns K "note_all" Zdc)
  (l28:Lk K Zdc "note_all" "note_all" Zms .none oc28 od28 kV28 dc28 pm28 an28 cd28 ct28 sl28)
  (c28:Ci K cd28 "note_all")
  (k28:Ki K Zdc)
  (a29:Ns K "gone" Zml)
  (l29:Lk K Zml "gone" "gone" ZFl .none oc29 od29 kV29 dc29 pm29 an29 cd29 ct29 sl29)
  (c29:Ci K cd29 "gone")
  (k29:Ki K Zml)
  (a30:Ns K "slots_of" Zbq)
  (l30:Lk K Zbq "slots_of" "slots_of" Zmr .none oc30 od30 kV30 dc30 pm30 an30 cd30 ct30 sl30)
  (c30:Ci K cd30 "slots_of")
  (k30:Ki K Zbq)
  (a31:Ns K "cell_in" Zdv)
  (l31:Lk K Zdv "cell_in" "cell_in" Zpk .none oc31 od31 kV31 dc31 pm31 an31 cd31 ct31 sl31)
  (c31:Ci K cd31 "cell_in")
  (k31:Ki K Zdv)
  (a32:Ns K "fields_in" Zd1)
  (l32:Lk K Zd1 "fields_in" "fields_in" Zk0 .none oc32 od32 kV32 dc32 pm32 an32 cd32 ct32 sl32)
  (c32:Ci K cd32 "fields_in")
  (k32:Ki K Zd1)
  (a33:Ns K "told_as_old" Zc6)
  (l33:Lk K Zc6 "told_as_old" "told_as_old" Zhn .none oc33 od33 kV33 dc33 pm33 an33 cd33 ct33 sl33)
  (c33:Ci K cd33 "told_as_old")
  (k33:Ki K Zc6)
  (a34:Ns K "told_as_new" Zc1)
  (l34:Lk K Zc1 "told_as_new" "told_as_new" Zho .none oc34 od34 kV34 dc34 pm34 an34 cd34 ct34 sl34)
  (c34:Ci K cd34 "told_as_new")
  (k34:Ki K Zc1)
  (a35:Ns K "do_make" Zcr)
  (l35:Lk K Zcr "do_make" "do_make" Zpg .none oc35 od35 kV35 dc35 pm35 an35 cd35 ct35 sl35)
  (c35:Ci K cd35 "do_make")
  (k35:Ki K Zcr)
  (a36:Ns K "do_get" Zdu)
  (l36:Lk K Zdu "do_get" "do_get" Ztl .none oc36 od36 kV36 dc36 pm36 an36 cd36 ct36 sl36)
  (c36:Ci K cd36 "do_get")
  (k36:Ki K Zdu)
  (a37:Ns K "do_put" Zdt)
  (l37:Lk K Zdt "do_put" "do_put" Ztk .none oc37 od37 kV37 dc37 pm37 an37 cd37 ct37 sl37)
  (c37:Ci K cd37 "do_put")
  (k37:Ki K Zdt)
  (a38:Ns K "do_copy" Zcu)
  (l38:Lk K Zcu "do_copy" "do_copy" Zpj .none oc38 od38 kV38 dc38 pm38 an38 cd38 ct38 sl38)
  (c38:Ci K cd38 "do_copy")
  (k38:Ki K Zcu)
  (a39:Ns K "do_drop" Zct)
  (l39:Lk K Zct "do_drop" "do_drop" Zpi .none oc39 od39 kV39 dc39 pm39 an39 cd39 ct39 sl39)
  (c39:Ci K cd39 "do_drop")
  (k39:Ki K Zct)
  (a40:Ns K "do_give" Zcs)
  (l40:Lk K Zcs "do_give" "do_give" Zph .none oc40 od40 kV40 dc40 pm40 an40 cd40 ct40 sl40)
  (c40:Ci K cd40 "do_give")
  (k40:Ki K Zcs)
  (a41:Ns K "do_write" Zc4)
  (l41:Lk K Zc4 "do_write" "do_write" Zmt .none oc41 od41 kV41 dc41 pm41 an41 cd41 ct41 sl41)
  (c41:Ci K cd41 "do_write")
  (k41:Ki K Zc4)
  (a42:Ns K "do_read" Zcp)
  (l42:Lk K Zcp "do_read" "do_read" Zpe .none oc42 od42 kV42 dc42 pm42 an42 cd42 ct42 sl42)
  (c42:Ci K cd42 "do_read")
  (k42:Ki K Zcp)
  (a43:Ns K "do_name" Zcq)
  (l43:Lk K Zcq "do_name" "do_name" Zpf .none oc43 od43 kV43 dc43 pm43 an43 cd43 ct43 sl43)
  (c43:Ci K cd43 "do_name")
  (k43:Ki K Zcq)
  (a44:Ns K "do_seek" Zco)
  (l44:Lk K Zco "do_seek" "do_seek" Zpd .none oc44 od44 kV44 dc44 pm44 an44 cd44 ct44 sl44)
  (c44:Ci K cd44 "do_seek")
  (k44:Ki K Zco)
  (a45:Ns K "place_named" Zc7)
  (l45:Lk K Zc7 "place_named" "place_named" Zhp .none oc45 od45 kV45 dc45 pm45 an45 cd45 ct45 sl45)
  (c45:Ci K cd45 "place_named")
  (k45:Ki K Zc7)
  (a46:Ns K "do" f_do)
  (l46:Lk K f_do "do" "do" s_do .none oc46 od46 kV46 dc46 pm46 an46 cd46 ct46 sl46)
  (c46:Ci K cd46 "do")
  (k46:Ki K f_do)
  (a47:Ns K "_law_mix" Zcc)
  (l47:Lk K Zcc "_law_mix" "_law_mix" Zmv .none oc47 od47 kV47 dc47 pm47 an47 cd47 ct47 sl47)
  (c47:Ci K cd47 "_law_mix")
  (k47:Ki K Zcc)
  (a48:Ns K "_law_cell_at" Zc0)
  (l48:Lk K Zc0 "_law_cell_at" "_law_cell_at" Zgt .none oc48 od48 kV48 dc48 pm48 an48 cd48 ct48 sl48)
  (c48:Ci K cd48 "_law_cell_at")
  (k48:Ki K Zc0)
  (a49:Ns K "_law_kind" Zdl)
  (l49:Lk K Zdl "_law_kind" "_law_kind" Zk6 .none oc49 od49 kV49 dc49 pm49 an49 cd49 ct49 sl49)
  (c49:Ci K cd49 "_law_kind")
  (k49:Ki K Zdl)
  (a50:Ns K "_law_room" Zdj)
  (l50:Lk K Zdj "_law_room" "_law_room" Zk4 .none oc50 od50 kV50 dc50 pm50 an50 cd50 ct50 sl50)
  (c50:Ci K cd50 "_law_room")
  (k50:Ki K Zdj)
  (a51:Ns K "_law_names" Zcy)
  (l51:Lk K Zcy "_law_names" "_law_names" Ziq .none oc51 od51 kV51 dc51 pm51 an51 cd51 ct51 sl51)
  (c51:Ci K cd51 "_law_names")
  (k51:Ki K Zcy)
  (a52:Ns K "_law_same" Zbn)
  (l52:Lk K Zbn "_law_same" "_law_same" Zi8 .none oc52 od52 kV52 dc52 pm52 an52 cd52 ct52 sl52)
  (c52:Ci K cd52 "_law_same")
  (k52:Ki K Zbn)
  (a53:Ns K "_law_store" Zcx)
  (l53:Lk K Zcx "_law_store" "_law_store" Zip .none oc53 od53 kV53 dc53 pm53 an53 cd53 ct53 sl53)
  (c53:Ci K cd53 "_law_store")
  (k53:Ki K Zcx)
  (a54:Ns K "_law_due_word" Zbo)
  (l54:Lk K Zbo "_law_due_word" "_law_due_word" Zfr .none oc54 od54 kV54 dc54 pm54 an54 cd54 ct54 sl54)
  (c54:Ci K cd54 "_law_due_word")
  (k54:Ki K Zbo)
  (a55:Ns K "_law_made_in" Zbz)
  (l55:Lk K Zbz "_law_made_in" "_law_made_in" Zgs .none oc55 od55 kV55 dc55 pm55 an55 cd55 ct55 sl55)
  (c55:Ci K cd55 "_law_made_in")
  (k55:Ki K Zbz)
  (a56:Ns K "_law_moved" Zcz)
  (l56:Lk K Zcz "_law_moved" "_law_moved" Zir .none oc56 od56 kV56 dc56 pm56 an56 cd56 ct56 sl56)
  (c56:Ci K cd56 "_law_moved")
  (k56:Ki K Zcz)
  (a57:Ns K "_law_thing" Zcw)
  (l57:Lk K Zcw "_law_thing" "_law_thing" Zio .none oc57 od57 kV57 dc57 pm57 an57 cd57 ct57 sl57)
  (c57:Ci K cd57 "_law_thing")
  (k57:Ki K Zcw)
  (a58:Ns K "_law_load" Zdk)
  (l58:Lk K Zdk "_law_load" "_law_load" Zk5 .none oc58 od58 kV58 dc58 pm58 an58 cd58 ct58 sl58)
  (c58:Ci K cd58 "_law_load")
  (k58:Ki K Zdk)
  (a59:Ns K "_law_deed" Zdm)
  (l59:Lk K Zdm "_law_deed" "_law_deed" Zk7 .none oc59 od59 kV59 dc59 pm59 an59 cd59 ct59 sl59)
  (c59:Ci K cd59 "_law_deed")
  (k59:Ki K Zdm)
  (a60:Ns K "_law_tried" Zcv)
  (l60:Lk K Zcv "_law_tried" "_law_tried" Zin .none oc60 od60 kV60 dc60 pm60 an60 cd60 ct60 sl60)
  (c60:Ci K cd60 "_law_tried")
  (k60:Ki K Zcv)
  (a61:Ns K "_law_said" Zdi)
  (l61:Lk K Zdi "_law_said" "_law_said" Zk3 .none oc61 od61 kV61 dc61 pm61 an61 cd61 ct61 sl61)
  (c61:Ci K cd61 "_law_said")
  (k61:Ki K Zdi)
  (a62:Ns K "_law_turn" Zdh)
  (l62:Lk K Zdh "_law_turn" "_law_turn" Zk2 .none oc62 od62 kV62 dc62 pm62 an62 cd62 ct62 sl62)
  (c62:Ci K cd62 "_law_turn")
  (k62:Ki K Zdh)
  (a63:Ns K "_law_stands" Zc9)
  (l63:Lk K Zc9 "_law_stands" "_law_stands" Zhr .none oc63 od63 kV63 dc63 pm63 an63 cd63 ct63 sl63)
  (c63:Ci K cd63 "_law_stands")
  (k63:Ki K Zc9)
  (a64:Ns K "law" fl)
  (l64:Lk K fl "law" "law" ZDq .none oc64 od64 kV64 dc64 pm64 an64 cd64 ct64 sl64)
  (c64:Ci K cd64 "law")
  (k64:Ki K fl)
  (nd_DEEDS:Ns K "DEEDS" dd_DEEDS)
  (lk_DEEDS:K.lookup dd_DEEDS=some ⟨.type "dict",none,.dict #[⟨hh_DEEDS0,.str "make" tk_DEEDS0,.ref Zcr⟩,⟨hh_DEEDS1,.str "get" tk_DEEDS1,.ref Zdu⟩,⟨hh_DEEDS2,.str "put" tk_DEEDS2,.ref Zdt⟩,⟨hh_DEEDS3,.str "copy" tk_DEEDS3,.ref Zcu⟩,⟨hh_DEEDS4,.str "drop" tk_DEEDS4,.ref Zct⟩,⟨hh_DEEDS5,.str "give" tk_DEEDS5,.ref Zcs⟩,⟨hh_DEEDS6,.str "write" tk_DEEDS6,.ref Zc4⟩,⟨hh_DEEDS7,.str "read" tk_DEEDS7,.ref Zcp⟩,⟨hh_DEEDS8,.str "name" tk_DEEDS8,.ref Zcq⟩,⟨hh_DEEDS9,.str "seek" tk_DEEDS9,.ref Zco⟩] ep_DEEDS,#[]⟩)
  (hx_DEEDS0:hh_DEEDS0=hashStr w "make")
  (hx_DEEDS1:hh_DEEDS1=hashStr w "get")
  (hx_DEEDS2:hh_DEEDS2=hashStr w "put")
  (hx_DEEDS3:hh_DEEDS3=hashStr w "copy")
  (hx_DEEDS4:hh_DEEDS4=hashStr w "drop")
  (hx_DEEDS5:hh_DEEDS5=hashStr w "give")
  (hx_DEEDS6:hh_DEEDS6=hashStr w "write")
  (hx_DEEDS7:hh_DEEDS7=hashStr w "read")
  (hx_DEEDS8:hh_DEEDS8=hashStr w "name")
  (hx_DEEDS9:hh_DEEDS9=hashStr w "seek")
  (pg_Cell:PySem.W.plainGet K Zax Str.empty=true)
  (hd_Cell:PySem.W.hasDictIn K Zax=true)
  (po_Cell:PySem.W.plainOver K Zax=true)
  (sa_Cell:PySem.W.findIn K (.ref Zax) "__setattr__"=some (some (.builtin "object.__setattr__")))
  (Zy4:PySem.W.makesIn K Zax=true)
  (kc_Cell:Ki K Zax)
  (Zcd:Fo K Zax "birth")
  (Zew:Fo K Zax "bulk")
  (Zev:Fo K Zax "tone")
  (Ze0:Fo K Zax "load")
  (Zcm:Fo K Zax "fields")
  (eq1_Cell:PySem.W.findIn K (.ref Zax) "__eq__"=some (some (.builtin "object.__eq__")))
  (eq2_Cell:PySem.W.mroIn K Zax (.type "object")=some true)
  (pg_Heap:PySem.W.plainGet K Zav Str.empty=true)
  (hd_Heap:PySem.W.hasDictIn K Zav=true)
  (po_Heap:PySem.W.plainOver K Zav=true)
  (sa_Heap:PySem.W.findIn K (.ref Zav) "__setattr__"=some (some (.builtin "object.__setattr__")))
  (Zy2:PySem.W.makesIn K Zav=true)
  (kc_Heap:Ki K Zav)
  (Zfg:Fo K Zav "room")
  (Zbg:Fo K Zav "cells")
  (Zdz:Fo K Zav "used")
  (Zeu:Fo K Zav "born")
  (pg_First:PySem.W.plainGet K Zed Str.empty=true)
  (hd_First:PySem.W.hasDictIn K Zed=true)
  (po_First:PySem.W.plainOver K Zed=true)
  (sa_First:PySem.W.findIn K (.ref Zed) "__setattr__"=some (some (.builtin "object.__setattr__")))
  (ZMb:PySem.W.makesIn K Zed=true)
  (kc_First:Ki K Zed)
  (oi_First:PySem.W.findIn K (.ref Zed) "__init__"=some (some (.builtin "object.__init__")))
  (pg_Each:PySem.W.plainGet K Zfo Str.empty=true)
  (hd_Each:PySem.W.hasDictIn K Zfo=true)
  (po_Each:PySem.W.plainOver K Zfo=true)
  (sa_Each:PySem.W.findIn K (.ref Zfo) "__setattr__"=some (some (.builtin "object.__setattr__")))
  (ZOw:PySem.W.makesIn K Zfo=true)
  (kc_Each:Ki K Zfo)
  (oi_Each:PySem.W.findIn K (.ref Zfo) "__init__"=some (some (.builtin "object.__init__")))
  (pg_Last:PySem.W.plainGet K Zfn Str.empty=true)
  (hd_Last:PySem.W.hasDictIn K Zfn=true)
  (po_Last:PySem.W.plainOver K Zfn=true)
  (sa_Last:PySem.W.findIn K (.ref Zfn) "__setattr__"=some (some (.builtin "object.__setattr__")))
  (ZOv:PySem.W.makesIn K Zfn=true)
  (kc_Last:Ki K Zfn)
  (oi_Last:PySem.W.findIn K (.ref Zfn) "__init__"=some (some (.builtin "object.__init__")))
  (pg_Kind:PySem.W.plainGet K Zer Str.empty=true)
  (hd_Kind:PySem.W.hasDictIn K Zer=true)
  (po_Kind:PySem.W.plainOver K Zer=true)
  (sa_Kind:PySem.W.findIn K (.ref Zer) "__setattr__"=some (some (.builtin "object.__setattr__")))
  (Zy1:PySem.W.makesIn K Zer=true)
  (kc_Kind:Ki K Zer)
  (Zgy:Fo K Zer "looking")
  (Zj0:Fo K Zer "tells")
  (pg_Hand:PySem.W.plainGet K Zf8 Str.empty=true)
  (hd_Hand:PySem.W.hasDictIn K Zf8=true)
  (po_Hand:PySem.W.plainOver K Zf8=true)
  (sa_Hand:PySem.W.findIn K (.ref Zf8) "__setattr__"=some (some (.builtin "object.__setattr__")))
  (Zy3:PySem.W.makesIn K Zf8=true)
  (kc_Hand:Ki K Zf8)
  (Zkq:Fo K Zf8 "name")
  (Zj1:Fo K Zf8 "slots")
  (pg_Sweeper:PySem.W.plainGet K Zas Str.empty=true)
  (hd_Sweeper:PySem.W.hasDictIn K Zas=true)
  (po_Sweeper:PySem.W.plainOver K Zas=true)
  (sa_Sweeper:PySem.W.findIn K (.ref Zas) "__setattr__"=some (some (.builtin "object.__setattr__")))
  (Zmz:PySem.W.makesIn K Zas=true)
  (kc_Sweeper:Ki K Zas)
  (Zg1:Fo K Zas "sense")
  (Zg2:Fo K Zas "phase")
  (Zgx:Fo K Zas "grey")
  (Zfc:Fo K Zas "looked")
  (Zgu:Fo K Zas "turn")
  (Ziz:Fo K Zas "at")
  (Zgv:Fo K Zas "stop")
  (Zg0:Fo K Zas "walks")
  (Zg3:Fo K Zas "looks")
  (Zfb:Fo K Zas "passes")
  (Zgw:Fo K Zas "loss")
  (pg_World:PySem.W.plainGet K Zci Str.empty=true)
  (hd_World:PySem.W.hasDictIn K Zci=true)
  (po_World:PySem.W.plainOver K Zci=true)
  (sa_World:PySem.W.findIn K (.ref Zci) "__setattr__"=some (some (.builtin "object.__setattr__")))
  (Zpp:PySem.W.makesIn K Zci=true)
  (kc_World:Ki K Zci)
  (Ziy:Fo K Zci "heap")
  (Zix:Fo K Zci "kind")
  (Zht:Fo K Zci "hands")
  (Zhs:Fo K Zci "names")
  (Zfz:Fo K Zci "sweeper")
  (x_EmptySlot:PySem.W.excIn K Za8 [.type "ValueError",.type "Exception",.type "BaseException",.type "object"] "ValueError.__new__"=true)
  (x_Full:PySem.W.excIn K Zb0 [.type "ValueError",.type "Exception",.type "BaseException",.type "object"] "ValueError.__new__"=true)
  (x_NoField:PySem.W.excIn K Zad [.type "ValueError",.type "Exception",.type "BaseException",.type "object"] "ValueError.__new__"=true)
  (x_NoName:PySem.W.excIn K Zai [.type "ValueError",.type "Exception",.type "BaseException",.type "object"] "ValueError.__new__"=true)
  (e_EmptySlot_EmptySlot:PySem.W.exmOne K (.ref Za8) (.ref Za8)=some true)
  (e_Full_Full:PySem.W.exmOne K (.ref Zb0) (.ref Zb0)=some true)
  (e_NoField_NoField:PySem.W.exmOne K (.ref Zad) (.ref Zad)=some true)
  (e_NoName_NoName:PySem.W.exmOne K (.ref Zai) (.ref Zai)=some true)
  (ne_Full_EmptySlot:PySem.W.exmOne K (.ref Zb0) (.ref Za8)=some false)
  (ne_Full_NoField:PySem.W.exmOne K (.ref Zb0) (.ref Zad)=some false)
  (ne_NoField_EmptySlot:PySem.W.exmOne K (.ref Zad) (.ref Za8)=some false)
  (ne_NoName_EmptySlot:PySem.W.exmOne K (.ref Zai) (.ref Za8)=some false)
  (ne_NoName_Full:PySem.W.exmOne K (.ref Zai) (.ref Zb0)=some false)
  (ne_NoName_NoField:PySem.W.exmOne K (.ref Zai) (.ref Zad)=some false)
  (Zzw:PySem.W.nsIn K mainGlobals "bool"=some none)
  (ZDe:PySem.W.nsIn K mainGlobals "int"=some none)
  (Zb1:PySem.W.nsIn K mainGlobals "isinstance"=some none)
  (Zii:PySem.W.nsIn K mainGlobals "len"=some none)
  (Zrl:PySem.W.nsIn K mainGlobals "list"=some none)
  (Zhx:PySem.W.nsIn K mainGlobals "range"=some none)
  (ZDd:PySem.W.nsIn K mainGlobals "str"=some none)
  (Znt:PySem.W.nsIn K mainGlobals "tuple"=some none)
  (gl_NEW:PySem.W.nsIn K mainGlobals "NEW"=some (some u_NEW))
  (gr_NEW:RelV (.int 2) u_NEW)
  (gl_OLD:PySem.W.nsIn K mainGlobals "OLD"=some (some u_OLD))
  (gr_OLD:RelV (.int 1) u_OLD)
  :∃ fd:FuncData,(∀ (s:Shared) (v:Value),BindsTo s fd ⟨[v],[]⟩ [("_law_script",v)])∧∀ base:Heap,K.In base→base.Ns mainGlobals mg→FnOk l.prog w K mg base (G.CXe l.prog w) 8 fa fd ["_law_script"] (ZN7 K):=by
 have e:=hfa.symm.trans (PySem.W.mg_of KI GN a64);cases e;have mo:∀ {s:Str}{v:Value},PySem.W.nsIn K mainGlobals s=some (some v)→mg s=some v:=fun h=>PySem.W.mg_of KI GN h
 let Q0:Cs:=⟨Zci,Zav,Zax,Zer,Zf8,Zas,Zed,Zfo,Zfn⟩
 have T:Txt w K mg Zax Zav Zed Zfo Zfn Zer Zf8 Zas Zci Za8 Zad Zb0 Zai Zbd Zch Zb9 Zbb Zd4 Zds Zd5 Zcf Zdw Zbt Zcg Zd6 Zd3 Zba Zce Zey Zbc Zaw Zb7 Zc8 Zd2 Zdg Zck Zex Zcn Zdf Zmk Zdc Zml Zbq Zdv Zd1 Zc6 Zc1 Zcr Zdu Zdt Zcu Zct Zcs Zc4 Zcp Zcq Zco Zc7 f_do Zcc Zc0 Zdl Zdj Zcy Zbn Zcx Zbo Zbz Zcz Zcw Zdk Zdm Zcv Zdi Zdh Zc9:={
  tab_DEEDS:=⟨dd_DEEDS,_,_,ep_DEEDS,PySem.W.mg_of KI GN nd_DEEDS,lk_DEEDS,⟨rfl,rfl,rfl⟩,rfl,hx_DEEDS0,⟨tk_DEEDS0,rfl⟩,rfl,hx_DEEDS1,⟨tk_DEEDS1,rfl⟩,rfl,hx_DEEDS2,⟨tk_DEEDS2,rfl⟩,rfl,hx_DEEDS3,⟨tk_DEEDS3,rfl⟩,rfl,hx_DEEDS4,⟨tk_DEEDS4,rfl⟩,rfl,hx_DEEDS5,⟨tk_DEEDS5,rfl⟩,rfl,hx_DEEDS6,⟨tk_DEEDS6,rfl⟩,rfl,hx_DEEDS7,⟨tk_DEEDS7,rfl⟩,rfl,hx_DEEDS8,⟨tk_DEEDS8,rfl⟩,rfl,hx_DEEDS9,⟨tk_DEEDS9,rfl⟩,rfl,trivial⟩
  Zc5:=⟨pg_Cell,hd_Cell,po_Cell,sa_Cell⟩
  ZNq:=mo a_Cell
  Zy4:=⟨Zy4,a1,i1,kc_Cell⟩
  Zcd:=Zcd
  Zew:=Zew
  Zev:=Zev
  Ze0:=Ze0
  Zcm:=Zcm
  Zz4:=⟨eq1_Cell,eq2_Cell⟩
  Zca:=⟨pg_Heap,hd_Heap,po_Heap,sa_Heap⟩
  ZNn:=mo a_Heap
  Zy2:=⟨Zy2,a4,i4,kc_Heap⟩
  Zfg:=Zfg
  Zbg:=Zbg
  Zdz:=Zdz
  Zeu:=Zeu
  ZG9:=⟨pg_First,hd_First,po_First,sa_First⟩
  ZKf:=mo a_First
  mk0_First:=⟨ZMb,oi_First,kc_First⟩
  ZLi:=⟨pg_Each,hd_Each,po_Each,sa_Each⟩
  ZNp:=mo a_Each
  mk0_Each:=⟨ZOw,oi_Each,kc_Each⟩
  ZLg:=⟨pg_Last,hd_Last,po_Last,sa_Last⟩
  ZNl:=mo a_Last
  mk0_Last:=⟨ZOv,oi_Last,kc_Last⟩
  ZF3:=⟨pg_Kind,hd_Kind,po_Kind,sa_Kind⟩
  ZNm:=mo a_Kind
  Zy1:=⟨Zy1,a14,i14,kc_Kind⟩
  Zgy:=Zgy
  Zj0:=Zj0
  ZLh:=⟨pg_Hand,hd_Hand,po_Hand,sa_Hand⟩
  ZNo:=mo a_Hand
  Zy3:=⟨Zy3,a17,i17,kc_Hand⟩
  Zkq:=Zkq
  Zj1:=Zj1
  Zws:=⟨pg_Sweeper,hd_Sweeper,po_Sweeper,sa_Sweeper⟩
  ZBg:=mo a_Sweeper
  Zmz:=⟨Zmz,a18,i18,kc_Sweeper⟩
  Zg1:=Zg1
  Zg2:=Zg2
  Zgx:=Zgx
  Zfc:=Zfc
  Zgu:=Zgu
  Ziz:=Ziz
  Zgv:=Zgv
  Zg0:=Zg0
  Zg3:=Zg3
  Zfb:=Zfb
  Zgw:=Zgw
  ZG8:=⟨pg_World,hd_World,po_World,sa_World⟩
  ZEe:=mo a_World
  Zpp:=⟨Zpp,a19,i19,kc_World⟩
  Ziy:=Ziy
  Zix:=Zix
  Zht:=Zht
  Zhs:=Zhs
  Zfz:=Zfz
  Zon:=mo a_EmptySlot
  Zui:=mo a_NoField
  ZKe:=mo a_Full
  Zy6:=mo a_NoName
  x_EmptySlot:=x_EmptySlot
  x_Full:=x_Full
  x_NoField:=x_NoField
  x_NoName:=x_NoName
  e_EmptySlot_EmptySlot:=e_EmptySlot_EmptySlot
  e_Full_Full:=e_Full_Full
  e_NoField_NoField:=e_NoField_NoField
  e_NoName_NoName:=e_NoName_NoName
  ne_Full_EmptySlot:=ne_Full_EmptySlot
  ne_Full_NoField:=ne_Full_NoField
  ne_NoField_EmptySlot:=ne_NoField_EmptySlot
  ne_NoName_EmptySlot:=ne_NoName_EmptySlot
  ne_NoName_Full:=ne_NoName_Full
  ne_NoName_NoField:=ne_NoName_NoField
  Zsz:=⟨a1,i1,k1⟩
  Zkr:=⟨a2,i2,k2⟩
  Zjs:=⟨a3,i3,k3⟩
  Zsx:=⟨a4,i4,k4⟩
  Zrs:=⟨a5,i5,k5⟩
  Zub:=⟨a6,i6,k6⟩
  Zrt:=⟨a7,i7,k7⟩
  Zpr:=⟨a8,i8,k8⟩
  Zmd:=mo a9
  Zf1:=mo a10
  Zps:=⟨a11,i11,k11⟩
  Zru:=⟨a12,i12,k12⟩
  Zrr:=⟨a13,i13,k13⟩
  Zsw:=⟨a14,i14,k14⟩
  Zpq:=⟨a15,i15,k15⟩
  ZBf:=mo a16
  Zsy:=⟨a17,i17,k17⟩
  Zoi:=⟨a18,i18,k18⟩
  Zr0:=⟨a19,i19,k19⟩
  Zpv:=mo a20
  Zok:=mo a21
  Zud:=mo a22
  Zkt:=mo a23
  ZBe:=mo a24
  Zrv:=mo a25
  Zuc:=mo a26
  ZNj:=mo a27
  Zn0:=mo a28
  ZNk:=mo a29
  Ze9:=mo a30
  Zmc:=mo a31
  Zoj:=mo a32
  Zpt:=mo a33
  Zks:=mo a34
  ZKa:=mo a35
  ZMe:=mo a36
  ZMd:=mo a37
  ZKd:=mo a38
  ZKc:=mo a39
  ZKb:=mo a40
  ZHv:=mo a41
  ZK8:=mo a42
  ZK9:=mo a43
  ZK7:=mo a44
  Zpu:=mo a45
  m_do:=mo a46
  Zd0:=mo a47
  Zek:=mo a48
  Zuh:=mo a49
  Zuf:=mo a50
  Zry:=mo a51
  Zeg:=mo a52
  Zme:=mo a53
  Zmf:=mo a54
  Znm:=mo a55
  Zrz:=mo a56
  Zrx:=mo a57
  Zug:=mo a58
  Zom:=mo a59
  Zrw:=mo a60
  Zue:=mo a61
  Zol:=mo a62
  Zku:=mo a63
  Zzw:=PySem.W.mg_none_of KI GN Zzw
  ZDe:=PySem.W.mg_none_of KI GN ZDe
  Zb1:=PySem.W.mg_none_of KI GN Zb1
  Zii:=PySem.W.mg_none_of KI GN Zii
  Zrl:=PySem.W.mg_none_of KI GN Zrl
  Zhx:=PySem.W.mg_none_of KI GN Zhx
  ZDd:=PySem.W.mg_none_of KI GN ZDd
  Znt:=PySem.W.mg_none_of KI GN Znt
  g_NEW:=⟨_,PySem.W.mg_of KI GN gl_NEW,gr_NEW⟩
  g_OLD:=⟨_,PySem.W.mg_of KI GN gl_OLD,gr_OLD⟩
 }
 have F1:=Zb4 (st:=Zfv) l1 c1 k1;have b1:=bd5 F1 "self" "birth" "many" "bulk" "tone";have F2:=Zb4 (st:=Ziv) l2 c2 k2;have b2:=bd1 F2 "self";have F3:=Zb4 (st:=Zfa) l3 c3 k3;have b3:=bd2 F3 "self" "field";have F4:=Zb4 (st:=Zft) l4 c4 k4;have b4:=bd2 F4 "self" "room";have F5:=G.ZPj (st:=Zk9) l5 c5 k5;have b5:=G.ZLl (ps:=["self","many","bulk","tone"]) (ds:=[]) l5 t5 fun us hl=>match us,hl with | [_,_,_,_],_=>⟨_,rfl,rfl⟩
 have bd5_1:=G.ZLl (ps:=["self","many","bulk","tone"]) (ds:=[dv5_1]) l5 t5 fun us hl=>match us,hl with | [_,_,_],_=>⟨_,rfl,rfl⟩
 have bd5_2:=G.ZLl (ps:=["self","many","bulk","tone"]) (ds:=[dv5_0,dv5_1]) l5 t5 fun us hl=>match us,hl with | [_,_],_=>⟨_,rfl,rfl⟩
 have F6:=Zb4 (st:=Zmw) l6 c6 k6;have b6:=bd2 F6 "self" "cell";have F7:=Zb4 (st:=Zka) l7 c7 k7;have b7:=bd1 F7 "self";have F8:=Zb4 (st:=Zit) l8 c8 k8;have b8:=bd1 F8 "self";have F9:=Zb4 (st:=Zpl) l9 c9 k9;have b9:=bd2 F9 "heap" "place";have F10:=Zb4 (st:=Zmu) l10 c10 k10;have b10:=bd2 F10 "heap" "place";have F11:=Zb4 (st:=Ziu) l11 c11 k11;have b11:=bd1 F11 "self";have F12:=Zb4 (st:=Zkb) l12 c12 k12;have b12:=bd1 F12 "self";have F13:=Zb4 (st:=Zk8) l13 c13 k13;have b13:=bd1 F13 "self";have F14:=Zb4 (st:=Zfs) l14 c14 k14;have b14:=bd3 F14 "self" "looking" "tells";have F15:=Zb4 (st:=Zis) l15 c15 k15;have b15:=bd1 F15 "self";have F16:=Zb4 (st:=Zpc) l16 c16 k16;have b16:=bd1 F16 "text";have F17:=Zb4 (st:=Zfu) l17 c17 k17;have b17:=bd3 F17 "self" "name" "many";have F18:=Zb4 (st:=Zep) l18 c18 k18;have b18:=bd1 F18 "self";have F19:=Zb4 (st:=Zf9) l19 c19 k19;have b19:=bd4 F19 "self" "room" "kind" "hands";have F20:=Zb4 (st:=Zhq) l20 c20 k20;have b20:=bd1 F20 "world";have F21:=Zb4 (st:=Zk1) l21 c21 k21;have b21:=bd2 F21 "heap" "places";have F22:=Zb4 (st:=Zjy) l22 c22 k22;have b22:=bd2 F22 "world" "hand";have F23:=Zb4 (st:=Zjz) l23 c23 k23;have b23:=bd2 F23 "world" "cell";have F24:=Zb4 (st:=Zpb) l24 c24 k24;have b24:=bd2 F24 "world" "place";have F25:=Zb4 (st:=Zim) l25 c25 k25;have b25:=bd1 F25 "world";have F26:=Zb4 (st:=Zjx) l26 c26 k26;have b26:=bd2 F26 "world" "place";have F27:=Zb4 (st:=ZFk) l27 c27 k27;have b27:=bd2 F27 "world" "place";have F28:=Zb4 (st:=Zms) l28 c28 k28;have b28:=bd2 F28 "world" "places";have F29:=Zb4 (st:=ZFl) l29 c29 k29;have b29:=bd3 F29 "world" "place" "birth";have F30:=Zb4 (st:=Zmr) l30 c30 k30;have b30:=bd2 F30 "world" "hand";have F31:=Zb4 (st:=Zpk) l31 c31 k31;have b31:=bd3 F31 "world" "hand" "slot";have F32:=Zb4 (st:=Zk0) l32 c32 k32;have b32:=bd4 F32 "world" "hand" "slot" "field";have F33:=Zb4 (st:=Zhn) l33 c33 k33;have b33:=bd2 F33 "world" "place";have F34:=Zb4 (st:=Zho) l34 c34 k34;have b34:=bd3 F34 "world" "hand" "place";have F35:=Zb4 (st:=Zpg) l35 c35 k35;have b35:=bd2 F35 "world" "deed";have F36:=Zb4 (st:=Ztl) l36 c36 k36;have b36:=bd2 F36 "world" "deed";have F37:=Zb4 (st:=Ztk) l37 c37 k37;have b37:=bd2 F37 "world" "deed";have F38:=Zb4 (st:=Zpj) l38 c38 k38;have b38:=bd2 F38 "world" "deed";have F39:=Zb4 (st:=Zpi) l39 c39 k39;have b39:=bd2 F39 "world" "deed";have F40:=Zb4 (st:=Zph) l40 c40 k40;have b40:=bd2 F40 "world" "deed";have F41:=Zb4 (st:=Zmt) l41 c41 k41;have b41:=bd2 F41 "world" "deed";have F42:=Zb4 (st:=Zpe) l42 c42 k42;have b42:=bd2 F42 "world" "deed";have F43:=Zb4 (st:=Zpf) l43 c43 k43;have b43:=bd2 F43 "world" "deed";have F44:=Zb4 (st:=Zpd) l44 c44 k44;have b44:=bd2 F44 "world" "deed";have F45:=Zb4 (st:=Zhp) l45 c45 k45;have b45:=bd2 F45 "world" "word";have F46:=Zb4 (st:=s_do) l46 c46 k46;have b46:=bd2 F46 "world" "deed";have F47:=Zb4 (st:=Zmv) l47 c47 k47;have b47:=bd2 F47 "_law_cell" "_law_factor";have F48:=Zb4 (st:=Zgt) l48 c48 k48;have b48:=bd2 F48 "_law_script" "_law_k";have F49:=Zb4 (st:=Zk6) l49 c49 k49;have b49:=bd1 F49 "_law_cell";have F50:=Zb4 (st:=Zk4) l50 c50 k50;have b50:=bd1 F50 "_law_cell";have F51:=Zb4 (st:=Ziq) l51 c51 k51;have b51:=bd2 F51 "_law_cell" "_law_many";have F52:=Zb4 (st:=Zi8) l52 c52 k52;have b52:=bd2 F52 "_law_found" "_law_due";have F53:=Zb4 (st:=Zip) l53 c53 k53;have b53:=bd2 F53 "_law_room_here" "_law_slots";have F54:=Zb4 (st:=Zfr) l54 c54 k54;have b54:=bd2 F54 "_law_store_here" "_law_deed_here";have F55:=Zb4 (st:=Zgs) l55 c55 k55;have b55:=bd2 F55 "_law_store_here" "_law_deed_here"
 have F56:=Zb4 (st:=Zir) l56 c56 k56;have b56:=bd2 F56 "_law_store_here" "_law_deed_here";have F57:=Zb4 (st:=Zio) l57 c57 k57;have b57:=bd2 F57 "_law_store_here" "_law_deed_here";have F58:=Zb4 (st:=Zk5) l58 c58 k58;have b58:=bd1 F58 "_law_cell";have F59:=Zb4 (st:=Zk7) l59 c59 k59;have b59:=bd3 F59 "_law_cell" "_law_slots" "_law_words";have F60:=Zb4 (st:=Zin) l60 c60 k60;have b60:=bd2 F60 "_law_world" "_law_deed_here";have F61:=Zb4 (st:=Zk3) l61 c61 k61;have b61:=bd1 F61 "_law_word";have F62:=Zb4 (st:=Zk2) l62 c62 k62;have b62:=bd3 F62 "_law_world" "_law_store_here" "_law_deed_here";have F63:=Zb4 (st:=Zhr) l63 c63 k63;have b63:=bd2 F63 "_law_world" "_law_store_here";have F64:=Zb4 (st:=ZDq) l64 c64 k64;refine ⟨PySem.W.fnOf "law" "law" (Zfi ZDq) (Zeh ZDq) (Zaa ZDq) .none kV64 dc64 pm64 an64 cd64 ct64,fun s v=>.of_eq rfl,fun base _ _=>?_⟩;have G1:=hh (Zsv l.prog base Q0 T F1 ) b1 k1;have G2:=hh (Zy0 l.prog base Q0 T F2 ) b2 k2;have G3:=hh (Zqz l.prog base Q0 T F3 ) b3 k3;have G4:=hh (Zst l.prog base Q0 T F4 ) b4 k4;have G6:=hh (ZE8 l.prog base Q0 T F6 ) b6 k6;have G7:=hh (ZBb l.prog base Q0 T F7 ) b7 k7;have G8:=hh (Zxy l.prog base Q0 T F8 ) b8 k8;have G9:=hh (ZHp l.prog base Q0 T F9 ) b9 k9;have G11:=hh (Zxz l.prog base Q0 T F11 ) b11 k11;have G12:=hh (ZBc l.prog base Q0 T F12 ) b12 k12;have G13:=hh (ZB9 l.prog base Q0 T F13 ) b13 k13;have G14:=hh (Zss l.prog base Q0 T F14 ) b14 k14;have G17:=hh (Zsu l.prog base Q0 T F17 ) b17 k17;have G18:=hh (Zoh l.prog base Q0 T F18 ) b18 k18;have G22:=hh (ZAz l.prog base Q0 T F22 ) b22 k22;have G23:=hh (ZB0 l.prog base Q0 T F23 ) b23 k23;have G30:=hh (ZE3 l.prog base Q0 T F30 ) b30 k30;have G33:=hh (Zvr l.prog base Q0 T F33 ) b33 k33;have G47:=hh (ZE7 l.prog base Q0 T F47 ) b47 k47;have G48:=hh (Zu7 l.prog base Q0 T F48 ) b48 k48;have G53:=hh (Zxt l.prog base Q0 T F53 ) b53 k53;have G54:=hh (Zsr l.prog base Q0 T F54 ) b54 k54;have G55:=hh (Zu6 l.prog base Q0 T F55 ) b55 k55;have G56:=hh (Zxw l.prog base Q0 T F56 ) b56 k56;have G61:=hh (ZB4 l.prog base Q0 T F61 ) b61 k61;have G10:=hh (ZE6 l.prog base Q0 T F10 G9) b10 k10;have G15:=hh (Zxx l.prog base Q0 T F15 G12 G11 G13) b15 k15;have G24:=hh (ZHf l.prog base Q0 T F24 G23) b24 k24;have G27:=hh (ZOq l.prog base Q0 T F27 G9 G23) b27 k27;have G29:=hh (ZOr l.prog base Q0 T F29 G9 G23) b29 k29;have G31:=hh (ZHo l.prog base Q0 T F31 G9 G30) b31 k31;have G34:=hh (Zvs l.prog base Q0 T F34 G22) b34 k34;have G49:=hh (ZB7 l.prog base Q0 T F49 G47) b49 k49;have G50:=hh (ZB5 l.prog base Q0 T F50 G47) b50 k50;have G51:=hh (Zxv l.prog base Q0 T F51 G47) b51 k51;have G57:=hh (Zxs l.prog base Q0 T F57 G55 G56) b57 k57;have G58:=hh (ZB6 l.prog base Q0 T F58 G47) b58 k58;have G5:=hh (ZBa l.prog base Q0 T F5 G1 G2 G7 G6) b5 k5;have G16:=hh (ZHg l.prog base Q0 T F16 G14 G15) b16 k16;have G19:=hh (Zqy l.prog base Q0 T F19 G17 G4 G18) b19 k19;have G21:=hh (ZB2 l.prog base Q0 T F21 G10) b21 k21;have G28:=hh (ZE4 l.prog base Q0 T F28 G27) b28 k28;have G32:=hh (ZB1 l.prog base Q0 T F32 G3 G31) b32 k32;have G38:=hh (ZHn l.prog base Q0 T F38 G10 G30) b38 k38;have G39:=hh (ZHm l.prog base Q0 T F39 G10 G30) b39 k39;have G41:=hh (ZE5 l.prog base Q0 T F41 G31) b41 k41;have G42:=hh (ZHi l.prog base Q0 T F42 G31) b42 k42;have G43:=hh (ZHj l.prog base Q0 T F43 G31 G30) b43 k43;have G45:=hh (Zvt l.prog base Q0 T F45 G29) b45 k45;have G59:=hh (ZB8 l.prog base Q0 T F59 G58 G47) b59 k59;have G20:=hh (Zvu l.prog base Q0 T F20 G21) b20 k20
 have G26:=hh (ZAy l.prog base Q0 T F26 G21 G24) b26 k26;have G35:=hh (ZHk l.prog base Q0 T F35 G5 G10 G30) b35 k35;have G36:=hh (ZK2 l.prog base Q0 T F36 G10 G32 G30) b36 k36;have G37:=hh (ZK1 l.prog base Q0 T F37 G10 G32 G28 G30 G34 G33) b37 k37;have G40:=hh (ZHl l.prog base Q0 T F40 G10 G28 G30 G34) b40 k40;have G44:=hh (ZHh l.prog base Q0 T F44 G10 G28 G45 G30) b44 k44;have R52_0:=hh (Zxu l.prog base Q0 T F52 (hh (G.ZMw (k:=0) fun _ _ _ _ ⟨_,_,_,z⟩=>z) b52 k52) ) b52 k52;have R52_1:=hh (Zmb l.prog base Q0 (d:=0) (lv:=1) T (by decide) F52 R52_0 ) b52 k52;have R52_2:=hh (Zmb l.prog base Q0 (d:=1) (lv:=2) T (by decide) F52 R52_1 ) b52 k52;have R52_3:=hh (Zmb l.prog base Q0 (d:=2) (lv:=3) T (by decide) F52 R52_2 ) b52 k52;have G52:=R52_3;have G25:=hh (Zxq l.prog base Q0 T F25 G8 G26) b25 k25;have G46:=hh (ZS3 l.prog base Q0 T F46 G38 G39 G36 G40 G35 G43 G37 G42 G44 G41) b46 k46;have G60:=hh (Zxr l.prog base Q0 T F60 G46) b60 k60;have G63:=hh (Zvv l.prog base Q0 T F63 G52 G20 G25) b63 k63;have G62:=hh (ZB3 l.prog base Q0 T F62 G54 G61 G52 G57 G60) b62 k62;exact ZQj _ _ Q0 T F64 G19 G48 G59 G49 G47 G51 G50 G52 G63 G53 G62 G16
theorem walk {l:PySem.W.OpenLaw}{q:Program}{loose:List Str}{XP:(Str→Option Value)→Heap→Prop}{YP:World→Heap→Prop}{d:DefRec}{K:Params→PySem.W.Frag} (hn:l.most=some 63) (hdf:d.params.defaults=[])
  (hY:∀ (w:World) (h:Heap),YP w h→(K w.params).In h)
  (F:∀ (w:World) (mg:Str→Option Value) (fa:Addr) (h:Heap),(K w.params).In h→h.Ns mainGlobals mg→mg d.name=some (.ref fa)→
   ∃ fd:FuncData,(∀ (s:Shared) (u:Value),BindsTo s fd ⟨[u],[]⟩ [("_law_script",u)])∧∀ base:Heap,(K w.params).In base→base.Ns mainGlobals mg→FnOk l.prog w (K w.params) mg base (G.CXe l.prog w) 8 fa fd ["_law_script"] (ZN7 (K w.params))):
  PySem.W.WalkO q loose XP YP l.row.toRowW d [] (fun f vs=>PySem.call f vs):=
 G.ZLq (n:=63) (k:=8) (x:="_law_script") (CX:=fun w=>G.CXe l.prog w) (sp:=fun w=>ZN7 (K w.params)) hn (by decide) hdf ⟨rfl,by decide,by decide⟩ hY F (fun _ _ a ns hl _ hS hb=>⟨a,rfl,ns,hS,hl,hb,fun _=>rfl⟩) fun _ _ _ _ _ z=>by
  obtain ⟨_,_,_,_,_,_,_,_,_,_,_,_,z⟩:=z;exact z
end K23
def PySem.W.Fast.tw3948557512610690432:Nat:=0
def PySem.W.Fast.tw6570968560204345722:Nat:=0
def PySem.W.Fast.tw2558399865312573441:Nat:=0
def PySem.W.Fast.tw12029638667665302892:Nat:=0
def PySem.W.Fast.tw10102522573989466634:Nat:=0
def PySem.W.Fast.tw797316422980003574:Nat:=0
def PySem.W.Fast.tw3748387000714652733:Nat:=0
def PySem.W.Fast.tw10843171322634220711:Nat:=0
def PySem.W.Fast.tw17338441245339378889:Nat:=0
def PySem.W.Fast.tw9794986122362140267:Nat:=0
def PySem.W.Fast.tw12057970092370658380:Nat:=0
def PySem.W.Fast.tw13023978368238088452:Nat:=0
def PySem.W.Fast.tw7089792605459362869:Nat:=0
def PySem.W.Fast.tw18103985307053788107:Nat:=0
def PySem.W.Fast.tw5321782613888488680:Nat:=0
def PySem.W.Fast.tw4094190133936105007:Nat:=0
def PySem.W.Fast.tw14026969002381470624:Nat:=0
def PySem.W.Fast.tw4976607241871910247:Nat:=0
def PySem.W.Fast.tw4256015314070277288:Nat:=0
def PySem.W.Fast.tw5315432132235590374:Nat:=0
def PySem.W.Fast.tw14238873626673725887:Nat:=0
def PySem.W.Fast.tw13249416363599380204:Nat:=0
def PySem.W.Fast.tw3223731211540255417:Nat:=0
def PySem.W.Fast.tw11044565732860623929:Nat:=0
def PySem.W.Fast.tw2388116225480971883:Nat:=0
def PySem.W.Fast.tw7975757139660875059:Nat:=0
def PySem.W.Fast.tw8878674524320171463:Nat:=0
def PySem.W.Fast.tw15062348394002097841:Nat:=0
def PySem.W.Fast.tw16365644749478852298:Nat:=0
def PySem.W.Fast.tw13761867461461473499:Nat:=0
def PySem.W.Fast.tw16154295699063749881:Nat:=0
def PySem.W.Fast.tw7980767046140061088:Nat:=0
def PySem.W.Fast.tw4210824046648453462:Nat:=0
def PySem.W.Fast.tw9305596830641183523:Nat:=0
def PySem.W.Fast.tw17579478058872690819:Nat:=0
def PySem.W.Fast.tw14741757193261716135:Nat:=0
def PySem.W.Fast.tw5141099001385260168:Nat:=0
def PySem.W.Fast.tw10788873978974637649:Nat:=0
def PySem.W.Fast.tw4491455584380689633:Nat:=0
def PySem.W.Fast.tw5005649233289320278:Nat:=0
def PySem.W.Fast.tw4092457548417717580:Nat:=0
def PySem.W.Fast.tw14773527855255202559:Nat:=0
def PySem.W.Fast.tw1310000757614314400:Nat:=0
def PySem.W.Fast.tw9683146502542808586:Nat:=0
def PySem.W.Fast.tw9692443584886381687:Nat:=0
def PySem.W.Fast.tw2907041865223311574:Nat:=0
def PySem.W.Fast.tw8747109922426538999:Nat:=0
def PySem.W.Fast.tw16946593526508230210:Nat:=0
def PySem.W.Fast.tw7830101823498709037:Nat:=0
def PySem.W.Fast.tw5666153103850728934:Nat:=0
open PySem PySem.W PyProof.Rows
set_option maxRecDepth 100000 in
set_option maxHeartbeats 0 in
theorem PySem.Challenge.cw_greywalk_k23_deeds_in_an_endless_store_holds : PySem.Challenge.rw_greywalk_k23_deeds_in_an_endless_store.Holds := by
 w_on;o_law;k_head;(case hw=>w_witness2)
 k_fill
 refine K23.walk (l:=PySem.Challenge.rw_greywalk_k23_deeds_in_an_endless_store) rfl rfl (fun w h Y=>PySem.W.kIn_of Y) ?F
 case F=>
  intro w mg fa h KX G hmg
  refine' K23.ZRt KX G hmg ?h0 ?h1 ?h2 ?h3 ?h4 ?h5 ?h6 ?h7 ?h8 ?h9 ?h10 ?h11 ?h12 ?h13 ?h14 ?h15 ?h16 ?h17 ?h18 ?h19 ?h20 ?h21 ?h22 ?h23 ?h24 ?h25 ?h26 ?h27 ?h28 ?h29 ?h30 ?h31 ?h32 ?h33 ?h34 ?h35 ?h36 ?h37 ?h38 ?h39 ?h40 ?h41 ?h42 ?h43 ?h44 ?h45 ?h46 ?h47 ?h48 ?h49 ?h50 ?h51 ?h52 ?h53 ?h54 ?h55 ?h56 ?h57 ?h58 ?h59 ?h60 ?h61 ?h62 ?h63 ?h64 ?h65 ?h66 ?h67 ?h68 ?h69 ?h70 ?h71 ?h72 ?h73 ?h74 ?h75 ?h76 ?h77 ?h78 ?h79 ?h80 ?h81 ?h82 ?h83 ?h84 ?h85 ?h86 ?h87 ?h88 ?h89 ?h90 ?h91 ?h92 ?h93 ?h94 ?h95 ?h96 ?h97 ?h98 ?h99 ?h100 ?h101 ?h102 ?h103 ?h104 ?h105 ?h106 ?h107 ?h108 ?h109 ?h110 ?h111 ?h112 ?h113 ?h114 ?h115 ?h116 ?h117 ?h118 ?h119 ?h120 ?h121 ?h122 ?h123 ?h124 ?h125 ?h126 ?h127 ?h128 ?h129 ?h130 ?h131 ?h132 ?h133 ?h134 ?h135 ?h136 ?h137 ?h138 ?h139 ?h140 ?h141 ?h142 ?h143 ?h144 ?h145 ?h146 ?h147 ?h148 ?h149 ?h150 ?h151 ?h152 ?h153 ?h154 ?h155 ?h156 ?h157 ?h158 ?h159 ?h160 ?h161 ?h162 ?h163 ?h164 ?h165 ?h166 ?h167 ?h168 ?h169 ?h170 ?h171 ?h172 ?h173 ?h174 ?h175 ?h176 ?h177 ?h178 ?h179 ?h180 ?h181 ?h182 ?h183 ?h184 ?h185 ?h186 ?h187 ?h188 ?h189 ?h190 ?h191 ?h192 ?h193 ?h194 ?h195 ?h196 ?h197 ?h198 ?h199 ?h200 ?h201 ?h202 ?h203 ?h204 ?h205 ?h206 ?h207 ?h208 ?h209 ?h210 ?h211 ?h212 ?h213 ?h214 ?h215 ?h216 ?h217 ?h218 ?h219 ?h220 ?h221 ?h222 ?h223 ?h224 ?h225 ?h226 ?h227 ?h228 ?h229 ?h230 ?h231 ?h232 ?h233 ?h234 ?h235 ?h236 ?h237 ?h238 ?h239 ?h240 ?h241 ?h242 ?h243 ?h244 ?h245 ?h246 ?h247 ?h248 ?h249 ?h250 ?h251 ?h252 ?h253 ?h254 ?h255 ?h256 ?h257 ?h258 ?h259 ?h260 ?h261 ?h262 ?h263 ?h264 ?h265 ?h266 ?h267 ?h268 ?h269 ?h270 ?h271 ?h272 ?h273 ?h274 ?h275 ?h276 ?h277 ?h278 ?h279 ?h280 ?h281 ?h282 ?h283 ?h284 ?h285 ?h286 ?h287 ?h288 ?h289 ?h290 ?h291 ?h292 ?h293 ?h294 ?h295 ?h296 ?h297 ?h298 ?h299 ?h300 ?h301 ?h302 ?h303 ?h304 ?h305 ?h306 ?h307 ?h308 ?h309 ?h310 ?h311 ?h312 ?h313 ?h314 ?h315 ?h316 ?h317 ?h318 ?h319 ?h320 ?h321 ?h322 ?h323 ?h324 ?h325 ?h326 ?h327 ?h328 ?h329 ?h330 ?h331 ?h332 ?h333 ?h334 ?h335 ?h336 ?h337 ?h338 ?h339 ?h340 ?h341 ?h342 ?h343 ?h344 ?h345 ?h346 ?h347 ?h348 ?h349 ?h350 ?h351 ?h352 ?h353 ?h354 ?h355 ?h356 ?h357 ?h358 ?h359 ?h360 ?h361 ?h362 ?h363 ?h364 ?h365 ?h366 ?h367 ?h368 ?h369 ?h370 ?h371 ?h372 ?h373 ?h374 ?h375 ?h376 ?h377 ?h378 ?h379 ?h380 ?h381 ?h382 ?h383 ?h384 ?h385 ?h386 ?h387 ?h388 ?h389 ?h390 ?h391 ?h392 ?h393 ?h394 ?h395 ?h396 ?h397 ?h398 ?h399 ?h400 ?h401 ?h402 ?h403 ?h404 ?h405 ?h406 ?h407 ?h408 ?h409 ?h410 ?h411 ?h412 ?h413
  case h0 | h1 | h2 | h3 | h4 | h5 | h6 | h7 | h8 | h9 | h10 | h11 | h12 | h13 | h14 | h15 | h16 | h17 | h18 | h19 | h20 | h21 | h22 | h23 | h24 | h25 | h26 | h27 | h28 | h29 | h30 | h31 | h32 | h33 | h34 | h35 | h36=>(show _=_;k_is)
  case h37 | h38=>first | exact rfl | exact ⟨_,rfl⟩
  case h39 | h40 | h41 | h42 | h43 | h44 | h45 | h46 | h47 | h48 | h49 | h50 | h51 | h52 | h53 | h54 | h55 | h56 | h57 | h58 | h59 | h60 | h61 | h62 | h63 | h64 | h65 | h66 | h67 | h68 | h69 | h70 | h71 | h72 | h73 | h74 | h75 | h76 | h77 | h78 | h79 | h80 | h81 | h82 | h83 | h84 | h85 | h86 | h87 | h88 | h89 | h90 | h91 | h92 | h93 | h94 | h95 | h96 | h97 | h98 | h99 | h100 | h101 | h102 | h103 | h104 | h105 | h106 | h107 | h108 | h109 | h110 | h111 | h112 | h113 | h114 | h115 | h116 | h117 | h118 | h119 | h120 | h121 | h122 | h123 | h124 | h125 | h126 | h127 | h128 | h129 | h130 | h131 | h132 | h133 | h134 | h135 | h136 | h137 | h138 | h139 | h140 | h141 | h142 | h143 | h144 | h145 | h146 | h147 | h148 | h149 | h150 | h151 | h152 | h153 | h154 | h155 | h156 | h157 | h158 | h159 | h160 | h161 | h162 | h163 | h164 | h165 | h166 | h167 | h168 | h169 | h170 | h171 | h172 | h173 | h174 | h175 | h176 | h177 | h178 | h179 | h180 | h181 | h182 | h183 | h184 | h185 | h186 | h187 | h188 | h189 | h190 | h191 | h192 | h193 | h194 | h195 | h196 | h197 | h198 | h199 | h200 | h201 | h202 | h203 | h204 | h205 | h206 | h207 | h208 | h209 | h210 | h211 | h212 | h213 | h214 | h215 | h216 | h217 | h218 | h219 | h220 | h221 | h222 | h223 | h224 | h225 | h226 | h227 | h228 | h229 | h230 | h231 | h232 | h233 | h234 | h235 | h236 | h237 | h238 | h239 | h240 | h241 | h242 | h243 | h244 | h245 | h246 | h247 | h248 | h249 | h250 | h251 | h252 | h253 | h254 | h255 | h256 | h257 | h258 | h259 | h260 | h261 | h262 | h263 | h264 | h265 | h266 | h267 | h268 | h269 | h270 | h271 | h272 | h273 | h274 | h275 | h276 | h277 | h278 | h279 | h280 | h281 | h282 | h283 | h284 | h285 | h286 | h287 | h288 | h289=>(show _=_;k_is)
  case h290 | h291 | h292 | h293 | h294 | h295 | h296 | h297 | h298 | h299=>exact rfl
  case h300 | h301 | h302 | h303 | h304 | h305 | h306 | h307 | h308 | h309 | h310 | h311 | h312 | h313 | h314 | h315 | h316 | h317 | h318 | h319 | h320 | h321 | h322 | h323 | h324 | h325 | h326 | h327 | h328 | h329 | h330 | h331 | h332 | h333 | h334 | h335 | h336 | h337 | h338 | h339 | h340 | h341 | h342 | h343 | h344 | h345 | h346 | h347 | h348 | h349 | h350 | h351 | h352 | h353 | h354 | h355 | h356 | h357 | h358 | h359 | h360 | h361 | h362 | h363 | h364 | h365 | h366 | h367 | h368 | h369 | h370 | h371 | h372 | h373 | h374 | h375 | h376 | h377 | h378 | h379 | h380 | h381 | h382 | h383 | h384 | h385 | h386 | h387=>(show _=_;k_is)
  case h388 | h389 | h390 | h391=>k_exc
  case h392 | h393 | h394 | h395 | h396 | h397 | h398 | h399 | h400 | h401=>kts_exm
  case h402 | h403 | h404 | h405 | h406 | h407 | h408 | h409 | h410=>(show _=_;k_is)
  case h411=>first | exact rfl | exact ⟨_,rfl⟩
  case h412=>(show _=_;k_is)
  case h413=>first | exact rfl | exact ⟨_,rfl⟩
#print axioms PySem.Challenge.cw_greywalk_k23_deeds_in_an_endless_store_holds
