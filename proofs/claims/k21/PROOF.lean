import PyProof.Rows.All
import Wide.All
import OpenK.AllK
import Wide.FinOn
import Lean
import PyProof.EqAt
import PyProof.EqKinds
import PyProof.TupleCall
import KE.KDictList
import KE.KEqDict
import PySem.Challenge.RW_greywalk_k21_deeds_refused
set_option Elab.async false
set_option linter.all false
set_option maxRecDepth 100000
namespace L2
open PySem PySem.Spec PyProof.Rows
abbrev Key:=Sum Int Str
def keyIs:Key→Value→Bool
 | .inl k,v=>Value.isInt k v
 | .inr x,v=>Value.isStrOf x v
def keyH (w:World):Key→Int
 | .inl k=>hashInt k
 | .inr x=>hashStr w x
theorem keyIs_shape:∀ {k:Key}{v:Value},keyIs k v=true→(∃ i t,k=Sum.inl i∧v=Value.int i t)∨(∃ x t,k=Sum.inr x∧v=Value.str x t)
 | .inl i,v,h=>by
  obtain ⟨t,e⟩:=Value.isInt_shape (k:=i) (v:=v) h
  exact .inl ⟨i,t,rfl,e⟩
 | .inr x,v,h=>by
  obtain ⟨t,e⟩:=Value.isStrOf_shape (x:=x) (v:=v) h
  exact .inr ⟨x,t,rfl,e⟩
theorem keyIs_int (i:Int) (t:Tok):keyIs (.inl i) (.int i t)=true:=by simp [keyIs,Value.isInt]
theorem keyIs_str (x:Str) (t:Tok):keyIs (.inr x) (.str x t)=true:=by simp [keyIs,Value.isStrOf]
theorem key_ll (a b:Int):decide ((Sum.inl a:Key)=Sum.inl b)=(a == b):=by
 by_cases e:a=b
 ·subst e;simp
 ·have h:¬ (Sum.inl a:Key)=Sum.inl b:=fun q=>e (Sum.inl.inj q)
  rw [decide_eq_false h]
  exact (beq_eq_false_iff_ne.mpr e).symm
theorem key_rr (a b:Str):decide ((Sum.inr a:Key)=Sum.inr b)=decide (a=b):=by
 by_cases e:a=b
 ·subst e;simp
 ·have h:¬ (Sum.inr a:Key)=Sum.inr b:=fun q=>e (Sum.inr.inj q)
  rw [decide_eq_false h,decide_eq_false e]
theorem key_lr (a:Int) (b:Str):decide ((Sum.inl a:Key)=Sum.inr b)=false:=decide_eq_false (fun q=>nomatch q)
theorem key_rl (a:Str) (b:Int):decide ((Sum.inr a:Key)=Sum.inl b)=false:=decide_eq_false (fun q=>nomatch q)
def mixKind (prog:Program) (w:World):PySem.KeyKind prog w Key where
  is:=keyIs
  hash:=keyH w
  inj:=fun v a b ha hb=>by
    rcases keyIs_shape ha with ⟨i,t,rfl,rfl⟩ | ⟨x,t,rfl,rfl⟩
    · rcases keyIs_shape hb with ⟨j,u,rfl,e⟩ | ⟨y,u,rfl,e⟩
      · injection e with e1 _;rw [e1]
      · exact nomatch e
    · rcases keyIs_shape hb with ⟨j,u,rfl,e⟩ | ⟨y,u,rfl,e⟩
      · exact nomatch e
      · injection e with e1 _;rw [e1]
  byValue:=fun k v h=>by
    rcases keyIs_shape h with ⟨i,t,rfl,rfl⟩ | ⟨x,t,rfl,rfl⟩<;>rfl
  pyHash:=fun hv h=>by
    rcases keyIs_shape hv with ⟨i,t,rfl,rfl⟩ | ⟨x,t,rfl,rfl⟩
    · exact wpAny_pyHash_int h
    · exact wpAny_pyHash_str h
  eqBool:=fun hu hv h=>by
    rcases keyIs_shape hu with ⟨i,t,rfl,rfl⟩ | ⟨x,t,rfl,rfl⟩
    · rcases keyIs_shape hv with ⟨j,u,rfl,rfl⟩ | ⟨y,u,rfl,rfl⟩
      · rw [key_ll] at h;exact wpAny_eqBool_int h
      · rw [key_lr] at h;exact SeqAt.EqAt.int_str i t y u _ _ _ _ h
    · rcases keyIs_shape hv with ⟨j,u,rfl,rfl⟩ | ⟨y,u,rfl,rfl⟩
      · rw [key_rl] at h;exact SeqAt.EqAt.str_int x t j u _ _ _ _ h
      · rw [key_rr] at h;exact wpAny_eqBool_str h
  «strs»:=fun k x t v h=>by
    rcases keyIs_shape h with ⟨i,u,rfl,e⟩ | ⟨y,u,rfl,e⟩
    · exact nomatch e
    · injection e with e1 _
      subst e1
      cases v<;>rfl
theorem mixKind_int (prog:Program) (w:World) (i:Int) (t:Tok):(mixKind prog w).is (.inl i) (.int i t)=true:=keyIs_int i t
theorem mixKind_str (prog:Program) (w:World) (x:Str) (t:Tok):(mixKind prog w).is (.inr x) (.str x t)=true:=keyIs_str x t
end L2
namespace L2
open PySem PySem.Spec PyProof.Rows
inductive V where
 | non | bl (b:Bool) | int (i:Int) | str (x:Str) | byt (b:Array UInt8) | flt (b:UInt64) | ref (a:Addr) | ty (n:String)
 deriving DecidableEq
def RelV:V→Value→Prop
 | .non,u=>u=Value.none
 | .bl b,u=>u=Value.bool b
 | .int i,u=>∃ t,u=Value.int i t
 | .str x,u=>∃ t,u=Value.str x t
 | .byt b,u=>∃ t,u=Value.bytes b t
 | .flt b,u=>∃ t,u=Value.float b t
 | .ref a,u=>u=Value.ref a
 | .ty n,u=>u=Value.type n
abbrev Vals:List V→List Value→Prop:=Paired RelV
theorem Vals.length {xs:List V}{us:List Value} (r:Vals xs us):xs.length=us.length:=Paired.length r
theorem Vals.get:∀ {xs:List V}{us:List Value}{i:Nat}{x:V},Vals xs us→xs[i]? =some x→∃ u,us[i]? =some u∧RelV x u
 | _,_,_,_,.nil,e=>by simp at e
 | _,_,0,_,.cons r _,e=>by simp at e;subst e;exact ⟨_,rfl,r⟩
 | _,_,i + 1,x,.cons _ t,e=>by
  obtain ⟨u,h1,h2⟩:=Vals.get (i:=i) (x:=x) t (by simpa using e)
  exact ⟨u,by simpa using h1,h2⟩
theorem Vals.set {x:V}{u:Value} (r:RelV x u):∀ {xs:List V}{us:List Value} (i:Nat),Vals xs us→Vals (xs.set i x) (us.set i u)
 | _,_,_,.nil=>.nil
 | _,_,0,.cons _ t=>.cons r t
 | _,_,i + 1,.cons q t=>.cons q (Vals.set r i t)
theorem Vals.append:∀ {xs ys:List V}{us ws:List Value},Vals xs us→Vals ys ws→Vals (xs ++ ys) (us ++ ws)
 | _,_,_,_,.nil,s=>s
 | _,_,_,_,.cons r t,s=>.cons r (Vals.append t s)
theorem Vals.take:∀ {xs:List V}{us:List Value} (n:Nat),Vals xs us→Vals (xs.take n) (us.take n)
 | _,_,0,_=>.nil
 | _,_,_ + 1,.nil=>.nil
 | _,_,n + 1,.cons r t=>.cons r (Vals.take n t)
theorem Vals.drop:∀ {xs:List V}{us:List Value} (n:Nat),Vals xs us→Vals (xs.drop n) (us.drop n)
 | _,_,0,r=>r
 | _,_,_ + 1,.nil=>.nil
 | _,_,n + 1,.cons _ t=>Vals.drop n t
def RelO:Option V→Option Value→Prop
 | some v,some u=>RelV v u
 | none,none=>True
 | _,_=>False
def KV {κ:Type}:List (κ×V)→List (κ×Value)→Prop:=Paired fun (p:κ×V) (q:κ×Value)=>p.1=q.1∧RelV p.2 q.2
def kV:Key→V
 | .inl i=>.int i
 | .inr x=>.str x
inductive HO where
  | lst (xs:List V)
  | tup (xs:List V)
  | dK (kvs:List (Key×V)) | dT (kvs:List (List Key×V))
  | set (S:Int→Bool) (n:Nat)
  | ins (C dx:Addr) (fs:List (Str×V))
  | own (x:Addr)
  | xd (fs:List (Str×V))
  | met (f x:Addr)
  | rng (lo hi:Int)
  | frz (o:Obj) (u:HO)
  | tbl (ps:Array Value)
  | ext (φ:Heap→Prop)
abbrev Hp:=Addr→Option HO
def upd (H:Hp) (a:Addr) (o:HO):Hp:=fun b=>if b=a then some o else H b
theorem upd_same {H:Hp}{a:Addr}{o:HO}:upd H a o a=some o:=by unfold upd;rw [if_pos rfl]
theorem upd_ne {H:Hp}{a b:Addr}{o:HO} (h:b≠a):upd H a o b=H b:=by unfold upd;rw [if_neg h]
theorem upd_upd {H:Hp}{a:Addr}{o u:HO}:upd (upd H a o) a u=upd H a u:=by
 funext b;unfold upd;split<;>rfl
theorem ne_of {H:Hp}{a b:Addr}{o u:HO} (h:H a=some o) (h':H b=some u) (d:o≠u):a≠b:=by
 intro e;subst e;rw [h] at h';exact d (Option.some.inj h')
theorem ne_of_none {H:Hp}{a b:Addr}{o:HO} (h:H a=some o) (h':H b=none):a≠b:=by
 intro e;subst e;rw [h] at h';cases h'
section
variable (P:Program) (w:World)
def ObjOk (H:Hp) (h:Heap) (a:Addr):HO→Prop
 | .lst xs=>xs.length≤sizeLine∧∃ (its:List Value) (n:Nat),Vals xs its∧h.get? a=some { cls:=.type "list",data:=.seq its.toArray n }
 | .tup xs=>xs.length≤sizeLine∧∃ its:List Value,Vals xs its∧IsTup h a its.toArray
 | .dK kvs=>kvs.length≤sizeLine∧(a == sysModules)=false∧∃ vs,KV kvs vs∧h.DictOf (mixKind P w) a vs
 | .dT kvs=>kvs.length≤sizeLine∧(a == sysModules)=false∧∃ xs:List (List Key×Addr×Value),
   Paired (fun (p:List Key×V) (q:List Key×Addr×Value)=>p.1=q.1∧H q.2.1=some (.tup (p.1.map kV))∧RelV p.2 q.2.2) kvs xs∧
   ∃ o es ep,h.get? a=some o∧o.ExactDict∧o.data=.dict es ep∧es.toList=xs.map (entryOfKey (tupleKind (mixKind P w)))∧(xs.map (·.1)).Nodup
 | .set S n=>h.SetOf (intKind P w) a S n
 | .ins C dx fs=>H dx=some (.own a)∧fs.length≤1000∧dx≠a∧h.get? a=some (PySem.W.instObj C dx)∧
   ∃ mA,h.Ns1 dx mA∧(∀ f,RelO (fs.lookup f) (mA f))∧PySem.Within mA (fs.map (·.1))
 | .own _=>∃ o,h.get? a=some o
 | .xd fs=>∃ mA,h.Ns1 a mA∧∀ f,RelO (fs.lookup f) (mA f)
 | .rng lo hi=>∃ t u v,h.get? a=some { cls:=.type "range",data:=.fields #[.int lo t,.int hi u,.int 1 v] }
 | .frz o u=>h.get? a=some o∧ObjOk H h a u
 | .tbl ps=>h.get? a=some { cls:=.none,data:=.fields ps }
 | .met f x=>h.get? a=some (PySem.W.methodObj (.ref f) (.ref x))
 | .ext φ=>φ h∧(∃ o,h.get? a=some o)∧∀ h1 h2:Heap,φ h1→(∀ o,h1.get? a=some o→h2.get? a=some o)→φ h2
def HOk (H:Hp) (h:Heap):Prop:=∀ a o,H a=some o→ObjOk P w H h a o
end
section
variable {P:Program}{w:World}{H H':Hp}{h h':Heap}{a:Addr}{o:HO}
theorem ObjOk.lt (x:ObjOk P w H h a o):a < h.objs.size:=by
 cases o with
 | lst xs=>obtain ⟨_,_,_,_,e⟩:=x;exact Heap.lt_size e
 | tup xs=>obtain ⟨_,_,_,p⟩:=x;exact p.lt
 | dK kvs=>obtain ⟨_,_,_,_,o,_,_,e,_⟩:=x;exact Heap.lt_size e
 | dT kvs=>obtain ⟨_,_,_,_,o,_,_,e,_⟩:=x;exact Heap.lt_size e
 | set S n=>obtain ⟨o,_,_,_,e,_⟩:=x;exact Heap.lt_size e
 | ins C dx fs=>obtain ⟨_,_,_,e,_⟩:=x;exact Heap.lt_size e
 | own y=>obtain ⟨_,e⟩:=x;exact Heap.lt_size e
 | xd fs=>obtain ⟨_,⟨_,_,_,e,_⟩,_⟩:=x;exact Heap.lt_size e
 | rng lo hi=>obtain ⟨_,_,_,e⟩:=x;exact Heap.lt_size e
 | frz ob u=>obtain ⟨e,_⟩:=x;exact Heap.lt_size e
 | tbl ps=>exact Heap.lt_size (show h.get? a=some _ from x)
 | met f y=>exact Heap.lt_size (show h.get? a=some _ from x)
 | ext φ=>obtain ⟨_,⟨_,e⟩,_⟩:=x;exact Heap.lt_size e
theorem Paired.mapP {α β:Type}{F G:α→β→Prop}:∀ {l₁:List α}{l₂:List β},Paired F l₁ l₂→(∀ a b,F a b→G a b)→Paired G l₁ l₂
 | _,_,.nil,_=>.nil
 | _,_,.cons r t,f=>.cons (f _ _ r) (Paired.mapP t f)
theorem ObjOk.stay (x:ObjOk P w H h a o) (k:∀ b u,(b=a∨H b=some (.own a))→h.get? b=some u→h'.get? b=some u)
  (ho:∀ b,H b=some (.own a)→H' b=some (.own a)) (ht:∀ b xs,H b=some (.tup xs)→H' b=some (.tup xs)):ObjOk P w H' h' a o:=by
 induction o with
 | lst xs=>obtain ⟨z,its,n,r,e⟩:=x;exact ⟨z,its,n,r,k _ _ (.inl rfl) e⟩
 | tup xs=>obtain ⟨z,its,r,ob,e,c⟩:=x;exact ⟨z,its,r,ob,k _ _ (.inl rfl) e,c⟩
 | dK kvs=>obtain ⟨z,y,vs,r,ob,es,ep,e,c⟩:=x;exact ⟨z,y,vs,r,ob,es,ep,k _ _ (.inl rfl) e,c⟩
 | dT kvs=>
  obtain ⟨z,y,xs,r,ob,es,ep,e,c⟩:=x
  exact ⟨z,y,xs,Paired.mapP r fun p q z=>⟨z.1,ht _ _ z.2.1,z.2.2⟩,ob,es,ep,k _ _ (.inl rfl) e,c⟩
 | set S n=>obtain ⟨ob,es,ep,t,e,c⟩:=x;exact ⟨ob,es,ep,t,k _ _ (.inl rfl) e,c⟩
 | ins C dx fs=>
  obtain ⟨d,z,ne,e,mA,⟨od,es,ep,e2,c⟩,r⟩:=x
  exact ⟨ho _ d,z,ne,k _ _ (.inl rfl) e,mA,⟨od,es,ep,k _ _ (.inr d) e2,c⟩,r⟩
 | own y=>obtain ⟨ob,e⟩:=x;exact ⟨ob,k _ _ (.inl rfl) e⟩
 | xd fs=>obtain ⟨mA,⟨od,es,ep,e,c⟩,r⟩:=x;exact ⟨mA,⟨od,es,ep,k _ _ (.inl rfl) e,c⟩,r⟩
 | rng lo hi=>obtain ⟨t,u,v,e⟩:=x;exact ⟨t,u,v,k _ _ (.inl rfl) e⟩
 | frz ob u ih=>obtain ⟨e,q⟩:=x;exact ⟨k _ _ (.inl rfl) e,ih q⟩
 | tbl ps=>
  have e:h.get? a=some { cls:=.none,data:=.fields ps }:=x
  show h'.get? a=some { cls:=.none,data:=.fields ps }
  exact k a _ (.inl rfl) e
 | met f y=>
  have e:h.get? a=some (PySem.W.methodObj (.ref f) (.ref y)):=x
  show h'.get? a=some (PySem.W.methodObj (.ref f) (.ref y))
  exact k a _ (.inl rfl) e
 | ext φ=>obtain ⟨p,⟨o,e⟩,st⟩:=x;exact ⟨st _ _ p fun o q=>k _ _ (.inl rfl) q,⟨o,k _ _ (.inl rfl) e⟩,st⟩
theorem HOk.lt (x:HOk P w H h) (e:H a=some o):a < h.objs.size:=(x a o e).lt
theorem HOk.fresh (x:HOk P w H h) (e:h.objs.size≤a):H a=none:=by
 cases q:H a with
 | none=>rfl
 | some u=>exact absurd (Nat.lt_of_lt_of_le (x.lt q) e) (Nat.lt_irrefl _)
theorem HOk.kept (x:HOk P w H h) (k:∀ b u,h.get? b=some u→h'.get? b=some u):HOk P w H h':=fun a o e=>
 (x a o e).stay (fun b u _ q=>k b u q) (fun _ q=>q) fun _ _ q=>q
theorem HOk.laid (x:HOk P w H h) (k:∀ b u,h.get? b=some u→h'.get? b=some u) (hp:h.objs.size≤a) (new:ObjOk P w (upd H a o) h' a o):HOk P w (upd H a o) h':=fun b u e=>by
 have hn:=x.fresh hp
 by_cases hb:b=a
 ·subst hb;rw [upd_same] at e;cases e;exact new
 ·rw [upd_ne hb] at e
  exact (x b u e).stay (fun c v _ q=>k c v q) (fun c q=>by rw [upd_ne (ne_of_none q hn)];exact q) fun c xs q=>by rw [upd_ne (ne_of_none q hn)];exact q
end
def Rd (H:Hp) (a:Addr) (u:HO):Prop:=H a=some u∨∃ o,H a=some (.frz o u)
theorem Rd.ok {P:Program}{w:World}{H:Hp}{h:Heap}{a:Addr}{u:HO} (r:Rd H a u) (x:HOk P w H h):ObjOk P w H h a u:=by
 rcases r with r | ⟨o,r⟩
 ·exact x a u r
 ·obtain ⟨_,q⟩:=x a _ r
  exact q
def Mut:Option HO→Prop
 | some (.lst _)=>True
 | some (.dK _)=>True
 | some (.dT _)=>True
 | some (.set _ _)=>True
 | some (.ins _ _ _)=>True
 | some (.ext _)=>True
 | _=>False
section
variable {P:Program}{w:World}{H:Hp}{h h':Heap}{x e:Addr}{o':HO}
theorem HOk.write (ok:HOk P w H h) (mu:Mut (H x)) (he:e=x∨H e=some (.own x)) (k:∀ b u,b≠e→h.get? b=some u→h'.get? b=some u) (heo:∃ u,h'.get? e=some u)
  (new:ObjOk P w (upd H x o') h' x o'):HOk P w (upd H x o') h':=fun b u q=>by
 have nown:∀ c y,H c=some (.own y)→c≠x:=fun c y r z=>by subst z;rw [r] at mu;exact mu
 have ntup:∀ c xs,H c=some (.tup xs)→c≠x:=fun c xs r z=>by subst z;rw [r] at mu;exact mu
 by_cases hb:b=x
 ·subst hb;rw [upd_same] at q;cases q;exact new
 ·rw [upd_ne hb] at q
  by_cases hbe:b=e
  ·have q':H b=some (.own x):=by
    rcases he with z | z
    ·exact absurd (hbe.trans z) hb
    ·rw [hbe];exact z
   rw [q] at q';cases q'
   obtain ⟨v,hv⟩:=heo
   exact ⟨v,by rw [hbe];exact hv⟩
  ·refine (ok b u q).stay (fun c v hc r=>k c v ?_ r) (fun c r=>by rw [upd_ne (nown c b r)];exact r) fun c xs r=>by rw [upd_ne (ntup c xs r)];exact r
   rcases hc with rfl | hc
   ·exact hbe
   ·rintro rfl
    rcases he with z | z
    ·exact nown c b hc z
    ·rw [hc] at z;cases z;exact hb rfl
end
structure Un (fs ex:List Addr) (H H':Hp) (h h':Heap):Prop where
 keep:∀ b o,h.get? b=some o→H b=none→b∉fs→b∉ex→h'.get? b=some o
 slot:∀ b o,h.get? b=some o→H b=none→b∈fs→b∉ex→∃ sl,h'.get? b=some { o with slots:=sl }
 free:∀ b o,h.get? b=some o→H b=none→b∉ex→H' b=none
 there:∀ b o,h.get? b=some o→b∉ex→∃ o',h'.get? b=some o'
 tups:∀ b xs,H b=some (.tup xs)→H' b=some (.tup xs)
 frzs:∀ b o u,H b=some (.frz o u)→H' b=some (.frz o u)
 tbls:∀ b ps,H b=some (.tbl ps)→∃ more,H' b=some (.tbl (ps ++ more))
section
variable {fs fs' ex ex':List Addr}{H H1 H2:Hp}{h h1 h2 h':Heap}{a x e:Addr}{o:HO}
theorem Un.any (u:Un fs ex H H1 h h1) {b:Addr}{ob:Obj} (q:h.get? b=some ob) (n:H b=none) (hx:b∉ex):∃ sl,h1.get? b=some { ob with slots:=sl }:=by
 by_cases hb:b∈fs
 ·exact u.slot b ob q n hb hx
 ·exact ⟨ob.slots,u.keep b ob q n hb hx⟩
theorem Un.kept (k:∀ b u,h.get? b=some u→h'.get? b=some u):Un fs ex H H h h':=
 ⟨fun b ob q _ _ _=>k b ob q,fun b ob q _ _ _=>⟨ob.slots,k b ob q⟩,fun _ _ _ n _=>n,fun b ob q _=>⟨ob,k b ob q⟩,fun _ _ q=>q,fun _ _ _ q=>q,fun _ ps q=>⟨#[],by rw [q];simp⟩⟩
theorem Un.refl:Un fs ex H H h h:=Un.kept fun _ _ q=>q
theorem Un.laid (k:∀ b u,h.get? b=some u→h'.get? b=some u) (hp:h.objs.size≤a) (hn:H a=none):Un fs ex H (upd H a o) h h' where
 keep:=fun b u q _ _ _=>k b u q
 slot:=fun b u q _ _ _=>⟨u.slots,k b u q⟩
 free:=fun b u q n _=>by rw [upd_ne (Nat.ne_of_lt (Nat.lt_of_lt_of_le (Heap.lt_size q) hp))];exact n
 there:=fun b u q _=>⟨u,k b u q⟩
 tups:=fun b xs q=>by rw [upd_ne (ne_of_none q hn)];exact q
 frzs:=fun b u xs q=>by rw [upd_ne (ne_of_none q hn)];exact q
 tbls:=fun b ps q=>⟨#[],by rw [upd_ne (ne_of_none q hn),q];simp⟩
theorem Un.write (mu:Mut (H x)) (he:e=x∨H e=some (.own x)) (k:∀ b u,b≠e→h.get? b=some u→h'.get? b=some u) (heo:∃ u,h'.get? e=some u):Un fs ex H (upd H x o) h h':=by
 have hx:∀ b,H b=none→b≠x:=fun b n z=>by subst z;rw [n] at mu;exact mu
 have hb:∀ b,H b=none→b≠e:=fun b n z=>by
  subst z
  rcases he with r | r
  ·exact hx b n r
  ·rw [n] at r;cases r
 have hm:∀ b u,H b=some u→¬ Mut (some u)→b≠x:=fun b u q nm z=>by subst z;rw [q] at mu;exact nm mu
 refine ⟨fun b u q n _ _=>k b u (hb b n) q,fun b u q n _ _=>⟨u.slots,k b u (hb b n) q⟩,fun b u q n _=>by rw [upd_ne (hx b n)];exact n,fun b u q _=>?_,
  fun b xs q=>by rw [upd_ne (hm b _ q fun z=>z)];exact q,fun b u xs q=>by rw [upd_ne (hm b _ q fun z=>z)];exact q,fun b ps q=>⟨#[],by rw [upd_ne (hm b _ q fun z=>z),q];simp⟩⟩
 by_cases hbe:b=e
 ·subst hbe;exact heo
 ·exact ⟨u,k b u hbe q⟩
end
def trk (h:Heap) (H:Hp):List Addr:=(List.range h.objs.size).filter fun a=>(H a).isSome
def hidT (h:Heap) (H:Hp):Heap:=PySem.W.hideAll h (trk h H)
theorem hidT_size (h:Heap) (H:Hp):(hidT h H).objs.size=h.objs.size:=PySem.W.hideAll_size _ _
theorem hidT_get {h:Heap}{H:Hp}{b:Addr}{o:Obj} (e:h.get? b=some o) (n:H b=none):(hidT h H).get? b=some o:=
 PySem.W.hideAll_get _ e fun hm=>by
  have q:(H b).isSome=true:=(List.mem_filter.mp hm).2
  rw [n] at q;simp at q
theorem of_hidT {h:Heap}{H:Hp}{b:Addr}{o:Obj} (e:(hidT h H).get? b=some o):h.get? b=some o∧H b=none:=by
 have e':h.get? b=some o:=PySem.W.of_hideAll (trk h H) e
 refine ⟨e',?_⟩
 cases q:H b with
 | none=>rfl
 | some x=>
  have hm:b∈trk h H:=List.mem_filter.mpr ⟨List.mem_range.mpr (Heap.lt_size e'),by simp [q]⟩
  have z:(hidT h H).get? b=none:=PySem.W.hideAll_none (trk h H) hm
  rw [z] at e;cases e
def allNews (g h:Heap) (L:Addr):List (Addr×Obj):=(List.range h.objs.size).filterMap fun a=>if a=L∨(g.get? a).isSome=true then none else (h.get? a).map fun o=>(a,o)
def rest (g h:Heap) (L d:Addr):List (Addr×Obj):=(allNews g h L).filter fun p=>decide (p.1≠d)
end L2
namespace L2
open PySem PySem.Spec PyProof.Rows
structure Mod (K:PySem.W.Frag) (mg:Str→Option Value) (base:Heap):Prop where
 kin:K.In base
 glob:base.Ns mainGlobals mg
 blt:∃ mb,base.Ns builtinsNs mb∧∀ x:Str,x≠"__name__"→mb x=bootBuiltins x
 nolimit:base.NoLimit
structure Cx where
 prog:Program
 w:World
 K:PySem.W.Frag
 mg:Str→Option Value
 base:Heap
 A:Around
 N:List Str
 s₀:Shared
 H₀:Hp
 env:Env
 outer:List Env
 stack:List Env
 ex:List Addr
 fn:Str→Bool
 calm:Bool
 pn:List (Addr×Obj)
 xe:Value→Shared→Prop
def frs (l:List Env):List Addr:=l.filterMap (·.frame)
abbrev Cx.fs (X:Cx):List Addr:=frs X.outer
def Vis (sc:Scope) (x:Str):Prop:=sc.names.lookup x=some .local∨sc.names.lookup x=some .cell∨sc.names.lookup x=some .free
def Loc (sc:Scope) (x:Str):Prop:=sc.names.lookup x=some .local∨sc.names.lookup x=some .cell
def Look (env:Env) (h:Heap) (m:Str→Option Value) (x:Str) (u:Value):Prop:=
 (env.kindOf x=some .local∧m x=some u)∨((env.kindOf x=some .cell∨env.kindOf x=some .free)∧∃ c,env.cells.lookup x=some c∧h.IsCell c (some u))
structure Cx.Ok (X:Cx):Prop where
 mod:Mod X.K X.mg X.base
 kind:X.env.scope.kind=.function
 glob:X.env.globals=mainGlobals
 blt:X.env.builtins=builtinsNs
 above:X.s₀.heap.objs.size≤X.env.locals
 inj:∀ x y c,X.env.cells.lookup x=some c→X.env.cells.lookup y=some c→x=y
 has:∀ x,(X.env.kindOf x=some .cell∨X.env.kindOf x=some .free)→∃ c,X.env.cells.lookup x=some c
 cab:∀ x c,X.fn x=true→X.env.cells.lookup x=some c→X.s₀.heap.objs.size≤c
 hd:X.calm=true→X.A.handled=none
 frames:X.A.frames=some X.stack
 stk:X.stack=X.outer∨(X.stack=X.env :: X.outer∧X.env.frame=some X.env.locals)
 exf:∀ b∈X.ex,b≠X.env.locals∧∀ x c,X.env.cells.lookup x=some c→c≠b
 bs:∀ b o,X.base.get? b=some o→X.s₀.heap.get? b=some o∧X.H₀ b=none
 bsz:X.base.objs.size≤X.s₀.heap.objs.size
 noex:∀ b o,X.base.get? b=some o→b∉X.ex
 exfs:∀ b∈X.ex,b∉X.fs
 funs:X.s₀.heap.FunFrames X.base X.outer
 frf:∀ b∈X.fs,X.H₀ b=none
structure Inv (X:Cx) (pins:List (Addr×Obj)) (σ:List (Option V)) (H:Hp) (s:Shared):Prop where
 ok:X.Ok
 os:s.os=X.s₀.os
 bare:AllBare s.gens
 base:Un X.fs X.ex X.H₀ H X.s₀.heap s.heap
 loc:∃ m,s.heap.Ns X.env.locals m∧∀ (i:Nat) (x:Str) (v:V),X.N[i]? =some x→σ[i]? =some (some v)→Vis X.env.scope x→∃ u,RelV v u∧Look X.env s.heap m x u
 cell:∀ x c,X.env.cells.lookup x=some c→∃ v,s.heap.IsCell c v
 free:H X.env.locals=none
 freeC:∀ x c,X.env.cells.lookup x=some c→H c=none
 pin:∀ p∈X.pn ++ pins,s.heap.get? p.1=some p.2∧H p.1=none∧p.1≠X.env.locals∧p.1∉X.fs∧∀ v,p.2.data≠.cell v
 hok:HOk X.prog X.w H s.heap
 len:σ.length=X.N.length
section
variable {X:Cx}{pins:List (Addr×Obj)}{σ:List (Option V)}{H H':Hp}{s:Shared}{h':Heap}
theorem Cx.Ok.nofr (ok:X.Ok) {b:Addr}{o:Obj} (e:X.base.get? b=some o):b∉X.fs:=fun hb=>by
 have:=(ok.funs.mem hb).1
 rw [e] at this;cases this
theorem Inv.bs (I:Inv X pins σ H s):∀ b o,X.base.get? b=some o→s.heap.get? b=some o∧H b=none:=fun b o e=>
 ⟨I.base.keep b o (I.ok.bs b o e).1 (I.ok.bs b o e).2 (I.ok.nofr e) (I.ok.noex b o e),I.base.free b o (I.ok.bs b o e).1 (I.ok.bs b o e).2 (I.ok.noex b o e)⟩
theorem Inv.bk (I:Inv X pins σ H s):∀ b o,X.base.get? b=some o→s.heap.get? b=some o:=fun b o e=>(I.bs b o e).1
theorem Inv.mod (I:Inv X pins σ H s):Mod X.K X.mg X.base:=I.ok.mod
theorem Inv.kIn (I:Inv X pins σ H s):X.K.In s.heap:=I.ok.mod.kin.keeps I.bk
theorem Inv.lt (I:Inv X pins σ H s):X.env.locals < s.heap.objs.size:=let ⟨_,hn,_⟩:=I.loc;hn.lt
theorem Inv.sz (I:Inv X pins σ H s):X.s₀.heap.objs.size≤s.heap.objs.size:=Nat.le_trans I.ok.above (Nat.le_of_lt I.lt)
theorem Inv.nofs (I:Inv X pins σ H s) {a:Addr} (h:s.heap.objs.size≤a):a∉X.fs:=fun hb=>by
 obtain ⟨_,o,ho,_⟩:=I.ok.funs.mem hb
 exact absurd (Nat.lt_of_lt_of_le (Heap.lt_size ho) (Nat.le_trans I.sz h)) (Nat.lt_irrefl _)
theorem Inv.cne (I:Inv X pins σ H s):∀ x c,X.env.cells.lookup x=some c→c≠X.env.locals:=fun x c e z=>by
 obtain ⟨v,o,ho,hd⟩:=I.cell x c e
 obtain ⟨m,⟨o',es,ep,ho',hd',_⟩,_⟩:=I.loc
 rw [z,ho'] at ho;cases ho;rw [hd'] at hd;cases hd
theorem Inv.funs (I:Inv X pins σ H s):s.heap.FunFrames X.base X.outer:=by
 have all:∀ (l:List Env),(∀ b∈frs l,b∈X.fs)→X.s₀.heap.FunFrames X.base l→s.heap.FunFrames X.base l:=by
  intro l
  induction l with
  | nil=>intro _ _;trivial
  | cons env r ih=>
   intro hs hl
   obtain ⟨hk,⟨L,o,hf,hn,ho,hd⟩,hr⟩:=hl
   have hL:L∈X.fs:=hs L (by unfold frs;rw [List.filterMap_cons,hf];exact List.mem_cons_self)
   obtain ⟨sl,e⟩:=I.base.slot L o ho (I.ok.frf L hL) hL fun z=>I.ok.exfs L z hL
   exact ⟨hk,⟨L,_,hf,hn,e,hd⟩,ih (fun b hb=>hs b (by unfold frs;rw [List.filterMap_cons,hf];exact List.mem_cons_of_mem _ hb)) hr⟩
 exact all X.outer (fun _ hb=>hb) I.ok.funs
theorem Inv.stack (I:Inv X pins σ H s):s.heap.FunFrames X.base X.stack:=by
 rcases I.ok.stk with e | ⟨e,hf⟩
 ·rw [e];exact I.funs
 ·rw [e]
  obtain ⟨m,hn,_⟩:=I.loc
  refine .cons (by rw [I.ok.kind];decide) hf hn ?_ I.funs
  exact Heap.get?_none_of_le (Nat.le_trans I.ok.bsz I.ok.above)
theorem Inv.stkSub (I:Inv X pins σ H s):∀ b∈frs X.stack,b∈X.env.locals :: X.fs:=fun b hb=>by
 rcases I.ok.stk with e | ⟨e,hf⟩
 ·rw [e] at hb;exact List.mem_cons_of_mem _ hb
 ·rw [e] at hb
  unfold frs at hb
  rw [List.filterMap_cons,hf] at hb
  exact hb
theorem Inv.stkFree (I:Inv X pins σ H s):∀ b∈frs X.stack,H b=none:=fun b hb=>by
 rcases List.mem_cons.mp (I.stkSub b hb) with e | hb
 ·rw [e];exact I.free
 ·obtain ⟨_,o,ho,_⟩:=I.ok.funs.mem hb
  exact I.base.free b o ho (I.ok.frf b hb) fun z=>I.ok.exfs b z hb
theorem Inv.step {g':Array GenState}{t':Nat}{d':Drawn}{ch:List Addr} (I:Inv X pins σ H s)
  (hch:∀ b∈ch,(b∈X.ex∨X.s₀.heap.objs.size≤b)∧b≠X.env.locals∧(∀ x c,X.env.cells.lookup x=some c→c≠b)∧∀ p∈X.pn ++ pins,p.1≠b)
  (keep:∀ b o,b≠X.env.locals→b∉X.fs→b∉ch→s.heap.get? b=some o→H b=none→h'.get? b=some o)
  (slot:∀ b o,b≠X.env.locals→b∈X.fs→b∉ch→s.heap.get? b=some o→H b=none→∃ sl,h'.get? b=some { o with slots:=sl }) (free:∀ b o,b∉ch→s.heap.get? b=some o→H b=none→H' b=none)
  (there:∀ b o,b∉ch→s.heap.get? b=some o→∃ o',h'.get? b=some o')
  (tups:∀ b xs,H b=some (.tup xs)→H' b=some (.tup xs)) (frzs:∀ b o u,H b=some (.frz o u)→H' b=some (.frz o u)) (tbls:∀ b ps,H b=some (.tbl ps)→∃ more,H' b=some (.tbl (ps ++ more)))
  (ns:∀ m,s.heap.Ns X.env.locals m→h'.Ns X.env.locals m) (hok:HOk X.prog X.w H' h') (hg:AllBare g'):
  Inv X pins σ H' { s with heap:=h',gens:=g',drawn:=d',toks:=t' }:=by
 have neL:∀ b o,X.s₀.heap.get? b=some o→b≠X.env.locals:=fun b o e=>Nat.ne_of_lt (Nat.lt_of_lt_of_le (Heap.lt_size e) I.ok.above)
 have neC:∀ b o,X.s₀.heap.get? b=some o→b∉X.ex→b∉ch:=fun b o e hx hb=>by
  rcases (hch b hb).1 with z | z
  ·exact hx z
  ·exact absurd (Nat.lt_of_lt_of_le (Heap.lt_size e) z) (Nat.lt_irrefl _)
 have cellK:∀ x c,X.env.cells.lookup x=some c→∀ v,s.heap.IsCell c v→h'.IsCell c v:=fun x c e v ⟨o,ho,hd⟩=>by
  have nch:c∉ch:=fun z=>(hch c z).2.2.1 x c e rfl
  by_cases hc:c∈X.fs
  ·obtain ⟨sl,q⟩:=slot c o (I.cne x c e) hc nch ho (I.freeC x c e)
   exact ⟨_,q,hd⟩
  ·exact ⟨o,keep c o (I.cne x c e) hc nch ho (I.freeC x c e),hd⟩
 refine ⟨I.ok,I.os,hg,⟨fun b o e n hb hx=>?_,fun b o e n hb hx=>?_,fun b o e n hx=>?_,fun b o e hx=>?_,fun b xs e=>tups b xs (I.base.tups b xs e),fun b o xs e=>frzs b o xs (I.base.frzs b o xs e),fun b ps e=>?_⟩,?_,fun x c e=>?_,?_,fun x c e=>?_,fun p hp=>?_,hok,I.len⟩
 ·exact keep b o (neL b o e) hb (neC b o e hx) (I.base.keep b o e n hb hx) (I.base.free b o e n hx)
 ·obtain ⟨sl,e1⟩:=I.base.slot b o e n hb hx
  obtain ⟨sl',e2⟩:=slot b _ (neL b o e) hb (neC b o e hx) e1 (I.base.free b o e n hx)
  exact ⟨sl',e2⟩
 ·obtain ⟨o',e1⟩:=I.base.there b o e hx
  exact free b o' (neC b o e hx) e1 (I.base.free b o e n hx)
 ·obtain ⟨o',e1⟩:=I.base.there b o e hx
  exact there b o' (neC b o e hx) e1
 ·obtain ⟨m1,e1⟩:=I.base.tbls b ps e
  obtain ⟨m2,e2⟩:=tbls b _ e1
  exact ⟨m1 ++ m2,by rw [e2,Array.append_assoc]⟩
 ·obtain ⟨m,hn,hl⟩:=I.loc
  refine ⟨m,ns m hn,fun i x v e1 e2 e3=>?_⟩
  obtain ⟨u,r,l⟩:=hl i x v e1 e2 e3
  refine ⟨u,r,?_⟩
  rcases l with l | ⟨k,c,e,z⟩
  ·exact .inl l
  ·exact .inr ⟨k,c,e,cellK x c e _ z⟩
 ·obtain ⟨v,z⟩:=I.cell x c e
  exact ⟨v,cellK x c e v z⟩
 ·obtain ⟨m,⟨o,_,_,ho,_⟩,_⟩:=I.loc
  exact free _ o (fun z=>(hch _ z).2.1 rfl) ho I.free
 ·obtain ⟨v,o,ho,hd⟩:=I.cell x c e
  exact free c o (fun z=>(hch c z).2.2.1 x c e rfl) ho (I.freeC x c e)
 ·obtain ⟨e,n,ne,nf,d⟩:=I.pin p hp
  have nch:p.1∉ch:=fun z=>(hch p.1 z).2.2.2 p hp rfl
  exact ⟨keep p.1 p.2 ne nf nch e n,free p.1 p.2 nch e n,ne,nf,d⟩
theorem Inv.un {t':Nat} (I:Inv X pins σ H s) (u:Un X.fs [] H H' s.heap h') (hok:HOk X.prog X.w H' h'):Inv X pins σ H' { s with heap:=h',toks:=t' }:=by
 obtain ⟨m,⟨o,es,ep,ho,r⟩,_⟩:=id I.loc
 obtain ⟨sl,hL⟩:=u.any ho I.free (by simp)
 exact I.step (g':=s.gens) (d':=s.drawn) (ch:=[]) (fun _ z=>nomatch z) (fun b o _ hb _ e n=>u.keep b o e n hb (by simp)) (fun b o _ hb _ e n=>u.slot b o e n hb (by simp)) (fun b o _ e n=>u.free b o e n (by simp)) (fun b o _ e=>u.there b o e (by simp)) u.tups u.frzs u.tbls (fun m' hm=>by
  obtain ⟨o',es',ep',ho',r'⟩:=hm
  rw [ho] at ho';cases ho'
  exact ⟨_,es',ep',hL,r'⟩) hok I.bare
theorem Inv.call {g':Array GenState}{t':Nat}{d':Drawn}{ch:List Addr} (I:Inv X pins σ H s) (u:Un (frs X.stack) ch H H' s.heap h') (hok:HOk X.prog X.w H' h') (hg:AllBare g')
  (hch:∀ b∈ch,(b∈X.ex∨X.s₀.heap.objs.size≤b)∧b≠X.env.locals∧(∀ x c,X.env.cells.lookup x=some c→c≠b)∧∀ p∈X.pn ++ pins,p.1≠b):
  Inv X pins σ H' { s with heap:=h',gens:=g',drawn:=d',toks:=t' }:=by
 obtain ⟨m,⟨o,es,ep,ho,r⟩,_⟩:=id I.loc
 obtain ⟨sl,hL⟩:=u.any ho I.free fun z=>(hch _ z).2.1 rfl
 exact I.step (ch:=ch) hch (fun b o hL hb hc e n=>u.keep b o e n (fun z=>(List.mem_cons.mp (I.stkSub b z)).elim hL hb) hc) (fun b o _ _ hc e n=>u.any e n hc) (fun b o hc e n=>u.free b o e n hc) (fun b o hc e=>u.there b o e hc) u.tups u.frzs u.tbls (fun m' hm=>by
  obtain ⟨o',es',ep',ho',r'⟩:=hm
  rw [ho] at ho';cases ho'
  exact ⟨_,es',ep',hL,r'⟩) hok hg
theorem Inv.turned {t':Nat}{it:Addr} (I:Inv X pins σ H s) (k:∀ b o,b≠it→s.heap.get? b=some o→h'.get? b=some o) (hn:H it=none) (hL:it≠X.env.locals)
  (h1:it∈X.ex∨X.s₀.heap.objs.size≤it) (h2:∀ x c,X.env.cells.lookup x=some c→c≠it) (h3:∀ p∈X.pn ++ pins,p.1≠it):Inv X pins σ H { s with heap:=h',toks:=t' }:=by
 have nit:∀ b u,H b=some u→b≠it:=fun b u e z=>by rw [z,hn] at e;cases e
 refine I.step (g':=s.gens) (d':=s.drawn) (ch:=[it]) (fun b hb=>?_) (fun b o _ _ hc e _=>k b o (fun z=>hc (by simp [z])) e) (fun b o _ _ hc e _=>⟨o.slots,k b o (fun z=>hc (by simp [z])) e⟩) (fun _ _ _ _ n=>n)
  (fun b o hc e=>⟨o,k b o (fun z=>hc (by simp [z])) e⟩) (fun _ _ e=>e) (fun _ _ _ e=>e) (fun b ps e=>⟨#[],by rw [e];simp⟩) (fun m hm=>?_) (fun b u e=>?_) I.bare
 ·have e:b=it:=by simpa using hb
  subst e
  exact ⟨h1,hL,h2,h3⟩
 ·obtain ⟨o,es,ep,ho,r⟩:=hm
  exact ⟨o,es,ep,k _ o (Ne.symm hL) ho,r⟩
 ·refine (I.hok b u e).stay (fun c v hc q=>k c v ?_ q) (fun _ q=>q) fun _ _ q=>q
  rcases hc with z | z
  ·rw [z];exact nit b u e
  ·exact nit c _ z
theorem Inv.tok (I:Inv X pins σ H s) (t:Nat):Inv X pins σ H { s with toks:=t }:=I.un (h':=s.heap) (t':=t) Un.refl I.hok
theorem Inv.kept {t':Nat} (I:Inv X pins σ H s) (k:∀ b u,s.heap.get? b=some u→h'.get? b=some u):Inv X pins σ H { s with heap:=h',toks:=t' }:=I.un (Un.kept k) (I.hok.kept k)
theorem Inv.laid {a:Addr}{o:HO}{t':Nat} (I:Inv X pins σ H s) (k:∀ b u,s.heap.get? b=some u→h'.get? b=some u) (hp:s.heap.objs.size≤a) (new:ObjOk X.prog X.w (upd H a o) h' a o):
  Inv X pins σ (upd H a o) { s with heap:=h',toks:=t' }:=I.un (Un.laid k hp (I.hok.fresh hp)) (I.hok.laid k hp new)
theorem Inv.write {x e:Addr}{o:HO}{t':Nat} (I:Inv X pins σ H s) (mu:Mut (H x)) (he:e=x∨H e=some (.own x)) (k:∀ b u,b≠e→s.heap.get? b=some u→h'.get? b=some u) (heo:∃ u,h'.get? e=some u)
  (new:ObjOk X.prog X.w (upd H x o) h' x o):Inv X pins σ (upd H x o) { s with heap:=h',toks:=t' }:=I.un (Un.write mu he k heo) (I.hok.write mu he k heo new)
theorem Inv.pins_of {pins':List (Addr×Obj)} (I:Inv X pins σ H s) (h:∀ p∈pins',s.heap.get? p.1=some p.2∧H p.1=none∧p.1≠X.env.locals∧p.1∉X.fs∧∀ v,p.2.data≠.cell v):Inv X pins' σ H s:=
 ⟨I.ok,I.os,I.bare,I.base,I.loc,I.cell,I.free,I.freeC,fun p hp=>(List.mem_append.mp hp).elim (fun z=>I.pin p (List.mem_append_left _ z)) (h p),I.hok,I.len⟩
theorem nodup_ix {N:List Str} (hN:N.Nodup) {i j:Nat}{x:Str} (a:N[i]? =some x) (b:N[j]? =some x):i=j:=by
 obtain ⟨h1,e1⟩:=List.getElem?_eq_some_iff.mp a
 obtain ⟨h2,e2⟩:=List.getElem?_eq_some_iff.mp b
 exact (List.getElem_inj hN).mp (e1.trans e2.symm)
theorem store_ok2 {M:Model}{A:Around}{E:Value→Shared→Prop}{i:Nat}{x:Str}{v:V}{u:Value}{Q:Unit→Shared→Prop} (I:Inv X pins σ H s) (hN:X.N.Nodup) (hi:X.N[i]? =some x) (hx:Loc X.env.scope x) (r:RelV v u)
  (h:∀ s',Inv X pins (σ.set i (some v)) H s'→(∃ a,Heap.SameBut a s.heap s'.heap∧(a=X.env.locals∨X.env.cells.lookup x=some a))→Q () s') (hf:X.fn x=true∨X.env.scope.names.lookup x=some .local:=by first | exact .inl rfl | exact .inr rfl | assumption):wpAny M A (storeName X.env x u) Q E s:=by
 obtain ⟨m,hn,hl⟩:=id I.loc
 have hcls:(X.env.scope.kind == .class || (X.env.scope.kind == .module && X.env.locals != X.env.globals))=false:=by rw [I.ok.kind];rfl
 have hiσ:i < σ.length:=by rw [I.len];exact (List.getElem?_eq_some_iff.mp hi).1
 have cne:=I.cne
 have tracked:∀ {a:Addr}{h':Heap},(∃ o,s.heap.get? a=some o∧H a=none)→Heap.SameBut a s.heap h'→HOk X.prog X.w H h':=fun {a h'} ha hs b ob e=>by
  obtain ⟨_,_,hfree⟩:=ha
  refine (I.hok b ob e).stay (fun c w' hc q=>(hs.2 c ?_).trans q) (fun _ q=>q) fun _ _ q=>q
  rintro rfl
  rcases hc with rfl | hc
  ·rw [hfree] at e;cases e
  ·rw [hfree] at hc;cases hc
 rcases hx with hk | hk
 ·refine wpAny_storeName_local hk hn (fun h' hn' hs=>?_) hcls
  obtain ⟨oL,_,_,hoL,_⟩:=id hn
  refine h _ ⟨I.ok,I.os,I.bare,⟨fun b o e n hb hx=>?_,fun b o e n hb hx=>?_,I.base.free,fun b o e hx=>?_,I.base.tups,I.base.frzs,I.base.tbls⟩,⟨_,hn',fun j y v' e1 e2 e3=>?_⟩,fun y c e=>?_,I.free,I.freeC,fun p hp=>?_,tracked ⟨oL,hoL,I.free⟩ hs,by simpa using I.len⟩ ⟨_,hs,.inl rfl⟩
  ·exact (hs.2 b (Nat.ne_of_lt (Nat.lt_of_lt_of_le (Heap.lt_size e) I.ok.above))).trans (I.base.keep b o e n hb hx)
  ·obtain ⟨sl,e1⟩:=I.base.slot b o e n hb hx
   exact ⟨sl,(hs.2 b (Nat.ne_of_lt (Nat.lt_of_lt_of_le (Heap.lt_size e) I.ok.above))).trans e1⟩
  ·obtain ⟨o',e1⟩:=I.base.there b o e hx
   exact ⟨o',(hs.2 b (Nat.ne_of_lt (Nat.lt_of_lt_of_le (Heap.lt_size e) I.ok.above))).trans e1⟩
  ·by_cases hj:j=i
   ·subst hj
    rw [hi] at e1;cases e1
    rw [List.getElem?_set_self hiσ] at e2
    cases e2
    exact ⟨u,r,.inl ⟨hk,by simp⟩⟩
   ·rw [List.getElem?_set_ne (Ne.symm hj)] at e2
    obtain ⟨u',r',q⟩:=hl j y v' e1 e2 e3
    refine ⟨u',r',?_⟩
    rcases q with ⟨k,e⟩ | ⟨k,c,e,z⟩
    ·refine .inl ⟨k,?_⟩
     have:y≠x:=fun e=>hj (nodup_ix hN e1 (e ▸ hi))
     simp [this,e]
    ·exact .inr ⟨k,c,e,z.sameBut hs (cne y c e)⟩
  ·obtain ⟨w',z⟩:=I.cell y c e
   exact ⟨w',z.sameBut hs (cne y c e)⟩
  ·obtain ⟨e,n,ne,nf,d⟩:=I.pin p hp
   exact ⟨(hs.2 p.1 ne).trans e,n,ne,nf,d⟩
 ·have hfn:X.fn x=true:=by
   rcases hf with z | z
   ·exact z
   ·rw [z] at hk;cases hk
  obtain ⟨c,hc⟩:=I.ok.has x (.inl hk)
  obtain ⟨w',z⟩:=I.cell x c hc
  refine wpAny_storeName_cell I.ok.kind hk hc z (fun h' hc' hs=>?_)
  obtain ⟨oc,hoc,hocd⟩:=id z
  refine h { s with heap:=h' } ⟨I.ok,I.os,I.bare,⟨fun b o e n hb hx=>?_,fun b o e n hb hx=>?_,I.base.free,fun b o e hx=>?_,I.base.tups,I.base.frzs,I.base.tbls⟩,⟨m,hn.sameBut hs (Ne.symm (cne x c hc)),fun j y v' e1 e2 e3=>?_⟩,fun y c' e=>?_,I.free,I.freeC,fun p hp=>?_,tracked ⟨oc,hoc,I.freeC x c hc⟩ hs,by simpa using I.len⟩ ⟨c,hs,.inr hc⟩
  ·exact (hs.2 b (Nat.ne_of_lt (Nat.lt_of_lt_of_le (Heap.lt_size e) (I.ok.cab x c hfn hc)))).trans (I.base.keep b o e n hb hx)
  ·obtain ⟨sl,e1⟩:=I.base.slot b o e n hb hx
   exact ⟨sl,(hs.2 b (Nat.ne_of_lt (Nat.lt_of_lt_of_le (Heap.lt_size e) (I.ok.cab x c hfn hc)))).trans e1⟩
  ·obtain ⟨o',e1⟩:=I.base.there b o e hx
   exact ⟨o',(hs.2 b (Nat.ne_of_lt (Nat.lt_of_lt_of_le (Heap.lt_size e) (I.ok.cab x c hfn hc)))).trans e1⟩
  ·by_cases hj:j=i
   ·subst hj
    rw [hi] at e1;cases e1
    rw [List.getElem?_set_self hiσ] at e2
    cases e2
    exact ⟨u,r,.inr ⟨.inl hk,c,hc,hc'⟩⟩
   ·rw [List.getElem?_set_ne (Ne.symm hj)] at e2
    obtain ⟨u',r',q⟩:=hl j y v' e1 e2 e3
    refine ⟨u',r',?_⟩
    rcases q with q | ⟨k,c',e,z'⟩
    ·exact .inl q
    ·refine .inr ⟨k,c',e,z'.sameBut hs ?_⟩
     rintro rfl
     exact hj (nodup_ix hN e1 (I.ok.inj _ _ _ e hc ▸ hi))
  ·by_cases hcc:c'=c
   ·subst hcc;exact ⟨_,hc'⟩
   ·obtain ⟨w2,z2⟩:=I.cell y c' e
    exact ⟨w2,z2.sameBut hs hcc⟩
  ·obtain ⟨e,n,ne,nf,d⟩:=I.pin p hp
   refine ⟨(hs.2 p.1 ?_).trans e,n,ne,nf,d⟩
   intro q
   rw [q,hoc] at e
   have q':oc=p.2:=Option.some.inj e
   exact d w' (by rw [← q'];exact hocd)
theorem store_ok {M:Model}{A:Around}{E:Value→Shared→Prop}{i:Nat}{x:Str}{v:V}{u:Value}{Q:Unit→Shared→Prop} (I:Inv X pins σ H s) (hN:X.N.Nodup) (hi:X.N[i]? =some x) (hx:Loc X.env.scope x) (r:RelV v u)
  (h:∀ s',Inv X pins (σ.set i (some v)) H s'→Q () s') (hf:X.fn x=true∨X.env.scope.names.lookup x=some .local:=by first | exact .inl rfl | exact .inr rfl | assumption):wpAny M A (storeName X.env x u) Q E s:=
 store_ok2 I hN hi hx r (fun s' I' _=>h s' I') hf
theorem Inv.call' {s':Shared}{ch:List Addr} (I:Inv X pins σ H s) (ho:s'.os=s.os) (u:Un (frs X.stack) ch H H' s.heap s'.heap) (hok:HOk X.prog X.w H' s'.heap) (hg:AllBare s'.gens)
  (hch:∀ b∈ch,(b∈X.ex∨X.s₀.heap.objs.size≤b)∧b≠X.env.locals∧(∀ x c,X.env.cells.lookup x=some c→c≠b)∧∀ p∈X.pn ++ pins,p.1≠b):Inv X pins σ H' s':=by
 obtain ⟨h',g',d',t',o'⟩:=s'
 have e:o'=s.os:=ho
 subst e
 exact I.call (g':=g') (t':=t') (d':=d') u hok hg hch
end
abbrev XK:=Value→Option Addr→Hp→Prop
abbrev St:=List (Option V)
abbrev VK:=V→Hp→Prop
abbrev TE:=St→Hp→VK→Prop
abbrev TT:=St→Hp→(Bool→Hp→Prop)→Prop
abbrev TA:=St→Hp→(List V→Hp→Prop)→Prop
structure Ends where
 nx:St→Hp→Prop
 rt:VK
 bk:St→Hp→Prop:=fun _ _=>False
 ct:St→Hp→Prop:=fun _ _=>False
abbrev TS:=Ends→St→Hp→Prop
def EP (X:Cx) (pins:List (Addr×Obj)) (σ:St) (Q:VK) (u:Value) (s':Shared):Prop:=∃ v H',Inv X pins σ H' s'∧RelV v u∧Q v H'
def TP (X:Cx) (pins:List (Addr×Obj)) (σ:St) (Q:Bool→Hp→Prop) (b:Bool) (s':Shared):Prop:=∃ H',Inv X pins σ H' s'∧Q b H'
def AP (X:Cx) (pins:List (Addr×Obj)) (σ:St) (Q:List V→Hp→Prop) (us:List Value) (s':Shared):Prop:=∃ vs H',Inv X pins σ H' s'∧Vals vs us∧Q vs H'
def SP (X:Cx) (pins:List (Addr×Obj)) (D:Ends) (f:Flow) (s':Shared):Prop:=
 match f with
 | .next=>∃ σ' H',Inv X pins σ' H' s'∧D.nx σ' H'
 | .brk=>∃ σ' H',Inv X pins σ' H' s'∧D.bk σ' H'
 | .cont=>∃ σ' H',Inv X pins σ' H' s'∧D.ct σ' H'
 | .ret u=>∃ v σ' H',Inv X pins σ' H' s'∧RelV v u∧D.rt v H'
def PE (X:Cx) (e:Expr) (t:TE):Prop:=
 ∀ (pins:List (Addr×Obj)) (s:Shared) (σ:St) (H:Hp) (Q:VK),Inv X pins σ H s→t σ H Q→wpAny (model X.prog X.w) X.A (eval e X.env) (EP X pins σ Q) X.xe s
def PT (X:Cx) (e:Expr) (t:TT):Prop:=
 ∀ (pins:List (Addr×Obj)) (s:Shared) (σ:St) (H:Hp) (Q:Bool→Hp→Prop),Inv X pins σ H s→t σ H Q→wpAny (model X.prog X.w) X.A (isTrue e X.env (eval e X.env)) (TP X pins σ Q) X.xe s
def PW (X:Cx) (e:Expr) (t:TT):Prop:=
 ∀ (whole:Sem Value) (pins:List (Addr×Obj)) (s:Shared) (σ:St) (H:Hp) (Q:Bool→Hp→Prop),Inv X pins σ H s→t σ H Q→wpAny (model X.prog X.w) X.A (isTrue e X.env whole) (TP X pins σ Q) X.xe s
theorem PW.pt {X:Cx}{e:Expr}{t:TT} (h:PW X e t):PT X e t:=h _
def PA (X:Cx) (es:List Expr) (t:TA):Prop:=
 ∀ (pos:Pos) (pins:List (Addr×Obj)) (s:Shared) (σ:St) (H:Hp) (Q:List V→Hp→Prop),Inv X pins σ H s→t σ H Q→wpAny (model X.prog X.w) X.A (spliced (backTo pos (starEach es X.env))) (AP X pins σ Q) X.xe s
def PS (X:Cx) (st:Stmt) (t:TS):Prop:=
 ∀ (pins:List (Addr×Obj)) (s:Shared) (σ:St) (H:Hp) (D:Ends),Inv X pins σ H s→t D σ H→wpAny (model X.prog X.w) X.A (exec st X.env) (SP X pins D) X.xe s
def PSs (X:Cx) (st:List Stmt) (t:TS):Prop:=
 ∀ (pins:List (Addr×Obj)) (s:Shared) (σ:St) (H:Hp) (D:Ends),Inv X pins σ H s→t D σ H→wpAny (model X.prog X.w) X.A (execs st X.env) (SP X pins D) X.xe s
theorem thn {α:Type}{t:Sem α}{Q Q':α→Shared→Prop}{M:Model}{A:Around}{E:Value→Shared→Prop}{s:Shared} (h:wpAny M A t Q E s) (hQ:∀ a s,Q a s→Q' a s):wpAny M A t Q' E s:=wpAny_mono h hQ fun _ _ x=>x
end L2
namespace L2
open PySem PySem.Spec PyProof.Rows
section
variable {X:Cx}
def tVar (i:Nat):TE:=fun σ H Q=>∃ v,σ[i]? =some (some v)∧Q v H
def tC (v:V):TE:=fun _ H Q=>Q v H
theorem pe_var {i:Nat}{x:Str}{pos:Pos} (hN:X.N[i]? =some x) (hv:Vis X.env.scope x) (hd:(x == ("__debug__":Str))=false:=by decide) (hcd:(x == ("__classdict__":Str))=false:=by decide):PE X (.Name x pos) (tVar i):=by
 intro pins s σ H Q I h
 obtain ⟨v,e,h⟩:=h
 obtain ⟨m,hn,hl⟩:=I.loc
 obtain ⟨u,r,l⟩:=hl i x v hN e hv
 have fin:EP X pins σ Q u s:=⟨v,H,I,r,h⟩
 rcases l with ⟨hk,hm⟩ | ⟨hk,c,hc,hcell⟩
 ·exact wpAny_Name (wpAny_loadName_local I.ok.kind hk hn hm fin) hd
 ·rcases hk with hk | hk
  ·exact wpAny_Name (wpAny_loadName_cell I.ok.kind hk hc hcell fin) hd
  ·exact wpAny_Name (wpAny_loadName_free I.ok.kind hk hc hcell fin hcd) hd
theorem pe_int {i j pos}:PE X (.Constant (.int i) j pos) (tC (.int i)):=fun _ _ _ H _ I h=>wpAny_Constant_int ⟨.int i,H,I.tok _,⟨_,rfl⟩,h⟩
theorem pe_bl {b j pos}:PE X (.Constant (.bool b) j pos) (tC (.bl b)):=fun _ _ _ H _ I h=>Constant_bool ⟨.bl b,H,I,rfl,h⟩
theorem pe_non {j pos}:PE X (.Constant .none j pos) (tC .non):=fun _ _ _ H _ I h=>Constant_none ⟨.non,H,I,rfl,h⟩
theorem pe_str {x j pos}:PE X (.Constant (.str x) j pos) (tC (.str x)):=fun _ _ _ H _ I h=>Calls.Constant_str ⟨.str x,H,I.tok _,⟨_,rfl⟩,h⟩
def Gl (X:Cx) (x:Str):Prop:=X.env.kindOf x=some .globalImplicit
theorem ld_glob {E:Value→Shared→Prop}{pins:List (Addr×Obj)}{s:Shared}{σ:St}{H:Hp}{x:Str}{u:Value}{pos:Pos}{Q:Value→Shared→Prop} (I:Inv X pins σ H s) (hg:Gl X x) (hm:X.mg x=some u) (h:Q u s)
  (hd:(x == ("__debug__":Str))=false:=by decide):wpAny (model X.prog X.w) X.A (eval (.Name x pos) X.env) Q E s:=
 Calls.Name_function_global I.ok.kind hg (Calls.loadGlobal_global (by rw [I.ok.glob];exact I.mod.glob.keeps I.bk) hm h) hd
theorem ld_blt {E:Value→Shared→Prop}{pins:List (Addr×Obj)}{s:Shared}{σ:St}{H:Hp}{x:Str}{u:Value}{pos:Pos}{Q:Value→Shared→Prop} (I:Inv X pins σ H s) (hg:Gl X x) (hm:X.mg x=none) (hv:bootBuiltins x=some u) (h:Q u s)
  (hn:x≠"__name__":=by decide) (hd:(x == ("__debug__":Str))=false:=by decide):wpAny (model X.prog X.w) X.A (eval (.Name x pos) X.env) Q E s:=by
 obtain ⟨mb,h1,h2⟩:=I.mod.blt
 exact Calls.Name_function_global I.ok.kind hg (Calls.loadGlobal_builtin (by rw [I.ok.glob];exact I.mod.glob.keeps I.bk) hm (by rw [I.ok.blt];exact h1.keeps I.bk) ((h2 x hn).trans hv) h) hd
theorem pe_glob {x:Str}{v:V}{u:Value}{pos:Pos} (hg:Gl X x) (hm:X.mg x=some u) (r:RelV v u) (hd:(x == ("__debug__":Str))=false:=by decide):PE X (.Name x pos) (tC v):=
 fun _ _ _ H _ I h=>ld_glob I hg hm ⟨v,H,I,r,h⟩ hd
theorem pe_bltn {x:Str}{v:V}{u:Value}{pos:Pos} (hg:Gl X x) (hm:X.mg x=none) (hv:bootBuiltins x=some u) (r:RelV v u) (hn:x≠"__name__":=by decide) (hd:(x == ("__debug__":Str))=false:=by decide):PE X (.Name x pos) (tC v):=
 fun _ _ _ H _ I h=>ld_blt I hg hm hv ⟨v,H,I,r,h⟩ hn hd
variable {a b:Expr}{ta tb:TE}{pos:Pos}
def PC (X:Cx) (op:CmpOp) (a b:Expr) (t:TE):Prop:=
 ∀ (pins:List (Addr×Obj)) (s:Shared) (σ:St) (H:Hp) (Q:VK),Inv X pins σ H s→t σ H Q→
  wpAny (model X.prog X.w) X.A (eval a X.env) (fun v s₁=>wpAny (model X.prog X.w) X.A (eval b X.env) (fun u s₂=>wpAny (model X.prog X.w) X.A (compareOp op v u) (EP X pins σ Q) X.xe s₂) X.xe s₁) X.xe s
theorem nobehind (b:Expr) {op:CmpOp} (h:op≠.In) (h2:op≠.NotIn):behindInMarks op b=false:=by
 have e1:(op == CmpOp.In)=false:=by cases op<;>first | rfl | exact absurd rfl h
 have e2:(op == CmpOp.NotIn)=false:=by cases op<;>first | rfl | exact absurd rfl h2
 cases b<;>simp [behindInMarks,e1,e2]
def tB (t:TE):TT:=fun σ H Q=>t σ H fun x H1=>∃ c,x=.bl c∧Q c H1
theorem pt_cmp {op:CmpOp}{t:TE} (h:PC X op a b t) (h1:behindInMarks op b=false:=by first | exact nobehind _ (by decide) (by decide) | rfl):PT X (.Compare a [op] [b] pos) (tB t):=by
 intro pins s σ H Q I hw
 refine wpAny_isTrue_Compare1 (thn (h pins s σ H _ I hw) fun v s1 h1=>thn h1 fun u s2 h2=>thn h2 fun c s3 ⟨x,H1,I1,r1,q1⟩=>?_) h1
 obtain ⟨d,rfl,q⟩:=q1
 cases r1
 exact wpAny_truthy_bool ⟨H1,I1,q⟩
theorem pt_val {e:Expr}{t:TE} (h:PE X e t) (he:∀ whole,isTrue e X.env whole=(do let v ← whole;standAt e.pos;holding [v] (truthy v)):=by intro _;rfl):PT X e (tB t):=by
 intro pins s σ H Q I hw
 refine isTrue_plain (thn (h pins s σ H _ I hw) fun v s1 ⟨x,H1,I1,r1,q1⟩=>?_) (he _)
 obtain ⟨d,rfl,q⟩:=q1
 cases r1
 exact wpAny_truthy_bool ⟨H1,I1,q⟩
variable {tA tB':TT}{rest:List Expr}
def tAnd (t u:TT):TT:=fun σ H Q=>t σ H fun c H1=>if c=true then u σ H1 Q else Q false H1
def tOr (t u:TT):TT:=fun σ H Q=>t σ H fun c H1=>if c=true then Q true H1 else u σ H1 Q
def tNot (t:TT):TT:=fun σ H Q=>t σ H fun c H1=>Q (!c) H1
theorem pw_and1 (ha:PT X a tA):PW X (.BoolOp .And [a] pos) tA:=by
 intro wh pins s σ H Q I h
 refine isTrue_and (thn (ha pins s σ H Q I h) fun c s1 e=>?_)
 cases c with
 | true=>exact isTrue_and_nil e
 | false=>exact e
theorem pw_or1 (ha:PT X a tA):PW X (.BoolOp .Or [a] pos) tA:=by
 intro wh pins s σ H Q I h
 refine isTrue_or (thn (ha pins s σ H Q I h) fun c s1 e=>?_)
 cases c with
 | false=>exact isTrue_or_nil e
 | true=>exact e
theorem pw_and (ha:PT X a tA) (hb:PW X (.BoolOp .And (b :: rest) pos) tB'):PW X (.BoolOp .And (a :: b :: rest) pos) (tAnd tA tB'):=by
 intro wh pins s σ H Q I h
 refine isTrue_and (thn (ha pins s σ H _ I h) fun c s1 ⟨H1,I1,q1⟩=>?_)
 cases c with
 | true=>exact hb wh pins s1 σ H1 Q I1 q1
 | false=>exact ⟨H1,I1,q1⟩
theorem pw_or (ha:PT X a tA) (hb:PW X (.BoolOp .Or (b :: rest) pos) tB'):PW X (.BoolOp .Or (a :: b :: rest) pos) (tOr tA tB'):=by
 intro wh pins s σ H Q I h
 refine isTrue_or (thn (ha pins s σ H _ I h) fun c s1 ⟨H1,I1,q1⟩=>?_)
 cases c with
 | true=>exact ⟨H1,I1,q1⟩
 | false=>exact hb wh pins s1 σ H1 Q I1 q1
theorem pt_not (ha:PT X a tA):PT X (.UnaryOp .Not a pos) (tNot tA):=by
 intro pins s σ H Q I h
 exact isTrue_not (ha pins s σ H (fun c H1=>Q (!c) H1) I h)
def tAndV (ta tb:TE):TE:=fun σ H Q=>ta σ H fun x H1=>∃ c,x=.bl c∧if c=true then tb σ H1 Q else Q (.bl false) H1
def tNotV (ta:TE):TE:=fun σ H Q=>ta σ H fun x H1=>∃ c,x=.bl c∧Q (.bl (!c)) H1
theorem pe_one {op}{t:TE} (h:PE X a t):PE X (.BoolOp op [a] pos) t:=fun pins s σ H Q I hw=>BoolOp_one (h pins s σ H Q I hw)
theorem pe_and (ha:PE X a ta) (hb:PE X (.BoolOp .And (b :: rest) pos) tb):PE X (.BoolOp .And (a :: b :: rest) pos) (tAndV ta tb):=by
 intro pins s σ H Q I h
 refine BoolOp_and (thn (ha pins s σ H _ I h) fun v s1 ⟨x,H1,I1,r1,q1⟩=>?_)
 obtain ⟨c,rfl,q1⟩:=q1
 cases r1
 refine wpAny_truthy_bool ?_
 cases c with
 | true=>exact hb pins s1 σ H1 Q I1 q1
 | false=>exact ⟨.bl false,H1,I1,rfl,q1⟩
theorem pe_not (ha:PE X a ta):PE X (.UnaryOp .Not a pos) (tNotV ta):=by
 intro pins s σ H Q I h
 refine UnaryOp_ (thn (ha pins s σ H _ I h) fun v s1 ⟨x,H1,I1,r1,q1⟩=>?_)
 obtain ⟨c,rfl,q1⟩:=q1
 cases r1
 exact not_of (wpAny_truthy_bool ⟨.bl (!c),H1,I1,rfl,q1⟩)
def tIf (t:TT) (ta tb:TE):TE:=fun σ H Q=>t σ H fun c H1=>if c=true then ta σ H1 Q else tb σ H1 Q
theorem pe_ifExp {c:Expr} (hc:PT X c tA) (ha:PE X a ta) (hb:PE X b tb):PE X (.IfExp c a b pos) (tIf tA ta tb):=by
 intro pins s σ H Q I h
 refine wpAny_IfExp (thn (hc pins s σ H _ I h) fun d s1 ⟨H1,I1,q1⟩=>?_)
 cases d with
 | true=>exact ha pins s1 σ H1 Q I1 q1
 | false=>exact hb pins s1 σ H1 Q I1 q1
end
end L2
namespace L2
open PySem PySem.Spec PyProof.Rows
def SqL (K:PySem.W.Frag) (H:Hp) (a:Addr) (xs:List V):Prop:=
 Rd H a (.lst xs)∨
  ∃ (o:Obj) (its:Array Value) (n:Nat),K.lookup a=some o∧o.cls=.type "list"∧o.dict=none∧o.data=.seq its n∧its.size≤sizeLine∧Vals xs its.toList
def SqT (K:PySem.W.Frag) (H:Hp) (a:Addr) (xs:List V):Prop:=
 Rd H a (.tup xs)∨
  ∃ (o:Obj) (its:Array Value) (n:Nat),K.lookup a=some o∧o.cls=.type "tuple"∧o.data=.seq its n∧its.size≤sizeLine∧Vals xs its.toList
def absV:Value→Option V
 | .none=>some .non
 | .bool b=>some (.bl b)
 | .int i _=>some (.int i)
 | .str x _=>some (.str x)
 | .bytes b _=>some (.byt b)
 | .float b _=>some (.flt b)
 | .ref a=>some (.ref a)
 | .type n=>some (.ty n)
 | _=>none
theorem RelV.abs {x:V}{u:Value} (r:RelV x u):absV u=some x:=by
 cases x with
 | non=>cases r;rfl
 | bl _=>cases r;rfl
 | int _=>obtain ⟨t,rfl⟩:=r;rfl
 | str _=>obtain ⟨t,rfl⟩:=r;rfl
 | byt _=>obtain ⟨t,rfl⟩:=r;rfl
 | flt _=>obtain ⟨t,rfl⟩:=r;rfl
 | ref _=>cases r;rfl
 | ty _=>cases r;rfl
theorem RelV.inj {x y:V}{u:Value} (r:RelV x u) (q:RelV y u):x=y:=Option.some.inj (r.abs.symm.trans q.abs)
theorem Vals.inj:∀ {xs ys:List V}{us:List Value},Vals xs us→Vals ys us→xs=ys
 | _,_,_,.nil,.nil=>rfl
 | _,_,_,.cons r t,.cons r' t'=>by rw [r.inj r',Vals.inj t t']
section
variable {X:Cx}{pins:List (Addr×Obj)}{σ:St}{H:Hp}{s:Shared}{a:Addr}{xs ys:List V}
theorem SqL.of {K:PySem.W.Frag} (h:H a=some (.lst xs)):SqL K H a xs:=.inl (.inl h)
theorem SqT.of {K:PySem.W.Frag} (h:H a=some (.tup xs)):SqT K H a xs:=.inl (.inl h)
theorem Inv.list (I:Inv X pins σ H s) (h:SqL X.K H a xs):∃ its:List Value,Vals xs its∧PlainL s.heap a its.toArray∧xs.length≤sizeLine:=by
 rcases h with h | ⟨o,its,n,hk,hc,hd,hs,hz,r⟩
 ·obtain ⟨z,its,n,r,e⟩:=h.ok I.hok
  exact ⟨its,r,⟨_,n,e,rfl,rfl,rfl⟩,z⟩
 ·refine ⟨its.toList,r,⟨o,n,I.kIn a o hk,hc,hd,by simpa using hs⟩,?_⟩
  have e:=r.length
  simp only [Array.length_toList] at e
  omega
theorem Inv.tuple (I:Inv X pins σ H s) (h:SqT X.K H a xs):∃ its:List Value,Vals xs its∧IsTup s.heap a its.toArray∧xs.length≤sizeLine:=by
 rcases h with h | ⟨o,its,n,hk,hc,hs,hz,r⟩
 ·obtain ⟨z,its,r,p⟩:=h.ok I.hok
  exact ⟨its,r,p,z⟩
 ·refine ⟨its.toList,r,⟨o,I.kIn a o hk,hc,n,by simpa using hs⟩,?_⟩
  have e:=r.length
  simp only [Array.length_toList] at e
  omega
theorem Inv.list_inj (I:Inv X pins σ H s) (h:SqL X.K H a xs) (h':SqL X.K H a ys):xs=ys:=by
 obtain ⟨its,r,⟨o,n,e,_,_,d⟩,_⟩:=I.list h
 obtain ⟨its',r',⟨o',n',e',_,_,d'⟩,_⟩:=I.list h'
 rw [e] at e';cases e'
 rw [d] at d'
 injection d' with d1 _
 have:its=its':=by simpa using congrArg Array.toList d1
 subst this
 exact r.inj r'
end
abbrev Cx.wish (X:Cx) (E:Value→Shared→Prop):Cx:={ X with xe:=E }
abbrev Cx.nox (X:Cx):Cx:=X.wish fun _ _=>False
theorem Cx.Ok.wish {X:Cx} (ok:X.Ok) (E:Value→Shared→Prop):(X.wish E).Ok:=
 ⟨ok.mod,ok.kind,ok.glob,ok.blt,ok.above,ok.inj,ok.has,ok.cab,ok.hd,ok.frames,ok.stk,ok.exf,ok.bs,ok.bsz,ok.noex,ok.exfs,ok.funs,ok.frf⟩
theorem Cx.Ok.unwish {X:Cx}{E:Value→Shared→Prop} (ok:(X.wish E).Ok):X.Ok:=
 ⟨ok.mod,ok.kind,ok.glob,ok.blt,ok.above,ok.inj,ok.has,ok.cab,ok.hd,ok.frames,ok.stk,ok.exf,ok.bs,ok.bsz,ok.noex,ok.exfs,ok.funs,ok.frf⟩
section
variable {X:Cx}{pins:List (Addr×Obj)}{σ:St}{H:Hp}{s:Shared}{E:Value→Shared→Prop}
theorem Inv.wish (I:Inv X pins σ H s) (E:Value→Shared→Prop):Inv (X.wish E) pins σ H s:=⟨I.ok.wish E,I.os,I.bare,I.base,I.loc,I.cell,I.free,I.freeC,I.pin,I.hok,I.len⟩
theorem Inv.unwish (I:Inv (X.wish E) pins σ H s):Inv X pins σ H s:=⟨I.ok.unwish,I.os,I.bare,I.base,I.loc,I.cell,I.free,I.freeC,I.pin,I.hok,I.len⟩
theorem SP.unwish {D:Ends}{f:Flow}{s':Shared} (h:SP (X.wish E) pins D f s'):SP X pins D f s':=by
 cases f with
 | next=>obtain ⟨σ',H',I,q⟩:=h;exact ⟨σ',H',I.unwish,q⟩
 | brk=>obtain ⟨σ',H',I,q⟩:=h;exact ⟨σ',H',I.unwish,q⟩
 | cont=>obtain ⟨σ',H',I,q⟩:=h;exact ⟨σ',H',I.unwish,q⟩
 | ret u=>obtain ⟨v,σ',H',I,r,q⟩:=h;exact ⟨v,σ',H',I.unwish,r,q⟩
theorem PSs.nox {st:List Stmt}{t:TS} (h:PSs X.nox st t):PSs X st t:=fun pins s σ H D I hw=>
 wpAny_mono (h pins s σ H D (I.wish _) hw) (fun _ _ q=>q.unwish) fun _ _ z=>False.elim z
end
section
variable {X:Cx}{st:Stmt}{rest:List Stmt}{t u:TS}{e:Expr}{te:TE}{pos:Pos}
def tNext:TS:=fun D σ H=>D.nx σ H
def tSeq (t u:TS):TS:=fun D σ H=>t { D with nx:=u D } σ H
theorem pss_nil:PSs X [] tNext:=fun _ _ σ H _ I h=>wpAny_execs_nil ⟨σ,H,I,h⟩
theorem pss_cons (h1:PS X st t) (h2:PSs X rest u):PSs X (st :: rest) (tSeq t u):=by
 intro pins s σ H D I h
 refine wpAny_execs_cons (thn (h1 pins s σ H { D with nx:=u D } I h) fun f s1 q=>?_)
 cases f with
 | next=>
  obtain ⟨σ',H',I',q⟩:=q
  exact h2 pins s1 σ' H' D I' q
 | ret v=>exact q
 | brk=>exact q
 | cont=>exact q
theorem pss_one (h1:PS X st t):PSs X [st] t:=by
 intro pins s σ H D I h
 refine wpAny_execs_cons (thn (h1 pins s σ H D I h) fun f s1 q=>?_)
 cases f with
 | next=>exact wpAny_execs_nil q
 | ret v=>exact q
 | brk=>exact q
 | cont=>exact q
theorem Inv.quiet {pins:List (Addr×Obj)}{σ:St}{H:Hp}{s:Shared} (I:Inv X pins σ H s):interactive X.env=false:=by simp [interactive,I.ok.kind]
def tDrop (te:TE):TS:=fun D σ H=>te σ H fun _ H1=>D.nx σ H1
theorem ps_expr (he:PE X e te) (hs:swapsWith e none pos.line X.env=pure false:=by rfl):PS X (.Expr e pos) (tDrop te):=by
 intro pins s σ H D I h
 exact wpAny_Expr_any (thn (he pins s σ H _ I h) fun v s1 ⟨x,H1,I1,r1,q1⟩=>⟨σ,H1,I1,q1⟩) I.quiet hs
def tRet (te:TE):TS:=fun D σ H=>te σ H D.rt
theorem ps_ret (he:PE X e te):PS X (.Return (some e) pos) (tRet te):=by
 intro pins s σ H D I h
 exact wpAny_Return_some (thn (he pins s σ H _ I h) fun v s1 ⟨x,H1,I1,r1,q1⟩=>⟨x,σ,H1,I1,r1,q1⟩)
def tIfS (c:TT) (t u:TS):TS:=fun D σ H=>c σ H fun b H1=>if b=true then t D σ H1 else u D σ H1
theorem ps_if {c:Expr}{a b:List Stmt}{tc:TT} (hc:PT X c tc) (ha:PSs X a t) (hb:PSs X b u):PS X (.If c a b pos) (tIfS tc t u):=by
 intro pins s σ H D I h
 refine wpAny_If (thn (hc pins s σ H _ I h) fun d s1 ⟨H1,I1,q1⟩=>?_)
 cases d with
 | true=>exact ha pins s1 σ H1 D I1 q1
 | false=>exact hb pins s1 σ H1 D I1 q1
end
abbrev TG:=V→St→Hp→(St→Hp→Prop)→Prop
abbrev TGs:=List V→St→Hp→(St→Hp→Prop)→Prop
def PG (X:Cx) (target:Expr) (t:TG):Prop:=
 ∀ (pins:List (Addr×Obj)) (s:Shared) (σ:St) (H:Hp) (v:V) (u:Value) (Q:St→Hp→Prop),Inv X pins σ H s→RelV v u→t v σ H Q→
  wpAny (model X.prog X.w) X.A (assign target X.env u) (fun _ s'=>∃ σ' H',Inv X pins σ' H' s'∧Q σ' H') X.xe s
def PGs (X:Cx) (ts:List Expr) (t:TGs):Prop:=
 ∀ (pins:List (Addr×Obj)) (s:Shared) (σ:St) (H:Hp) (vs:List V) (us:List Value) (Q:St→Hp→Prop),Inv X pins σ H s→Vals vs us→t vs σ H Q→
  wpAny (model X.prog X.w) X.A (assignInOrder ((assignEach ts X.env).map (·.2)) us) (fun _ s'=>∃ σ' H',Inv X pins σ' H' s'∧Q σ' H') X.xe s
abbrev TSet:=V→V→V→Hp→(Hp→Prop)→Prop
def PSet (X:Cx) (t:TSet):Prop:=
 ∀ (pins:List (Addr×Obj)) (s:Shared) (σ:St) (H:Hp) (o i v:V) (ov iv u:Value) (Q:Hp→Prop),Inv X pins σ H s→RelV o ov→RelV i iv→RelV v u→t o i v H Q→
  wpAny (model X.prog X.w) X.A (setItem ov iv u) (fun _ s'=>∃ H',Inv X pins σ H' s'∧Q H') X.xe s
section
variable {X:Cx}{pos:Pos}
def gName (i:Nat):TG:=fun v σ H Q=>Q (σ.set i (some v)) H
theorem pg_name {i:Nat}{x:Str} (hN:X.N.Nodup) (hi:X.N[i]? =some x) (hx:Loc X.env.scope x) (hf:X.fn x=true∨X.env.scope.names.lookup x=some .local:=by first | exact .inl rfl | exact .inr rfl | assumption):PG X (.Name x pos) (gName i):=by
 intro pins s σ H v u Q I r h
 exact wpAny_assign_Name (store_ok I hN hi hx r (fun s' I'=>⟨_,H,I',h⟩) hf)
def gNil:TGs:=fun vs σ H Q=>vs=[]∧Q σ H
def gCons (t:TG) (u:TGs):TGs:=fun vs σ H Q=>∃ v r,vs=v :: r∧t v σ H fun σ' H'=>u r σ' H' Q
theorem pgs_nil:PGs X [] gNil:=by
 intro pins s σ H vs us Q I r h
 obtain ⟨e,h⟩:=h
 subst e
 cases r
 exact assignInOrder_nil ⟨σ,H,I,h⟩
theorem pgs_cons {e:Expr}{es:List Expr}{t:TG}{u:TGs} (h1:PG X e t) (h2:PGs X es u)
  (hs:(assignEach (e :: es) X.env).map (·.2)=assign e X.env :: (assignEach es X.env).map (·.2):=by rfl):PGs X (e :: es) (gCons t u):=by
 intro pins s σ H vs us Q I r h
 obtain ⟨v,vr,e1,h⟩:=h
 subst e1
 cases r with
 | cons r rr=>
  rw [hs]
  refine assignInOrder_cons (thn (h1 pins s σ H _ _ _ I r h) fun _ s1 ⟨σ1,H1,I1,q1⟩=>?_)
  exact h2 pins s1 σ1 H1 _ _ Q I1 rr q1
def gTup (K:PySem.W.Frag) (n:Nat) (t:TGs):TG:=fun v σ H Q=>∃ a xs,v=.ref a∧SqT K H a xs∧xs.length=n∧t xs σ H Q
theorem pg_tup {es:List Expr}{k:Nat}{t:TGs}{n:Nat} (hc:X.calm=true) (h:PGs X es t)
  (hn:(assignEach es X.env).length=n:=by rfl) (hst:(assignEach es X.env).findIdx? (·.1)=none:=by rfl):PG X (.Tuple es k pos) (gTup X.K n t):=by
 intro pins s σ H v u Q I r hw
 obtain ⟨a,xs,e1,hq,hl,hw⟩:=hw
 subst e1
 cases r
 obtain ⟨its,rv,ht,hz⟩:=I.tuple hq
 refine assign_Tuple_tuple (I.ok.hd hc) ht (by simp [hn,← hl,rv.length]) hst fun h' hx=>?_
 have I1:Inv X pins σ H { s with heap:=h' }:=I.kept (t':=s.toks) fun b o e=>hx b o (Nat.ne_of_lt (Heap.lt_size e)) e
 exact h pins _ σ H xs _ Q I1 (by simpa using rv) hw
def gSub (to ti:TE) (t:TSet):TG:=fun v σ H Q=>to σ H fun o H1=>ti σ H1 fun i H2=>t o i v H2 fun H3=>Q σ H3
theorem pg_sub {o i:Expr}{to ti:TE}{t:TSet} (ho:PE X o to) (hi:PE X i ti) (hs:PSet X t)
  (ha:∀ v,assign (.Subscript o i pos) X.env v=(do
   let ov ← holding [v] (eval o X.env)
   let iv ← holding [v,ov] (eval i X.env)
   standAt pos
   holding [v,ov,iv] (setItem ov iv v)
   release [v,ov,iv] []):=by intro _;rfl):PG X (.Subscript o i pos) (gSub to ti t):=by
 intro pins s σ H v u Q I r h
 rw [ha]
 refine wpAny_bind (wpAny_holding (thn (ho pins s σ H _ I h) fun ov s1 ⟨x,H1,I1,r1,q1⟩=>?_))
 refine wpAny_bind (wpAny_holding (thn (hi pins s1 σ H1 _ I1 q1) fun iv s2 ⟨y,H2,I2,r2,q2⟩=>?_))
 refine wpAny_bind (wpAny_standAt (wpAny_bind (wpAny_holding (thn (hs pins s2 σ H2 x y v ov iv u _ I2 r1 r2 r q2) fun _ s3 ⟨H3,I3,q3⟩=>?_))))
 exact wpAny_release ⟨σ,H3,I3,q3⟩
def tAsg (te:TE) (g:TG):TS:=fun D σ H=>te σ H fun x H1=>g x σ H1 D.nx
theorem ps_asg {tg e:Expr}{te:TE}{g:TG} (he:PE X e te) (hg:PG X tg g) (hs:swapsWithSole [tg] e pos.line X.env=pure false:=by rfl) (hw:swappedStores [tg] e X.env=pure none:=by rfl)
  (h1:(assignEach [tg] X.env).map (·.2)=[assign tg X.env]:=by rfl):PS X (.Assign [tg] e pos) (tAsg te g):=by
 intro pins s σ H D I h
 refine wpAny_Assign_stores (thn (he pins s σ H _ I h) fun v s1 ⟨x,H1,I1,r1,q1⟩=>?_) hs hw
 rw [h1]
 exact thn (hg pins s1 σ H1 x v _ I1 r1 q1) fun _ s2 q=>q
theorem ps_set {i:Nat}{x:Str}{e:Expr}{te:TE}{pos':Pos} (hN:X.N.Nodup) (hi:X.N[i]? =some x) (hx:Loc X.env.scope x) (he:PE X e te) (hs:swapsWith e (some (.Name x pos')) pos.line X.env=pure false:=by rfl) (hf:X.fn x=true∨X.env.scope.names.lookup x=some .local:=by first | exact .inl rfl | exact .inr rfl | assumption):
  PS X (.Assign [.Name x pos'] e pos) (tAsg te (gName i)):=by
 intro pins s σ H D I h
 refine wpAny_Assign_Name (thn (he pins s σ H _ I h) fun v s1 ⟨y,H1,I1,r1,q1⟩=>?_) hs
 exact store_ok I1 hN hi hx r1 (fun s2 I2=>⟨_,H1,I2,q1⟩) hf
end
section
variable {X:Cx}{pos:Pos}
end
structure It where
 go:Nat→Hp→Prop
 yld:Nat→Hp→V→Hp→Prop
 stop:Nat→Hp→Prop
def FpOk (X:Cx) (pins:List (Addr×Obj)) (H:Hp) (b:Addr):Prop:=
 H b=none∧b≠X.env.locals∧b∉X.fs∧(b∈X.ex∨X.s₀.heap.objs.size≤b)∧(∀ x c,X.env.cells.lookup x=some c→c≠b)∧∀ p∈X.pn ++ pins,p.1≠b
theorem Inv.fpOk {X:Cx}{pins:List (Addr×Obj)}{σ:St}{H H':Hp}{s:Shared}{b:Addr} (I:Inv X pins σ H s) (hb:s.heap.objs.size≤b) (hn:H' b=none):FpOk X pins H' b:=by
 refine ⟨hn,Nat.ne_of_gt (Nat.lt_of_lt_of_le I.lt hb),I.nofs hb,.inr (Nat.le_trans I.sz hb),fun x c e z=>?_,fun p hp z=>?_⟩
 ·obtain ⟨v,q⟩:=I.cell x c e
  exact absurd (Nat.lt_of_lt_of_le q.lt (by rw [z];exact hb)) (Nat.lt_irrefl _)
 ·exact absurd (Nat.lt_of_lt_of_le (Heap.lt_size (I.pin p hp).1) (by rw [z];exact hb)) (Nat.lt_irrefl _)
structure Turn (P:Program) (w:World) (K:PySem.W.Frag) (tg:Expr) (J:It) (fp:List Addr) (it:Addr) (tn:Nat→Heap→Prop):Prop where
  mem:it∈fp
  obj:∀ i h,tn i h→∀ b∈fp,∃ o,h.get? b=some o∧∀ v,o.data≠.cell v
  keep:∀ i h h',tn i h→(∀ b∈fp,∀ o,h.get? b=some o→h'.get? b=some o)→tn i h'
  item:∀ (X:Cx),X.prog=P→X.w=w→X.K=K→X.calm=true→∀ (i:Nat) (pins:List (Addr×Obj)) (s:Shared) (σ:St) (H:Hp) (E:Value→Shared→Prop),Inv X pins σ H s→(∀ b∈fp,FpOk X pins H b)→tn i s.heap→J.go i H→
    wpAny (model P w) X.A (pyNext (.ref it)) (fun r s1=>∃ u,r=some u∧
      wpAny (model P w) X.A (letOwnedTupleGo tg (.ref it) u) (fun _ s2=>∃ x H',Inv X pins σ H' s2∧RelV x u∧J.yld i H x H'∧tn (i + 1) s2.heap∧∀ b∈fp,H' b=none) E s1) E s
  done:∀ (X:Cx),X.prog=P→X.w=w→X.K=K→X.calm=true→∀ (i:Nat) (pins:List (Addr×Obj)) (s:Shared) (σ:St) (H:Hp) (E:Value→Shared→Prop),Inv X pins σ H s→(∀ b∈fp,FpOk X pins H b)→tn i s.heap→J.stop i H→
    wpAny (model P w) X.A (pyNext (.ref it)) (fun r s1=>r=none∧Inv X pins σ H s1) E s
  self:∀ (A:Around) (i:Nat) (s:Shared) (Q:Value→Shared→Prop) (E:Value→Shared→Prop),tn i s.heap→Q (.ref it) s→wpAny (model P w) A (pyIter (.ref it)) Q E s
abbrev TI:=St→Hp→(It→Hp→Prop)→Prop
def PIE (X:Cx) (pins:List (Addr×Obj)) (σ:St) (tg:Expr) (R:It→Hp→Prop) (itv:Value) (s2:Shared):Prop:=
 ∃ (it:Addr) (fp:List Addr) (tn:Nat→Heap→Prop) (J:It) (H':Hp),itv=.ref it∧Inv X pins σ H' s2∧Turn X.prog X.w X.K tg J fp it tn∧tn 0 s2.heap∧(∀ b∈fp,FpOk X pins H' b)∧R J H'
def PI (X:Cx) (tg iter:Expr) (wi:TI):Prop:=
 ∀ (pins:List (Addr×Obj)) (s:Shared) (σ:St) (H:Hp) (R:It→Hp→Prop),Inv X pins σ H s→wi σ H R→
  wpAny (model X.prog X.w) X.A (eval iter X.env) (fun v s1=>wpAny (model X.prog X.w) X.A (pyIter v) (PIE X pins σ tg R) X.xe s1) X.xe s
theorem go_of {M:Model}{A:Around}{E:Value→Shared→Prop}{s:Shared}{tg:Expr}{it:Addr}{u:Value}{o:Obj}{n:String}{vs:Array Value}{Q:Unit→Shared→Prop} (ho:s.heap.get? it=some o) (hc:o.cls=.type n) (hd:o.data=.fields vs)
    (hn:["enumerate","zip","dict_itemiterator","dict_reverseitemiterator","odict_iterator","itertools.zip_longest","itertools.pairwise"].contains n=false) (hQ:Q () s):wpAny M A (letOwnedTupleGo tg (.ref it) u) Q E s:=by
  unfold letOwnedTupleGo
  cases tg<;>first
    | exact wpAny_pure hQ
    | (cases u<;>first
        | exact wpAny_pure hQ
        | (refine wpAny_bind (wpAny_load ho ?_)
           rw [hc,hd]
           show wpAny M A (if (["enumerate","zip","dict_itemiterator","dict_reverseitemiterator","odict_iterator","itertools.zip_longest","itertools.pairwise"].contains n && vs[0]? == some (rawInt _))=true then _ else _) Q E s
           rw [if_neg (by intro h;rw [hn,Bool.false_and] at h;cases h)]
           exact wpAny_pure hQ))
def Itl (K:PySem.W.Frag) (a:Addr):It:=
 ⟨fun i H=>∃ xs x,SqL K H a xs∧xs[i]? =some x,fun i H x H'=>H'=H∧∀ xs,SqL K H a xs→xs[i]? =some x,fun i H=>∃ xs,SqL K H a xs∧xs.length≤i⟩
def Itr (lo:Int) (n:Nat):It:=⟨fun i _=>i < n,fun i H x H'=>H'=H∧x=.int (lo + i),fun i _=>n≤i⟩
theorem turn_list {P:Program}{w:World}{K:PySem.W.Frag}{tg:Expr} (a it:Addr):Turn P w K tg (Itl K a) [it] it (fun i h=>h.IsListIter it a i) where
  mem:=by simp
  obj:=fun i h st b hb=>by
    have e:b=it:=by simpa using hb
    subst e
    obtain ⟨o,e,c,d⟩:=st
    exact ⟨o,e,fun v z=>by rw [d] at z;cases z⟩
  keep:=fun i h h' st k=>st.at fun o e=>k it (by simp) o e
  item:=by
    intro X hP hw hK hc i pins s σ H E I hf st hg
    subst hP hw hK
    obtain ⟨xs,x,hq,hx⟩:=hg
    obtain ⟨its,rv,p,hz⟩:=I.list hq
    obtain ⟨u,hu,ru⟩:=rv.get hx
    obtain ⟨f0,f1,f2,f3,f4,f5⟩:=hf it (by simp)
    refine wpAny_pyNext_list_item st p.isList (x:=u) (by simpa using hu) fun h' st' sb=>?_
    have I1:Inv X pins σ H { s with heap:=h' }:=I.turned (t':=s.toks) (fun b o hb e=>(sb.2 b hb).trans e) f0 f1 f3 f4 f5
    obtain ⟨o,e,c,d⟩:=id st'
    exact ⟨u,rfl,go_of (s:={ s with heap:=h' }) e c d (by decide) ⟨x,H,I1,ru,⟨rfl,fun ys hy=>by rw [I.list_inj hy hq];exact hx⟩,st',fun b hb=>(hf b hb).1⟩⟩
  done:=by
    intro X hP hw hK hc i pins s σ H E I hf st hg
    subst hP hw hK
    obtain ⟨xs,hq,hx⟩:=hg
    obtain ⟨its,rv,p,hz⟩:=I.list hq
    obtain ⟨f0,f1,f2,f3,f4,f5⟩:=hf it (by simp)
    have hl:=rv.length
    exact wpAny_pyNext_list_end (I.ok.hd hc) st p.isList (by simp;omega) fun h' eb=>⟨rfl,I.turned (t':=s.toks) (fun b o hb e=>eb b o hb e) f0 f1 f3 f4 f5⟩
  self:=fun _ _ _ _ _ st h=>wpAny_pyIter_listiter st h
theorem turn_range {P:Program}{w:World}{K:PySem.W.Frag}{tg:Expr} (it:Addr) (lo:Int) (n:Nat):Turn P w K tg (Itr lo n) [it] it (fun i h=>IsRangeIter h it (lo + (i:Nat) * 1) ((n:Int) - (i:Nat)) 1) where
  mem:=by simp
  obj:=fun i h st b hb=>by
    have e:b=it:=by simpa using hb
    subst e
    exact ⟨_,st,fun v z=>by
      have z':Data.fields _=Data.cell v:=z
      cases z'⟩
  keep:=fun i h h' st k=>k it (by simp) _ st
  item:=by
    intro X hP hw hK hc i pins s σ H E I hf st hg
    subst hP hw hK
    obtain ⟨f0,f1,f2,f3,f4,f5⟩:=hf it (by simp)
    have W:=Walks.range (prog:=X.prog) (w:=X.w) (I.ok.hd hc) it lo 1 n
    refine W.item i s _ _ hg st fun v h' tk hv st' kk=>?_
    obtain ⟨t,rfl⟩:=hv
    have I1:Inv X pins σ H { s with heap:=h',toks:=tk }:=I.turned (fun b o hb e=>kk b o (by simpa using hb) e) f0 f1 f3 f4 f5
    refine ⟨_,rfl,go_of (s:={ s with heap:=h',toks:=tk }) (n:="range_iterator") st' rfl rfl (by decide) ⟨.int (lo + i),H,I1,⟨t,?_⟩,⟨rfl,rfl⟩,st',fun b hb=>(hf b hb).1⟩⟩
    rw [Int.mul_one]
  done:=by
    intro X hP hw hK hc i pins s σ H E I hf st hg
    subst hP hw hK
    obtain ⟨f0,f1,f2,f3,f4,f5⟩:=hf it (by simp)
    exact wpAny_pyNext_range_end (I.ok.hd hc) st (by have:n≤i:=hg;omega) fun h' eb=>⟨rfl,I.turned (t':=s.toks) (fun b o hb e=>eb b o hb e) f0 f1 f3 f4 f5⟩
  self:=fun _ _ _ _ _ st h=>wpAny_pyIter_rangeiter st h
end L2
namespace L2
open PySem PySem.Spec PyProof.Rows
section
variable {X:Cx}{tg:Expr}
def iList (K:PySem.W.Frag) (tl:TE):TI:=fun σ H R=>tl σ H fun x H1=>∃ a,x=.ref a∧(∃ xs,SqL K H1 a xs)∧R (Itl K a) H1
theorem pi_list {l:Expr}{tl:TE} (hl:PE X l tl):PI X tg l (iList X.K tl):=by
 intro pins s σ H R I h
 refine thn (hl pins s σ H _ I h) fun v s1 ⟨x,H1,I1,r1,q1⟩=>?_
 obtain ⟨a,e,⟨xs,hq⟩,q⟩:=q1
 subst e
 cases r1
 obtain ⟨its,rv,p,hz⟩:=I1.list hq
 refine wpAny_pyIter_list p.isList ?_
 refine ⟨s1.heap.objs.size,[s1.heap.objs.size],_,_,H1,rfl,I1.kept (t':=s1.toks) fun b o e=>Heap.get?_push_of_some _ e,turn_list a _,⟨_,Heap.get?_push_size _ rfl,rfl,rfl⟩,fun b hb=>?_,q⟩
 have e:b=s1.heap.objs.size:=by simpa using hb
 subst e
 exact I1.fpOk (Nat.le_refl _) (I1.hok.fresh (Nat.le_refl _))
theorem range_it {pins:List (Addr×Obj)}{σ:St}{H:Hp}{s:Shared}{R:It→Hp→Prop}{E:Value→Shared→Prop}{lo hi:Int}{t u v:Tok}{tk:Nat} (I:Inv X pins σ H s) (h1:-(2 ^ 62)≤lo) (h2:lo < 2 ^ 62) (h3:-(2 ^ 62)≤hi) (h4:hi < 2 ^ 62)
  (q:R (Itr lo (hi - lo).toNat) H):wpAny (model X.prog X.w) X.A (pyIter (.ref s.heap.objs.size)) (PIE X pins σ tg R) E { s with heap:=s.heap.push { cls:=.type "range",data:=.fields #[.int lo t,.int hi u,.int 1 v] },toks:=tk }:=by
 refine wpAny_pyIter_range (IsRange.new ..) (small_one h1 h2 h3 h4) ?_
 have I1:Inv X pins σ H { s with heap:=s.heap.push { cls:=.type "range",data:=.fields #[.int lo t,.int hi u,.int 1 v] },toks:=tk }:=I.kept fun b o e=>Heap.get?_push_of_some _ e
 refine ⟨(s.heap.push { cls:=.type "range",data:=.fields #[.int lo t,.int hi u,.int 1 v] }).objs.size,[(s.heap.push { cls:=.type "range",data:=.fields #[.int lo t,.int hi u,.int 1 v] }).objs.size],_,_,H,rfl,
  I1.kept (t':=tk) fun b o e=>Heap.get?_push_of_some _ e,turn_range _ lo (hi - lo).toNat,?_,fun b hb=>?_,q⟩
 ·have e1:lo + ((0:Nat):Int) * 1=lo:=by simp
  have e2:(((hi - lo).toNat:Nat):Int) - ((0:Nat):Int)=Builtin.Range.rangeSize lo hi 1:=by rw [rangeSize_one];split<;>omega
  show IsRangeIter _ _ (lo + ((0:Nat):Int) * 1) ((((hi - lo).toNat:Nat):Int) - ((0:Nat):Int)) 1
  rw [e1,e2]
  exact Heap.get?_push_size _ rfl
 ·have e:b=(s.heap.push { cls:=.type "range",data:=.fields #[.int lo t,.int hi u,.int 1 v] }).objs.size:=by simpa using hb
  subst e
  exact I1.fpOk (Nat.le_refl _) (I1.hok.fresh (Nat.le_refl _))
def iRng1 (ta:TA):TI:=fun σ H R=>ta σ H fun vs H1=>∃ j:Int,vs=[.int j]∧-(2 ^ 62)≤j∧j < 2 ^ 62∧R (Itr 0 j.toNat) H1
theorem pi_range1 {a:Expr}{ta:TA}{p pos:Pos} (hg:Gl X "range") (hm:X.mg "range"=none) (ha:PA X [a] ta) (hs:starEach [a] X.env=[(false,eval a X.env)]:=by rfl):PI X tg (.Call (.Name "range" p) [a] [] pos) (iRng1 ta):=by
 intro pins s σ H R I h
 refine Call_ (ld_blt I hg hm boot_range (PyProof.Rows.callWith_type1 (thn (ha pos pins s σ H _ I h) fun us s1 ⟨vs,H1,I1,r1,q1⟩=>?_) hs rfl))
 obtain ⟨j,e,q1,q2,q⟩:=q1
 subst e
 cases r1 with
 | cons r rr=>
  cases rr
  obtain ⟨t,rfl⟩:=r
  exact call_range_1 (range_it I1 (by omega) (by omega) q1 q2 (by simpa using q))
def tFor (wi:TI) (g:TG) (tb:TS):TS:=fun D σ H=>wi σ H fun J H1=>∃ W:Nat→Nat→St→Hp→Prop,(∃ m,W 0 m σ H1)∧∀ i m σ H,W i m σ H→
 (J.stop i H∧D.nx σ H)∨(J.go i H∧∃ N:St→Hp→Prop,(∀ σ' H',N σ' H'→∃ m',m' < m∧W (i + 1) m' σ' H')∧∀ x H',J.yld i H x H'→g x σ H' fun σ2 H2=>tb { D with nx:=N,ct:=N,bk:=D.nx } σ2 H2)
def pinsAt (fp:List Addr) (h:Heap):List (Addr×Obj):=fp.filterMap fun b=>(h.get? b).map fun o=>(b,o)
theorem mem_pinsAt {fp:List Addr}{h:Heap}{b:Addr}{o:Obj} (hb:b∈fp) (e:h.get? b=some o):(b,o)∈pinsAt fp h:=List.mem_filterMap.mpr ⟨b,hb,by rw [e];rfl⟩
theorem of_pinsAt {fp:List Addr}{h:Heap}{p:Addr×Obj} (hp:p∈pinsAt fp h):p.1∈fp∧h.get? p.1=some p.2:=by
 obtain ⟨b,hb,e⟩:=List.mem_filterMap.mp hp
 cases q:h.get? b with
 | none=>rw [q] at e;cases e
 | some o=>
  rw [q] at e
  have e':(b,o)=p:=Option.some.inj e
  subst e'
  exact ⟨hb,q⟩
theorem Inv.pinned {pins:List (Addr×Obj)}{σ:St}{H:Hp}{s:Shared}{fp:List Addr} (I:Inv X pins σ H s) (hf:∀ b∈fp,FpOk X pins H b) (ho:∀ b∈fp,∃ o,s.heap.get? b=some o∧∀ v,o.data≠.cell v):Inv X (pins ++ pinsAt fp s.heap) σ H s:=
 I.pins_of fun p hp=>(List.mem_append.mp hp).elim (fun z=>I.pin p (List.mem_append_right _ z)) fun z=>by
  obtain ⟨hb,e⟩:=of_pinsAt z
  obtain ⟨f0,f1,f2,_⟩:=hf p.1 hb
  obtain ⟨o,e',d⟩:=ho p.1 hb
  rw [e] at e';cases e'
  exact ⟨e,f0,f1,f2,d⟩
theorem Inv.unpinned {pins pl:List (Addr×Obj)}{σ:St}{H:Hp}{s:Shared} (I:Inv X (pins ++ pl) σ H s):Inv X pins σ H s:=I.pins_of fun p hp=>I.pin p (List.mem_append_right _ (List.mem_append_left _ hp))
theorem ps_for {iter:Expr}{body:List Stmt}{wi:TI}{g:TG}{tb:TS}{pos:Pos} (hp:PassesOwn (model X.prog X.w) X.A X.env X.xe) (hc:X.calm=true) (hi:PI X tg iter wi) (hg:PG X tg g) (hb:PSs X body tb)
  (hs:∀ x,foldedSetIterable iter X.env x=pure x:=by intro _;rfl):PS X (.For tg iter body [] pos) (tFor wi g tb):=by
 intro pins s σ H D I h
 refine wpAny_For (thn (hi pins s σ H _ I h) fun v s1 h1=>thn h1 fun itv s2 h2=>?_) hs
 obtain ⟨it,fp,tn,J,H2,e,I2,T,st2,f2,W,⟨m0,w0⟩,turn⟩:=h2
 subst e
 have stat:∀ {H':Hp},(∀ b∈fp,H' b=none)→∀ b∈fp,FpOk X pins H' b:=fun hn b hb=>⟨hn b hb,(f2 b hb).2⟩
 refine codeAny_forLoop_any (fun n s'=>∃ i σ' H',Inv X pins σ' H' s'∧tn i s'.heap∧(∀ b∈fp,H' b=none)∧W i n σ' H') ?_ m0 ⟨0,σ,H2,I2,st2,fun b hb=>(f2 b hb).1,w0⟩
 rintro n s3 ⟨i,σ3,H3,I3,st3,fr3,w3⟩
 rcases turn i n σ3 H3 w3 with ⟨stop,qn⟩ | ⟨go,N,hN,step⟩
 ·refine wpAny_passesOwn hp (thn (T.done X rfl rfl rfl hc i pins s3 σ3 H3 X.xe I3 (stat fr3) st3 stop) fun r s4 ⟨hr,I4⟩=>?_)
  subst hr
  exact wpAny_execs_nil ⟨σ3,H3,I4,qn⟩
 ·refine wpAny_passesOwn hp (thn (T.item X rfl rfl rfl hc i pins s3 σ3 H3 X.xe I3 (stat fr3) st3 go) fun r s4 ⟨u,hr,h4⟩=>?_)
  subst hr
  refine wpAny_passesOwn hp (thn h4 fun _ s5 ⟨x,H5,I5,r5,y5,st5,fr5⟩=>?_)
  have I5':=I5.pinned (stat fr5) (T.obj _ _ st5)
  refine wpAny_passesOwn hp (thn (hg _ s5 σ3 H5 x u _ I5' r5 (step x H5 y5)) fun _ s6 ⟨σ6,H6,I6,q6⟩=>?_)
  refine wpAny_passesOwn hp (thn (hb _ s6 σ6 H6 _ I6 q6) fun f s7 q7=>?_)
  have again:∀ {σ7:St}{H7:Hp},Inv X (pins ++ pinsAt fp s5.heap) σ7 H7 s7→N σ7 H7→∃ m,m < n∧∃ i σ' H',Inv X pins σ' H' s7∧tn i s7.heap∧(∀ b∈fp,H' b=none)∧W i m σ' H':=fun {σ7 H7} I7 n7=>by
   obtain ⟨m',hm,w7⟩:=hN σ7 H7 n7
   refine ⟨m',hm,i + 1,σ7,H7,I7.unpinned,T.keep _ _ _ st5 fun b hb o e=>(I7.pin (b,o) (List.mem_append_right _ (List.mem_append_right _ (mem_pinsAt hb e)))).1,fun b hb=>?_,w7⟩
   obtain ⟨o,e,d⟩:=T.obj _ _ st5 b hb
   exact (I7.pin (b,o) (List.mem_append_right _ (List.mem_append_right _ (mem_pinsAt hb e)))).2.1
  cases f with
  | next=>obtain ⟨σ7,H7,I7,n7⟩:=q7;exact again I7 n7
  | cont=>obtain ⟨σ7,H7,I7,n7⟩:=q7;exact again I7 n7
  | brk=>obtain ⟨σ7,H7,I7,q7⟩:=q7;exact ⟨σ7,H7,I7.unpinned,q7⟩
  | ret v=>obtain ⟨x7,σ7,H7,I7,r7,q7⟩:=q7;exact ⟨x7,σ7,H7,I7.unpinned,r7,q7⟩
end
theorem for_list {K:PySem.W.Frag}{a:Addr}{xs:List V}{g:TG}{tb:TS}{D:Ends}{σ:St}{H:Hp} (Pv:Nat→St→Hp→Prop) (h0:Pv 0 σ H) (hl:∀ i σ H,i≤xs.length→Pv i σ H→SqL K H a xs)
  (hs:∀ i x σ H,xs[i]? =some x→Pv i σ H→g x σ H fun σ2 H2=>tb { D with nx:=Pv (i + 1),ct:=Pv (i + 1),bk:=D.nx } σ2 H2) (hd:∀ σ H,Pv xs.length σ H→D.nx σ H):
  ∃ W:Nat→Nat→St→Hp→Prop,(∃ m,W 0 m σ H)∧∀ i m σ H,W i m σ H→
   ((Itl K a).stop i H∧D.nx σ H)∨((Itl K a).go i H∧∃ N:St→Hp→Prop,(∀ σ' H',N σ' H'→∃ m',m' < m∧W (i + 1) m' σ' H')∧∀ x H',(Itl K a).yld i H x H'→g x σ H' fun σ2 H2=>tb { D with nx:=N,ct:=N,bk:=D.nx } σ2 H2):=by
 refine ⟨fun i m σ H=>m=xs.length - i∧i≤xs.length∧Pv i σ H,⟨xs.length,by simp,Nat.zero_le _,h0⟩,?_⟩
 rintro i m σ H ⟨rfl,hi,p⟩
 have q:=hl i σ H hi p
 by_cases hlt:i < xs.length
 ·refine .inr ⟨⟨xs,xs[i],q,by simp [hlt]⟩,Pv (i + 1),fun σ' H' p'=>⟨xs.length - (i + 1),by omega,rfl,hlt,p'⟩,fun x H' y=>?_⟩
  obtain ⟨e,y⟩:=y
  subst e
  exact hs i x σ _ (y xs q) p
 ·have e:i=xs.length:=by omega
  subst e
  exact .inl ⟨⟨xs,q,Nat.le_refl _⟩,hd σ H p⟩
theorem for_range {lo:Int}{n:Nat}{g:TG}{tb:TS}{D:Ends}{σ:St}{H:Hp} (Pv:Nat→St→Hp→Prop) (h0:Pv 0 σ H)
  (hs:∀ i σ H,i < n→Pv i σ H→g (.int (lo + i)) σ H fun σ2 H2=>tb { D with nx:=Pv (i + 1),ct:=Pv (i + 1),bk:=D.nx } σ2 H2) (hd:∀ σ H,Pv n σ H→D.nx σ H):
  ∃ W:Nat→Nat→St→Hp→Prop,(∃ m,W 0 m σ H)∧∀ i m σ H,W i m σ H→
   ((Itr lo n).stop i H∧D.nx σ H)∨((Itr lo n).go i H∧∃ N:St→Hp→Prop,(∀ σ' H',N σ' H'→∃ m',m' < m∧W (i + 1) m' σ' H')∧∀ x H',(Itr lo n).yld i H x H'→g x σ H' fun σ2 H2=>tb { D with nx:=N,ct:=N,bk:=D.nx } σ2 H2):=by
 refine ⟨fun i m σ H=>m=n - i∧i≤n∧Pv i σ H,⟨n,by simp,Nat.zero_le _,h0⟩,?_⟩
 rintro i m σ H ⟨rfl,hi,p⟩
 by_cases hlt:i < n
 ·refine .inr ⟨hlt,Pv (i + 1),fun σ' H' p'=>⟨n - (i + 1),by omega,rfl,hlt,p'⟩,fun x H' y=>?_⟩
  obtain ⟨e,y⟩:=y
  subst e y
  exact hs i σ _ hlt p
 ·have e:i=n:=by omega
  subst e
  exact .inl ⟨Nat.le_refl _,hd σ H p⟩
end L2
namespace L2
open PySem PySem.Spec PyProof.Rows
abbrev R2:=V→V→Hp→VK→Prop
def OpR (X:Cx) (f:Value→Value→Sem Value) (r:R2):Prop:=
 ∀ (pins:List (Addr×Obj)) (s:Shared) (σ:St) (H:Hp) (x y:V) (v u:Value) (Q:VK),Inv X pins σ H s→RelV x v→RelV y u→r x y H Q→
  wpAny (model X.prog X.w) X.A (f v u) (EP X pins σ Q) X.xe s
def CallR (X:Cx) (f:Value) (r:List V→Hp→VK→Prop):Prop:=
 ∀ (pins:List (Addr×Obj)) (s:Shared) (σ:St) (H:Hp) (xs:List V) (us:List Value) (Q:VK),Inv X pins σ H s→Vals xs us→r xs H Q→
  wpAny (model X.prog X.w) X.A (call f us) (EP X pins σ Q) X.xe s
def tOp (r:R2) (ta tb:TE):TE:=fun σ H Q=>ta σ H fun x H1=>tb σ H1 fun y H2=>r x y H2 Q
def rI (C:Int→Int→Prop) (g:Int→Int→V):R2:=fun x y H Q=>∃ i j,x=.int i∧y=.int j∧C i j∧Q (g i j) H
def rI0 (g:Int→Int→V):R2:=fun x y H Q=>∃ i j,x=.int i∧y=.int j∧Q (g i j) H
section
variable {X:Cx}{a b c:Expr}{ta tb tc:TE}{pos:Pos}
theorem binT (ha:PE X a ta) (hb:PE X b tb) {pins:List (Addr×Obj)}{s:Shared}{σ:St}{H:Hp}{R:V→V→Hp→Prop} (I:Inv X pins σ H s)
  (h:ta σ H fun x H1=>tb σ H1 fun y H2=>R x y H2) {Q:Value→Shared→Prop}{f:Value→Value→Sem Value}
  (hf:∀ v u s2 x y H2,Inv X pins σ H2 s2→RelV x v→RelV y u→R x y H2→wpAny (model X.prog X.w) X.A (f v u) Q X.xe s2):
  wpAny (model X.prog X.w) X.A (eval a X.env) (fun v s₁=>wpAny (model X.prog X.w) X.A (eval b X.env) (fun u s₂=>wpAny (model X.prog X.w) X.A (f v u) Q X.xe s₂) X.xe s₁) X.xe s:=by
 refine thn (ha pins s σ H _ I h) fun v s1 ⟨x,H1,I1,r1,q1⟩=>?_
 refine thn (hb pins s1 σ H1 _ I1 q1) fun u s2 ⟨y,H2,I2,r2,q2⟩=>?_
 exact hf v u s2 x y H2 I2 r1 r2 q2
theorem pe_op {op:Operator}{r:R2} (ho:OpR X (binaryOp op) r) (ha:PE X a ta) (hb:PE X b tb):PE X (.BinOp a op b pos) (tOp r ta tb):=by
 intro pins s σ H Q I h
 exact wpAny_BinOp (binT ha hb I h fun v u s2 x y H2 I2 rx ry q=>ho pins s2 σ H2 x y v u Q I2 rx ry q)
theorem opI {f:Value→Value→Sem Value}{C:Int→Int→Prop}{g:Int→Int→Int}
  (rule:∀ (i j:Int) (t u:Tok) (s:Shared) (Q:Value→Shared→Prop) (E:Value→Shared→Prop),C i j→Q (.int (g i j) s.toks) { s with toks:=s.toks + 1 }→wpAny (model X.prog X.w) X.A (f (.int i t) (.int j u)) Q E s):
  OpR X f (rI C fun i j=>.int (g i j)):=by
 intro pins s σ H x y v u Q I rx ry h
 obtain ⟨i,j,rfl,rfl,hc,q⟩:=h
 obtain ⟨t,rfl⟩:=rx
 obtain ⟨t',rfl⟩:=ry
 exact rule i j t t' s _ _ hc ⟨.int (g i j),H,I.tok _,⟨_,rfl⟩,q⟩
theorem opI0 {f:Value→Value→Sem Value}{g:Int→Int→Int}
  (rule:∀ (i j:Int) (t u:Tok) (s:Shared) (Q:Value→Shared→Prop) (E:Value→Shared→Prop),Q (.int (g i j) s.toks) { s with toks:=s.toks + 1 }→wpAny (model X.prog X.w) X.A (f (.int i t) (.int j u)) Q E s):
  OpR X f (rI0 fun i j=>.int (g i j)):=by
 intro pins s σ H x y v u Q I rx ry h
 obtain ⟨i,j,rfl,rfl,q⟩:=h
 obtain ⟨t,rfl⟩:=rx
 obtain ⟨t',rfl⟩:=ry
 exact rule i j t t' s _ _ ⟨.int (g i j),H,I.tok _,⟨_,rfl⟩,q⟩
theorem opB0 {f:Value→Value→Sem Value}{g:Int→Int→Bool}
  (rule:∀ (i j:Int) (t u:Tok) (s:Shared) (Q:Value→Shared→Prop) (E:Value→Shared→Prop),Q (.bool (g i j)) s→wpAny (model X.prog X.w) X.A (f (.int i t) (.int j u)) Q E s):
  OpR X f (rI0 fun i j=>.bl (g i j)):=by
 intro pins s σ H x y v u Q I rx ry h
 obtain ⟨i,j,rfl,rfl,q⟩:=h
 obtain ⟨t,rfl⟩:=rx
 obtain ⟨t',rfl⟩:=ry
 exact rule i j t t' s _ _ ⟨.bl (g i j),H,I,rfl,q⟩
def CDiv (i j:Int):Prop:=0 < j∧j < 1073741824
def CPow (i j:Int):Prop:=0≤j∧j≤1000000∧i.natAbs < 2 ^ 64
def CMul (i j:Int):Prop:=(-(2 ^ 64) < i∧i < 2 ^ 64)∨(-(2 ^ 64) < j∧j < 2 ^ 64)
theorem CMul.ok {i j:Int} (h:CMul i j):IntMulOk i j:=by
 rcases h with ⟨h1,h2⟩ | ⟨h1,h2⟩
 ·exact .of_left (intBits_le_64 h1 h2)
 ·exact .of_right (intBits_le_64 h1 h2)
theorem two_pow_nn (k:Nat):(0:Int)≤2 ^ k:=by
 rw [two_pow_cast]
 exact Int.natCast_nonneg _
theorem op_add:OpR X (binaryOp .Add) (rI0 fun i j=>.int (i + j)):=opI0 fun _ _ _ _ _ _ _ q=>add_int q
theorem op_sub:OpR X (binaryOp .Sub) (rI0 fun i j=>.int (i - j)):=opI0 fun _ _ _ _ _ _ _ q=>sub_int q
theorem op_mul:OpR X (binaryOp .Mult) (rI CMul fun i j=>.int (i * j)):=opI fun _ _ _ _ _ _ _ hc q=>mul_int q hc.ok
theorem op_fdiv:OpR X (binaryOp .FloorDiv) (rI CDiv fun i j=>.int (i / j)):=opI fun i j _ _ _ _ _ hc q=>by
 have h1:(0:Int) < j:=hc.1
 have h2:j < 1073741824:=hc.2
 exact floordiv_int (by omega) (by rw [Int.fdiv_eq_ediv_of_nonneg i (by omega)];exact q) (.inl (PyProof.noPylong_small (by omega)))
theorem op_mod:OpR X (binaryOp .Mod) (rI (fun _ j=>0 < j) fun i j=>.int (i % j)):=opI fun i j _ _ _ _ _ hc q=>by
 have h1:(0:Int) < j:=hc
 exact mod_int' (by omega) (by rw [Int.fmod_eq_emod_of_nonneg i (by omega)];exact q)
theorem op_pow:OpR X (binaryOp .Pow) (rI CPow fun i j=>.int (i ^ j.toNat)):=opI fun _ _ _ _ _ _ _ hc q=>pow_int_small hc.1 hc.2.1 hc.2.2 q
theorem op_shl:OpR X (binaryOp .LShift) (rI CPow fun i j=>.int (i * 2 ^ j.toNat)):=opI fun _ _ _ _ _ _ _ hc q=>lshift_int_small hc.1 hc.2.1 hc.2.2 q
theorem op_shr:OpR X (binaryOp .RShift) (rI (fun _ j=>0≤j) fun i j=>.int (i / 2 ^ j.toNat)):=opI fun i j _ _ _ _ _ hc q=>
 rshift_int hc (by rw [Int.fdiv_eq_ediv_of_nonneg i (two_pow_nn _)];exact q)
theorem op_and:OpR X (binaryOp .BitAnd) (rI0 fun i j=>.int (Builtin.bitAnd i j)):=opI0 fun _ _ _ _ _ _ _ q=>and_int q
end
def scal:V→V→Bool
 | .non,.non=>true | .non,.int _=>true | .int _,.non=>true | .non,.bl _=>true | .bl _,.non=>true | .non,.str _=>true | .str _,.non=>true
 | .int _,.int _=>true | .bl _,.bl _=>true | .str _,.str _=>true | .byt _,.byt _=>true
 | .int _,.str _=>true | .str _,.int _=>true | .bl _,.str _=>true | .str _,.bl _=>true
 | _,_=>false
def rEq:R2:=fun x y H Q=>scal x y=true∧Q (.bl (decide (x=y))) H
def rNe:R2:=fun x y H Q=>scal x y=true∧Q (.bl (!decide (x=y))) H
theorem dec_int {i j:Int}:decide (V.int i=V.int j)=(i == j):=by
 rw [Bool.eq_iff_iff]
 simp
theorem dec_bl {i j:Bool}:decide (V.bl i=V.bl j)=(i == j):=by
 rw [Bool.eq_iff_iff]
 simp
theorem dec_str {i j:Str}:decide (V.str i=V.str j)=(i == j):=by
 rw [Bool.eq_iff_iff]
 simp
theorem dec_byt {i j:Array UInt8}:decide (V.byt i=V.byt j)=(i.toList == j.toList):=by
 rw [Bool.eq_iff_iff]
 cases i
 cases j
 simp
section
variable {X:Cx}{a b c:Expr}{ta tb tc:TE}{pos:Pos}
theorem fin_bl {pins:List (Addr×Obj)}{σ:St}{H:Hp}{s:Shared}{Q:VK}{k k':Bool} (I:Inv X pins σ H s) (q:Q (.bl k) H) (e:k=k'):EP X pins σ Q (.bool k') s:=by
 subst e
 exact ⟨.bl k,H,I,rfl,q⟩
theorem op_eq:OpR X (compareOp .Eq) rEq:=by
 intro pins s σ H x y v u Q I rx ry h
 obtain ⟨hs,q⟩:=h
 cases x with
 | non=>
  cases rx
  cases y with
  | non=>cases ry;exact PySem.EqNone.eq_none_none (fin_bl I q (by simp))
  | bl j=>cases ry;exact PySem.EqNone.eq_none_bool (fin_bl I q (by simp))
  | int j=>obtain ⟨t',rfl⟩:=ry;exact PySem.EqNone.eq_none_int (fin_bl I q (by simp))
  | str j=>obtain ⟨t',rfl⟩:=ry;exact PySem.EqNone.eq_none_str (fin_bl I q (by simp))
  | _=>exact absurd (show false=true from hs) Bool.false_ne_true
 | bl i=>
  cases rx
  cases y with
  | non=>cases ry;exact PySem.EqNone.eq_bool_none (fin_bl I q (by simp))
  | bl j=>cases ry;exact eq_bool (fin_bl I q dec_bl)
  | str j=>obtain ⟨t',rfl⟩:=ry;exact PySem.EqMixed.eq_bool_str (fin_bl I q (by simp))
  | _=>exact absurd (show false=true from hs) Bool.false_ne_true
 | int i=>
  obtain ⟨t,rfl⟩:=rx
  cases y with
  | non=>cases ry;exact PySem.EqNone.eq_int_none (fin_bl I q (by simp))
  | int j=>obtain ⟨t',rfl⟩:=ry;exact eq_int (fin_bl I q dec_int)
  | str j=>obtain ⟨t',rfl⟩:=ry;exact PySem.EqMixed.eq_int_str (fin_bl I q (by simp))
  | _=>exact absurd (show false=true from hs) Bool.false_ne_true
 | str i=>
  obtain ⟨t,rfl⟩:=rx
  cases y with
  | non=>cases ry;exact PySem.EqNone.eq_str_none (fin_bl I q (by simp))
  | bl j=>cases ry;exact PySem.EqMixed.eq_str_bool (fin_bl I q (by simp))
  | int j=>obtain ⟨t',rfl⟩:=ry;exact PySem.EqMixed.eq_str_int (fin_bl I q (by simp))
  | str j=>obtain ⟨t',rfl⟩:=ry;exact eq_str (fin_bl I q dec_str)
  | _=>exact absurd (show false=true from hs) Bool.false_ne_true
 | byt i=>
  obtain ⟨t,rfl⟩:=rx
  cases y with
  | byt j=>obtain ⟨t',rfl⟩:=ry;exact PySem.W.eq_bytes (fin_bl I q dec_byt)
  | _=>exact absurd (show false=true from hs) Bool.false_ne_true
 | _=>cases y<;>exact absurd (show false=true from hs) Bool.false_ne_true
theorem op_ne:OpR X (compareOp .NotEq) rNe:=by
 intro pins s σ H x y v u Q I rx ry h
 obtain ⟨hs,q⟩:=h
 cases x with
 | non=>
  cases rx
  cases y with
  | non=>cases ry;exact PySem.EqNone.ne_none_none (fin_bl I q (by simp))
  | bl j=>cases ry;exact PySem.EqNone.ne_none_bool (fin_bl I q (by simp))
  | int j=>obtain ⟨t',rfl⟩:=ry;exact PySem.EqNone.ne_none_int (fin_bl I q (by simp))
  | str j=>obtain ⟨t',rfl⟩:=ry;exact PySem.EqNone.ne_none_str (fin_bl I q (by simp))
  | _=>exact absurd (show false=true from hs) Bool.false_ne_true
 | bl i=>
  cases rx
  cases y with
  | non=>cases ry;exact PySem.EqNone.ne_bool_none (fin_bl I q (by simp))
  | bl j=>cases ry;exact ne_bool (fin_bl I q (congrArg not dec_bl))
  | str j=>obtain ⟨t',rfl⟩:=ry;exact PySem.EqMixed.ne_bool_str (fin_bl I q (by simp))
  | _=>exact absurd (show false=true from hs) Bool.false_ne_true
 | int i=>
  obtain ⟨t,rfl⟩:=rx
  cases y with
  | non=>cases ry;exact PySem.EqNone.ne_int_none (fin_bl I q (by simp))
  | int j=>obtain ⟨t',rfl⟩:=ry;exact ne_int (fin_bl I q (congrArg not dec_int))
  | str j=>obtain ⟨t',rfl⟩:=ry;exact PySem.EqMixed.ne_int_str (fin_bl I q (by simp))
  | _=>exact absurd (show false=true from hs) Bool.false_ne_true
 | str i=>
  obtain ⟨t,rfl⟩:=rx
  cases y with
  | non=>cases ry;exact PySem.EqNone.ne_str_none (fin_bl I q (by simp))
  | bl j=>cases ry;exact PySem.EqMixed.ne_str_bool (fin_bl I q (by simp))
  | int j=>obtain ⟨t',rfl⟩:=ry;exact PySem.EqMixed.ne_str_int (fin_bl I q (by simp))
  | str j=>obtain ⟨t',rfl⟩:=ry;exact ne_str (fin_bl I q (congrArg not dec_str))
  | _=>exact absurd (show false=true from hs) Bool.false_ne_true
 | byt i=>
  obtain ⟨t,rfl⟩:=rx
  cases y with
  | byt j=>obtain ⟨t',rfl⟩:=ry;exact PySem.W.ne_bytes (fin_bl I q (congrArg not dec_byt))
  | _=>exact absurd (show false=true from hs) Bool.false_ne_true
 | _=>cases y<;>exact absurd (show false=true from hs) Bool.false_ne_true
theorem op_lt:OpR X (compareOp .Lt) (rI0 fun i j=>.bl (decide (i < j))):=opB0 fun _ _ _ _ _ _ _ q=>lt_int q
theorem op_le:OpR X (compareOp .LtE) (rI0 fun i j=>.bl (decide (i≤j))):=opB0 fun _ _ _ _ _ _ _ q=>le_int q
theorem op_gt:OpR X (compareOp .Gt) (rI0 fun i j=>.bl (decide (j < i))):=opB0 fun _ _ _ _ _ _ _ q=>gt_int q
theorem op_ge:OpR X (compareOp .GtE) (rI0 fun i j=>.bl (decide (j≤i))):=opB0 fun _ _ _ _ _ _ _ q=>ge_int q
theorem op_isN:OpR X (compareOp .Is) (fun x y H Q=>y=.non∧Q (.bl (decide (x=.non))) H):=by
 intro pins s σ H x y v u Q I rx ry h
 obtain ⟨rfl,q⟩:=h
 cases ry
 refine is_none_gen (fin_bl I q ?_)
 cases x<;>first
  | (cases rx;rfl)
  | (obtain ⟨t,rfl⟩:=rx;rfl)
theorem op_notN:OpR X (compareOp .IsNot) (fun x y H Q=>y=.non∧Q (.bl (!decide (x=.non))) H):=by
 intro pins s σ H x y v u Q I rx ry h
 obtain ⟨rfl,q⟩:=h
 cases ry
 refine isnot_none_gen (fin_bl I q ?_)
 cases x<;>first
  | (cases rx;rfl)
  | (obtain ⟨t,rfl⟩:=rx;rfl)
def isObj:HO→Bool
 | .lst _=>true
 | .ins _ _ _=>true
 | _=>false
theorem obj_there {pins:List (Addr×Obj)}{s:Shared}{σ:St}{H:Hp}{a:Addr}{o:HO} (I:Inv X pins σ H s) (h:H a=some o) (p:isObj o=true):∃ ob,s.heap.get? a=some ob∧ob.cls≠.type "tuple":=by
 cases o with
 | lst xs=>
  obtain ⟨_,its,n,_,e⟩:xs.length≤sizeLine∧∃ (its:List Value) (n:Nat),Vals xs its∧s.heap.get? a=some { cls:=.type "list",data:=.seq its.toArray n }:=I.hok a _ h
  exact ⟨_,e,(by show Value.type "list"≠.type "tuple";decide +kernel)⟩
 | ins C dx fs=>
  have x:=I.hok a _ h
  obtain ⟨_,_,_,e,_⟩:=x
  exact ⟨_,e,(by show Value.ref C≠.type "tuple";exact fun z=>by cases z)⟩
 | _=>exact absurd (show false=true from p) Bool.false_ne_true
theorem nomark (b:Expr) {op:CmpOp} (h:op≠.In:=by decide) (h2:op≠.NotIn:=by decide):behindInMarks op b=false:=by
 have e1:(op == CmpOp.In)=false:=by cases op<;>first | rfl | exact absurd rfl h
 have e2:(op == CmpOp.NotIn)=false:=by cases op<;>first | rfl | exact absurd rfl h2
 cases b<;>simp [behindInMarks,e1,e2]
theorem pe_cmpR {op:CmpOp}{r:R2} (ho:OpR X (compareOp op) r) (ha:PE X a ta) (hb:PE X b tb) (hm:behindInMarks op b=false):PE X (.Compare a [op] [b] pos) (tOp r ta tb):=by
 intro pins s σ H Q I h
 exact wpAny_Compare1 (binT ha hb I h fun v u s2 x y H2 I2 rx ry q=>ho pins s2 σ H2 x y v u Q I2 rx ry q) hm
def tTest (t:TE):TT:=fun σ H Q=>t σ H fun x H'=>∃ k,x=.bl k∧Q k H'
theorem pt_cmpR {op:CmpOp}{r:R2} (ho:OpR X (compareOp op) r) (ha:PE X a ta) (hb:PE X b tb) (hm:behindInMarks op b=false):PT X (.Compare a [op] [b] pos) (tTest (tOp r ta tb)):=by
 intro pins s σ H Q I h
 refine wpAny_isTrue_Compare1 (thn (ha pins s σ H _ I h) fun v s1 ⟨x,H1,I1,r1,q1⟩=>thn (hb pins s1 σ H1 _ I1 q1) fun u s2 ⟨y,H2,I2,r2,q2⟩=>
  thn (ho pins s2 σ H2 x y v u _ I2 r1 r2 q2) fun c s3 ⟨z,H3,I3,r3,k,e,q3⟩=>?_) hm
 subst e
 cases r3
 exact wpAny_truthy_bool ⟨H3,I3,q3⟩
def tChain (r r':R2) (ta tb tc:TE):TE:=fun σ H Q=>ta σ H fun x H1=>tb σ H1 fun y H2=>r x y H2 fun z H3=>∃ k,z=.bl k∧
 (if k=true then tc σ H3 fun w' H4=>r' y w' H4 Q else Q (.bl false) H3)
theorem pe_chain {op op':CmpOp}{r r':R2} (ho:OpR X (compareOp op) r) (ho':OpR X (compareOp op') r') (ha:PE X a ta) (hb:PE X b tb) (hc:PE X c tc)
  (hm:lastMarks [op,op'] [b,c]=false:=by with_unfolding_all rfl):PE X (.Compare a [op,op'] [b,c] pos) (tChain r r' ta tb tc):=by
 intro pins s σ H Q I h
 refine Compare_chain (thn (ha pins s σ H _ I h) fun v s1 ⟨x,H1,I1,r1,q1⟩=>chain_link (thn (hb pins s1 σ H1 _ I1 q1) fun u s2 ⟨y,H2,I2,r2,q2⟩=>
  thn (ho pins s2 σ H2 x y v u _ I2 r1 r2 q2) fun d s3 ⟨z,H3,I3,r3,k,e,q3⟩=>?_)) hm
 subst e
 cases r3
 refine wpAny_truthy_bool ?_
 cases k with
 | false=>exact ite_ff ⟨.bl false,H3,I3,rfl,q3⟩
 | true=>exact ite_tt (chain_last (thn (hc pins s3 σ H3 _ I3 q3) fun w' s4 ⟨z',H4,I4,r4,q4⟩=>ho' pins s4 σ H4 y z' u w' Q I4 r2 r4 q4))
theorem line63:(sizeLine:Nat) < 2 ^ 63:=by rw [sizeLine_eq];decide
theorem op_add_str:OpR X (binaryOp .Add) (fun x y H Q=>∃ i j,x=.str i∧y=.str j∧i.length + j.length≤sizeLine∧Q (.str (i ++ j)) H):=by
 intro pins s σ H x y v u Q I rx ry h
 obtain ⟨i,j,rfl,rfl,hz,q⟩:=h
 obtain ⟨t,rfl⟩:=rx
 obtain ⟨t',rfl⟩:=ry
 exact add_str (fun t' tk=>⟨.str (i ++ j),H,I.tok _,⟨_,rfl⟩,q⟩) hz
theorem vals1 {x:V}{us:List Value} (r:Vals [x] us):∃ u,us=[u]∧RelV x u:=by
 cases r with
 | cons r1 r2=>cases r2;exact ⟨_,rfl,r1⟩
theorem vals2 {x y:V}{us:List Value} (r:Vals [x,y] us):∃ u w',us=[u,w']∧RelV x u∧RelV y w':=by
 cases r with
 | cons r1 r2=>
  cases r2 with
  | cons r3 r4=>cases r4;exact ⟨_,_,rfl,r1,r3⟩
end
end L2
namespace L2
open PySem PySem.Spec PyProof.Rows
structure ObjM (h:Heap) (x dx C:Addr) (mA:Str→Option Value):Prop where
 obj:h.get? x=some (PySem.W.instObj C dx)
 ns:h.Ns1 dx mA
 ne:dx≠x
theorem lookIn_ns {h:Heap}{dx:Addr}{mA:Str→Option Value} (n:h.Ns1 dx mA):∃ od,h.get? dx=some od∧∀ name,PySem.W.lookIn name od=some (mA name):=by
 obtain ⟨o,es,ep,ho,hd,hk,_,hm⟩:=n
 refine ⟨o,ho,fun name=>?_⟩
 have e:=hm name
 unfold nsFind findBy at e
 rw [← Array.find?_toList] at e
 unfold PySem.W.lookIn
 rw [hd]
 dsimp only
 split
 ·rename_i y q
  rw [q] at e
  exact congrArg some e
 ·rename_i q
  rw [q] at e
  have a:es.toList.any (·.refKey)=false:=by
   rw [List.any_eq_false]
   intro y hy
   obtain ⟨z,t,hkey⟩:=hk y (Array.mem_toList_iff.mp hy)
   simp [DictEntry.refKey,hkey]
  have a':¬ es.toList.any (·.refKey)=true:=by rw [a];exact Bool.false_ne_true
  rw [if_neg a']
  exact congrArg some e
theorem ObjM.look {h:Heap}{x dx C:Addr}{mA:Str→Option Value} (I:ObjM h x dx C mA):∃ od,PySem.W.InstAt h x (PySem.W.instObj C dx) C (some od)∧∀ name,PySem.W.lookIn name od=some (mA name):=
 let ⟨od,ho,hl⟩:=lookIn_ns I.ns
 ⟨od,⟨I.obj,rfl,rfl,ho⟩,hl⟩
section
variable {prog:Program}{w:World}{A:Around}{E:Value→Shared→Prop}{s:Shared}{K:PySem.W.Frag}{x dx C f:Addr}{mA:Str→Option Value}{name:Str}{v:Value}
theorem get_map {expr:Bool}{Q:Value→Shared→Prop} (X:K.In s.heap) (I:ObjM s.heap x dx C mA) (hg:PySem.W.plainGet K C name=true) (hh:PySem.W.hasDictIn K C=true)
  (ha:PySem.W.findIn K (.ref C) name=some none) (hv:mA name=some v) (hv':PySem.W.handedIn v=true) (h:Q v { s with toks:=s.toks + 1 }):
  wpAny (model prog w) A (getAttr (.ref x) name expr) Q E s:=by
 obtain ⟨od,J,hl⟩:=I.look
 exact PySem.W.get_value X J (PySem.W.plainGet_of hg).1 (PySem.W.findObj_own hh ha rfl (by rw [hl,hv])) hv' h
theorem get_meth {pl:Sem Bool}{Q:Value×List Value→Shared→Prop} (X:K.In s.heap) (I:ObjM s.heap x dx C mA) (hg:PySem.W.plainGet K C name=true)
  (hf:PySem.W.findIn K (.ref C) name=some (some (.ref f))) (ht:PySem.W.isFn K (.ref f)=true) (hv:mA name=none) (h:Q (.ref f,[.ref x]) s):
  wpAny (model prog w) A (getMethod (.ref x) name pl) Q E s:=by
 obtain ⟨od,J,hl⟩:=I.look
 exact PySem.W.method_fn X J (PySem.W.plainGet_of hg).1 (PySem.W.plainGet_of hg).2 hf (beq_iff_eq.mp ht) (by show (PySem.W.lookIn name od).map (·.isSome)=some false;rw [hl,hv];rfl) h
theorem set_map {ns:List Str}{Q:Unit→Shared→Prop} (X:K.In s.heap) (I:ObjM s.heap x dx C mA)
  (hs:PySem.W.findIn K (.ref C) "__setattr__"=some (some (.builtin "object.__setattr__"))) (hp:PySem.W.plainOver K C=true) (ht:PySem.W.takerIn K C name=some none) (hh:PySem.W.hasDictIn K C=true)
  (hw:PySem.Within mA ns) (hsz:ns.length≤sizeLine)
  (h:∀ h',ObjM h' x dx C (fun y=>if y=name then some v else mA y)→Heap.SameBut dx s.heap h'→Q () { s with heap:=h',toks:=s.toks + 2 }):
  wpAny (model prog w) A (setAttr (.ref x) name v) Q E s:=by
 obtain ⟨od,J,hl⟩:=I.look
 refine PySem.W.set_plain X J hs (PySem.W.osa_open (s:={ s with toks:=s.toks + 1 }) (r:=none) X J hp ht fun b=>?_)
 obtain ⟨cd,hc,hd'⟩:=PySem.W.any_some hh
 have hx:s.heap.get? x=some ⟨.ref C,some dx,.plain,#[]⟩:=I.obj
 refine wpAny_bind (wpAny_pure (wpAny_bind (wpAny_bind (wpAny_loadPart hx (wpAny_bind (PySem.W.Looks.here (s:={ s with toks:=s.toks + 1 }) (PySem.W.looks_clsIn X hc) ?_))))))
 rw [hd']
 refine wpAny_pure (a:=some dx) (wpAny_bind (wpAny_pure (wpAny_bind ?_)))
 refine wpAny_nsSet1 (s:={ s with toks:=s.toks + 1 }) I.ns fun h' hn2 hs2=>?_
 obtain ⟨oD,esD,epD,hoD,hdD,hcD⟩:=hn2.count (PySem.Within.cons name v hw)
 refine wpAny_bind (wpAny_lookBehind hoD (by rw [hdD];exact pastItsLine_dict (Nat.le_trans hcD (by rw [List.length_cons];omega))) ?_)
 exact wpAny_pure (h _ ⟨(hs2.2 _ (Ne.symm I.ne)).trans I.obj,hn2,I.ne⟩ hs2)
theorem make_map {R:Result→Shared→Prop}{vs:List Value}{kw:List (Str×Value)} (X:K.In s.heap) (hm:PySem.W.makesIn K C=true)
  (hi:PySem.W.findIn K (.ref C) "__init__"=some (some (.ref f))) (hf:PySem.W.typeIn K (.ref f)=some (.type "function"))
  (h:codeAny (model prog w) (A.under (.builtin "type.__call__" ⟨.ref C :: vs,kw⟩)) (.call (.ref f) ⟨.ref (s.heap.objs.size + 1) :: vs,kw⟩) (PySem.W.InitBack (s.heap.objs.size + 1) R)
   { s with heap:=(s.heap.push PySem.W.emptyDict).push (PySem.W.instObj C s.heap.objs.size) }):
  codeAny (model prog w) A (.call (.ref C) ⟨vs,kw⟩) R s:=by
 obtain ⟨hh,g,d,t,os⟩:=s
 exact PySem.W.make_core (PySem.W.makes_of X hm) (PySem.W.looks_findIn X hi) (fun self=>PySem.W.bind_fn X self hf) (.inl rfl) h
theorem make_map0 {R:Result→Shared→Prop} (X:K.In s.heap) (hm:PySem.W.makesIn K C=true)
  (hi:PySem.W.findIn K (.ref C) "__init__"=some (some (.builtin "object.__init__")))
  (hb:∀ self,PySem.W.Looks (model prog w) s.heap (bindSpecial (.builtin "object.__init__") self) (.builtin "object.__init__",[self]))
  (h:codeAny (model prog w) (A.under (.builtin "type.__call__" ⟨[.ref C],[]⟩)) (.call (.builtin "object.__init__") ⟨[.ref (s.heap.objs.size + 1)],[]⟩) (PySem.W.InitBack (s.heap.objs.size + 1) R)
   { s with heap:=(s.heap.push PySem.W.emptyDict).push (PySem.W.instObj C s.heap.objs.size) }):
  codeAny (model prog w) A (.call (.ref C) ⟨[],[]⟩) R s:=by
 obtain ⟨hh,g,d,t,os⟩:=s
 exact PySem.W.make_core (PySem.W.makes_of X hm) (PySem.W.looks_findIn X hi) hb (.inr ⟨rfl,rfl⟩) h
end
def putF (f:Str) (v:V):List (Str×V)→List (Str×V)
 | []=>[(f,v)]
 | (g,x) :: r=>if g=f then (g,v) :: r else (g,x) :: putF f v r
theorem lookup_putF (f g:Str) (v:V):∀ fs:List (Str×V),(putF f v fs).lookup g=if g=f then some v else fs.lookup g
 | []=>by
  show List.lookup g [(f,v)]=_
  by_cases h:g=f
  ·have hb:(g == f)=true:=beq_iff_eq.mpr h
   simp only [List.lookup,hb,if_pos h]
  ·have hb:(g == f)=false:=beq_eq_false_iff_ne.mpr h
   simp only [List.lookup,hb,if_neg h]
 | (k,x) :: r=>by
  have ih:=lookup_putF f g v r
  rw [show putF f v ((k,x) :: r)=(if k=f then (k,v) :: r else (k,x) :: putF f v r) from rfl]
  by_cases hk:k=f
  ·rw [if_pos hk]
   by_cases h:g=k
   ·have hb:(g == k)=true:=beq_iff_eq.mpr h
    simp only [List.lookup,hb,if_pos (h.trans hk)]
   ·have hb:(g == k)=false:=beq_eq_false_iff_ne.mpr h
    simp only [List.lookup,hb,if_neg (fun e:g=f=>h (e.trans hk.symm))]
  ·rw [if_neg hk]
   by_cases h:g=k
   ·have hb:(g == k)=true:=beq_iff_eq.mpr h
    simp only [List.lookup,hb,if_neg (fun e:g=f=>hk (h.symm.trans e))]
   ·have hb:(g == k)=false:=beq_eq_false_iff_ne.mpr h
    simp only [List.lookup,hb]
    exact ih
theorem keys_putF (f:Str) (v:V):∀ fs:List (Str×V),f∈(putF f v fs).map (·.1)∧∀ g,g∈fs.map (·.1)→g∈(putF f v fs).map (·.1)
 | []=>⟨by simp [putF],fun g h=>by simp at h⟩
 | (k,x) :: r=>by
  obtain ⟨i1,i2⟩:=keys_putF f v r
  rw [show putF f v ((k,x) :: r)=(if k=f then (k,v) :: r else (k,x) :: putF f v r) from rfl]
  by_cases hk:k=f
  ·rw [if_pos hk]
   subst hk
   exact ⟨by simp,fun g h=>by simpa using h⟩
  ·rw [if_neg hk]
   refine ⟨?_,fun g h=>?_⟩
   ·rw [List.map_cons]
    exact List.mem_cons_of_mem _ i1
   ·rw [List.map_cons] at h ⊢
    rcases List.mem_cons.mp h with e | e
    ·exact List.mem_cons.mpr (.inl e)
    ·exact List.mem_cons_of_mem _ (i2 g e)
theorem length_putF (f:Str) (v:V):∀ fs:List (Str×V),(putF f v fs).length≤fs.length + 1
 | []=>by simp [putF]
 | (k,x) :: r=>by
  have ih:=length_putF f v r
  rw [show putF f v ((k,x) :: r)=(if k=f then (k,v) :: r else (k,x) :: putF f v r) from rfl]
  by_cases hk:k=f
  ·rw [if_pos hk,List.length_cons,List.length_cons];omega
  ·rw [if_neg hk,List.length_cons,List.length_cons];omega
theorem RelO.some_of {v:V}{o:Option Value} (r:RelO (some v) o):∃ u,o=some u∧RelV v u:=by
 cases o with
 | none=>exact (show False from r).elim
 | some u=>exact ⟨u,rfl,r⟩
theorem RelO.none_of {o:Option Value} (r:RelO none o):o=none:=by
 cases o with
 | none=>rfl
 | some u=>exact (show False from r).elim
theorem handed_of {v:V}{u:Value} (r:RelV v u):PySem.W.handedIn u=true:=by
 cases v with
 | non=>cases (show u=Value.none from r);rfl
 | bl b=>cases (show u=Value.bool b from r);rfl
 | int i=>obtain ⟨t,e⟩:=(show ∃ t,u=Value.int i t from r);cases e;rfl
 | str x=>obtain ⟨t,e⟩:=(show ∃ t,u=Value.str x t from r);cases e;rfl
 | byt b=>obtain ⟨t,e⟩:=(show ∃ t,u=Value.bytes b t from r);cases e;rfl
 | flt b=>obtain ⟨t,e⟩:=(show ∃ t,u=Value.float b t from r);cases e;rfl
 | ref a=>cases (show u=Value.ref a from r);rfl
 | ty n=>cases (show u=Value.type n from r);rfl
section
variable {P:Program}{w:World}{H H':Hp}{h h':Heap}{a C dx:Addr}{fs fs':List (Str×V)}
theorem ins_get (hok:HOk P w H h) (e:H a=some (.ins C dx fs)):∃ mA,ObjM h a dx C mA∧(∀ f,RelO (fs.lookup f) (mA f))∧PySem.Within mA (fs.map (·.1))∧fs.length≤1000∧H dx=some (.own a):=by
 obtain ⟨d,z,ne,ob,mA,n,r,q⟩:=(show ObjOk P w H h a (.ins C dx fs) from hok a _ e)
 exact ⟨mA,⟨ob,n,ne⟩,r,q,z,d⟩
end
structure Cls (K:PySem.W.Frag) (C:Addr):Prop where
 pg:PySem.W.plainGet K C Str.empty=true
 hd:PySem.W.hasDictIn K C=true
 po:PySem.W.plainOver K C=true
 sa:PySem.W.findIn K (.ref C) "__setattr__"=some (some (.builtin "object.__setattr__"))
theorem Cls.get {K:PySem.W.Frag}{C:Addr} (c:Cls K C) (f:Str):PySem.W.plainGet K C f=true:=c.pg
def NoAttr (K:PySem.W.Frag) (C:Addr) (f:Str):Prop:=PySem.W.findIn K (.ref C) f=some none
theorem NoAttr.taker {K:PySem.W.Frag}{C:Addr}{f:Str} (n:NoAttr K C f):PySem.W.takerIn K C f=some none:=by
 unfold PySem.W.takerIn
 rw [show PySem.W.findIn K (.ref C) f=some none from n]
 rfl
structure Con (K:PySem.W.Frag) (C:Addr) (f:Str) (v:V) (u:Value):Prop where
 at_:PySem.W.findIn K (.ref C) f=some (some u)
 rel:RelV v u
 get:PySem.W.specialIn K u "__get__"=some none
 cp:PySem.W.copiedNames.contains f=false
structure Meth (K:PySem.W.Frag) (C:Addr) (m:Str) (f:Addr):Prop where
 at_:PySem.W.findIn K (.ref C) m=some (some (.ref f))
 fn:PySem.W.isFn K (.ref f)=true
 kp:PySem.W.keepIn K (.ref f)=true
section
variable {X:Cx}{pins:List (Addr×Obj)}{σ:St}{H:Hp}{s:Shared}{a C dx:Addr}{fs:List (Str×V)}{f:Str}{v:V}{A:Around}{E:Value→Shared→Prop}
theorem getattr_ok {b:Bool}{Q:Value→Shared→Prop} (I:Inv X pins σ H s) (e:H a=some (.ins C dx fs)) (c:Cls X.K C) (n:NoAttr X.K C f) (l:fs.lookup f=some v)
  (h:∀ u s',Inv X pins σ H s'→RelV v u→Q u s'):wpAny (model X.prog X.w) A (getAttr (.ref a) f b) Q E s:=by
 obtain ⟨mA,O,r,_,_,_⟩:=ins_get I.hok e
 obtain ⟨u,hu,ru⟩:=RelO.some_of (v:=v) (o:=mA f) (by rw [← l];exact r f)
 exact get_map I.kIn O (c.get f) c.hd n hu (handed_of ru) (h u _ (I.tok _) ru)
theorem getmeth_ok {m:Str}{g:Addr}{pl:Sem Bool}{Q:Value×List Value→Shared→Prop} (I:Inv X pins σ H s) (e:H a=some (.ins C dx fs)) (c:Cls X.K C) (k:Meth X.K C m g) (l:fs.lookup m=none)
  (h:Q (.ref g,[.ref a]) s):wpAny (model X.prog X.w) A (getMethod (.ref a) m pl) Q E s:=by
 obtain ⟨mA,O,r,_,_,_⟩:=ins_get I.hok e
 have hn:mA m=none:=RelO.none_of (by rw [← l];exact r m)
 exact get_meth I.kIn O (c.get m) k.at_ k.fn hn h
theorem setattr_ok {y:V}{u:Value}{Q:Unit→Shared→Prop} (I:Inv X pins σ H s) (e:H a=some (.ins C dx fs)) (c:Cls X.K C) (n:NoAttr X.K C f) (hl:fs.length < 1000) (ry:RelV y u)
  (h:∀ s',Inv X pins σ (upd H a (.ins C dx (putF f y fs))) s'→Q () s'):wpAny (model X.prog X.w) A (setAttr (.ref a) f u) Q E s:=by
 obtain ⟨mA,O,r,wi,_,ho⟩:=ins_get I.hok e
 have hz:(fs.map (·.1)).length≤sizeLine:=by rw [List.length_map,sizeLine_eq];omega
 refine set_map I.kIn O c.sa c.po n.taker c.hd wi hz fun h' O' sb=>h _ ?_
 have hd:∃ o,h'.get? dx=some o:=let ⟨o,_,_,e',_⟩:=O'.ns;⟨o,e'⟩
 refine I.write (x:=a) (e:=dx) (by rw [e];exact True.intro) (.inr ho) (fun b q hb z=>(sb.2 b hb).trans z) hd ?_
 refine ⟨by rw [upd_ne O.ne];exact ho,?_,O.ne,O'.obj,_,O'.ns,fun g=>?_,fun g hg=>?_⟩
 ·have:=length_putF f y fs;omega
 ·show RelO ((putF f y fs).lookup g) (if g=f then some u else mA g)
  rw [lookup_putF]
  by_cases q:g=f
  ·rw [if_pos q,if_pos q];exact ry
  ·rw [if_neg q,if_neg q];exact r g
 ·by_cases q:g=f
  ·rw [q];exact (keys_putF f y fs).1
  ·refine (keys_putF f y fs).2 g (wi g fun z=>hg ?_)
   show (if g=f then some u else mA g)=none
   rw [if_neg q];exact z
theorem Inv.made (I:Inv X pins σ H s):Inv X pins σ (upd (upd H s.heap.objs.size (.own (s.heap.objs.size + 1))) (s.heap.objs.size + 1) (.ins C s.heap.objs.size []))
  { s with heap:=(s.heap.push PySem.W.emptyDict).push (PySem.W.instObj C s.heap.objs.size) }:=by
 have e1:(s.heap.push PySem.W.emptyDict).get? s.heap.objs.size=some PySem.W.emptyDict:=Heap.get?_push_size s.heap rfl
 have e2:((s.heap.push PySem.W.emptyDict).push (PySem.W.instObj C s.heap.objs.size)).get? (s.heap.objs.size + 1)=some (PySem.W.instObj C s.heap.objs.size):=by
  have:=Heap.get?_push_size (s.heap.push PySem.W.emptyDict) (o:=PySem.W.instObj C s.heap.objs.size) rfl
  rwa [Heap.size_push] at this
 have e3:(s.heap.push PySem.W.emptyDict).Ns s.heap.objs.size (fun _=>none):=⟨PySem.W.emptyDict,#[],_,e1,rfl,(fun e he=>absurd he (by simp)),fun _=>rfl⟩
 have I1:=I.laid (a:=s.heap.objs.size) (o:=.own (s.heap.objs.size + 1)) (h':=s.heap.push PySem.W.emptyDict) (t':=s.toks) (fun b u q=>Heap.get?_push_of_some _ q) (Nat.le_refl _) ⟨_,e1⟩
 refine I1.laid (a:=s.heap.objs.size + 1) (o:=.ins C s.heap.objs.size []) (t':=s.toks) (fun b u q=>Heap.get?_push_of_some _ q) (Nat.le_of_eq (Heap.size_push _ _)) ?_
 have ne:s.heap.objs.size≠s.heap.objs.size + 1:=Nat.ne_of_lt (Nat.lt_succ_self _)
 refine ⟨by rw [upd_ne ne,upd_same],Nat.zero_le _,ne,e2,fun _=>none,(Heap.Ns1.of_empty e3).at fun o q=>Heap.get?_push_of_some _ q,fun _=>True.intro,fun y hy=>absurd rfl hy⟩
theorem attr_of {prog:Program}{w:World}{env:Env}{e:Expr}{f:Str}{pos:Pos}{s:Shared}{Q:Value→Shared→Prop} (hb:attributeBase e f env (eval e env)=eval e env)
  (h:wpAny (model prog w) A (eval e env) (fun o s₁=>wpAny (model prog w) A (getAttr o f true) Q E s₁) E s):wpAny (model prog w) A (eval (.Attribute e f pos) env) Q E s:=
 Attribute_any_ h (by rw [arm_eval_Attribute,hb])
end
def tFld (K:PySem.W.Frag) (ta:TE) (f:Str):TE:=fun σ H Q=>ta σ H fun x H1=>∃ a C dx fs v,x=.ref a∧H1 a=some (.ins C dx fs)∧Cls K C∧NoAttr K C f∧fs.lookup f=some v∧Q v H1
def sFld (K:PySem.W.Frag) (ta tv:TE) (f:Str):TS:=fun D σ H=>tv σ H fun y H1=>ta σ H1 fun x H2=>∃ a C dx fs,x=.ref a∧H2 a=some (.ins C dx fs)∧Cls K C∧NoAttr K C f∧fs.length < 1000∧
 D.nx σ (upd H2 a (.ins C dx (putF f y fs)))
section
variable {X:Cx}{o e value:Expr}{f:Str}{pos pos' tpos:Pos}{ta tv:TE}
theorem pe_fld (he:PE X e ta) (hb:attributeBase e f X.env (eval e X.env)=eval e X.env):PE X (.Attribute e f pos) (tFld X.K ta f):=by
 intro pins s σ H Q I h
 refine attr_of hb (thn (he pins s σ H _ I h) fun u s1 ⟨x,H1,I1,rx,a,C,dx,fs,v,ex,ea,c,n,l,q⟩=>?_)
 subst ex
 obtain rfl:u=Value.ref a:=rx
 exact getattr_ok I1 ea c n l fun u' s2 I2 ru=>⟨v,H1,I2,ru,q⟩
theorem ps_fld (ha:PE X o ta) (hv:PE X value tv) (hs:swapsWith value (some (.Attribute o f pos')) pos.line X.env=pure false):PS X (.Assign [.Attribute o f pos'] value pos) (sFld X.K ta tv f):=by
 intro pins s σ H D I h
 refine plainObj_wpAny_Assign_Attribute (thn (hv pins s σ H _ I h) fun u s1 ⟨y,H1,I1,ry,q⟩=>thn (ha pins s1 σ H1 _ I1 q) fun ov s2 ⟨x,H2,I2,rx,a,C,dx,fs,ex,ea,c,n,l,q2⟩=>?_) hs
 subst ex
 obtain rfl:ov=Value.ref a:=rx
 exact setattr_ok I2 ea c n l ry fun s3 I3=>⟨σ,_,I3,q2⟩
end
section
variable {X:Cx}{pins:List (Addr×Obj)}{σ:St}{H:Hp}{s:Shared}{A:Around}{E:Value→Shared→Prop}{Q:Value→Shared→Prop}{c:Value}{b:Bool}
inductive TyOf (K:PySem.W.Frag) (H:Hp):V→Value→Prop where
 | non:TyOf K H .non (.type "NoneType")
 | bl (x:Bool):TyOf K H (.bl x) (.type "bool")
 | int (i:Int):TyOf K H (.int i) (.type "int")
 | str (x:Str):TyOf K H (.str x) (.type "str")
 | flt (x:UInt64):TyOf K H (.flt x) (.type "float")
 | lst {a:Addr}{xs:List V} (e:H a=some (.lst xs)):TyOf K H (.ref a) (.type "list")
 | frz {a:Addr}{o:Obj}{xs:List V} (e:H a=some (.frz o (.lst xs))):TyOf K H (.ref a) (.type "list")
 | tup {a:Addr}{xs:List V} (e:H a=some (.tup xs)):TyOf K H (.ref a) (.type "tuple")
 | dK {a:Addr}{kvs:List (Key×V)} (e:H a=some (.dK kvs)):TyOf K H (.ref a) (.type "dict")
 | dT {a:Addr}{kvs:List (List Key×V)} (e:H a=some (.dT kvs)):TyOf K H (.ref a) (.type "dict")
 | ins {a C dx:Addr}{fs:List (Str×V)} (e:H a=some (.ins C dx fs)) (cl:Cls K C) (ha:PySem.W.findIn K (.ref C) "__class__"=some (some (.builtin "object.__class__")))
   (hn:PySem.W.specialIn K (.builtin "object.__class__") "__get__"=some (some (.builtin "getset_descriptor.__get__"))) (htk:PySem.W.takesIn K (.builtin "object.__class__")=some true)
   (hm:PySem.W.mroIn K C (.type "object")=some true):TyOf K H (.ref a) (.ref C)
theorem isinst_ok {x:V}{u t:Value} (I:Inv X pins σ H s) (rx:RelV x u) (ty:TyOf X.K H x t) (e:PySem.W.kitOne X.K t c=some b) (h:∀ tk,Q (.bool b) { s with toks:=tk }):
  wpAny (model X.prog X.w) A (call (.builtin "isinstance") [u,c]) Q E s:=by
 cases ty with
 | non=>cases (show u=Value.none from rx);exact PySem.W.kia_one PySem.W.kitx_none I.kIn True.intro e (fun z=>nomatch z) h
 | bl y=>cases (show u=Value.bool y from rx);exact PySem.W.kia_one PySem.W.kitx_bool I.kIn True.intro e (fun z=>nomatch z) h
 | int i=>obtain ⟨t,q⟩:=(show ∃ t,u=Value.int i t from rx);cases q;exact PySem.W.kia_one PySem.W.kitx_int I.kIn True.intro e (fun z=>nomatch z) h
 | str y=>obtain ⟨t,q⟩:=(show ∃ t,u=Value.str y t from rx);cases q;exact PySem.W.kia_one PySem.W.kitx_str I.kIn True.intro e (fun z=>nomatch z) h
 | flt y=>obtain ⟨t,q⟩:=(show ∃ t,u=Value.float y t from rx);cases q;exact PySem.W.kia_one PySem.W.kitx_float I.kIn True.intro e (fun z=>nomatch z) h
 | @lst a xs ea=>
  cases (show u=Value.ref a from rx)
  obtain ⟨_,_,n,_,h1⟩:=(show ObjOk X.prog X.w H s.heap a (.lst xs) from I.hok a _ ea)
  exact PySem.W.kia_one PySem.W.kitx_list I.kIn ⟨_,h1,rfl⟩ e (fun z=>nomatch z) h
 | @frz a ob xs ea=>
  cases (show u=Value.ref a from rx)
  obtain ⟨_,_,_,n,_,h1⟩:=(show ObjOk X.prog X.w H s.heap a (.frz ob (.lst xs)) from I.hok a _ ea)
  exact PySem.W.kia_one PySem.W.kitx_list I.kIn ⟨_,h1,rfl⟩ e (fun z=>nomatch z) h
 | @tup a xs ea=>
  cases (show u=Value.ref a from rx)
  obtain ⟨_,_,_,p⟩:=(show ObjOk X.prog X.w H s.heap a (.tup xs) from I.hok a _ ea)
  obtain ⟨o,h1,h2,_⟩:=p
  exact PySem.W.kia_one PySem.W.kitx_tuple I.kIn ⟨o,h1,h2⟩ e (fun z=>nomatch z) h
 | @dK a kvs ea=>
  cases (show u=Value.ref a from rx)
  obtain ⟨_,_,vs,_,p⟩:=(show ObjOk X.prog X.w H s.heap a (.dK kvs) from I.hok a _ ea)
  obtain ⟨o,es,ep,h1,h2,_⟩:=p
  exact PySem.W.kia_one PySem.W.kitx_dict I.kIn ⟨o,h1,h2.1⟩ e (fun z=>nomatch z) h
 | @dT a kvs ea=>
  cases (show u=Value.ref a from rx)
  obtain ⟨_,_,xs,_,o,es,ep,h1,h2,_⟩:=(show ObjOk X.prog X.w H s.heap a (.dT kvs) from I.hok a _ ea)
  exact PySem.W.kia_one PySem.W.kitx_dict I.kIn ⟨o,h1,h2.1⟩ e (fun z=>nomatch z) h
 | @ins a C dx fs ea cl ha hn htk hm=>
  cases (show u=Value.ref a from rx)
  obtain ⟨mA,O,_⟩:=ins_get I.hok ea
  obtain ⟨od,J,_⟩:=O.look
  exact PySem.W.kia_one (PySem.W.kitx_own (cl.get _) cl.hd ha hn htk hm) I.kIn J e (fun z=>nomatch z) h
end
end L2
namespace L2
open PySem PySem.Spec PyProof.Rows
structure Room (k:Nat) (A:Around):Prop where
 hd:A.handled=none
 dp:A.depth + 3 * k + 5 < recursionLimit
 un:A.units + 16 * k + 200 < cLine
theorem Room.mono {j k:Nat}{A:Around} (r:Room k A) (h:j≤k):Room j A:=⟨r.hd,by have:=r.dp;omega,by have:=r.un;omega⟩
theorem Room.deeper {k:Nat}{A:Around} (r:Room (k + 1) A) (env:Env):Room k (A.deeper env):=
 ⟨r.hd,by have:=r.dp;show A.depth + 1 + 3 * k + 5 < _;omega,by have:=r.un;show A.units + 3 + 16 * k + 200 < _;omega⟩
theorem make_depth {A:Around}{C:Addr}{us:List Value}{kw:List (Str×Value)}:(A.under (.builtin "type.__call__" ⟨.ref C :: us,kw⟩)).depth=A.depth + 1:=by
 first | rfl | simp [Around.under,Code.weight,Code.isCreation,Code.isGuard,Code.isCaller,Code.frames,Code.isFrame,guardIds]
theorem make_units {A:Around}{C:Addr}{us:List Value}{kw:List (Str×Value)}:(A.under (.builtin "type.__call__" ⟨.ref C :: us,kw⟩)).units=A.units + 1:=by
 first | rfl | simp [Around.under,Code.cUnits,Code.frames,Code.isFrame]
theorem Room.make {k:Nat}{A:Around} (r:Room (k + 1) A) (C:Addr) (us:List Value) (kw:List (Str×Value)):Room k (A.under (.builtin "type.__call__" ⟨.ref C :: us,kw⟩)):=
 ⟨r.hd,by have:=r.dp;rw [make_depth];omega,by have:=r.un;rw [make_units];omega⟩
theorem Room.depth {k:Nat}{A:Around} (r:Room k A):A.depth < recursionLimit:=by have:=r.dp;omega
theorem Room.units {k:Nat}{A:Around} (r:Room k A):A.units + 64 < cLine:=by have:=r.un;omega
def tNil:TA:=fun _ H Q=>Q [] H
def tCons (ta:TE) (tr:TA):TA:=fun σ H Q=>ta σ H fun x H1=>tr σ H1 fun xs H2=>Q (x :: xs) H2
section
variable {X:Cx}{e:Expr}{es:List Expr}{te:TE}{t:TA}{pos:Pos}
theorem pa_nil:PA X [] tNil:=fun _ _ _ _ H Q I h=>Calls.spliced_nil ⟨[],H,I,.nil,h⟩
theorem pa_cons (ha:PE X e te) (hr:PA X es t) (hs:starEach (e :: es) X.env=(false,eval e X.env) :: starEach es X.env:=by rfl):PA X (e :: es) (tCons te t):=by
 intro pos pins s σ H Q I h
 rw [hs]
 show wpAny _ _ (spliced ((false,eval e X.env) :: backTo pos (starEach es X.env))) _ _ s
 refine Calls.spliced_cons (thn (ha pins s σ H _ I h) fun u s1 ⟨x,H1,I1,r1,q1⟩=>?_)
 exact thn (hr pos pins s1 σ H1 _ I1 q1) fun us s2 ⟨xs,H2,I2,r2,q2⟩=>⟨x :: xs,H2,I2,.cons r1 r2,q2⟩
def tTup (t:TA):TE:=fun σ H Q=>t σ H fun xs H1=>xs.length≤sizeLine∧∀ p,H1 p=none→Q (.ref p) (upd H1 p (.tup xs))
def tLst (t:TA):TE:=fun σ H Q=>t σ H fun xs H1=>xs.length≤sizeLine∧∀ p,H1 p=none→Q (.ref p) (upd H1 p (.lst xs))
theorem pe_tup {x1} (h:PA X es t):PE X (.Tuple es x1 pos) (tTup t):=by
 intro pins s σ H Q I hq
 refine wpAny_Tuple_spliced (thn (h pos pins s σ H _ I hq) fun us s1 ⟨xs,H1,I1,r,z,q⟩=>⟨by rw [← r.length];exact z,?_⟩)
 have hf:H1 s1.heap.objs.size=none:=I1.hok.fresh (Nat.le_refl _)
 refine ⟨.ref s1.heap.objs.size,upd H1 s1.heap.objs.size (.tup xs),I1.laid (t':=s1.toks) (fun b u e=>Heap.get?_push_of_some _ e) (Nat.le_refl _) ?_,rfl,q _ hf⟩
 exact ⟨z,us,r,⟨_,Heap.get?_push_size _ rfl,rfl,_,rfl⟩⟩
theorem pe_lst (h:PA X es t):PE X (.List es pos) (tLst t):=by
 intro pins s σ H Q I hq
 refine wpAny_List_spliced (thn (h pos pins s σ H _ I hq) fun us s1 ⟨xs,H1,I1,r,z,q⟩=>⟨by rw [← r.length];exact z,?_⟩)
 have hf:H1 s1.heap.objs.size=none:=I1.hok.fresh (Nat.le_refl _)
 refine ⟨.ref s1.heap.objs.size,upd H1 s1.heap.objs.size (.lst xs),I1.laid (t':=s1.toks) (fun b u e=>Heap.get?_push_of_some _ e) (Nat.le_refl _) ?_,rfl,q _ hf⟩
 exact ⟨z,us,0,r,Heap.get?_push_size _ rfl⟩
end
abbrev Sp:=List V→Hp→VK→XK→Prop
abbrev CXT:=List Env→Hp→Shared→XK→Value→Shared→Prop
structure Env0 (P:Program) (w:World) (K:PySem.W.Frag) (mg:Str→Option Value) (base:Heap) (A:Around) (outer:List Env) (s:Shared) (H:Hp):Prop where
 frames:A.frames=some outer
 mod:Mod K mg base
 bs:∀ b o,base.get? b=some o→s.heap.get? b=some o∧H b=none
 bsz:base.objs.size≤s.heap.objs.size
 funs:s.heap.FunFrames base outer
 frf:∀ b∈frs outer,H b=none
 hok:HOk P w H s.heap
 bare:AllBare s.gens
def CE (outer:List Env) (P:Program) (w:World) (H:Hp) (s:Shared) (Q:VK) (u:Value) (s':Shared):Prop:=
 ∃ v H',s'.os=s.os∧AllBare s'.gens∧Un (frs outer) [] H H' s.heap s'.heap∧HOk P w H' s'.heap∧RelV v u∧Q v H'
def CR (CX:CXT) (outer:List Env) (P:Program) (w:World) (H:Hp) (s:Shared) (Q:VK) (E:XK) (r:Result) (s':Shared):Prop:=
 match r with
 | .ok (.ret u)=>CE outer P w H s Q u s'
 | .ok _=>False
 | .error e=>CX outer H s E e s'
structure FnOk (P:Program) (w:World) (K:PySem.W.Frag) (mg:Str→Option Value) (base:Heap) (CX:CXT) (k:Nat) (f:Addr) (fd:FuncData) (ps:List Str) (sp:Sp):Prop where
 len:∀ vs H Q E,sp vs H Q E→vs.length=ps.length
 run:∀ (A:Around) (outer:List Env) (s:Shared) (H:Hp) (args:Args) (us:List Value) (vs:List V) (Q:VK) (E:XK),Room k A→Env0 P w K mg base A outer s H→BindsTo s fd args (ps.zip us)→Vals vs us→sp vs H Q E→
  codeAny (model P w) A (.call (.ref f) args) (CR CX outer P w H s Q E) s
theorem Env0.make {P:Program}{w:World}{K:PySem.W.Frag}{mg:Str→Option Value}{base:Heap}{A:Around}{outer:List Env}{s:Shared}{H:Hp} (e:Env0 P w K mg base A outer s H) (C:Addr) (us:List Value) (kw:List (Str×Value)):
  Env0 P w K mg base (A.under (.builtin "type.__call__" ⟨.ref C :: us,kw⟩)) outer s H:=⟨by first | exact e.frames | (simpa [Around.under,Code.envs,Code.isFrame,pushEnvs] using e.frames),e.mod,e.bs,e.bsz,e.funs,e.frf,e.hok,e.bare⟩
section
variable {X:Cx}{pins:List (Addr×Obj)}{σ:St}{H:Hp}{s s':Shared}
theorem Inv.env0 (I:Inv X pins σ H s):Env0 X.prog X.w X.K X.mg X.base X.A X.stack s H:=
 ⟨I.ok.frames,I.ok.mod,I.bs,Nat.le_trans I.ok.bsz I.sz,I.stack,I.stkFree,I.hok,I.bare⟩
theorem Inv.after {Q:VK}{u:Value} (I:Inv X pins σ H s) (h:CE X.stack X.prog X.w H s Q u s'):EP X pins σ Q u s':=by
 obtain ⟨v,H',os,bare,un,hok,r,q⟩:=h
 obtain ⟨hh,g,d,t,os'⟩:=s'
 obtain rfl:os'=s.os:=os
 exact ⟨v,H',I.call (h':=hh) (g':=g) (d':=d) (t':=t) (ch:=[]) un hok bare (fun b z=>absurd z (by simp)),r,q⟩
end
def tCall (sp:Sp) (dvs:List V) (E:XK) (t:TA):TE:=fun σ H Q=>t σ H fun vs H1=>sp (vs ++ dvs) H1 Q E
def tMeth (C:Addr) (m:Str) (sp:Sp) (dvs:List V) (E:XK) (ta:TE) (t:TA):TE:=fun σ H Q=>ta σ H fun x H1=>∃ a dx fs,x=.ref a∧H1 a=some (.ins C dx fs)∧fs.lookup m=none∧
 t σ H1 fun vs H2=>sp (x :: (vs ++ dvs)) H2 Q E
def tMake (C:Addr) (sp:Sp) (dvs:List V) (E:XK) (t:TA):TE:=fun σ H Q=>t σ H fun vs H1=>∀ x dx,H1 x=none→H1 dx=none→dx≠x→
 sp (.ref x :: (vs ++ dvs)) (upd (upd H1 dx (.own x)) x (.ins C dx [])) (fun v H2=>v=.non∧Q (.ref x) H2) E
def Binds (K:PySem.W.Frag) (fd:FuncData) (ps:List Str) (ds:List Value):Prop:=
 ∀ (s:Shared) (us:List Value),K.In s.heap→(us ++ ds).length=ps.length→BindsTo s fd ⟨us,[]⟩ (ps.zip (us ++ ds))
theorem Binds.all {K:PySem.W.Frag}{fd:FuncData}{ps:List Str} (h:∀ us:List Value,us.length=ps.length→bindArgs fd ⟨us,[]⟩=pure (ps.zip us)):Binds K fd ps []:=fun s us _ hl=>by
 rw [List.append_nil] at hl ⊢
 exact .of_eq (h us hl)
def Passes (CX:CXT) (X:Cx) (E:XK):Prop:=∀ (pins:List (Addr×Obj)) (σ:St) (H:Hp) (s:Shared) (e:Value) (s':Shared),Inv X pins σ H s→CX X.stack H s E e s'→X.xe e s'
section
variable {X:Cx}{CX:CXT}{k:Nat}{f C:Addr}{fd:FuncData}{ps:List Str}{sp:Sp}{dvs:List V}{ds:List Value}{E:XK}{x m:Str}{p pos apos:Pos}{e o:Expr}{es:List Expr}{ta:TE}{t:TA}
theorem run_fn {pins:List (Addr×Obj)}{σ:St}{H:Hp}{s:Shared}{Q:VK}{us:List Value}{vs:List V} (F:FnOk X.prog X.w X.K X.mg X.base CX k f fd ps sp) (hr:Room k X.A) (hb:Binds X.K fd ps ds) (hd:Vals dvs ds) (hx:Passes CX X E)
  (I:Inv X pins σ H s) (r:Vals vs us) (h:sp (vs ++ dvs) H Q E):wpAny (model X.prog X.w) X.A (call (.ref f) us) (EP X pins σ Q) X.xe s:=by
 have r2:Vals (vs ++ dvs) (us ++ ds):=r.append hd
 have hl:(us ++ ds).length=ps.length:=by rw [← r2.length];exact F.len _ _ _ _ h
 refine wpAny_call (codeAny_mono (F.run X.A X.stack s H ⟨us,[]⟩ (us ++ ds) (vs ++ dvs) Q E hr I.env0 (hb s us I.kIn hl) r2 h) fun r s' hq=>?_)
 cases r with
 | error e=>exact hx pins σ H s e s' I hq
 | ok fl=>
  cases fl with
  | ret u=>exact I.after hq
  | next=>exact False.elim hq
  | brk=>exact False.elim hq
  | cont=>exact False.elim hq
theorem pe_call (F:FnOk X.prog X.w X.K X.mg X.base CX k f fd ps sp) (hr:Room k X.A) (hg:Gl X x) (hm:X.mg x=some (.ref f)) (hk:PySem.W.keepIn X.K (.ref f)=true) (hb:Binds X.K fd ps ds) (hd:Vals dvs ds) (hx:Passes CX X E)
  (ha:PA X (e :: es) t) (hdb:(x == ("__debug__":Str))=false:=by decide) (he:starEach (e :: es) X.env=(false,eval e X.env) :: starEach es X.env:=by rfl) (hpl:(backTo pos (starEach es X.env)).any (·.1)=false:=by rfl):
  PE X (.Call (.Name x p) (e :: es) [] pos) (tCall sp dvs E t):=by
 intro pins s σ H Q I h
 refine wpAny_Call_Name_kw (ld_glob I hg hm ?_ hdb)
 refine PySem.W.callWith_K (h₀:=X.base) I.ok.mod.kin hk (thn (ha pos pins s σ H _ I h) fun us s1 ⟨vs,H1,I1,r,q⟩=>⟨I1.kIn,?_⟩) he hpl
 exact run_fn F hr hb hd hx I1 r q
theorem pe_meth {pl:Sem Bool} (he:PE X o ta) (c:Cls X.K C) (hm:Meth X.K C m f) (F:FnOk X.prog X.w X.K X.mg X.base CX k f fd ps sp) (hr:Room k X.A) (hb:Binds X.K fd ps ds) (hd:Vals dvs ds) (hx:Passes CX X E) (ha:PA X (e :: es) t)
  (hst:starEach (e :: es) X.env=(false,eval e X.env) :: starEach es X.env:=by rfl) (hpl:(backTo pos (starEach es X.env)).any (·.1)=false:=by rfl)
  (ht:eval (.Call (.Attribute o m apos) (e :: es) [] pos) X.env=(do
   let ov ← eval o X.env
   standAt apos.atName
   let (f,first) ← holding [ov] (getMethod ov m pl)
   callWith pos f first (backTo pos (starEach (e :: es) X.env)) (backToKw pos (keywordEach [] X.env))):=by rfl):
  PE X (.Call (.Attribute o m apos) (e :: es) [] pos) (tMeth C m sp dvs E ta t):=by
 intro pins s σ H Q I h
 refine PySem.W.methodCall_KW (pl:=pl) (thn (he pins s σ H _ I h) fun u s1 ⟨x,H1,I1,rx,a,dx,fs,ex,ea,l,q⟩=>?_) ht
 subst ex
 obtain rfl:u=Value.ref a:=rx
 refine getmeth_ok I1 ea c hm l ?_
 refine PySem.W.callWith_K (first:=[.ref a]) (h₀:=X.base) I.ok.mod.kin hm.kp (thn (ha pos pins s1 σ H1 _ I1 q) fun us s2 ⟨vs,H2,I2,r,q2⟩=>⟨I2.kIn,?_⟩) hst hpl
 exact run_fn (us:=.ref a :: us) (vs:=.ref a :: vs) F hr hb hd hx I2 (.cons rfl r) q2
theorem pe_meth0 {pl:Sem Bool} (he:PE X o ta) (c:Cls X.K C) (hm:Meth X.K C m f) (F:FnOk X.prog X.w X.K X.mg X.base CX k f fd ps sp) (hr:Room k X.A) (hb:Binds X.K fd ps ds) (hd:Vals dvs ds) (hx:Passes CX X E)
  (ht:eval (.Call (.Attribute o m apos) [] [] pos) X.env=(do
   let ov ← eval o X.env
   standAt apos.atName
   let (f,first) ← holding [ov] (getMethod ov m pl)
   callWith pos f first (backTo pos (starEach [] X.env)) (backToKw pos (keywordEach [] X.env))):=by rfl):
  PE X (.Call (.Attribute o m apos) [] [] pos) (tMeth C m sp dvs E ta tNil):=by
 intro pins s σ H Q I h
 refine PySem.W.methodCall_KW (pl:=pl) (thn (he pins s σ H _ I h) fun u s1 ⟨x,H1,I1,rx,a,dx,fs,ex,ea,l,q⟩=>?_) ht
 subst ex
 obtain rfl:u=Value.ref a:=rx
 refine getmeth_ok I1 ea c hm l ?_
 exact PySem.W.callWith_K0 (first:=[.ref a]) I1.kIn hm.kp (run_fn (us:=[.ref a]) (vs:=[.ref a]) F hr hb hd hx I1 (.cons rfl .nil) q)
structure Mk (K:PySem.W.Frag) (C f:Addr):Prop where
 makes:PySem.W.makesIn K C=true
 init:PySem.W.findIn K (.ref C) "__init__"=some (some (.ref f))
 fn:PySem.W.isFn K (.ref f)=true
 kp:PySem.W.keepIn K (.ref C)=true
theorem run_make {pins:List (Addr×Obj)}{σ:St}{H:Hp}{s:Shared}{Q:VK}{us:List Value}{vs:List V} (M:Mk X.K C f) (F:FnOk X.prog X.w X.K X.mg X.base CX k f fd ps sp) (hr:Room (k + 1) X.A) (hb:Binds X.K fd ps ds) (hd:Vals dvs ds)
  (hx:Passes CX X E) (I:Inv X pins σ H s) (r:Vals vs us)
  (h:∀ x dx,H x=none→H dx=none→dx≠x→sp (.ref x :: (vs ++ dvs)) (upd (upd H dx (.own x)) x (.ins C dx [])) (fun v H2=>v=.non∧Q (.ref x) H2) E):
  wpAny (model X.prog X.w) X.A (call (.ref C) us) (EP X pins σ Q) X.xe s:=by
 have hq:=h (s.heap.objs.size + 1) s.heap.objs.size (I.hok.fresh (Nat.le_succ _)) (I.hok.fresh (Nat.le_refl _)) (Nat.ne_of_lt (Nat.lt_succ_self _))
 have I2:=Inv.made (C:=C) I
 have r2:Vals (V.ref (s.heap.objs.size + 1) :: (vs ++ dvs)) (Value.ref (s.heap.objs.size + 1) :: (us ++ ds)):=.cons rfl (r.append hd)
 have hl:(Value.ref (s.heap.objs.size + 1) :: us ++ ds).length=ps.length:=by
  have e:=r2.length
  rw [F.len _ _ _ _ hq] at e
  exact e.symm
 refine wpAny_call (make_map (f:=f) I.kIn M.makes M.init (beq_iff_eq.mp M.fn) (codeAny_mono (F.run _ X.stack _ _ ⟨Value.ref (s.heap.objs.size + 1) :: us,[]⟩ (Value.ref (s.heap.objs.size + 1) :: (us ++ ds)) _ _ E (hr.make C us [])
  (I2.env0.make C us []) (hb _ (Value.ref (s.heap.objs.size + 1) :: us) I2.kIn hl) r2 hq) fun r s' hq'=>?_))
 cases r with
 | error e=>exact hx pins σ _ _ e s' I2 hq'
 | ok fl=>
  cases fl with
  | ret u=>
   obtain ⟨v,H',I3,rv,ev,q3⟩:=I2.after hq'
   subst ev
   exact ⟨rv,⟨V.ref (s.heap.objs.size + 1),H',I3,rfl,q3⟩⟩
  | next=>exact False.elim hq'
  | brk=>exact False.elim hq'
  | cont=>exact False.elim hq'
theorem pe_make (M:Mk X.K C f) (F:FnOk X.prog X.w X.K X.mg X.base CX k f fd ps sp) (hr:Room (k + 1) X.A) (hg:Gl X x) (hm:X.mg x=some (.ref C)) (hb:Binds X.K fd ps ds) (hd:Vals dvs ds) (hx:Passes CX X E)
  (ha:PA X (e :: es) t) (hdb:(x == ("__debug__":Str))=false:=by decide) (he:starEach (e :: es) X.env=(false,eval e X.env) :: starEach es X.env:=by rfl) (hpl:(backTo pos (starEach es X.env)).any (·.1)=false:=by rfl):
  PE X (.Call (.Name x p) (e :: es) [] pos) (tMake C sp dvs E t):=by
 intro pins s σ H Q I h
 refine wpAny_Call_Name_kw (ld_glob I hg hm ?_ hdb)
 refine PySem.W.callWith_K (h₀:=X.base) I.ok.mod.kin M.kp (thn (ha pos pins s σ H _ I h) fun us s1 ⟨vs,H1,I1,r,q⟩=>⟨I1.kIn,?_⟩) he hpl
 exact run_make M F hr hb hd hx I1 r q
theorem pe_make0 (M:Mk X.K C f) (F:FnOk X.prog X.w X.K X.mg X.base CX k f fd ps sp) (hr:Room (k + 1) X.A) (hg:Gl X x) (hm:X.mg x=some (.ref C)) (hb:Binds X.K fd ps ds) (hd:Vals dvs ds) (hx:Passes CX X E)
  (hdb:(x == ("__debug__":Str))=false:=by decide):PE X (.Call (.Name x p) [] [] pos) (tMake C sp dvs E tNil):=by
 intro pins s σ H Q I h
 refine wpAny_Call_Name_kw (ld_glob I hg hm ?_ hdb)
 exact PySem.W.callWith_K0 I.kIn M.kp (run_make (us:=[]) M F hr hb hd hx I .nil h)
end
section
variable {X:Cx}{CX:CXT}{k:Nat}{f C:Addr}{fd:FuncData}{ps ks:List Str}{sp:Sp}{E:XK}{x m:Str}{p pos apos kpos:Pos}{e o:Expr}{es:List Expr}{kws:List Keyword}{te ta:TE}{t tk:TA}{nm:Option Str}
structure KBinds (K:PySem.W.Frag) (fd:FuncData) (ps ks:List Str) (g:List Value→List Value→List Value) (gV:List V→List V→List V):Prop where
 to:∀ (s:Shared) (us ws:List Value),K.In s.heap→(g us ws).length=ps.length→BindsTo s fd ⟨us,ks.zip ws⟩ (ps.zip (g us ws))
 rel:∀ {vs:List V}{us:List Value}{zs:List V}{ws:List Value},Vals vs us→Vals zs ws→Vals (gV vs zs) (g us ws)
variable {g:List Value→List Value→List Value}{gV:List V→List V→List V}
end
structure FnScope (N P:List Str) (sc:Scope):Prop where
 kind:sc.kind=.function
 co:sc.isCoroutine=false
 gen:sc.isGenerator=false
 nd:N.Nodup
 pre:N.take P.length=P
 par:∀ x∈P,sc.names.lookup x=some .local∨sc.names.lookup x=some .cell
 nofree:∀ y∈sc.names,y.2≠.free
theorem bindL_out {kindOf:Str→Option NameKind}{x:Str}:∀ {binds:List (Str×Value)}{m:Str→Option Value},(∀ v,(x,v)∉binds)→bindL kindOf binds m x=m x
 | [],_,_=>rfl
 | (n,v) :: r,m,h=>by
  unfold bindL
  rw [bindL_out fun w hw=>h w (List.mem_cons_of_mem _ hw)]
  split
  ·have:x≠n:=by rintro rfl;exact h v List.mem_cons_self
   simp [this]
  ·rfl
theorem bindC_out {kindOf:Str→Option NameKind}{x:Str}:∀ {binds:List (Str×Value)}{m:Str→Option Value},(∀ v,(x,v)∉binds)→bindC kindOf binds m x=m x
 | [],_,_=>rfl
 | (n,v) :: r,m,h=>by
  unfold bindC
  rw [bindC_out fun w hw=>h w (List.mem_cons_of_mem _ hw)]
  split
  ·rfl
  ·have:x≠n:=by rintro rfl;exact h v List.mem_cons_self
   simp [this]
theorem bindL_get {kindOf:Str→Option NameKind}{x:Str}{v:Value}:∀ {P:List Str}{vs:List Value}{i:Nat}{m:Str→Option Value},P.Nodup→P[i]? =some x→vs[i]? =some v→kindOf x=some .local→
  bindL kindOf (P.zip vs) m x=some v
 | [],_,_,_,_,h,_,_=>by simp at h
 | _ :: _,[],_,_,_,_,h,_=>by simp at h
 | p :: P,w :: vs,0,m,nd,h1,h2,hk=>by
  simp at h1 h2;subst h1;subst h2
  show bindL kindOf ((p,w) :: P.zip vs) m p=_
  unfold bindL
  rw [bindL_out fun v hv=>(List.nodup_cons.mp nd).1 (List.of_mem_zip hv).1,if_pos hk]
  simp
 | p :: P,w :: vs,i + 1,m,nd,h1,h2,hk=>by
  show bindL kindOf ((p,w) :: P.zip vs) m x=_
  unfold bindL
  exact bindL_get (i:=i) (List.nodup_cons.mp nd).2 (by simpa using h1) (by simpa using h2) hk
theorem bindC_get {kindOf:Str→Option NameKind}{x:Str}{v:Value}:∀ {P:List Str}{vs:List Value}{i:Nat}{m:Str→Option Value},P.Nodup→P[i]? =some x→vs[i]? =some v→kindOf x≠some .local→
  bindC kindOf (P.zip vs) m x=some v
 | [],_,_,_,_,h,_,_=>by simp at h
 | _ :: _,[],_,_,_,_,h,_=>by simp at h
 | p :: P,w :: vs,0,m,nd,h1,h2,hk=>by
  simp at h1 h2;subst h1;subst h2
  show bindC kindOf ((p,w) :: P.zip vs) m p=_
  unfold bindC
  rw [bindC_out fun v hv=>(List.nodup_cons.mp nd).1 (List.of_mem_zip hv).1,if_neg hk]
  simp
 | p :: P,w :: vs,i + 1,m,nd,h1,h2,hk=>by
  show bindC kindOf ((p,w) :: P.zip vs) m x=_
  unfold bindC
  exact bindC_get (i:=i) (List.nodup_cons.mp nd).2 (by simpa using h1) (by simpa using h2) hk
def start (N:List Str) (vs:List V):St:=vs.map some ++ List.replicate (N.length - vs.length) none
def cxOf (CX:CXT) (P:Program) (w:World) (K:PySem.W.Frag) (mg:Str→Option Value) (base:Heap) (N:List Str) (qual:Str) (scope:Scope) (f:Addr) (cd:Value) (A:Around) (outer:List Env) (s:Shared) (H:Hp) (E:XK):Cx where
 prog:=P
 w:=w
 K:=K
 mg:=mg
 base:=base
 A:=A.deeper (envOfC qual scope s.heap.objs.size f cd)
 N:=N
 s₀:=s
 H₀:=H
 env:=envOfC qual scope s.heap.objs.size f cd
 outer:=outer
 stack:=envOfC qual scope s.heap.objs.size f cd :: outer
 ex:=[]
 calm:=true
 fn:=fun _=>true
 pn:=[]
 xe:=fun e s'=>wpAny (model P w) (A.deeper (envOfC qual scope s.heap.objs.size f cd)) (leaving (envOfC qual scope s.heap.objs.size f cd) e) (fun _ s''=>CX outer H s E e s'') (fun e' s''=>CX outer H s E e' s'') s'
theorem cell_has {sc:Scope}{n:Nat}{x:Str} (h:sc.names.lookup x=some .cell):∃ c,(cellsFrom n sc.names []).lookup x=some c:=by
 have q:=PySem.W.cellsFrom_some sc.names n [] (.inl h)
 exact Option.isSome_iff_exists.mp q
theorem inv_start {CX:CXT}{P:Program}{w:World}{K:PySem.W.Frag}{mg:Str→Option Value}{base:Heap}{N ps:List Str}{qual:Str}{scope:Scope}{f:Addr}{cd:Value}{A:Around}{outer:List Env}{s s1:Shared}{H:Hp}{E:XK}{us:List Value}{vs:List V}
  (S:FnScope N ps scope) (hd:A.handled=none) (e0:Env0 P w K mg base A outer s H) (hl:vs.length=ps.length) (r:Vals vs us)
  (x:InCallC s s.heap.objs.size (bindL (envOfC qual scope s.heap.objs.size f cd).kindOf (ps.zip us) fun _=>none) (cellsFrom (s.heap.objs.size + 1) scope.names []) (bindC (envOfC qual scope s.heap.objs.size f cd).kindOf (ps.zip us) fun _=>none) s1):
  Inv (cxOf CX P w K mg base N qual scope f cd A outer s H E) [] (start N vs) H s1:=by
 have hpl:ps.length≤N.length:=by have:=congrArg List.length S.pre;rw [List.length_take] at this;omega
 obtain ⟨h1,tk,rfl,hk⟩:=x.done
 have noA:∀ b:Addr,b∉(cxOf CX P w K mg base N qual scope f cd A outer s H E).ex:=fun b z=>absurd (show b∈([]:List Addr) from z) (by simp)
 refine ⟨⟨e0.mod,S.kind,rfl,rfl,Nat.le_refl _,fun y z c h1 h2=>?_,fun y hy=>?_,fun y c _ h=>?_,fun _=>hd,Around.frames_deeper e0.frames,.inr ⟨rfl,rfl⟩,fun b z=>absurd z (noA b),e0.bs,e0.bsz,fun b _ _=>noA b,fun b z=>absurd z (noA b),e0.funs,e0.frf⟩,
  rfl,e0.bare,Un.kept hk,⟨_,x.toInCall.ns,fun i y v h1 h2 h3=>?_⟩,fun y c h=>⟨_,x.cell y c h⟩,e0.hok.fresh (Nat.le_refl _),fun y c h=>?_,fun p hp=>absurd (show p∈([]:List (Addr×Obj)) from hp) (by simp),e0.hok.kept hk,?_⟩
 ·exact name_of_addr x.apart (PySem.mem_of_lookup h1) (PySem.mem_of_lookup h2)
 ·have hy:scope.names.lookup y=some .cell∨scope.names.lookup y=some .free:=hy
  rcases hy with hy | hy
  ·exact cell_has hy
  ·exact absurd rfl (S.nofree _ (PySem.mem_of_lookup hy))
 ·exact Nat.le_of_lt (x.above y c (PySem.mem_of_lookup h))
 ·have hi:i < vs.length:=by
   unfold start at h2
   by_cases hi:i < vs.length
   ·exact hi
   ·rw [List.getElem?_append_right (by simpa using hi)] at h2
    rw [List.getElem?_replicate] at h2
    split at h2<;>cases h2
  have ha:vs[i]? =some v:=by
   unfold start at h2
   rw [List.getElem?_append_left (by simpa using hi),List.getElem?_map] at h2
   cases e:vs[i]? with
   | none=>rw [e] at h2;cases h2
   | some a=>rw [e] at h2;cases h2;rfl
  obtain ⟨u,hu,rv⟩:=r.get ha
  have hp:ps[i]? =some y:=by
   rw [← S.pre,List.getElem?_take_of_lt (by omega)];exact h1
  have ndP:ps.Nodup:=by rw [← S.pre];exact S.nd.sublist (List.take_sublist _ _)
  refine ⟨u,rv,?_⟩
  rcases S.par y (List.mem_of_getElem? hp) with k | k
  ·exact .inl ⟨k,bindL_get ndP hp hu k⟩
  ·obtain ⟨c,e⟩:=cell_has (n:=s.heap.objs.size + 1) k
   refine .inr ⟨.inl k,c,e,?_⟩
   have q:=x.cell y c e
   rw [bindC_get ndP hp hu (by show scope.names.lookup y≠_;rw [k];decide)] at q
   exact q
 ·exact e0.hok.fresh (Nat.le_of_lt (x.above y c (PySem.mem_of_lookup h)))
 ·unfold start
  show _=N.length
  rw [List.length_append,List.length_map,List.length_replicate]
  omega
theorem fn_of {CX:CXT}{P:Program}{w:World}{K:PySem.W.Frag}{mg:Str→Option Value}{base:Heap}{k:Nat}{f:Addr}{name qual:Str}{params:Arguments}{body:List Stmt}{scope:Scope}{dV kV doc pm cdv ct oc:Value}{an od:Option Addr}
  {osl:Array (Option Value)}{N ps:List Str}{sp:Sp} (lk:K.lookup f=some ⟨oc,od,.func (PySem.W.fnOf name qual params body scope dV kV doc pm an cdv ct),osl⟩) (hcd:PySem.W.codeIn K cdv qual=true) (S:FnScope N ps scope)
  (len:∀ vs H Q E,sp vs H Q E→vs.length=ps.length)
  (hbody:∀ (A:Around) (outer:List Env) (s:Shared) (H:Hp) (vs:List V) (Q:VK) (E:XK),Room k (A.deeper (envOfC qual scope s.heap.objs.size f cdv))→sp vs H Q E→
   ∃ t,PSs (cxOf CX P w K mg base N qual scope f cdv A outer s H E) body t∧t { nx:=fun _ H'=>Q .non H',rt:=Q } (start N vs) H):
  FnOk P w K mg base CX (k + 1) f (PySem.W.fnOf name qual params body scope dV kV doc pm an cdv ct) ps sp:=by
 refine ⟨len,fun A outer s H args us vs Q E hr e0 hb r hsp=>?_⟩
 have hl:=len _ _ _ _ hsp
 have KX:K.In s.heap:=e0.mod.kin.keeps fun b o e=>(e0.bs b o e).1
 have lim:s.heap.NoLimit:=e0.mod.nolimit.keeps fun b o e=>(e0.bs b o e).1
 have hkind:∀ y∈ps.zip us,scope.names.lookup y.1=some .local∨(scope.names.lookup y.1=some .cell∧((cellsFrom (s.heap.objs.size + 1) scope.names []).lookup y.1).isSome=true):=fun ⟨n,v⟩ hy=>by
  rcases S.par n (List.of_mem_zip hy).1 with q | q
  ·exact .inl q
  ·exact .inr ⟨q,PySem.W.cellsFrom_some _ _ _ (.inl q)⟩
 refine codeAny_call_function hr.depth (KX _ _ lk) rfl S.co S.gen rfl (PySem.W.codeRec_of KX hcd) (hb _ _ _ _ ?_)
 refine wpAny_newFunctionEnv_cells S.kind hkind fun env he s1 x=>?_
 subst he
 refine ⟨lim.keeps x.toInCall.keep,codeAny_func ?_⟩
 obtain ⟨t,ht,hq⟩:=hbody A outer s H vs Q E (hr.deeper _) hsp
 have I:Inv (cxOf CX P w K mg base N qual scope f cdv A outer s H E) [] (start N vs) H s1:=inv_start S hr.hd e0 hl r x
 refine wpAny_mono (ht [] s1 (start N vs) H _ I hq) (fun fl s' hs=>?_) fun e s' hs=>hs
 have fin:∀ {σ':St}{H':Hp}{v:V}{u:Value},Inv (cxOf CX P w K mg base N qual scope f cdv A outer s H E) [] σ' H' s'→RelV v u→Q v H'→CE outer P w H s Q u s':=
  fun {σ' H' v u} J rv q=>⟨v,H',J.os,J.bare,J.base,J.hok,rv,q⟩
 cases fl with
 | ret u=>
  obtain ⟨v,σ',H',J,rv,q⟩:=hs
  exact fin J rv q
 | next=>
  obtain ⟨σ',H',J,q⟩:=hs
  exact fin (v:=V.non) (u:=Value.none) J rfl q
 | brk=>
  obtain ⟨_,_,_,q⟩:=hs
  exact False.elim q
 | cont=>
  obtain ⟨_,_,_,q⟩:=hs
  exact False.elim q
end L2
namespace L2
open PySem PySem.Spec PyProof.Rows
section
variable {X:Cx}{x:Str}{p pos:Pos}{e:Expr}{es:List Expr}{t:TA}{id T:String}{r:List V→Hp→VK→Prop}
def tCB (r:List V→Hp→VK→Prop) (t:TA):TE:=fun σ H Q=>t σ H fun vs H1=>r vs H1 Q
theorem pe_callB (hc:CallR X (.builtin id) r) (hg:Gl X x) (hm:X.mg x=none) (hv:bootBuiltins x=some (.builtin id)) (ha:PA X (e :: es) t) (hn:x≠"__name__":=by decide) (hdb:(x == ("__debug__":Str))=false:=by decide)
  (he:starEach (e :: es) X.env=(false,eval e X.env) :: starEach es X.env:=by rfl) (hpl:(backTo pos (starEach es X.env)).any (·.1)=false:=by rfl):PE X (.Call (.Name x p) (e :: es) [] pos) (tCB r t):=by
 intro pins s σ H Q I h
 refine wpAny_Call_Name_kw (ld_blt I hg hm hv ?_ hn hdb)
 exact PyProof.Rows.callWith_builtin1 (thn (ha pos pins s σ H _ I h) fun us s1 ⟨vs,H1,I1,r1,q1⟩=>hc pins s1 σ H1 vs us Q I1 r1 q1) he hpl
end
end L2
namespace HT
open PySem PyProof.Rows
section
open PySem.SeqAt
open PySem.AutoSeq1 (wpAny_loadPart')
open PySem.MeetsSeq PySem.MeetsSeq2 PySem.MeetsSeq3
end
section
variable {prog:Program}{w:World}{A:Around}{E:Value→Shared→Prop}{s:Shared}
def sIx (n d:Nat):Option Int→Nat
 | none=>d
 | some v=>if v < 0 then (v + (n:Int)).toNat else min v.toNat n
theorem sIx_le (n d:Nat) (hd:d≤n) (o:Option Int):sIx n d o≤n:=by
 cases o with
 | none=>exact hd
 | some v=>
  show (if v < 0 then (v + (n:Int)).toNat else min v.toNat n)≤n
  by_cases hv:v < 0
  ·rw [if_pos hv];omega
  ·rw [if_neg hv];exact Nat.min_le_right _ _
theorem clip_eq (v:Int) (n d:Nat):(if v < 0 then max (v + (n:Int)) 0 else min v (n:Int))=((sIx n d (some v):Nat):Int):=by
 show (if v < 0 then max (v + (n:Int)) 0 else min v (n:Int))=(((if v < 0 then (v + (n:Int)).toNat else min v.toNat n):Nat):Int)
 by_cases hv:v < 0
 ·simp only [if_pos hv];omega
 ·simp only [if_neg hv];omega
theorem adjust_gen (lo hi:Option Int) (n:Nat):Builtin.Slice.sliceAdjust lo hi 1 (n:Int)=(((sIx n 0 lo:Nat):Int),((sIx n n hi:Nat):Int)):=by
 have h1:¬ ((1:Int) < 0):=by omega
 unfold Builtin.Slice.sliceAdjust
 simp only [h1,if_false]
 refine Prod.ext ?_ ?_
 ·cases lo with
  | none=>rfl
  | some v=>exact clip_eq v n 0
 ·cases hi with
  | none=>rfl
  | some v=>exact clip_eq v n n
theorem places_gen (i j:Nat):Builtin.Slice.slicePlaces (i:Int) (j:Int) 1=j - i:=by
 unfold Builtin.Slice.slicePlaces
 have h1:(1:Int) > 0:=by omega
 simp only [h1,if_true,Int.ediv_one]
 split<;>omega
theorem slicePart_ {v:Value}{o:Option Int}{Q:Option Int→Shared→Prop} (p:IsPart v o) (h:Q o s):wpAny (model prog w) A (Builtin.Slice.slicePartIndex v) Q E s:=by
 cases p with
 | none=>exact slicePart_none h
 | int i t=>exact slicePart_int h
theorem sliceApplied_gen {sl:Addr}{vl vu:Value}{lo hi:Option Int}{n:Nat}{Q:Int×Int×Nat→Shared→Prop} (hs:s.heap.IsSliceOf sl vl vu .none) (pl:IsPart vl lo) (pu:IsPart vu hi)
  (h:Q (((sIx n 0 lo:Nat):Int),1,sIx n n hi - sIx n 0 lo) s):wpAny (model prog w) A (Builtin.Slice.sliceApplied (.ref sl) (pure (n:Int))) Q E s:=by
 obtain ⟨os,hos,hcs,hds⟩:=id hs
 unfold Builtin.Slice.sliceApplied Builtin.Slice.sliceFields
 refine wpAny_bind (wpAny_bind (wpAny_field hos hds (x:=vl) rfl (wpAny_bind (wpAny_field hos hds (x:=vu) rfl (wpAny_bind (wpAny_field hos hds (x:=.none) rfl (wpAny_pure ?_)))))))
 refine wpAny_bind (slicePart_none ?_)
 show wpAny _ _ (if ((1:Int) == 0)=true then _ else _) _ _ s
 rw [if_neg (by decide)]
 refine wpAny_bind (slicePart_ pl (wpAny_bind (slicePart_ pu (wpAny_bind (wpAny_pure ?_)))))
 show wpAny _ _ (match Builtin.Slice.sliceAdjust lo hi 1 (n:Int) with | (lo,hi)=>pure (lo,(1:Int),Builtin.Slice.slicePlaces lo hi 1)) _ _ s
 rw [adjust_gen lo hi n]
 show wpAny _ _ (pure (((sIx n 0 lo:Nat):Int),(1:Int),Builtin.Slice.slicePlaces ((sIx n 0 lo:Nat):Int) ((sIx n n hi:Nat):Int) 1)) _ _ s
 rw [places_gen]
 exact wpAny_pure h
theorem pick_gen (xs:Array Value) (i k:Nat):((List.range k).filterMap fun (m:Nat)=>xs[((i:Int) + (m:Int) * 1).toNat]?).toArray=((xs.toList.drop i).take k).toArray:=by
 have e:(fun (m:Nat)=>xs[((i:Int) + (m:Int) * 1).toNat]?)=fun m=>xs[i + m]? :=by
  funext m
  have:((i:Int) + (m:Int) * 1).toNat=i + m:=by omega
  rw [this]
 rw [e]
 have:=pick_run xs i k
 rw [List.filterMap_map] at this
 have e2:((fun x=>xs[x]?) ∘ fun x=>i + x)=fun m=>xs[i + m]? :=rfl
 rw [e2] at this
 rw [this]
theorem getItem_tuple_cut {t sl:Addr}{items:Array Value}{vl vu:Value}{lo hi:Option Int}{Q:Value→Shared→Prop} (ht:IsTup s.heap t items) (hs:s.heap.IsSliceOf sl vl vu .none) (pl:IsPart vl lo) (pu:IsPart vu hi)
  (hw:¬ (sIx items.size 0 lo=0∧sIx items.size items.size hi=items.size))
  (h:Q (.ref s.heap.objs.size) { s with heap:=s.heap.push { cls:=.type "tuple",data:=.seq ((items.toList.drop (sIx items.size 0 lo)).take (sIx items.size items.size hi - sIx items.size 0 lo)).toArray } })
  (hsz:items.size≤sizeLine):wpAny (model prog w) A (getItem (.ref t) (.ref sl)) Q E s:=by
 have htake:sizeOk (.seq ((items.toList.drop (sIx items.size 0 lo)).take (sIx items.size items.size hi - sIx items.size 0 lo)).toArray):=by
  show ((items.toList.drop (sIx items.size 0 lo)).take (sIx items.size items.size hi - sIx items.size 0 lo)).toArray.size≤sizeLine
  rw [List.size_toArray,List.length_take,List.length_drop,Array.length_toList]
  omega
 have hj:sIx items.size items.size hi≤items.size:=sIx_le _ _ (Nat.le_refl _) hi
 obtain ⟨os,hos,hcs,hds⟩:=id hs
 have hTs:s.TypeIs (.ref sl) "slice":=⟨os,hos,hcs⟩
 unfold getItem
 try with_reducible refine wpAny_holding ?_
 first | refine wpAny_bind (wpAny_pure ?_) | skip
 refine wpAny_bind (wpAny_sequenceKey ht.typeIs (by decide) ?_)
 refine wpAny_bind (wpAny_callSpecial?_slot (name:=Str.ofString "__getitem__") ht.typeIs PyProof.Rows.slot_tuple_getitem
  (wpAny_call_entry PyProof.Rows.slot_tuple_getitem ht.typeIs entry_tuple_getitem ?_ (args_tuple_getitem _ _)))
 show wpAny _ _ (Builtin.Tuple.tupleItemsOf (.ref t) >>= _) _ _ s
 refine wpAny_bind (tupleItemsOf_ ht ?_)
 refine wpAny_bind (wpAny_typeOf hTs ?_)
 rw [if_pos (by decide)]
 refine wpAny_bind (sliceApplied_gen hs pl pu ?_)
 have hno:¬ ((((sIx items.size 0 lo:Nat):Int) == 0 && (1:Int) == 1 && (sIx items.size items.size hi - sIx items.size 0 lo) == items.size)=true):=by
  intro q
  rw [Bool.and_eq_true,Bool.and_eq_true] at q
  have q1:((sIx items.size 0 lo:Nat):Int)=0:=eq_of_beq q.1.1
  have q2:sIx items.size items.size hi - sIx items.size 0 lo=items.size:=eq_of_beq q.2
  exact hw ⟨by omega,by omega⟩
 show wpAny _ _ (if (((sIx items.size 0 lo:Nat):Int) == 0 && (1:Int) == 1 && (sIx items.size items.size hi - sIx items.size 0 lo) == items.size)=true then _ else _) _ _ s
 rw [if_neg hno,pick_gen]
 first
  | exact wpAny_bind (m:=Builtin.Tuple.tupleExact _) (wpAny_newObj_type (wpAny_pure ⟨_,rfl,wpAny_pure h⟩) htake)
  | exact wpAny_bind (m:=Builtin.Tuple.tupleExact _) (wpAny_newObj_type (wpAny_bind (wpAny_pure (wpAny_pure ⟨_,rfl,wpAny_pure h⟩))) htake)
  | exact wpAny_bind (wpAny_bind (m:=Builtin.Tuple.tupleExact _) (wpAny_newObj_type (wpAny_pure (wpAny_pure ⟨_,rfl,wpAny_pure h⟩)) htake))
  | exact wpAny_bind (wpAny_bind (m:=Builtin.Tuple.tupleExact _) (wpAny_newObj_type (wpAny_pure ⟨_,rfl,wpAny_pure h⟩) htake))
end
end HT
namespace L2
open PySem PySem.Spec PyProof.Rows
abbrev TO:=St→Hp→(Option Int→Hp→Prop)→Prop
def PO (X:Cx) (e:Option Expr) (t:TO):Prop:=
 ∀ (pins:List (Addr×Obj)) (s:Shared) (σ:St) (H:Hp) (Q:Option Int→Hp→Prop),Inv X pins σ H s→t σ H Q→
  wpAny (model X.prog X.w) X.A (evalPart e X.env) (fun u s'=>∃ o H',Inv X pins σ H' s'∧IsPart u o∧Q o H') X.xe s
def tNoPart:TO:=fun _ H Q=>Q none H
def tPart (t:TE):TO:=fun σ H Q=>t σ H fun x H1=>∃ i,x=.int i∧Q (some i) H1
section
variable {X:Cx}{e:Expr}{te:TE}{lo hi:Option Expr}{tl th:TO}{pos p2:Pos}
theorem po_none:PO X none tNoPart:=by
 intro pins s σ H Q I h
 rw [evalPart_none]
 exact wpAny_pure ⟨none,H,I,.none,h⟩
theorem po_some (h:PE X e te):PO X (some e) (tPart te):=by
 intro pins s σ H Q I hw
 rw [evalPart_some]
 refine thn (h pins s σ H _ I hw) fun u s1 ⟨x,H1,I1,r1,q1⟩=>?_
 obtain ⟨i,rfl,q⟩:=q1
 obtain ⟨t,rfl⟩:=r1
 exact ⟨some i,H1,I1,.int i t,q⟩
def SlR (X:Cx) (r:V→Option Int→Option Int→Hp→VK→Prop):Prop:=
 ∀ (pins:List (Addr×Obj)) (s:Shared) (σ:St) (H:Hp) (x:V) (v vl vu:Value) (lo hi:Option Int) (sl:Addr) (Q:VK),Inv X pins σ H s→RelV x v→s.heap.IsSliceOf sl vl vu .none→IsPart vl lo→IsPart vu hi→r x lo hi H Q→
  ∃ T id,typeLookup (.type T) "__getitem__"=pure (some (.builtin id))∧s.TypeIs v T∧wpAny (model X.prog X.w) X.A (getItem v (.ref sl)) (EP X pins σ Q) X.xe s
def tSl (r:V→Option Int→Option Int→Hp→VK→Prop) (te:TE) (tl th:TO):TE:=fun σ H Q=>te σ H fun x H1=>tl σ H1 fun l H2=>th σ H2 fun u H3=>r x l u H3 Q
theorem pe_slice {r:V→Option Int→Option Int→Hp→VK→Prop} (hr:SlR X r) (he:PE X e te) (hl:PO X lo tl) (hu:PO X hi th):PE X (.Subscript e (.Slice lo hi none p2) pos) (tSl r te tl th):=by
 intro pins s σ H Q I h
 refine Subscript_ (thn (he pins s σ H _ I h) fun v s1 ⟨x,H1,I1,r1,q1⟩=>?_)
 refine wpAny_Slice (thn (hl pins s1 σ H1 _ I1 q1) fun vl s2 ⟨l,H2,I2,pl,q2⟩=>thn (hu pins s2 σ H2 _ I2 q2) fun vu s3 ⟨u,H3,I3,pu,q3⟩=>?_)
 rw [evalPart_none]
 refine wpAny_pure ?_
 have I4:Inv X pins σ H3 { s3 with heap:=s3.heap.push { cls:=.type "slice",data:=.fields #[vl,vu,.none] } }:=I3.kept (t':=s3.toks) fun b ob q=>Heap.get?_push_of_some _ q
 obtain ⟨T,id,hT,ht,hg⟩:=hr pins { s3 with heap:=s3.heap.push { cls:=.type "slice",data:=.fields #[vl,vu,.none] } } σ H3 x v vl vu l u s3.heap.objs.size Q I4 r1 (Heap.IsSliceOf.new ..) pl pu q3
 show wpAny (model X.prog X.w) X.A (subscriptTail e (.Slice lo hi none p2) v (.ref s3.heap.objs.size)) (EP X pins σ Q) X.xe { s3 with heap:=s3.heap.push { cls:=.type "slice",data:=.fields #[vl,vu,.none] } }
 exact tail_any (ops:=[.ref s3.heap.objs.size,v]) ht hT hg (by with_unfolding_all rfl)
def cutV (xs:List V) (lo hi:Option Int):List V:=(xs.drop (HT.sIx xs.length 0 lo)).take (HT.sIx xs.length xs.length hi - HT.sIx xs.length 0 lo)
theorem cutV_length (xs:List V) (lo hi:Option Int):(cutV xs lo hi).length≤xs.length:=by
 unfold cutV
 rw [List.length_take,List.length_drop]
 omega
def rSlT (K:PySem.W.Frag):V→Option Int→Option Int→Hp→VK→Prop:=fun x lo hi H Q=>∃ a xs,x=.ref a∧SqT K H a xs∧
 ¬ (HT.sIx xs.length 0 lo=0∧HT.sIx xs.length xs.length hi=xs.length)∧∀ p,H p=none→Q (.ref p) (upd H p (.tup (cutV xs lo hi)))
theorem sl_tup:SlR X (rSlT X.K):=by
 intro pins s σ H x v vl vu lo hi sl Q I rx hs pl pu h
 obtain ⟨a,xs,rfl,hx,hw,q⟩:=h
 cases rx
 obtain ⟨its,r,ht,hz⟩:=I.tuple hx
 have hlen:its.toArray.size=xs.length:=by rw [List.size_toArray];exact r.length.symm
 refine ⟨"tuple",_,PyProof.Rows.slot_tuple_getitem.lookup,ht.typeIs,?_⟩
 refine HT.getItem_tuple_cut ht hs pl pu (by rw [hlen];exact hw) ?_ (by rw [hlen];exact hz)
 rw [hlen]
 refine ⟨.ref s.heap.objs.size,_,I.laid (t':=s.toks) (o:=.tup (cutV xs lo hi)) (fun b ob q=>Heap.get?_push_of_some _ q) (Nat.le_refl _) ?_,rfl,q _ (I.hok.fresh (Nat.le_refl _))⟩
 exact ⟨Nat.le_trans (cutV_length xs lo hi) hz,_,(r.drop (HT.sIx xs.length 0 lo)).take (HT.sIx xs.length xs.length hi - HT.sIx xs.length 0 lo),IsTup.new _ _⟩
end
end L2
namespace L2
open PySem PySem.Spec PyProof.Rows
def ixN (n:Nat) (i:Int):Option Nat:=if 0≤i then (if i < n then some i.toNat else none) else if -(n:Int)≤i then some (i + n).toNat else none
def atI {α:Type} (xs:List α) (i:Int):Option α:=(ixN xs.length i).bind fun j=>xs[j]?
theorem ixN_seq {n:Nat}{i:Int}{j:Nat} (h:ixN n i=some j):seqIndex? i n=some j∧j < n∧-(n:Int)≤i∧i < n:=by
 unfold ixN at h
 by_cases h0:0≤i
 ·rw [if_pos h0] at h
  by_cases h1:i < n
  ·rw [if_pos h1] at h
   have e:i.toNat=j:=Option.some.inj h
   exact ⟨by rw [seqIndex_of h0 h1,e],by omega,by omega,h1⟩
  ·rw [if_neg h1] at h;cases h
 ·rw [if_neg h0] at h
  by_cases h1:-(n:Int)≤i
  ·rw [if_pos h1] at h
   have e:(i + n).toNat=j:=Option.some.inj h
   exact ⟨by rw [seqIndex_neg (by omega) h1,e],by omega,h1,by omega⟩
  ·rw [if_neg h1] at h;cases h
theorem atI_get {α:Type}{xs:List α}{i:Int}{v:α} (h:atI xs i=some v):∃ j,seqIndex? i xs.length=some j∧xs[j]? =some v∧j < xs.length∧-(xs.length:Int)≤i∧i < xs.length:=by
 unfold atI at h
 cases e:ixN xs.length i with
 | none=>rw [e] at h;cases h
 | some j=>
  rw [e] at h
  obtain ⟨h1,h2,h3,h4⟩:=ixN_seq e
  exact ⟨j,h1,h,h2,h3,h4⟩
theorem atI_nat {α:Type}{xs:List α}{j:Nat}{v:α} (h:xs[j]? =some v):atI xs (j:Int)=some v:=by
 have hj:j < xs.length:=(List.getElem?_eq_some_iff.mp h).1
 have e:ixN xs.length (j:Int)=some j:=by
  unfold ixN
  rw [if_pos (by omega),if_pos (by omega)];simp
 unfold atI;rw [e];exact h
def PlainIx (b:Expr):Prop:=∀ o i,subscripted b false o i=operate [o,i] (getItem o i)
def IxR (X:Cx) (r:R2):Prop:=
 ∀ (value slice:Expr) (pins:List (Addr×Obj)) (s:Shared) (σ:St) (H:Hp) (x y:V) (v u:Value) (Q:VK),Inv X pins σ H s→RelV x v→RelV y u→r x y H Q→
  subscripted slice false v u=operate [v,u] (getItem v u)→wpAny (model X.prog X.w) X.A (subscriptTail value slice v u) (EP X pins σ Q) X.xe s
def MtR (X:Cx) (id:String) (r:V→List V→Hp→VK→Prop):Prop:=
 ∀ (pins:List (Addr×Obj)) (s:Shared) (σ:St) (H:Hp) (x:V) (xs:List V) (v:Value) (us:List Value) (Q:VK),Inv X pins σ H s→RelV x v→Vals xs us→r x xs H Q→
  wpAny (model X.prog X.w) X.A (call (.builtin id) (v :: us)) (EP X pins σ Q) X.xe s
section
variable {X:Cx}{a b:Expr}{ta tb:TE}{pos:Pos}
theorem IxR.or {r r':R2} (h:IxR X r) (h':IxR X r'):IxR X (fun x y H Q=>r x y H Q∨r' x y H Q):=by
 intro value slice pins s σ H x y v u Q I rx ry q hs
 rcases q with q | q
 ·exact h value slice pins s σ H x y v u Q I rx ry q hs
 ·exact h' value slice pins s σ H x y v u Q I rx ry q hs
theorem pe_ix {r:R2} (hr:IxR X r) (ha:PE X a ta) (hb:PE X b tb) (hs:PlainIx b):PE X (.Subscript a b pos) (tOp r ta tb):=by
 intro pins s σ H Q I h
 exact Subscript_ (binT ha hb I h fun v u s2 x y H2 I2 rx ry q=>hr a b pins s2 σ H2 x y v u Q I2 rx ry q (hs _ _))
def rIxL (K:PySem.W.Frag):R2:=fun x y H Q=>∃ p xs i v,x=.ref p∧y=.int i∧SqL K H p xs∧atI xs i=some v∧Q v H
def rIxT (K:PySem.W.Frag):R2:=fun x y H Q=>∃ p xs i v,x=.ref p∧y=.int i∧SqT K H p xs∧atI xs i=some v∧Q v H
def rIxS:R2:=fun x y H Q=>∃ z i c,x=.str z∧y=.int i∧z.length≤sizeLine∧atI z.cps.toList i=some c∧Q (.str ⟨#[c]⟩) H
theorem ix_list:IxR X (rIxL X.K):=by
 intro value slice pins s σ H x y v u Q I rx ry h hs
 obtain ⟨p,xs,i,z,rfl,rfl,hq,he,q⟩:=h
 cases rx
 obtain ⟨t,rfl⟩:=ry
 obtain ⟨its,r,pl,hz⟩:=I.list hq
 obtain ⟨j,h1,h2,h3,h4,h5⟩:=atI_get he
 obtain ⟨w,ew,rw'⟩:=r.get h2
 have hl:=r.length
 have hn:=line63
 have fin:EP X pins σ Q w s:=⟨z,H,I,rw',q⟩
 by_cases h0:0≤i
 ·have hj:i.toNat=j:=by
   rw [seqIndex_of h0 h5] at h1
   exact Option.some.inj h1
  exact item_listR pl.isList h0 (by omega) (by rw [hj];simpa using ew) fin hs
 ·have hj:(i + (its.toArray.size:Int)).toNat=j:=by
   rw [seqIndex_neg (by omega) h4] at h1
   rw [List.size_toArray,← hl]
   exact Option.some.inj h1
  exact subscriptTail_builtinR (x:=w) pl.isList.typeIs slot_list_getitem.lookup
   (wpAny_getItem_list_neg (Q:=fun r s'=>r=w∧EP X pins σ Q r s') pl.isList (by omega) (by rw [List.size_toArray]<;>omega) (by omega) (by rw [hj];simpa using ew) ⟨rfl,fin⟩) hs
theorem ix_tup:IxR X (rIxT X.K):=by
 intro value slice pins s σ H x y v u Q I rx ry h hs
 obtain ⟨p,xs,i,z,rfl,rfl,hq,he,q⟩:=h
 cases rx
 obtain ⟨t,rfl⟩:=ry
 obtain ⟨its,r,pl,hz⟩:=I.tuple hq
 obtain ⟨j,h1,h2,h3,h4,h5⟩:=atI_get he
 obtain ⟨w,ew,rw'⟩:=r.get h2
 have hl:=r.length
 have hn:=line63
 have fin:EP X pins σ Q w s:=⟨z,H,I,rw',q⟩
 exact subscriptTail_builtinR (x:=w) pl.typeIs slot_tuple_getitem.lookup
  (getItem_tuple (j:=j) (Q:=fun r s'=>r=w∧EP X pins σ Q r s') pl (by omega) (by omega) (by rw [List.size_toArray,← hl];exact h1) (by simpa using ew) ⟨rfl,fin⟩) hs
theorem ix_str:IxR X rIxS:=by
 intro value slice pins s σ H x y v u Q I rx ry h hs
 obtain ⟨z,i,c,rfl,rfl,hz,he,q⟩:=h
 obtain ⟨t,rfl⟩:=rx
 obtain ⟨t',rfl⟩:=ry
 obtain ⟨j,h1,h2,h3,h4,h5⟩:=atI_get he
 have hl:z.cps.toList.length=z.length:=by simp [Str.length]
 rw [hl] at h1 h4 h5
 have hn:=line63
 exact tail_any (typeIs_str s z t) slot_str_getitem.lookup (getItem_str (c:=c) (by
  have e1:decide (i < -(2 ^ 63:Int))=false:=decide_eq_false (by omega)
  have e2:decide (i≥2 ^ 63)=false:=decide_eq_false (by omega)
  rw [e1,e2,Bool.or_false]) (by rw [h1];simpa using h2) ⟨.str ⟨#[c]⟩,H,I.tok _,⟨_,rfl⟩,q⟩) hs
def rIx (K:PySem.W.Frag):R2:=fun x y H Q=>rIxL K x y H Q∨rIxT K x y H Q∨rIxS x y H Q
theorem ix_seq:IxR X (rIx X.K):=ix_list.or (ix_tup.or ix_str)
theorem mapSeq_set (its:List Value) (n j:Nat) (u:Value):Obj.mapSeq (·.setIfInBounds j u) { cls:=.type "list",data:=.seq its.toArray n }={ cls:=.type "list",data:=.seq (its.set j u).toArray n }:=by
 simp [Obj.mapSeq]
theorem Inv.lst {pins:List (Addr×Obj)}{σ:St}{H:Hp}{s:Shared}{p:Addr}{xs:List V} (I:Inv X pins σ H s) (h:H p=some (.lst xs)):
  ∃ (its:List Value) (n:Nat),Vals xs its∧s.heap.get? p=some { cls:=.type "list",data:=.seq its.toArray n }∧xs.length≤sizeLine:=by
 obtain ⟨z,its,n,r,e⟩:=I.hok p _ h
 exact ⟨its,n,r,e,z⟩
theorem Inv.lstUpd {pins:List (Addr×Obj)}{σ:St}{H:Hp}{s:Shared}{p:Addr}{xs ys:List V}{its its':List Value}{n n':Nat}{f:Obj→Obj} (I:Inv X pins σ H s) (h:H p=some (.lst xs))
  (ho:s.heap.get? p=some { cls:=.type "list",data:=.seq its.toArray n }) (hf:f { cls:=.type "list",data:=.seq its.toArray n }={ cls:=.type "list",data:=.seq its'.toArray n' }) (r:Vals ys its') (hz:ys.length≤sizeLine) (t:Nat):
  Inv X pins σ (upd H p (.lst ys)) { s with heap:=s.heap.update p f,toks:=t }:=by
 have e:(s.heap.update p f).get? p=some { cls:=.type "list",data:=.seq its'.toArray n' }:=by
  rw [Heap.get?_update_self f ho (by rw [hf]<;>rfl),hf]
 refine I.write (x:=p) (e:=p) (by rw [h];trivial) (.inl rfl) (fun b u hb q=>(Heap.get?_update_other _ _ (Ne.symm hb)).trans q) ⟨_,e⟩ ?_
 exact ⟨hz,its',n',r,e⟩
def rSetL:V→V→V→Hp→(Hp→Prop)→Prop:=fun o i v H Q=>∃ p xs k j,o=.ref p∧i=.int k∧H p=some (.lst xs)∧ixN xs.length k=some j∧Q (upd H p (.lst (xs.set j v)))
theorem set_list:PSet X rSetL:=by
 intro pins s σ H o i v ov iv u Q I ro ri rv h
 obtain ⟨p,xs,k,j,rfl,rfl,hp,hj,q⟩:=h
 cases ro
 obtain ⟨t,rfl⟩:=ri
 obtain ⟨its,n,r,ho,hz⟩:=I.lst hp
 obtain ⟨h1,h2,h3,h4⟩:=ixN_seq hj
 have hl:=r.length
 have hn:=line63
 have I':Inv X pins σ (upd H p (.lst (xs.set j v))) { s with heap:=s.heap.update p (Obj.mapSeq (·.setIfInBounds j u)) }:=
  I.lstUpd hp ho (mapSeq_set its n j u) (r.set rv j) (by rw [List.length_set];exact hz) s.toks
 by_cases h0:0≤k
 ·have hk:k.toNat=j:=by
   rw [seqIndex_of h0 h4] at h1
   exact Option.some.inj h1
  exact PySem.W.ki_setAt ho h0 (by omega) (by rw [List.size_toArray,← hl];exact h4) (by rw [hk];exact ⟨_,I',q⟩)
 ·have hk:(k + (its.toArray.size:Int)).toNat=j:=by
   rw [seqIndex_neg (by omega) h3] at h1
   rw [List.size_toArray,← hl]
   exact Option.some.inj h1
  exact PySem.W.ki_setBack ho (by omega) (by rw [List.size_toArray,← hl];exact h3) (by omega) (by rw [hk];exact ⟨_,I',q⟩)
theorem slice_bounds (lo hi:Option Int) (n:Nat):(sliceBounds lo hi none n).1=((HT.sIx n 0 lo:Nat):Int)∧(sliceBounds lo hi none n).2.1=((HT.sIx n n hi:Nat):Int)∧(sliceBounds lo hi none n).2.2=1:=by
 refine ⟨?_,?_,rfl⟩
 ·cases lo with
  | none=>simp [sliceBounds,HT.sIx]
  | some i=>
   simp only [sliceBounds,HT.sIx,Option.getD_none,show (1:Int) > 0 by decide,if_true]
   by_cases h:i < 0
   ·simp only [h,if_true]<;>omega
   ·simp only [h,if_false]<;>omega
 ·cases hi with
  | none=>simp [sliceBounds,HT.sIx]
  | some i=>
   simp only [sliceBounds,HT.sIx,Option.getD_none,show (1:Int) > 0 by decide,if_true]
   by_cases h:i < 0
   ·simp only [h,if_true]<;>omega
   ·simp only [h,if_false]<;>omega
theorem slicePick_cut (its:List Value) (lo hi:Option Int):slicePick its.toArray lo hi none=((its.drop (HT.sIx its.length 0 lo)).take (HT.sIx its.length its.length hi - HT.sIx its.length 0 lo)).toArray:=by
 obtain ⟨h1,h2,h3⟩:=slice_bounds lo hi its.toArray.size
 unfold slicePick
 rw [h1,h2,h3]
 simp only [sliceRange_one,pick_run,List.size_toArray]<;>rfl
def rSlL (K:PySem.W.Frag):V→Option Int→Option Int→Hp→VK→Prop:=fun x lo hi H Q=>∃ a xs,x=.ref a∧SqL K H a xs∧∀ p,H p=none→Q (.ref p) (upd H p (.lst (cutV xs lo hi)))
theorem sl_list:SlR X (rSlL X.K):=by
 intro pins s σ H x v vl vu lo hi sl Q I rx hs pl pu h
 obtain ⟨a,xs,rfl,hx,q⟩:=h
 cases rx
 obtain ⟨its,r,ht,hz⟩:=I.list hx
 have hlen:=r.length
 refine ⟨"list",_,slot_list_getitem.lookup,ht.isList.typeIs,?_⟩
 refine wpAny_getItem_list_slice ht.isList hs pl pu .none (by simp) ?_ (by rw [List.size_toArray]<;>omega)
 rw [slicePick_cut,← hlen]
 refine ⟨.ref s.heap.objs.size,_,I.laid (t':=s.toks) (o:=.lst (cutV xs lo hi)) (fun b ob q=>Heap.get?_push_of_some _ q) (Nat.le_refl _) ?_,rfl,q _ (I.hok.fresh (Nat.le_refl _))⟩
 exact ⟨Nat.le_trans (cutV_length xs lo hi) hz,_,0,(r.drop (HT.sIx xs.length 0 lo)).take (HT.sIx xs.length xs.length hi - HT.sIx xs.length 0 lo),Heap.get?_push_size _ rfl⟩
def flatV:V→Bool
 | .non=>true
 | .bl _=>true
 | .int _=>true
 | .str _=>true
 | _=>false
def eqV:V→V→Bool
 | .non,.non=>true
 | .bl a,.bl b=>a == b
 | .bl a,.int b=>(if a then 1 else 0) == b
 | .int a,.bl b=>a == (if b then 1 else 0)
 | .int a,.int b=>a == b
 | .str a,.str b=>a == b
 | _,_=>false
theorem eqAt_V {A:Around}{s:Shared}{y x:V}{u v:Value} (ry:RelV y u) (rx:RelV x v) (fy:flatV y=true) (fx:flatV x=true):SeqAt.EqAt A s u v (eqV y x):=by
 cases y with
 | non=>
  cases ry
  cases x with
  | non=>cases rx;exact SeqAt.EqAt.same _
  | bl b=>cases rx;exact SeqAt.EqAt.none_bool b
  | int b=>obtain ⟨t,rfl⟩:=rx;exact SeqAt.EqAt.none_int b t
  | str b=>obtain ⟨t,rfl⟩:=rx;exact SeqAt.EqAt.none_str b t
  | _=>exact absurd (show false=true from fx) Bool.false_ne_true
 | bl a=>
  cases ry
  cases x with
  | non=>cases rx;exact SeqAt.EqAt.bool_none a
  | bl b=>cases rx;exact SeqAt.EqAt.bool_bool a b
  | int b=>obtain ⟨t,rfl⟩:=rx;exact SeqAt.EqAt.bool_int a b t
  | str b=>obtain ⟨t,rfl⟩:=rx;exact SeqAt.EqAt.bool_str a b t
  | _=>exact absurd (show false=true from fx) Bool.false_ne_true
 | int a=>
  obtain ⟨t',rfl⟩:=ry
  cases x with
  | non=>cases rx;exact SeqAt.EqAt.int_none a t'
  | bl b=>cases rx;exact SeqAt.EqAt.int_bool a t' b
  | int b=>obtain ⟨t,rfl⟩:=rx;exact SeqAt.EqAt.int_int a t' b t
  | str b=>obtain ⟨t,rfl⟩:=rx;exact SeqAt.EqAt.int_str a t' b t
  | _=>exact absurd (show false=true from fx) Bool.false_ne_true
 | str a=>
  obtain ⟨t',rfl⟩:=ry
  cases x with
  | non=>cases rx;exact SeqAt.EqAt.str_none a t'
  | bl b=>cases rx;exact SeqAt.EqAt.str_bool a t' b
  | int b=>obtain ⟨t,rfl⟩:=rx;exact SeqAt.EqAt.str_int a t' b t
  | str b=>obtain ⟨t,rfl⟩:=rx;exact SeqAt.EqAt.str_str a t' b t
  | _=>exact absurd (show false=true from fx) Bool.false_ne_true
 | _=>exact absurd (show false=true from fy) Bool.false_ne_true
def eqU (x:V) (u:Value):Bool:=match u with
 | .none=>eqV .non x
 | .bool b=>eqV (.bl b) x
 | .int i _=>eqV (.int i) x
 | .str z _=>eqV (.str z) x
 | _=>false
theorem eqU_of {x y:V}{u:Value} (r:RelV y u) (f:flatV y=true):eqU x u=eqV y x:=by
 cases y with
 | non=>cases r;rfl
 | bl b=>cases r;rfl
 | int i=>obtain ⟨t,rfl⟩:=r;rfl
 | str z=>obtain ⟨t,rfl⟩:=r;rfl
 | _=>exact absurd (show false=true from f) Bool.false_ne_true
theorem any_eqU {x:V}:∀ {xs:List V}{us:List Value},Vals xs us→xs.all flatV=true→us.any (eqU x)=xs.any fun y=>eqV y x
 | _,_,.nil,_=>rfl
 | y :: xs,u :: us,.cons r t,f=>by
  rw [List.all_cons,Bool.and_eq_true] at f
  rw [List.any_cons,List.any_cons,eqU_of r f.1,any_eqU t f.2]
theorem mem_eqAt {A:Around}{s:Shared}{x:V}{v:Value} (rx:RelV x v) (fx:flatV x=true):∀ {xs:List V}{us:List Value},Vals xs us→xs.all flatV=true→∀ u∈us,SeqAt.EqAt A s u v (eqU x u)
 | _,_,.nil,_=>fun u hu=>by cases hu
 | y :: xs,u :: us,.cons r t,f=>fun u' hu=>by
  rw [List.all_cons,Bool.and_eq_true] at f
  rcases List.mem_cons.mp hu with rfl | hu
  ·rw [eqU_of r f.1];exact eqAt_V r rx f.1 fx
  ·exact mem_eqAt rx fx t f.2 u' hu
def inV (x:V) (xs:List V):Bool:=xs.any fun y=>eqV y x
def rIn (K:PySem.W.Frag) (neg:Bool):R2:=fun x y H Q=>∃ p xs,y=.ref p∧(SqL K H p xs∨SqT K H p xs)∧flatV x=true∧xs.all flatV=true∧Q (.bl (if neg then !inV x xs else inV x xs)) H
theorem op_in_seq:OpR X (compareOp .In) (rIn X.K false):=by
 intro pins s σ H x y v u Q I rx ry h
 obtain ⟨p,xs,rfl,hq,fx,fs,q⟩:=h
 cases ry
 rcases hq with hq | hq
 ·obtain ⟨its,r,pl,hz⟩:=I.list hq
  refine SeqAt.in_listAt (eqU x) pl.isList (fun w hw=>mem_eqAt rx fx r fs w (by simpa using hw)) ⟨.bl _,H,I,rfl,?_⟩
  rw [show its.toArray.any (eqU x)=its.any (eqU x) by simp,any_eqU r fs]
  exact q
 ·obtain ⟨its,r,pl,hz⟩:=I.tuple hq
  refine SeqAt.in_tupleAt (eqU x) pl (fun w hw=>mem_eqAt rx fx r fs w (by simpa using hw)) ⟨.bl _,H,I,rfl,?_⟩
  rw [show its.toArray.any (eqU x)=its.any (eqU x) by simp,any_eqU r fs]
  exact q
theorem call_len_seq:CallR X (.builtin "len") (fun xs H Q=>∃ p ys,xs=[.ref p]∧(SqL X.K H p ys∨SqT X.K H p ys)∧Q (.int ys.length) H):=by
 intro pins s σ H xs us Q I r h
 obtain ⟨p,ys,rfl,hq,q⟩:=h
 obtain ⟨u,rfl,rx⟩:=vals1 r
 cases rx
 have hn:=line63
 rcases hq with hq | hq
 ·obtain ⟨its,r',pl,hz⟩:=I.list hq
  have hlen:=r'.length
  exact Calls.call_len_list pl.isList (by simp only [List.size_toArray]<;>omega) ⟨.int ys.length,H,I.tok _,⟨s.toks + 1,by rw [List.size_toArray,hlen]⟩,q⟩
 ·obtain ⟨its,r',pl,hz⟩:=I.tuple hq
  have hlen:=r'.length
  exact len_tuple pl (by simp only [List.size_toArray]<;>omega) ⟨.int ys.length,H,I.tok _,⟨s.toks + 1,by rw [List.size_toArray,hlen]⟩,q⟩
def tyV (K:PySem.W.Frag) (T:String) (x:V) (H:Hp):Prop:=match x with
 | .str _=>T="str"
 | .int _=>T="int"
 | .ref p=>(T="list"∧∃ xs,SqL K H p xs)∨(T="tuple"∧∃ o,K.lookup p=some o∧o.cls=.type "tuple"∧o.dict=none)∨
   (T="dict"∧((∃ kvs,H p=some (.dK kvs))∨∃ kvs,H p=some (.dT kvs)))∨(T="set"∧∃ S n,H p=some (.set S n))
 | _=>False
theorem tyV_is {pins:List (Addr×Obj)}{σ:St}{H:Hp}{s:Shared}{T:String}{x:V}{v:Value} (I:Inv X pins σ H s) (r:RelV x v) (ty:tyV X.K T x H):
  s.TypeIs v T∧∀ a,v=.ref a→∃ ob,s.heap.get? a=some ob∧ob.dict=none:=by
 cases x with
 | str z=>
  obtain ⟨t,rfl⟩:=r
  cases (show T="str" from ty)
  exact ⟨typeIs_str s z t,fun _ e=>nomatch e⟩
 | int i=>
  obtain ⟨t,rfl⟩:=r
  cases (show T="int" from ty)
  exact ⟨typeIs_int s i t,fun _ e=>nomatch e⟩
 | ref p=>
  cases r
  rcases ty with ⟨rfl,xs,hq⟩ | ⟨rfl,o,hk,hc,hd⟩ | ⟨rfl,hk⟩ | ⟨rfl,S,n,hk⟩
  ·obtain ⟨its,_,pl,_⟩:=I.list hq
   refine ⟨pl.isList.typeIs,fun a e=>?_⟩
   cases e
   obtain ⟨o,n,e,c,hd,_⟩:=pl
   exact ⟨o,e,hd⟩
  ·refine ⟨⟨o,I.kIn p o hk,hc⟩,fun a e=>?_⟩
   cases e
   exact ⟨o,I.kIn _ o hk,hd⟩
  ·have z:∃ o,s.heap.get? p=some o∧o.ExactDict:=by
    rcases hk with ⟨kvs,hk⟩ | ⟨kvs,hk⟩
    ·obtain ⟨_,_,_,_,o,_,_,e,ex,_⟩:=I.hok p _ hk
     exact ⟨o,e,ex⟩
    ·obtain ⟨_,_,_,_,o,_,_,e,ex,_⟩:=I.hok p _ hk
     exact ⟨o,e,ex⟩
   obtain ⟨o,e,ex⟩:=z
   refine ⟨⟨o,e,ex.1⟩,fun a e2=>?_⟩
   cases e2
   exact ⟨o,e,ex.2.1⟩
  ·obtain ⟨o,_,_,_,e,ex,_⟩:=I.hok p _ hk
   refine ⟨⟨o,e,ex.1⟩,fun a e2=>?_⟩
   cases e2
   exact ⟨o,e,ex.2.1⟩
 | _=>exact False.elim ty
def tBM (K:PySem.W.Frag) (T:String) (r:V→List V→Hp→VK→Prop) (to:TE) (t:TA):TE:=fun σ H Q=>to σ H fun x H1=>tyV K T x H1∧t σ H1 fun xs H2=>r x xs H2 Q
variable {o e:Expr}{es:List Expr}{to:TE}{t:TA}{name:Str}{apos cpos:Pos}{T id:String}{r:V→List V→Hp→VK→Prop}
theorem pe_bm (pa:PlainAttrs T) (slot:Slot T name id) (hty:typeOf (.builtin id)=pure (.type "method_descriptor")) (hm:MtR X id r) (ho:PE X o to) (ha:PA X (e :: es) t)
  (hbase:attributeBase o name X.env (eval o X.env)=eval o X.env:=by rfl)
  (hfew:((backTo cpos (starEach (e :: es) X.env)).all (fun x=>!x.1) && (backToKw cpos (keywordEach [] X.env)).all (fun x=>x.1.isSome)
   && decide ((e :: es).length + ([]:List Keyword).length + (if ([]:List Keyword).isEmpty then 0 else 1) < 30))=true:=by rfl)
  (hline:(apos.endLine == cpos.line)=true:=by rfl) (hs:starEach (e :: es) X.env=(false,eval e X.env) :: starEach es X.env:=by rfl) (hplain:(backTo cpos (starEach es X.env)).any (·.1)=false:=by rfl):
  PE X (.Call (.Attribute o name apos) (e :: es) [] cpos) (tBM X.K T r to t):=by
 intro pins s σ H Q I h
 refine wpAny_Call_method_late hbase hfew hline rfl (thn (ho pins s σ H _ I h) fun v s1 ⟨x,H1,I1,r1,ty,q1⟩=>?_)
 obtain ⟨h1,h2⟩:=tyV_is I1 r1 ty
 refine ⟨T,id,pa,slot,hty,h1,h2,?_⟩
 have hA:=ha cpos pins s1 σ H1 _ I1 q1
 rw [hs] at hA ⊢
 refine Calls.callWith_builtin (by show (false || (backTo cpos (starEach es X.env)).any (·.1))=false;rw [hplain]<;>rfl) (Calls.evalArgs_plain ?_)
 exact thn hA fun us s2 ⟨vs,H2,I2,r2,q2⟩=>hm pins s2 σ H2 x vs v us Q I2 r1 r2 q2
end
end L2
namespace L2
open PySem PySem.Spec PyProof.Rows
def MtM (X:Cx) (id:String) (r:V→List V→Hp→VK→Prop):Prop:=
 ∀ (pins:List (Addr×Obj)) (s:Shared) (σ:St) (H:Hp) (x:V) (xs:List V) (v:Value) (us:List Value) (Q:VK),Inv X pins σ H s→RelV x v→Vals xs us→r x xs H Q→
  wpAny (model X.prog X.w) X.A (call (.builtin id) (v :: us)) (EP X pins σ Q) X.xe s
theorem Vals.one:∀ {x:V}{us:List Value},Vals [x] us→∃ u,us=[u]∧RelV x u
 | _,_,.cons r .nil=>⟨_,rfl,r⟩
theorem Vals.rep {xs:List V}{us:List Value} (h:Vals xs us):∀ k:Nat,Vals (List.replicate k xs).flatten (List.replicate k us).flatten
 | 0=>.nil
 | k + 1=>by
  rw [List.replicate_succ,List.replicate_succ,List.flatten_cons,List.flatten_cons]
  exact Vals.append h (Vals.rep h k)
theorem foldl_rep (its:List Value):∀ (k:Nat) (acc:List Value),
  List.foldl (fun x1 x2=>x1 ++ x2) acc.toArray (List.replicate k its.toArray)=(acc ++ (List.replicate k its).flatten).toArray
 | 0,acc=>by simp
 | k + 1,acc=>by
  have e:acc.toArray ++ its.toArray=(acc ++ its).toArray:=by simp
  have e2:(acc ++ its) ++ (List.replicate k its).flatten=acc ++ (List.replicate (k + 1) its).flatten:=by
   rw [List.replicate_succ,List.flatten_cons,List.append_assoc]
  rw [← e2,← foldl_rep its k (acc ++ its),← e,List.replicate_succ,List.foldl_cons]
section
variable {X:Cx}{pins:List (Addr×Obj)}{σ:St}{H:Hp}{s:Shared}{l b:Addr}{xs ys zs:List V}
theorem Inv.lset {its its':List Value}{n:Nat}{f:Array Value→Array Value}{t':Nat} (I:Inv X pins σ H s) (hH:H l=some (.lst xs))
  (e:s.heap.get? l=some { cls:=.type "list",data:=.seq its.toArray n }) (hf:f its.toArray=its'.toArray) (hv:Vals ys its') (hz:ys.length≤sizeLine):
  Inv X pins σ (upd H l (.lst ys)) { s with heap:=s.heap.update l (Obj.mapSeq f),toks:=t' }:=by
 have q:=PySem.IsL.update e f
 rw [hf] at q
 refine I.write (x:=l) (e:=l) (by rw [hH];exact trivial) (.inl rfl) (fun b' u hb hu=>(Heap.get?_update_other s.heap (Obj.mapSeq f) (Ne.symm hb)).trans hu) ⟨_,q⟩ ?_
 exact ⟨hz,its',_,hv,q⟩
theorem Inv.lnew {its:List Value}{t':Nat} (I:Inv X pins σ H s) (hv:Vals ys its) (hz:ys.length≤sizeLine):
  Inv X pins σ (upd H s.heap.objs.size (.lst ys)) { s with heap:=s.heap.push { cls:=.type "list",data:=.seq its.toArray },toks:=t' }:=
 I.laid (fun _ _ q=>Heap.get?_push_of_some _ q) (Nat.le_refl _) ⟨hz,its,0,hv,Heap.get?_push_size _ rfl⟩
theorem Inv.fresh (I:Inv X pins σ H s):H s.heap.objs.size=none:=I.hok.fresh (Nat.le_refl _)
theorem Inv.lstM (I:Inv X pins σ H s) (hH:H l=some (.lst xs)):xs.length≤sizeLine∧∃ (its:List Value) (n:Nat),Vals xs its∧xs.length=its.length∧s.heap.get? l=some { cls:=.type "list",data:=.seq its.toArray n }:=by
 obtain ⟨z,its,n,r,e⟩:=I.hok l _ hH
 exact ⟨z,its,n,r,r.length,e⟩
theorem notLongL {n:Nat} (h:n≤sizeLine):Builtin.List.listTooLong n=false:=by
 unfold Builtin.List.listTooLong
 exact decide_eq_false (by omega)
end
section
variable {X:Cx}
def rAppend:V→List V→Hp→VK→Prop:=fun x vs H Q=>∃ l xs y,x=.ref l∧vs=[y]∧H l=some (.lst xs)∧xs.length < sizeLine∧Q .non (upd H l (.lst (xs ++ [y])))
theorem mt_append:MtM X "list.append" rAppend:=by
 intro pins s σ H x vs v us Q I rx rv h
 obtain ⟨l,xs,y,rfl,rfl,hH,hz,q⟩:=h
 cases rx
 obtain ⟨u,rfl,ru⟩:=rv.one
 obtain ⟨z,its,n,r,hl,e⟩:=I.lstM hH
 refine call_meets F.slot_list_append ⟨_,e,rfl⟩ F.entry_list_append (F.args_list_append_2 _ _) (PySem.list_append l its.toArray n u (by rw [List.size_toArray];omega)) ⟨e,?_⟩
 refine ⟨.non,_,I.lset (its':=its ++ [u]) hH e (by simp) (r.append (.cons ru .nil)) ?_,rfl,q⟩
 rw [List.length_append,List.length_singleton]
 omega
def rCat:R2:=fun x y H Q=>∃ l b xs zs,x=.ref l∧y=.ref b∧H l=some (.lst xs)∧H b=some (.lst zs)∧xs.length + zs.length≤sizeLine∧∀ p,H p=none→Q (.ref p) (upd H p (.lst (xs ++ zs)))
theorem op_cat:OpR X (binaryOp .Add) rCat:=by
 intro pins s σ H x y v u Q I rx ry h
 obtain ⟨l,b,xs,zs,rfl,rfl,hH,hB,hz,q⟩:=h
 cases rx
 cases ry
 obtain ⟨z,its,n,r,hl,e⟩:=I.lstM hH
 obtain ⟨z2,its2,n2,r2,hl2,e2⟩:=I.lstM hB
 refine PySem.P.add_list e e2 ?_ (by rw [List.size_toArray,List.size_toArray];omega)
 have ea:its.toArray ++ its2.toArray=(its ++ its2).toArray:=by simp
 rw [ea]
 exact ⟨.ref _,_,I.lnew (t':=s.toks) (r.append r2) (by rw [List.length_append];omega),rfl,q _ I.fresh⟩
def rRep:R2:=fun x y H Q=>∃ l k xs,x=.ref l∧y=.int k∧H l=some (.lst xs)∧-(2 ^ 63)≤k∧k < 2 ^ 63∧xs.length * k.toNat≤sizeLine∧
 ∀ p,H p=none→Q (.ref p) (upd H p (.lst (List.replicate k.toNat xs).flatten))
theorem len_rep {α:Type} (xs:List α) (k:Nat):(List.replicate k xs).flatten.length=k * xs.length:=by
 induction k with
 | zero=>simp
 | succ k ih=>rw [List.replicate_succ,List.flatten_cons,List.length_append,ih,Nat.succ_mul,Nat.add_comm]
theorem op_rep:OpR X (binaryOp .Mult) rRep:=by
 intro pins s σ H x y v u Q I rx ry h
 obtain ⟨l,k,xs,rfl,rfl,hH,h1,h2,hz,q⟩:=h
 cases rx
 obtain ⟨t,rfl⟩:=ry
 obtain ⟨z,its,n,r,hl,e⟩:=I.lstM hH
 have hlen:its.toArray.size * k.toNat≤sizeLine:=by rw [List.size_toArray,← hl];exact hz
 have hcap:¬ its.toArray.size * k.toNat > (2 ^ 63 - 1) / 8:=by
  have:(sizeLine:Nat)≤(2 ^ 63 - 1) / 8:=by decide
  omega
 have hfit:¬ (!Builtin.List.listFitsIndex k)=true:=by
  rw [fitsIndex_both h1 h2]
  exact Bool.false_ne_true
 have hlong:¬ Builtin.List.listTooLong (its.toArray.size * k.toNat)=true:=by
  rw [notLongL hlen]
  exact Bool.false_ne_true
 have hnew:List.foldl (fun x1 x2=>x1 ++ x2) #[] (List.replicate (if its.toArray.isEmpty=true then 0 else k.toNat) its.toArray)=(List.replicate k.toNat its).flatten.toArray:=by
  have f0:∀ m:Nat,List.foldl (fun x1 x2=>x1 ++ x2) #[] (List.replicate m its.toArray)=(List.replicate m its).flatten.toArray:=fun m=>by
   have:=foldl_rep its m []
   rw [List.nil_append] at this
   exact this
  rw [f0]
  cases its with
  | nil=>simp
  | cons a r'=>rw [if_neg (by simp)]
 refine wpAny_binaryOp_repeat_ref (T:="list") (U:="int") (by decide) ⟨_,e,rfl⟩ (fun s'=>typeIs_int s' k t) noFill_list_mul F.fills_int_mul F.slot_int_rmul repeat_list F.slot_int_index.lookup
  (call_meets F.slot_int_rmul (typeIs_int s k t) F.entry_int_rmul (F.args_int_rmul_2 _ _) (int___rmul___int_list k t l its.toArray n)
   ⟨e,rfl,⟨_,e,rfl⟩,call_meets F.slot_list_mul ⟨_,e,rfl⟩ F.entry_list_mul (F.args_list_mul_2 _ _) (AutoListH.list___mul___list_int_3 l its.toArray n k t hfit hcap hlong) ⟨e,?_⟩⟩)
 rw [hnew]
 exact ⟨.ref _,_,I.lnew (t':=s.toks) (r.rep k.toNat) (by rw [len_rep,Nat.mul_comm];exact hz),rfl,q _ I.fresh⟩
end
section
variable {prog:Program}{w:World}{A:Around}{E:Value→Shared→Prop}{s:Shared}
end
section
variable {X:Cx}
end
end L2
namespace Att
open PySem PySem.W PySem.Calls PyProof.Rows
theorem ints_of_wellAll {P:Params}{h:Heap}:∀ (ns:List Int) (vs:List Value),WellAll P h vs (ns.map WData.int)→IntsAre vs ns:=by
 intro ns
 induction ns with
 | nil=>
  intro vs w
  rw [List.map_nil] at w
  cases w
  exact .nil
 | cons n ns ih=>
  intro vs w
  rw [List.map_cons] at w
  cases w with
  | cons a b=>
   cases a
   exact .cons _ _ (ih _ b)
theorem script_of {l:OpenLaw}{n:Nat} (hn:l.most=some n) {P:Params}{h:Heap}{args:List WData}{vals:List Value}
  (hpre:l.row.toRowW.claim.pre args=true) (hwl:WellAll P h vals args):
  ∃ a vs ns,vals=[Value.ref a]∧args=[WData.list (ns.map WData.int)]∧h.get? a=some { cls:=.type "list",data:=.seq vs.toArray }∧IntsAre vs ns∧ns.length≤n:=by
 have hsh:WShape.hasAll [] args [.list .int]=true:=(pre_splitW hpre).1
 have hc:l.pre.holds [] { args:=args }=true:=(pre_splitW hpre).2
 obtain ⟨d,r,rfl,h1,h2⟩:=hasAllW_cons hsh
 obtain rfl:=hasAllW_nil h2
 obtain ⟨xs,rfl,h3⟩:=hasW_list h1
 obtain ⟨ns,rfl⟩:=items_int h3
 have hlen:ns.length≤n:=by
  unfold OpenLaw.pre at hc
  have h4:(WTm.not (.lt (.lit (.int (n:Int))) (.len (.arg 0)))).holds [] { args:=[.list (ns.map .int)] }=true:=by
   have h4:=(holds_andW hc).1
   rw [hn] at h4
   exact h4
  have h5:=condW_of h4 (w_not (w_lt w_lit (w_len_list (w_arg rfl))))
  rw [List.length_map] at h5
  refine Nat.le_of_not_lt fun q=>?_
  have q':(n:Int) < ((ns.length:Nat):Int):=by omega
  first
   | (rw [decide_eq_true q'] at h5;exact absurd h5 (by decide))
   | (simp at h5;omega)
 cases hwl with
 | cons w1 w2=>
  cases w2
  cases w1 with
  | list ho hall=>exact ⟨_,_,ns,rfl,rfl,ho,ints_of_wellAll ns _ hall,hlen⟩
theorem post_true (l:OpenLaw) (args:List WData):l.row.toRowW.claim.post args (.bool true) args=true:=
 postW_of (r:=l.row.toRowW) (X:=(true == true))
  (show WShape.has [] (.bool true) .bool=true by first | rfl | decide | simp [WShape.has,WShape.arms,WShape.armsAll])
  (show (WTm.eq .res (.lit (.bool true))).value [] { args:=args,res:=some (.bool true),after:=args }=some (.bool (true == true)) from w_eq_bool (w_res rfl) w_lit) rfl
section
variable {prog:Program}{w:World}{A:Around}{E:Value→Shared→Prop}{s:Shared}{K:Frag}
end
end Att
namespace L2
open PySem PySem.Spec PyProof.Rows
theorem vals_ints:∀ {vs:List Value}{ns:List Int},IntsAre vs ns→Vals (ns.map V.int) vs
 | _,_,.nil=>.nil
 | _,_,.cons n t h=>.cons ⟨t,rfl⟩ (vals_ints h)
def Only (H:Hp):Prop:=∀ b,H b=none∨∃ o xs,H b=some (.frz o (.lst xs))
theorem law_call {P:Program}{w:World}{K:PySem.W.Frag}{mg mb:Str→Option Value}{CX:CXT}{k:Nat}{fa a:Addr}{fd:FuncData}{x:Str}{sp:Sp}{s₁:Shared}{vs:List Value}{ns:List Int}
  (KX:K.In s₁.heap) (hns:s₁.heap.Ns mainGlobals mg) (hb:s₁.heap.Ns builtinsNs mb) (hbb:∀ x:Str,x≠"__name__"→mb x=bootBuiltins x) (hlim:s₁.heap.NoLimit) (hg:s₁.gens=#[])
  (ha:s₁.heap.get? a=some { cls:=.type "list",data:=.seq vs.toArray }) (hi:IntsAre vs ns) (hl:ns.length≤sizeLine) (hr:Room k callerA)
  (F:∀ base:Heap,K.In base→base.Ns mainGlobals mg→FnOk P w K mg base CX k fa fd [x] sp) (hbind:∀ (s:Shared) (u:Value),BindsTo s fd ⟨[u],[]⟩ [(x,u)])
  (hsp:∀ H:Hp,Only H→SqL K H a (ns.map V.int)→sp [.ref a] H (fun v _=>v=.bl true) fun _ _ _=>False)
  (hCX:∀ H e s',CX [] H s₁ (fun _ _ _=>False) e s'→False):
  codeAny (model P w) callerA (.call (.ref fa) ⟨[.ref a],[]⟩) (fun r s'=>r=.ok (.ret (.bool true))∧OldK s₁.heap s'.heap∧s'.os=s₁.os∧AllBare s'.gens) s₁:=by
 have rv:=vals_ints hi
 have lenV:=hi.length
 have core:∀ H:Hp,Only H→SqL K H a (ns.map V.int)→HOk P w H s₁.heap→(∀ b,H b≠none→b=a)→(H a≠none→K.lookup a=none)→
   codeAny (model P w) callerA (.call (.ref fa) ⟨[.ref a],[]⟩) (fun r s'=>r=.ok (.ret (.bool true))∧OldK s₁.heap s'.heap∧s'.os=s₁.os∧AllBare s'.gens) s₁:=by
  intro H hO hS hok hA hK
  have base_of:∀ {b:Addr}{o:Obj},s₁.heap.get? b=some o→H b=none→(hidT s₁.heap H).get? b=some o:=fun e n=>hidT_get e n
  have noA:∀ {b:Addr}{o:Obj}{es:Array DictEntry}{ep:Nat},s₁.heap.get? b=some o→o.data=.dict es ep→H b=none:=fun {b o es ep} e d=>by
   cases q:H b with
   | none=>rfl
   | some u=>
    have e':b=a:=hA b (by rw [q];simp)
    subst e'
    rw [ha] at e;cases e
    have d':Data.seq vs.toArray _=Data.dict es ep:=d
    cases d'
  have nsK:∀ {b:Addr}{m:Str→Option Value},s₁.heap.Ns b m→(hidT s₁.heap H).Ns b m:=fun {b m} ⟨o,es,ep,e,d,r⟩=>⟨o,es,ep,base_of e (noA e d),d,r⟩
  have hKb:K.In (hidT s₁.heap H):=fun b o e=>base_of (KX b o e) (by
   cases q:H b with
   | none=>rfl
   | some u=>
    have e':b=a:=hA b (by rw [q];simp)
    subst e'
    rw [hK (by rw [q];simp)] at e;cases e)
  have hM:Mod K mg (hidT s₁.heap H):=⟨hKb,nsK hns,⟨mb,nsK hb,hbb⟩,let ⟨mc,h1,h2⟩:=hlim;⟨mc,nsK h1,h2⟩⟩
  have e0:Env0 P w K mg (hidT s₁.heap H) callerA [] s₁ H:=⟨rfl,hM,fun b o e=>of_hidT e,Nat.le_of_eq (hidT_size _ _),trivial,fun b hb=>absurd (show b∈([]:List Addr) from hb) (by simp),hok,.of_eq hg⟩
  refine codeAny_mono ((F _ hKb (nsK hns)).run callerA [] s₁ H ⟨[.ref a],[]⟩ [.ref a] [.ref a] _ _ hr e0 (hbind s₁ (.ref a)) (.cons rfl .nil) (hsp H hO hS)) fun r s' h=>?_
  cases r with
  | error e=>exact (hCX H e s' h).elim
  | ok fl=>
   cases fl with
   | next=>exact False.elim h
   | brk=>exact False.elim h
   | cont=>exact False.elim h
   | ret u=>
    obtain ⟨v,H',os,bare,un,hok',r',q⟩:=h
    have q':v=.bl true:=q
    subst q'
    obtain rfl:u=Value.bool true:=r'
    refine ⟨rfl,OldK.of_keep fun b o e=>?_,os,bare⟩
    cases q:H b with
    | none=>exact un.keep b o e q (by intro z;exact absurd (show b∈([]:List Addr) from z) (by simp)) (by simp)
    | some u=>
     rcases hO b with z | ⟨ob,xs,z⟩
     ·rw [q] at z;cases z
     ·have z2:=un.frzs b ob _ z
      obtain ⟨e1,_⟩:=hok b _ z
      obtain ⟨e2,_⟩:=hok' b _ z2
      rw [e] at e1;cases e1
      exact e2
 cases hk:K.lookup a with
 | some o=>
  have e:=KX a o hk
  rw [ha] at e
  cases e
  refine core (fun _=>none) (fun _=>.inl rfl) (.inr ⟨_,vs.toArray,_,hk,rfl,rfl,rfl,by rw [List.size_toArray,lenV];exact hl,by simpa using rv⟩) (fun b u z=>by have z':(none:Option HO)=some u:=z;cases z') (fun b z=>absurd rfl z) fun z=>absurd rfl z
 | none=>
  refine core (fun b=>if b=a then some (.frz { cls:=.type "list",data:=.seq vs.toArray } (.lst (ns.map V.int))) else none) (fun b=>?_) (.inl (.inr ⟨{ cls:=.type "list",data:=.seq vs.toArray },if_pos rfl⟩)) (fun b u z=>?_) (fun b z=>?_) fun _=>hk
  ·by_cases hb:b=a
   ·exact .inr ⟨_,_,if_pos hb⟩
   ·exact .inl (if_neg hb)
  ·by_cases hb:b=a
   ·have z':=(if_pos hb).symm.trans z
    cases z'
    subst hb
    exact ⟨ha,by rw [List.length_map];exact hl,vs,_,rv,ha⟩
   ·have z':=(if_neg hb).symm.trans z
    cases z'
  ·by_cases hb:b=a
   ·exact hb
   ·exact absurd (if_neg hb) z
end L2
namespace L2
open PySem PySem.Spec PyProof.Rows
end L2
namespace L2
open PySem PySem.Spec PyProof.Rows
def inClass (s:Stmt) (j:Nat):Stmt:=match s with
 | .ClassDef _ _ _ body _ _ _ _ _ _ _=>body.getD j (.Pass ⟨0,0,0,0⟩)
 | _=>.Pass ⟨0,0,0,0⟩
def defArgs (s:Stmt):Arguments:=match s with
 | .FunctionDef _ a _ _ _ _ _ _ _ _=>a
 | _=>{ posonlyargs:=[],args:=[],vararg:=none,kwonlyargs:=[],kw_defaults:=[],kwarg:=none,defaults:=[] }
def defBody (s:Stmt):List Stmt:=match s with
 | .FunctionDef _ _ b _ _ _ _ _ _ _=>b
 | _=>[]
def defScope (s:Stmt):Scope:=match s with
 | .FunctionDef _ _ _ _ _ _ sc _ _ _=>sc
 | _=>{ kind:=.function,names:=[],isGenerator:=false,isCoroutine:=false }
abbrev E0:XK:=fun _ _ _=>False
structure Fun (K:PySem.W.Frag) (x qual:Str) (st:Stmt) (f:Addr) (fd:FuncData):Prop where
 ex:∃ (oc:Value) (od:Option Addr) (kV doc pm:Value) (an:Option Addr) (cdv ct:Value) (osl:Array (Option Value)),
  fd=PySem.W.fnOf x qual (defArgs st) (defBody st) (defScope st) .none kV doc pm an cdv ct∧K.lookup f=some ⟨oc,od,.func fd,osl⟩∧PySem.W.codeIn K cdv qual=true
 kp:PySem.W.keepIn K (.ref f)=true
section
variable {P:Program}{w:World}{K:PySem.W.Frag}{mg:Str→Option Value}{base:Heap}
theorem Fun.binds {x qual:Str}{st:Stmt}{f:Addr}{fd:FuncData}{ps:List Str} (F:Fun K x qual st f fd)
  (h:∀ (kV doc pm:Value) (an:Option Addr) (cdv ct:Value) (us:List Value),us.length=ps.length→bindArgs (PySem.W.fnOf x qual (defArgs st) (defBody st) (defScope st) .none kV doc pm an cdv ct) ⟨us,[]⟩=pure (ps.zip us)):Binds K fd ps []:=by
 obtain ⟨oc,od,kV,doc,pm,an,cdv,ct,osl,rfl,lk,hcd⟩:=F.ex
 exact .all (h kV doc pm an cdv ct)
theorem fun_mk {x qual:Str}{st:Stmt}{f:Addr}{oc:Value}{od an:Option Addr}{osl:Array (Option Value)}{kV doc pm cdv ct:Value} (l:K.lookup f=some ⟨oc,od,.func (PySem.W.fnOf x qual (defArgs st) (defBody st) (defScope st) .none kV doc pm an cdv ct),osl⟩)
  (c:PySem.W.codeIn K cdv qual=true) (k:PySem.W.keepIn K (.ref f)=true):Fun K x qual st f (PySem.W.fnOf x qual (defArgs st) (defBody st) (defScope st) .none kV doc pm an cdv ct):=⟨⟨oc,od,kV,doc,pm,an,cdv,ct,osl,rfl,l,c⟩,k⟩
end
theorem hu_of {A:Around}{k:Nat} (hr:Room k A):A.units + 1 < cLine:=Nat.lt_of_le_of_lt (Nat.add_le_add_left (by decide:1≤64) _) hr.units
section
variable {X:Cx}
theorem pv (i:Nat) {x:Str}{pos:Pos} (hN:X.N[i]? =some x:=by rfl) (hv:Vis X.env.scope x:=by first | exact Or.inl rfl | exact Or.inr (Or.inl rfl) | exact Or.inr (Or.inr rfl)) (hd:(x == ("__debug__":Str))=false:=by decide)
  (hcd:(x == ("__classdict__":Str))=false:=by decide):PE X (.Name x pos) (tVar i):=pe_var hN hv hd hcd
end
theorem iteF {A B:Prop} (h:B):if false=true then A else B:=by
 rw [if_neg Bool.false_ne_true]
 exact h
theorem iteT {A B:Prop} (h:A):if true=true then A else B:=by
 rw [if_pos rfl]
 exact h
theorem ite2 {c A B:Prop} [Decidable c] (h1:c→A) (h2:¬ c→B):if c then A else B:=by
 by_cases h:c
 ·rw [if_pos h]
  exact h1 h
 ·rw [if_neg h]
  exact h2 h
def Same (H H':Hp):Prop:=∀ b o,H b=some o→H' b=some o
theorem Same.refl (H:Hp):Same H H:=fun _ _ h=>h
theorem Same.trans {H H1 H2:Hp} (a:Same H H1) (b:Same H1 H2):Same H H2:=fun c o h=>b c o (a c o h)
theorem Same.free {H H':Hp} (e:Same H H') {l:Addr} (h:H' l=Option.none):H l=Option.none:=by
 cases q:H l with
 | none=>rfl
 | some o=>
  rw [e l o q] at h
  cases h
theorem Same.seq {K:PySem.W.Frag}{H H':Hp}{a:Addr}{xs:List V} (e:Same H H') (h:SqL K H a xs):SqL K H' a xs:=by
 rcases h with (h | ⟨o,h⟩) | h
 ·exact .inl (.inl (e _ _ h))
 ·exact .inl (.inr ⟨o,e _ _ h⟩)
 ·exact .inr h
end L2
namespace L2
open PySem PySem.Spec PyProof.Rows
end L2
namespace L2
open PySem PySem.Spec PyProof.Rows
end L2
namespace L2
open PySem PySem.Spec PyProof.Rows
section
variable {X:Cx}{pins:List (Addr×Obj)}{σ:List (Option V)}{H H':Hp}{s:Shared}{h':Heap}
end
end L2
namespace L2
open PySem PySem.Spec PyProof.Rows
section
variable {X:Cx}
variable {a b:Expr}{ta tb:TE}{pos:Pos}
variable {tA tB':TT}{rest:List Expr}
end
end L2
namespace L2
open PySem PySem.Spec PyProof.Rows
end L2
namespace L2
open PySem PySem.Spec PyProof.Rows
end L2
namespace L2
open PySem PySem.Spec PyProof.Rows
section
variable {X:Cx}{a b c:Expr}{ta tb tc:TE}{pos:Pos}
end
end L2
namespace L2
open PySem PySem.Spec PyProof.Rows
section
variable {prog:Program}{w:World}{A:Around}{E:Value→Shared→Prop}{s:Shared}{K:PySem.W.Frag}{x dx C f:Addr}{mA:Str→Option Value}{name:Str}{v:Value}
end
section
variable {X:Cx}{pins:List (Addr×Obj)}{σ:St}{H:Hp}{s:Shared}{a C dx:Addr}{fs:List (Str×V)}{f:Str}{v:V}{A:Around}{E:Value→Shared→Prop}
end
end L2
namespace L2
open PySem PySem.Spec PyProof.Rows
section
variable {X:Cx}{CX:CXT}{k:Nat}{f C:Addr}{fd:FuncData}{ps:List Str}{sp:Sp}{dvs:List V}{ds:List Value}{E:XK}{x m:Str}{p pos apos:Pos}{e o:Expr}{es:List Expr}{ta:TE}{t:TA}
end
end L2
namespace L2
open PySem PySem.Spec PyProof.Rows
section
variable {X:Cx}{x:Str}{p pos:Pos}{e:Expr}{es:List Expr}{t:TA}{id T:String}{r:List V→Hp→VK→Prop}
end
end L2
namespace L2
open PySem PySem.Spec PyProof.Rows
section
variable {κ:Type} [DecidableEq κ]
def valV (kvs:List (κ×V)) (k:κ):Option V:=(kvs.find? fun kv=>decide (kv.1=k)).map (·.2)
def putK (kvs:List (κ×V)) (k:κ) (v:V):List (κ×V):=
 if (kvs.any fun kv=>decide (kv.1=k))=true then kvs.map (fun kv=>if kv.1=k then (kv.1,v) else kv) else kvs ++ [(k,v)]
theorem valV_pos {p:κ×V}{r:List (κ×V)}{k:κ} (e:p.1=k):valV (p :: r) k=some p.2:=by simp [valV,List.find?_cons,e]
theorem valV_neg {p:κ×V}{r:List (κ×V)}{k:κ} (e:¬ p.1=k):valV (p :: r) k=valV r k:=by simp [valV,List.find?_cons,e]
theorem valV_any (k:κ):∀ kvs:List (κ×V),(kvs.any fun kv=>decide (kv.1=k))=(valV kvs k).isSome
 | []=>rfl
 | p :: r=>by
  rw [List.any_cons]
  by_cases e:p.1=k
  ·simp only [valV_pos e,decide_eq_true e,Bool.true_or,Option.isSome_some]
  ·rw [valV_neg e,decide_eq_false e,Bool.false_or];exact valV_any k r
theorem length_putK (kvs:List (κ×V)) (k:κ) (v:V):(putK kvs k v).length≤kvs.length + 1:=by
 unfold putK
 split
 ·rw [List.length_map];omega
 ·rw [List.length_append,List.length_cons,List.length_nil];omega
theorem putK_new {kvs:List (κ×V)}{k:κ} (v:V) (h:valV kvs k=none):putK kvs k v=kvs ++ [(k,v)]:=by
 unfold putK
 rw [valV_any,h]
 exact if_neg (by decide)
theorem RelO.isSome_eq {o:Option V}{u:Option Value} (r:RelO o u):o.isSome=u.isSome:=by
 cases o with
 | none=>cases u with
  | none=>rfl
  | some _=>exact (show False from r).elim
 | some _=>cases u with
  | none=>exact (show False from r).elim
  | some _=>rfl
theorem KV.val {kvs:List (κ×V)}{vs:List (κ×Value)} (r:KV kvs vs) (k:κ):RelO (valV kvs k) (valueAt vs k):=by
 unfold KV at r
 induction r with
 | nil=>exact True.intro
 | @cons p q ps qs h t ih=>
  obtain ⟨h1,h2⟩:=h
  by_cases e:p.1=k
  ·have e':q.1=k:=h1.symm.trans e
   have b:valueAt (q :: qs) k=some q.2:=by simp [valueAt,List.find?_cons,e']
   rw [valV_pos e,b];exact h2
  ·have e':¬ q.1=k:=fun z=>e (h1.trans z)
   have b:valueAt (q :: qs) k=valueAt qs k:=by simp [valueAt,List.find?_cons,e']
   rw [valV_neg e,b];exact ih
theorem KV.any {kvs:List (κ×V)}{vs:List (κ×Value)} (r:KV kvs vs) (k:κ):(kvs.any fun kv=>decide (kv.1=k))=vs.any fun kv=>decide (kv.1=k):=by
 unfold KV at r
 induction r with
 | nil=>rfl
 | cons h t ih=>rw [List.any_cons,List.any_cons,ih,h.1]
theorem KV.repl {kvs:List (κ×V)}{vs:List (κ×Value)} (r:KV kvs vs) (k:κ) {y:V}{u:Value} (ry:RelV y u):
  KV (kvs.map fun kv=>if kv.1=k then (kv.1,y) else kv) (vs.map fun kv=>if kv.1=k then (kv.1,u) else kv):=by
 unfold KV at r ⊢
 induction r with
 | nil=>exact .nil
 | @cons p q ps qs h t ih=>
  rw [List.map_cons,List.map_cons]
  refine .cons ?_ ih
  obtain ⟨h1,h2⟩:=h
  by_cases e:p.1=k
  ·rw [if_pos e,if_pos (h1.symm.trans e)];exact ⟨h1,ry⟩
  ·rw [if_neg e,if_neg (fun z=>e (h1.trans z))];exact ⟨h1,h2⟩
theorem KV.put {kvs:List (κ×V)}{vs:List (κ×Value)} (r:KV kvs vs) (k:κ) {y:V}{u:Value} (ry:RelV y u):KV (putK kvs k y) (stored vs k u):=by
 unfold putK stored
 rw [r.any k]
 by_cases e:(vs.any fun kv=>decide (kv.1=k))=true
 ·rw [if_pos e,if_pos e];exact r.repl k ry
 ·rw [if_neg e,if_neg e];exact Paired.snoc r ⟨rfl,ry⟩
theorem KV.length {kvs:List (κ×V)}{vs:List (κ×Value)} (r:KV kvs vs):kvs.length=vs.length:=Paired.length r
end
theorem kV_is {P:Program}{w:World}{k:Key}{u:Value} (r:RelV (kV k) u):(mixKind P w).is k u=true:=by
 cases k with
 | inl i=>obtain ⟨t,e⟩:=(show ∃ t,u=Value.int i t from r);subst e;exact mixKind_int P w i t
 | inr x=>obtain ⟨t,e⟩:=(show ∃ t,u=Value.str x t from r);subst e;exact mixKind_str P w x t
theorem items_are {P:Program}{w:World}:∀ {ks:List Key}{us:List Value},Vals (ks.map kV) us→ItemsAre (mixKind P w) ks us
 | [],_,r=>by rw [List.map_nil] at r;cases r;exact .nil
 | k :: ks,_,r=>by
  rw [List.map_cons] at r
  cases r with
  | cons h t=>exact .cons (kV_is h) (items_are t)
abbrev KT (H:Hp):List (List Key×V)→List (List Key×Addr×Value)→Prop:=Paired fun p q=>p.1=q.1∧H q.2.1=some (.tup (p.1.map kV))∧RelV p.2 q.2.2
theorem KT.val {H:Hp}{kvs:List (List Key×V)}{xs:List (List Key×Addr×Value)} (r:KT H kvs xs) (k:List Key):RelO (valV kvs k) ((atKey xs k).map (·.2)):=by
 induction r with
 | nil=>exact True.intro
 | @cons p q ps qs h t ih=>
  obtain ⟨h1,_,h2⟩:=h
  by_cases e:p.1=k
  ·have e':q.1=k:=h1.symm.trans e
   have b:atKey (q :: qs) k=some q.2:=by simp [atKey,List.find?_cons,e']
   rw [valV_pos e,b];exact h2
  ·have e':¬ q.1=k:=fun z=>e (h1.trans z)
   have b:atKey (q :: qs) k=atKey qs k:=by simp [atKey,List.find?_cons,e']
   rw [valV_neg e,b];exact ih
theorem KT.repl {H:Hp}{kvs:List (List Key×V)}{xs:List (List Key×Addr×Value)} (r:KT H kvs xs) (k:List Key) {y:V}{u:Value} (ry:RelV y u):
  KT H (kvs.map fun kv=>if kv.1=k then (kv.1,y) else kv) (xs.map (putAt k u)):=by
 induction r with
 | nil=>exact .nil
 | @cons p q ps qs h t ih=>
  rw [List.map_cons,List.map_cons]
  refine .cons ?_ ih
  obtain ⟨h1,h2,h3⟩:=h
  unfold putAt
  by_cases e:p.1=k
  ·rw [if_pos e,if_pos (h1.symm.trans e)];exact ⟨h1,h2,ry⟩
  ·rw [if_neg e,if_neg (fun z=>e (h1.trans z))];exact ⟨h1,h2,h3⟩
theorem KT.put {H:Hp}{kvs:List (List Key×V)}{xs:List (List Key×Addr×Value)} (r:KT H kvs xs) (k:List Key) {b:Addr}{y:V}{u:Value} (hb:H b=some (.tup (k.map kV))) (ry:RelV y u):
  KT H (putK kvs k y) (storedH xs k b u):=by
 have e:(kvs.any fun kv=>decide (kv.1=k))=(atKey xs k).isSome:=by
  rw [valV_any,(r.val k).isSome_eq,Option.isSome_map]
 unfold putK storedH
 rw [e]
 by_cases q:(atKey xs k).isSome=true
 ·rw [if_pos q,if_pos q];exact r.repl k ry
 ·rw [if_neg q,if_neg q];exact Paired.snoc r ⟨rfl,hb,ry⟩
theorem KT.keeps {H H':Hp}{kvs:List (List Key×V)}{xs:List (List Key×Addr×Value)} (r:KT H kvs xs) (ht:∀ b ys,H b=some (.tup ys)→H' b=some (.tup ys)):KT H' kvs xs:=
 Paired.mapP r fun _ _ z=>⟨z.1,ht _ _ z.2.1,z.2.2⟩
section
variable {P:Program}{w:World}{H:Hp}{h:Heap}{a:Addr}
theorem rd_of {u:HO} (ok:HOk P w H h) (e:Rd H a u):ObjOk P w H h a u:=e.ok ok
theorem dk_rd {kvs:List (Key×V)} (ok:HOk P w H h) (e:Rd H a (.dK kvs)):kvs.length≤sizeLine∧(a == sysModules)=false∧∃ vs,KV kvs vs∧h.DictOf (mixKind P w) a vs:=
 show ObjOk P w H h a (.dK kvs) from rd_of ok e
theorem dk_of {kvs:List (Key×V)} (ok:HOk P w H h) (e:H a=some (.dK kvs)):kvs.length≤sizeLine∧(a == sysModules)=false∧∃ vs,KV kvs vs∧h.DictOf (mixKind P w) a vs:=dk_rd ok (.inl e)
theorem key_of {ks:List Key} (ok:HOk P w H h) (e:H a=some (.tup (ks.map kV))):(tupleKind (mixKind P w)).is h ks a:=by
 obtain ⟨_,its,r,o,h1,h2,n,h3⟩:=(show ObjOk P w H h a (.tup (ks.map kV)) from ok a _ e)
 exact ⟨o,its.toArray,n,h1,h2,h3,by simpa using items_are r⟩
theorem dt_rd {kvs:List (List Key×V)} (ok:HOk P w H h) (e:Rd H a (.dT kvs)):kvs.length≤sizeLine∧(a == sysModules)=false∧
  ∃ xs,KT H kvs xs∧h.DictOfH (tupleKind (mixKind P w)) a xs:=by
 obtain ⟨z,y,xs,r,o,es,ep,h1,h2,h3,h4,h5⟩:=(show ObjOk P w H h a (.dT kvs) from rd_of ok e)
 refine ⟨z,y,xs,r,o,es,ep,h1,h2,h3,h4,fun x hx=>?_,h5⟩
 have all:∀ {l:List (List Key×V)}{m:List (List Key×Addr×Value)},KT H l m→∀ x∈m,(tupleKind (mixKind P w)).is h x.1 x.2.1:=by
  intro l m q
  induction q with
  | nil=>intro x hx;exact nomatch hx
  | @cons p q ps qs hq t ih=>
   intro x hx
   rcases List.mem_cons.mp hx with e | hx
   ·subst e
    exact key_of ok (by rw [← hq.1];exact hq.2.1)
   ·exact ih x hx
 exact all r x hx
theorem dt_of {kvs:List (List Key×V)} (ok:HOk P w H h) (e:H a=some (.dT kvs)):kvs.length≤sizeLine∧(a == sysModules)=false∧
  ∃ xs,KT H kvs xs∧h.DictOfH (tupleKind (mixKind P w)) a xs:=dt_rd ok (.inl e)
end
def DGet (H:Hp) (a:Addr) (y:V) (r:Option V):Prop:=
 (∃ kvs k,Rd H a (.dK kvs)∧y=kV k∧r=valV kvs k)∨∃ kvs k b,Rd H a (.dT kvs)∧y=.ref b∧H b=some (.tup (k.map kV))∧r=valV kvs k
def DPut (H:Hp) (a:Addr) (y v:V) (H':Hp):Prop:=
 (∃ kvs k,H a=some (.dK kvs)∧y=kV k∧kvs.length < sizeLine∧H'=upd H a (.dK (putK kvs k v)))∨
 ∃ kvs k b,H a=some (.dT kvs)∧y=.ref b∧H b=some (.tup (k.map kV))∧kvs.length < sizeLine∧H'=upd H a (.dT (putK kvs k v))
theorem DGet.k {H:Hp}{a:Addr}{kvs:List (Key×V)}{k:Key} (e:H a=some (.dK kvs)):DGet H a (kV k) (valV kvs k):=.inl ⟨kvs,k,.inl e,rfl,rfl⟩
theorem DPut.k {H:Hp}{a:Addr}{kvs:List (Key×V)}{k:Key}{v:V} (e:H a=some (.dK kvs)) (hl:kvs.length < sizeLine):DPut H a (kV k) v (upd H a (.dK (putK kvs k v))):=.inl ⟨kvs,k,e,rfl,hl,rfl⟩
section
variable {X:Cx}{pins:List (Addr×Obj)}{σ:St}{H:Hp}{s:Shared}{a:Addr}{y v:V}{u r:Value}{o:Option V}{A:Around}{E:Value→Shared→Prop}
theorem Inv.big (I:Inv X pins σ H s):sysModules < s.heap.objs.size:=by
 have h:mainGlobals < s.heap.objs.size:=(I.mod.glob.keeps I.bk).lt
 exact Nat.lt_trans (by decide) h
theorem d_getItem {Q:Value→Shared→Prop} (hu:A.units + 1 < cLine) (I:Inv X pins σ H s) (g:DGet H a y (some v)) (ry:RelV y u) (h:∀ w' s',Inv X pins σ H s'→RelV v w'→Q w' s'):
  wpAny (model X.prog X.w) A (getItem (.ref a) u) Q E s:=by
 rcases g with ⟨kvs,k,e,ey,l⟩ | ⟨kvs,k,b,e,ey,eb,l⟩
 ·subst ey
  obtain ⟨z,hd,vs,rel,dd⟩:=dk_rd I.hok e
  obtain ⟨w',hw,rw'⟩:=RelO.some_of (v:=v) (o:=valueAt vs k) (by rw [l];exact rel.val k)
  exact wpAny_getItem_of (kV_is ry) dd.mapOf hw (h w' _ (I.tok _) rw')
 ·subst ey
  cases (show u=Value.ref b from ry)
  obtain ⟨z,hd,xs,rel,dd⟩:=dt_rd I.hok e
  obtain ⟨w',hw,rw'⟩:=RelO.some_of (v:=v) (o:=(atKey xs k).map (·.2)) (by rw [l];exact rel.val k)
  obtain ⟨p,hp,hp2⟩:=Option.map_eq_some_iff.mp hw
  refine wpAny_getItem_heap (tupleKind_room_in1 hu) (key_of I.hok eb) dd hp ?_
  rw [hp2]
  exact h w' _ (I.tok _) rw'
theorem d_notIn {Q:Value→Shared→Prop} (hu:A.units + 1 < cLine) (I:Inv X pins σ H s) (g:DGet H a y o) (ry:RelV y u) (h:∀ s',Inv X pins σ H s'→Q (.bool (!o.isSome)) s'):
  wpAny (model X.prog X.w) A (compareOp .NotIn u (.ref a)) Q E s:=by
 rcases g with ⟨kvs,k,e,ey,l⟩ | ⟨kvs,k,b,e,ey,eb,l⟩
 ·subst ey
  obtain ⟨z,hd,vs,rel,dd⟩:=dk_rd I.hok e
  refine wpAny_notIn_of (kV_is ry) hd dd.mapOf ?_
  rw [← (rel.val k).isSome_eq,← l]
  exact h _ (I.tok _)
 ·subst ey
  cases (show u=Value.ref b from ry)
  obtain ⟨z,hd,xs,rel,dd⟩:=dt_rd I.hok e
  refine wpAny_notIn_heap (tupleKind_room_in1 hu) (key_of I.hok eb) hd dd ?_
  have q:=(rel.val k).isSome_eq
  rw [Option.isSome_map] at q
  rw [← q,← l]
  exact h _ (I.tok _)
theorem d_write {h':Heap}{t':Nat}{ob:HO} (I:Inv X pins σ H s) (mu:Mut (H a)) (hs:Heap.SameBut a s.heap h') (he:∃ q,h'.get? a=some q) (new:ObjOk X.prog X.w (upd H a ob) h' a ob):
  Inv X pins σ (upd H a ob) { s with heap:=h',toks:=t' }:=
 I.write (x:=a) (e:=a) mu (.inl rfl) (fun b q hb z=>(hs.2 b hb).trans z) he new
theorem dk_new {P:Program}{w:World}{H':Hp}{h':Heap}{kvs:List (Key×V)}{vs:List (Key×Value)} (z:kvs.length≤sizeLine) (hd:(a == sysModules)=false) (rel:KV kvs vs) (dd:h'.DictOf (mixKind P w) a vs):
  ObjOk P w H' h' a (.dK kvs):=⟨z,hd,vs,rel,dd⟩
theorem d_setItem {H':Hp}{Q:Unit→Shared→Prop} (hu:A.units + 1 < cLine) (I:Inv X pins σ H s) (g:DPut H a y v H') (ry:RelV y u) (rv:RelV v r) (h:∀ s',Inv X pins σ H' s'→Q () s'):
  wpAny (model X.prog X.w) A (setItem (.ref a) u r) Q E s:=by
 rcases g with ⟨kvs,k,e,ey,l,eH⟩ | ⟨kvs,k,b,e,ey,eb,l,eH⟩
 ·subst ey eH
  obtain ⟨z,hd,vs,rel,dd⟩:=dk_of I.hok e
  have hz:vs.length≤sizeLine:=by rw [← rel.length];exact z
  have hl:(putK kvs k v).length≤sizeLine:=by have:=length_putK kvs k v;omega
  refine wpAny_setItem_pairs (hsz:=hz) (kV_is ry) dd fun h' dd' hs=>h _ ?_
  have he:∃ q,h'.get? a=some q:=let ⟨q,_,_,hq,_⟩:=dd';⟨q,hq⟩
  exact d_write I (by rw [e];exact True.intro) hs he (dk_new hl hd (rel.put k rv) dd')
 ·subst ey eH
  cases (show u=Value.ref b from ry)
  obtain ⟨z,hd,xs,rel,dd⟩:=dt_of I.hok e
  have hz:xs.length≤sizeLine:=by rw [← Paired.length rel];exact z
  have hl:(putK kvs k v).length≤sizeLine:=by have:=length_putK kvs k v;omega
  refine wpAny_setItem_heap (hsz:=hz) (tupleKind_room_in1 hu) (key_of I.hok eb) dd fun h' dd' hs=>h _ ?_
  obtain ⟨q,es,ep,hq,h2,h3,h4,_,h5⟩:=dd'
  refine d_write I (by rw [e];exact True.intro) hs ⟨q,hq⟩ ⟨hl,hd,_,(rel.put k eb rv).keeps fun c ys ec=>?_,q,es,ep,hq,h2,h3,h4,h5⟩
  rw [upd_ne (ne_of ec e (fun z=>nomatch z))]
  exact ec
end
section
variable {X:Cx}{pins:List (Addr×Obj)}{σ:St}{H:Hp}{s:Shared}{a:Addr}{kvs:List (Key×V)}{k:Key}{u:Value}{A:Around}{E:Value→Shared→Prop}
end
def NoSl (i:Expr):Prop:=∀ ov iv,subscripted i false ov iv=operate [ov,iv] (getItem ov iv)
theorem subD_of {prog:Program}{w:World}{A:Around}{E:Value→Shared→Prop}{s:Shared}{env:Env}{value slice:Expr}{pos:Pos}{T id:String}{Q:Value→Shared→Prop}
  (hl:typeLookup (.type T) "__getitem__"=pure (some (.builtin id))) (hs:NoSl slice)
  (h:wpAny (model prog w) A (eval value env) (fun o s₁=>wpAny (model prog w) A (eval slice env) (fun i s₂=>s₂.TypeIs o T∧wpAny (model prog w) A (getItem o i) Q E s₂) E s₁) E s):
  wpAny (model prog w) A (eval (.Subscript value slice pos) env) Q E s:=by
 refine Subscript_ (wpAny_mono h (fun o s₁ h₁=>wpAny_mono h₁ (fun i s₂ h₂=>?_) fun _ _ x=>x) fun _ _ x=>x)
 obtain ⟨hT,h₂⟩:=h₂
 unfold subscriptTail
 refine wpAny_bind ?_
 rw [getitemInPython_of_ne hT.not_modules]
 refine wpAny_bind (wpAny_specialOf hT hl ?_)
 have fin:wpAny (model prog w) A (subscripted slice false o i) (fun r s₃=>wpAny (model prog w) A (letTemporaryGo value o r >>= fun _=>pure r) Q E s₃) E s₂:=by
  rw [hs o i]
  exact wpAny_operating (wpAny_mono h₂ (fun r s₃ h₃=>wpAny_bind (wpAny_letTemporaryGo (wpAny_pure h₃))) fun _ _ x=>x)
 first
  | exact wpAny_pure (wpAny_bind fin)
  | exact wpAny_bind (wpAny_pure (wpAny_bind fin))
  | exact wpAny_bind fin
theorem dict_typeIs {X:Cx}{pins:List (Addr×Obj)}{σ:St}{H:Hp}{s:Shared}{a:Addr}{y:V}{o:Option V} (I:Inv X pins σ H s) (g:DGet H a y o):s.TypeIs (.ref a) "dict":=by
 rcases g with ⟨kvs,k,e,_,_⟩ | ⟨kvs,k,b,e,_,_,_⟩
 ·obtain ⟨_,_,vs,_,dd⟩:=dk_rd I.hok e
  exact dd.typeIs
 ·obtain ⟨_,_,xs,_,dd⟩:=dt_rd I.hok e
  exact dd.typeIs
def tDGet (td ty:TE):TE:=fun σ H Q=>td σ H fun x H1=>ty σ H1 fun y H2=>∃ a v,x=.ref a∧DGet H2 a y (some v)∧Q v H2
def tDNotIn (ty td:TE):TE:=fun σ H Q=>ty σ H fun y H1=>td σ H1 fun x H2=>∃ a o,x=.ref a∧DGet H2 a y o∧Q (.bl (!o.isSome)) H2
def sDPut (td ty tv:TE):TS:=fun D σ H=>tv σ H fun v H1=>td σ H1 fun x H2=>ty σ H2 fun y H3=>∃ a H4,x=.ref a∧DPut H3 a y v H4∧D.nx σ H4
section
variable {X:Cx}{o i e value:Expr}{pos pos' tpos:Pos}{td ty tv:TE}
theorem pe_dget (hu:X.A.units + 1 < cLine) (ho:PE X o td) (hi:PE X i ty) (hs:NoSl i):PE X (.Subscript o i pos) (tDGet td ty):=by
 intro pins s σ H Q I h
 refine subD_of PySem.F.slot_dict_getitem.lookup hs (thn (ho pins s σ H _ I h) fun u s1 ⟨x,H1,I1,rx,q1⟩=>thn (hi pins s1 σ H1 _ I1 q1) fun iv s2 ⟨y,H2,I2,ry,a,v,ex,g,q2⟩=>?_)
 subst ex
 obtain rfl:u=Value.ref a:=rx
 exact ⟨dict_typeIs I2 g,d_getItem hu I2 g ry fun w' s3 I3 rw'=>⟨v,H2,I3,rw',q2⟩⟩
theorem pc_dnotin (hu:X.A.units + 1 < cLine) (hi:PE X i ty) (ho:PE X o td):PC X .NotIn i o (tDNotIn ty td):=by
 intro pins s σ H Q I h
 refine thn (hi pins s σ H _ I h) fun iv s1 ⟨y,H1,I1,ry,q1⟩=>thn (ho pins s1 σ H1 _ I1 q1) fun u s2 ⟨x,H2,I2,rx,a,ov,ex,g,q2⟩=>?_
 subst ex
 obtain rfl:u=Value.ref a:=rx
 exact d_notIn hu I2 g ry fun s3 I3=>⟨.bl (!ov.isSome),H2,I3,rfl,q2⟩
theorem ps_dput (hu:X.A.units + 1 < cLine) (ho:PE X o td) (hi:PE X i ty) (hv:PE X value tv) (hs:swapsWith value (some (.Subscript o i pos')) pos.line X.env=pure false):
  PS X (.Assign [.Subscript o i pos'] value pos) (sDPut td ty tv):=by
 intro pins s σ H D I h
 refine wpAny_Assign_Subscript (thn (hv pins s σ H _ I h) fun r s1 ⟨v,H1,I1,rv,q1⟩=>thn (ho pins s1 σ H1 _ I1 q1) fun u s2 ⟨x,H2,I2,rx,q2⟩=>thn (hi pins s2 σ H2 _ I2 q2) fun iv s3 ⟨y,H3,I3,ry,a,H4,ex,g,q3⟩=>?_) hs
 subst ex
 obtain rfl:u=Value.ref a:=rx
 exact d_setItem hu I3 g ry rv fun s4 I4=>⟨σ,H4,I4,q3⟩
end
theorem dk_empty {P:Program}{w:World}{H:Hp} (h:Heap) (hb:sysModules < h.objs.size):ObjOk P w H (h.push { cls:=.type "dict",data:=.dict #[] }) h.objs.size (.dK []):=
 ⟨Nat.zero_le _,beq_eq_false_iff_ne.mpr (Ne.symm (Nat.ne_of_lt hb)),[],.nil,Heap.DictOf.new h⟩
def tDNewK:TE:=fun _ H Q=>∀ p,H p=none→Q (.ref p) (upd H p (.dK []))
section
variable {X:Cx}{pos:Pos}
theorem pe_dnewK:PE X (.Dict [] [] pos) tDNewK:=fun pins s σ H Q I h=>
 wpAny_Dict_empty ⟨.ref s.heap.objs.size,_,I.laid (a:=s.heap.objs.size) (o:=.dK []) (t':=s.toks) (fun _ _ q=>Heap.get?_push_of_some _ q) (Nat.le_refl _) (dk_empty s.heap I.big),rfl,h _ (I.hok.fresh (Nat.le_refl _))⟩
end
def tPairs:List (TE×TE)→St→Hp→(List (V×V)→Hp→Prop)→Prop
 | [],_,H,Q=>Q [] H
 | (tk,tv) :: r,σ,H,Q=>tk σ H fun x H1=>tv σ H1 fun y H2=>tPairs r σ H2 fun ps H3=>Q ((x,y) :: ps) H3
abbrev VV:List (V×V)→List (Value×Value)→Prop:=Paired fun p q=>RelV p.1 q.1∧RelV p.2 q.2
def PPs (X:Cx) (pos:Pos) (keys:List (Option Expr)) (values:List Expr) (trs:List (TE×TE)):Prop:=
 ∀ (pins:List (Addr×Obj)) (s:Shared) (σ:St) (H:Hp) (Q:List (V×V)→Hp→Prop),Inv X pins σ H s→tPairs trs σ H Q→
  wpAny (model X.prog X.w) X.A (evalPairs (pairTrees keys values X.env pos)) (fun vs s'=>∃ ps H',Inv X pins σ H' s'∧VV ps vs∧Q ps H') X.xe s
theorem pps_nil {X:Cx}{pos:Pos}:PPs X pos [] [] []:=fun pins s σ H Q I h=>pairTrees_nil_walk ⟨[],H,I,.nil,h⟩
theorem pps_cons {X:Cx}{pos:Pos}{k v:Expr}{ks:List (Option Expr)}{vs:List Expr}{tk tv:TE}{trs:List (TE×TE)} (hk:PE X k tk) (hv:PE X v tv) (hr:PPs X pos ks vs trs):
  PPs X pos (some k :: ks) (v :: vs) ((tk,tv) :: trs):=fun pins s σ H Q I h=>
 pairTrees_cons_walk (thn (hk pins s σ H _ I h) fun u s1 ⟨x,H1,I1,rx,q1⟩=>thn (hv pins s1 σ H1 _ I1 q1) fun w2 s2 ⟨y,H2,I2,ry,q2⟩=>
  thn (hr pins s2 σ H2 _ I2 q2) fun ws s3 ⟨ps,H3,I3,rel,q3⟩=>⟨(x,y) :: ps,H3,I3,.cons ⟨rx,ry⟩ rel,q3⟩)
def mergeK (kvs more:List (Key×V)):List (Key×V):=more.foldl (fun acc kv=>putK acc kv.1 kv.2) kvs
theorem KV.merge:∀ {more:List (Key×V)}{rs:List (Key×Value)}{kvs:List (Key×V)}{vs:List (Key×Value)},KV more rs→KV kvs vs→KV (mergeK kvs more) (merged vs rs):=by
 intro more rs kvs vs r
 unfold KV at r
 induction r generalizing kvs vs with
 | nil=>intro q;exact q
 | @cons p q ps qs h t ih=>
  intro r0
  have e:KV (putK kvs p.1 p.2) (stored vs q.1 q.2):=by
   have:=r0.put p.1 h.2
   rw [← h.1];exact this
  exact ih e
theorem length_mergeK:∀ (more kvs:List (Key×V)),(mergeK kvs more).length≤kvs.length + more.length
 | [],kvs=>by show kvs.length≤kvs.length + 0;omega
 | p :: r,kvs=>by
  have h1:=length_mergeK r (putK kvs p.1 p.2)
  have h2:=length_putK kvs p.1 p.2
  show (mergeK (putK kvs p.1 p.2) r).length≤_
  rw [List.length_cons];omega
theorem carries_of {P:Program}{w:World}:∀ {kvs:List (Key×V)}{ws:List (Value×Value)},VV (kvs.map fun kv=>(kV kv.1,kv.2)) ws→∃ rs,Carries (mixKind P w) ws rs∧KV kvs rs
 | [],_,r=>by rw [List.map_nil] at r;cases r;exact ⟨[],True.intro,.nil⟩
 | p :: kvs,_,r=>by
  rw [List.map_cons] at r
  cases r with
  | @cons a b as bs h t=>
   obtain ⟨rs,c,q⟩:=carries_of (P:=P) (w:=w) t
   obtain ⟨b1,b2⟩:=b
   exact ⟨(p.1,b2) :: rs,⟨kV_is h.1,rfl,c⟩,.cons ⟨rfl,h.2⟩ q⟩
def tDisp (trs:List (TE×TE)):TE:=fun σ H Q=>∀ p,H p=none→tPairs trs σ (upd H p (.dK [])) fun ps H2=>H2 p=some (.dK [])∧∃ kvs:List (Key×V),ps=kvs.map (fun kv=>(kV kv.1,kv.2))∧kvs.length≤15∧Q (.ref p) (upd H2 p (.dK (mergeK [] kvs)))
theorem pe_disp {X:Cx}{pos:Pos}{keys:List (Option Expr)}{values:List Expr}{trs:List (TE×TE)} (h:PPs X pos keys values trs) (hall:keys.all (·.isSome)=true) (hl:keys.length=values.length) (h0:keys≠[])
  (h15:keys.length≤15):PE X (.Dict keys values pos) (tDisp trs):=by
 intro pins s σ H Q I q
 have hn:=I.hok.fresh (Nat.le_refl s.heap.objs.size)
 have I1:=I.laid (a:=s.heap.objs.size) (o:=.dK []) (h':=s.heap.push { cls:=.type "dict",data:=.dict #[] }) (t':=s.toks) (fun _ _ q=>Heap.get?_push_of_some _ q) (Nat.le_refl _) (dk_empty s.heap I.big)
 refine wpAny_Dict_walk (knd:=mixKind X.prog X.w) hall hl h0 h15 (thn (h pins _ σ _ _ I1 (q _ hn)) fun ws s2 ⟨ps,H2,I2,rel,e,kvs,ep,lk,q2⟩=>?_)
 subst ep
 obtain ⟨rs,c,rk⟩:=carries_of (P:=X.prog) (w:=X.w) rel
 obtain ⟨z,hd,vs0,r0,dd⟩:=dk_of I2.hok e
 cases r0
 refine ⟨rs,c,dd,fun h' dd' hs=>⟨.ref s.heap.objs.size,_,?_,rfl,q2⟩⟩
 have hz:(mergeK [] kvs).length≤sizeLine:=by
  have h1:=length_mergeK kvs []
  rw [List.length_nil] at h1
  rw [sizeLine_eq];omega
 have he:∃ q,h'.get? s.heap.objs.size=some q:=let ⟨q,_,_,hq,_⟩:=dd';⟨q,hq⟩
 exact d_write I2 (by rw [e];exact True.intro) hs he (dk_new hz hd (rk.merge .nil) dd')
structure M1 (X:Cx) (o:Expr) (m:Str) (apos:Pos) (e:Expr) (cpos:Pos):Prop where
 base:attributeBase o m X.env (eval o X.env)=eval o X.env
 few:((backTo cpos (starEach [e] X.env)).all (fun x=>!x.1) && (backToKw cpos (keywordEach [] X.env)).all (fun x=>x.1.isSome)
  && decide (([e]:List Expr).length + ([]:List Keyword).length + (if ([]:List Keyword).isEmpty then 0 else 1) < 30))=true
 line:(apos.endLine == cpos.line)=true
 trees:backTo cpos (starEach [e] X.env)=[(false,eval e X.env)]
structure M2 (X:Cx) (o:Expr) (m:Str) (apos:Pos) (e f:Expr) (cpos:Pos):Prop where
 base:attributeBase o m X.env (eval o X.env)=eval o X.env
 few:((backTo cpos (starEach [e,f] X.env)).all (fun x=>!x.1) && (backToKw cpos (keywordEach [] X.env)).all (fun x=>x.1.isSome)
  && decide (([e,f]:List Expr).length + ([]:List Keyword).length + (if ([]:List Keyword).isEmpty then 0 else 1) < 30))=true
 line:(apos.endLine == cpos.line)=true
 trees:backTo cpos (starEach [e,f] X.env)=[(false,eval e X.env),(false,eval f X.env)]
section
variable {X:Cx}{pins:List (Addr×Obj)}{σ:St}{H:Hp}{s:Shared}{a:Addr}{y d:V}{u r:Value}{o:Option V}{A:Around}{E:Value→Shared→Prop}
end
section
variable {X:Cx}{o e f:Expr}{apos cpos:Pos}{td ty tx:TE}
end
section
variable {X:Cx}{pins:List (Addr×Obj)}{σ:St}{H:Hp}{s:Shared}{a:Addr}{kvs:List (Key×V)}{A:Around}{E:Value→Shared→Prop}
end
section
variable {X:Cx}{pins:List (Addr×Obj)}{σ:St}{H:Hp}{s:Shared}{a:Addr}{y:V}{u:Value}{A:Around}{E:Value→Shared→Prop}
end
end L2
namespace Att
open PySem PySem.W PySem.Calls PyProof.Rows
section
variable {prog:Program}{w:World}{A:Around}{E:Value→Shared→Prop}{s:Shared}{K:Frag}
end
end Att
namespace L2
open PySem PySem.Spec PyProof.Rows
end L2
namespace L2
open PySem PySem.Spec PyProof.Rows
end L2
namespace L2
open PySem PySem.Spec PyProof.Rows
section
variable {X:Cx}
end
section
variable {κ:Type} [DecidableEq κ]
theorem valV_not {kvs:List (κ×V)}{k:κ} (h:valV kvs k=none):¬ k∈kvs.map (·.1):=by
 intro m
 obtain ⟨p,hp,e⟩:=List.mem_map.mp m
 have q:(kvs.any fun kv=>decide (kv.1=k))=true:=List.any_eq_true.mpr ⟨p,hp,decide_eq_true e⟩
 rw [valV_any,h] at q
 exact absurd q (by simp)
end
end L2
set_option maxHeartbeats 4000000
namespace G
open PySem L2
section
variable {D:Ends}{σ:St}{H H1:Hp}{Q:VK}{t u:TS}{ta tb tc te:TE}{n:St→Hp→Prop}{r:VK}{b c:St→Hp→Prop}
theorem i_seq (h:t ⟨u ⟨n,r,b,c⟩,r,b,c⟩ σ H):tSeq t u ⟨n,r,b,c⟩ σ H:=h
theorem i_next (h:n σ H):tNext ⟨n,r,b,c⟩ σ H:=h
theorem i_drop (h:te σ H fun _ H1=>n σ H1):tDrop te ⟨n,r,b,c⟩ σ H:=h
theorem i_ret (h:te σ H r):tRet te ⟨n,r,b,c⟩ σ H:=h
theorem i_if {c':TT} (h:c' σ H fun k H1=>if k=true then t ⟨n,r,b,c⟩ σ H1 else u ⟨n,r,b,c⟩ σ H1):tIfS c' t u ⟨n,r,b,c⟩ σ H:=h
theorem i_asg {g:TG} (h:te σ H fun x H1=>g x σ H1 n):tAsg te g ⟨n,r,b,c⟩ σ H:=h
theorem i_C {v:V} (h:Q v H):tC v σ H Q:=h
theorem i_op {f:R2} (h:ta σ H fun x H1=>tb σ H1 fun y H2=>f x y H2 Q):tOp f ta tb σ H Q:=h
def kB (q:Bool→Hp→Prop):VK:=fun x H'=>∃ k,x=.bl k∧q k H'
theorem i_B {k:Bool}{q:Bool→Hp→Prop} (h:q k H):kB q (.bl k) H:=⟨k,rfl,h⟩
theorem i_test {q:Bool→Hp→Prop} (h:te σ H (kB q)):tTest te σ H q:=h
theorem i_tB {q:Bool→Hp→Prop} (h:te σ H (kB q)):tB te σ H q:=h
theorem i_and {t u:TT}{q:Bool→Hp→Prop} (h:t σ H fun k H1=>if k=true then u σ H1 q else q false H1):tAnd t u σ H q:=h
theorem i_or {t u:TT}{q:Bool→Hp→Prop} (h:t σ H fun k H1=>if k=true then q true H1 else u σ H1 q):tOr t u σ H q:=h
theorem i_not {t:TT}{q:Bool→Hp→Prop} (h:t σ H fun k H1=>q (!k) H1):tNot t σ H q:=h
theorem i_andV (h:ta σ H (kB fun k H1=>if k=true then tb σ H1 Q else Q (.bl false) H1)):tAndV ta tb σ H Q:=h
theorem i_notV (h:ta σ H (kB fun k H1=>Q (.bl (!k)) H1)):tNotV ta σ H Q:=h
theorem i_ifx {t:TT} (h:t σ H fun k H1=>if k=true then ta σ H1 Q else tb σ H1 Q):tIf t ta tb σ H Q:=h
theorem i_I0 {g:Int→Int→V}{i j:Int} (h:Q (g i j) H):rI0 g (.int i) (.int j) H Q:=⟨i,j,rfl,rfl,h⟩
theorem i_I {C:Int→Int→Prop}{g:Int→Int→V}{i j:Int} (hc:C i j) (h:Q (g i j) H):rI C g (.int i) (.int j) H Q:=⟨i,j,rfl,rfl,hc,h⟩
theorem i_eqI {i j:Int} (h:Q (.bl (decide (i=j))) H):rEq (.int i) (.int j) H Q:=⟨rfl,by rw [show decide (V.int i=V.int j)=decide (i=j) from decide_eq_decide.mpr ⟨fun e=>V.int.inj e,fun e=>by rw [e]⟩];exact h⟩
theorem i_eqS {i j:Str} (h:Q (.bl (decide (i=j))) H):rEq (.str i) (.str j) H Q:=⟨rfl,by rw [show decide (V.str i=V.str j)=decide (i=j) from decide_eq_decide.mpr ⟨fun e=>V.str.inj e,fun e=>by rw [e]⟩];exact h⟩
theorem i_neI {i j:Int} (h:Q (.bl (!decide (i=j))) H):rNe (.int i) (.int j) H Q:=⟨rfl,by rw [show decide (V.int i=V.int j)=decide (i=j) from decide_eq_decide.mpr ⟨fun e=>V.int.inj e,fun e=>by rw [e]⟩];exact h⟩
theorem i_neS {i j:Str} (h:Q (.bl (!decide (i=j))) H):rNe (.str i) (.str j) H Q:=⟨rfl,by rw [show decide (V.str i=V.str j)=decide (i=j) from decide_eq_decide.mpr ⟨fun e=>V.str.inj e,fun e=>by rw [e]⟩];exact h⟩
def rIsN:R2:=fun x y H Q=>y=.non∧Q (.bl (decide (x=.non))) H
def rNotN:R2:=fun x y H Q=>y=.non∧Q (.bl (!decide (x=.non))) H
theorem i_isN0 (h:Q (.bl true) H):rIsN .non .non H Q:=⟨rfl,h⟩
theorem i_isN1 {i:Int} (h:Q (.bl false) H):rIsN (.int i) .non H Q:=⟨rfl,h⟩
theorem i_isN2 {i:Str} (h:Q (.bl false) H):rIsN (.str i) .non H Q:=⟨rfl,h⟩
theorem i_isN3 {i:Addr} (h:Q (.bl false) H):rIsN (.ref i) .non H Q:=⟨rfl,h⟩
theorem i_isN4 {i:Bool} (h:Q (.bl false) H):rIsN (.bl i) .non H Q:=⟨rfl,h⟩
theorem i_notN0 (h:Q (.bl false) H):rNotN .non .non H Q:=⟨rfl,h⟩
theorem i_notN1 {i:Int} (h:Q (.bl true) H):rNotN (.int i) .non H Q:=⟨rfl,h⟩
theorem i_iteT {A B:Prop} (h:A):if true=true then A else B:=iteT h
theorem i_iteF {A B:Prop} (h:B):if false=true then A else B:=iteF h
theorem i_iteNT {A B:Prop} (h:B):if (!true)=true then A else B:=iteF h
theorem i_iteNF {A B:Prop} (h:A):if (!false)=true then A else B:=iteT h
theorem ifd {p A B:Prop} [Decidable p] (h1:p→A) (h2:¬ p→B):if decide p=true then A else B:=ite2 (fun e=>h1 (of_decide_eq_true e)) (fun e=>h2 (fun q=>e (decide_eq_true q)))
theorem ifnd {p A B:Prop} [Decidable p] (h1:¬ p→A) (h2:p→B):if (!decide p)=true then A else B:=ite2 (fun e=>h1 (by simpa using e)) (fun e=>h2 (by simpa using e))
theorem i_nil {q:List V→Hp→Prop} (h:q [] H):tNil σ H q:=h
theorem i_cons {q:List V→Hp→Prop}{t:TA} (h:ta σ H fun x H1=>t σ H1 fun xs H2=>q (x :: xs) H2):tCons ta t σ H q:=h
theorem i_lst {t:TA} (h:t σ H fun xs H1=>xs.length≤sizeLine∧∀ p,H1 p=none→Q (.ref p) (upd H1 p (.lst xs))):tLst t σ H Q:=h
theorem i_tup {t:TA} (h:t σ H fun xs H1=>xs.length≤sizeLine∧∀ p,H1 p=none→Q (.ref p) (upd H1 p (.tup xs))):tTup t σ H Q:=h
theorem i_call {t:TA}{sp:Sp}{dvs:List V}{E:XK} (h:t σ H fun vs H1=>sp (vs ++ dvs) H1 Q E):tCall sp dvs E t σ H Q:=h
theorem i_CB {t:TA}{f:List V→Hp→VK→Prop} (h:t σ H fun vs H1=>f vs H1 Q):tCB f t σ H Q:=h
theorem i_make {t:TA}{sp:Sp}{dvs:List V}{E:XK}{C:Addr} (h:t σ H fun vs H1=>∀ x dx,H1 x=none→H1 dx=none→dx≠x→sp (.ref x :: (vs ++ dvs)) (upd (upd H1 dx (.own x)) x (.ins C dx [])) (fun v H2=>v=.non∧Q (.ref x) H2) E):tMake C sp dvs E t σ H Q:=h
def kFld (K:PySem.W.Frag) (f:Str) (Q:VK):VK:=fun x H1=>∃ a C dx fs v,x=.ref a∧H1 a=some (.ins C dx fs)∧Cls K C∧NoAttr K C f∧fs.lookup f=some v∧Q v H1
theorem i_fld {K:PySem.W.Frag}{f:Str} (h:ta σ H (kFld K f Q)):tFld K ta f σ H Q:=h
theorem Zaa {K:PySem.W.Frag}{f:Str}{a C dx:Addr}{fs:List (Str×V)}{v:V} (h:H a=some (.ins C dx fs)) (hc:Cls K C) (hn:NoAttr K C f) (hl:fs.lookup f=some v) (q:Q v H):kFld K f Q (.ref a) H:=⟨a,C,dx,fs,v,rfl,h,hc,hn,hl,q⟩
theorem i_sfld {K:PySem.W.Frag}{f:Str}{tv:TE} (h:tv σ H fun y H1=>ta σ H1 fun x H2=>∃ a C dx fs,x=.ref a∧H2 a=some (.ins C dx fs)∧Cls K C∧NoAttr K C f∧fs.length < 1000∧n σ (upd H2 a (.ins C dx (putF f y fs)))):sFld K ta tv f ⟨n,r,b,c⟩ σ H:=h
theorem i_meth {C:Addr}{m:Str}{sp:Sp}{dvs:List V}{E:XK}{t:TA} (h:ta σ H fun x H1=>∃ a dx fs,x=.ref a∧H1 a=some (.ins C dx fs)∧fs.lookup m=none∧t σ H1 fun vs H2=>sp (x :: (vs ++ dvs)) H2 Q E):tMeth C m sp dvs E ta t σ H Q:=h
theorem i_noPart {q:Option Int→Hp→Prop} (h:q none H):tNoPart σ H q:=h
def kI (q:Int→Hp→Prop):VK:=fun x H1=>∃ i,x=.int i∧q i H1
theorem i_part {q:Option Int→Hp→Prop} (h:te σ H (kI fun i=>q (some i))):tPart te σ H q:=h
theorem i_kI {i:Int}{q:Int→Hp→Prop} (h:q i H):kI q (.int i) H:=⟨i,rfl,h⟩
theorem i_sl {f:V→Option Int→Option Int→Hp→VK→Prop}{tl th:TO} (h:te σ H fun x H1=>tl σ H1 fun l H2=>th σ H2 fun u H3=>f x l u H3 Q):tSl f te tl th σ H Q:=h
theorem i_bm {K:PySem.W.Frag}{T:String}{f:V→List V→Hp→VK→Prop}{to:TE}{t:TA} (h:to σ H fun x H1=>tyV K T x H1∧t σ H1 fun xs H2=>f x xs H2 Q):tBM K T f to t σ H Q:=h
theorem i_for {wi:TI}{g:TG}{tb:TS} (h:wi σ H fun J H1=>∃ W:Nat→Nat→St→Hp→Prop,(∃ m,W 0 m σ H1)∧∀ i m σ H,W i m σ H→
 (J.stop i H∧n σ H)∨(J.go i H∧∃ N:St→Hp→Prop,(∀ σ' H',N σ' H'→∃ m',m' < m∧W (i + 1) m' σ' H')∧∀ x H',J.yld i H x H'→g x σ H' fun σ2 H2=>tb ⟨N,r,n,N⟩ σ2 H2)):tFor wi g tb ⟨n,r,b,c⟩ σ H:=h
theorem i_iL {K:PySem.W.Frag}{R:It→Hp→Prop} (h:te σ H fun x H1=>∃ a,x=.ref a∧(∃ xs,SqL K H1 a xs)∧R (Itl K a) H1):iList K te σ H R:=h
theorem i_iR {ta:TA}{R:It→Hp→Prop} (h:ta σ H fun vs H1=>∃ j:Int,vs=[.int j]∧-(2 ^ 62)≤j∧j < 2 ^ 62∧R (Itr 0 j.toNat) H1):iRng1 ta σ H R:=h
end
theorem i_v0 {v:V}{l:St}{H:Hp}{Q:VK} (h:Q v H):tVar 0 (some v :: l) H Q:=⟨v,rfl,h⟩
theorem i_v1 {x0:Option V}{v:V}{l:St}{H:Hp}{Q:VK} (h:Q v H):tVar 1 (x0 :: some v :: l) H Q:=⟨v,rfl,h⟩
theorem i_g1 {x0:Option V}{y:Option V}{v:V}{l:St}{H:Hp}{Q:St→Hp→Prop} (h:Q (x0 :: some v :: l) H):gName 1 v (x0 :: y :: l) H Q:=h
theorem i_v2 {x0 x1:Option V}{v:V}{l:St}{H:Hp}{Q:VK} (h:Q v H):tVar 2 (x0 :: x1 :: some v :: l) H Q:=⟨v,rfl,h⟩
theorem i_g2 {x0 x1:Option V}{y:Option V}{v:V}{l:St}{H:Hp}{Q:St→Hp→Prop} (h:Q (x0 :: x1 :: some v :: l) H):gName 2 v (x0 :: x1 :: y :: l) H Q:=h
theorem i_v3 {x0 x1 x2:Option V}{v:V}{l:St}{H:Hp}{Q:VK} (h:Q v H):tVar 3 (x0 :: x1 :: x2 :: some v :: l) H Q:=⟨v,rfl,h⟩
theorem i_g3 {x0 x1 x2:Option V}{y:Option V}{v:V}{l:St}{H:Hp}{Q:St→Hp→Prop} (h:Q (x0 :: x1 :: x2 :: some v :: l) H):gName 3 v (x0 :: x1 :: x2 :: y :: l) H Q:=h
theorem i_v4 {x0 x1 x2 x3:Option V}{v:V}{l:St}{H:Hp}{Q:VK} (h:Q v H):tVar 4 (x0 :: x1 :: x2 :: x3 :: some v :: l) H Q:=⟨v,rfl,h⟩
theorem i_g4 {x0 x1 x2 x3:Option V}{y:Option V}{v:V}{l:St}{H:Hp}{Q:St→Hp→Prop} (h:Q (x0 :: x1 :: x2 :: x3 :: some v :: l) H):gName 4 v (x0 :: x1 :: x2 :: x3 :: y :: l) H Q:=h
theorem i_v5 {x0 x1 x2 x3 x4:Option V}{v:V}{l:St}{H:Hp}{Q:VK} (h:Q v H):tVar 5 (x0 :: x1 :: x2 :: x3 :: x4 :: some v :: l) H Q:=⟨v,rfl,h⟩
theorem i_g5 {x0 x1 x2 x3 x4:Option V}{y:Option V}{v:V}{l:St}{H:Hp}{Q:St→Hp→Prop} (h:Q (x0 :: x1 :: x2 :: x3 :: x4 :: some v :: l) H):gName 5 v (x0 :: x1 :: x2 :: x3 :: x4 :: y :: l) H Q:=h
theorem i_v6 {x0 x1 x2 x3 x4 x5:Option V}{v:V}{l:St}{H:Hp}{Q:VK} (h:Q v H):tVar 6 (x0 :: x1 :: x2 :: x3 :: x4 :: x5 :: some v :: l) H Q:=⟨v,rfl,h⟩
theorem i_g6 {x0 x1 x2 x3 x4 x5:Option V}{y:Option V}{v:V}{l:St}{H:Hp}{Q:St→Hp→Prop} (h:Q (x0 :: x1 :: x2 :: x3 :: x4 :: x5 :: some v :: l) H):gName 6 v (x0 :: x1 :: x2 :: x3 :: x4 :: x5 :: y :: l) H Q:=h
theorem i_v7 {x0 x1 x2 x3 x4 x5 x6:Option V}{v:V}{l:St}{H:Hp}{Q:VK} (h:Q v H):tVar 7 (x0 :: x1 :: x2 :: x3 :: x4 :: x5 :: x6 :: some v :: l) H Q:=⟨v,rfl,h⟩
theorem i_g7 {x0 x1 x2 x3 x4 x5 x6:Option V}{y:Option V}{v:V}{l:St}{H:Hp}{Q:St→Hp→Prop} (h:Q (x0 :: x1 :: x2 :: x3 :: x4 :: x5 :: x6 :: some v :: l) H):gName 7 v (x0 :: x1 :: x2 :: x3 :: x4 :: x5 :: x6 :: y :: l) H Q:=h
end G
namespace G
open PySem L2
theorem same_new {H:Hp}{p:Addr} (h:H p=none) (o:HO):Same H (upd H p o):=fun b u q=>by rw [upd_ne (ne_of_none q h)];exact q
def tyN (H:Hp):V→Option String
 | .non=>some "NoneType"
 | .bl _=>some "bool"
 | .int _=>some "int"
 | .str _=>some "str"
 | .ref a=>match H a with
  | some (.lst _)=>some "list"
  | some (.frz _ (.lst _))=>some "list"
  | some (.tup _)=>some "tuple"
  | some (.dK _)=>some "dict"
  | some (.dT _)=>some "dict"
  | _=>none
 | _=>none
def isK (t n:String):Option Bool:=if ["int","bool","str","list","tuple","dict"].contains n then some (t == n || (t == "bool" && n == "int")) else none
def cIsi:List V→Hp→VK→Prop:=fun xs H Q=>∃ x n t k,xs=[x,.ty n]∧tyN H x=some t∧isK t n=some k∧Q (.bl k) H
theorem isK_int_int:isK "int" "int"=some true:=by decide +kernel
theorem isK_int_bool:isK "int" "bool"=some false:=by decide +kernel
theorem isK_int_str:isK "int" "str"=some false:=by decide +kernel
theorem isK_int_list:isK "int" "list"=some false:=by decide +kernel
theorem isK_int_tuple:isK "int" "tuple"=some false:=by decide +kernel
theorem isK_int_dict:isK "int" "dict"=some false:=by decide +kernel
theorem isK_bool_int:isK "bool" "int"=some true:=by decide +kernel
theorem isK_bool_bool:isK "bool" "bool"=some true:=by decide +kernel
theorem isK_bool_str:isK "bool" "str"=some false:=by decide +kernel
theorem isK_bool_list:isK "bool" "list"=some false:=by decide +kernel
theorem isK_bool_tuple:isK "bool" "tuple"=some false:=by decide +kernel
theorem isK_bool_dict:isK "bool" "dict"=some false:=by decide +kernel
theorem isK_str_int:isK "str" "int"=some false:=by decide +kernel
theorem isK_str_bool:isK "str" "bool"=some false:=by decide +kernel
theorem isK_str_str:isK "str" "str"=some true:=by decide +kernel
theorem isK_str_list:isK "str" "list"=some false:=by decide +kernel
theorem isK_str_tuple:isK "str" "tuple"=some false:=by decide +kernel
theorem isK_str_dict:isK "str" "dict"=some false:=by decide +kernel
theorem isK_NoneType_int:isK "NoneType" "int"=some false:=by decide +kernel
theorem isK_NoneType_bool:isK "NoneType" "bool"=some false:=by decide +kernel
theorem isK_NoneType_str:isK "NoneType" "str"=some false:=by decide +kernel
theorem isK_NoneType_list:isK "NoneType" "list"=some false:=by decide +kernel
theorem isK_NoneType_tuple:isK "NoneType" "tuple"=some false:=by decide +kernel
theorem isK_NoneType_dict:isK "NoneType" "dict"=some false:=by decide +kernel
theorem isK_list_int:isK "list" "int"=some false:=by decide +kernel
theorem isK_list_bool:isK "list" "bool"=some false:=by decide +kernel
theorem isK_list_str:isK "list" "str"=some false:=by decide +kernel
theorem isK_list_list:isK "list" "list"=some true:=by decide +kernel
theorem isK_list_tuple:isK "list" "tuple"=some false:=by decide +kernel
theorem isK_list_dict:isK "list" "dict"=some false:=by decide +kernel
theorem isK_tuple_int:isK "tuple" "int"=some false:=by decide +kernel
theorem isK_tuple_bool:isK "tuple" "bool"=some false:=by decide +kernel
theorem isK_tuple_str:isK "tuple" "str"=some false:=by decide +kernel
theorem isK_tuple_list:isK "tuple" "list"=some false:=by decide +kernel
theorem isK_tuple_tuple:isK "tuple" "tuple"=some true:=by decide +kernel
theorem isK_tuple_dict:isK "tuple" "dict"=some false:=by decide +kernel
theorem isK_dict_int:isK "dict" "int"=some false:=by decide +kernel
theorem isK_dict_bool:isK "dict" "bool"=some false:=by decide +kernel
theorem isK_dict_str:isK "dict" "str"=some false:=by decide +kernel
theorem isK_dict_list:isK "dict" "list"=some false:=by decide +kernel
theorem isK_dict_tuple:isK "dict" "tuple"=some false:=by decide +kernel
theorem isK_dict_dict:isK "dict" "dict"=some true:=by decide +kernel
theorem i_isiI_int {i:Int}{H:Hp}{Q:VK} (h:Q (.bl true) H):cIsi [.int i,.ty "int"] H Q:=⟨_,_,_,_,rfl,rfl,isK_int_int,h⟩
theorem i_isiI_bool {i:Int}{H:Hp}{Q:VK} (h:Q (.bl false) H):cIsi [.int i,.ty "bool"] H Q:=⟨_,_,_,_,rfl,rfl,isK_int_bool,h⟩
theorem i_isiS_int {i:Str}{H:Hp}{Q:VK} (h:Q (.bl false) H):cIsi [.str i,.ty "int"] H Q:=⟨_,_,_,_,rfl,rfl,isK_str_int,h⟩
theorem i_isiS_str {i:Str}{H:Hp}{Q:VK} (h:Q (.bl true) H):cIsi [.str i,.ty "str"] H Q:=⟨_,_,_,_,rfl,rfl,isK_str_str,h⟩
theorem i_isiL_int {a:Addr}{H:Hp}{Q:VK}{xs:List V} (hp:H a=some (.lst xs)) (h:Q (.bl false) H):cIsi [.ref a,.ty "int"] H Q:=⟨_,_,_,_,rfl,(by show (match H a with | some (.lst _)=>some "list" | some (.frz _ (.lst _))=>some "list" | some (.tup _)=>some "tuple" | some (.dK _)=>some "dict" | some (.dT _)=>some "dict" | _=>none)=some "list";rw [hp]),isK_list_int,h⟩
theorem i_isiT_int {a:Addr}{H:Hp}{Q:VK}{xs:List V} (hp:H a=some (.tup xs)) (h:Q (.bl false) H):cIsi [.ref a,.ty "int"] H Q:=⟨_,_,_,_,rfl,(by show (match H a with | some (.lst _)=>some "list" | some (.frz _ (.lst _))=>some "list" | some (.tup _)=>some "tuple" | some (.dK _)=>some "dict" | some (.dT _)=>some "dict" | _=>none)=some "tuple";rw [hp]),isK_tuple_int,h⟩
theorem i_isiL_str {a:Addr}{H:Hp}{Q:VK}{xs:List V} (hp:H a=some (.lst xs)) (h:Q (.bl false) H):cIsi [.ref a,.ty "str"] H Q:=⟨_,_,_,_,rfl,(by show (match H a with | some (.lst _)=>some "list" | some (.frz _ (.lst _))=>some "list" | some (.tup _)=>some "tuple" | some (.dK _)=>some "dict" | some (.dT _)=>some "dict" | _=>none)=some "list";rw [hp]),isK_list_str,h⟩
theorem i_isiT_str {a:Addr}{H:Hp}{Q:VK}{xs:List V} (hp:H a=some (.tup xs)) (h:Q (.bl false) H):cIsi [.ref a,.ty "str"] H Q:=⟨_,_,_,_,rfl,(by show (match H a with | some (.lst _)=>some "list" | some (.frz _ (.lst _))=>some "list" | some (.tup _)=>some "tuple" | some (.dK _)=>some "dict" | some (.dT _)=>some "dict" | _=>none)=some "tuple";rw [hp]),isK_tuple_str,h⟩
theorem i_isiL_list {a:Addr}{H:Hp}{Q:VK}{xs:List V} (hp:H a=some (.lst xs)) (h:Q (.bl true) H):cIsi [.ref a,.ty "list"] H Q:=⟨_,_,_,_,rfl,(by show (match H a with | some (.lst _)=>some "list" | some (.frz _ (.lst _))=>some "list" | some (.tup _)=>some "tuple" | some (.dK _)=>some "dict" | some (.dT _)=>some "dict" | _=>none)=some "list";rw [hp]),isK_list_list,h⟩
theorem i_isiT_list {a:Addr}{H:Hp}{Q:VK}{xs:List V} (hp:H a=some (.tup xs)) (h:Q (.bl false) H):cIsi [.ref a,.ty "list"] H Q:=⟨_,_,_,_,rfl,(by show (match H a with | some (.lst _)=>some "list" | some (.frz _ (.lst _))=>some "list" | some (.tup _)=>some "tuple" | some (.dK _)=>some "dict" | some (.dT _)=>some "dict" | _=>none)=some "tuple";rw [hp]),isK_tuple_list,h⟩
theorem i_isiL_tuple {a:Addr}{H:Hp}{Q:VK}{xs:List V} (hp:H a=some (.lst xs)) (h:Q (.bl false) H):cIsi [.ref a,.ty "tuple"] H Q:=⟨_,_,_,_,rfl,(by show (match H a with | some (.lst _)=>some "list" | some (.frz _ (.lst _))=>some "list" | some (.tup _)=>some "tuple" | some (.dK _)=>some "dict" | some (.dT _)=>some "dict" | _=>none)=some "list";rw [hp]),isK_list_tuple,h⟩
theorem i_isiT_tuple {a:Addr}{H:Hp}{Q:VK}{xs:List V} (hp:H a=some (.tup xs)) (h:Q (.bl true) H):cIsi [.ref a,.ty "tuple"] H Q:=⟨_,_,_,_,rfl,(by show (match H a with | some (.lst _)=>some "list" | some (.frz _ (.lst _))=>some "list" | some (.tup _)=>some "tuple" | some (.dK _)=>some "dict" | some (.dT _)=>some "dict" | _=>none)=some "tuple";rw [hp]),isK_tuple_tuple,h⟩
def cLenL (K:PySem.W.Frag):List V→Hp→VK→Prop:=fun xs H Q=>∃ p ys,xs=[.ref p]∧(SqL K H p ys∨SqT K H p ys)∧Q (.int ys.length) H
theorem i_lenL {K:PySem.W.Frag}{a:Addr}{H:Hp}{Q:VK}{xs:List V} (hp:SqL K H a xs) (h:Q (.int xs.length) H):cLenL K [.ref a] H Q:=⟨a,xs,rfl,.inl hp,h⟩
theorem i_ixL {K:PySem.W.Frag}{a:Addr}{H:Hp}{Q:VK}{xs:List V}{i:Int}{v:V} (hp:SqL K H a xs) (hi:atI xs i=some v) (h:Q v H):rIxL K (.ref a) (.int i) H Q:=⟨a,xs,i,v,rfl,rfl,hp,hi,h⟩
section
variable {K:PySem.W.Frag}{a:Addr}{xs:List V}{g:TG}{tb:TS}{σ:St}{H:Hp}{n:St→Hp→Prop}{r:VK}
theorem forL (xs:List V) (Pv:Nat→St→Hp→Prop) (h0:Pv 0 σ H) (hl:∀ i σ H,i≤xs.length→Pv i σ H→SqL K H a xs)
  (hs:∀ i x σ H,xs[i]? =some x→Pv i σ H→g x σ H fun σ2 H2=>tb ⟨Pv (i + 1),r,n,Pv (i + 1)⟩ σ2 H2) (hd:∀ σ H,Pv xs.length σ H→n σ H):
  ∃ W:Nat→Nat→St→Hp→Prop,(∃ m,W 0 m σ H)∧∀ i m σ H,W i m σ H→
   ((Itl K a).stop i H∧n σ H)∨((Itl K a).go i H∧∃ N:St→Hp→Prop,(∀ σ' H',N σ' H'→∃ m',m' < m∧W (i + 1) m' σ' H')∧∀ x H',(Itl K a).yld i H x H'→g x σ H' fun σ2 H2=>tb ⟨N,r,n,N⟩ σ2 H2):=
 for_list (D:=⟨n,r,fun _ _=>False,fun _ _=>False⟩) Pv h0 hl hs hd
theorem forR {lo:Int}{k:Nat} (Pv:Nat→St→Hp→Prop) (h0:Pv 0 σ H)
  (hs:∀ i σ H,i < k→Pv i σ H→g (.int (lo + i)) σ H fun σ2 H2=>tb ⟨Pv (i + 1),r,n,Pv (i + 1)⟩ σ2 H2) (hd:∀ σ H,Pv k σ H→n σ H):
  ∃ W:Nat→Nat→St→Hp→Prop,(∃ m,W 0 m σ H)∧∀ i m σ H,W i m σ H→
   ((Itr lo k).stop i H∧n σ H)∨((Itr lo k).go i H∧∃ N:St→Hp→Prop,(∀ σ' H',N σ' H'→∃ m',m' < m∧W (i + 1) m' σ' H')∧∀ x H',(Itr lo k).yld i H x H'→g x σ H' fun σ2 H2=>tb ⟨N,r,n,N⟩ σ2 H2):=
 for_range (D:=⟨n,r,fun _ _=>False,fun _ _=>False⟩) Pv h0 hs hd
end
theorem Zaj {n:Nat} (h:n≤1000000):n≤sizeLine:=Nat.le_trans h (by decide)
end G
namespace G
open PySem L2
def rCatS:R2:=fun x y H Q=>∃ i j,x=.str i∧y=.str j∧i.length + j.length≤sizeLine∧Q (.str (i ++ j)) H
theorem i_catS {i j:Str}{H:Hp}{Q:VK} (hz:i.length + j.length≤sizeLine) (h:Q (.str (i ++ j)) H):rCatS (.str i) (.str j) H Q:=⟨i,j,rfl,rfl,hz,h⟩
def pick (σ:St) (j:Nat):Option V:=match σ[j]? with
 | some v=>v
 | none=>none
def tLC (wi:TI) (caps:List Nat) (tc:TT) (te:TE):TE:=fun σ H Q=>wi σ H fun J H1=>∃ W:Nat→Nat→List V→Hp→Prop,(∃ m,W 0 m [] H1)∧∀ i m ys H,W i m ys H→
 (J.stop i H∧∀ p,H p=none→Q (.ref p) (upd H p (.lst ys)))∨
 (J.go i H∧ys.length < sizeLine∧∀ x H',J.yld i H x H'→tc (some x :: caps.map (pick σ)) H' fun k H2=>if k=true then te (some x :: caps.map (pick σ)) H2 (fun y H3=>∃ m',m' < m∧W (i + 1) m' (ys ++ [y]) H3) else ∃ m',m' < m∧W (i + 1) m' ys H2)
def tTrue:TT:=fun _ H Q=>Q true H
theorem i_true {σ:St}{H:Hp}{Q:Bool→Hp→Prop} (h:Q true H):tTrue σ H Q:=h
theorem i_chain {r r':R2}{ta tb tc:TE}{σ:St}{H:Hp}{Q:VK} (h:ta σ H fun x H1=>tb σ H1 fun y H2=>r x y H2 (kB fun k H3=>if k=true then tc σ H3 (fun w H4=>r' y w H4 Q) else Q (.bl false) H3)):tChain r r' ta tb tc σ H Q:=h
end G
namespace G
open PySem L2
end G
namespace G
open PySem L2
structure EqD (K:PySem.W.Frag) (C:Addr):Prop where
 eq:PySem.W.findIn K (.ref C) "__eq__"=some (some (.builtin "object.__eq__"))
 ob:PySem.W.mroIn K C (.type "object")=some true
end G
namespace G
open PySem L2
def xobj (a:Addr) (cls:Value):HO:=.ext fun h=>∃ o vs,h.get? a=some o∧o.cls=cls∧o.data=.fields vs
def tRaise (C:Addr) (E:XK) (ta:TA):TS:=fun _ σ H=>ta σ H fun vs H1=>vs.length≤100∧E (.ref C) none H1
def tCallX (sp:Sp) (dvs:List V) (E:St→XK) (t:TA):TE:=fun σ H Q=>t σ H fun vs H1=>sp (vs ++ dvs) H1 Q (E σ)
def tTryAs (Mt:Value→Prop) (i:Nat) (tb:(St→XK)→TS) (th:TS):TS:=fun D σ H=>
 tb (fun σ' cls _ H'=>Mt cls∧∀ ea,H' ea=none→th ⟨fun σ2 H2=>D.nx (σ2.set i none) H2,D.rt,fun σ2 H2=>D.bk (σ2.set i none) H2,fun σ2 H2=>D.ct (σ2.set i none) H2⟩ (σ'.set i (some (.ref ea))) (upd H' ea (xobj ea cls))) D σ H
section
variable {σ:St}{H:Hp}{Q:VK}{n:St→Hp→Prop}{r:VK}{b c:St→Hp→Prop}{te:TE}{t:TA}
theorem i_raise {C:Addr}{E:XK} (h:t σ H fun vs H1=>vs.length≤100∧E (.ref C) none H1):tRaise C E t ⟨n,r,b,c⟩ σ H:=h
theorem i_callX {sp:Sp}{dvs:List V}{E:St→XK} (h:t σ H fun vs H1=>sp (vs ++ dvs) H1 Q (E σ)):tCallX sp dvs E t σ H Q:=h
theorem i_tryAs {Mt:Value→Prop}{i:Nat}{tb:(St→XK)→TS}{th:TS} (h:tb (fun σ' cls _ H'=>Mt cls∧∀ ea,H' ea=none→th ⟨fun σ2 H2=>n (σ2.set i none) H2,r,fun σ2 H2=>b (σ2.set i none) H2,fun σ2 H2=>c (σ2.set i none) H2⟩ (σ'.set i (some (.ref ea))) (upd H' ea (xobj ea cls))) ⟨n,r,b,c⟩ σ H):
  tTryAs Mt i tb th ⟨n,r,b,c⟩ σ H:=h
end
theorem i_gsub {to ti:TE}{ts:TSet}{x:V}{σ:St}{H:Hp}{Q:St→Hp→Prop} (h:to σ H fun o H1=>ti σ H1 fun i H2=>ts o i x H2 fun H3=>Q σ H3):gSub to ti ts x σ H Q:=h
def cIsiX (Cs:List Addr) (isk:Value→Value→Option Bool):List V→Hp→VK→Prop:=fun xs H Q=>∃ a c C k,(∃ v,xs=[.ref a,v]∧RelV v c)∧C∈Cs∧H a=some (xobj a (.ref C))∧isk (.ref C) c=some k∧Q (.bl k) H
def OkN (K:PySem.W.Frag) (H:Hp) (xs:List V):Prop:=∀ y∈xs,y=.non∨∃ a C dx fs,y=.ref a∧H a=some (.ins C dx fs)∧Cls K C∧EqD K C
def rInN (K:PySem.W.Frag) (neg:Bool):R2:=fun x y H Q=>∃ p xs,x=.non∧y=.ref p∧SqL K H p xs∧OkN K H xs∧Q (.bl (if neg then !decide (V.non∈xs) else decide (V.non∈xs))) H
theorem i_notInN {K:PySem.W.Frag}{H:Hp}{Q:VK}{p:Addr}{xs:List V} (h1:SqL K H p xs) (h2:OkN K H xs) (h:Q (.bl (!decide (V.non∈xs))) H):rInN K true .non (.ref p) H Q:=⟨p,xs,rfl,rfl,h1,h2,h⟩
def rIndexN (K:PySem.W.Frag):V→List V→Hp→VK→Prop:=fun x vs H Q=>∃ p xs,x=.ref p∧vs=[.non]∧SqL K H p xs∧OkN K H xs∧V.non∈xs∧Q (.int (xs.idxOf V.non)) H
def Fm (S:List Addr) (H H':Hp):Prop:=∀ b o,H b=some o→b∉S→H' b=some o
theorem Fm.same {H H':Hp} (a:Fm [] H H'):Same H H':=fun c o h=>a c o h (fun z=>nomatch z)
theorem i_notN {x:V}{H:Hp}{Q:VK} (h:Q (.bl (!decide (x=.non))) H):rNotN x .non H Q:=⟨rfl,h⟩
def LCg (J:It) (caps:List Nat) (tc:TT) (te:TE) (σ:St) (H:Hp) (Q:VK):Prop:=∃ W:Nat→Nat→List V→Hp→Prop,(∃ m,W 0 m [] H)∧∀ i m ys H,W i m ys H→
 (J.stop i H∧∀ p,H p=none→Q (.ref p) (upd H p (.lst ys)))∨
 (J.go i H∧ys.length < sizeLine∧∀ x H',J.yld i H x H'→tc (some x :: caps.map (pick σ)) H' fun k H2=>if k=true then te (some x :: caps.map (pick σ)) H2 (fun y H3=>∃ m',m' < m∧W (i + 1) m' (ys ++ [y]) H3) else ∃ m',m' < m∧W (i + 1) m' ys H2)
theorem i_lcg {wi:TI}{caps:List Nat}{tc:TT}{te:TE}{σ:St}{H:Hp}{Q:VK} (h:wi σ H fun J H1=>LCg J caps tc te σ H1 Q):tLC wi caps tc te σ H Q:=h
theorem lc_src {J:It}{caps:List Nat}{tc:TT}{te:TE}{σ:St}{H:Hp}{Q:VK} (k:Nat) (hz:k≤1000000) (g:Nat→Option V)
  (hstop:J.stop k H) (hgo:∀ i,i < k→J.go i H) (hy:∀ i x H',i < k→J.yld i H x H'→H'=H∧(∀ q:Bool→Hp→Prop,q (g i).isSome H→tc (some x :: caps.map (pick σ)) H q)∧∀ (y:V) (q:VK),g i=some y→q y H→te (some x :: caps.map (pick σ)) H q)
  (q:∀ p,H p=none→Q (.ref p) (upd H p (.lst ((List.range k).filterMap g)))):
  LCg J caps tc te σ H Q:=by
 refine ⟨fun i m ys H'=>H'=H∧i≤k∧m=k - i∧ys=(List.range i).filterMap g,⟨k,rfl,Nat.zero_le _,rfl,rfl⟩,?_⟩
 rintro i m ys _ ⟨rfl,hi,rfl,rfl⟩
 by_cases hk:i=k
 ·subst hk
  exact .inl ⟨hstop,q⟩
 ·have hlt:i < k:=by omega
  refine .inr ⟨hgo i hlt,?_,fun x H' y=>?_⟩
  ·refine Nat.lt_of_le_of_lt (Nat.le_trans (List.length_filterMap_le _ _) ?_) (show 1000000 < sizeLine by decide)
   rw [List.length_range];omega
  ·obtain ⟨rfl,h1,h2⟩:=hy i x H' hlt y
   refine h1 _ ?_
   have er:List.filterMap g (List.range (i + 1))=List.filterMap g (List.range i) ++ (match g i with | some y=>[y] | none=>[]):=by
    rw [List.range_succ,List.filterMap_append]
    cases e:g i with
    | none=>rw [List.filterMap_cons_none e];rfl
    | some y=>rw [List.filterMap_cons_some e];rfl
   cases e:g i with
   | none=>
    rw [e] at er
    dsimp only [Option.isSome]
    refine iteF ⟨k - (i + 1),by omega,rfl,by omega,rfl,?_⟩
    rw [er,List.append_nil]
   | some y=>
    rw [e] at er
    dsimp only [Option.isSome]
    refine iteT (h2 y _ e ⟨k - (i + 1),by omega,rfl,by omega,rfl,?_⟩)
    rw [er]
theorem filterMap_if (l:List Nat) (p:Nat→Bool) (f:Nat→V):l.filterMap (fun i=>if p i=true then some (f i) else none)=(l.filter p).map f:=by
 induction l with
 | nil=>rfl
 | cons a l ih=>
  by_cases h:p a=true
  ·rw [List.filterMap_cons_some (by rw [if_pos h]),List.filter_cons_of_pos h,List.map_cons,ih]
  ·rw [List.filterMap_cons_none (by rw [if_neg h]),List.filter_cons_of_neg h,ih]
theorem lc_range {caps:List Nat}{tc:TT}{te:TE}{σ:St}{H:Hp}{Q:VK}{n:Nat}{z:Int} (ez:z.toNat=n) (p:Nat→Bool) (f:Nat→V) (hz:n≤1000000)
  (htc:∀ i,i < n→∀ q:Bool→Hp→Prop,q (p i) H→tc (some (.int i) :: caps.map (pick σ)) H q)
  (hte:∀ i,i < n→p i=true→∀ q:VK,q (f i) H→te (some (.int i) :: caps.map (pick σ)) H q)
  (q:∀ l,H l=none→Q (.ref l) (upd H l (.lst (((List.range n).filter p).map f)))):
  LCg (Itr 0 z.toNat) caps tc te σ H Q:=by
 subst ez
 refine lc_src z.toNat hz (fun i=>if p i=true then some (f i) else none) (Nat.le_refl _) (fun i hi=>hi) (fun i x H' hi y=>?_) ?_
 ·obtain ⟨e1,e2⟩:=y
  have ex:x=.int i:=by rw [e2];simp
  refine ⟨e1,fun q hq=>?_,fun y q hy hq=>?_⟩
  ·rw [ex]
   refine htc i hi q ?_
   cases e:p i with
   | true=>rw [e] at hq;exact hq
   | false=>rw [e] at hq;exact hq
  ·rw [ex]
   cases e:p i with
   | true=>
    rw [e] at hy
    have ey:f i=y:=by simpa using hy
    exact hte i hi e q (by rw [ey];exact hq)
   | false=>rw [e] at hy;simp at hy
 ·rw [filterMap_if];exact q
theorem lc_list {K:PySem.W.Frag}{a:Addr}{xs:List V}{caps:List Nat}{tc:TT}{te:TE}{σ:St}{H:Hp}{Q:VK} (hs:SqL K H a xs) (g:Nat→Option V) (hz:xs.length≤1000000)
  (hy:∀ i x,xs[i]? =some x→(∀ q:Bool→Hp→Prop,q (g i).isSome H→tc (some x :: caps.map (pick σ)) H q)∧∀ (y:V) (q:VK),g i=some y→q y H→te (some x :: caps.map (pick σ)) H q)
  (q:∀ p,H p=none→Q (.ref p) (upd H p (.lst ((List.range xs.length).filterMap g)))):
  LCg (Itl K a) caps tc te σ H Q:=by
 refine lc_src xs.length hz g ⟨xs,hs,Nat.le_refl _⟩ (fun i hi=>⟨xs,xs[i],hs,List.getElem?_eq_getElem hi⟩) (fun i x H' hi y=>?_) q
 obtain ⟨e1,e2⟩:=y
 exact ⟨e1,hy i x (e2 xs hs)⟩
theorem ixN_nat {n i:Nat} (h:i < n):ixN n (i:Int)=some i:=by
 unfold ixN
 rw [if_pos (by omega),if_pos (by omega)];simp
theorem atI_int {α:Type}{xs:List α}{i:Int}{v:α} (h0:0≤i) (h:xs[i.toNat]? =some v):atI xs i=some v:=by
 have e:i=((i.toNat:Nat):Int):=by omega
 have:=atI_nat h
 rw [← e] at this;exact this
end G
namespace G
open PySem L2
inductive Al {α β:Type} (P:α→β→Prop):List α→List β→Prop
 | nil:Al P [] []
 | cons {x:α}{y:β}{xs:List α}{ys:List β}:P x y→Al P xs ys→Al P (x :: xs) (y :: ys)
section
variable {α β:Type}{P P':α→β→Prop}{xs:List α}{ys:List β}
theorem Al.length (h:Al P xs ys):xs.length=ys.length:=by
 induction h with
 | nil=>rfl
 | cons _ _ ih=>rw [List.length_cons,List.length_cons,ih]
theorem Al.mono (h:Al P xs ys) (f:∀ x y,P x y→P' x y):Al P' xs ys:=by
 induction h with
 | nil=>exact .nil
 | cons p _ ih=>exact .cons (f _ _ p) ih
theorem Al.get (h:Al P xs ys):∀ {i:Nat}{y:β},ys[i]? =some y→∃ x,xs[i]? =some x∧P x y:=by
 induction h with
 | nil=>intro i y e;simp at e
 | cons p _ ih=>
  intro i y e
  cases i with
  | zero=>simp at e;subst e;exact ⟨_,rfl,p⟩
  | succ i=>
   obtain ⟨x,e1,e2⟩:=ih (i:=i) (y:=y) (by simpa using e)
   exact ⟨x,by simpa using e1,e2⟩
end
end G
namespace G
open PySem L2
abbrev Tg:=Addr→Nat×Nat
def WT (H:Hp) (T:Tg):Prop:=∀ b,H b=none→T b=(0,0)
structure Stp (s:Nat) (H H':Hp) (T T':Tg):Prop where
 kp:∀ b o,H b=some o→(T b).1≠s→H' b=some o
 al:∀ b o,H b=some o→∃ o',H' b=some o'
 tg:∀ b o,H b=some o→T' b=T b
 wt:WT H' T'
def setT (T:Tg) (a:Addr) (v:Nat×Nat):Tg:=fun x=>if x=a then v else T x
theorem setT_same {T:Tg}{a:Addr}{v:Nat×Nat}:setT T a v a=v:=by unfold setT;rw [if_pos rfl]
theorem setT_ne {T:Tg}{a b:Addr}{v:Nat×Nat} (h:b≠a):setT T a v b=T b:=by unfold setT;rw [if_neg h]
theorem WT.same {H H':Hp}{T:Tg} (w:WT H T) (s:Same H H'):WT H' T:=fun b h=>w b (s.free h)
theorem Stp.refl {s:Nat}{H:Hp}{T:Tg} (w:WT H T):Stp s H H T T:=⟨fun _ _ h _=>h,fun _ o h=>⟨o,h⟩,fun _ _ _=>rfl,w⟩
theorem Stp.same {s:Nat}{H H':Hp}{T:Tg} (w:WT H T) (e:Same H H'):Stp s H H' T T:=⟨fun b o h _=>e b o h,fun b o h=>⟨o,e b o h⟩,fun _ _ _=>rfl,w.same e⟩
theorem Stp.trans {s:Nat}{H H1 H2:Hp}{T T1 T2:Tg} (a:Stp s H H1 T T1) (b:Stp s H1 H2 T1 T2):Stp s H H2 T T2 where
 kp:=fun x o h n=>b.kp x o (a.kp x o h n) (by rw [a.tg x o h];exact n)
 al:=fun x o h=>by
  obtain ⟨o1,h1⟩:=a.al x o h
  exact b.al x o1 h1
 tg:=fun x o h=>by
  obtain ⟨o1,h1⟩:=a.al x o h
  rw [b.tg x o1 h1,a.tg x o h]
 wt:=b.wt
theorem Stp.upd {s:Nat}{H:Hp}{T:Tg}{a:Addr}{o o':HO} (w:WT H T) (ha:H a=some o) (ht:(T a).1=s):Stp s H (L2.upd H a o') T T where
 kp:=fun x u h n=>by
  have:x≠a:=fun e=>n (by rw [e];exact ht)
  rw [upd_ne this];exact h
 al:=fun x u h=>by
  by_cases e:x=a
  ·exact ⟨o',by rw [e,upd_same]⟩
  ·exact ⟨u,by rw [upd_ne e];exact h⟩
 tg:=fun _ _ _=>rfl
 wt:=fun b h=>w b (by
  by_cases e:b=a
  ·rw [e,upd_same] at h;cases h
  ·rw [upd_ne e] at h;exact h)
theorem ne_tag {T:Tg}{a b:Addr}{x y:Nat×Nat} (ha:T a=x) (hb:T b=y) (h:x≠y):a≠b:=fun e=>h (by rw [← ha,← hb,e])
end G
namespace G
open PySem L2
theorem lc_newD {J:It}{caps:List Nat}{tc:TT}{te:TE}{σ:St}{H:Hp}{Q:VK} (k:Nat) (hz:k≤1000000) (R:Nat→Addr→Hp→Prop) (mono:∀ i y H1 H2,R i y H1→Same H1 H2→R i y H2) (al:∀ i y H1,R i y H1→∃ o,H1 y=some o)
  (hstop:∀ H',Same H H'→J.stop k H') (hgo:∀ i H',i < k→Same H H'→J.go i H')
  (hy:∀ i x H1 H',i < k→Same H H1→J.yld i H1 x H'→H'=H1∧(∀ q:Bool→Hp→Prop,q true H1→tc (some x :: caps.map (pick σ)) H1 q)∧∀ q:VK,(∀ r H2,Same H1 H2→H1 r=none→R i r H2→q (.ref r) H2)→te (some x :: caps.map (pick σ)) H1 q)
  (q:∀ (rs:List Addr) H',Same H H'→rs.length=k→rs.Nodup→(∀ r∈rs,H r=none)→(∀ (i:Nat) r,rs[i]? =some r→R i r H')→∀ p,H' p=none→Q (.ref p) (upd H' p (.lst (rs.map V.ref)))):
  LCg J caps tc te σ H Q:=by
 refine ⟨fun i m ys H'=>∃ rs:List Addr,ys=rs.map V.ref∧Same H H'∧i≤k∧m=k - i∧rs.length=i∧rs.Nodup∧(∀ r∈rs,H r=none)∧∀ (j:Nat) r,rs[j]? =some r→R j r H',⟨k,[],rfl,Same.refl _,Nat.zero_le _,rfl,rfl,List.nodup_nil,fun r hr=>(nomatch hr),fun j y e=>by simp at e⟩,?_⟩
 rintro i m _ H1 ⟨rs,rfl,s1,hi,rfl,hl,nd,nn,hr⟩
 by_cases hk:i=k
 ·subst hk
  exact .inl ⟨hstop H1 s1,q rs H1 s1 hl nd nn hr⟩
 ·have hlt:i < k:=by omega
  refine .inr ⟨hgo i H1 hlt s1,Nat.lt_of_le_of_lt (show (rs.map V.ref).length≤1000000 by rw [List.length_map];omega) (show 1000000 < sizeLine by decide),fun x H' y=>?_⟩
  obtain ⟨rfl,h1,h2⟩:=hy i x H1 H' hlt s1 y
  refine h1 _ (iteT (h2 _ fun r H2 s2 nr rr=>⟨k - (i + 1),by omega,rs ++ [r],by rw [List.map_append];rfl,s1.trans s2,by omega,rfl,by rw [List.length_append,hl];rfl,?_,fun z hz=>?_,fun j z e=>?_⟩))
  ·rw [List.nodup_append]
   refine ⟨nd,by simp,fun a ha b hb e=>?_⟩
   rw [List.mem_singleton.mp hb] at e
   subst e
   obtain ⟨j,hj,ej⟩:=List.getElem_of_mem ha
   obtain ⟨o,ho⟩:=al j a _ (hr j a (by rw [List.getElem?_eq_getElem hj,ej]))
   rw [nr] at ho;cases ho
  ·rcases List.mem_append.mp hz with hz | hz
   ·exact nn z hz
   ·rw [List.mem_singleton.mp hz];exact s1.free nr
  ·by_cases hj:j < rs.length
   ·rw [List.getElem?_append_left hj] at e
    exact mono j z _ _ (hr j z e) s2
   ·have hj':=(List.getElem?_eq_some_iff.mp e).1
    rw [List.length_append,List.length_singleton] at hj'
    have ej:j=rs.length:=by omega
    subst ej
    rw [List.getElem?_append_right (Nat.le_refl _),Nat.sub_self] at e
    cases e
    rw [hl]
    exact rr
theorem lc_newDL {K:PySem.W.Frag}{a:Addr}{xs:List V}{caps:List Nat}{tc:TT}{te:TE}{σ:St}{H:Hp}{Q:VK} (hs:SqL K H a xs) (hz:xs.length≤1000000) (R:Nat→Addr→Hp→Prop) (mono:∀ i y H1 H2,R i y H1→Same H1 H2→R i y H2) (al:∀ i y H1,R i y H1→∃ o,H1 y=some o)
  (htc:∀ x H1,∀ q:Bool→Hp→Prop,q true H1→tc (some x :: caps.map (pick σ)) H1 q)
  (hte:∀ (i:Nat) x H1,xs[i]? =some x→Same H H1→∀ q:VK,(∀ r H2,Same H1 H2→H1 r=none→R i r H2→q (.ref r) H2)→te (some x :: caps.map (pick σ)) H1 q)
  (q:∀ (rs:List Addr) H',Same H H'→rs.length=xs.length→rs.Nodup→(∀ r∈rs,H r=none)→(∀ (i:Nat) r,rs[i]? =some r→R i r H')→∀ p,H' p=none→Q (.ref p) (upd H' p (.lst (rs.map V.ref)))):LCg (Itl K a) caps tc te σ H Q:=by
 refine lc_newD xs.length hz R mono al (fun H' s=>⟨xs,s.seq hs,Nat.le_refl _⟩) (fun i H' hi s=>⟨xs,xs[i],s.seq hs,List.getElem?_eq_getElem hi⟩) (fun i x H1 H' hi s1 y=>?_) q
 obtain ⟨e1,e2⟩:=y
 exact ⟨e1,htc x H1,fun q hq=>hte i x H1 (e2 xs (s1.seq hs)) s1 q hq⟩
end G
namespace G
open PySem L2 PySem.Spec PyProof.Rows
theorem boot_isinstance:bootBuiltins "isinstance"=some (.builtin "isinstance"):=by decide +kernel
theorem boot_len:bootBuiltins "len"=some (.builtin "len"):=by decide +kernel
theorem boot_int:bootBuiltins "int"=some (.type "int"):=by decide +kernel
theorem boot_str:bootBuiltins "str"=some (.type "str"):=by decide +kernel
theorem boot_bool:bootBuiltins "bool"=some (.type "bool"):=by decide +kernel
theorem boot_list:bootBuiltins "list"=some (.type "list"):=by decide +kernel
theorem boot_tuple:bootBuiltins "tuple"=some (.type "tuple"):=by decide +kernel
structure FunD (K:PySem.W.Frag) (x qual:Str) (st:Stmt) (f:Addr) (fd:FuncData):Prop where
 ex:∃ (oc:Value) (od:Option Addr) (dV kV doc pm:Value) (an:Option Addr) (cdv ct:Value) (osl:Array (Option Value)),
  fd=PySem.W.fnOf x qual (defArgs st) (defBody st) (defScope st) dV kV doc pm an cdv ct∧K.lookup f=some ⟨oc,od,.func fd,osl⟩∧PySem.W.codeIn K cdv qual=true
 kp:PySem.W.keepIn K (.ref f)=true
section
variable {P:Program}{w:World}{K:PySem.W.Frag}{mg:Str→Option Value}{base:Heap}
theorem funD_mk {x qual:Str}{st:Stmt}{f:Addr}{oc dV:Value}{od an:Option Addr}{osl:Array (Option Value)}{kV doc pm cdv ct:Value} (l:K.lookup f=some ⟨oc,od,.func (PySem.W.fnOf x qual (defArgs st) (defBody st) (defScope st) dV kV doc pm an cdv ct),osl⟩)
  (c:PySem.W.codeIn K cdv qual=true) (k:PySem.W.keepIn K (.ref f)=true):FunD K x qual st f (PySem.W.fnOf x qual (defArgs st) (defBody st) (defScope st) dV kV doc pm an cdv ct):=⟨⟨oc,od,dV,kV,doc,pm,an,cdv,ct,osl,rfl,l,c⟩,k⟩
theorem bindsD {f td:Addr}{oc tc:Value}{od to_:Option Addr}{osl ts:Array (Option Value)}{fd:FuncData}{items:Array Value}{tn:Nat}{ps:List Str}{ds:List Value} (_:K.lookup f=some ⟨oc,od,.func fd,osl⟩) (t:K.lookup td=some ⟨tc,to_,.seq items tn,ts⟩)
  (h:∀ us:List Value,us.length + ds.length=ps.length→∃ k,bindArgs fd ⟨us,[]⟩=seqItems? (.ref td) >>= k∧k (some items)=pure (ps.zip (us ++ ds))) (hd:fd.defaults=.ref td:=by rfl):Binds K fd ps ds:=by
 intro s us KX hl
 obtain ⟨k,h1,h2⟩:=h us (by rw [List.length_append] at hl;exact hl)
 exact BindsTo.of_defaults hd (KX _ _ t) rfl (by rw [h1,hd]) h2
end
section
variable {X:Cx}
theorem op_isN_:OpR X (compareOp .Is) rIsN:=op_isN
theorem op_notN_:OpR X (compareOp .IsNot) rNotN:=op_notN
theorem call_lenL:CallR X (.builtin "len") (cLenL X.K):=call_len_seq
def kk (t n:String):Option Bool:=if (Value.type t == Value.type n)=true then some true else if PySem.W.kitMeta n=true then (fastBuiltinMro t).map (·.contains (.type n)) else none
theorem kit_kk (K:PySem.W.Frag) (t n:String):PySem.W.kitOne K (.type t) (.type n)=kk t n:=rfl
theorem kk_int_int:kk "int" "int"=some true:=by decide +kernel
theorem kk_int_bool:kk "int" "bool"=some false:=by decide +kernel
theorem kk_int_str:kk "int" "str"=some false:=by decide +kernel
theorem kk_int_list:kk "int" "list"=some false:=by decide +kernel
theorem kk_int_tuple:kk "int" "tuple"=some false:=by decide +kernel
theorem kk_int_dict:kk "int" "dict"=some false:=by decide +kernel
theorem kk_bool_int:kk "bool" "int"=some true:=by decide +kernel
theorem kk_bool_bool:kk "bool" "bool"=some true:=by decide +kernel
theorem kk_bool_str:kk "bool" "str"=some false:=by decide +kernel
theorem kk_bool_list:kk "bool" "list"=some false:=by decide +kernel
theorem kk_bool_tuple:kk "bool" "tuple"=some false:=by decide +kernel
theorem kk_bool_dict:kk "bool" "dict"=some false:=by decide +kernel
theorem kk_str_int:kk "str" "int"=some false:=by decide +kernel
theorem kk_str_bool:kk "str" "bool"=some false:=by decide +kernel
theorem kk_str_str:kk "str" "str"=some true:=by decide +kernel
theorem kk_str_list:kk "str" "list"=some false:=by decide +kernel
theorem kk_str_tuple:kk "str" "tuple"=some false:=by decide +kernel
theorem kk_str_dict:kk "str" "dict"=some false:=by decide +kernel
theorem kk_NoneType_int:kk "NoneType" "int"=some false:=by decide +kernel
theorem kk_NoneType_bool:kk "NoneType" "bool"=some false:=by decide +kernel
theorem kk_NoneType_str:kk "NoneType" "str"=some false:=by decide +kernel
theorem kk_NoneType_list:kk "NoneType" "list"=some false:=by decide +kernel
theorem kk_NoneType_tuple:kk "NoneType" "tuple"=some false:=by decide +kernel
theorem kk_NoneType_dict:kk "NoneType" "dict"=some false:=by decide +kernel
theorem kk_list_int:kk "list" "int"=some false:=by decide +kernel
theorem kk_list_bool:kk "list" "bool"=some false:=by decide +kernel
theorem kk_list_str:kk "list" "str"=some false:=by decide +kernel
theorem kk_list_list:kk "list" "list"=some true:=by decide +kernel
theorem kk_list_tuple:kk "list" "tuple"=some false:=by decide +kernel
theorem kk_list_dict:kk "list" "dict"=some false:=by decide +kernel
theorem kk_tuple_int:kk "tuple" "int"=some false:=by decide +kernel
theorem kk_tuple_bool:kk "tuple" "bool"=some false:=by decide +kernel
theorem kk_tuple_str:kk "tuple" "str"=some false:=by decide +kernel
theorem kk_tuple_list:kk "tuple" "list"=some false:=by decide +kernel
theorem kk_tuple_tuple:kk "tuple" "tuple"=some true:=by decide +kernel
theorem kk_tuple_dict:kk "tuple" "dict"=some false:=by decide +kernel
theorem kk_dict_int:kk "dict" "int"=some false:=by decide +kernel
theorem kk_dict_bool:kk "dict" "bool"=some false:=by decide +kernel
theorem kk_dict_str:kk "dict" "str"=some false:=by decide +kernel
theorem kk_dict_list:kk "dict" "list"=some false:=by decide +kernel
theorem kk_dict_tuple:kk "dict" "tuple"=some false:=by decide +kernel
theorem kk_dict_dict:kk "dict" "dict"=some true:=by decide +kernel
theorem tyN_in {H:Hp}{x:V}{t:String} (e:tyN H x=some t):t="int"∨t="bool"∨t="str"∨t="NoneType"∨t="list"∨t="tuple"∨t="dict":=by
 unfold tyN at e
 split at e<;>(first | (cases e;simp) | (split at e<;>(first | (cases e;simp) | cases e)) | cases e)
theorem isK_in {t n:String}{k:Bool} (e:isK t n=some k):n="int"∨n="bool"∨n="str"∨n="list"∨n="tuple"∨n="dict":=by
 unfold isK at e
 by_cases h:(["int","bool","str","list","tuple","dict"].contains n)=true
 ·simpa using h
 ·rw [if_neg h] at e;cases e
theorem kk_of {H:Hp}{x:V}{t n:String}{k:Bool} (ht:tyN H x=some t) (e:isK t n=some k):kk t n=some k:=by
 rcases tyN_in ht with rfl | rfl | rfl | rfl | rfl | rfl | rfl<;>rcases isK_in e with rfl | rfl | rfl | rfl | rfl | rfl
 ·rw [isK_int_int] at e;rw [kk_int_int];exact e
 ·rw [isK_int_bool] at e;rw [kk_int_bool];exact e
 ·rw [isK_int_str] at e;rw [kk_int_str];exact e
 ·rw [isK_int_list] at e;rw [kk_int_list];exact e
 ·rw [isK_int_tuple] at e;rw [kk_int_tuple];exact e
 ·rw [isK_int_dict] at e;rw [kk_int_dict];exact e
 ·rw [isK_bool_int] at e;rw [kk_bool_int];exact e
 ·rw [isK_bool_bool] at e;rw [kk_bool_bool];exact e
 ·rw [isK_bool_str] at e;rw [kk_bool_str];exact e
 ·rw [isK_bool_list] at e;rw [kk_bool_list];exact e
 ·rw [isK_bool_tuple] at e;rw [kk_bool_tuple];exact e
 ·rw [isK_bool_dict] at e;rw [kk_bool_dict];exact e
 ·rw [isK_str_int] at e;rw [kk_str_int];exact e
 ·rw [isK_str_bool] at e;rw [kk_str_bool];exact e
 ·rw [isK_str_str] at e;rw [kk_str_str];exact e
 ·rw [isK_str_list] at e;rw [kk_str_list];exact e
 ·rw [isK_str_tuple] at e;rw [kk_str_tuple];exact e
 ·rw [isK_str_dict] at e;rw [kk_str_dict];exact e
 ·rw [isK_NoneType_int] at e;rw [kk_NoneType_int];exact e
 ·rw [isK_NoneType_bool] at e;rw [kk_NoneType_bool];exact e
 ·rw [isK_NoneType_str] at e;rw [kk_NoneType_str];exact e
 ·rw [isK_NoneType_list] at e;rw [kk_NoneType_list];exact e
 ·rw [isK_NoneType_tuple] at e;rw [kk_NoneType_tuple];exact e
 ·rw [isK_NoneType_dict] at e;rw [kk_NoneType_dict];exact e
 ·rw [isK_list_int] at e;rw [kk_list_int];exact e
 ·rw [isK_list_bool] at e;rw [kk_list_bool];exact e
 ·rw [isK_list_str] at e;rw [kk_list_str];exact e
 ·rw [isK_list_list] at e;rw [kk_list_list];exact e
 ·rw [isK_list_tuple] at e;rw [kk_list_tuple];exact e
 ·rw [isK_list_dict] at e;rw [kk_list_dict];exact e
 ·rw [isK_tuple_int] at e;rw [kk_tuple_int];exact e
 ·rw [isK_tuple_bool] at e;rw [kk_tuple_bool];exact e
 ·rw [isK_tuple_str] at e;rw [kk_tuple_str];exact e
 ·rw [isK_tuple_list] at e;rw [kk_tuple_list];exact e
 ·rw [isK_tuple_tuple] at e;rw [kk_tuple_tuple];exact e
 ·rw [isK_tuple_dict] at e;rw [kk_tuple_dict];exact e
 ·rw [isK_dict_int] at e;rw [kk_dict_int];exact e
 ·rw [isK_dict_bool] at e;rw [kk_dict_bool];exact e
 ·rw [isK_dict_str] at e;rw [kk_dict_str];exact e
 ·rw [isK_dict_list] at e;rw [kk_dict_list];exact e
 ·rw [isK_dict_tuple] at e;rw [kk_dict_tuple];exact e
 ·rw [isK_dict_dict] at e;rw [kk_dict_dict];exact e
theorem tyOf {K:PySem.W.Frag}{H:Hp}{x:V}{t:String} (e:tyN H x=some t):TyOf K H x (.type t):=by
 cases x with
 | non=>cases e;exact .non
 | bl y=>cases e;exact .bl y
 | int y=>cases e;exact .int y
 | str y=>cases e;exact .str y
 | byt y=>cases e
 | flt y=>cases e
 | ty y=>cases e
 | ref a=>
  have e':(match H a with | some (.lst _)=>some "list" | some (.frz _ (.lst _))=>some "list" | some (.tup _)=>some "tuple" | some (.dK _)=>some "dict" | some (.dT _)=>some "dict" | _=>none)=some t:=e
  split at e'
  ·rename_i h;cases e';exact .lst h
  ·rename_i h;cases e';exact .frz h
  ·rename_i h;cases e';exact .tup h
  ·rename_i h;cases e';exact .dK h
  ·rename_i h;cases e';exact .dT h
  ·cases e'
theorem call_isi:CallR X (.builtin "isinstance") cIsi:=by
 intro pins s σ H xs us Q I r h
 obtain ⟨x,n,t,k,rfl,ht,hk,q⟩:=h
 obtain ⟨u,w',rfl,rx,rn⟩:=vals2 r
 have rn':w'=Value.type n:=rn
 subst rn'
 exact isinst_ok (t:=.type t) (b:=k) I rx (tyOf ht) ((kit_kk _ _ _).trans (kk_of ht hk)) fun tk=>⟨.bl k,H,I.tok _,rfl,q⟩
end
end G
namespace G
open PySem L2 PySem.Spec PyProof.Rows
section
variable {X:Cx}
def GC (mg:Str→Option Value) (x:Str) (v:V):Prop:=∃ u,mg x=some u∧RelV v u
theorem GC.pe {x:Str}{v:V}{pos:Pos} (h:GC X.mg x v) (hg:Gl X x) (hd:(x == ("__debug__":Str))=false:=by decide):PE X (.Name x pos) (tC v):=by
 obtain ⟨u,hm,r⟩:=h
 exact pe_glob hg hm r hd
end
end G
namespace G
open PySem L2 PySem.Spec PyProof.Rows
section
variable {X:Cx}
end
end G
namespace G
open PySem L2
end G
namespace G
open PySem L2 PySem.Spec PyProof.Rows
section
variable {X:Cx}{pins:List (Addr×Obj)}{σ:L2.St}{H:Hp}{s:Shared}{acc:Addr}{ys:List V}{its:List Value}{n:Nat}
theorem adopt (I:Inv X pins σ H s) (hf:FpOk X pins H acc) (ho:s.heap.get? acc=some { cls:=.type "list",data:=.seq its.toArray n }) (hv:Vals ys its) (hz:ys.length≤sizeLine):Inv X pins σ (upd H acc (.lst ys)) s:=by
 obtain ⟨f0,f1,f2,f3,f4,f5⟩:=hf
 have ne:∀ b u,H b=some u→b≠acc:=fun b u e=>ne_of_none e f0
 refine I.step (h':=s.heap) (g':=s.gens) (t':=s.toks) (d':=s.drawn) (ch:=[acc]) (fun b hb=>?_) (fun _ _ _ _ _ e _=>e) (fun b o _ _ _ e _=>⟨o.slots,e⟩) (fun b o hb e h0=>?_) (fun b o _ e=>⟨o,e⟩)
  (fun b xs e=>by rw [upd_ne (ne b _ e)];exact e) (fun b o u e=>by rw [upd_ne (ne b _ e)];exact e) (fun b ps e=>⟨#[],by rw [upd_ne (ne b _ e),e];simp⟩) (fun m hm=>hm) (fun b u e=>?_) I.bare
 ·have e:b=acc:=by simpa using hb
  subst e
  exact ⟨f3,f1,f4,f5⟩
 ·have e:b≠acc:=by simpa using hb
  rw [upd_ne e];exact h0
 ·by_cases hb:b=acc
  ·subst hb
   rw [upd_same] at e;cases e
   exact ⟨hz,its,n,hv,ho⟩
  ·rw [upd_ne hb] at e
   exact (I.hok b u e).stay (fun _ _ _ q=>q) (fun c q=>by rw [upd_ne (ne c _ q)];exact q) fun c xs q=>by rw [upd_ne (ne c _ q)];exact q
theorem disown (I:Inv X pins σ (upd H acc (.lst ys)) s) (hf:FpOk X pins H acc):Inv X pins σ H s:=by
 obtain ⟨f0,f1,f2,f3,f4,f5⟩:=hf
 have back:∀ b u,upd H acc (.lst ys) b=some u→u≠.lst ys→H b=some u:=fun b u e hne=>by
  by_cases hb:b=acc
  ·subst hb
   rw [upd_same] at e;cases e;exact absurd rfl hne
  ·rw [upd_ne hb] at e;exact e
 refine I.step (h':=s.heap) (g':=s.gens) (t':=s.toks) (d':=s.drawn) (ch:=[acc]) (fun b hb=>?_) (fun _ _ _ _ _ e _=>e) (fun b o _ _ _ e _=>⟨o.slots,e⟩) (fun b o hb e h0=>?_) (fun b o _ e=>⟨o,e⟩)
  (fun b xs e=>back b _ e (fun z=>nomatch z)) (fun b o u e=>back b _ e (fun z=>nomatch z)) (fun b ps e=>⟨#[],by rw [back b _ e (fun z=>nomatch z)];simp⟩) (fun m hm=>hm) (fun b u e=>?_) I.bare
 ·have e:b=acc:=by simpa using hb
  subst e
  exact ⟨f3,f1,f4,f5⟩
 ·have e:b≠acc:=by simpa using hb
  rw [upd_ne e] at h0;exact h0
 ·have hb:b≠acc:=ne_of_none e f0
  have e':upd H acc (.lst ys) b=some u:=by rw [upd_ne hb];exact e
  exact (I.hok b u e').stay (fun _ _ _ q=>q) (fun c q=>back c _ q (fun z=>nomatch z)) fun c xs q=>back c _ q (fun z=>nomatch z)
end
def PF (X:Cx) (ifs:List Expr) (t:TT):Prop:=
 ∀ (pins:List (Addr×Obj)) (s:Shared) (σ:L2.St) (H:Hp) (Q:Bool→Hp→Prop),Inv X pins σ H s→t σ H Q→
  wpAny (model X.prog X.w) X.A (forIn ifs true fun c r=>if r=true then do let ok ← isTrue c X.env (eval c X.env);pure (ForInStep.yield ok) else pure (ForInStep.yield r)) (TP X pins σ Q) X.xe s
theorem pf_nil {X:Cx}:PF X [] tTrue:=fun _ _ _ H _ I h=>wpAny_tests_nil ⟨H,I,h⟩
theorem pf_one {X:Cx}{c:Expr}{t:TT} (h:PT X c t):PF X [c] t:=fun pins s σ H Q I q=>wpAny_tests_one (h pins s σ H Q I q)
def cxLC (X:Cx) (scope:Scope) (cl:List (Str×Addr)) (N:List Str) (C:Addr) (s:Shared) (H:Hp) (ex:List Addr) (pn:List (Addr×Obj)):Cx:=
 { X with N:=N,s₀:=s,H₀:=H,env:=compEnvC scope cl C X.env,outer:=X.stack,ex:=ex,fn:=fun _=>false,pn:=pn,xe:=fun _ _=>False }
def AllIn (cells:List (Str×Addr)):List (Str×Addr)→Prop
 | []=>True
 | p :: r=>cells.lookup p.1=some p.2∧AllIn cells r
theorem AllIn.get {cells:List (Str×Addr)}:∀ {cl:List (Str×Addr)},AllIn cells cl→∀ {x:Str}{c:Addr},cl.lookup x=some c→cells.lookup x=some c
 | [],_,x,c,h=>by cases h
 | (y,d) :: r,a,x,c,h=>by
  cases e:(x == y) with
  | true=>
   rw [List.lookup_cons,e] at h
   have e':x=y:=beq_iff_eq.mp e
   subst e'
   cases h
   exact a.1
  | false=>
   rw [List.lookup_cons,e] at h
   exact AllIn.get a.2 h
def CapOk (X:Cx):List Str→List Nat→Prop
 | [],[]=>True
 | y :: r,j :: js=>X.N[j]? =some y∧X.env.kindOf y=some .cell∧CapOk X r js
 | _,_=>False
theorem CapOk.len {X:Cx}:∀ {ns:List Str}{js:List Nat},CapOk X ns js→ns.length=js.length
 | [],[],_=>rfl
 | [],_ :: _,h=>h.elim
 | _ :: _,[],h=>h.elim
 | _ :: r,_ :: js,h=>by rw [List.length_cons,List.length_cons,CapOk.len h.2.2]
theorem CapOk.get {X:Cx}{σ:L2.St}:∀ {ns:List Str}{js:List Nat},CapOk X ns js→∀ {i:Nat}{x:Str}{v:V},ns[i]? =some x→(js.map (pick σ))[i]? =some (some v)→∃ j:Nat,X.N[j]? =some x∧X.env.kindOf x=some .cell∧σ[j]? =some (some v)
 | [],_,_,i,x,v,h,_=>by simp at h
 | _ :: _,[],h,_,_,_,_,_=>h.elim
 | y :: r,j :: js,h,0,x,v,h1,h2=>by
  simp at h1 h2
  subst h1
  refine ⟨j,h.1,h.2.1,?_⟩
  unfold pick at h2
  split at h2
  ·rename_i e;rw [e,h2]
  ·cases h2
 | y :: r,j :: js,h,i + 1,x,v,h1,h2=>CapOk.get (i:=i) h.2.2 (by simpa using h1) (by simpa using h2)
theorem lk_ne {x n:Str}{k:NameKind}{r:List (Str×NameKind)} (h:(x == n)=false):List.lookup x ((n,k) :: r)=List.lookup x r:=by rw [List.lookup_cons,h]
theorem lk_eq {x n:Str}{k:NameKind}{r:List (Str×NameKind)} (h:(x == n)=true):List.lookup x ((n,k) :: r)=some k:=by rw [List.lookup_cons,h]
def relK (env:Env) (x:Str) (k:NameKind):NameKind:=if (k == NameKind.free && env.scope.kind == .function && env.kindOf x == some .cell)=true then .cell else k
theorem lookup_relabel {env:Env}{x:Str}:∀ {names:List (Str×NameKind)},
  (names.map fun (n,k)=>if (k == NameKind.free && env.scope.kind == .function && env.kindOf n == some .cell) then (n,NameKind.cell) else (n,k)).lookup x=(names.lookup x).map (relK env x)
 | []=>rfl
 | (n,k') :: r=>by
  have ih:=@lookup_relabel env x r
  show List.lookup x ((if (k' == NameKind.free && env.scope.kind == .function && env.kindOf n == some .cell)=true then (n,NameKind.cell) else (n,k')) :: r.map fun (n,k)=>if (k == NameKind.free && env.scope.kind == .function && env.kindOf n == some .cell) then (n,NameKind.cell) else (n,k))=_
  cases hx:x == n with
  | true=>
   have e:=beq_iff_eq.mp hx
   subst e
   rw [lk_eq (k:=k') hx]
   by_cases hc:(k' == NameKind.free && env.scope.kind == .function && env.kindOf x == some .cell)=true
   ·rw [if_pos hc,lk_eq hx]
    show some NameKind.cell=some (relK env x k')
    unfold relK;rw [if_pos hc]
   ·rw [if_neg hc,lk_eq hx]
    show some k'=some (relK env x k')
    unfold relK;rw [if_neg hc]
  | false=>
   rw [lk_ne (k:=k') (r:=r) hx]
   by_cases hc:(k' == NameKind.free && env.scope.kind == .function && env.kindOf n == some .cell)=true
   ·rw [if_pos hc,lk_ne hx];exact ih
   ·rw [if_neg hc,lk_ne hx];exact ih
theorem lookup_all {names:List (Str×NameKind)}{p:Str×NameKind→Bool}:∀ {x:Str}{k:NameKind},names.all p=true→names.lookup x=some k→p (x,k)=true:=by
 induction names with
 | nil=>intro x k _ h;simp at h
 | cons y r ih=>
  intro x k ha h
  obtain ⟨n,k'⟩:=y
  rw [List.all_cons,Bool.and_eq_true] at ha
  cases hx:x == n with
  | true=>
   rw [List.lookup_cons,hx] at h
   have e1:x=n:=beq_iff_eq.mp hx
   have e2:k'=k:=Option.some.inj h
   rw [e1,← e2];exact ha.1
  | false=>
   rw [List.lookup_cons,hx] at h
   exact ih ha.2 h
theorem compLoop_go {prog:Program}{w:World}{A:Around}{R:Result→Shared→Prop}{s:Shared}{elt target iter:Expr}{ifs:List Expr}{scope:Scope}{pos:Pos}{it acc:Value}{env:Env} (I:Nat→Shared→Prop)
  (turn:∀ n s,I n s→wpAny (model prog w) A (pyNext it) (fun r s₁=>match r with
   | none=>R (.ok .next) s₁
   | some v=>wpAny (model prog w) A (letOwnedTupleGo target it v) (fun _ s₁'=>wpAny (model prog w) A (assign target env v) (fun _ s₂=>
     wpAny (model prog w) A (forIn ifs true fun c r=>if r=true then do let ok ← isTrue c env (eval c env);pure (ForInStep.yield ok) else pure (ForInStep.yield r)) (fun ok s₃=>
      if ok=true then wpAny (model prog w) A (eval elt env) (fun x s₄=>
       wpAny (model prog w) A (call (.builtin "list.append") [acc,x]) (fun _ s₅=>∃ m,m < n∧I m s₅) (fun _ _=>False) s₄) (fun _ _=>False) s₃
      else ∃ m,m < n∧I m s₃) (fun _ _=>False) s₂) (fun _ _=>False) s₁') (fun _ _=>False) s₁) (fun _ _=>False) s)
  (n:Nat) (h:I n s):
  codeAny (model prog w) A (.compLoop (.ListComp elt [⟨target,iter,ifs,0⟩] scope pos) 0 it acc env) R s:=by
 refine codeAny_loop rfl I (fun n s hI=>?_) n h
 show wpAny _ A ((compTurn (.ListComp elt [⟨target,iter,ifs,0⟩] scope pos) 0 it acc env).onRaise (fun x=>do noteFrame x env;theTreesLotGoes x)) _ _ s
 refine wpAny_noted ?_
 rw [compTurn_list]
 refine wpAny_bind (wpAny_standAt (wpAny_bind (wpAny_mono (turn n s hI) (fun r s₁ h₁=>?_) fun _ _ h'=>h'.elim)))
 cases r with
 | none=>exact wpAny_pure h₁
 | some v=>
  refine wpAny_bind (wpAny_mono h₁ (fun _ s₁' h₁'=>?_) fun _ _ h'=>h'.elim)
  refine wpAny_bind (wpAny_mono h₁' (fun _ s₂ h₂=>wpAny_bind (wpAny_mono h₂ (fun ok s₃ h₃=>?_) fun _ _ h'=>h'.elim)) fun _ _ h'=>h'.elim)
  cases ok with
  | false=>exact wpAny_pure ⟨rfl,h₃⟩
  | true=>
   exact wpAny_bind (wpAny_bind (wpAny_mono h₃ (fun x s₄ h₄=>wpAny_bind (wpAny_mono h₄ (fun _ s₅ h₅=>wpAny_pure (wpAny_pure ⟨rfl,h₅⟩)) fun _ _ h'=>h'.elim)) fun _ _ h'=>h'.elim))
theorem pe_lc {X:Cx}{elt iter:Expr}{x:Str}{px pos:Pos}{ifs:List Expr}{scope:Scope}{cl:List (Str×Addr)}{wi:TI}{tc:TT}{te:TE}{cns:List Str} (caps:List Nat)
  (hi:PI X (.Name x px) iter wi)
  (hf:∀ C s H ex pn,PF (cxLC X scope cl (x :: cns) C s H ex pn) ifs tc) (he:∀ C s H ex pn,PE (cxLC X scope cl (x :: cns) C s H ex pn) elt te) (hc:X.calm=true)
  (hclos:closureFor scope X.env=pure cl) (hcl:AllIn X.env.cells cl) (hcap:CapOk X cns caps)
  (hkind:scope.kind=.function) (hcell:(scope.names.all fun p=>p.2 != .cell)=true) (hfree:(scope.names.all fun p=>p.2 != .free || (cl.lookup p.1).isSome)=true)
  (hcf:(cns.all fun y=>scope.names.lookup y == some .free)=true) (hnames:∀ y∈scope.names,y.2=.local→scope.names.lookup y.1=some .local) (hx:scope.names.lookup x=some .local) (hnd:(x :: cns).Nodup)
  (hs:∀ v,foldedSetIterable iter X.env v=pure v:=by intro _;rfl):
  PE X (.ListComp elt [⟨.Name x px,iter,ifs,0⟩] scope pos) (tLC wi caps tc te):=by
 intro pins s σ H Q I h
 rw [eval_ListComp]
 refine wpAny_comprehension_free (use:=none) rfl hs hclos hkind hnames (thn (hi pins s σ H _ I h) fun xv s1 h1=>thn h1 fun itv s2 h2=>?_)
 obtain ⟨it,fp,tn,J,H2,rfl,I2,T,st2,f2,W,⟨m0,w0⟩,turn⟩:=h2
 have hne:∀ y∈scope.names,y.2≠.cell:=fun y hy e=>by
  have:=List.all_eq_true.mp hcell y hy
  rw [e] at this;simp at this
 refine wpAny_newObj_type (wpAny_newFunctionEnv hne (by intro y hy;simp at hy) (fun h₁ hns₁ hsb₁=>?_) hkind)
 dsimp only at hns₁ hsb₁ ⊢
 generalize hacc:s2.heap.objs.size=acc
 generalize hH3:s2.heap.push { cls:=.type "list",dict:=none,data:=.seq ([]:List Value).toArray }=h3 at hns₁ hsb₁ ⊢
 have hC:h3.objs.size=acc + 1:=by rw [← hH3,Heap.size_push,hacc]
 have k23:∀ b o,s2.heap.get? b=some o→h3.get? b=some o:=fun b o e=>hH3 ▸ Heap.get?_push_of_some _ e
 have k34:∀ b o,h3.get? b=some o→h₁.get? b=some o:=fun b o e=>hsb₁.extBut b o (Nat.ne_of_lt (Heap.lt_size e)) (Heap.get?_push_of_some _ e)
 have oacc:h3.get? acc=some { cls:=.type "list",dict:=none,data:=.seq ([]:List Value).toArray }:=by
  rw [← hH3,← hacc];exact Heap.get?_push_size _ rfl
 have I3:Inv X pins σ H2 { s2 with heap:=h3 }:=I2.kept (t':=s2.toks) k23
 have facc:FpOk X pins H2 acc:=I2.fpOk (Nat.le_of_eq hacc) (I2.hok.fresh (Nat.le_of_eq hacc))
 have fpl:∀ b∈fp,b < acc:=fun b hb=>by
  obtain ⟨o,e,_⟩:=T.obj _ _ st2 b hb
  rw [← hacc];exact Heap.lt_size e
 have exok:∀ b∈acc :: fp,FpOk X pins H2 b:=fun b hb=>(List.mem_cons.mp hb).elim (fun e=>e ▸ facc) (f2 b)
 have exC:∀ b∈acc :: fp,b≠h3.objs.size:=fun b hb=>by
  rcases List.mem_cons.mp hb with e | hb
  ·rw [hC,e];exact Nat.ne_of_lt (Nat.lt_succ_self _)
  ·rw [hC];exact Nat.ne_of_lt (Nat.lt_succ_of_lt (fpl b hb))
 have stk_no:∀ b∈acc :: fp,b∉frs X.stack:=fun b hb hm=>by
  obtain ⟨_,g1,g2,_⟩:=exok b hb
  exact (List.mem_cons.mp (I2.stkSub b hm)).elim g1 g2
 let Y:Cx:=cxLC X scope cl (x :: cns) h3.objs.size { s2 with heap:=h3 } H2 (acc :: fp) (X.pn ++ pins)
 have cellsOf:∀ y c,cl.lookup y=some c→X.env.cells.lookup y=some c:=fun y c e=>hcl.get e
 have kindY:∀ y k,Y.env.kindOf y=some k→(k=.cell∨k=.free)→∃ c,cl.lookup y=some c:=fun y k e hk=>by
  have e0:(scope.names.lookup y).map (relK X.env y)=some k:=lookup_relabel.symm.trans e
  obtain ⟨k0,e1,e2⟩:=Option.map_eq_some_iff.mp e0
  have e3:=lookup_all hfree e1
  have e4:=lookup_all hcell e1
  by_cases hf:k0=.free
  ·subst hf
   rw [Bool.or_eq_true] at e3
   rcases e3 with e3 | e3
   ·exact absurd rfl (bne_iff_ne.mp e3)
   ·exact Option.isSome_iff_exists.mp e3
  ·exfalso
   have e5:relK X.env y k0=k0:=by
    unfold relK
    rw [if_neg]
    intro z
    rw [Bool.and_eq_true,Bool.and_eq_true] at z
    exact hf (beq_iff_eq.mp z.1.1)
   rw [e5] at e2
   subst e2
   rcases hk with rfl | rfl
   ·simp at e4
   ·exact hf rfl
 have okY:Y.Ok:={
  mod:=I2.ok.mod
  kind:=hkind
  glob:=I2.ok.glob
  blt:=I2.ok.blt
  above:=Nat.le_refl _
  inj:=fun a b c e1 e2=>I2.ok.inj a b c (cellsOf _ _ e1) (cellsOf _ _ e2)
  has:=fun y hy=>hy.elim (fun e=>kindY y _ e (.inl rfl)) (fun e=>kindY y _ e (.inr rfl))
  cab:=fun y c e=>nomatch e
  hd:=I2.ok.hd
  frames:=I2.ok.frames
  stk:=.inl rfl
  exf:=fun b hb=>⟨exC b hb,fun y c e=>(exok b hb).2.2.2.2.1 y c (cellsOf _ _ e)⟩
  bs:=fun b o e=>⟨k23 b o (I2.bs b o e).1,(I2.bs b o e).2⟩
  bsz:=by
   show X.base.objs.size≤h3.objs.size
   rw [hC,← hacc]
   exact Nat.le_succ_of_le (Nat.le_trans I2.ok.bsz I2.sz)
  noex:=fun b o e hb=>by
   rcases (exok b hb).2.2.2.1 with z | z
   ·exact I2.ok.noex b o e z
   ·exact absurd (Nat.lt_of_lt_of_le (Heap.lt_size e) (Nat.le_trans I2.ok.bsz z)) (Nat.lt_irrefl _)
  exfs:=stk_no
  funs:=I3.stack
  frf:=I3.stkFree }
 have lenN:(none :: caps.map (pick σ):L2.St).length=(x :: cns).length:=by rw [List.length_cons,List.length_cons,List.length_map,hcap.len]
 have I4:Inv Y [] (none :: caps.map (pick σ)) H2 { s2 with heap:=h₁,toks:=s2.toks + ([]:List (Str×Value)).length }:={
  ok:=okY
  os:=rfl
  bare:=I2.bare
  base:=Un.kept k34
  loc:=by
   refine ⟨_,hns₁,fun i y v e1 e2 e3=>?_⟩
   cases i with
   | zero=>simp at e2
   | succ i=>
    obtain ⟨j,j1,j2,j3⟩:=hcap.get (σ:=σ) (i:=i) (x:=y) (v:=v) (by have e1':(x :: cns)[i + 1]? =some y:=e1;simpa using e1') (by simpa using e2)
    obtain ⟨m,hn,hl⟩:=I2.loc
    obtain ⟨u,r,l⟩:=hl j y v j1 j3 (.inr (.inl j2))
    rcases l with ⟨l,_⟩ | ⟨_,c,l1,l2⟩
    ·rw [j2] at l;cases l
    ·refine ⟨u,r,.inr ?_⟩
     rcases e3 with e3 | e3 | e3
     ·exfalso
      have hm:y∈cns:=List.mem_of_getElem? (show cns[i]? =some y by have e1':(x :: cns)[i + 1]? =some y:=e1;simpa using e1')
      have hl:scope.names.lookup y=some .free:=beq_iff_eq.mp (List.all_eq_true.mp hcf y hm)
      have e0:(scope.names.lookup y).map (relK X.env y)=some .local:=lookup_relabel.symm.trans e3
      rw [hl] at e0
      have e5:relK X.env y .free=.local:=Option.some.inj e0
      unfold relK at e5
      split at e5<;>cases e5
     ·obtain ⟨c',hc'⟩:=kindY y _ e3 (.inl rfl)
      have:=cellsOf _ _ hc'
      rw [l1] at this;cases this
      exact ⟨.inl e3,c,hc',l2.keeps fun b o e=>k34 _ _ (k23 _ _ e)⟩
     ·obtain ⟨c',hc'⟩:=kindY y _ e3 (.inr rfl)
      have:=cellsOf _ _ hc'
      rw [l1] at this;cases this
      exact ⟨.inr e3,c,hc',l2.keeps fun b o e=>k34 _ _ (k23 _ _ e)⟩
  cell:=fun y c e=>by
   obtain ⟨v,z⟩:=I2.cell y c (cellsOf _ _ e)
   exact ⟨v,z.keeps fun b o e=>k34 _ _ (k23 _ _ e)⟩
  free:=I2.hok.fresh (by rw [hacc];show acc≤h3.objs.size;rw [hC];exact Nat.le_succ _)
  freeC:=fun y c e=>I2.freeC y c (cellsOf _ _ e)
  pin:=fun p hp=>by
   have hp2:p∈(X.pn ++ pins) ++ []:=hp
   have hp':p∈X.pn ++ pins:=by rw [List.append_nil] at hp2;exact hp2
   obtain ⟨p1,p2,p3,p4,p5⟩:=I2.pin p hp'
   refine ⟨k34 _ _ (k23 _ _ p1),p2,?_,fun hm=>(List.mem_cons.mp (I2.stkSub _ hm)).elim p3 p4,p5⟩
   exact Nat.ne_of_lt (by show p.1 < h3.objs.size;exact Heap.lt_size (k23 _ _ p1))
  hok:=I2.hok.kept fun b u e=>k34 _ _ (k23 _ _ e)
  len:=lenN }
 have fpY:∀ {H':Hp}{pl:List (Addr×Obj)}{b:Addr},b∈acc :: fp→H' b=none→(∀ p∈pl,p.1≠b)→FpOk Y pl H' b:=fun {H' pl b} hb hn hp=>
  ⟨hn,exC b hb,stk_no b hb,.inl hb,fun y c e=>(exok b hb).2.2.2.2.1 y c (cellsOf _ _ e),fun p hm=>(List.mem_append.mp hm).elim (fun z=>(exok b hb).2.2.2.2.2 p z) (hp p)⟩
 have fin:∀ {σ':L2.St}{H':Hp}{s':Shared}{ys:List V}{its:List Value}{kk:Nat}{pl:List (Addr×Obj)},Inv Y pl σ' H' s'→H' acc=none→Vals ys its→ys.length≤sizeLine→
   s'.heap.get? acc=some { cls:=.type "list",data:=.seq its.toArray kk }→(∀ p,H' p=none→Q (.ref p) (upd H' p (.lst ys)))→
   ∀ h',Heap.SameBut h3.objs.size s'.heap h'→EP X pins σ Q (.ref acc) { s' with heap:=h' }:=fun {σ' H' s' ys its kk pl} J ha hv hz ho hq h' hs'=>by
  have hacC:acc≠h3.objs.size:=exC acc (List.mem_cons_self)
  have keepC:∀ b o,b≠h3.objs.size→s'.heap.get? b=some o→h'.get? b=some o:=fun b o hb e=>hs'.extBut b o hb e
  have ltC:∀ b o,s2.heap.get? b=some o→b≠h3.objs.size:=fun b o e=>Nat.ne_of_lt (Heap.lt_size (k23 b o e))
  have hCfree:H' h3.objs.size=none:=J.free
  have un:Un (frs X.stack) (acc :: fp) H2 H' s2.heap h':={
   keep:=fun b o e n hb hx=>keepC b o (ltC b o e) (J.base.keep b o (k23 b o e) n hb hx)
   slot:=fun b o e n hb hx=>by
    obtain ⟨sl,q⟩:=J.base.slot b o (k23 b o e) n hb hx
    exact ⟨sl,keepC b _ (ltC b o e) q⟩
   free:=fun b o e n hx=>J.base.free b o (k23 b o e) n hx
   there:=fun b o e hx=>by
    obtain ⟨o',q⟩:=J.base.there b o (k23 b o e) hx
    exact ⟨o',keepC b o' (ltC b o e) q⟩
   tups:=J.base.tups
   frzs:=J.base.frzs
   tbls:=J.base.tbls }
  have hok:HOk X.prog X.w H' h':=fun b u e=>by
   refine (J.hok b u e).stay (fun c v hc q=>keepC c v ?_ q) (fun _ q=>q) fun _ _ q=>q
   rintro rfl
   rcases hc with rfl | hc
   ·rw [hCfree] at e;cases e
   ·rw [hCfree] at hc;cases hc
  have I5:Inv X pins σ H' { s' with heap:=h' }:=I2.call' (ch:=acc :: fp) J.os un hok J.bare fun b hb=>by
   obtain ⟨g0,g1,g2,g3,g4,g5⟩:=exok b hb
   exact ⟨g3,g1,g4,g5⟩
  refine ⟨.ref acc,_,adopt (acc:=acc) I5 ?_ (keepC _ _ hacC ho) hv hz,rfl,hq acc ha⟩
  obtain ⟨g0,g1,g2,g3,g4,g5⟩:=facc
  exact ⟨ha,g1,g2,g3,g4,g5⟩
 have loop:codeAny (model X.prog X.w) X.A (.compLoop (.ListComp elt [⟨.Name x px,iter,ifs,0⟩] scope pos) 0 (.ref it) (.ref acc) Y.env) (compPost (model X.prog X.w) X.A X.xe none (EP X pins σ Q) (.ref acc) h3.objs.size)
   { s2 with heap:=h₁,toks:=s2.toks + ([]:List (Str×Value)).length }:=by
  refine compLoop_go (fun n s'=>∃ (i:Nat) (v:Option V) (ys:List V) (its:List Value) (kk:Nat) (H':Hp),Inv Y [] (v :: caps.map (pick σ)) H' s'∧tn i s'.heap∧(∀ b∈fp,H' b=none)∧H' acc=none∧Vals ys its∧ys.length≤sizeLine∧
   s'.heap.get? acc=some { cls:=.type "list",data:=.seq its.toArray kk }∧W i n ys H') ?_ m0 ⟨0,none,[],[],0,H2,I4,T.keep _ _ _ st2 (fun b _ o e=>k34 _ _ (k23 _ _ e)),fun b hb=>(f2 b hb).1,facc.1,.nil,Nat.zero_le _,k34 _ _ oacc,w0⟩
  rintro n s5 ⟨i,v,ys,its,kk,H5,I5,st5,fr5,ha5,hv5,hz5,ho5,w5⟩
  have pinA:Inv Y [(acc,{ cls:=.type "list",data:=.seq its.toArray kk })] (v :: caps.map (pick σ)) H5 s5:=I5.pins_of fun p hp=>by
   have e:p=(acc,{ cls:=.type "list",data:=.seq its.toArray kk }):=by simpa using hp
   subst e
   exact ⟨ho5,ha5,exC acc List.mem_cons_self,stk_no acc List.mem_cons_self,fun v=>by intro z;cases z⟩
  have fpA:∀ {H':Hp},(∀ b∈fp,H' b=none)→∀ b∈fp,FpOk Y [(acc,{ cls:=.type "list",data:=.seq its.toArray kk })] H' b:=fun hn b hb=>fpY (List.mem_cons_of_mem _ hb) (hn b hb) fun p hp=>by
   have e:p=(acc,{ cls:=.type "list",data:=.seq its.toArray kk }):=by simpa using hp
   subst e
   exact (Nat.ne_of_lt (fpl b hb)).symm
  rcases turn i n ys H5 w5 with ⟨stop,qn⟩ | ⟨go,hlt,step⟩
  ·refine thn (T.done Y rfl rfl rfl hc i _ s5 _ H5 (fun _ _=>False) pinA (fpA fr5) st5 stop) fun r s6 ⟨hr,I6⟩=>?_
   subst hr
   obtain ⟨m,hm,_⟩:=I6.loc
   have ho6:=(I6.pin (acc,{ cls:=.type "list",data:=.seq its.toArray kk }) (List.mem_append_right _ List.mem_cons_self)).1
   exact ⟨m,hm,fin I6 ha5 hv5 hz5 ho6 qn⟩
  ·refine thn (T.item Y rfl rfl rfl hc i _ s5 _ H5 (fun _ _=>False) pinA (fpA fr5) st5 go) fun r s6 ⟨u,hr,h6⟩=>?_
   subst hr
   refine thn h6 fun _ s7 ⟨z,H7,I7,r7,y7,st7,fr7⟩=>?_
   have I7':=I7.pinned (fpA fr7) (T.obj _ _ st7)
   have pg:PG Y (.Name x px) (gName 0):=pg_name hnd rfl (.inl (lookup_relabel_local hx)) (.inr (lookup_relabel_local hx))
   refine thn (pg _ s7 _ H7 z u (fun σ2 H2'=>σ2=some z :: caps.map (pick σ)∧H2'=H7) I7' r7 ⟨rfl,rfl⟩) fun _ s8 ⟨σ8,H8,I8,e8,e8'⟩=>?_
   subst e8 e8'
   refine thn (hf _ _ _ _ _ _ s8 _ H8 _ I8 (step z H8 y7)) fun ok s9 ⟨H9,I9,q9⟩=>?_
   have stat:∀ {H':Hp}{s':Shared}{σ':L2.St},Inv Y ([(acc,{ cls:=.type "list",data:=.seq its.toArray kk })] ++ pinsAt fp s7.heap) σ' H' s'→tn (i + 1) s'.heap∧(∀ b∈fp,H' b=none)∧H' acc=none∧s'.heap.get? acc=some { cls:=.type "list",data:=.seq its.toArray kk }:=fun {H' s' σ'} J=>by
    have pa:=J.pin (acc,{ cls:=.type "list",data:=.seq its.toArray kk }) (List.mem_append_right _ (List.mem_append_left _ List.mem_cons_self))
    refine ⟨T.keep _ _ _ st7 fun b hb o e=>(J.pin (b,o) (List.mem_append_right _ (List.mem_append_right _ (mem_pinsAt hb e)))).1,fun b hb=>?_,pa.2.1,pa.1⟩
    obtain ⟨o,e,d⟩:=T.obj _ _ st7 b hb
    exact (J.pin (b,o) (List.mem_append_right _ (List.mem_append_right _ (mem_pinsAt hb e)))).2.1
   have nopin:∀ {H':Hp}{s':Shared}{σ':L2.St}{pl:List (Addr×Obj)},Inv Y pl σ' H' s'→Inv Y [] σ' H' s':=fun J=>J.pins_of fun p hp=>nomatch hp
   cases ok with
   | false=>
    obtain ⟨m',hm,w9⟩:=q9
    obtain ⟨t1,t2,t3,t4⟩:=stat I9
    exact ⟨m',hm,i + 1,some z,ys,its,kk,H9,nopin I9,t1,t2,t3,hv5,hz5,t4,w9⟩
   | true=>
    show wpAny _ _ (eval elt Y.env) _ _ s9
    refine thn (he _ _ _ _ _ _ s9 _ H9 _ I9 q9) fun y s10 ⟨yv,H10,I10,r10,m',hm,w10⟩=>?_
    obtain ⟨t1,t2,t3,t4⟩:=stat I10
    have I10':Inv Y (pinsAt fp s7.heap) (some z :: caps.map (pick σ)) H10 s10:=I10.pins_of fun p hp=>I10.pin p (List.mem_append_right _ (List.mem_append_right _ hp))
    have fA:FpOk Y (pinsAt fp s7.heap) H10 acc:=fpY List.mem_cons_self t3 fun p hp=>Nat.ne_of_lt (fpl _ (of_pinsAt hp).1)
    have Ja:=adopt I10' fA t4 hv5 hz5
    refine thn (mt_append (X:=Y) _ s10 _ _ (.ref acc) [yv] (.ref acc) [y] (fun _ H'=>H'=upd (upd H10 acc (.lst ys)) acc (.lst (ys ++ [yv]))) Ja rfl (.cons r10 .nil) ⟨acc,ys,yv,rfl,rfl,upd_same,hlt,rfl⟩) fun _ s11 ⟨_,H11,I11,_,e11⟩=>?_
    rw [upd_upd] at e11
    subst e11
    obtain ⟨hz11,its',kk',hv11,ho11⟩:=I11.hok acc _ upd_same
    have Jd:=disown I11 fA
    have st11:tn (i + 1) s11.heap:=T.keep _ _ _ st7 fun b hb o e=>(Jd.pin (b,o) (List.mem_append_right _ (mem_pinsAt hb e))).1
    exact ⟨m',hm,i + 1,some z,ys ++ [yv],its',kk',H10,nopin Jd,st11,t2,t3,hv11,hz11,ho11,w10⟩
 exact codeAny_compStart_list loop (T.self X.A 0 _ _ _ (T.keep _ _ _ st2 (fun b _ o e=>k34 _ _ (k23 _ _ e))) loop)
end G
namespace G
open PySem L2 PySem.Spec PyProof.Rows
theorem obj_there {P:Program}{w:World}{H:Hp}{h:Heap}{a:Addr}{o:HO} (x:ObjOk P w H h a o):∃ ob,h.get? a=some ob:=by
 induction o with
 | lst xs=>obtain ⟨_,_,_,_,e⟩:=x;exact ⟨_,e⟩
 | tup xs=>obtain ⟨_,_,_,ob,e,_⟩:=x;exact ⟨ob,e⟩
 | dK kvs=>obtain ⟨_,_,_,_,ob,_,_,e,_⟩:=x;exact ⟨ob,e⟩
 | dT kvs=>obtain ⟨_,_,_,_,ob,_,_,e,_⟩:=x;exact ⟨ob,e⟩
 | set S n=>obtain ⟨ob,_,_,_,e,_⟩:=x;exact ⟨ob,e⟩
 | ins C dx fs=>obtain ⟨_,_,_,e,_⟩:=x;exact ⟨_,e⟩
 | own y=>exact x
 | xd fs=>obtain ⟨_,⟨ob,_,_,e,_⟩,_⟩:=x;exact ⟨ob,e⟩
 | rng lo hi=>obtain ⟨_,_,_,e⟩:=x;exact ⟨_,e⟩
 | frz ob u ih=>exact ⟨_,x.1⟩
 | tbl ps=>exact ⟨_,x⟩
 | met f y=>exact ⟨_,x⟩
 | ext φ=>obtain ⟨_,e,_⟩:=x;exact e
theorem un_step {P:Program}{w:World}{fs:List Addr}{H0 H1:Hp}{h0 h1 h2:Heap} (u:Un fs [] H0 H1 h0 h1) (ok:HOk P w H1 h1) (fr:∀ b∈fs,H1 b=none)
  (kp:∀ b o,h1.get? b=some o→((∃ v,h0.get? b=some v)∨∃ v,H1 b=some v)→b∉fs→h2.get? b=some o) (sl:∀ b o,h1.get? b=some o→b∈fs→∃ z,h2.get? b=some { o with slots:=z }):
  Un fs [] H0 H1 h0 h2∧HOk P w H1 h2:=by
 refine ⟨⟨fun b o e n hb hx=>kp b o (u.keep b o e n hb hx) (.inl ⟨o,e⟩) hb,fun b o e n hb hx=>?_,u.free,fun b o e hx=>?_,u.tups,u.frzs,u.tbls⟩,fun a o e=>?_⟩
 ·obtain ⟨z,e1⟩:=u.slot b o e n hb hx
  obtain ⟨z2,e2⟩:=sl b _ e1 hb
  exact ⟨z2,e2⟩
 ·obtain ⟨o',e1⟩:=u.there b o e hx
  by_cases hb:b∈fs
  ·obtain ⟨z,e2⟩:=sl b _ e1 hb
   exact ⟨_,e2⟩
  ·exact ⟨o',kp b o' e1 (.inl ⟨o,e⟩) hb⟩
 ·refine (ok a o e).stay (fun b v hb q=>?_) (fun _ q=>q) fun _ _ q=>q
  have hs:∃ v,H1 b=some v:=by
   rcases hb with z | z
   ·exact ⟨o,by rw [z];exact e⟩
   ·exact ⟨_,z⟩
  refine kp b v q (.inr hs) fun z=>?_
  obtain ⟨v',e'⟩:=hs
  rw [fr b z] at e';cases e'
def CXe (P:Program) (w:World):CXT:=fun outer H s E e s'=>
 ∃ (ea:Addr) (cls a0:Value) (B:Heap) (H':Hp),e=.ref ea∧s'.os=s.os∧AllBare s'.gens∧Un (frs outer) [] H H' s.heap s'.heap∧HOk P w H' s'.heap∧Heap.FlyingW B outer ea cls a0 s'.heap∧
  (∀ b o,s'.heap.get? b=some o→((∃ v,s.heap.get? b=some v)∨∃ v,H' b=some v)→b∉frs outer→B.get? b=some o)∧E cls none H'
theorem Zai {P:Program}{w:World}{X:Cx}:Passes (CXe P w) X E0:=fun _ _ _ _ _ _ _ h=>by
 obtain ⟨_,_,_,_,_,_,_,_,_,_,_,_,z⟩:=h
 exact z.elim
section
variable {P:Program}{w:World}{K:PySem.W.Frag}{mg:Str→Option Value}{base:Heap}{N:List Str}{qual:Str}{scope:Scope}{f:Addr}{cd:Value}{A:Around}{outer:List Env}{s:Shared}{H:Hp}{E:XK}
theorem passL:Passes (CXe P w) (cxOf (CXe P w) P w K mg base N qual scope f cd A outer s H E) E:=by
 intro pins σ H1 s1 e s2 I h
 obtain ⟨ea,cls,a0,B,H2,rfl,os,bare,un,ok,fl,hB,hE⟩:=h
 have J:Inv (cxOf (CXe P w) P w K mg base N qual scope f cd A outer s H E) pins σ H2 s2:=I.call' os un ok bare (fun b z=>nomatch z)
 have L0:∀ b o,s.heap.get? b=some o→b≠(envOfC qual scope s.heap.objs.size f cd).locals:=fun b o e=>Nat.ne_of_lt (Nat.lt_of_lt_of_le (Heap.lt_size e) I.ok.above)
 have nin:∀ b,((∃ v,s.heap.get? b=some v)∨∃ v,H2 b=some v)→b∉frs outer→b∉frs (envOfC qual scope s.heap.objs.size f cd :: outer):=fun b hb hn hm=>by
  rcases List.mem_cons.mp (J.stkSub b hm) with z | z
  ·rcases hb with ⟨v,e⟩ | ⟨v,e⟩
   ·exact L0 b v e z
   ·rw [z] at e
    have:=J.free
    rw [e] at this;cases this
  ·exact hn z
 have was:∀ b,((∃ v,s.heap.get? b=some v)∨∃ v,H2 b=some v)→(∃ v,s1.heap.get? b=some v)∨∃ v,H2 b=some v:=fun b hb=>by
  rcases hb with ⟨v,e⟩ | hb
  ·exact .inl (I.base.there b v e (fun z=>nomatch z))
  ·exact .inr hb
 refine wpAny_leaves_onW I.ok.frames rfl fl fun h' fl' sm=>?_
 have dat:∀ b o,s2.heap.get? b=some o→b∈frs outer→∀ vs,o.data≠.fields vs:=fun b o e hb=>by
  obtain ⟨_,o',ho',hd⟩:=J.funs.mem hb
  rw [e] at ho';cases ho';exact hd
 have inB:∀ b o,s2.heap.get? b=some o→((∃ v,s.heap.get? b=some v)∨∃ v,H2 b=some v)→b∉frs outer→B.get? b=some o:=fun b o e hb hn=>hB b o e (was b hb) (nin b hb hn)
 have U:=un_step (P:=P) (w:=w) (h2:=h') J.base J.hok (fun b hb=>by
   obtain ⟨_,o,ho,_⟩:=J.ok.funs.mem hb
   exact J.base.free b o ho (J.ok.frf b hb) (fun z=>nomatch z)) (fun b o e hb hn=>fl'.1 _ _ (inB b o e hb hn)) fun b o e hb=>sm b o e (dat b o e hb)
 refine ⟨ea,cls,a0,B,H2,rfl,J.os,J.bare,U.1,U.2,fl',fun b o e hb hn=>?_,hE⟩
 have there:∃ v,s2.heap.get? b=some v:=by
  rcases hb with ⟨v,z⟩ | ⟨v,z⟩
  ·exact J.base.there b v z (fun z=>nomatch z)
  ·exact obj_there (J.hok b v z)
 obtain ⟨v,z⟩:=there
 have q:=inB b v z hb hn
 have:=fl'.1 _ _ q
 rw [e] at this;cases this
 exact q
theorem raiseL {pins:List (Addr×Obj)}{σ:L2.St}{H1:Hp}{s1:Shared}{C e:Addr}{vs:List Value}{h1:Heap} (I:Inv (cxOf (CXe P w) P w K mg base N qual scope f cd A outer s H E) pins σ H1 s1)
  (hx:Heap.MadeExcOf s1.heap h1 e (.ref C) vs) (hE:E (.ref C) none H1):(cxOf (CXe P w) P w K mg base N qual scope f cd A outer s H E).xe (.ref e) { s1 with heap:=h1 }:=by
 have L0:∀ b o,s.heap.get? b=some o→b≠(envOfC qual scope s.heap.objs.size f cd).locals:=fun b o e=>Nat.ne_of_lt (Nat.lt_of_lt_of_le (Heap.lt_size e) I.ok.above)
 have nin:∀ b,((∃ v,s.heap.get? b=some v)∨∃ v,H1 b=some v)→b∉frs outer→b∉frs (envOfC qual scope s.heap.objs.size f cd :: outer):=fun b hb hn hm=>by
  rcases List.mem_cons.mp (I.stkSub b hm) with z | z
  ·rcases hb with ⟨v,e⟩ | ⟨v,e⟩
   ·exact L0 b v e z
   ·rw [z] at e
    have:=I.free
    rw [e] at this;cases this
  ·exact hn z
 have fh:s1.heap.FunFrames (PySem.W.hideAll s1.heap (frs (envOfC qual scope s.heap.objs.size f cd :: outer))) (envOfC qual scope s.heap.objs.size f cd :: outer):=
  PySem.W.funFrames_hide I.stack fun env he b hb=>List.mem_filterMap.mpr ⟨env,he,hb⟩
 refine wpAny_leaves_madeW (s:={ s1 with heap:=h1 }) I.ok.frames rfl (fun b o q=>PySem.W.of_hideAll _ q) fh hx fun h' t fl _ _ sm=>?_
 have inB:∀ b o,s1.heap.get? b=some o→((∃ v,s.heap.get? b=some v)∨∃ v,H1 b=some v)→b∉frs outer→(PySem.W.hideAll s1.heap (frs (envOfC qual scope s.heap.objs.size f cd :: outer))).get? b=some o:=
  fun b o e hb hn=>PySem.W.hideAll_get _ e (nin b hb hn)
 have dat:∀ b o,s1.heap.get? b=some o→b∈frs outer→∀ vs,o.data≠.fields vs:=fun b o e hb=>by
  obtain ⟨_,o',ho',hd⟩:=I.funs.mem hb
  rw [e] at ho';cases ho';exact hd
 have U:=un_step (P:=P) (w:=w) (h2:=h') I.base I.hok (fun b hb=>by
   obtain ⟨_,o,ho,_⟩:=I.ok.funs.mem hb
   exact I.base.free b o ho (I.ok.frf b hb) (fun z=>nomatch z)) (fun b o e hb hn=>fl.1 _ _ (inB b o e hb hn)) fun b o e hb=>sm b o (hx.keeps b o e) (dat b o e hb)
 refine ⟨e,.ref C,.ref t,_,H1,rfl,I.os,I.bare,U.1,U.2,fl,fun b o q hb hn=>?_,hE⟩
 have there:∃ v,s1.heap.get? b=some v:=by
  rcases hb with ⟨v,z⟩ | ⟨v,z⟩
  ·exact I.base.there b v z (fun z=>nomatch z)
  ·exact obj_there (I.hok b v z)
 obtain ⟨v,z⟩:=there
 have q2:=inB b v z hb hn
 have:=fl.1 _ _ q2
 rw [q] at this;cases this
 exact q2
end
abbrev ExcK (K:PySem.W.Frag) (C:Addr):Prop:=PySem.W.excIn K C [.type "ValueError",.type "Exception",.type "BaseException",.type "object"] "ValueError.__new__"=true
theorem exc_obj {K:PySem.W.Frag}{h:Heap}{C:Addr}{ms:List Value}{ni:String} (X:K.In h) (q:PySem.W.excIn K C ms ni=true):
  ∃ tl N nm ql bs hd sn sub ab col dd j0 j1 j2 j3 j5 mN,h.get? C=some (excClassObj nm ql C N bs tl hd sn sub ab col dd j0 j1 j2 j3 j5 ni)∧h.Ns N mN∧mN "__init__"=none∧OwnTail h ms tl:=by
 unfold PySem.W.excIn at q
 split at q
 ·rename_i dd cdat slots hob
  split at q
  ·rename_i C2 tl j0 j1 j2 j3 n2 j5 em es
   simp only [Bool.and_eq_true,beq_iff_eq,Bool.not_eq_true'] at q
   obtain ⟨⟨⟨⟨⟨e1,e2⟩,e3⟩,e4⟩,e5⟩,e6⟩:=q
   subst e1 e2
   obtain ⟨c1,c2,c3,c4,c5,c6,c7,c8,c9,c10,c11⟩:=cdat
   dsimp only at em e3 e5 e6
   subst em e3
   have eslots:slots=#[j0,j1,j2,j3,some (.builtin n2),j5]:=by
    obtain ⟨ls⟩:=slots
    simp only at es
    rw [es]
   subst eslots
   refine ⟨tl,c4,c1,c5,c2,c6,c7,c8,c9,c10,dd,j0,j1,j2,j3,j5,h.nsMap c4,X _ _ hob,?_,PySem.W.nsMap_none_of_in X e5 e6,PySem.W.tail_of_in X e4⟩
   exact .of_isNs (PySem.W.isNs_of_in X e5)
  ·cases q
 ·cases q
section
variable {X:Cx}{x:Str}{C:Addr}{np cpos pos:Pos}{e:Expr}{es:List Expr}{ta:TA}{E:XK}
theorem ps_raise (hc:X.calm=true) (hg:Gl X x) (hm:X.mg x=some (.ref C)) (hx:ExcK X.K C) (ha:PA X (e :: es) ta)
  (hE:∀ (pins:List (Addr×Obj)) (σ:L2.St) (H:Hp) (s:Shared) (ea:Addr) (vs:List Value) (h1:Heap),Inv X pins σ H s→Heap.MadeExcOf s.heap h1 ea (.ref C) vs→E (.ref C) none H→X.xe (.ref ea) { s with heap:=h1 })
  (hs:starEach (e :: es) X.env=(false,eval e X.env) :: starEach es X.env:=by rfl) (hpl:(backTo cpos (starEach es X.env)).any (·.1)=false:=by rfl) (hd:(x == ("__debug__":Str))=false:=by decide):
  PS X (.Raise (some (.Call (.Name x np) (e :: es) [] cpos)) none pos) (tRaise C E ta):=by
 intro pins s σ H D I h
 obtain ⟨tl,N,nm,ql,bs,hdd,sn,sub,ab,col,dd,j0,j1,j2,j3,j5,mN,hC,hN,hni,T⟩:=exc_obj I.ok.mod.kin hx
 refine wpAny_Raise_call_subT (C:=C) (nm:=nm) (q:=ql) (N:=N) (bs:=bs) (bm:=tl) (hdct:=hdd) (sn:=sn) (sub:=sub) (ab:=ab) (col:=col) (dd:=dd) (k0:=j0) (k1:=j1) (k2:=j2) (k3:=j3) (k5:=j5) PySem.F.excBase_ValueError (mN:=mN)
  (T.hasType PySem.F.excBase_ValueError.hasBase) (I.ok.hd hc) ?_ hni (ld_glob I hg hm ⟨rfl,?_⟩ hd)
 ·rw [hs]
  show (false || (backTo cpos (starEach es X.env)).any (·.1))=false
  rw [hpl];rfl
 ·have q:=ha cpos pins s σ H _ I h
  rw [hs] at q ⊢
  refine Calls.evalArgs_plain (thn q fun us s1 ⟨vs,H1,I1,r,l1,hE1⟩=>⟨rfl,?_,I1.bk _ _ hC,hN.keeps I1.bk,T.keeps I1.bk,fun h1 ea hmade=>hE pins σ H1 s1 ea _ h1 I1 hmade hE1⟩)
  rw [← r.length]
  exact Nat.le_trans l1 (by decide)
end
end G
namespace G
open PySem L2 PySem.Spec PyProof.Rows
def PassX (CX:CXT) (X:Cx) (E:L2.St→XK):Prop:=∀ (pins:List (Addr×Obj)) (σ:L2.St) (H:Hp) (s:Shared) (e:Value) (s':Shared),Inv X pins σ H s→CX X.stack H s (E σ) e s'→X.xe e s'
section
variable {X:Cx}{CX:CXT}{k:Nat}{f C:Addr}{fd:FuncData}{ps:List Str}{sp:Sp}{dvs:List V}{ds:List Value}{E:L2.St→XK}{x m:Str}{p pos apos:Pos}{e o:Expr}{es:List Expr}{ta:TE}{t:TA}
theorem run_fnX {pins:List (Addr×Obj)}{σ:L2.St}{H:Hp}{s:Shared}{Q:VK}{us:List Value}{vs:List V} (F:FnOk X.prog X.w X.K X.mg X.base CX k f fd ps sp) (hr:Room k X.A) (hb:Binds X.K fd ps ds) (hd:Vals dvs ds) (hx:PassX CX X E)
  (I:Inv X pins σ H s) (r:Vals vs us) (h:sp (vs ++ dvs) H Q (E σ)):wpAny (model X.prog X.w) X.A (call (.ref f) us) (EP X pins σ Q) X.xe s:=by
 have r2:Vals (vs ++ dvs) (us ++ ds):=r.append hd
 have hl:(us ++ ds).length=ps.length:=by rw [← r2.length];exact F.len _ _ _ _ h
 refine wpAny_call (codeAny_mono (F.run X.A X.stack s H ⟨us,[]⟩ (us ++ ds) (vs ++ dvs) Q (E σ) hr I.env0 (hb s us I.kIn hl) r2 h) fun r s' hq=>?_)
 cases r with
 | error e=>exact hx pins σ H s e s' I hq
 | ok fl=>
  cases fl with
  | ret u=>exact I.after hq
  | next=>exact False.elim hq
  | brk=>exact False.elim hq
  | cont=>exact False.elim hq
theorem pe_callX (F:FnOk X.prog X.w X.K X.mg X.base CX k f fd ps sp) (hr:Room k X.A) (hg:Gl X x) (hm:X.mg x=some (.ref f)) (hk:PySem.W.keepIn X.K (.ref f)=true) (hb:Binds X.K fd ps ds) (hd:Vals dvs ds) (hx:PassX CX X E)
  (ha:PA X (e :: es) t) (hdb:(x == ("__debug__":Str))=false:=by decide) (he:starEach (e :: es) X.env=(false,eval e X.env) :: starEach es X.env:=by rfl) (hpl:(backTo pos (starEach es X.env)).any (·.1)=false:=by rfl):
  PE X (.Call (.Name x p) (e :: es) [] pos) (tCallX sp dvs E t):=by
 intro pins s σ H Q I h
 refine wpAny_Call_Name_kw (ld_glob I hg hm ?_ hdb)
 refine PySem.W.callWith_K (h₀:=X.base) I.ok.mod.kin hk (thn (ha pos pins s σ H _ I h) fun us s1 ⟨vs,H1,I1,r,q⟩=>⟨I1.kIn,?_⟩) he hpl
 exact run_fnX F hr hb hd hx I1 r q
end
abbrev cxB (X:Cx) (pn:List (Addr×Obj)) (xe:Value→Shared→Prop):Cx:={ X with pn:=pn,xe:=xe }
abbrev cxH (X:Cx) (ea:Value) (pn:List (Addr×Obj)):Cx:={ X with A:=X.A.mark (some ea),calm:=false,pn:=pn,xe:=fun _ _=>False }
section
variable {X:Cx}{pins:List (Addr×Obj)}{σ:L2.St}{H:Hp}{s:Shared}
theorem ok_cxB (ok:X.Ok) (pn:List (Addr×Obj)) (xe:Value→Shared→Prop):(cxB X pn xe).Ok:=
 ⟨ok.mod,ok.kind,ok.glob,ok.blt,ok.above,ok.inj,ok.has,ok.cab,ok.hd,ok.frames,ok.stk,ok.exf,ok.bs,ok.bsz,ok.noex,ok.exfs,ok.funs,ok.frf⟩
theorem ok_cxH (ok:X.Ok) (ea:Value) (pn:List (Addr×Obj)):(cxH X ea pn).Ok:=
 ⟨ok.mod,ok.kind,ok.glob,ok.blt,ok.above,ok.inj,ok.has,ok.cab,fun z=>(nomatch z),ok.frames,ok.stk,ok.exf,ok.bs,ok.bsz,ok.noex,ok.exfs,ok.funs,ok.frf⟩
theorem to_cxB (I:Inv X pins σ H s) (xe:Value→Shared→Prop):Inv (cxB X (X.pn ++ pins) xe) [] σ H s:=
 ⟨ok_cxB I.ok _ _,I.os,I.bare,I.base,I.loc,I.cell,I.free,I.freeC,fun p hp=>I.pin p (by simpa using hp),I.hok,I.len⟩
theorem of_cxB {xe:Value→Shared→Prop}{pl:List (Addr×Obj)} (ok:X.Ok) (I:Inv (cxB X (X.pn ++ pins) xe) pl σ H s):Inv X pins σ H s:=
 ⟨ok,I.os,I.bare,I.base,I.loc,I.cell,I.free,I.freeC,fun p hp=>I.pin p (List.mem_append_left _ hp),I.hok,I.len⟩
theorem to_cxH (I:Inv X pins σ H s) (ea:Value):Inv (cxH X ea (X.pn ++ pins)) [] σ H s:=
 ⟨ok_cxH I.ok _ _,I.os,I.bare,I.base,I.loc,I.cell,I.free,I.freeC,fun p hp=>I.pin p (by simpa using hp),I.hok,I.len⟩
theorem of_cxH {ea:Value}{pl:List (Addr×Obj)} (ok:X.Ok) (I:Inv (cxH X ea (X.pn ++ pins)) pl σ H s):Inv X pins σ H s:=
 ⟨ok,I.os,I.bare,I.base,I.loc,I.cell,I.free,I.freeC,fun p hp=>I.pin p (List.mem_append_left _ hp),I.hok,I.len⟩
theorem sp_cxB {xe:Value→Shared→Prop}{D:Ends}{f:Flow} (ok:X.Ok) (h:SP (cxB X (X.pn ++ pins) xe) [] D f s):SP X pins D f s:=by
 cases f with
 | next=>obtain ⟨σ',H',I,q⟩:=h;exact ⟨σ',H',of_cxB ok I,q⟩
 | brk=>obtain ⟨σ',H',I,q⟩:=h;exact ⟨σ',H',of_cxB ok I,q⟩
 | cont=>obtain ⟨σ',H',I,q⟩:=h;exact ⟨σ',H',of_cxB ok I,q⟩
 | ret u=>obtain ⟨v,σ',H',I,r,q⟩:=h;exact ⟨v,σ',H',of_cxB ok I,r,q⟩
theorem sp_cxH {ea:Value}{D:Ends}{f:Flow} (ok:X.Ok) (h:SP (cxH X ea (X.pn ++ pins)) [] D f s):SP X pins D f s:=by
 cases f with
 | next=>obtain ⟨σ',H',I,q⟩:=h;exact ⟨σ',H',of_cxH ok I,q⟩
 | brk=>obtain ⟨σ',H',I,q⟩:=h;exact ⟨σ',H',of_cxH ok I,q⟩
 | cont=>obtain ⟨σ',H',I,q⟩:=h;exact ⟨σ',H',of_cxH ok I,q⟩
 | ret u=>obtain ⟨v,σ',H',I,r,q⟩:=h;exact ⟨v,σ',H',of_cxH ok I,r,q⟩
theorem flown {ea:Addr}{cls a0:Value}{B:Heap}{H2:Hp}{s2:Shared}{h3:Heap} (I:Inv X pins σ H s) (os:s2.os=s.os) (bare:AllBare s2.gens) (un:Un (frs X.stack) [] H H2 s.heap s2.heap) (ok:HOk X.prog X.w H2 s2.heap)
  (fl:Heap.FlyingW B X.stack ea cls a0 s2.heap) (hB:∀ b o,s2.heap.get? b=some o→((∃ v,s.heap.get? b=some v)∨∃ v,H2 b=some v)→b∉frs X.stack→B.get? b=some o)
  (st:B.StaysIn h3) (sm:s2.heap.UpToSlots h3):Inv X pins σ H2 { s2 with heap:=h3 }:=by
 have fr:∀ b∈frs X.stack,H2 b=none:=fun b hb=>by
  obtain ⟨_,o,ho,_⟩:=I.stack.mem hb
  exact un.free b o ho (I.stkFree b hb) (fun z=>nomatch z)
 have U:=un_step (P:=X.prog) (w:=X.w) (h2:=h3) un ok fr (fun b o e hb hn=>st _ _ (hB b o e hb hn)) fun b o e hb=>by
  obtain ⟨_,o',ho',hd⟩:=fl.2.2.1.mem hb
  rw [e] at ho';cases ho'
  exact sm b o e hd
 exact I.call' (s':={ s2 with heap:=h3 }) (ch:=[]) os U.1 U.2 bare (fun b z=>nomatch z)
end
section
variable {X:Cx}{x:Str}{C:Addr}{np pos hpos:Pos}{body suite:List Stmt}{b₀:Stmt}{Mt:Value→Prop}{tb:(L2.St→XK)→TS}{th:TS}
theorem adoptX {pins:List (Addr×Obj)}{σ:L2.St}{H:Hp}{s:Shared}{ea:Addr}{o:HO} (I:Inv X pins σ H s) (h0:H ea=none) (hn:X.s₀.heap.get? ea=none) (hl:ea≠X.env.locals) (hc:∀ y c,X.env.cells.lookup y=some c→c≠ea)
  (hp:∀ p∈X.pn ++ pins,p.1≠ea) (ok:ObjOk X.prog X.w (upd H ea o) s.heap ea o):Inv X pins σ (upd H ea o) s:=by
 have ne:∀ b u,H b=some u→b≠ea:=fun b u e=>ne_of_none e h0
 refine ⟨I.ok,I.os,I.bare,⟨I.base.keep,I.base.slot,fun b u e n hx=>?_,I.base.there,fun b xs e=>?_,fun b u xs e=>?_,fun b ps e=>?_⟩,I.loc,I.cell,?_,fun y c e=>?_,fun p hm=>?_,fun b u e=>?_,I.len⟩
 ·have:b≠ea:=fun z=>by rw [z,hn] at e;cases e
  rw [upd_ne this];exact I.base.free b u e n hx
 ·have:=I.base.tups b xs e
  rw [upd_ne (ne _ _ this)];exact this
 ·have:=I.base.frzs b u xs e
  rw [upd_ne (ne _ _ this)];exact this
 ·obtain ⟨more,this⟩:=I.base.tbls b ps e
  exact ⟨more,by rw [upd_ne (ne _ _ this)];exact this⟩
 ·rw [upd_ne hl.symm];exact I.free
 ·rw [upd_ne (hc y c e)];exact I.freeC y c e
 ·obtain ⟨p1,p2,p3⟩:=I.pin p hm
  exact ⟨p1,by rw [upd_ne (hp p hm)];exact p2,p3⟩
 ·by_cases z:b=ea
  ·subst z;rw [upd_same] at e;cases e;exact ok
  ·rw [upd_ne z] at e
   exact (I.hok b u e).stay (fun _ _ _ q=>q) (fun c q=>by rw [upd_ne (ne _ _ q)];exact q) fun c xs q=>by rw [upd_ne (ne _ _ q)];exact q
theorem gone_ok {pins:List (Addr×Obj)}{σ:L2.St}{H:Hp}{s:Shared}{i:Nat}{x:Str}{pos:Pos}{M:Model}{A:Around}{E:Value→Shared→Prop}{Q:Unit→Shared→Prop} (I:Inv X pins σ H s) (hN:X.N.Nodup) (hi:X.N[i]? =some x) (hk:X.env.scope.names.lookup x=some .local)
  (h:∀ s',Inv X pins (σ.set i none) H s'→Q () s'):wpAny M A (do bindName X.env x .none;unbindBehindTheSuite X.env x pos) Q E s:=by
 obtain ⟨m,hn,hl⟩:=id I.loc
 have hcls:(X.env.scope.kind == .class || (X.env.scope.kind == .module && X.env.locals != X.env.globals))=false:=by rw [I.ok.kind];rfl
 refine wpAny_nameGoes_keeps hk hn hcls fun h' v hn' hs=>h _ ?_
 have neL:∀ b o,X.s₀.heap.get? b=some o→b≠X.env.locals:=fun b o e=>Nat.ne_of_lt (Nat.lt_of_lt_of_le (Heap.lt_size e) I.ok.above)
 refine ⟨I.ok,I.os,I.bare,⟨fun b o e n hb hx=>(hs.2 b (neL b o e)).trans (I.base.keep b o e n hb hx),fun b o e n hb hx=>?_,I.base.free,fun b o e hx=>?_,I.base.tups,I.base.frzs,I.base.tbls⟩,⟨_,hn',fun j y v' e1 e2 e3=>?_⟩,fun y c e=>?_,I.free,I.freeC,fun p hp=>?_,fun b u e=>?_,by rw [List.length_set];exact I.len⟩
 ·obtain ⟨sl,e1⟩:=I.base.slot b o e n hb hx
  exact ⟨sl,(hs.2 b (neL b o e)).trans e1⟩
 ·obtain ⟨o',e1⟩:=I.base.there b o e hx
  exact ⟨o',(hs.2 b (neL b o e)).trans e1⟩
 ·by_cases hj:i=j
  ·subst hj
   by_cases hiσ:i < σ.length
   ·rw [List.getElem?_set_self hiσ] at e2;cases e2
   ·rw [List.getElem?_eq_none_iff.mpr (by rw [List.length_set];omega)] at e2;cases e2
  ·rw [List.getElem?_set_ne hj] at e2
   obtain ⟨u',r',q⟩:=hl j y v' e1 e2 e3
   refine ⟨u',r',?_⟩
   rcases q with ⟨k,e⟩ | ⟨k,c,e,z⟩
   ·refine .inl ⟨k,?_⟩
    have:y≠x:=fun e=>hj (nodup_ix hN hi (e ▸ e1))
    simp [this,e]
   ·exact .inr ⟨k,c,e,z.sameBut hs (I.cne y c e)⟩
 ·obtain ⟨w',z⟩:=I.cell y c e
  exact ⟨w',z.sameBut hs (I.cne y c e)⟩
 ·obtain ⟨e,n,ne,nf,d⟩:=I.pin p hp
  exact ⟨(hs.2 p.1 ne).trans e,n,ne,nf,d⟩
 ·refine (I.hok b u e).stay (fun c w' hc q=>(hs.2 c ?_).trans q) (fun _ q=>q) fun _ _ q=>q
  rintro rfl
  rcases hc with rfl | hc
  ·rw [I.free] at e;cases e
  ·rw [I.free] at hc;cases hc
theorem ps_tryAs {i:Nat}{nm:Str} (hex:X.ex=[]) (hst:X.stack=X.env :: X.outer∧X.env.frame=some X.env.locals) (hN:X.N.Nodup) (hi:X.N[i]? =some nm) (hk:X.env.scope.names.lookup nm=some .local) (hg:Gl X x) (hm:X.mg x=some (.ref C)) (hMt:∀ c,Mt c→PySem.W.exmOne X.K c (.ref C)=some true)
  (hb:∀ (E:L2.St→XK) (pn:List (Addr×Obj)) (xe:Value→Shared→Prop),PassX (CXe X.prog X.w) (cxB X pn xe) E→PSs (cxB X pn xe) body (tb E))
  (hs:∀ (ea:Value) (pn:List (Addr×Obj)),PSs (cxH X ea pn) (b₀ :: suite) th) (hd:(x == ("__debug__":Str))=false:=by decide):
  PS X (.Try body [.ExceptHandler (some (.Name x np)) (some nm) (b₀ :: suite) hpos] [] [] pos) (tTryAs Mt i tb th):=by
 intro pins s σ H D I h
 refine wpAny_Try_except ?_
 let D':Ends:=⟨fun σ2 H2=>D.nx (σ2.set i none) H2,D.rt,fun σ2 H2=>D.bk (σ2.set i none) H2,fun σ2 H2=>D.ct (σ2.set i none) H2⟩
 have hx:PassX (CXe X.prog X.w) (cxB X (X.pn ++ pins) fun e s'=>∃ σ H s,Inv X pins σ H s∧CXe X.prog X.w X.stack H s (fun cls _ H'=>Mt cls∧∀ ea,H' ea=none→th D' (σ.set i (some (.ref ea))) (upd H' ea (xobj ea cls))) e s')
   (fun σ' cls _ H'=>Mt cls∧∀ ea,H' ea=none→th D' (σ'.set i (some (.ref ea))) (upd H' ea (xobj ea cls))):=
  fun pl σ H s e s' J z=>⟨σ,H,s,of_cxB I.ok J,z⟩
 refine wpAny_mono (hb _ _ _ hx [] s σ H D (to_cxB I _) h) (fun f s1 q=>?_) fun e s1 q=>?_
 ·have q:=sp_cxB I.ok q
  cases f with
  | next=>exact wpAny_execs_nil q
  | ret v=>exact q
  | brk=>exact q
  | cont=>exact q
 ·obtain ⟨σ1,H1,s0,J,ea,cls,a0,B,H2,rfl,os,bare,un,ok,fl,hB,hM,hth⟩:=q
  have fl0:=fl
  rw [hst.1] at fl0
  refine wpAny_looks_onW (hst.1 ▸ J.ok.frames) hst.2 fl0 fun h4 held4 sm4=>?_
  refine wpAny_landsW held4 fun h5 fl5 sm5=>?_
  have sm25:s1.heap.UpToSlots h5:=sm4.trans sm5
  have J5:=flown J os bare un ok fl hB fl5.1 sm25
  refine wpAny_handleBy_cons (codeAny_handlers_test (ld_glob (X:=cxH X (.ref ea) (X.pn ++ pins)) (to_cxH J5 (.ref ea)) hg hm ?_ hd)) (by intro z;cases z)
  obtain ⟨ob,hob,hoc⟩:=fl5.there
  have LT:PySem.W.Looks (model X.prog X.w) h5 (typeOf (.ref ea)) cls:=hoc ▸ (PySem.W.Looks.ld hob).andThen .now
  refine (PySem.W.exm_one J5.kIn LT (hMt cls hM)).here ?_
  refine codeAny_handlers_suite_as ?_
  refine lands_againW fl5 fun h6 fl6 sm6=>?_
  have J6:=flown J os bare un ok fl hB fl6.1 (sm25.trans sm6)
  obtain ⟨oe,vs,e1,e2,e3,_⟩:=fl6.first
  have nfr:ea∉frs X.stack:=fun z=>by
   obtain ⟨_,o',ho',hd'⟩:=fl6.2.2.1.mem (show ea∈(X.env :: X.outer).filterMap (·.frame) by rw [← hst.1];exact z)
   rw [e1] at ho';cases ho'
   exact hd' _ e3
  obtain ⟨o1,eo1,_⟩:=fl.there
  have new0:s0.heap.get? ea=none:=by
   cases z:s0.heap.get? ea with
   | none=>rfl
   | some v=>
    have:=hB ea o1 eo1 (.inl ⟨v,z⟩) nfr
    rw [fl.2.1] at this;cases this
  have new1:H2 ea=none:=by
   cases z:H2 ea with
   | none=>rfl
   | some v=>
    have:=hB ea o1 eo1 (.inr ⟨v,z⟩) nfr
    rw [fl.2.1] at this;cases this
  have A6:Inv X pins σ1 (upd H2 ea (xobj ea cls)) { s1 with heap:=h6 }:=by
   refine adoptX J6 new1 ?_ ?_ ?_ ?_ ?_
   ·cases z:X.s₀.heap.get? ea with
    | none=>rfl
    | some v=>
     obtain ⟨o',e'⟩:=J.base.there ea v z (fun w=>by rw [hex] at w;cases w)
     rw [new0] at e';cases e'
   ·intro z
    obtain ⟨m,⟨ol,esl,epl,hol,hdl,_⟩,_⟩:=J6.loc
    have hol':h6.get? X.env.locals=some ol:=hol
    rw [← z,e1] at hol';cases hol'
    rw [e3] at hdl;cases hdl
   ·intro y c e z
    obtain ⟨w',oc,hoc',hdc⟩:=J6.cell y c e
    have hoc2:h6.get? c=some oc:=hoc'
    rw [z,e1] at hoc2;cases hoc2
    rw [e3] at hdc;cases hdc
   ·intro p hp z
    have:=(J.pin p hp).1
    rw [z,new0] at this;cases this
   ·exact ⟨⟨oe,vs,e1,e2,e3⟩,⟨oe,e1⟩,fun h1 h2 ⟨o2,v2,a1,a2,a3⟩ k=>⟨o2,v2,k _ a1,a2,a3⟩⟩
  refine store_ok (X:=cxH X (.ref ea) (X.pn ++ pins)) (v:=.ref ea) (i:=i) (to_cxH A6 (.ref ea)) hN hi (.inl hk) rfl (fun s7 I7=>?_) (.inr hk)
  refine wpAny_mono (hs (.ref ea) (X.pn ++ pins) [] s7 _ _ D' I7 (hth ea new1)) (fun f s8 q=>?_) fun _ _ z=>z.elim
  have q:=sp_cxH I.ok q
  cases f with
  | next=>
   obtain ⟨σ8,H8,I8,q⟩:=q
   exact gone_ok I8 hN hi hk fun s9 I9=>⟨_,H8,I9,q⟩
  | brk=>
   obtain ⟨σ8,H8,I8,q⟩:=q
   exact gone_ok I8 hN hi hk fun s9 I9=>⟨_,H8,I9,q⟩
  | cont=>
   obtain ⟨σ8,H8,I8,q⟩:=q
   exact gone_ok I8 hN hi hk fun s9 I9=>⟨_,H8,I9,q⟩
  | ret u=>
   obtain ⟨v,σ8,H8,I8,r,q⟩:=q
   exact gone_ok I8 hN hi hk fun s9 I9=>⟨v,_,H8,I9,r,q⟩
end
end G
namespace G
open PySem L2 PySem.Spec PyProof.Rows
section
variable {P:Program}{w:World}{K:PySem.W.Frag}{mg:Str→Option Value}{base:Heap}{x qual:Str}{st:Stmt}{f:Addr}{fd:FuncData}{N ps:List Str}{k:Nat}{sp:Sp}
theorem fok (F:Fun K x qual st f fd) (S:FnScope N ps (defScope st)) (len:∀ vs H Q E,sp vs H Q E→vs.length=ps.length)
  (hbody:∀ (cdv:Value) (A:Around) (outer:List Env) (s:Shared) (H:Hp) (vs:List V) (Q:VK) (E:XK),Room k (A.deeper (envOfC qual (defScope st) s.heap.objs.size f cdv))→sp vs H Q E→
   ∃ t,PSs (cxOf (CXe P w) P w K mg base N qual (defScope st) f cdv A outer s H E).nox (defBody st) t∧t { nx:=fun _ H'=>Q .non H',rt:=Q } (start N vs) H):FnOk P w K mg base (CXe P w) (k + 1) f fd ps sp:=by
 obtain ⟨oc,od,kV,doc,pm,an,cdv,ct,osl,rfl,lk,hcd⟩:=F.ex
 refine fn_of lk hcd S len fun A outer s H vs Q E hr hsp=>?_
 obtain ⟨t,h,q⟩:=hbody cdv A outer s H vs Q E hr hsp
 exact ⟨t,h.nox,q⟩
theorem fokX (F:Fun K x qual st f fd) (S:FnScope N ps (defScope st)) (len:∀ vs H Q E,sp vs H Q E→vs.length=ps.length)
  (hbody:∀ (cdv:Value) (A:Around) (outer:List Env) (s:Shared) (H:Hp) (vs:List V) (Q:VK) (E:XK),Room k (A.deeper (envOfC qual (defScope st) s.heap.objs.size f cdv))→sp vs H Q E→
   ∃ t,PSs (cxOf (CXe P w) P w K mg base N qual (defScope st) f cdv A outer s H E) (defBody st) t∧t { nx:=fun _ H'=>Q .non H',rt:=Q } (start N vs) H):FnOk P w K mg base (CXe P w) (k + 1) f fd ps sp:=by
 obtain ⟨oc,od,kV,doc,pm,an,cdv,ct,osl,rfl,lk,hcd⟩:=F.ex
 exact fn_of lk hcd S len fun A outer s H vs Q E hr hsp=>hbody cdv A outer s H vs Q E hr hsp
theorem fokDX (F:FunD K x qual st f fd) (S:FnScope N ps (defScope st)) (len:∀ vs H Q E,sp vs H Q E→vs.length=ps.length)
  (hbody:∀ (cdv:Value) (A:Around) (outer:List Env) (s:Shared) (H:Hp) (vs:List V) (Q:VK) (E:XK),Room k (A.deeper (envOfC qual (defScope st) s.heap.objs.size f cdv))→sp vs H Q E→
   ∃ t,PSs (cxOf (CXe P w) P w K mg base N qual (defScope st) f cdv A outer s H E) (defBody st) t∧t { nx:=fun _ H'=>Q .non H',rt:=Q } (start N vs) H):FnOk P w K mg base (CXe P w) (k + 1) f fd ps sp:=by
 obtain ⟨oc,od,dV,kV,doc,pm,an,cdv,ct,osl,rfl,lk,hcd⟩:=F.ex
 exact fn_of lk hcd S len fun A outer s H vs Q E hr hsp=>hbody cdv A outer s H vs Q E hr hsp
end
end G
namespace G
open PySem L2 PySem.Spec PyProof.Rows
structure ExcI (K:PySem.W.Frag) (C:Addr):Prop where
 ga:PySem.W.findIn K (.ref C) "__getattribute__"=some (some (.builtin "BaseException.__getattribute__"))
 no:PySem.W.findIn K (.ref C) "__getattr__"=some none
 cl:PySem.W.findIn K (.ref C) "__class__"=some (some (.builtin "object.__class__"))
 so:PySem.W.mroIn K C (.type "object")=some true
 sb:PySem.W.mroIn K C (.type "BaseException")=some true
 is:PySem.W.hasDictIn K C=true
section
variable {prog:Program}{w:World}{A:Around}{E:Value→Shared→Prop}{h:Heap}{g:Array GenState}{d:Drawn}{t:Nat}{os:OsState}{a:Addr}{o:Obj}{C:Addr}{K:PySem.W.Frag}
theorem xc_sub (X:K.In h) (F:ExcI K C) {M:Model}{Q:Bool→Shared→Prop} (q:Q true ⟨h,g,d,t,os⟩):wpAny M A (isSubtype (.ref C) (.type (".".intercalate ("object.__class__".cutAt '.').dropLast))) Q E ⟨h,g,d,t,os⟩:=by
 rw [PySem.F.owner_object_class]
 exact (PySem.W.looks_mroIn X F.so).here q
theorem xc_sub2 (X:K.In h) (F:ExcI K C) {M:Model}{Q:Bool→Shared→Prop} (q:Q true ⟨h,g,d,t,os⟩):wpAny M A (isSubtype (.ref C) (.type "BaseException")) Q E ⟨h,g,d,t,os⟩:=(PySem.W.looks_mroIn X F.sb).here q
theorem xc_tl {n:Str}{r:Option Value} (X:K.In h) (e:PySem.W.findIn K (.ref C) n=some r) {M:Model}{Q:Option Value→Shared→Prop} (q:Q r ⟨h,g,d,t,os⟩):wpAny M A (typeLookup (.ref C) n) Q E ⟨h,g,d,t,os⟩:=(PySem.W.looks_findIn X e).here q
theorem xc_get {R:Result→Shared→Prop} (X:K.In h) (F:ExcI K C) (hx:h.get? a=some o) (hc:o.cls=.ref C) (hq:R (.ok (.ret (.ref C))) ⟨h,g,d,t,os⟩):
  codeAny (model prog w) A (.call (.builtin "getset_descriptor.__get__") ⟨[.builtin "object.__class__",.ref a,.ref C],[]⟩) R ⟨h,g,d,t,os⟩:=by
 have h5:(⟨h,g,d,t,os⟩:Shared).TypeIs (.builtin "object.__class__") "getset_descriptor":=PySem.F.typeOf_object_class
 refine codeAny_call_builtin PySem.F.slot_gs_get.plain PySem.F.entry_gs_get (PySem.F.slot_gs_get.check _ _ _ _ _ _ _ _ h5 (PySem.F.args_gs_get _ _ _) ?_)
 repeat any_goals (first | assumption | (with_reducible refine wpAny_loadPart_at hx ?_;rw [hc]) | with_reducible refine xc_sub X F ?_ | wp_step)
 refine ⟨Code.quiet_builtin _ (by decide +kernel),codeAny_builtin PySem.F.entry_object_class ?_⟩
 repeat any_goals (first | assumption | (with_reducible refine wpAny_loadPart_at hx ?_;rw [hc]) | wp_step)
theorem xc_entry {tk:Tok}{Q:Fin→Shared→Prop} (X:K.In h) (F:ExcI K C) (hx:h.get? a=some o) (hc:o.cls=.ref C) (hq:Q (.done (.ret (.ref C))) ⟨h,g,d,t,os⟩):
  wpAny (model prog w) A (Builtin.«object.__getattribute__» ⟨[.ref a,.str "__class__" tk],[]⟩) Q E ⟨h,g,d,t,os⟩:=by
 have h5:(⟨h,g,d,t,os⟩:Shared).TypeIs (.builtin "object.__class__") "getset_descriptor":=PySem.F.typeOf_object_class
 have f5:=PySem.F.typeOf_object_class
 have f6:=PySem.F.slot_gs_get.lookup
 have f7:=PySem.F.slot_gs_set.lookup
 repeat any_goals (first | assumption | (with_reducible refine wpAny_loadPart_at hx ?_;rw [hc]) | with_reducible refine xc_tl X F.cl ?_ | wp_step)
 refine xc_get X F hx hc ?_
 repeat any_goals (first | assumption | wp_step)
theorem xc_check {M:Model}{nameV:Value}{Q:Unit→Shared→Prop} (X:K.In h) (F:ExcI K C) (hx:h.get? a=some o) (hc:o.cls=.ref C) (hq:Q () ⟨h,g,d,t,os⟩):wpAny M A (checkBuiltinCall "BaseException.__getattribute__" ⟨[.ref a,nameV],[]⟩) Q E ⟨h,g,d,t,os⟩:=by
 have e1:builtinKind "BaseException.__getattribute__"=some .slot:=by decide +kernel
 have e2:splitId "BaseException.__getattribute__"=some ("BaseException","__getattribute__"):=by decide +kernel
 have ha:=PySem.F.args_bexc_ga (.ref a) nameV
 simp only [checkBuiltinCall,e1,e2]
 refine wpAny_bind ?_
 unfold isInstance
 repeat (first | (with_reducible refine wpAny_loadPart_at hx ?_;rw [hc]) | with_reducible refine xc_sub2 X F ?_ | wp_step)
 exact hq
theorem xc_by {tk:Tok}{Q:Value→Shared→Prop} (X:K.In h) (F:ExcI K C) (hx:h.get? a=some o) (hc:o.cls=.ref C) (hq:Q (.ref C) ⟨h,g,d,t,os⟩):wpAny (model prog w) A (getAttrBy (.ref a) (.str "__class__" tk) false) Q E ⟨h,g,d,t,os⟩:=by
 have f3:=PySem.F.attr_ValueError.ga.bind (.ref a)
 have e1:(onTheHeap (Value.ref C) && Value.builtin "BaseException.__getattribute__" == Value.builtin "object.__getattribute__")=false:=by
  rw [show (Value.builtin "BaseException.__getattribute__" == Value.builtin "object.__getattribute__")=false by decide +kernel];rfl
 repeat any_goals (first | assumption | (with_reducible refine wpAny_loadPart_at hx ?_;rw [hc]) | with_reducible refine xc_tl X F.ga ?_ | with_reducible refine xc_tl X F.no ?_ | wp_step)
 refine codeAny_call_builtin PySem.F.attr_ValueError.ga.plain PySem.F.entry_bexc_ga (xc_check X F hx hc (xc_entry X F hx hc ?_))
 repeat any_goals (first | assumption | wp_step)
theorem xc_attr {Q:Option Value→Shared→Prop} (X:K.In h) (F:ExcI K C) (hx:h.get? a=some o) (hc:o.cls=.ref C) (hq:Q (some (.ref C)) ⟨h,g,d,t + 1,os⟩):wpAny (model prog w) A (getAttr? (.ref a) "__class__") Q E ⟨h,g,d,t,os⟩:=by
 unfold getAttr? getAttrBy?
 repeat any_goals (first | assumption | with_reducible apply xc_by X F hx hc | wp_step)
end
def atX (a C:Addr) (h:Heap):Prop:=∃ o,h.get? a=some o∧o.cls=.ref C
theorem kitx_exc {K:PySem.W.Frag}{a C:Addr} (F:ExcI K C):PySem.W.KitX K (.ref a) (.ref C) (atX a C) where
 ty:=fun _ _ _ ⟨o,h1,h2⟩=>h2 ▸ (PySem.W.Looks.ld h1).andThen .now
 it:=fun _ _ X _=>by
  obtain ⟨cd,hc,_⟩:=PySem.W.any_some F.is
  unfold PySem.W.clsIn at hc
  split at hc
  ·rename_i hob
   intro A' Q' E' s' k q
   unfold isType loadHead
   exact wpAny_bind (wpAny_loadPart (k _ _ (X _ _ hob)) (wpAny_pure q))
  ·cases hc
 ne:=fun h tp dd its n sl X htp=>by
  obtain ⟨cd,hc,_⟩:=PySem.W.any_some F.is
  refine Bool.eq_false_iff.mpr fun q=>?_
  have e:C=tp:=Value.ref.inj (beq_iff_eq.mp q)
  subst e
  unfold PySem.W.clsIn at hc
  split at hc
  ·rename_i hob
   have z:=(X _ _ hob).symm.trans htp
   cases z
  ·cases hc
 ca:=fun {prog w A E Q s} X ⟨o,h1,h2⟩ k=>by
  obtain ⟨h,g,d,t,os⟩:=s
  exact xc_attr X F h1 h2 k
section
variable {X:Cx}
def ExcAll (K:PySem.W.Frag) (Cs:List Addr):Prop:=∀ C∈Cs,ExcI K C
theorem call_isiX {Cs:List Addr} (F:ExcAll X.K Cs):CallR X (.builtin "isinstance") (cIsiX Cs (PySem.W.kitOne X.K)):=by
 intro pins s σ H xs us Q I r h
 obtain ⟨a,c,C,k,⟨v,rfl,rv⟩,hC,ha,hk,q⟩:=h
 obtain ⟨u,w',rfl,rx,rn⟩:=vals2 r
 obtain rfl:u=Value.ref a:=rx
 have ew:w'=c:=by
  cases v with
  | ref b=>exact (show w'=Value.ref b from rn).trans (show c=Value.ref b from rv).symm
  | ty n=>exact (show w'=Value.type n from rn).trans (show c=Value.type n from rv).symm
  | non=>exact (show w'=Value.none from rn).trans (show c=Value.none from rv).symm
  | bl b=>exact (show w'=Value.bool b from rn).trans (show c=Value.bool b from rv).symm
  | int i=>
   obtain ⟨t1,e1⟩:=(show ∃ t,c=Value.int i t from rv)
   subst e1
   exact absurd hk (by unfold PySem.W.kitOne PySem.W.kitCls;rw [if_neg (by simp)];simp)
  | str i=>
   obtain ⟨t1,e1⟩:=(show ∃ t,c=Value.str i t from rv)
   subst e1
   exact absurd hk (by unfold PySem.W.kitOne PySem.W.kitCls;rw [if_neg (by simp)];simp)
  | byt i=>
   obtain ⟨t1,e1⟩:=(show ∃ t,c=Value.bytes i t from rv)
   subst e1
   exact absurd hk (by unfold PySem.W.kitOne PySem.W.kitCls;rw [if_neg (by simp)];simp)
  | flt i=>
   obtain ⟨t1,e1⟩:=(show ∃ t,c=Value.float i t from rv)
   subst e1
   exact absurd hk (by unfold PySem.W.kitOne PySem.W.kitCls;rw [if_neg (by simp)];simp)
 subst ew
 obtain ⟨⟨o,vs,h1,h2,h3⟩,_⟩:=I.hok a _ ha
 exact PySem.W.kia_one (kitx_exc (F C hC)) I.kIn ⟨o,h1,h2⟩ hk (fun z=>nomatch z) fun tk=>⟨.bl k,H,I.tok _,rfl,q⟩
theorem boot_ValueError:bootBuiltins "ValueError"=some (.type "ValueError"):=by decide +kernel
end
end G
namespace G
open PySem L2 PySem.Spec PyProof.Rows
theorem none_mro:fastBuiltinMro "NoneType"=some [.type "NoneType",.type "object"]:=by decide +kernel
section
variable {K:PySem.W.Frag}{A:Around}{a C:Addr}{o:Obj}
theorem eq_chk {M:Model}{E:Value→Shared→Prop}{s:Shared}{Q:Unit→Shared→Prop} (LI:PySem.W.Looks M s.heap (isInstance (.ref a) (.type "object")) true) (hq:Q () s):wpAny M A (checkBuiltinCall "object.__eq__" ⟨[.ref a,.none],[]⟩) Q E s:=by
 have ha:=PySem.F.cmpArgs_eq (.ref a) .none
 simp only [checkBuiltinCall,PySem.F.cmpKind_eq,PySem.F.cmpSplit_eq]
 refine wpAny_bind (LI.here ?_)
 simp only [Bool.not_true,Bool.false_eq_true,if_false]
 cases hsig:Manifest.signature? "object.__eq__" with
 | none=>exact wpAny_pure hq
 | some sig=>
  simp only [argsOk,hsig] at ha
  have h2:Bind.checkArgs "object.__eq__" sig ⟨[.ref a,.none],[]⟩=pure ():=ha
  show wpAny M A (Bind.checkArgs "object.__eq__" sig ⟨[.ref a,.none],[]⟩) Q E _
  rw [h2]
  exact wpAny_pure hq
theorem eq_call {prog:Program}{w:World}{E:Value→Shared→Prop}{s:Shared}{Q:Value→Shared→Prop} (LI:PySem.W.Looks (model prog w) s.heap (isInstance (.ref a) (.type "object")) true) (hq:Q .notImplemented s):
  wpAny (model prog w) A (call (.builtin "object.__eq__") [.ref a,.none]) Q E s:=by
 refine wpAny_call (codeAny_call_builtin PySem.F.cmp_object.eq.plain PySem.F.cmpEntry_eq (eq_chk LI ?_))
 obtain ⟨h,g,d,t,os⟩:=s
 unfold Builtin.«object.__eq__»
 repeat (first | with_reducible refine wpAny_bind (m:=isSame (.ref a) .none) (wpAny_pure ?_) | wp_step)
 exact hq
theorem try_eq {prog:Program}{w:World}{E:Value→Shared→Prop}{s:Shared}{Q:Option Value→Shared→Prop} (X:K.In s.heap) (hx:s.heap.get? a=some o) (hc:o.cls=.ref C) (hE:EqD K C) (hq:Q none s):
  wpAny (model prog w) A (tryCompare (.ref a) "__eq__" .none) Q E s:=by
 have LT:PySem.W.Looks (model prog w) s.heap (typeOf (.ref a)) (.ref C):=hc ▸ (PySem.W.Looks.ld hx).andThen .now
 have LI:PySem.W.Looks (model prog w) s.heap (isInstance (.ref a) (.type "object")) true:=LT.andThen (PySem.W.looks_mroIn X hE.ob)
 have LS:PySem.W.Looks (model prog w) s.heap (specialOf (.ref a) "__eq__") (some (.builtin "object.__eq__")):=LT.andThen (PySem.W.looks_findIn X hE.eq)
 simp only [tryCompare]
 refine wpAny_bind ?_
 simp only [callSpecialIfBound?,bindSpecialIfBound?]
 refine wpAny_holding (wpAny_bind (wpAny_bind (LS.here ?_)))
 simp only [PySem.F.cmp_object.eq.bind]
 have fin:wpAny (model prog w) A (call (.builtin "object.__eq__") ([.ref a] ++ [.none]) >>= fun v=>pure (some v)) (fun r s'=>wpAny (model prog w) A (match r with | some .notImplemented | none=>pure none | some v=>pure (some v)) Q E s') E s:=
  wpAny_bind (eq_call LI (wpAny_pure (wpAny_pure hq)))
 refine wpAny_bind (wpAny_askSetting (wpAny_ite ?_))
 split
 ·exact wpAny_bind (wpAny_pure (wpAny_pure fin))
 ·exact wpAny_tryCatch (wpAny_bind (wpAny_pure (wpAny_pure fin)))
theorem rc_inst {s:Shared} (X:K.In s.heap) (hx:s.heap.get? a=some o) (hc:o.cls=.ref C) (hE:EqD K C) (hu:A.units < cLine):SeqAt.RcAt A s (.ref a) .none false:=fun prog w E Q h=>by
 have LT:PySem.W.Looks (model prog w) s.heap (typeOf (.ref a)) (.ref C):=hc ▸ (PySem.W.Looks.ld hx).andThen .now
 have hi:cmpInfo CmpOp.Eq=("==",("__eq__":Str),("__eq__":Str)):=rfl
 have ho:oneThing? .Eq (.ref a) .none=none:=rfl
 simp only [richCompare,hi,ho]
 try with_reducible refine wpAny_holding ?_
 refine wpAny_bind (wpAny_cRoomFor_or (.inr hu) ?_)
 refine wpAny_bind (LT.here (wpAny_bind (m:=typeOf .none) (wpAny_pure ?_)))
 have hne:(Value.ref C != Value.type "NoneType")=true:=by simp
 simp only [hne,if_true]
 have hs:isSubtype (.type "NoneType") (.ref C)=pure false:=by
  rw [isSubtype_type,none_mro]
  rfl
 refine wpAny_bind (wpAny_of_eq hs ?_)
 simp only [Bool.false_eq_true,if_false,Bool.not_false,if_true]
 refine wpAny_bind (m:=tryCompare (.ref a) _ .none) (try_eq X hx hc hE ?_)
 refine wpAny_bind (m:=tryCompare .none _ (.ref a)) (wpAny_tryCompare_declines (T:="NoneType") rfl PySem.F.slot_NoneType_eq_refl (call_gives PySem.F.slot_NoneType_eq_refl rfl PySem.F.entry_NoneType_eq (PySem.F.args_NoneType_eq_2 _ _) (SeqAt.NoneType___eq___none_ref_0 a) ⟨rfl,?_⟩))
 exact wpAny_bind (wpAny_rule (wpAny_bind (wpAny_of_eq (rfl:isSame (.ref a) .none=pure false) (wpAny_pure h))))
theorem eq_inst {s:Shared} (X:K.In s.heap) (hx:s.heap.get? a=some o) (hc:o.cls=.ref C) (hE:EqD K C) (hu:A.units < cLine):SeqAt.EqAt A s (.ref a) .none false:=fun prog w E Q h=>by
 unfold eqBool
 refine wpAny_holding ?_
 refine wpAny_ite_split (fun hab=>absurd (eq_of_beq hab) nofun) (fun _=>?_)
 exact wpAny_bind (rc_inst X hx hc hE hu prog w E _ (wpAny_truthy_bool h))
end
section
variable {X:Cx}
def noneU (u:Value):Bool:=match u with
 | .none=>true
 | _=>false
theorem noneU_of {H:Hp}{y:V}{u:Value} (r:RelV y u) (h:y=.non∨∃ a C dx fs,y=.ref a∧H a=some (.ins C dx fs)∧Cls X.K C∧EqD X.K C):noneU u=decide (y=.non):=by
 rcases h with rfl | ⟨a,_,_,_,rfl,_⟩
 ·obtain rfl:u=Value.none:=r
  rfl
 ·obtain rfl:u=Value.ref a:=r
  rfl
theorem noneU_at {pins:List (Addr×Obj)}{σ:L2.St}{H:Hp}{s:Shared}{A:Around}{y:V}{u:Value} (I:Inv X pins σ H s) (hu:A.units < cLine) (r:RelV y u) (h:y=.non∨∃ a C dx fs,y=.ref a∧H a=some (.ins C dx fs)∧Cls X.K C∧EqD X.K C):SeqAt.EqAt A s u .none (noneU u):=by
 rcases h with rfl | ⟨a,C,dx,fs,rfl,ha,hc,he⟩
 ·obtain rfl:u=Value.none:=r
  exact SeqAt.EqAt.same .none
 ·obtain rfl:u=Value.ref a:=r
  obtain ⟨_,_,_,e,_⟩:=(show ObjOk X.prog X.w H s.heap a (.ins C dx fs) from I.hok a _ ha)
  exact eq_inst I.kIn e rfl he hu
theorem none_any {H:Hp}:∀ {xs:List V}{us:List Value},Vals xs us→OkN X.K H xs→us.any noneU=decide (V.non∈xs)
 | _,_,.nil,_=>rfl
 | y :: xs,u :: us,.cons r t,h=>by
  rw [List.any_cons,none_any t fun z hz=>h z (List.mem_cons_of_mem _ hz),noneU_of r (h y List.mem_cons_self),Bool.eq_iff_iff]
  simp only [Bool.or_eq_true,decide_eq_true_eq,List.mem_cons]
  constructor
  ·rintro (z | z)
   ·exact .inl z.symm
   ·exact .inr z
  ·rintro (z | z)
   ·exact .inl z.symm
   ·exact .inr z
theorem none_mem {H:Hp}{pins:List (Addr×Obj)}{σ:L2.St}{s:Shared}{A:Around}{xs:List V}{us:List Value} (I:Inv X pins σ H s) (hu:A.units < cLine) (r:Vals xs us) (h:OkN X.K H xs):∀ u∈us,SeqAt.EqAt A s u .none (noneU u):=by
 intro u hm
 obtain ⟨i,hi,rfl⟩:=List.getElem_of_mem hm
 have hl:=r.length
 have hx:xs[i]? =some xs[i]:=List.getElem?_eq_getElem (by omega)
 obtain ⟨u',e,ru⟩:=r.get hx
 rw [List.getElem?_eq_getElem hi] at e
 cases e
 exact noneU_at I hu ru (h _ (List.getElem_mem (by omega)))
theorem op_notInN (hu:X.A.units + 1 < cLine):OpR X (compareOp .NotIn) (rInN X.K true):=by
 intro pins s σ H x y v u Q I rx ry h
 obtain ⟨p,xs,rfl,rfl,hs,hk,q⟩:=h
 obtain rfl:v=Value.none:=rx
 cases ry
 obtain ⟨us,r,pl,_⟩:=I.list hs
 refine SeqAt.notIn_listAt noneU pl.isList (fun w hw=>none_mem I (by show X.A.units + 1 < cLine;exact hu) r hk w (by simpa using hw)) ⟨.bl _,H,I,rfl,?_⟩
 rw [show us.toArray.any noneU=us.any noneU by simp,none_any r hk]
 exact q
theorem none_idx {H:Hp}{xs:List V}{us:List Value} (r:Vals xs us) (h:OkN X.K H xs) (j:Nat) (hj:j < us.length) (hj':j < xs.length):noneU us[j]=decide (xs[j]=V.non):=by
 obtain ⟨u',e,ru⟩:=r.get (List.getElem?_eq_getElem hj')
 rw [List.getElem?_eq_getElem hj] at e
 cases e
 exact noneU_of ru (h _ (List.getElem_mem hj'))
theorem mt_indexN (hu:X.A.units + 1 < cLine):MtR X "list.index" (rIndexN X.K):=by
 intro pins s σ H x xs v us Q I rx rs h
 obtain ⟨p,ys,rfl,rfl,hs,hk,hn,q⟩:=h
 obtain rfl:v=Value.ref p:=rx
 obtain ⟨u,rfl,ru⟩:=Vals.one rs
 obtain rfl:u=Value.none:=ru
 obtain ⟨ws,r,pl,hz⟩:=I.list hs
 obtain ⟨⟨cls,dd,data,sl⟩,ho,hc,n,hd⟩:=pl.isList
 simp only at hc hd
 subst hc hd
 have hl:=r.length
 have hj:ys.idxOf V.non < ys.length:=List.idxOf_lt_length_iff.mpr hn
 have hz2:ys.length < 2 ^ 62:=Nat.lt_of_le_of_lt hz (by decide)
 refine call_meets PySem.F.slot_list_index ⟨_,ho,rfl⟩ PySem.F.entry_list_index (PySem.F.args_list_index_2 _ _)
  (SeqAt.list_indexAt p ws.toArray n dd sl .none noneU (ys.idxOf V.non) (by simpa [hl] using hj) (by omega) ?_ ?_) ⟨ho,fun y hy=>none_mem I (by show X.A.units + 1 < cLine;exact hu) r hk y (by simpa using hy),⟨.int _,H,I.tok _,⟨_,rfl⟩,q⟩⟩
 ·show noneU ws[ys.idxOf V.non]=true
  rw [none_idx r hk _ (by omega) hj,decide_eq_true_eq]
  exact List.getElem_idxOf hj
 ·intro j hjs hlt
  show noneU ws[j]=false
  rw [none_idx r hk j (by simpa using hjs) (by omega),decide_eq_false_iff_not]
  intro e
  have:=List.not_of_lt_findIdx (p:=(· == V.non)) (xs:=ys) hlt
  simp [e] at this
end
end G
namespace G
open PySem L2
def rIsB:R2:=fun x y H Q=>∃ b,y=.bl b∧Q (.bl (decide (x=.bl b))) H
theorem i_isB {x:V}{b:Bool}{H:Hp}{Q:VK} (h:Q (.bl (decide (x=.bl b))) H):rIsB x (.bl b) H Q:=⟨b,rfl,h⟩
def tMake0 (C:Addr):TE:=fun _ H Q=>∀ x dx,H x=none→H dx=none→dx≠x→Q (.ref x) (upd (upd H dx (.own x)) x (.ins C dx []))
theorem i_make0 {C:Addr}{σ:St}{H:Hp}{Q:VK} (h:∀ x dx,H x=none→H dx=none→dx≠x→Q (.ref x) (upd (upd H dx (.own x)) x (.ins C dx []))):tMake0 C σ H Q:=h
def tOrE (t u:TE):TE:=fun σ H Q=>t σ H Q∨u σ H Q
theorem i_orL {t u:TE}{σ:St}{H:Hp}{Q:VK} (h:t σ H Q):tOrE t u σ H Q:=.inl h
theorem i_orR {t u:TE}{σ:St}{H:Hp}{Q:VK} (h:u σ H Q):tOrE t u σ H Q:=.inr h
end G
namespace G
open PySem L2 PySem.Spec PyProof.Rows
section
variable {X:Cx}
theorem op_isB:OpR X (compareOp .Is) rIsB:=by
 intro pins s σ H x y v u Q I rx ry h
 obtain ⟨b,rfl,q⟩:=h
 cases ry
 cases x with
 | bl c=>
  cases rx
  refine wpAny_is_plain rfl (fin_bl I q ?_)
  cases b<;>cases c<;>rfl
 | non=>cases rx;exact wpAny_is_plain rfl (fin_bl I q rfl)
 | ref a=>cases rx;exact wpAny_is_plain rfl (fin_bl I q rfl)
 | ty a=>cases rx;exact wpAny_is_plain rfl (fin_bl I q rfl)
 | _=>obtain ⟨t,rfl⟩:=rx;exact wpAny_is_plain rfl (fin_bl I q rfl)
theorem pe_eith {e:Expr}{t u:TE} (h1:PE X e t) (h2:PE X e u):PE X e (tOrE t u):=by
 intro pins s σ H Q I h
 rcases h with h | h
 ·exact h1 pins s σ H Q I h
 ·exact h2 pins s σ H Q I h
structure Mk0 (K:PySem.W.Frag) (C:Addr):Prop where
 makes:PySem.W.makesIn K C=true
 init:PySem.W.findIn K (.ref C) "__init__"=some (some (.builtin "object.__init__"))
 kp:PySem.W.keepIn K (.ref C)=true
theorem run_make00 {C:Addr}{pins:List (Addr×Obj)}{σ:L2.St}{H:Hp}{s:Shared}{Q:VK} (M:Mk0 X.K C) (I:Inv X pins σ H s)
  (h:∀ x dx,H x=none→H dx=none→dx≠x→Q (.ref x) (upd (upd H dx (.own x)) x (.ins C dx []))):wpAny (model X.prog X.w) X.A (call (.ref C) []) (EP X pins σ Q) X.xe s:=by
 have hq:=h (s.heap.objs.size + 1) s.heap.objs.size (I.hok.fresh (Nat.le_succ _)) (I.hok.fresh (Nat.le_refl _)) (Nat.ne_of_lt (Nat.lt_succ_self _))
 have I2:=Inv.made (C:=C) I
 have Y:=PySem.W.makes_of (M:=model X.prog X.w) I.kIn M.makes
 refine wpAny_call (make_map0 I.kIn M.makes M.init (fun self=>PySem.W.Looks.of_pure (PySem.W.oi_bind self)) ?_)
 have e2:((s.heap.push PySem.W.emptyDict).push (PySem.W.instObj C s.heap.objs.size)).get? (s.heap.objs.size + 1)=some (PySem.W.instObj C s.heap.objs.size):=by
  have:=Heap.get?_push_size (s.heap.push PySem.W.emptyDict) (o:=PySem.W.instObj C s.heap.objs.size) rfl
  rw [Heap.size_push] at this
  exact this
 have t1:PySem.W.Looks (model X.prog X.w) ((s.heap.push PySem.W.emptyDict).push (PySem.W.instObj C s.heap.objs.size)) (typeOf (.ref (s.heap.objs.size + 1))) (.ref C):=(PySem.W.Looks.ld e2).andThen .now
 have t2:PySem.W.Looks (model X.prog X.w) ((s.heap.push PySem.W.emptyDict).push (PySem.W.instObj C s.heap.objs.size)) (isInstance (.ref (s.heap.objs.size + 1)) (.type "object")) true:=t1.andThen (Y.top.keeps fun b o e=>Heap.get?_push_of_some _ (Heap.get?_push_of_some _ e))
 refine codeAny_call_builtin PySem.W.oi_plain PySem.W.entry_oi (@PySem.W.check_slot (model X.prog X.w) _ _ _ "object.__init__" "object" "__init__" (.ref (s.heap.objs.size + 1)) [] [] _ PySem.W.oi_kind PySem.W.oi_split t2 (PySem.W.oi_args (.ref (s.heap.objs.size + 1))) ?_)
 rw [PySem.W.oi_run]
 exact wpAny_pure (And.intro rfl ⟨V.ref (s.heap.objs.size + 1),_,I2,rfl,hq⟩)
theorem pe_make00 {C:Addr}{x:Str}{p pos:Pos} (M:Mk0 X.K C) (hg:Gl X x) (hm:X.mg x=some (.ref C)) (hdb:(x == ("__debug__":Str))=false:=by decide):PE X (.Call (.Name x p) [] [] pos) (tMake0 C):=by
 intro pins s σ H Q I h
 refine wpAny_Call_Name_kw (ld_glob I hg hm ?_ hdb)
 exact PySem.W.callWith_K0 I.kIn M.kp (run_make00 M I h)
structure InsI (K:PySem.W.Frag) (C:Addr):Prop where
 pg:PySem.W.plainGet K C "__class__"=true
 hd:PySem.W.hasDictIn K C=true
 cl:PySem.W.findIn K (.ref C) "__class__"=some (some (.builtin "object.__class__"))
 sp:PySem.W.specialIn K (.builtin "object.__class__") "__get__"=some (some (.builtin "getset_descriptor.__get__"))
 tk:PySem.W.takesIn K (.builtin "object.__class__")=some true
 so:PySem.W.mroIn K C (.type "object")=some true
end
end G
namespace G
open PySem L2
theorem fn_never {P:Program}{w:World}{K:PySem.W.Frag}{mg:Str→Option Value}{base:Heap}{CX:CXT}{k:Nat}{f:Addr}{fd:FuncData}{ps:List Str}{sp:Sp} (h:∀ vs H Q E,sp vs H Q E→False):FnOk P w K mg base CX k f fd ps sp:=
 ⟨fun vs H Q E z=>(h vs H Q E z).elim,fun _ _ _ H _ _ vs Q E _ _ _ _ z=>(h vs H Q E z).elim⟩
end G
namespace G
open PySem L2 PySem.Spec PyProof.Rows
end G
namespace G
open PySem L2 PySem.Spec PyProof.Rows
def TabE (w:World):List DictEntry→List (Str×Addr)→Prop
 | [],[]=>True
 | e :: es,p :: t=>e.hash=hashStr w p.1∧(∃ tk,e.key=.str p.1 tk)∧e.val=.ref p.2∧TabE w es t
 | _,_=>False
def Tab (K:PySem.W.Frag) (w:World) (mg:Str→Option Value) (nm:Str) (tbl:List (Str×Addr)):Prop:=
 ∃ dd o es ep,mg nm=some (.ref dd)∧K.lookup dd=some o∧o.ExactDict∧o.data=.dict es ep∧TabE w es.toList tbl
theorem TabE.keys {prog:Program}{w:World}:∀ {es:List DictEntry}{tbl:List (Str×Addr)},TabE w es tbl→∀ e∈es,∃ k,(strKind prog w).is k e.key=true∧e.hash=(strKind prog w).hash k
 | [],_,_=>fun e he=>absurd he List.not_mem_nil
 | e :: es,[],h=>h.elim
 | e :: es,p :: t,h=>fun x hx=>by
  obtain ⟨h1,⟨tk,h2⟩,_,h4⟩:=h
  rcases List.mem_cons.mp hx with rfl | hx
  ·refine ⟨p.1,?_,h1⟩
   rw [h2]
   show Value.isStrOf p.1 (.str p.1 tk)=true
   simp [Value.isStrOf]
  ·exact TabE.keys h4 x hx
theorem TabE.find {w:World}:∀ {es:List DictEntry}{tbl:List (Str×Addr)}{k:Str}{f:Addr},TabE w es tbl→tbl.lookup k=some f→(es.find? fun e=>Value.isStrOf k e.key).map (·.val)=some (.ref f)
 | [],[],_,_,_,h=>by cases h
 | [],_ :: _,_,_,h,_=>h.elim
 | _ :: _,[],_,_,h,_=>h.elim
 | e :: es,p :: t,k,f,h,hl=>by
  obtain ⟨_,⟨tk,h2⟩,h3,h4⟩:=h
  rw [List.find?_cons,h2]
  by_cases hk:k=p.1
  ·subst hk
   have e1:Value.isStrOf p.1 (.str p.1 tk)=true:=by simp [Value.isStrOf]
   rw [e1]
   have e2:List.lookup p.1 (p :: t)=some p.2:=by
    obtain ⟨a,b⟩:=p
    simp [List.lookup]
   rw [e2] at hl
   cases hl
   show some e.val=_
   rw [h3]
  ·have e1:Value.isStrOf k (.str p.1 tk)=false:=by
    simp only [Value.isStrOf,beq_eq_false_iff_ne,ne_eq]
    exact fun z=>hk z.symm
   rw [e1]
   have e2:List.lookup k (p :: t)=List.lookup k t:=by
    obtain ⟨a,b⟩:=p
    simp only [List.lookup]
    rw [beq_eq_false_iff_ne.mpr hk]
   rw [e2] at hl
   exact TabE.find h4 hl
def tTab (tbl:List (Str×Addr)) (ti:TE):TE:=fun σ H Q=>ti σ H fun y H1=>∃ k f,y=.str k∧tbl.lookup k=some f∧Q (.ref f) H1
theorem i_tab {tbl:List (Str×Addr)}{ti:TE}{σ:L2.St}{H:Hp}{Q:VK} (h:ti σ H fun y H1=>∃ k f,y=.str k∧tbl.lookup k=some f∧Q (.ref f) H1):tTab tbl ti σ H Q:=h
theorem pe_tab {X:Cx}{nm:Str}{tbl:List (Str×Addr)}{i:Expr}{ti:TE}{p pos:Pos} (T:Tab X.K X.w X.mg nm tbl) (hg:Gl X nm) (hi:PE X i ti) (hs:NoSl i) (hd:(nm == ("__debug__":Str))=false:=by decide):
  PE X (.Subscript (.Name nm p) i pos) (tTab tbl ti):=by
 intro pins s σ H Q I h
 obtain ⟨dd,o,es,ep,hm,hk,ho,hda,te⟩:=T
 refine subD_of PySem.F.slot_dict_getitem.lookup hs (ld_glob I hg hm ?_ hd)
 refine thn (hi pins s σ H _ I h) fun iv s2 ⟨y,H2,I2,ry,k,f,ey,l,q2⟩=>?_
 subst ey
 have hh:=I2.kIn dd o hk
 refine ⟨⟨o,hh,ho.1⟩,?_⟩
 obtain ⟨tk,rfl⟩:∃ tk,iv=.str k tk:=ry
 refine wpAny_getItem_of (knd:=strKind X.prog X.w) (k:=k) (f:=fun k=>findBy Value.isStrOf es k) (by show Value.isStrOf k (.str k tk)=true;simp [Value.isStrOf]) ⟨o,es,ep,hh,ho,hda,fun e he=>te.keys e (by simpa using he),fun _=>rfl⟩ (v:=.ref f) ?_ ⟨.ref f,H2,I2.tok _,rfl,q2⟩
 show Option.map (fun x=>x.val) (Array.find? (fun e=>Value.isStrOf k e.key) es)=_
 rw [← Array.find?_toList]
 exact te.find l
def FnT (P:Program) (w:World) (K:PySem.W.Frag) (mg:Str→Option Value) (base:Heap) (CX:CXT) (k:Nat) (ps:List Str) (L:List (Addr×Sp)):Prop:=
 ∀ f sp,(f,sp)∈L→∃ k' fd,k'≤k∧FnOk P w K mg base CX k' f fd ps sp∧PySem.W.keepIn K (.ref f)=true∧L2.Binds K fd ps []
theorem FnT.nil {P:Program}{w:World}{K:PySem.W.Frag}{mg:Str→Option Value}{base:Heap}{CX:CXT}{k:Nat}{ps:List Str}:FnT P w K mg base CX k ps []:=fun _ _ h=>absurd h List.not_mem_nil
theorem FnT.cons {P:Program}{w:World}{K:PySem.W.Frag}{mg:Str→Option Value}{base:Heap}{CX:CXT}{k k':Nat}{ps:List Str}{L:List (Addr×Sp)}{f:Addr}{fd:FuncData}{sp:Sp} (hk:k'≤k) (F:FnOk P w K mg base CX k' f fd ps sp) (hb:L2.Binds K fd ps []) (hp:PySem.W.keepIn K (.ref f)=true) (t:FnT P w K mg base CX k ps L):FnT P w K mg base CX k ps ((f,sp) :: L):=fun g sp' h=>by
 rcases List.mem_cons.mp h with e | h
 ·cases e;exact ⟨k',fd,hk,F,hp,hb⟩
 ·exact t g sp' h
def tCallT (i:Nat) (L:List (Addr×Sp)) (E:XK) (t:TA):TE:=fun σ H Q=>∃ f sp,σ[i]? =some (some (.ref f))∧(f,sp)∈L∧t σ H fun vs H1=>sp vs H1 Q E
theorem i_callT {i:Nat}{L:List (Addr×Sp)}{E:XK}{t:TA}{σ:L2.St}{H:Hp}{Q:VK}{f:Addr} (sp:Sp) (hf:σ[i]? =some (some (.ref f))) (hm:(f,sp)∈L) (h:t σ H fun vs H1=>sp vs H1 Q E):tCallT i L E t σ H Q:=⟨f,sp,hf,hm,h⟩
theorem pe_callT {X:Cx}{CX:CXT}{k i:Nat}{ps:List Str}{L:List (Addr×Sp)}{x:Str}{E:XK}{e:Expr}{es:List Expr}{t:TA}{p pos:Pos} (F:FnT X.prog X.w X.K X.mg X.base CX k ps L) (hr:Room k X.A) (hN:X.N[i]? =some x) (hv:Vis X.env.scope x) (hx:Passes CX X E)
  (ha:PA X (e :: es) t) (hd:(x == ("__debug__":Str))=false:=by decide) (hcd:(x == ("__classdict__":Str))=false:=by decide) (he:starEach (e :: es) X.env=(false,eval e X.env) :: starEach es X.env:=by rfl) (hpl:(backTo pos (starEach es X.env)).any (·.1)=false:=by rfl):
  PE X (.Call (.Name x p) (e :: es) [] pos) (tCallT i L E t):=by
 intro pins s σ H Q I h
 obtain ⟨f,sp,ef,hm,h⟩:=h
 obtain ⟨k',fd,hk,FO,hp,hb⟩:=F f sp hm
 refine wpAny_Call_Name_kw (thn (pe_var hN hv hd hcd pins s σ H (fun v H'=>v=.ref f∧H'=H) I ⟨_,ef,rfl,rfl⟩) fun u s1 ⟨v,H1,I1,r,e1,e2⟩=>?_)
 subst e1 e2
 obtain rfl:u=Value.ref f:=r
 refine PySem.W.callWith_K (h₀:=X.base) I1.ok.mod.kin hp (thn (ha pos pins s1 σ H1 _ I1 h) fun us s2 ⟨vs,H2,I2,r2,q2⟩=>⟨I2.kIn,?_⟩) he hpl
 refine run_fn (dvs:=[]) FO (hr.mono hk) hb .nil hx I2 r2 ?_
 rw [List.append_nil]
 exact q2
section
variable {σ:L2.St}{H:Hp}{Q:VK}{td ty tv:TE}{n bk ct:L2.St→Hp→Prop}{r:VK}
theorem i_dget (h:td σ H fun x H1=>ty σ H1 fun y H2=>∃ a v,x=.ref a∧DGet H2 a y (some v)∧Q v H2):tDGet td ty σ H Q:=h
theorem i_dnotin (h:ty σ H fun y H1=>td σ H1 fun x H2=>∃ a o,x=.ref a∧DGet H2 a y o∧Q (.bl (!o.isSome)) H2):tDNotIn ty td σ H Q:=h
theorem i_dput (h:tv σ H fun v H1=>td σ H1 fun x H2=>ty σ H2 fun y H3=>∃ a H4,x=.ref a∧DPut H3 a y v H4∧n σ H4):sDPut td ty tv ⟨n,r,bk,ct⟩ σ H:=h
theorem dgetS {a:Addr}{kvs:List (L2.Key×V)}{z:Str} (e:H a=some (.dK kvs)):DGet H a (.str z) (valV kvs (Sum.inr z)):=DGet.k (k:=Sum.inr z) e
theorem dputS {a:Addr}{kvs:List (L2.Key×V)}{z:Str}{v:V} (e:H a=some (.dK kvs)) (hl:kvs.length < sizeLine):DPut H a (.str z) v (upd H a (.dK (putK kvs (Sum.inr z) v))):=DPut.k (k:=Sum.inr z) e hl
end
end G
namespace G
open PySem L2 PySem.Spec PyProof.Rows
def LCg2 (K:PySem.W.Frag) (J:It) (caps:List Nat) (tc:TT) (te:TE) (σ:L2.St) (H1:Hp) (Q:VK):Prop:=∃ W:Nat→Nat→List V→Hp→Prop,(∃ m,W 0 m [] H1)∧∀ i m ys H,W i m ys H→
 (J.stop i H∧∀ p,H p=none→Q (.ref p) (upd H p (.lst ys)))∨
 (J.go i H∧ys.length < sizeLine∧∀ x H',J.yld i H x H'→∃ a u v,x=.ref a∧SqT K H' a [u,v]∧tc (some u :: some v :: caps.map (pick σ)) H' fun k H2=>if k=true then te (some u :: some v :: caps.map (pick σ)) H2 (fun y H3=>∃ m',m' < m∧W (i + 1) m' (ys ++ [y]) H3) else ∃ m',m' < m∧W (i + 1) m' ys H2)
def tLC2 (K:PySem.W.Frag) (wi:TI) (caps:List Nat) (tc:TT) (te:TE):TE:=fun σ H Q=>wi σ H fun J H1=>LCg2 K J caps tc te σ H1 Q
theorem i_lcg2 {K:PySem.W.Frag}{wi:TI}{caps:List Nat}{tc:TT}{te:TE}{σ:L2.St}{H:Hp}{Q:VK} (h:wi σ H fun J H1=>LCg2 K J caps tc te σ H1 Q):tLC2 K wi caps tc te σ H Q:=h
def tUnp (K:PySem.W.Frag) (te:TE):TE:=fun σ H Q=>∃ a u v r,σ=some (.ref a) :: r∧SqT K H a [u,v]∧te (some u :: some v :: r) H Q
theorem lcg2_of {K:PySem.W.Frag}{J:It}{caps:List Nat}{te:TE}{σ:L2.St}{H:Hp}{Q:VK} (h:LCg J caps tTrue (tUnp K te) σ H Q):LCg2 K J caps tTrue te σ H Q:=by
 obtain ⟨W,w0,step⟩:=h
 refine ⟨W,w0,fun i m ys H hw=>?_⟩
 rcases step i m ys H hw with z | ⟨g,l,st⟩
 ·exact .inl z
 ·refine .inr ⟨g,l,fun x H' y=>?_⟩
  have h1:=st x H' y
  simp only [tTrue,↓reduceIte] at h1
  obtain ⟨a,u,v,r,e,hs,q⟩:=h1
  cases e
  refine ⟨a,u,v,rfl,hs,?_⟩
  simp only [tTrue,↓reduceIte]
  exact q
theorem pe_lc2 {X:Cx}{elt iter:Expr}{x y:Str}{px py pt pos:Pos}{kt:Nat}{ifs:List Expr}{scope:Scope}{cl:List (Str×Addr)}{wi:TI}{tc:TT}{te:TE}{cns:List Str} (caps:List Nat)
  (hi:PI X (.Tuple [.Name x px,.Name y py] kt pt) iter wi)
  (hf:∀ C s H ex pn,PF (cxLC X scope cl (x :: y :: cns) C s H ex pn) ifs tc) (he:∀ C s H ex pn,PE (cxLC X scope cl (x :: y :: cns) C s H ex pn) elt te) (hc:X.calm=true)
  (hclos:closureFor scope X.env=pure cl) (hcl:AllIn X.env.cells cl) (hcap:CapOk X cns caps)
  (hkind:scope.kind=.function) (hcell:(scope.names.all fun p=>p.2 != .cell)=true) (hfree:(scope.names.all fun p=>p.2 != .free || (cl.lookup p.1).isSome)=true)
  (hcf:(cns.all fun y=>scope.names.lookup y == some .free)=true) (hnames:∀ y∈scope.names,y.2=.local→scope.names.lookup y.1=some .local) (hx:scope.names.lookup x=some .local) (hy:scope.names.lookup y=some .local) (hnd:(x :: y :: cns).Nodup)
  (hs:∀ v,foldedSetIterable iter X.env v=pure v:=by intro _;rfl):
  PE X (.ListComp elt [⟨.Tuple [.Name x px,.Name y py] kt pt,iter,ifs,0⟩] scope pos) (tLC2 X.K wi caps tc te):=by
 intro pins s σ H Q I h
 rw [eval_ListComp]
 refine wpAny_comprehension_free (use:=none) rfl hs hclos hkind hnames (thn (hi pins s σ H _ I h) fun xv s1 h1=>thn h1 fun itv s2 h2=>?_)
 obtain ⟨it,fp,tn,J,H2,rfl,I2,T,st2,f2,W,⟨m0,w0⟩,turn⟩:=h2
 have hne:∀ y∈scope.names,y.2≠.cell:=fun y hy e=>by
  have:=List.all_eq_true.mp hcell y hy
  rw [e] at this;simp at this
 refine wpAny_newObj_type (wpAny_newFunctionEnv hne (by intro y hy;simp at hy) (fun h₁ hns₁ hsb₁=>?_) hkind)
 dsimp only at hns₁ hsb₁ ⊢
 generalize hacc:s2.heap.objs.size=acc
 generalize hH3:s2.heap.push { cls:=.type "list",dict:=none,data:=.seq ([]:List Value).toArray }=h3 at hns₁ hsb₁ ⊢
 have hC:h3.objs.size=acc + 1:=by rw [← hH3,Heap.size_push,hacc]
 have k23:∀ b o,s2.heap.get? b=some o→h3.get? b=some o:=fun b o e=>hH3 ▸ Heap.get?_push_of_some _ e
 have k34:∀ b o,h3.get? b=some o→h₁.get? b=some o:=fun b o e=>hsb₁.extBut b o (Nat.ne_of_lt (Heap.lt_size e)) (Heap.get?_push_of_some _ e)
 have oacc:h3.get? acc=some { cls:=.type "list",dict:=none,data:=.seq ([]:List Value).toArray }:=by
  rw [← hH3,← hacc];exact Heap.get?_push_size _ rfl
 have I3:Inv X pins σ H2 { s2 with heap:=h3 }:=I2.kept (t':=s2.toks) k23
 have facc:FpOk X pins H2 acc:=I2.fpOk (Nat.le_of_eq hacc) (I2.hok.fresh (Nat.le_of_eq hacc))
 have fpl:∀ b∈fp,b < acc:=fun b hb=>by
  obtain ⟨o,e,_⟩:=T.obj _ _ st2 b hb
  rw [← hacc];exact Heap.lt_size e
 have exok:∀ b∈acc :: fp,FpOk X pins H2 b:=fun b hb=>(List.mem_cons.mp hb).elim (fun e=>e ▸ facc) (f2 b)
 have exC:∀ b∈acc :: fp,b≠h3.objs.size:=fun b hb=>by
  rcases List.mem_cons.mp hb with e | hb
  ·rw [hC,e];exact Nat.ne_of_lt (Nat.lt_succ_self _)
  ·rw [hC];exact Nat.ne_of_lt (Nat.lt_succ_of_lt (fpl b hb))
 have stk_no:∀ b∈acc :: fp,b∉frs X.stack:=fun b hb hm=>by
  obtain ⟨_,g1,g2,_⟩:=exok b hb
  exact (List.mem_cons.mp (I2.stkSub b hm)).elim g1 g2
 let Y:Cx:=cxLC X scope cl (x :: y :: cns) h3.objs.size { s2 with heap:=h3 } H2 (acc :: fp) (X.pn ++ pins)
 have cellsOf:∀ y c,cl.lookup y=some c→X.env.cells.lookup y=some c:=fun y c e=>hcl.get e
 have kindY:∀ y k,Y.env.kindOf y=some k→(k=.cell∨k=.free)→∃ c,cl.lookup y=some c:=fun y k e hk=>by
  have e0:(scope.names.lookup y).map (relK X.env y)=some k:=lookup_relabel.symm.trans e
  obtain ⟨k0,e1,e2⟩:=Option.map_eq_some_iff.mp e0
  have e3:=lookup_all hfree e1
  have e4:=lookup_all hcell e1
  by_cases hf:k0=.free
  ·subst hf
   rw [Bool.or_eq_true] at e3
   rcases e3 with e3 | e3
   ·exact absurd rfl (bne_iff_ne.mp e3)
   ·exact Option.isSome_iff_exists.mp e3
  ·exfalso
   have e5:relK X.env y k0=k0:=by
    unfold relK
    rw [if_neg]
    intro z
    rw [Bool.and_eq_true,Bool.and_eq_true] at z
    exact hf (beq_iff_eq.mp z.1.1)
   rw [e5] at e2
   subst e2
   rcases hk with rfl | rfl
   ·simp at e4
   ·exact hf rfl
 have okY:Y.Ok:={
  mod:=I2.ok.mod
  kind:=hkind
  glob:=I2.ok.glob
  blt:=I2.ok.blt
  above:=Nat.le_refl _
  inj:=fun a b c e1 e2=>I2.ok.inj a b c (cellsOf _ _ e1) (cellsOf _ _ e2)
  has:=fun y hy=>hy.elim (fun e=>kindY y _ e (.inl rfl)) (fun e=>kindY y _ e (.inr rfl))
  cab:=fun y c e=>nomatch e
  hd:=I2.ok.hd
  frames:=I2.ok.frames
  stk:=.inl rfl
  exf:=fun b hb=>⟨exC b hb,fun y c e=>(exok b hb).2.2.2.2.1 y c (cellsOf _ _ e)⟩
  bs:=fun b o e=>⟨k23 b o (I2.bs b o e).1,(I2.bs b o e).2⟩
  bsz:=by
   show X.base.objs.size≤h3.objs.size
   rw [hC,← hacc]
   exact Nat.le_succ_of_le (Nat.le_trans I2.ok.bsz I2.sz)
  noex:=fun b o e hb=>by
   rcases (exok b hb).2.2.2.1 with z | z
   ·exact I2.ok.noex b o e z
   ·exact absurd (Nat.lt_of_lt_of_le (Heap.lt_size e) (Nat.le_trans I2.ok.bsz z)) (Nat.lt_irrefl _)
  exfs:=stk_no
  funs:=I3.stack
  frf:=I3.stkFree }
 have lenN:(none :: none :: caps.map (pick σ):L2.St).length=(x :: y :: cns).length:=by rw [List.length_cons,List.length_cons,List.length_cons,List.length_cons,List.length_map,hcap.len]
 have I4:Inv Y [] (none :: none :: caps.map (pick σ)) H2 { s2 with heap:=h₁,toks:=s2.toks + ([]:List (Str×Value)).length }:={
  ok:=okY
  os:=rfl
  bare:=I2.bare
  base:=Un.kept k34
  loc:=by
   refine ⟨_,hns₁,fun i y₁ v e1 e2 e3=>?_⟩
   match i,e1,e2 with
   | 0,e1,e2=>simp at e2
   | 1,e1,e2=>simp at e2
   | i + 2,e1,e2=>
    obtain ⟨j,j1,j2,j3⟩:=hcap.get (σ:=σ) (i:=i) (x:=y₁) (v:=v) (by have e1':(x :: y :: cns)[i + 2]? =some y₁:=e1;simpa using e1') (by simpa using e2)
    obtain ⟨m,hn,hl⟩:=I2.loc
    obtain ⟨u,r,l⟩:=hl j y₁ v j1 j3 (.inr (.inl j2))
    rcases l with ⟨l,_⟩ | ⟨_,c,l1,l2⟩
    ·rw [j2] at l;cases l
    ·refine ⟨u,r,.inr ?_⟩
     rcases e3 with e3 | e3 | e3
     ·exfalso
      have hm:y₁∈cns:=List.mem_of_getElem? (show cns[i]? =some y₁ by have e1':(x :: y :: cns)[i + 2]? =some y₁:=e1;simpa using e1')
      have hl:scope.names.lookup y₁=some .free:=beq_iff_eq.mp (List.all_eq_true.mp hcf y₁ hm)
      have e0:(scope.names.lookup y₁).map (relK X.env y₁)=some .local:=lookup_relabel.symm.trans e3
      rw [hl] at e0
      have e5:relK X.env y₁ .free=.local:=Option.some.inj e0
      unfold relK at e5
      split at e5<;>cases e5
     ·obtain ⟨c',hc'⟩:=kindY y₁ _ e3 (.inl rfl)
      have:=cellsOf _ _ hc'
      rw [l1] at this;cases this
      exact ⟨.inl e3,c,hc',l2.keeps fun b o e=>k34 _ _ (k23 _ _ e)⟩
     ·obtain ⟨c',hc'⟩:=kindY y₁ _ e3 (.inr rfl)
      have:=cellsOf _ _ hc'
      rw [l1] at this;cases this
      exact ⟨.inr e3,c,hc',l2.keeps fun b o e=>k34 _ _ (k23 _ _ e)⟩
  cell:=fun y c e=>by
   obtain ⟨v,z⟩:=I2.cell y c (cellsOf _ _ e)
   exact ⟨v,z.keeps fun b o e=>k34 _ _ (k23 _ _ e)⟩
  free:=I2.hok.fresh (by rw [hacc];show acc≤h3.objs.size;rw [hC];exact Nat.le_succ _)
  freeC:=fun y c e=>I2.freeC y c (cellsOf _ _ e)
  pin:=fun p hp=>by
   have hp2:p∈(X.pn ++ pins) ++ []:=hp
   have hp':p∈X.pn ++ pins:=by rw [List.append_nil] at hp2;exact hp2
   obtain ⟨p1,p2,p3,p4,p5⟩:=I2.pin p hp'
   refine ⟨k34 _ _ (k23 _ _ p1),p2,?_,fun hm=>(List.mem_cons.mp (I2.stkSub _ hm)).elim p3 p4,p5⟩
   exact Nat.ne_of_lt (by show p.1 < h3.objs.size;exact Heap.lt_size (k23 _ _ p1))
  hok:=I2.hok.kept fun b u e=>k34 _ _ (k23 _ _ e)
  len:=lenN }
 have fpY:∀ {H':Hp}{pl:List (Addr×Obj)}{b:Addr},b∈acc :: fp→H' b=none→(∀ p∈pl,p.1≠b)→FpOk Y pl H' b:=fun {H' pl b} hb hn hp=>
  ⟨hn,exC b hb,stk_no b hb,.inl hb,fun y c e=>(exok b hb).2.2.2.2.1 y c (cellsOf _ _ e),fun p hm=>(List.mem_append.mp hm).elim (fun z=>(exok b hb).2.2.2.2.2 p z) (hp p)⟩
 have fin:∀ {σ':L2.St}{H':Hp}{s':Shared}{ys:List V}{its:List Value}{kk:Nat}{pl:List (Addr×Obj)},Inv Y pl σ' H' s'→H' acc=none→Vals ys its→ys.length≤sizeLine→
   s'.heap.get? acc=some { cls:=.type "list",data:=.seq its.toArray kk }→(∀ p,H' p=none→Q (.ref p) (upd H' p (.lst ys)))→
   ∀ h',Heap.SameBut h3.objs.size s'.heap h'→EP X pins σ Q (.ref acc) { s' with heap:=h' }:=fun {σ' H' s' ys its kk pl} J ha hv hz ho hq h' hs'=>by
  have hacC:acc≠h3.objs.size:=exC acc (List.mem_cons_self)
  have keepC:∀ b o,b≠h3.objs.size→s'.heap.get? b=some o→h'.get? b=some o:=fun b o hb e=>hs'.extBut b o hb e
  have ltC:∀ b o,s2.heap.get? b=some o→b≠h3.objs.size:=fun b o e=>Nat.ne_of_lt (Heap.lt_size (k23 b o e))
  have hCfree:H' h3.objs.size=none:=J.free
  have un:Un (frs X.stack) (acc :: fp) H2 H' s2.heap h':={
   keep:=fun b o e n hb hx=>keepC b o (ltC b o e) (J.base.keep b o (k23 b o e) n hb hx)
   slot:=fun b o e n hb hx=>by
    obtain ⟨sl,q⟩:=J.base.slot b o (k23 b o e) n hb hx
    exact ⟨sl,keepC b _ (ltC b o e) q⟩
   free:=fun b o e n hx=>J.base.free b o (k23 b o e) n hx
   there:=fun b o e hx=>by
    obtain ⟨o',q⟩:=J.base.there b o (k23 b o e) hx
    exact ⟨o',keepC b o' (ltC b o e) q⟩
   tups:=J.base.tups
   frzs:=J.base.frzs
   tbls:=J.base.tbls }
  have hok:HOk X.prog X.w H' h':=fun b u e=>by
   refine (J.hok b u e).stay (fun c v hc q=>keepC c v ?_ q) (fun _ q=>q) fun _ _ q=>q
   rintro rfl
   rcases hc with rfl | hc
   ·rw [hCfree] at e;cases e
   ·rw [hCfree] at hc;cases hc
  have I5:Inv X pins σ H' { s' with heap:=h' }:=I2.call' (ch:=acc :: fp) J.os un hok J.bare fun b hb=>by
   obtain ⟨g0,g1,g2,g3,g4,g5⟩:=exok b hb
   exact ⟨g3,g1,g4,g5⟩
  refine ⟨.ref acc,_,adopt (acc:=acc) I5 ?_ (keepC _ _ hacC ho) hv hz,rfl,hq acc ha⟩
  obtain ⟨g0,g1,g2,g3,g4,g5⟩:=facc
  exact ⟨ha,g1,g2,g3,g4,g5⟩
 have loop:codeAny (model X.prog X.w) X.A (.compLoop (.ListComp elt [⟨.Tuple [.Name x px,.Name y py] kt pt,iter,ifs,0⟩] scope pos) 0 (.ref it) (.ref acc) Y.env) (compPost (model X.prog X.w) X.A X.xe none (EP X pins σ Q) (.ref acc) h3.objs.size)
   { s2 with heap:=h₁,toks:=s2.toks + ([]:List (Str×Value)).length }:=by
  refine compLoop_go (fun n s'=>∃ (i:Nat) (v v':Option V) (ys:List V) (its:List Value) (kk:Nat) (H':Hp),Inv Y [] (v :: v' :: caps.map (pick σ)) H' s'∧tn i s'.heap∧(∀ b∈fp,H' b=none)∧H' acc=none∧Vals ys its∧ys.length≤sizeLine∧
   s'.heap.get? acc=some { cls:=.type "list",data:=.seq its.toArray kk }∧W i n ys H') ?_ m0 ⟨0,none,none,[],[],0,H2,I4,T.keep _ _ _ st2 (fun b _ o e=>k34 _ _ (k23 _ _ e)),fun b hb=>(f2 b hb).1,facc.1,.nil,Nat.zero_le _,k34 _ _ oacc,w0⟩
  rintro n s5 ⟨i,v,v',ys,its,kk,H5,I5,st5,fr5,ha5,hv5,hz5,ho5,w5⟩
  have pinA:Inv Y [(acc,{ cls:=.type "list",data:=.seq its.toArray kk })] (v :: v' :: caps.map (pick σ)) H5 s5:=I5.pins_of fun p hp=>by
   have e:p=(acc,{ cls:=.type "list",data:=.seq its.toArray kk }):=by simpa using hp
   subst e
   exact ⟨ho5,ha5,exC acc List.mem_cons_self,stk_no acc List.mem_cons_self,fun v=>by intro z;cases z⟩
  have fpA:∀ {H':Hp},(∀ b∈fp,H' b=none)→∀ b∈fp,FpOk Y [(acc,{ cls:=.type "list",data:=.seq its.toArray kk })] H' b:=fun hn b hb=>fpY (List.mem_cons_of_mem _ hb) (hn b hb) fun p hp=>by
   have e:p=(acc,{ cls:=.type "list",data:=.seq its.toArray kk }):=by simpa using hp
   subst e
   exact (Nat.ne_of_lt (fpl b hb)).symm
  rcases turn i n ys H5 w5 with ⟨stop,qn⟩ | ⟨go,hlt,step⟩
  ·refine thn (T.done Y rfl rfl rfl hc i _ s5 _ H5 (fun _ _=>False) pinA (fpA fr5) st5 stop) fun r s6 ⟨hr,I6⟩=>?_
   subst hr
   obtain ⟨m,hm,_⟩:=I6.loc
   have ho6:=(I6.pin (acc,{ cls:=.type "list",data:=.seq its.toArray kk }) (List.mem_append_right _ List.mem_cons_self)).1
   exact ⟨m,hm,fin I6 ha5 hv5 hz5 ho6 qn⟩
  ·refine thn (T.item Y rfl rfl rfl hc i _ s5 _ H5 (fun _ _=>False) pinA (fpA fr5) st5 go) fun r s6 ⟨u,hr,h6⟩=>?_
   subst hr
   refine thn h6 fun _ s7 ⟨z,H7,I7,r7,y7,st7,fr7⟩=>?_
   have I7':=I7.pinned (fpA fr7) (T.obj _ _ st7)
   obtain ⟨ta,u1,u2,ez,hst,step⟩:=step z H7 y7
   have pg:PG Y (.Tuple [.Name x px,.Name y py] kt pt) (gTup X.K 2 (gCons (gName 0) (gCons (gName 1) gNil))):=pg_tup (X:=Y) hc (pgs_cons (pg_name hnd rfl (.inl (lookup_relabel_local hx)) (.inr (lookup_relabel_local hx))) (pgs_cons (pg_name hnd rfl (.inl (lookup_relabel_local hy)) (.inr (lookup_relabel_local hy))) pgs_nil))
   refine thn (pg _ s7 _ H7 z u (fun σ2 H2'=>σ2=some u1 :: some u2 :: caps.map (pick σ)∧H2'=H7) I7' r7 ⟨ta,_,ez,hst,rfl,_,_,rfl,_,_,rfl,rfl,rfl,rfl⟩) fun _ s8 ⟨σ8,H8,I8,e8,e8'⟩=>?_
   subst e8 e8'
   refine thn (hf _ _ _ _ _ _ s8 _ H8 _ I8 step) fun ok s9 ⟨H9,I9,q9⟩=>?_
   have stat:∀ {H':Hp}{s':Shared}{σ':L2.St},Inv Y ([(acc,{ cls:=.type "list",data:=.seq its.toArray kk })] ++ pinsAt fp s7.heap) σ' H' s'→tn (i + 1) s'.heap∧(∀ b∈fp,H' b=none)∧H' acc=none∧s'.heap.get? acc=some { cls:=.type "list",data:=.seq its.toArray kk }:=fun {H' s' σ'} J=>by
    have pa:=J.pin (acc,{ cls:=.type "list",data:=.seq its.toArray kk }) (List.mem_append_right _ (List.mem_append_left _ List.mem_cons_self))
    refine ⟨T.keep _ _ _ st7 fun b hb o e=>(J.pin (b,o) (List.mem_append_right _ (List.mem_append_right _ (mem_pinsAt hb e)))).1,fun b hb=>?_,pa.2.1,pa.1⟩
    obtain ⟨o,e,d⟩:=T.obj _ _ st7 b hb
    exact (J.pin (b,o) (List.mem_append_right _ (List.mem_append_right _ (mem_pinsAt hb e)))).2.1
   have nopin:∀ {H':Hp}{s':Shared}{σ':L2.St}{pl:List (Addr×Obj)},Inv Y pl σ' H' s'→Inv Y [] σ' H' s':=fun J=>J.pins_of fun p hp=>nomatch hp
   cases ok with
   | false=>
    obtain ⟨m',hm,w9⟩:=q9
    obtain ⟨t1,t2,t3,t4⟩:=stat I9
    exact ⟨m',hm,i + 1,some u1,some u2,ys,its,kk,H9,nopin I9,t1,t2,t3,hv5,hz5,t4,w9⟩
   | true=>
    show wpAny _ _ (eval elt Y.env) _ _ s9
    refine thn (he _ _ _ _ _ _ s9 _ H9 _ I9 q9) fun y s10 ⟨yv,H10,I10,r10,m',hm,w10⟩=>?_
    obtain ⟨t1,t2,t3,t4⟩:=stat I10
    have I10':Inv Y (pinsAt fp s7.heap) (some u1 :: some u2 :: caps.map (pick σ)) H10 s10:=I10.pins_of fun p hp=>I10.pin p (List.mem_append_right _ (List.mem_append_right _ hp))
    have fA:FpOk Y (pinsAt fp s7.heap) H10 acc:=fpY List.mem_cons_self t3 fun p hp=>Nat.ne_of_lt (fpl _ (of_pinsAt hp).1)
    have Ja:=adopt I10' fA t4 hv5 hz5
    refine thn (mt_append (X:=Y) _ s10 _ _ (.ref acc) [yv] (.ref acc) [y] (fun _ H'=>H'=upd (upd H10 acc (.lst ys)) acc (.lst (ys ++ [yv]))) Ja rfl (.cons r10 .nil) ⟨acc,ys,yv,rfl,rfl,upd_same,hlt,rfl⟩) fun _ s11 ⟨_,H11,I11,_,e11⟩=>?_
    rw [upd_upd] at e11
    subst e11
    obtain ⟨hz11,its',kk',hv11,ho11⟩:=I11.hok acc _ upd_same
    have Jd:=disown I11 fA
    have st11:tn (i + 1) s11.heap:=T.keep _ _ _ st7 fun b hb o e=>(Jd.pin (b,o) (List.mem_append_right _ (mem_pinsAt hb e))).1
    exact ⟨m',hm,i + 1,some u1,some u2,ys ++ [yv],its',kk',H10,nopin Jd,st11,t2,t3,hv11,hz11,ho11,w10⟩
 exact codeAny_compStart_list loop (T.self X.A 0 _ _ _ (T.keep _ _ _ st2 (fun b _ o e=>k34 _ _ (k23 _ _ e))) loop)
end G
namespace G
open PySem L2 PySem.Spec PyProof.Rows
theorem ps_lcset {X:Cx}{iz:Nat}{z:Str}{pz posA:Pos}{elt iter:Expr}{x:Str}{px pos:Pos}{ifs:List Expr}{scope:Scope}{cl:List (Str×Addr)}{wi:TI}{tc:TT}{te:TE}{cns:List Str} (caps:List Nat)
  (hi:PI X (.Name x px) iter wi)
  (hf:∀ C s H ex pn,PF (cxLC X scope cl (x :: cns) C s H ex pn) ifs tc) (he:∀ C s H ex pn,PE (cxLC X scope cl (x :: cns) C s H ex pn) elt te) (hc:X.calm=true)
  (hclos:closureFor scope X.env=pure cl) (hcl:AllIn X.env.cells cl) (hcap:CapOk X cns caps)
  (hkind:scope.kind=.function) (hcell:(scope.names.all fun p=>p.2 != .cell)=true) (hfree:(scope.names.all fun p=>p.2 != .free || (cl.lookup p.1).isSome)=true)
  (hcf:(cns.all fun y=>scope.names.lookup y == some .free)=true) (hnames:∀ y∈scope.names,y.2=.local→scope.names.lookup y.1=some .local) (hx:scope.names.lookup x=some .local) (hnd:(x :: cns).Nodup)
  (hN:X.N.Nodup) (hiz:X.N[iz]? =some z) (hz:Loc X.env.scope z) (hfz:X.fn z=true∨X.env.scope.names.lookup z=some .local)
  (hsw:swapsWithSole [.Name z pz] (.ListComp elt [⟨.Name x px,iter,ifs,0⟩] scope pos) posA.line X.env=pure true) (hs:∀ v,foldedSetIterable iter X.env v=pure v:=by intro _;rfl):
  PS X (.Assign [.Name z pz] (.ListComp elt [⟨.Name x px,iter,ifs,0⟩] scope pos) posA) (tAsg (tLC wi caps tc te) (gName iz)):=by
 intro pins s σ H D I h
 generalize hQ:(fun v H1=>gName iz v σ H1 D.nx)=Q
 have h:tLC wi caps tc te σ H Q:=hQ ▸ h
 rw [exec_Assign_arm]
 refine wpAny_bind (wpAny_standAt ?_)
 rw [hsw]
 refine wpAny_bind (wpAny_pure ?_)
 rw [if_pos rfl]
 refine wpAny_bind ?_
 rw [evalThenUse]
 suffices key:wpAny (model X.prog X.w) X.A (comprehension (.ListComp elt [⟨.Name x px,iter,ifs,0⟩] scope pos) scope X.env (firstIterPos [⟨.Name x px,iter,ifs,0⟩] pos) (newList []) (firstAsync [⟨.Name x px,iter,ifs,0⟩]) (firstIter [⟨.Name x px,iter,ifs,0⟩] X.env) (some fun v=>assignAll v ((assignEach [.Name z pz] X.env).map (·.2)))) (fun _ s'=>SP X pins D .next s') X.xe s from
  wpAny_bind (wpAny_mono key (fun _ s' h=>wpAny_pure (wpAny_pure h)) fun _ _ h=>h)
 refine wpAny_comprehension_free rfl hs hclos hkind hnames (thn (hi pins s σ H _ I h) fun xv s1 h1=>thn h1 fun itv s2 h2=>?_)
 obtain ⟨it,fp,tn,J,H2,rfl,I2,T,st2,f2,W,⟨m0,w0⟩,turn⟩:=h2
 have hne:∀ y∈scope.names,y.2≠.cell:=fun y hy e=>by
  have:=List.all_eq_true.mp hcell y hy
  rw [e] at this;simp at this
 refine wpAny_newObj_type (wpAny_newFunctionEnv hne (by intro y hy;simp at hy) (fun h₁ hns₁ hsb₁=>?_) hkind)
 dsimp only at hns₁ hsb₁ ⊢
 generalize hacc:s2.heap.objs.size=acc
 generalize hH3:s2.heap.push { cls:=.type "list",dict:=none,data:=.seq ([]:List Value).toArray }=h3 at hns₁ hsb₁ ⊢
 have hC:h3.objs.size=acc + 1:=by rw [← hH3,Heap.size_push,hacc]
 have k23:∀ b o,s2.heap.get? b=some o→h3.get? b=some o:=fun b o e=>hH3 ▸ Heap.get?_push_of_some _ e
 have k34:∀ b o,h3.get? b=some o→h₁.get? b=some o:=fun b o e=>hsb₁.extBut b o (Nat.ne_of_lt (Heap.lt_size e)) (Heap.get?_push_of_some _ e)
 have oacc:h3.get? acc=some { cls:=.type "list",dict:=none,data:=.seq ([]:List Value).toArray }:=by
  rw [← hH3,← hacc];exact Heap.get?_push_size _ rfl
 have I3:Inv X pins σ H2 { s2 with heap:=h3 }:=I2.kept (t':=s2.toks) k23
 have facc:FpOk X pins H2 acc:=I2.fpOk (Nat.le_of_eq hacc) (I2.hok.fresh (Nat.le_of_eq hacc))
 have fpl:∀ b∈fp,b < acc:=fun b hb=>by
  obtain ⟨o,e,_⟩:=T.obj _ _ st2 b hb
  rw [← hacc];exact Heap.lt_size e
 have exok:∀ b∈acc :: fp,FpOk X pins H2 b:=fun b hb=>(List.mem_cons.mp hb).elim (fun e=>e ▸ facc) (f2 b)
 have exC:∀ b∈acc :: fp,b≠h3.objs.size:=fun b hb=>by
  rcases List.mem_cons.mp hb with e | hb
  ·rw [hC,e];exact Nat.ne_of_lt (Nat.lt_succ_self _)
  ·rw [hC];exact Nat.ne_of_lt (Nat.lt_succ_of_lt (fpl b hb))
 have stk_no:∀ b∈acc :: fp,b∉frs X.stack:=fun b hb hm=>by
  obtain ⟨_,g1,g2,_⟩:=exok b hb
  exact (List.mem_cons.mp (I2.stkSub b hm)).elim g1 g2
 let Y:Cx:=cxLC X scope cl (x :: cns) h3.objs.size { s2 with heap:=h3 } H2 (acc :: fp) (X.pn ++ pins)
 have cellsOf:∀ y c,cl.lookup y=some c→X.env.cells.lookup y=some c:=fun y c e=>hcl.get e
 have kindY:∀ y k,Y.env.kindOf y=some k→(k=.cell∨k=.free)→∃ c,cl.lookup y=some c:=fun y k e hk=>by
  have e0:(scope.names.lookup y).map (relK X.env y)=some k:=lookup_relabel.symm.trans e
  obtain ⟨k0,e1,e2⟩:=Option.map_eq_some_iff.mp e0
  have e3:=lookup_all hfree e1
  have e4:=lookup_all hcell e1
  by_cases hf:k0=.free
  ·subst hf
   rw [Bool.or_eq_true] at e3
   rcases e3 with e3 | e3
   ·exact absurd rfl (bne_iff_ne.mp e3)
   ·exact Option.isSome_iff_exists.mp e3
  ·exfalso
   have e5:relK X.env y k0=k0:=by
    unfold relK
    rw [if_neg]
    intro z
    rw [Bool.and_eq_true,Bool.and_eq_true] at z
    exact hf (beq_iff_eq.mp z.1.1)
   rw [e5] at e2
   subst e2
   rcases hk with rfl | rfl
   ·simp at e4
   ·exact hf rfl
 have okY:Y.Ok:={
  mod:=I2.ok.mod
  kind:=hkind
  glob:=I2.ok.glob
  blt:=I2.ok.blt
  above:=Nat.le_refl _
  inj:=fun a b c e1 e2=>I2.ok.inj a b c (cellsOf _ _ e1) (cellsOf _ _ e2)
  has:=fun y hy=>hy.elim (fun e=>kindY y _ e (.inl rfl)) (fun e=>kindY y _ e (.inr rfl))
  cab:=fun y c e=>nomatch e
  hd:=I2.ok.hd
  frames:=I2.ok.frames
  stk:=.inl rfl
  exf:=fun b hb=>⟨exC b hb,fun y c e=>(exok b hb).2.2.2.2.1 y c (cellsOf _ _ e)⟩
  bs:=fun b o e=>⟨k23 b o (I2.bs b o e).1,(I2.bs b o e).2⟩
  bsz:=by
   show X.base.objs.size≤h3.objs.size
   rw [hC,← hacc]
   exact Nat.le_succ_of_le (Nat.le_trans I2.ok.bsz I2.sz)
  noex:=fun b o e hb=>by
   rcases (exok b hb).2.2.2.1 with z | z
   ·exact I2.ok.noex b o e z
   ·exact absurd (Nat.lt_of_lt_of_le (Heap.lt_size e) (Nat.le_trans I2.ok.bsz z)) (Nat.lt_irrefl _)
  exfs:=stk_no
  funs:=I3.stack
  frf:=I3.stkFree }
 have lenN:(none :: caps.map (pick σ):L2.St).length=(x :: cns).length:=by rw [List.length_cons,List.length_cons,List.length_map,hcap.len]
 have I4:Inv Y [] (none :: caps.map (pick σ)) H2 { s2 with heap:=h₁,toks:=s2.toks + ([]:List (Str×Value)).length }:={
  ok:=okY
  os:=rfl
  bare:=I2.bare
  base:=Un.kept k34
  loc:=by
   refine ⟨_,hns₁,fun i y v e1 e2 e3=>?_⟩
   cases i with
   | zero=>simp at e2
   | succ i=>
    obtain ⟨j,j1,j2,j3⟩:=hcap.get (σ:=σ) (i:=i) (x:=y) (v:=v) (by have e1':(x :: cns)[i + 1]? =some y:=e1;simpa using e1') (by simpa using e2)
    obtain ⟨m,hn,hl⟩:=I2.loc
    obtain ⟨u,r,l⟩:=hl j y v j1 j3 (.inr (.inl j2))
    rcases l with ⟨l,_⟩ | ⟨_,c,l1,l2⟩
    ·rw [j2] at l;cases l
    ·refine ⟨u,r,.inr ?_⟩
     rcases e3 with e3 | e3 | e3
     ·exfalso
      have hm:y∈cns:=List.mem_of_getElem? (show cns[i]? =some y by have e1':(x :: cns)[i + 1]? =some y:=e1;simpa using e1')
      have hl:scope.names.lookup y=some .free:=beq_iff_eq.mp (List.all_eq_true.mp hcf y hm)
      have e0:(scope.names.lookup y).map (relK X.env y)=some .local:=lookup_relabel.symm.trans e3
      rw [hl] at e0
      have e5:relK X.env y .free=.local:=Option.some.inj e0
      unfold relK at e5
      split at e5<;>cases e5
     ·obtain ⟨c',hc'⟩:=kindY y _ e3 (.inl rfl)
      have:=cellsOf _ _ hc'
      rw [l1] at this;cases this
      exact ⟨.inl e3,c,hc',l2.keeps fun b o e=>k34 _ _ (k23 _ _ e)⟩
     ·obtain ⟨c',hc'⟩:=kindY y _ e3 (.inr rfl)
      have:=cellsOf _ _ hc'
      rw [l1] at this;cases this
      exact ⟨.inr e3,c,hc',l2.keeps fun b o e=>k34 _ _ (k23 _ _ e)⟩
  cell:=fun y c e=>by
   obtain ⟨v,z⟩:=I2.cell y c (cellsOf _ _ e)
   exact ⟨v,z.keeps fun b o e=>k34 _ _ (k23 _ _ e)⟩
  free:=I2.hok.fresh (by rw [hacc];show acc≤h3.objs.size;rw [hC];exact Nat.le_succ _)
  freeC:=fun y c e=>I2.freeC y c (cellsOf _ _ e)
  pin:=fun p hp=>by
   have hp2:p∈(X.pn ++ pins) ++ []:=hp
   have hp':p∈X.pn ++ pins:=by rw [List.append_nil] at hp2;exact hp2
   obtain ⟨p1,p2,p3,p4,p5⟩:=I2.pin p hp'
   refine ⟨k34 _ _ (k23 _ _ p1),p2,?_,fun hm=>(List.mem_cons.mp (I2.stkSub _ hm)).elim p3 p4,p5⟩
   exact Nat.ne_of_lt (by show p.1 < h3.objs.size;exact Heap.lt_size (k23 _ _ p1))
  hok:=I2.hok.kept fun b u e=>k34 _ _ (k23 _ _ e)
  len:=lenN }
 have fpY:∀ {H':Hp}{pl:List (Addr×Obj)}{b:Addr},b∈acc :: fp→H' b=none→(∀ p∈pl,p.1≠b)→FpOk Y pl H' b:=fun {H' pl b} hb hn hp=>
  ⟨hn,exC b hb,stk_no b hb,.inl hb,fun y c e=>(exok b hb).2.2.2.2.1 y c (cellsOf _ _ e),fun p hm=>(List.mem_append.mp hm).elim (fun z=>(exok b hb).2.2.2.2.2 p z) (hp p)⟩
 have fin:∀ {σ':L2.St}{H':Hp}{s':Shared}{ys:List V}{its:List Value}{kk:Nat}{pl:List (Addr×Obj)},Inv Y pl σ' H' s'→H' acc=none→Vals ys its→ys.length≤sizeLine→
   s'.heap.get? acc=some { cls:=.type "list",data:=.seq its.toArray kk }→(∀ p,H' p=none→Q (.ref p) (upd H' p (.lst ys)))→
   ∀ h',Heap.SameBut h3.objs.size s'.heap h'→EP X pins σ (fun v Hf=>Q v Hf∧Hf h3.objs.size=none) (.ref acc) { s' with heap:=h' }:=fun {σ' H' s' ys its kk pl} J ha hv hz ho hq h' hs'=>by
  have hacC:acc≠h3.objs.size:=exC acc (List.mem_cons_self)
  have keepC:∀ b o,b≠h3.objs.size→s'.heap.get? b=some o→h'.get? b=some o:=fun b o hb e=>hs'.extBut b o hb e
  have ltC:∀ b o,s2.heap.get? b=some o→b≠h3.objs.size:=fun b o e=>Nat.ne_of_lt (Heap.lt_size (k23 b o e))
  have hCfree:H' h3.objs.size=none:=J.free
  have un:Un (frs X.stack) (acc :: fp) H2 H' s2.heap h':={
   keep:=fun b o e n hb hx=>keepC b o (ltC b o e) (J.base.keep b o (k23 b o e) n hb hx)
   slot:=fun b o e n hb hx=>by
    obtain ⟨sl,q⟩:=J.base.slot b o (k23 b o e) n hb hx
    exact ⟨sl,keepC b _ (ltC b o e) q⟩
   free:=fun b o e n hx=>J.base.free b o (k23 b o e) n hx
   there:=fun b o e hx=>by
    obtain ⟨o',q⟩:=J.base.there b o (k23 b o e) hx
    exact ⟨o',keepC b o' (ltC b o e) q⟩
   tups:=J.base.tups
   frzs:=J.base.frzs
   tbls:=J.base.tbls }
  have hok:HOk X.prog X.w H' h':=fun b u e=>by
   refine (J.hok b u e).stay (fun c v hc q=>keepC c v ?_ q) (fun _ q=>q) fun _ _ q=>q
   rintro rfl
   rcases hc with rfl | hc
   ·rw [hCfree] at e;cases e
   ·rw [hCfree] at hc;cases hc
  have I5:Inv X pins σ H' { s' with heap:=h' }:=I2.call' (ch:=acc :: fp) J.os un hok J.bare fun b hb=>by
   obtain ⟨g0,g1,g2,g3,g4,g5⟩:=exok b hb
   exact ⟨g3,g1,g4,g5⟩
  refine ⟨.ref acc,_,adopt (acc:=acc) I5 ?_ (keepC _ _ hacC ho) hv hz,rfl,hq acc ha,by rw [upd_ne hacC.symm];exact hCfree⟩
  obtain ⟨g0,g1,g2,g3,g4,g5⟩:=facc
  exact ⟨ha,g1,g2,g3,g4,g5⟩
 have loop:codeAny (model X.prog X.w) X.A (.compLoop (.ListComp elt [⟨.Name x px,iter,ifs,0⟩] scope pos) 0 (.ref it) (.ref acc) Y.env) (compPost (model X.prog X.w) X.A X.xe (some fun v=>assignAll v ((assignEach [.Name z pz] X.env).map (·.2))) (fun _ s'=>SP X pins D .next s') (.ref acc) h3.objs.size)
   { s2 with heap:=h₁,toks:=s2.toks + ([]:List (Str×Value)).length }:=by
  refine compLoop_go (fun n s'=>∃ (i:Nat) (v:Option V) (ys:List V) (its:List Value) (kk:Nat) (H':Hp),Inv Y [] (v :: caps.map (pick σ)) H' s'∧tn i s'.heap∧(∀ b∈fp,H' b=none)∧H' acc=none∧Vals ys its∧ys.length≤sizeLine∧
   s'.heap.get? acc=some { cls:=.type "list",data:=.seq its.toArray kk }∧W i n ys H') ?_ m0 ⟨0,none,[],[],0,H2,I4,T.keep _ _ _ st2 (fun b _ o e=>k34 _ _ (k23 _ _ e)),fun b hb=>(f2 b hb).1,facc.1,.nil,Nat.zero_le _,k34 _ _ oacc,w0⟩
  rintro n s5 ⟨i,v,ys,its,kk,H5,I5,st5,fr5,ha5,hv5,hz5,ho5,w5⟩
  have pinA:Inv Y [(acc,{ cls:=.type "list",data:=.seq its.toArray kk })] (v :: caps.map (pick σ)) H5 s5:=I5.pins_of fun p hp=>by
   have e:p=(acc,{ cls:=.type "list",data:=.seq its.toArray kk }):=by simpa using hp
   subst e
   exact ⟨ho5,ha5,exC acc List.mem_cons_self,stk_no acc List.mem_cons_self,fun v=>by intro z;cases z⟩
  have fpA:∀ {H':Hp},(∀ b∈fp,H' b=none)→∀ b∈fp,FpOk Y [(acc,{ cls:=.type "list",data:=.seq its.toArray kk })] H' b:=fun hn b hb=>fpY (List.mem_cons_of_mem _ hb) (hn b hb) fun p hp=>by
   have e:p=(acc,{ cls:=.type "list",data:=.seq its.toArray kk }):=by simpa using hp
   subst e
   exact (Nat.ne_of_lt (fpl b hb)).symm
  rcases turn i n ys H5 w5 with ⟨stop,qn⟩ | ⟨go,hlt,step⟩
  ·refine thn (T.done Y rfl rfl rfl hc i _ s5 _ H5 (fun _ _=>False) pinA (fpA fr5) st5 stop) fun r s6 ⟨hr,I6⟩=>?_
   subst hr
   obtain ⟨m,hm,_⟩:=I6.loc
   have ho6:=(I6.pin (acc,{ cls:=.type "list",data:=.seq its.toArray kk }) (List.mem_append_right _ List.mem_cons_self)).1
   obtain ⟨v,Hf,If,rf,qf,hfC⟩:=fin I6 ha5 hv5 hz5 ho6 qn s6.heap (Heap.SameBut.refl _ _)
   have fC:FpOk X pins Hf h3.objs.size:=I2.fpOk (by rw [hC,hacc];exact Nat.le_succ _) hfC
   obtain ⟨oC,esC,epC,gC,dC,kC,nC⟩:=hm
   have Ip:Inv X (pins ++ [(h3.objs.size,oC)]) σ Hf s6:=Inv.pins_of If fun p hp=>by
    rcases List.mem_append.mp hp with hp | hp
    ·exact If.pin p (List.mem_append_right _ hp)
    ·rw [List.mem_singleton.mp hp]
     exact ⟨gC,fC.1,fC.2.1,fC.2.2.1,fun v z=>by rw [dC] at z;cases z⟩
   show wpAny _ _ (assign (.Name z pz) X.env (.ref acc)) _ _ _
   refine wpAny_assign_Name (store_ok Ip hN hiz hz rf (fun s7 I7=>?_) hfz)
   have g7:=(I7.pin (h3.objs.size,oC) (List.mem_append_right _ (List.mem_append_right _ List.mem_cons_self))).1
   refine ⟨m,⟨oC,esC,epC,g7,dC,kC,nC⟩,fun h' hs'=>?_⟩
   have I8:=I7.unpinned
   have qf:D.nx (σ.set iz (some v)) Hf:=by rw [← hQ] at qf;exact qf
   have kb:∀ b o,b≠h3.objs.size→s7.heap.get? b=some o→h'.get? b=some o:=fun b o hb e=>hs'.extBut b o hb e
   refine ⟨_,Hf,I8.step (ch:=[h3.objs.size]) (fun b hb=>?_) (fun b o _ _ hb e _=>kb b o (fun z=>hb (by rw [z];exact List.mem_cons_self)) e) (fun b o _ _ hb e _=>⟨o.slots,kb b o (fun z=>hb (by rw [z];exact List.mem_cons_self)) e⟩) (fun _ _ _ _ h=>h) (fun b o hb e=>⟨o,kb b o (fun z=>hb (by rw [z];exact List.mem_cons_self)) e⟩) (fun _ _ h=>h) (fun _ _ _ h=>h) (fun _ ps h=>⟨#[],by simpa using h⟩) (fun m' hm'=>?_) (fun b u e=>?_) I8.bare,qf⟩
   ·rw [List.mem_singleton.mp hb]
    exact ⟨fC.2.2.2.1,fC.2.1,fC.2.2.2.2.1,fC.2.2.2.2.2⟩
   ·obtain ⟨o',e1,e2,e3,e4,e5⟩:=hm'
    exact ⟨o',e1,e2,kb _ _ fC.2.1.symm e3,e4,e5⟩
   ·refine (I8.hok b u e).stay (fun c w' hc q=>kb c w' ?_ q) (fun _ q=>q) fun _ _ q=>q
    rintro rfl
    rcases hc with rfl | hc
    ·rw [hfC] at e;cases e
    ·rw [hfC] at hc;cases hc
  ·refine thn (T.item Y rfl rfl rfl hc i _ s5 _ H5 (fun _ _=>False) pinA (fpA fr5) st5 go) fun r s6 ⟨u,hr,h6⟩=>?_
   subst hr
   refine thn h6 fun _ s7 ⟨z,H7,I7,r7,y7,st7,fr7⟩=>?_
   have I7':=I7.pinned (fpA fr7) (T.obj _ _ st7)
   have pg:PG Y (.Name x px) (gName 0):=pg_name hnd rfl (.inl (lookup_relabel_local hx)) (.inr (lookup_relabel_local hx))
   refine thn (pg _ s7 _ H7 z u (fun σ2 H2'=>σ2=some z :: caps.map (pick σ)∧H2'=H7) I7' r7 ⟨rfl,rfl⟩) fun _ s8 ⟨σ8,H8,I8,e8,e8'⟩=>?_
   subst e8 e8'
   refine thn (hf _ _ _ _ _ _ s8 _ H8 _ I8 (step z H8 y7)) fun ok s9 ⟨H9,I9,q9⟩=>?_
   have stat:∀ {H':Hp}{s':Shared}{σ':L2.St},Inv Y ([(acc,{ cls:=.type "list",data:=.seq its.toArray kk })] ++ pinsAt fp s7.heap) σ' H' s'→tn (i + 1) s'.heap∧(∀ b∈fp,H' b=none)∧H' acc=none∧s'.heap.get? acc=some { cls:=.type "list",data:=.seq its.toArray kk }:=fun {H' s' σ'} J=>by
    have pa:=J.pin (acc,{ cls:=.type "list",data:=.seq its.toArray kk }) (List.mem_append_right _ (List.mem_append_left _ List.mem_cons_self))
    refine ⟨T.keep _ _ _ st7 fun b hb o e=>(J.pin (b,o) (List.mem_append_right _ (List.mem_append_right _ (mem_pinsAt hb e)))).1,fun b hb=>?_,pa.2.1,pa.1⟩
    obtain ⟨o,e,d⟩:=T.obj _ _ st7 b hb
    exact (J.pin (b,o) (List.mem_append_right _ (List.mem_append_right _ (mem_pinsAt hb e)))).2.1
   have nopin:∀ {H':Hp}{s':Shared}{σ':L2.St}{pl:List (Addr×Obj)},Inv Y pl σ' H' s'→Inv Y [] σ' H' s':=fun J=>J.pins_of fun p hp=>nomatch hp
   cases ok with
   | false=>
    obtain ⟨m',hm,w9⟩:=q9
    obtain ⟨t1,t2,t3,t4⟩:=stat I9
    exact ⟨m',hm,i + 1,some z,ys,its,kk,H9,nopin I9,t1,t2,t3,hv5,hz5,t4,w9⟩
   | true=>
    show wpAny _ _ (eval elt Y.env) _ _ s9
    refine thn (he _ _ _ _ _ _ s9 _ H9 _ I9 q9) fun y s10 ⟨yv,H10,I10,r10,m',hm,w10⟩=>?_
    obtain ⟨t1,t2,t3,t4⟩:=stat I10
    have I10':Inv Y (pinsAt fp s7.heap) (some z :: caps.map (pick σ)) H10 s10:=I10.pins_of fun p hp=>I10.pin p (List.mem_append_right _ (List.mem_append_right _ hp))
    have fA:FpOk Y (pinsAt fp s7.heap) H10 acc:=fpY List.mem_cons_self t3 fun p hp=>Nat.ne_of_lt (fpl _ (of_pinsAt hp).1)
    have Ja:=adopt I10' fA t4 hv5 hz5
    refine thn (mt_append (X:=Y) _ s10 _ _ (.ref acc) [yv] (.ref acc) [y] (fun _ H'=>H'=upd (upd H10 acc (.lst ys)) acc (.lst (ys ++ [yv]))) Ja rfl (.cons r10 .nil) ⟨acc,ys,yv,rfl,rfl,upd_same,hlt,rfl⟩) fun _ s11 ⟨_,H11,I11,_,e11⟩=>?_
    rw [upd_upd] at e11
    subst e11
    obtain ⟨hz11,its',kk',hv11,ho11⟩:=I11.hok acc _ upd_same
    have Jd:=disown I11 fA
    have st11:tn (i + 1) s11.heap:=T.keep _ _ _ st7 fun b hb o e=>(Jd.pin (b,o) (List.mem_append_right _ (mem_pinsAt hb e))).1
    exact ⟨m',hm,i + 1,some z,ys ++ [yv],its',kk',H10,nopin Jd,st11,t2,t3,hv11,hz11,ho11,w10⟩
 exact codeAny_compStart_list loop (T.self X.A 0 _ _ _ (T.keep _ _ _ st2 (fun b _ o e=>k34 _ _ (k23 _ _ e))) loop)
end G
namespace G
open PySem L2 PySem.Spec PyProof.Rows
def BitsOk (ns:List Int):Prop:=∀ i∈ns,Builtin.Int.intBits i≤2 ^ 20
theorem bits_int {i:Int} (h:(PySem.W.WData.int i).layable=true):Builtin.Int.intBits i≤2 ^ 20:=by
 unfold PySem.W.WData.layable at h
 simp only [Bool.and_eq_true,decide_eq_true_eq] at h
 have:=h.2
 simp [PySem.W.WData.weight] at this
 unfold Builtin.Int.intBits
 simpa using this
theorem walk_ofB {l:PySem.W.OpenLaw}{n k:Nat}{q:Program}{loose:List Str}{XP:(Str→Option Value)→Heap→Prop}{YP:World→Heap→Prop}{d:DefRec}{K:Params→PySem.W.Frag}{CX:World→CXT}{sp:World→Sp}{x:Str}
  (hn:l.most=some n) (hn2:n≤sizeLine) (hdf:d.params.defaults=[]) (hr:Room k callerA)
  (hY:∀ (w:World) (h:Heap),YP w h→(K w.params).In h)
  (F:∀ (w:World) (mg:Str→Option Value) (fa:Addr) (h:Heap),(K w.params).In h→h.Ns mainGlobals mg→mg d.name=some (.ref fa)→
   ∃ fd:FuncData,(∀ (s:Shared) (u:Value),BindsTo s fd ⟨[u],[]⟩ [(x,u)])∧
    ∀ base:Heap,(K w.params).In base→base.Ns mainGlobals mg→FnOk l.prog w (K w.params) mg base (CX w) k fa fd [x] (sp w))
  (hsp:∀ (w:World) (H:Hp) (a:Addr) (ns:List Int),ns.length≤n→Only H→SqL (K w.params) H a (ns.map V.int)→BitsOk ns→sp w [.ref a] H (fun v _=>v=.bl true) fun _ _ _=>False)
  (hCX:∀ (w:World) (H:Hp) (s:Shared) (e:Value) (s':Shared),CX w [] H s (fun _ _ _=>False) e s'→False):
  PySem.W.WalkO q loose XP YP l.row.toRowW d [] (fun f vs=>PySem.call f vs):=by
 intro w s₀ s₁ mg mb G Y fa o pm cd doc dV kV ho hd hcd hD hmg hg args vals as hpre hlay hrd hwl hlo
 obtain rfl:dV=.none:=PySem.W.Dflts.none hD hdf
 obtain rfl:kV=.none:=PySem.W.Dflts.noKw hD
 obtain ⟨a,vs,ns,rfl,rfl,hobj,hints,hlen⟩:=Att.script_of hn hpre hwl
 have hb:BitsOk ns:=fun i hi=>by
  unfold PySem.W.WData.layableAll at hlay
  rw [List.all_cons,Bool.and_eq_true] at hlay
  exact bits_int (PySem.W.layableW_item hlay.1 _ (List.mem_map.mpr ⟨i,hi,rfl⟩))
 have KX:=hY w _ Y
 obtain ⟨fd,hbd,hF⟩:=F w mg fa _ KX G.T.g hmg
 refine PySem.W.enter_call (codeAny_mono (law_call KX G.T.g G.T.b G.T.builtins G.T.nolimit hg hobj hints (Nat.le_trans hlen hn2) hr hF hbd (fun H hO hS=>hsp w H a ns hlen hO hS hb) fun H e s'=>hCX w H s₁ e s') fun r s' hq=>?_)
 obtain ⟨rfl,h2,h3,h4⟩:=hq
 exact ⟨.inl ⟨.bool true,.bool true,[],rfl,fun _=>rfl,.bool true,Att.post_true l _,fun _=>⟨List.Pairwise.nil,fun _ hm=>(nomatch hm)⟩⟩,h2,h3,h4⟩
theorem op_mulW {X:Cx}:OpR X (binaryOp .Mult) (rI IntMulOk fun i j=>.int (i * j)):=opI fun _ _ _ _ _ _ _ hc q=>mul_int q hc
theorem mulW {c:Int} (k:Int) (h:Builtin.Int.intBits c≤2 ^ 20) (hk:Builtin.Int.intBits k≤2 ^ 20):IntMulOk c k:=IntMulOk.of_bits h hk
end G
namespace G
open PySem L2 PySem.Spec PyProof.Rows
end G
namespace G
open PySem L2 PySem.Spec PyProof.Rows
def rEqD0 (neg:Bool):R2:=fun x y H Q=>∃ (a b:Addr) (kvs:List (Key×V)),x=.ref a∧y=.ref b∧Rd H a (.dK kvs)∧Rd H b (.dK [])∧Q (.bl (if neg then !(kvs.length == 0) else kvs.length == 0)) H
theorem i_eqD0 {neg:Bool}{H:Hp}{Q:VK}{a b:Addr}{kvs:List (Key×V)} (h1:H a=some (.dK kvs)) (h2:H b=some (.dK [])) (h:Q (.bl (if neg then !(kvs.length == 0) else kvs.length == 0)) H):rEqD0 neg (.ref a) (.ref b) H Q:=⟨a,b,kvs,rfl,rfl,.inl h1,.inl h2,h⟩
section
variable {X:Cx}
theorem hits0 {P:Program}{w:World}{A:Around}{s:Shared}{ka kb:List (Key×Value)} (h:kb=[]):ka.length=kb.length→PySem.W.KeqHits A s kb ka true:=fun e=>by
 subst h
 have:ka=[]:=by simpa using e
 subst this
 exact .nil
theorem op_eqD0 (hu:X.A.units + 1 < cLine):OpR X (compareOp .Eq) (rEqD0 false):=by
 intro pins s σ H x y v u Q I rx ry h
 obtain ⟨p,q',kvs,rfl,rfl,hx,hy,q⟩:=h
 cases rx
 cases ry
 obtain ⟨_,h1,vs,r1,d1⟩:=dk_rd I.hok hx
 obtain ⟨_,h2,ws,r2,d2⟩:=dk_rd I.hok hy
 have e2:ws=[]:=by cases r2;rfl
 have l1:=r1.length
 refine PySem.W.keq_eq (r:=true) h1 h2 d1 d2 (by omega) (hits0 (P:=X.prog) (w:=X.w) e2) ?_
 refine ⟨.bl (kvs.length == 0),H,I,?_,q⟩
 show Value.bool _=Value.bool _
 rw [e2,Bool.and_true,l1];rfl
end
end G
local macro_rules | `(tactic| walk_at "g2")=>`(tactic| with_reducible first | refine G.i_next ?_ | refine G.i_drop ?_ | refine G.i_ret ?_ | refine G.i_if ?_ | refine G.i_asg ?_ | refine G.i_C ?_ | refine G.i_op ?_ | refine G.i_B ?_ | refine G.i_test ?_ | refine G.i_tB ?_ | refine G.i_and ?_ | refine G.i_or ?_ | refine G.i_not ?_ | refine G.i_andV ?_ | refine G.i_notV ?_ | refine G.i_ifx ?_ | refine G.i_I0 ?_ | refine G.i_eqI ?_ | refine G.i_eqS ?_ | refine G.i_neI ?_ | refine G.i_neS ?_ | refine G.i_isN0 ?_ | refine G.i_isN1 ?_ | refine G.i_isN2 ?_ | refine G.i_isN3 ?_ | refine G.i_isN4 ?_ | refine G.i_notN0 ?_ | refine G.i_notN1 ?_ | refine G.i_iteT ?_ | refine G.i_iteF ?_ | refine G.i_iteNT ?_ | refine G.i_iteNF ?_ | refine G.i_nil ?_ | refine G.i_cons ?_ | refine G.i_lst ?_ | refine G.i_tup ?_ | refine G.i_call ?_ | refine G.i_CB ?_ | refine G.i_make ?_ | refine G.i_fld ?_ | refine G.i_sfld ?_ | refine G.i_meth ?_ | refine G.i_noPart ?_ | refine G.i_part ?_ | refine G.i_kI ?_ | refine G.i_sl ?_ | refine G.i_bm ?_ | refine G.i_for ?_ | refine G.i_iL ?_ | refine G.i_iR ?_ | refine G.i_v0 ?_ | refine G.i_v1 ?_ | refine G.i_v2 ?_ | refine G.i_v3 ?_ | refine G.i_v4 ?_ | refine G.i_v5 ?_ | refine G.i_v6 ?_ | refine G.i_v7 ?_ | refine G.i_g1 ?_ | refine G.i_g2 ?_ | refine G.i_g3 ?_ | refine G.i_g4 ?_ | refine G.i_g5 ?_ | refine G.i_g6 ?_ | refine G.i_g7 ?_ | refine G.i_true ?_ | refine G.i_chain ?_ | refine G.i_raise ?_ | refine G.i_callX ?_ | refine G.i_tryAs ?_ | refine G.i_gsub ?_ | refine G.i_isB ?_ | refine G.i_make0 ?_ | refine G.i_tab ?_ | refine G.i_dget ?_ | refine G.i_dnotin ?_ | refine G.i_dput ?_ | refine G.i_lcg2 ?_ | refine G.i_isiI_int ?_ | refine G.i_isiI_bool ?_ | refine G.i_isiS_int ?_ | refine G.i_isiS_str ?_)
local macro_rules | `(tactic| walk_at "g1")=>`(tactic| first | (with_reducible refine G.i_seq ?_) | walk_at "g2")
local macro_rules | `(tactic| walk_at "ne")=>`(tactic| first | assumption | (exact Ne.symm (by assumption)) | exact L2.ne_of_none (by assumption) (by assumption) | exact Ne.symm (L2.ne_of_none (by assumption) (by assumption)) | exact Nat.ne_of_lt (by assumption))
local macro_rules | `(tactic| walk_at "hp")=>`(tactic| first | assumption | exact L2.upd_same | (refine Eq.trans (L2.upd_ne ?hne) ?_;(case hne=>walk_at "ne");walk_at "hp"))
local macro_rules | `(tactic| walk_at "side")=>`(tactic| first | omega | decide | (show (_:Int) < _;decide) | exact ⟨by decide,by decide⟩ | exact ⟨by decide,by decide,by decide⟩ | (unfold L2.CMul;omega) | exact .inl (by unfold L2.CMul;omega))
local macro_rules | `(tactic| walk_at "ev")=>`(tactic| repeat (first | walk_at "g1" | ((with_reducible refine G.i_I ?hc ?_);(case hc=>walk_at "side"))))
local macro_rules | `(tactic| walk_at "es")=>`(tactic| repeat (first | walk_at "g2" | ((with_reducible refine G.i_I ?hc ?_);(case hc=>walk_at "side"))))
local macro_rules | `(tactic| walk_at "caps")=>`(tactic| simp only [List.map_cons,List.map_nil,G.pick,List.getElem?_cons_zero,List.getElem?_cons_succ])
namespace K21
open PySem L2 G
def cellF (birth:Int) (bulk:Int) (tone:Int) (load:Int) (fa:Addr):List (Str×V):=[("birth",.int birth),("bulk",.int bulk),("tone",.int tone),("load",.int load),("fields",.ref fa)]
theorem cellF_s_bulk_birth:(("bulk":Str) == ("birth":Str))=false:=by decide +kernel
theorem cellF_s_tone_birth:(("tone":Str) == ("birth":Str))=false:=by decide +kernel
theorem cellF_s_tone_bulk:(("tone":Str) == ("bulk":Str))=false:=by decide +kernel
theorem cellF_s_load_birth:(("load":Str) == ("birth":Str))=false:=by decide +kernel
theorem cellF_s_load_bulk:(("load":Str) == ("bulk":Str))=false:=by decide +kernel
theorem cellF_s_load_tone:(("load":Str) == ("tone":Str))=false:=by decide +kernel
theorem cellF_s_fields_birth:(("fields":Str) == ("birth":Str))=false:=by decide +kernel
theorem cellF_s_fields_bulk:(("fields":Str) == ("bulk":Str))=false:=by decide +kernel
theorem cellF_s_fields_tone:(("fields":Str) == ("tone":Str))=false:=by decide +kernel
theorem cellF_s_fields_load:(("fields":Str) == ("load":Str))=false:=by decide +kernel
theorem cellF_lk_birth {birth:Int}{bulk:Int}{tone:Int}{load:Int}{fa:Addr}:List.lookup ("birth":Str) (cellF birth bulk tone load fa)=some (.int birth:V):=by
 unfold cellF
 simp only [List.lookup,beq_self_eq_true]
theorem cellF_lk_bulk {birth:Int}{bulk:Int}{tone:Int}{load:Int}{fa:Addr}:List.lookup ("bulk":Str) (cellF birth bulk tone load fa)=some (.int bulk:V):=by
 unfold cellF
 simp only [List.lookup,beq_self_eq_true,cellF_s_bulk_birth]
theorem cellF_lk_tone {birth:Int}{bulk:Int}{tone:Int}{load:Int}{fa:Addr}:List.lookup ("tone":Str) (cellF birth bulk tone load fa)=some (.int tone:V):=by
 unfold cellF
 simp only [List.lookup,beq_self_eq_true,cellF_s_tone_birth,cellF_s_tone_bulk]
theorem cellF_lk_load {birth:Int}{bulk:Int}{tone:Int}{load:Int}{fa:Addr}:List.lookup ("load":Str) (cellF birth bulk tone load fa)=some (.int load:V):=by
 unfold cellF
 simp only [List.lookup,beq_self_eq_true,cellF_s_load_birth,cellF_s_load_bulk,cellF_s_load_tone]
theorem cellF_lk_fields {birth:Int}{bulk:Int}{tone:Int}{load:Int}{fa:Addr}:List.lookup ("fields":Str) (cellF birth bulk tone load fa)=some (.ref fa:V):=by
 unfold cellF
 simp only [List.lookup,beq_self_eq_true,cellF_s_fields_birth,cellF_s_fields_bulk,cellF_s_fields_tone,cellF_s_fields_load]
theorem cellF_ne {a b:Str} (h:(a == b)=false):¬ b=a:=fun e=>by rw [e,beq_self_eq_true] at h;cases h
theorem cellF_put_tone {birth:Int}{bulk:Int}{tone:Int}{load:Int}{fa:Addr} (y:Int):putF "tone" (.int y) (cellF birth bulk tone load fa)=cellF birth bulk y load fa:=by
 unfold cellF
 simp only [putF,if_true,if_neg (cellF_ne cellF_s_tone_birth),if_neg (cellF_ne cellF_s_tone_bulk)]
theorem cellF_put_load {birth:Int}{bulk:Int}{tone:Int}{load:Int}{fa:Addr} (y:Int):putF "load" (.int y) (cellF birth bulk tone load fa)=cellF birth bulk tone y fa:=by
 unfold cellF
 simp only [putF,if_true,if_neg (cellF_ne cellF_s_load_birth),if_neg (cellF_ne cellF_s_load_bulk),if_neg (cellF_ne cellF_s_load_tone)]
theorem cellF_mk {birth:Int}{bulk:Int}{tone:Int}{load:Int}{fa:Addr}:(putF "fields" (.ref fa) (putF "load" (.int load) (putF "tone" (.int tone) (putF "bulk" (.int bulk) (putF "birth" (.int birth) [])))))=cellF birth bulk tone load fa:=by
 unfold cellF
 simp only [putF,if_neg (cellF_ne cellF_s_bulk_birth),if_neg (cellF_ne cellF_s_tone_birth),if_neg (cellF_ne cellF_s_tone_bulk),if_neg (cellF_ne cellF_s_load_birth),if_neg (cellF_ne cellF_s_load_bulk),if_neg (cellF_ne cellF_s_load_tone),if_neg (cellF_ne cellF_s_fields_birth),if_neg (cellF_ne cellF_s_fields_bulk),if_neg (cellF_ne cellF_s_fields_tone),if_neg (cellF_ne cellF_s_fields_load)]
theorem cellF_s_units_birth:(("units":Str) == ("birth":Str))=false:=by decide +kernel
theorem cellF_s_units_bulk:(("units":Str) == ("bulk":Str))=false:=by decide +kernel
theorem cellF_s_units_tone:(("units":Str) == ("tone":Str))=false:=by decide +kernel
theorem cellF_s_units_load:(("units":Str) == ("load":Str))=false:=by decide +kernel
theorem cellF_s_units_fields:(("units":Str) == ("fields":Str))=false:=by decide +kernel
theorem cellF_no_units {birth:Int}{bulk:Int}{tone:Int}{load:Int}{fa:Addr}:List.lookup ("units":Str) (cellF birth bulk tone load fa)=none:=by
 unfold cellF
 simp only [List.lookup,cellF_s_units_birth,cellF_s_units_bulk,cellF_s_units_tone,cellF_s_units_load,cellF_s_units_fields]
theorem cellF_s_has_field_birth:(("has_field":Str) == ("birth":Str))=false:=by decide +kernel
theorem cellF_s_has_field_bulk:(("has_field":Str) == ("bulk":Str))=false:=by decide +kernel
theorem cellF_s_has_field_tone:(("has_field":Str) == ("tone":Str))=false:=by decide +kernel
theorem cellF_s_has_field_load:(("has_field":Str) == ("load":Str))=false:=by decide +kernel
theorem cellF_s_has_field_fields:(("has_field":Str) == ("fields":Str))=false:=by decide +kernel
theorem cellF_no_has_field {birth:Int}{bulk:Int}{tone:Int}{load:Int}{fa:Addr}:List.lookup ("has_field":Str) (cellF birth bulk tone load fa)=none:=by
 unfold cellF
 simp only [List.lookup,cellF_s_has_field_birth,cellF_s_has_field_bulk,cellF_s_has_field_tone,cellF_s_has_field_load,cellF_s_has_field_fields]
def heapF (room:Int) (ca:Addr) (used:Int) (born:Int):List (Str×V):=[("room",.int room),("cells",.ref ca),("used",.int used),("born",.int born)]
theorem heapF_s_cells_room:(("cells":Str) == ("room":Str))=false:=by decide +kernel
theorem heapF_s_used_room:(("used":Str) == ("room":Str))=false:=by decide +kernel
theorem heapF_s_used_cells:(("used":Str) == ("cells":Str))=false:=by decide +kernel
theorem heapF_s_born_room:(("born":Str) == ("room":Str))=false:=by decide +kernel
theorem heapF_s_born_cells:(("born":Str) == ("cells":Str))=false:=by decide +kernel
theorem heapF_s_born_used:(("born":Str) == ("used":Str))=false:=by decide +kernel
theorem heapF_lk_room {room:Int}{ca:Addr}{used:Int}{born:Int}:List.lookup ("room":Str) (heapF room ca used born)=some (.int room:V):=by
 unfold heapF
 simp only [List.lookup,beq_self_eq_true]
theorem heapF_lk_cells {room:Int}{ca:Addr}{used:Int}{born:Int}:List.lookup ("cells":Str) (heapF room ca used born)=some (.ref ca:V):=by
 unfold heapF
 simp only [List.lookup,beq_self_eq_true,heapF_s_cells_room]
theorem heapF_lk_used {room:Int}{ca:Addr}{used:Int}{born:Int}:List.lookup ("used":Str) (heapF room ca used born)=some (.int used:V):=by
 unfold heapF
 simp only [List.lookup,beq_self_eq_true,heapF_s_used_room,heapF_s_used_cells]
theorem heapF_lk_born {room:Int}{ca:Addr}{used:Int}{born:Int}:List.lookup ("born":Str) (heapF room ca used born)=some (.int born:V):=by
 unfold heapF
 simp only [List.lookup,beq_self_eq_true,heapF_s_born_room,heapF_s_born_cells,heapF_s_born_used]
theorem heapF_ne {a b:Str} (h:(a == b)=false):¬ b=a:=fun e=>by rw [e,beq_self_eq_true] at h;cases h
theorem heapF_put_used {room:Int}{ca:Addr}{used:Int}{born:Int} (y:Int):putF "used" (.int y) (heapF room ca used born)=heapF room ca y born:=by
 unfold heapF
 simp only [putF,if_true,if_neg (heapF_ne heapF_s_used_room),if_neg (heapF_ne heapF_s_used_cells)]
theorem heapF_put_born {room:Int}{ca:Addr}{used:Int}{born:Int} (y:Int):putF "born" (.int y) (heapF room ca used born)=heapF room ca used y:=by
 unfold heapF
 simp only [putF,if_true,if_neg (heapF_ne heapF_s_born_room),if_neg (heapF_ne heapF_s_born_cells),if_neg (heapF_ne heapF_s_born_used)]
theorem heapF_mk {room:Int}{ca:Addr}{used:Int}{born:Int}:(putF "born" (.int born) (putF "used" (.int used) (putF "cells" (.ref ca) (putF "room" (.int room) []))))=heapF room ca used born:=by
 unfold heapF
 simp only [putF,if_neg (heapF_ne heapF_s_cells_room),if_neg (heapF_ne heapF_s_used_room),if_neg (heapF_ne heapF_s_used_cells),if_neg (heapF_ne heapF_s_born_room),if_neg (heapF_ne heapF_s_born_cells),if_neg (heapF_ne heapF_s_born_used)]
theorem heapF_s_make_room:(("make":Str) == ("room":Str))=false:=by decide +kernel
theorem heapF_s_make_cells:(("make":Str) == ("cells":Str))=false:=by decide +kernel
theorem heapF_s_make_used:(("make":Str) == ("used":Str))=false:=by decide +kernel
theorem heapF_s_make_born:(("make":Str) == ("born":Str))=false:=by decide +kernel
theorem heapF_no_make {room:Int}{ca:Addr}{used:Int}{born:Int}:List.lookup ("make":Str) (heapF room ca used born)=none:=by
 unfold heapF
 simp only [List.lookup,heapF_s_make_room,heapF_s_make_cells,heapF_s_make_used,heapF_s_make_born]
theorem heapF_s_lay_room:(("lay":Str) == ("room":Str))=false:=by decide +kernel
theorem heapF_s_lay_cells:(("lay":Str) == ("cells":Str))=false:=by decide +kernel
theorem heapF_s_lay_used:(("lay":Str) == ("used":Str))=false:=by decide +kernel
theorem heapF_s_lay_born:(("lay":Str) == ("born":Str))=false:=by decide +kernel
theorem heapF_no_lay {room:Int}{ca:Addr}{used:Int}{born:Int}:List.lookup ("lay":Str) (heapF room ca used born)=none:=by
 unfold heapF
 simp only [List.lookup,heapF_s_lay_room,heapF_s_lay_cells,heapF_s_lay_used,heapF_s_lay_born]
theorem heapF_s_free_room:(("free":Str) == ("room":Str))=false:=by decide +kernel
theorem heapF_s_free_cells:(("free":Str) == ("cells":Str))=false:=by decide +kernel
theorem heapF_s_free_used:(("free":Str) == ("used":Str))=false:=by decide +kernel
theorem heapF_s_free_born:(("free":Str) == ("born":Str))=false:=by decide +kernel
theorem heapF_no_free {room:Int}{ca:Addr}{used:Int}{born:Int}:List.lookup ("free":Str) (heapF room ca used born)=none:=by
 unfold heapF
 simp only [List.lookup,heapF_s_free_room,heapF_s_free_cells,heapF_s_free_used,heapF_s_free_born]
theorem heapF_s_there_room:(("there":Str) == ("room":Str))=false:=by decide +kernel
theorem heapF_s_there_cells:(("there":Str) == ("cells":Str))=false:=by decide +kernel
theorem heapF_s_there_used:(("there":Str) == ("used":Str))=false:=by decide +kernel
theorem heapF_s_there_born:(("there":Str) == ("born":Str))=false:=by decide +kernel
theorem heapF_no_there {room:Int}{ca:Addr}{used:Int}{born:Int}:List.lookup ("there":Str) (heapF room ca used born)=none:=by
 unfold heapF
 simp only [List.lookup,heapF_s_there_room,heapF_s_there_cells,heapF_s_there_used,heapF_s_there_born]
def kindF (lk:Addr) (tl:Int):List (Str×V):=[("looking",.ref lk),("tells",.int tl)]
theorem kindF_s_tells_looking:(("tells":Str) == ("looking":Str))=false:=by decide +kernel
theorem kindF_lk_looking {lk:Addr}{tl:Int}:List.lookup ("looking":Str) (kindF lk tl)=some (.ref lk:V):=by
 unfold kindF
 simp only [List.lookup,beq_self_eq_true]
theorem kindF_lk_tells {lk:Addr}{tl:Int}:List.lookup ("tells":Str) (kindF lk tl)=some (.int tl:V):=by
 unfold kindF
 simp only [List.lookup,beq_self_eq_true,kindF_s_tells_looking]
theorem kindF_ne {a b:Str} (h:(a == b)=false):¬ b=a:=fun e=>by rw [e,beq_self_eq_true] at h;cases h
theorem kindF_mk {lk:Addr}{tl:Int}:(putF "tells" (.int tl) (putF "looking" (.ref lk) []))=kindF lk tl:=by
 unfold kindF
 simp only [putF,if_neg (kindF_ne kindF_s_tells_looking)]
theorem kindF_s_words_looking:(("words":Str) == ("looking":Str))=false:=by decide +kernel
theorem kindF_s_words_tells:(("words":Str) == ("tells":Str))=false:=by decide +kernel
theorem kindF_no_words {lk:Addr}{tl:Int}:List.lookup ("words":Str) (kindF lk tl)=none:=by
 unfold kindF
 simp only [List.lookup,kindF_s_words_looking,kindF_s_words_tells]
def handF (nm:Str) (sa:Addr):List (Str×V):=[("name",.str nm),("slots",.ref sa)]
theorem handF_s_slots_name:(("slots":Str) == ("name":Str))=false:=by decide +kernel
theorem handF_lk_slots {nm:Str}{sa:Addr}:List.lookup ("slots":Str) (handF nm sa)=some (.ref sa:V):=by
 unfold handF
 simp only [List.lookup,beq_self_eq_true,handF_s_slots_name]
theorem handF_ne {a b:Str} (h:(a == b)=false):¬ b=a:=fun e=>by rw [e,beq_self_eq_true] at h;cases h
theorem handF_mk {nm:Str}{sa:Addr}:(putF "slots" (.ref sa) (putF "name" (.str nm) []))=handF nm sa:=by
 unfold handF
 simp only [putF,if_neg (handF_ne handF_s_slots_name)]
def worldF (hp:Addr) (ki:Addr) (hl:Addr) (nm:Addr) (sw:Addr):List (Str×V):=[("heap",.ref hp),("kind",.ref ki),("hands",.ref hl),("names",.ref nm),("sweeper",.ref sw)]
theorem worldF_s_kind_heap:(("kind":Str) == ("heap":Str))=false:=by decide +kernel
theorem worldF_s_hands_heap:(("hands":Str) == ("heap":Str))=false:=by decide +kernel
theorem worldF_s_hands_kind:(("hands":Str) == ("kind":Str))=false:=by decide +kernel
theorem worldF_s_names_heap:(("names":Str) == ("heap":Str))=false:=by decide +kernel
theorem worldF_s_names_kind:(("names":Str) == ("kind":Str))=false:=by decide +kernel
theorem worldF_s_names_hands:(("names":Str) == ("hands":Str))=false:=by decide +kernel
theorem worldF_s_sweeper_heap:(("sweeper":Str) == ("heap":Str))=false:=by decide +kernel
theorem worldF_s_sweeper_kind:(("sweeper":Str) == ("kind":Str))=false:=by decide +kernel
theorem worldF_s_sweeper_hands:(("sweeper":Str) == ("hands":Str))=false:=by decide +kernel
theorem worldF_s_sweeper_names:(("sweeper":Str) == ("names":Str))=false:=by decide +kernel
theorem Zat {hp:Addr}{ki:Addr}{hl:Addr}{nm:Addr}{sw:Addr}:List.lookup ("heap":Str) (worldF hp ki hl nm sw)=some (.ref hp:V):=by
 unfold worldF
 simp only [List.lookup,beq_self_eq_true]
theorem worldF_lk_kind {hp:Addr}{ki:Addr}{hl:Addr}{nm:Addr}{sw:Addr}:List.lookup ("kind":Str) (worldF hp ki hl nm sw)=some (.ref ki:V):=by
 unfold worldF
 simp only [List.lookup,beq_self_eq_true,worldF_s_kind_heap]
theorem worldF_lk_hands {hp:Addr}{ki:Addr}{hl:Addr}{nm:Addr}{sw:Addr}:List.lookup ("hands":Str) (worldF hp ki hl nm sw)=some (.ref hl:V):=by
 unfold worldF
 simp only [List.lookup,beq_self_eq_true,worldF_s_hands_heap,worldF_s_hands_kind]
theorem worldF_lk_names {hp:Addr}{ki:Addr}{hl:Addr}{nm:Addr}{sw:Addr}:List.lookup ("names":Str) (worldF hp ki hl nm sw)=some (.ref nm:V):=by
 unfold worldF
 simp only [List.lookup,beq_self_eq_true,worldF_s_names_heap,worldF_s_names_kind,worldF_s_names_hands]
theorem worldF_lk_sweeper {hp:Addr}{ki:Addr}{hl:Addr}{nm:Addr}{sw:Addr}:List.lookup ("sweeper":Str) (worldF hp ki hl nm sw)=some (.ref sw:V):=by
 unfold worldF
 simp only [List.lookup,beq_self_eq_true,worldF_s_sweeper_heap,worldF_s_sweeper_kind,worldF_s_sweeper_hands,worldF_s_sweeper_names]
theorem worldF_ne {a b:Str} (h:(a == b)=false):¬ b=a:=fun e=>by rw [e,beq_self_eq_true] at h;cases h
theorem worldF_mk {hp:Addr}{ki:Addr}{hl:Addr}{nm:Addr}{sw:Addr}:(putF "sweeper" (.ref sw) (putF "names" (.ref nm) (putF "hands" (.ref hl) (putF "kind" (.ref ki) (putF "heap" (.ref hp) [])))))=worldF hp ki hl nm sw:=by
 unfold worldF
 simp only [putF,if_neg (worldF_ne worldF_s_kind_heap),if_neg (worldF_ne worldF_s_hands_heap),if_neg (worldF_ne worldF_s_hands_kind),if_neg (worldF_ne worldF_s_names_heap),if_neg (worldF_ne worldF_s_names_kind),if_neg (worldF_ne worldF_s_names_hands),if_neg (worldF_ne worldF_s_sweeper_heap),if_neg (worldF_ne worldF_s_sweeper_kind),if_neg (worldF_ne worldF_s_sweeper_hands),if_neg (worldF_ne worldF_s_sweeper_names)]
def sweepF (se:Int) (ph:Str) (gr:Addr) (lo:Int) (tu:Int) (at_:Int) (st:Int) (wa:Int) (ls:Int) (pa:Int) (lx:V):List (Str×V):=[("sense",.int se),("phase",.str ph),("grey",.ref gr),("looked",.int lo),("turn",.int tu),("at",.int at_),("stop",.int st),("walks",.int wa),("looks",.int ls),("passes",.int pa),("loss",lx)]
theorem sweepF_s_phase_sense:(("phase":Str) == ("sense":Str))=false:=by decide +kernel
theorem sweepF_s_grey_sense:(("grey":Str) == ("sense":Str))=false:=by decide +kernel
theorem sweepF_s_grey_phase:(("grey":Str) == ("phase":Str))=false:=by decide +kernel
theorem sweepF_s_looked_sense:(("looked":Str) == ("sense":Str))=false:=by decide +kernel
theorem sweepF_s_looked_phase:(("looked":Str) == ("phase":Str))=false:=by decide +kernel
theorem sweepF_s_looked_grey:(("looked":Str) == ("grey":Str))=false:=by decide +kernel
theorem sweepF_s_turn_sense:(("turn":Str) == ("sense":Str))=false:=by decide +kernel
theorem sweepF_s_turn_phase:(("turn":Str) == ("phase":Str))=false:=by decide +kernel
theorem sweepF_s_turn_grey:(("turn":Str) == ("grey":Str))=false:=by decide +kernel
theorem sweepF_s_turn_looked:(("turn":Str) == ("looked":Str))=false:=by decide +kernel
theorem sweepF_s_at_sense:(("at":Str) == ("sense":Str))=false:=by decide +kernel
theorem sweepF_s_at_phase:(("at":Str) == ("phase":Str))=false:=by decide +kernel
theorem sweepF_s_at_grey:(("at":Str) == ("grey":Str))=false:=by decide +kernel
theorem sweepF_s_at_looked:(("at":Str) == ("looked":Str))=false:=by decide +kernel
theorem sweepF_s_at_turn:(("at":Str) == ("turn":Str))=false:=by decide +kernel
theorem sweepF_s_stop_sense:(("stop":Str) == ("sense":Str))=false:=by decide +kernel
theorem sweepF_s_stop_phase:(("stop":Str) == ("phase":Str))=false:=by decide +kernel
theorem sweepF_s_stop_grey:(("stop":Str) == ("grey":Str))=false:=by decide +kernel
theorem sweepF_s_stop_looked:(("stop":Str) == ("looked":Str))=false:=by decide +kernel
theorem sweepF_s_stop_turn:(("stop":Str) == ("turn":Str))=false:=by decide +kernel
theorem sweepF_s_stop_at:(("stop":Str) == ("at":Str))=false:=by decide +kernel
theorem sweepF_s_walks_sense:(("walks":Str) == ("sense":Str))=false:=by decide +kernel
theorem sweepF_s_walks_phase:(("walks":Str) == ("phase":Str))=false:=by decide +kernel
theorem sweepF_s_walks_grey:(("walks":Str) == ("grey":Str))=false:=by decide +kernel
theorem sweepF_s_walks_looked:(("walks":Str) == ("looked":Str))=false:=by decide +kernel
theorem sweepF_s_walks_turn:(("walks":Str) == ("turn":Str))=false:=by decide +kernel
theorem sweepF_s_walks_at:(("walks":Str) == ("at":Str))=false:=by decide +kernel
theorem sweepF_s_walks_stop:(("walks":Str) == ("stop":Str))=false:=by decide +kernel
theorem sweepF_s_looks_sense:(("looks":Str) == ("sense":Str))=false:=by decide +kernel
theorem sweepF_s_looks_phase:(("looks":Str) == ("phase":Str))=false:=by decide +kernel
theorem sweepF_s_looks_grey:(("looks":Str) == ("grey":Str))=false:=by decide +kernel
theorem sweepF_s_looks_looked:(("looks":Str) == ("looked":Str))=false:=by decide +kernel
theorem sweepF_s_looks_turn:(("looks":Str) == ("turn":Str))=false:=by decide +kernel
theorem sweepF_s_looks_at:(("looks":Str) == ("at":Str))=false:=by decide +kernel
theorem sweepF_s_looks_stop:(("looks":Str) == ("stop":Str))=false:=by decide +kernel
theorem sweepF_s_looks_walks:(("looks":Str) == ("walks":Str))=false:=by decide +kernel
theorem sweepF_s_passes_sense:(("passes":Str) == ("sense":Str))=false:=by decide +kernel
theorem sweepF_s_passes_phase:(("passes":Str) == ("phase":Str))=false:=by decide +kernel
theorem sweepF_s_passes_grey:(("passes":Str) == ("grey":Str))=false:=by decide +kernel
theorem sweepF_s_passes_looked:(("passes":Str) == ("looked":Str))=false:=by decide +kernel
theorem sweepF_s_passes_turn:(("passes":Str) == ("turn":Str))=false:=by decide +kernel
theorem sweepF_s_passes_at:(("passes":Str) == ("at":Str))=false:=by decide +kernel
theorem sweepF_s_passes_stop:(("passes":Str) == ("stop":Str))=false:=by decide +kernel
theorem sweepF_s_passes_walks:(("passes":Str) == ("walks":Str))=false:=by decide +kernel
theorem sweepF_s_passes_looks:(("passes":Str) == ("looks":Str))=false:=by decide +kernel
theorem sweepF_s_loss_sense:(("loss":Str) == ("sense":Str))=false:=by decide +kernel
theorem sweepF_s_loss_phase:(("loss":Str) == ("phase":Str))=false:=by decide +kernel
theorem sweepF_s_loss_grey:(("loss":Str) == ("grey":Str))=false:=by decide +kernel
theorem sweepF_s_loss_looked:(("loss":Str) == ("looked":Str))=false:=by decide +kernel
theorem sweepF_s_loss_turn:(("loss":Str) == ("turn":Str))=false:=by decide +kernel
theorem sweepF_s_loss_at:(("loss":Str) == ("at":Str))=false:=by decide +kernel
theorem sweepF_s_loss_stop:(("loss":Str) == ("stop":Str))=false:=by decide +kernel
theorem sweepF_s_loss_walks:(("loss":Str) == ("walks":Str))=false:=by decide +kernel
theorem sweepF_s_loss_looks:(("loss":Str) == ("looks":Str))=false:=by decide +kernel
theorem sweepF_s_loss_passes:(("loss":Str) == ("passes":Str))=false:=by decide +kernel
theorem sweepF_lk_sense {se:Int}{ph:Str}{gr:Addr}{lo:Int}{tu:Int}{at_:Int}{st:Int}{wa:Int}{ls:Int}{pa:Int}{lx:V}:List.lookup ("sense":Str) (sweepF se ph gr lo tu at_ st wa ls pa lx)=some (.int se:V):=by
 unfold sweepF
 simp only [List.lookup,beq_self_eq_true]
theorem sweepF_lk_phase {se:Int}{ph:Str}{gr:Addr}{lo:Int}{tu:Int}{at_:Int}{st:Int}{wa:Int}{ls:Int}{pa:Int}{lx:V}:List.lookup ("phase":Str) (sweepF se ph gr lo tu at_ st wa ls pa lx)=some (.str ph:V):=by
 unfold sweepF
 simp only [List.lookup,beq_self_eq_true,sweepF_s_phase_sense]
theorem sweepF_lk_grey {se:Int}{ph:Str}{gr:Addr}{lo:Int}{tu:Int}{at_:Int}{st:Int}{wa:Int}{ls:Int}{pa:Int}{lx:V}:List.lookup ("grey":Str) (sweepF se ph gr lo tu at_ st wa ls pa lx)=some (.ref gr:V):=by
 unfold sweepF
 simp only [List.lookup,beq_self_eq_true,sweepF_s_grey_sense,sweepF_s_grey_phase]
theorem sweepF_lk_looked {se:Int}{ph:Str}{gr:Addr}{lo:Int}{tu:Int}{at_:Int}{st:Int}{wa:Int}{ls:Int}{pa:Int}{lx:V}:List.lookup ("looked":Str) (sweepF se ph gr lo tu at_ st wa ls pa lx)=some (.int lo:V):=by
 unfold sweepF
 simp only [List.lookup,beq_self_eq_true,sweepF_s_looked_sense,sweepF_s_looked_phase,sweepF_s_looked_grey]
theorem sweepF_lk_turn {se:Int}{ph:Str}{gr:Addr}{lo:Int}{tu:Int}{at_:Int}{st:Int}{wa:Int}{ls:Int}{pa:Int}{lx:V}:List.lookup ("turn":Str) (sweepF se ph gr lo tu at_ st wa ls pa lx)=some (.int tu:V):=by
 unfold sweepF
 simp only [List.lookup,beq_self_eq_true,sweepF_s_turn_sense,sweepF_s_turn_phase,sweepF_s_turn_grey,sweepF_s_turn_looked]
theorem Za2 {a b:Str} (h:(a == b)=false):¬ b=a:=fun e=>by rw [e,beq_self_eq_true] at h;cases h
theorem sweepF_put_sense {se:Int}{ph:Str}{gr:Addr}{lo:Int}{tu:Int}{at_:Int}{st:Int}{wa:Int}{ls:Int}{pa:Int}{lx:V} (y:Int):putF "sense" (.int y) (sweepF se ph gr lo tu at_ st wa ls pa lx)=sweepF y ph gr lo tu at_ st wa ls pa lx:=by
 unfold sweepF
 simp only [putF,if_true]
theorem sweepF_put_phase {se:Int}{ph:Str}{gr:Addr}{lo:Int}{tu:Int}{at_:Int}{st:Int}{wa:Int}{ls:Int}{pa:Int}{lx:V} (y:Str):putF "phase" (.str y) (sweepF se ph gr lo tu at_ st wa ls pa lx)=sweepF se y gr lo tu at_ st wa ls pa lx:=by
 unfold sweepF
 simp only [putF,if_true,if_neg (Za2 sweepF_s_phase_sense)]
theorem sweepF_put_grey {se:Int}{ph:Str}{gr:Addr}{lo:Int}{tu:Int}{at_:Int}{st:Int}{wa:Int}{ls:Int}{pa:Int}{lx:V} (y:Addr):putF "grey" (.ref y) (sweepF se ph gr lo tu at_ st wa ls pa lx)=sweepF se ph y lo tu at_ st wa ls pa lx:=by
 unfold sweepF
 simp only [putF,if_true,if_neg (Za2 sweepF_s_grey_sense),if_neg (Za2 sweepF_s_grey_phase)]
theorem sweepF_put_looked {se:Int}{ph:Str}{gr:Addr}{lo:Int}{tu:Int}{at_:Int}{st:Int}{wa:Int}{ls:Int}{pa:Int}{lx:V} (y:Int):putF "looked" (.int y) (sweepF se ph gr lo tu at_ st wa ls pa lx)=sweepF se ph gr y tu at_ st wa ls pa lx:=by
 unfold sweepF
 simp only [putF,if_true,if_neg (Za2 sweepF_s_looked_sense),if_neg (Za2 sweepF_s_looked_phase),if_neg (Za2 sweepF_s_looked_grey)]
theorem sweepF_put_turn {se:Int}{ph:Str}{gr:Addr}{lo:Int}{tu:Int}{at_:Int}{st:Int}{wa:Int}{ls:Int}{pa:Int}{lx:V} (y:Int):putF "turn" (.int y) (sweepF se ph gr lo tu at_ st wa ls pa lx)=sweepF se ph gr lo y at_ st wa ls pa lx:=by
 unfold sweepF
 simp only [putF,if_true,if_neg (Za2 sweepF_s_turn_sense),if_neg (Za2 sweepF_s_turn_phase),if_neg (Za2 sweepF_s_turn_grey),if_neg (Za2 sweepF_s_turn_looked)]
theorem sweepF_put_walks {se:Int}{ph:Str}{gr:Addr}{lo:Int}{tu:Int}{at_:Int}{st:Int}{wa:Int}{ls:Int}{pa:Int}{lx:V} (y:Int):putF "walks" (.int y) (sweepF se ph gr lo tu at_ st wa ls pa lx)=sweepF se ph gr lo tu at_ st y ls pa lx:=by
 unfold sweepF
 simp only [putF,if_true,if_neg (Za2 sweepF_s_walks_sense),if_neg (Za2 sweepF_s_walks_phase),if_neg (Za2 sweepF_s_walks_grey),if_neg (Za2 sweepF_s_walks_looked),if_neg (Za2 sweepF_s_walks_turn),if_neg (Za2 sweepF_s_walks_at),if_neg (Za2 sweepF_s_walks_stop)]
theorem sweepF_put_looks {se:Int}{ph:Str}{gr:Addr}{lo:Int}{tu:Int}{at_:Int}{st:Int}{wa:Int}{ls:Int}{pa:Int}{lx:V} (y:Int):putF "looks" (.int y) (sweepF se ph gr lo tu at_ st wa ls pa lx)=sweepF se ph gr lo tu at_ st wa y pa lx:=by
 unfold sweepF
 simp only [putF,if_true,if_neg (Za2 sweepF_s_looks_sense),if_neg (Za2 sweepF_s_looks_phase),if_neg (Za2 sweepF_s_looks_grey),if_neg (Za2 sweepF_s_looks_looked),if_neg (Za2 sweepF_s_looks_turn),if_neg (Za2 sweepF_s_looks_at),if_neg (Za2 sweepF_s_looks_stop),if_neg (Za2 sweepF_s_looks_walks)]
theorem sweepF_put_passes {se:Int}{ph:Str}{gr:Addr}{lo:Int}{tu:Int}{at_:Int}{st:Int}{wa:Int}{ls:Int}{pa:Int}{lx:V} (y:Int):putF "passes" (.int y) (sweepF se ph gr lo tu at_ st wa ls pa lx)=sweepF se ph gr lo tu at_ st wa ls y lx:=by
 unfold sweepF
 simp only [putF,if_true,if_neg (Za2 sweepF_s_passes_sense),if_neg (Za2 sweepF_s_passes_phase),if_neg (Za2 sweepF_s_passes_grey),if_neg (Za2 sweepF_s_passes_looked),if_neg (Za2 sweepF_s_passes_turn),if_neg (Za2 sweepF_s_passes_at),if_neg (Za2 sweepF_s_passes_stop),if_neg (Za2 sweepF_s_passes_walks),if_neg (Za2 sweepF_s_passes_looks)]
theorem sweepF_mk {se:Int}{ph:Str}{gr:Addr}{lo:Int}{tu:Int}{at_:Int}{st:Int}{wa:Int}{ls:Int}{pa:Int}{lx:V}:(putF "loss" (lx) (putF "passes" (.int pa) (putF "looks" (.int ls) (putF "walks" (.int wa) (putF "stop" (.int st) (putF "at" (.int at_) (putF "turn" (.int tu) (putF "looked" (.int lo) (putF "grey" (.ref gr) (putF "phase" (.str ph) (putF "sense" (.int se) [])))))))))))=sweepF se ph gr lo tu at_ st wa ls pa lx:=by
 unfold sweepF
 simp only [putF,if_neg (Za2 sweepF_s_phase_sense),if_neg (Za2 sweepF_s_grey_sense),if_neg (Za2 sweepF_s_grey_phase),if_neg (Za2 sweepF_s_looked_sense),if_neg (Za2 sweepF_s_looked_phase),if_neg (Za2 sweepF_s_looked_grey),if_neg (Za2 sweepF_s_turn_sense),if_neg (Za2 sweepF_s_turn_phase),if_neg (Za2 sweepF_s_turn_grey),if_neg (Za2 sweepF_s_turn_looked),if_neg (Za2 sweepF_s_at_sense),if_neg (Za2 sweepF_s_at_phase),if_neg (Za2 sweepF_s_at_grey),if_neg (Za2 sweepF_s_at_looked),if_neg (Za2 sweepF_s_at_turn),if_neg (Za2 sweepF_s_stop_sense),if_neg (Za2 sweepF_s_stop_phase),if_neg (Za2 sweepF_s_stop_grey),if_neg (Za2 sweepF_s_stop_looked),if_neg (Za2 sweepF_s_stop_turn),if_neg (Za2 sweepF_s_stop_at),if_neg (Za2 sweepF_s_walks_sense),if_neg (Za2 sweepF_s_walks_phase),if_neg (Za2 sweepF_s_walks_grey),if_neg (Za2 sweepF_s_walks_looked),if_neg (Za2 sweepF_s_walks_turn),if_neg (Za2 sweepF_s_walks_at),if_neg (Za2 sweepF_s_walks_stop),if_neg (Za2 sweepF_s_looks_sense),if_neg (Za2 sweepF_s_looks_phase),if_neg (Za2 sweepF_s_looks_grey),if_neg (Za2 sweepF_s_looks_looked),if_neg (Za2 sweepF_s_looks_turn),if_neg (Za2 sweepF_s_looks_at),if_neg (Za2 sweepF_s_looks_stop),if_neg (Za2 sweepF_s_looks_walks),if_neg (Za2 sweepF_s_passes_sense),if_neg (Za2 sweepF_s_passes_phase),if_neg (Za2 sweepF_s_passes_grey),if_neg (Za2 sweepF_s_passes_looked),if_neg (Za2 sweepF_s_passes_turn),if_neg (Za2 sweepF_s_passes_at),if_neg (Za2 sweepF_s_passes_stop),if_neg (Za2 sweepF_s_passes_walks),if_neg (Za2 sweepF_s_passes_looks),if_neg (Za2 sweepF_s_loss_sense),if_neg (Za2 sweepF_s_loss_phase),if_neg (Za2 sweepF_s_loss_grey),if_neg (Za2 sweepF_s_loss_looked),if_neg (Za2 sweepF_s_loss_turn),if_neg (Za2 sweepF_s_loss_at),if_neg (Za2 sweepF_s_loss_stop),if_neg (Za2 sweepF_s_loss_walks),if_neg (Za2 sweepF_s_loss_looks),if_neg (Za2 sweepF_s_loss_passes)]
def rd_Cell___init__ (K:PySem.W.Frag):TS:=
 (tSeq (sFld K (tVar 0) (tVar 1) "birth")
   (tSeq (sFld K (tVar 0) (tVar 3) "bulk")
   (tSeq (sFld K (tVar 0) (tVar 4) "tone")
   (tSeq (sFld K (tVar 0) (tC (.int 0)) "load")
   (sFld K (tVar 0) (tOp (rRep) (tLst (tCons (tC .non) tNil)) (tVar 2)) "fields")))))
def rd_Cell_units (K:PySem.W.Frag):TS:=
 (tRet (tOp (rI0 fun i j=>.int (i + j)) (tOp (rI0 fun i j=>.int (i + j)) (tC (.int 1)) (tCB (G.cLenL K) (tCons (tFld K (tVar 0) "fields") tNil))) (tFld K (tVar 0) "bulk")))
def rd_Cell_has_field (K:PySem.W.Frag):TS:=
 (tRet (tChain (rI0 fun i j=>.bl (decide (i≤j))) (rI0 fun i j=>.bl (decide (i < j))) (tC (.int 0)) (tVar 1) (tCB (G.cLenL K) (tCons (tFld K (tVar 0) "fields") tNil))))
def rd_Heap___init__ (K:PySem.W.Frag):TS:=
 (tSeq (sFld K (tVar 0) (tVar 1) "room")
   (tSeq (sFld K (tVar 0) (tLst tNil) "cells")
   (tSeq (sFld K (tVar 0) (tC (.int 0)) "used")
   (sFld K (tVar 0) (tC (.int 0)) "born"))))
def rd_Heap_make (K:PySem.W.Frag) (Za6 Zae Za5:Addr) (sp_Cell___init__ sp_Cell_units sp_Heap_free sp_Heap_lay:Sp) (E:XK):TS:=
 (tSeq (tAsg (tMake Za6 sp_Cell___init__ [] E0 (tCons (tOp (rI0 fun i j=>.int (i + j)) (tFld K (tVar 0) "born") (tC (.int 1))) (tCons (tVar 1) (tCons (tVar 2) (tCons (tVar 3) tNil))))) (gName 4))
   (tSeq (tIfS (tTest (tOp (rI0 fun i j=>.bl (decide (j < i))) (tMeth Za6 "units" sp_Cell_units [] E0 (tVar 4) tNil) (tMeth Za5 "free" sp_Heap_free [] E0 (tVar 0) tNil))) (G.tRaise Zae E (tCons (tC (.str "the room does not suffice")) tNil)) tNext)
   (tSeq (sFld K (tVar 0) (tFld K (tVar 4) "birth") "born")
   (tSeq (sFld K (tVar 0) (tOp (rI0 fun i j=>.int (i + j)) (tFld K (tVar 0) "used") (tMeth Za6 "units" sp_Cell_units [] E0 (tVar 4) tNil)) "used")
   (tRet (tMeth Za5 "lay" sp_Heap_lay [] E0 (tVar 0) (tCons (tVar 4) tNil)))))))
def rd_Heap_lay (K:PySem.W.Frag):TS:=
 (tSeq (tIfS (tTest (tOp (G.rInN K true) (tC .non) (tFld K (tVar 0) "cells"))) (tSeq (tDrop (tBM K "list" rAppend (tFld K (tVar 0) "cells") (tCons (tVar 1) tNil)))
   (tRet (tOp (rI0 fun i j=>.int (i - j)) (tCB (G.cLenL K) (tCons (tFld K (tVar 0) "cells") tNil)) (tC (.int 1))))) tNext)
   (tSeq (tAsg (tBM K "list" (G.rIndexN K) (tFld K (tVar 0) "cells") (tCons (tC .non) tNil)) (gName 2))
   (tSeq (tAsg (tVar 1) (gSub (tFld K (tVar 0) "cells") (tVar 2) rSetL))
   (tRet (tVar 2)))))
def rd_Heap_free (K:PySem.W.Frag):TS:=
 (tRet (tOp (rI0 fun i j=>.int (i - j)) (tFld K (tVar 0) "room") (tFld K (tVar 0) "used")))
def rd_Heap_there (K:PySem.W.Frag):TS:=
 (tRet (G.tLC (iRng1 (tCons (tCB (G.cLenL K) (tCons (tFld K (tVar 0) "cells") tNil)) tNil)) [0] (tTest (tOp (G.rNotN) (tOp (rIxL K) (tFld K (tVar 1) "cells") (tVar 0)) (tC .non))) (tVar 0)))
def rd_cell_at (K:PySem.W.Frag):TS:=
 (tSeq (tIfS ((tOr (tTest (tOp (G.rIsN) (tVar 1) (tC .non))) (tOr (tTest (tOp (rI0 fun i j=>.bl (decide (i < j))) (tVar 1) (tC (.int 0)))) (tTest (tOp (rI0 fun i j=>.bl (decide (j≤i))) (tVar 1) (tCB (G.cLenL K) (tCons (tFld K (tVar 0) "cells") tNil))))))) (tRet (tC .non)) tNext)
   (tRet (tOp (rIxL K) (tFld K (tVar 0) "cells") (tVar 1))))
def rd_birth_at (K:PySem.W.Frag) (sp_cell_at:Sp):TS:=
 (tSeq (tAsg (tCall sp_cell_at [] E0 (tCons (tVar 0) (tCons (tVar 1) tNil))) (gName 2))
   (tSeq (tIfS (tTest (tOp (G.rIsN) (tVar 2) (tC .non))) (tRet (tC .non)) tNext)
   (tRet (tFld K (tVar 2) "birth"))))
def rd_all_of:TS:=
 (tRet (tOp (rI0 fun i j=>.int (i - j)) (tOp (rI CPow fun i j=>.int (i * 2 ^ j.toNat)) (tC (.int 1)) (tVar 0)) (tC (.int 1))))
def rd_Looking_at_begin:TS:=
 (tRet (tC (.int 0)))
def rd_First_word:TS:=
 (tRet (tC (.str "first")))
def rd_First_at_begin (sp_all_of:Sp):TS:=
 (tRet (tCall sp_all_of [] E0 (tCons (tVar 1) tNil)))
def rd_Each_word:TS:=
 (tRet (tC (.str "each")))
def rd_Last_word:TS:=
 (tRet (tC (.str "last")))
def rd_Kind___init__ (K:PySem.W.Frag):TS:=
 (tSeq (sFld K (tVar 0) (tVar 1) "looking")
   (sFld K (tVar 0) (tVar 2) "tells"))
def rd_Kind_words (K:PySem.W.Frag) (Zad Za8 Zaf:Addr) (sp_Each_word sp_First_word sp_Last_word:Sp):TS:=
 (tSeq (tAsg (G.tOrE (tMeth Za8 "word" sp_First_word [] E0 (tFld K (tVar 0) "looking") tNil) (G.tOrE (tMeth Zad "word" sp_Each_word [] E0 (tFld K (tVar 0) "looking") tNil) (tMeth Zaf "word" sp_Last_word [] E0 (tFld K (tVar 0) "looking") tNil))) (gName 1))
   (tSeq (tIfS (tTest (tOp (rNe) (tOp (rI0 fun i j=>.int (Builtin.bitAnd i j)) (tFld K (tVar 0) "tells") (tC (.int 1))) (tC (.int 0)))) (tAsg (tOp (G.rCatS) (tVar 1) (tC (.str " old"))) (gName 1)) tNext)
   (tSeq (tIfS (tTest (tOp (rNe) (tOp (rI0 fun i j=>.int (Builtin.bitAnd i j)) (tFld K (tVar 0) "tells") (tC (.int 2))) (tC (.int 0)))) (tAsg (tOp (G.rCatS) (tVar 1) (tC (.str " new"))) (gName 1)) tNext)
   (tRet (tVar 1)))))
def rd_kind_of (K:PySem.W.Frag) (Zad Za8 Zag Zaf:Addr) (sp_Kind___init__ sp_Kind_words:Sp):TS:=
 (tSeq (tFor (iList K (tLst (tCons (G.tMake0 Za8) (tCons (G.tMake0 Zad) (tCons (G.tMake0 Zaf) tNil))))) (gName 1)
   (tFor (iRng1 (tCons (tC (.int 4)) tNil)) (gName 2)
   (tSeq (tAsg (tMake Zag sp_Kind___init__ [] E0 (tCons (tVar 1) (tCons (tVar 2) tNil))) (gName 3))
   (tIfS (tTest (tOp (rEq) (tMeth Zag "words" sp_Kind_words [] E0 (tVar 3) tNil) (tVar 0))) (tRet (tVar 3)) tNext))))
   (tRet (tC .non)))
def rd_Hand___init__ (K:PySem.W.Frag):TS:=
 (tSeq (sFld K (tVar 0) (tVar 1) "name")
   (sFld K (tVar 0) (tOp (rRep) (tLst (tCons (tC .non) tNil)) (tVar 2)) "slots"))
def rd_Sweeper___init__ (K:PySem.W.Frag):TS:=
 (tSeq (sFld K (tVar 0) (tC (.int 0)) "sense")
   (tSeq (sFld K (tVar 0) (tC (.str "rest")) "phase")
   (tSeq (sFld K (tVar 0) (tLst tNil) "grey")
   (tSeq (sFld K (tVar 0) (tC (.int 0)) "looked")
   (tSeq (sFld K (tVar 0) (tC (.int 0)) "turn")
   (tSeq (sFld K (tVar 0) (tC (.int 0)) "at")
   (tSeq (sFld K (tVar 0) (tC (.int 0)) "stop")
   (tSeq (sFld K (tVar 0) (tC (.int 0)) "walks")
   (tSeq (sFld K (tVar 0) (tC (.int 0)) "looks")
   (tSeq (sFld K (tVar 0) (tC (.int 0)) "passes")
   (sFld K (tVar 0) (tC .non) "loss")))))))))))
def rd_World___init__ (K:PySem.W.Frag) (Zah Za5 Za1:Addr) (sp_Hand___init__ sp_Heap___init__ sp_Sweeper___init__:Sp):TS:=
 (tSeq (sFld K (tVar 0) (tMake Za5 sp_Heap___init__ [] E0 (tCons (tVar 1) tNil)) "heap")
   (tSeq (sFld K (tVar 0) (tVar 2) "kind")
   (tSeq (sFld K (tVar 0) (G.tLC2 K (iList K (tVar 3)) [] G.tTrue (tMake Zah sp_Hand___init__ [] E0 (tCons (tVar 0) (tCons (tVar 1) tNil)))) "hands")
   (tSeq (sFld K (tVar 0) (tDNewK) "names")
   (sFld K (tVar 0) (tMake Za1 sp_Sweeper___init__ [] E0 tNil) "sweeper")))))
def rd_births_held (K:PySem.W.Frag) (sp_births_at:Sp):TS:=
 (tRet (G.tLC (iList K (tFld K (tVar 0) "hands")) [0] G.tTrue (tCall sp_births_at [] E0 (tCons (tFld K (tVar 1) "heap") (tCons (tFld K (tVar 0) "slots") tNil)))))
def rd_births_at (K:PySem.W.Frag) (sp_birth_at:Sp):TS:=
 (tRet (G.tLC (iList K (tVar 1)) [0] G.tTrue (tCall sp_birth_at [] E0 (tCons (tVar 1) (tCons (tVar 0) tNil)))))
def rd_looked_at (K:PySem.W.Frag):TS:=
 (tRet (tOp (rEq) (tOp (rI0 fun i j=>.int (Builtin.bitAnd i j)) (tOp (rI (fun _ j=>0≤j) fun i j=>.int (i / 2 ^ j.toNat)) (tFld K (tFld K (tVar 0) "sweeper") "looked") (tVar 1)) (tC (.int 1))) (tC (.int 1))))
def rd_has_sense (K:PySem.W.Frag):TS:=
 (tRet (tOp (rEq) (tFld K (tVar 1) "tone") (tFld K (tFld K (tVar 0) "sweeper") "sense")))
def rd_mark_of (K:PySem.W.Frag) (sp_has_sense:Sp):TS:=
 (tSeq (tAsg (tFld K (tVar 0) "sweeper") (gName 2))
   (tSeq (tAsg (tCall sp_has_sense [] E0 (tCons (tVar 0) (tCons (tOp (rIxL K) (tFld K (tFld K (tVar 0) "heap") "cells") (tVar 1)) tNil))) (gName 3))
   (tSeq (tIfS (tTest (tOp (rEq) (tFld K (tVar 2) "phase") (tC (.str "rest")))) (tRet (tC (.str "kept"))) tNext)
   (tSeq (tIfS (tTest (tOp (rEq) (tFld K (tVar 2) "phase") (tC (.str "give")))) (tRet (tIf (tB (tVar 3)) (tC (.str "kept")) (tC (.str "doomed")))) tNext)
   (tSeq (tIfS (tNot (tB (tVar 3))) (tRet (tC (.str "pale"))) tNext)
   (tRet (tIf (tTest (tOp (rIn K false) (tVar 1) (tFld K (tVar 2) "grey"))) (tC (.str "grey")) (tC (.str "dark")))))))))
def rd_told_cells (K:PySem.W.Frag) (Za5:Addr) (sp_Heap_there sp_told_cell:Sp):TS:=
 (tRet (G.tLC (iList K (tMeth Za5 "there" sp_Heap_there [] E0 (tFld K (tVar 0) "heap") tNil)) [0] G.tTrue (tCall sp_told_cell [] E0 (tCons (tVar 1) (tCons (tVar 0) tNil)))))
def rd_told_cell (K:PySem.W.Frag) (sp_births_at sp_mark_of:Sp):TS:=
 (tSeq (tAsg (tOp (rIxL K) (tFld K (tFld K (tVar 0) "heap") "cells") (tVar 1)) (gName 2))
   (tSeq (tAsg (tCall sp_births_at [] E0 (tCons (tFld K (tVar 0) "heap") (tCons (tFld K (tVar 2) "fields") tNil))) (gName 3))
   (tRet (tTup (tCons (tVar 1) (tCons (tFld K (tVar 2) "birth") (tCons (tFld K (tVar 2) "bulk") (tCons (tFld K (tVar 2) "load") (tCons (tVar 3) (tCons (tCall sp_mark_of [] E0 (tCons (tVar 0) (tCons (tVar 1) tNil))) tNil))))))))))
def rd_begin (K:PySem.W.Frag) (Zad Za8 Zaf:Addr) (sp_First_at_begin sp_Looking_at_begin:Sp):TS:=
 (tSeq (tAsg (tFld K (tVar 0) "sweeper") (gName 1))
   (tSeq (sFld K (tVar 1) (tOp (rI0 fun i j=>.int (i - j)) (tC (.int 1)) (tFld K (tVar 1) "sense")) "sense")
   (tSeq (sFld K (tVar 1) (tOp (rI0 fun i j=>.int (i + j)) (tFld K (tVar 1) "turn") (tC (.int 1))) "turn")
   (tSeq (sFld K (tVar 1) (tC (.str "walk")) "phase")
   (tSeq (sFld K (tVar 1) (tLst tNil) "grey")
   (tSeq (sFld K (tVar 1) (G.tOrE (tMeth Za8 "at_begin" sp_First_at_begin [] E0 (tFld K (tFld K (tVar 0) "kind") "looking") (tCons (tCB (G.cLenL K) (tCons (tFld K (tVar 0) "hands") tNil)) tNil)) (G.tOrE (tMeth Zad "at_begin" sp_Looking_at_begin [] E0 (tFld K (tFld K (tVar 0) "kind") "looking") (tCons (tCB (G.cLenL K) (tCons (tFld K (tVar 0) "hands") tNil)) tNil)) (tMeth Zaf "at_begin" sp_Looking_at_begin [] E0 (tFld K (tFld K (tVar 0) "kind") "looking") (tCons (tCB (G.cLenL K) (tCons (tFld K (tVar 0) "hands") tNil)) tNil)))) "looked")
   (tSeq (sFld K (tVar 1) (tC (.int 0)) "walks")
   (tSeq (sFld K (tVar 1) (tC (.int 0)) "looks")
   (sFld K (tVar 1) (tC (.int 0)) "passes")))))))))
def rd_note (K:PySem.W.Frag) (sp_cell_at sp_has_sense:Sp):TS:=
 (tSeq (tAsg (tFld K (tVar 0) "sweeper") (gName 2))
   (tSeq (tAsg (tCall sp_cell_at [] E0 (tCons (tFld K (tVar 0) "heap") (tCons (tVar 1) tNil))) (gName 3))
   (tSeq (tIfS ((tOr (tTest (tOp (rNe) (tFld K (tVar 2) "phase") (tC (.str "walk")))) (tOr (tTest (tOp (G.rIsN) (tVar 3) (tC .non))) (tB (tCall sp_has_sense [] E0 (tCons (tVar 0) (tCons (tVar 3) tNil))))))) (tRet (tC .non)) tNext)
   (tSeq (sFld K (tVar 3) (tFld K (tVar 2) "sense") "tone")
   (tSeq (tDrop (tBM K "list" rAppend (tFld K (tVar 2) "grey") (tCons (tVar 1) tNil)))
   (tRet (tFld K (tVar 3) "birth")))))))
def rd_note_all (K:PySem.W.Frag) (sp_note:Sp):TS:=
 (tSeq (tAsg (tLst tNil) (gName 2))
   (tSeq (tFor (iList K (tVar 1)) (gName 3)
   (tSeq (tAsg (tCall sp_note [] E0 (tCons (tVar 0) (tCons (tVar 3) tNil))) (gName 4))
   (tIfS (tTest (tOp (G.rNotN) (tVar 4) (tC .non))) (tDrop (tBM K "list" rAppend (tVar 2) (tCons (tVar 4) tNil))) tNext)))
   (tRet (tVar 2))))
def rd_gone (K:PySem.W.Frag) (sp_cell_at sp_has_sense:Sp):TS:=
 (tSeq (tAsg (tCall sp_cell_at [] E0 (tCons (tFld K (tVar 0) "heap") (tCons (tVar 1) tNil))) (gName 3))
   (tSeq (tIfS ((tOr (tTest (tOp (G.rIsN) (tVar 3) (tC .non))) (tTest (tOp (rNe) (tFld K (tVar 3) "birth") (tVar 2))))) (tRet (tC (.bl true))) tNext)
   (tRet ((tAndV (tOp (rEq) (tFld K (tFld K (tVar 0) "sweeper") "phase") (tC (.str "give"))) (tNotV (tCall sp_has_sense [] E0 (tCons (tVar 0) (tCons (tVar 3) tNil)))))))))
def rd_slots_of (K:PySem.W.Frag):TS:=
 (tRet (tFld K (tOp (rIxL K) (tFld K (tVar 0) "hands") (tVar 1)) "slots"))
def rd_cell_in (K:PySem.W.Frag) (Za0:Addr) (sp_cell_at sp_slots_of:Sp) (E:XK):TS:=
 (tSeq (tAsg (tCall sp_cell_at [] E0 (tCons (tFld K (tVar 0) "heap") (tCons (tOp (rIxL K) (tCall sp_slots_of [] E0 (tCons (tVar 0) (tCons (tVar 1) tNil))) (tVar 2)) tNil))) (gName 3))
   (tSeq (tIfS (tTest (tOp (G.rIsN) (tVar 3) (tC .non))) (G.tRaise Za0 E (tCons (tC (.str "the slot holds no cell")) tNil)) tNext)
   (tRet (tVar 3))))
def rd_fields_in (K:PySem.W.Frag) (Za6 Za3:Addr) (sp_Cell_has_field sp_cell_in:Sp) (E:XK):TS:=
 (tSeq (tAsg (tCall sp_cell_in [] E (tCons (tVar 0) (tCons (tVar 1) (tCons (tVar 2) tNil)))) (gName 4))
   (tSeq (tIfS (tNot (tB (tMeth Za6 "has_field" sp_Cell_has_field [] E0 (tVar 4) (tCons (tVar 3) tNil)))) (G.tRaise Za3 E (tCons (tC (.str "the cell does not have the field")) tNil)) tNext)
   (tRet (tFld K (tVar 4) "fields"))))
def rd_told_as_old (K:PySem.W.Frag):TS:=
 (tSeq (tIfS (tTest (tOp (rEq) (tOp (rI0 fun i j=>.int (Builtin.bitAnd i j)) (tFld K (tFld K (tVar 0) "kind") "tells") (tC (.int 1))) (tC (.int 0)))) (tRet (tLst tNil)) tNext)
   (tRet (tLst (tCons (tVar 1) tNil))))
def rd_told_as_new (K:PySem.W.Frag) (sp_looked_at:Sp):TS:=
 (tSeq (tIfS ((tOr (tTest (tOp (rEq) (tOp (rI0 fun i j=>.int (Builtin.bitAnd i j)) (tFld K (tFld K (tVar 0) "kind") "tells") (tC (.int 2))) (tC (.int 0)))) (tB (tCall sp_looked_at [] E0 (tCons (tVar 0) (tCons (tVar 1) tNil)))))) (tRet (tLst tNil)) tNext)
   (tRet (tLst (tCons (tVar 2) tNil))))
def rd_do_make (K:PySem.W.Frag) (Za5:Addr) (sp_Heap_make sp_birth_at sp_slots_of:Sp) (E:XK):TS:=
 (tSeq (tAsg (tCall sp_slots_of [] E0 (tCons (tVar 0) (tCons (tOp (rIxT K) (tVar 1) (tC (.int 1))) tNil))) (gName 2))
   (tSeq (tAsg (tOp (rIxT K) (tVar 1) (tC (.int 3))) (gName 3))
   (tSeq (tAsg (tOp (rIxT K) (tVar 1) (tC (.int 4))) (gName 4))
   (tSeq (tAsg (tMeth Za5 "make" sp_Heap_make [] E (tFld K (tVar 0) "heap") (tCons (tVar 3) (tCons (tVar 4) (tCons (tFld K (tFld K (tVar 0) "sweeper") "sense") tNil)))) (gName 5))
   (tSeq (tAsg (tVar 5) (gSub (tVar 2) (tOp (rIxT K) (tVar 1) (tC (.int 2))) rSetL))
   (tRet (tTup (tCons (tC (.str "made")) (tCons (tCall sp_birth_at [] E0 (tCons (tFld K (tVar 0) "heap") (tCons (tVar 5) tNil))) (tCons (tLst tNil) tNil))))))))))
def rd_do_get (K:PySem.W.Frag) (sp_birth_at sp_fields_in sp_slots_of:Sp) (E:XK):TS:=
 (tSeq (tAsg (tOp (rIxT K) (tVar 1) (tC (.int 1))) (gName 2))
   (tSeq (tAsg (tOp (rIxT K) (tVar 1) (tC (.int 3))) (gName 3))
   (tSeq (tAsg (tOp (rIxT K) (tVar 1) (tC (.int 4))) (gName 4))
   (tSeq (tAsg (tOp (rIxL K) (tCall sp_fields_in [] E (tCons (tVar 0) (tCons (tVar 2) (tCons (tVar 3) (tCons (tVar 4) tNil))))) (tVar 4)) (gName 5))
   (tSeq (tAsg (tVar 5) (gSub (tCall sp_slots_of [] E0 (tCons (tVar 0) (tCons (tVar 2) tNil))) (tOp (rIxT K) (tVar 1) (tC (.int 2))) rSetL))
   (tRet (tTup (tCons (tC (.str "got")) (tCons (tCall sp_birth_at [] E0 (tCons (tFld K (tVar 0) "heap") (tCons (tVar 5) tNil))) (tCons (tLst tNil) tNil))))))))))
def rd_do_put (K:PySem.W.Frag) (sp_birth_at sp_fields_in sp_note_all sp_slots_of sp_told_as_new sp_told_as_old:Sp) (E:XK):TS:=
 (tSeq (tAsg (tOp (rIxT K) (tVar 1) (tC (.int 1))) (gName 2))
   (tSeq (tAsg (tOp (rIxT K) (tVar 1) (tC (.int 3))) (gName 3))
   (tSeq (tAsg (tCall sp_fields_in [] E (tCons (tVar 0) (tCons (tVar 2) (tCons (tOp (rIxT K) (tVar 1) (tC (.int 2))) (tCons (tVar 3) tNil))))) (gName 4))
   (tSeq (tAsg (tOp (rIxL K) (tVar 4) (tVar 3)) (gName 5))
   (tSeq (tAsg (tOp (rIxL K) (tCall sp_slots_of [] E0 (tCons (tVar 0) (tCons (tVar 2) tNil))) (tOp (rIxT K) (tVar 1) (tC (.int 4)))) (gName 6))
   (tSeq (tAsg (tVar 6) (gSub (tVar 4) (tVar 3) rSetL))
   (tSeq (tAsg (tCall sp_note_all [] E0 (tCons (tVar 0) (tCons (tOp (rCat) (tCall sp_told_as_old [] E0 (tCons (tVar 0) (tCons (tVar 5) tNil))) (tCall sp_told_as_new [] E0 (tCons (tVar 0) (tCons (tVar 2) (tCons (tVar 6) tNil))))) tNil))) (gName 7))
   (tRet (tTup (tCons (tC (.str "put")) (tCons (tCall sp_birth_at [] E0 (tCons (tFld K (tVar 0) "heap") (tCons (tVar 5) tNil))) (tCons (tVar 7) tNil))))))))))))
def rd_do_write (K:PySem.W.Frag) (sp_cell_in:Sp) (E:XK):TS:=
 (tSeq (tAsg (tCall sp_cell_in [] E (tCons (tVar 0) (tCons (tOp (rIxT K) (tVar 1) (tC (.int 1))) (tCons (tOp (rIxT K) (tVar 1) (tC (.int 2))) tNil)))) (gName 2))
   (tSeq (tAsg (tFld K (tVar 2) "load") (gName 3))
   (tSeq (sFld K (tVar 2) (tOp (rIxT K) (tVar 1) (tC (.int 3))) "load")
   (tRet (tTup (tCons (tC (.str "wrote")) (tCons (tVar 3) (tCons (tLst tNil) tNil))))))))
def rd_do_read (K:PySem.W.Frag) (sp_cell_in:Sp) (E:XK):TS:=
 (tSeq (tAsg (tCall sp_cell_in [] E (tCons (tVar 0) (tCons (tOp (rIxT K) (tVar 1) (tC (.int 1))) (tCons (tOp (rIxT K) (tVar 1) (tC (.int 2))) tNil)))) (gName 2))
   (tRet (tTup (tCons (tC (.str "read")) (tCons (tFld K (tVar 2) "load") (tCons (tLst tNil) tNil))))))
def rd_do_name (K:PySem.W.Frag) (sp_cell_in sp_slots_of:Sp) (E:XK):TS:=
 (tSeq (tAsg (tOp (rIxT K) (tVar 1) (tC (.int 1))) (gName 2))
   (tSeq (tAsg (tOp (rIxT K) (tVar 1) (tC (.int 2))) (gName 3))
   (tSeq (tAsg (tFld K (tCall sp_cell_in [] E (tCons (tVar 0) (tCons (tVar 2) (tCons (tVar 3) tNil)))) "birth") (gName 4))
   (tSeq (sDPut (tFld K (tVar 0) "names") (tOp (rIxT K) (tVar 1) (tC (.int 3))) (tTup (tCons (tOp (rIxL K) (tCall sp_slots_of [] E0 (tCons (tVar 0) (tCons (tVar 2) tNil))) (tVar 3)) (tCons (tVar 4) tNil))))
   (tRet (tTup (tCons (tC (.str "named")) (tCons (tVar 4) (tCons (tLst tNil) tNil)))))))))
def rd_do_seek (K:PySem.W.Frag) (sp_birth_at sp_note_all sp_place_named sp_slots_of:Sp) (E:XK):TS:=
 (tSeq (tAsg (tCall sp_place_named [] E (tCons (tVar 0) (tCons (tOp (rIxT K) (tVar 1) (tC (.int 3))) tNil))) (gName 2))
   (tSeq (tAsg (tVar 2) (gSub (tCall sp_slots_of [] E0 (tCons (tVar 0) (tCons (tOp (rIxT K) (tVar 1) (tC (.int 1))) tNil))) (tOp (rIxT K) (tVar 1) (tC (.int 2))) rSetL))
   (tSeq (tAsg (tCall sp_note_all [] E0 (tCons (tVar 0) (tCons (tLst (tCons (tVar 2) tNil)) tNil))) (gName 3))
   (tRet (tTup (tCons (tC (.str "sought")) (tCons (tCall sp_birth_at [] E0 (tCons (tFld K (tVar 0) "heap") (tCons (tVar 2) tNil))) (tCons (tVar 3) tNil))))))))
def rd_place_named (K:PySem.W.Frag) (Za4:Addr) (sp_gone:Sp) (E:XK):TS:=
 (tSeq (tIfS (tB (tDNotIn (tVar 1) (tFld K (tVar 0) "names"))) (G.tRaise Za4 E (tCons (tC (.str "the weak name was never given")) tNil)) tNext)
   (tSeq (tAsg (tOp (rIxT K) (tDGet (tFld K (tVar 0) "names") (tVar 1)) (tC (.int 0))) (gName 2))
   (tSeq (tAsg (tOp (rIxT K) (tDGet (tFld K (tVar 0) "names") (tVar 1)) (tC (.int 1))) (gName 3))
   (tSeq (tIfS (tB (tCall sp_gone [] E0 (tCons (tVar 0) (tCons (tVar 2) (tCons (tVar 3) tNil))))) (tRet (tC .non)) tNext)
   (tRet (tVar 2))))))
def rd_do (K:PySem.W.Frag) (f_do_copy f_do_drop f_do_get f_do_give f_do_make f_do_name f_do_put f_do_read f_do_seek f_do_write:Addr) (sp_do_get sp_do_make sp_do_name sp_do_put sp_do_read sp_do_seek sp_do_write:Sp) (E:XK):TS:=
 (tSeq (tAsg (G.tTab [("make",f_do_make),("get",f_do_get),("put",f_do_put),("copy",f_do_copy),("drop",f_do_drop),("give",f_do_give),("write",f_do_write),("read",f_do_read),("name",f_do_name),("seek",f_do_seek)] (tOp (rIxT K) (tVar 1) (tC (.int 0)))) (gName 2))
   (tRet (G.tCallT 2 [(f_do_make,sp_do_make),(f_do_get,sp_do_get),(f_do_put,sp_do_put),(f_do_write,sp_do_write),(f_do_read,sp_do_read),(f_do_name,sp_do_name),(f_do_seek,sp_do_seek)] E (tCons (tVar 0) (tCons (tVar 1) tNil)))))
def rd__law_mix:TS:=
 (tSeq (tAsg (tOp (rI (fun _ j=>0 < j) fun i j=>.int (i % j)) (tOp (rI0 fun i j=>.int (i + j)) (tOp (rI CMul fun i j=>.int (i * j)) (tVar 0) (tVar 1)) (tC (.int 12345))) (tC (.int 2147483647))) (gName 2))
   (tRet (tOp (rI CDiv fun i j=>.int (i / j)) (tOp (rI (fun _ j=>0 < j) fun i j=>.int (i % j)) (tOp (rI CMul fun i j=>.int (i * j)) (tVar 2) (tVar 2)) (tC (.int 2147483629))) (tC (.int 3)))))
def rd__law_kind (K:PySem.W.Frag) (sp__law_mix:Sp):TS:=
 (tSeq (tAsg (tOp (rIxL K) (tLst (tCons (tC (.str "first")) (tCons (tC (.str "each")) (tCons (tC (.str "last")) tNil)))) (tOp (rI (fun _ j=>0 < j) fun i j=>.int (i % j)) (tCall sp__law_mix [] E0 (tCons (tVar 0) (tCons (tC (.int 48271)) tNil))) (tC (.int 3)))) (gName 1))
   (tRet (tOp (G.rCatS) (tVar 1) (tOp (rIxL K) (tLst (tCons (tC (.str "")) (tCons (tC (.str " old")) (tCons (tC (.str " new")) (tCons (tC (.str " old new")) tNil))))) (tOp (rI (fun _ j=>0 < j) fun i j=>.int (i % j)) (tCall sp__law_mix [] E0 (tCons (tVar 0) (tCons (tC (.int 69621)) tNil))) (tC (.int 4)))))))
def rd__law_same (K:PySem.W.Frag) (sp__law_same:Sp):TS:=
 (tSeq (tIfS (tTest (tOp (G.rIsN) (tVar 1) (tC .non))) (tRet (tOp (G.rIsN) (tVar 0) (tC .non))) tNext)
   (tSeq (tIfS (tTest (tOp (G.rIsB) (tVar 1) (tC (.bl true)))) (tRet (tOp (G.rIsB) (tVar 0) (tC (.bl true)))) tNext)
   (tSeq (tIfS (tTest (tOp (G.rIsB) (tVar 1) (tC (.bl false)))) (tRet (tOp (G.rIsB) (tVar 0) (tC (.bl false)))) tNext)
   (tSeq (tIfS (tB (tCB (G.cIsi) (tCons (tVar 1) (tCons (tC (.ty "int")) tNil)))) (tRet ((tAndV (tCB (G.cIsi) (tCons (tVar 0) (tCons (tC (.ty "int")) tNil))) (tAndV (tNotV (tCB (G.cIsi) (tCons (tVar 0) (tCons (tC (.ty "bool")) tNil)))) (tOp (rEq) (tVar 0) (tVar 1)))))) tNext)
   (tSeq (tIfS (tB (tCB (G.cIsi) (tCons (tVar 1) (tCons (tC (.ty "str")) tNil)))) (tRet ((tAndV (tCB (G.cIsi) (tCons (tVar 0) (tCons (tC (.ty "str")) tNil))) (tOp (rEq) (tVar 0) (tVar 1))))) tNext)
   (tSeq (tIfS ((tAnd (tB (tCB (G.cIsi) (tCons (tVar 1) (tCons (tC (.ty "list")) tNil)))) (tNot (tB (tCB (G.cIsi) (tCons (tVar 0) (tCons (tC (.ty "list")) tNil))))))) (tRet (tC (.bl false))) tNext)
   (tSeq (tIfS ((tAnd (tB (tCB (G.cIsi) (tCons (tVar 1) (tCons (tC (.ty "tuple")) tNil)))) (tNot (tB (tCB (G.cIsi) (tCons (tVar 0) (tCons (tC (.ty "tuple")) tNil))))))) (tRet (tC (.bl false))) tNext)
   (tSeq (tIfS (tTest (tOp (rNe) (tCB (G.cLenL K) (tCons (tVar 0) tNil)) (tCB (G.cLenL K) (tCons (tVar 1) tNil)))) (tRet (tC (.bl false))) tNext)
   (tSeq (tFor (iRng1 (tCons (tCB (G.cLenL K) (tCons (tVar 1) tNil)) tNil)) (gName 2)
   (tIfS (tNot (tB (tCall sp__law_same [] E0 (tCons (tOp (rIx K) (tVar 0) (tVar 2)) (tCons (tOp (rIx K) (tVar 1) (tVar 2)) tNil))))) (tRet (tC (.bl false))) tNext))
   (tRet (tC (.bl true))))))))))))
def rd__law_word (K:PySem.W.Frag) (Za0 Zae Za3 Za4 C_Sound C_TextError:Addr) (isk:Value→Value→Option Bool):TS:=
 (tSeq (tIfS (tTest (tOp (G.rIsN) (tVar 0) (tC .non))) (tRet (tC (.str ""))) tNext)
   (tSeq (tAsg (tLst (tCons (tCB (G.cIsiX [Za0,Zae,Za3,Za4] isk) (tCons (tVar 0) (tCons (tC (.ref Za0)) tNil))) (tCons (tCB (G.cIsiX [Za0,Zae,Za3,Za4] isk) (tCons (tVar 0) (tCons (tC (.ref Za3)) tNil))) (tCons (tCB (G.cIsiX [Za0,Zae,Za3,Za4] isk) (tCons (tVar 0) (tCons (tC (.ref Zae)) tNil))) (tCons (tCB (G.cIsiX [Za0,Zae,Za3,Za4] isk) (tCons (tVar 0) (tCons (tC (.ref Za4)) tNil))) tNil))))) (gName 1))
   (tSeq (tAsg (tOp (rCat) (tVar 1) (tLst (tCons (tCB (G.cIsiX [Za0,Zae,Za3,Za4] isk) (tCons (tVar 0) (tCons (tC (.ref C_Sound)) tNil))) (tCons (tCB (G.cIsiX [Za0,Zae,Za3,Za4] isk) (tCons (tVar 0) (tCons (tC (.ref C_TextError)) tNil))) tNil)))) (gName 1))
   (tSeq (tAsg (tLst (tCons (tC (.str "empty")) (tCons (tC (.str "field")) (tCons (tC (.str "full")) (tCons (tC (.str "name")) (tCons (tC (.str "sound")) (tCons (tC (.str "text")) tNil))))))) (gName 2))
   (tSeq (tAsg (G.tLC (iRng1 (tCons (tC (.int 6)) tNil)) [1,2] (tB (tOp (rIxL K) (tVar 1) (tVar 0))) (tOp (rIxL K) (tVar 2) (tVar 0))) (gName 3))
   (tSeq (tIfS ((tOr (tTest (tOp (rNe) (tCB (G.cLenL K) (tCons (tVar 3) tNil)) (tC (.int 1)))) (tNot (tB (tCB (G.cIsiX [Za0,Zae,Za3,Za4] isk) (tCons (tVar 0) (tCons (tC (.ty "ValueError")) tNil))))))) (tRet (tC (.str "none"))) tNext)
   (tRet (tOp (rIxL K) (tVar 3) (tC (.int 0))))))))))
def rd__law_refused (Za0 Zae Za3 Za4:Addr) (sp__law_word sp_do:Sp):TS:=
 (tSeq (tAsg (tC .non) (gName 2))
   (tSeq (G.tTryAs (fun cls=>cls=Value.ref Za0∨cls=Value.ref Za3∨cls=Value.ref Zae∨cls=Value.ref Za4) 3 (fun Ex=>(tDrop (G.tCallX sp_do [] Ex (tCons (tVar 0) (tCons (tVar 1) tNil))))) (tAsg (tVar 3) (gName 2)))
   (tRet (tCall sp__law_word [] E0 (tCons (tVar 2) tNil)))))
def rd__law_stands (K:PySem.W.Frag) (sp__law_same sp_births_held sp_told_cells:Sp):TS:=
 (tSeq (tAsg (tLst (tCons (tOp (rRep) (tLst (tCons (tC .non) tNil)) (tDGet (tVar 1) (tC (.str "many")))) (tCons (tOp (rRep) (tLst (tCons (tC .non) tNil)) (tDGet (tVar 1) (tC (.str "many")))) tNil))) (gName 2))
   (tSeq (tAsg (tC (.int 1)) (gSub (tOp (rIxL K) (tVar 2) (tDGet (tVar 1) (tC (.str "h")))) (tDGet (tVar 1) (tC (.str "t"))) rSetL))
   (tSeq (tIfS (tNot (tB (tCall sp__law_same [] E0 (tCons (tCall sp_births_held [] E0 (tCons (tVar 0) tNil)) (tCons (tVar 2) tNil))))) (tRet (tC (.bl false))) tNext)
   (tSeq (tIfS (tNot (tB (tCall sp__law_same [] E0 (tCons (tLst (tCons (tFld K (tFld K (tVar 0) "heap") "used") (tCons (tFld K (tFld K (tVar 0) "heap") "born") tNil))) (tCons (tLst (tCons (tOp (rI0 fun i j=>.int (i + j)) (tOp (rI0 fun i j=>.int (i + j)) (tC (.int 1)) (tDGet (tVar 1) (tC (.str "n")))) (tDGet (tVar 1) (tC (.str "bulk")))) (tCons (tC (.int 1)) tNil))) tNil))))) (tRet (tC (.bl false))) tNext)
   (tSeq (tAsg (tLst (tCons (tTup (tCons (tC (.int 0)) (tCons (tC (.int 1)) (tCons (tDGet (tVar 1) (tC (.str "bulk"))) (tCons (tC (.int 0)) (tCons (tOp (rRep) (tLst (tCons (tC .non) tNil)) (tDGet (tVar 1) (tC (.str "n")))) (tCons (tDGet (tVar 1) (tC (.str "mark"))) tNil))))))) tNil)) (gName 3))
   (tRet ((tAndV (tCall sp__law_same [] E0 (tCons (tCall sp_told_cells [] E0 (tCons (tVar 0) tNil)) (tCons (tVar 3) tNil))) (tOp (G.rEqD0 false) (tFld K (tVar 0) "names") (tDNewK))))))))))
def rd__law_draw_t0_10 (K:PySem.W.Frag):TS:=
 (tSeq (sDPut (tVar 5) (tC (.str "over")) (tOp (rIxL K) (tLst (tCons (tC (.int 0)) (tCons (tC (.int 1)) (tCons (tC (.int 9)) (tCons (tOp (rI CPow fun i j=>.int (i ^ j.toNat)) (tC (.int 10)) (tC (.int 9))) tNil))))) (tOp (rI (fun _ j=>0 < j) fun i j=>.int (i % j)) (tOp (rI CDiv fun i j=>.int (i / j)) (tVar 3) (tC (.int 40))) (tC (.int 4)))))
   (tSeq (sDPut (tVar 5) (tC (.str "into")) (tOp (rIxL K) (tLst (tCons (tDGet (tVar 5) (tC (.str "u"))) (tCons (tDGet (tVar 5) (tC (.str "t"))) tNil))) (tOp (rI (fun _ j=>0 < j) fun i j=>.int (i % j)) (tOp (rI CDiv fun i j=>.int (i / j)) (tVar 3) (tC (.int 160))) (tC (.int 2)))))
   (tSeq (sDPut (tVar 5) (tC (.str "when")) (tOp (rI (fun _ j=>0 < j) fun i j=>.int (i % j)) (tOp (rI CDiv fun i j=>.int (i / j)) (tVar 2) (tC (.int 36))) (tC (.int 3))))
   (tSeq (sDPut (tVar 5) (tC (.str "mark")) (tOp (rIxL K) (tLst (tCons (tC (.str "kept")) (tCons (tC (.str "pale")) (tCons (tC (.str "dark")) tNil)))) (tDGet (tVar 5) (tC (.str "when")))))
   (tSeq (sDPut (tVar 5) (tC (.str "load")) (tOp (rI (fun _ j=>0 < j) fun i j=>.int (i % j)) (tOp (rI PySem.IntMulOk fun i j=>.int (i * j)) (tVar 0) (tOp (rI CPow fun i j=>.int (i ^ j.toNat)) (tC (.int 987654321)) (tC (.int 6)))) (tOp (rI CPow fun i j=>.int (i ^ j.toNat)) (tC (.int 10)) (tC (.int 60)))))
   (tRet (tVar 5)))))))
def rd__law_draw (K:PySem.W.Frag) (sp__law_mix:Sp):TS:=
 (tSeq (tAsg (tCall sp__law_mix [] E0 (tCons (tVar 0) (tCons (tC (.int 48271)) tNil))) (gName 1))
   (tSeq (tAsg (tCall sp__law_mix [] E0 (tCons (tVar 0) (tCons (tC (.int 69621)) tNil))) (gName 2))
   (tSeq (tAsg (tCall sp__law_mix [] E0 (tCons (tVar 0) (tCons (tC (.int 16807)) tNil))) (gName 3))
   (tSeq (tAsg (tOp (rI0 fun i j=>.int (i + j)) (tC (.int 3)) (tOp (rI (fun _ j=>0 < j) fun i j=>.int (i % j)) (tVar 1) (tC (.int 7)))) (gName 4))
   (tSeq (tAsg (tDisp [((tC (.str "what")),(tOp (rI (fun _ j=>0 < j) fun i j=>.int (i % j)) (tVar 2) (tC (.int 9)))),((tC (.str "many")),(tVar 4)),((tC (.str "h")),(tOp (rI (fun _ j=>0 < j) fun i j=>.int (i % j)) (tOp (rI CDiv fun i j=>.int (i / j)) (tVar 1) (tC (.int 7))) (tC (.int 2)))),((tC (.str "t")),(tOp (rI (fun _ j=>0 < j) fun i j=>.int (i % j)) (tOp (rI CDiv fun i j=>.int (i / j)) (tVar 1) (tC (.int 14))) (tVar 4)))]) (gName 5))
   (tSeq (sDPut (tVar 5) (tC (.str "u")) (tOp (rI (fun _ j=>0 < j) fun i j=>.int (i % j)) (tOp (rI0 fun i j=>.int (i + j)) (tOp (rI0 fun i j=>.int (i + j)) (tDGet (tVar 5) (tC (.str "t"))) (tC (.int 1))) (tOp (rI (fun _ j=>0 < j) fun i j=>.int (i % j)) (tOp (rI CDiv fun i j=>.int (i / j)) (tVar 1) (tC (.int 200))) (tOp (rI0 fun i j=>.int (i - j)) (tVar 4) (tC (.int 1))))) (tVar 4)))
   (tSeq (sDPut (tVar 5) (tC (.str "n")) (tOp (rI (fun _ j=>0 < j) fun i j=>.int (i % j)) (tOp (rI CDiv fun i j=>.int (i / j)) (tVar 2) (tC (.int 9))) (tC (.int 4))))
   (tSeq (sDPut (tVar 5) (tC (.str "bulk")) (tOp (rI0 fun i j=>.int (i + j)) (tC (.int 3)) (tOp (rI (fun _ j=>0 < j) fun i j=>.int (i % j)) (tVar 3) (tC (.int 5)))))
   (tSeq (sDPut (tVar 5) (tC (.str "f")) (tOp (rI (fun _ j=>0 < j) fun i j=>.int (i % j)) (tOp (rI CDiv fun i j=>.int (i / j)) (tVar 3) (tC (.int 5))) (tC (.int 8))))
   (tSeq (tIfS ((tOr (tTest (tOp (rEq) (tDGet (tVar 5) (tC (.str "what"))) (tC (.int 5)))) (tTest (tOp (rEq) (tDGet (tVar 5) (tC (.str "what"))) (tC (.int 6)))))) (sDPut (tVar 5) (tC (.str "f")) (tOp (rI0 fun i j=>.int (i + j)) (tDGet (tVar 5) (tC (.str "n"))) (tOp (rI (fun _ j=>0 < j) fun i j=>.int (i % j)) (tOp (rI CDiv fun i j=>.int (i / j)) (tVar 3) (tC (.int 5))) (tOp (rI0 fun i j=>.int (i - j)) (tC (.int 8)) (tDGet (tVar 5) (tC (.str "n"))))))) tNext)
   (rd__law_draw_t0_10 K)))))))))))
def rd__law_world_t0_3 (Za7:Addr) (sp_World___init__ sp__law_kind sp_begin sp_do sp_kind_of:Sp):TS:=
 (tSeq (tAsg (tMake Za7 sp_World___init__ [] E0 (tCons (tVar 3) (tCons (tCall sp_kind_of [] E0 (tCons (tCall sp__law_kind [] E0 (tCons (tVar 0) tNil)) tNil)) (tCons (tLst (tCons (tTup (tCons (tC (.str "one")) (tCons (tDGet (tVar 1) (tC (.str "many"))) tNil))) (tCons (tTup (tCons (tC (.str "two")) (tCons (tDGet (tVar 1) (tC (.str "many"))) tNil))) tNil))) tNil)))) (gName 4))
   (tSeq (tIfS (tTest (tOp (rEq) (tDGet (tVar 1) (tC (.str "when"))) (tC (.int 2)))) (tDrop (tCall sp_begin [] E0 (tCons (tVar 4) tNil))) tNext)
   (tSeq (tDrop (tCall sp_do [] E0 (tCons (tVar 4) (tCons (tTup (tCons (tC (.str "make")) (tCons (tDGet (tVar 1) (tC (.str "h"))) (tCons (tDGet (tVar 1) (tC (.str "t"))) (tCons (tDGet (tVar 1) (tC (.str "n"))) (tCons (tDGet (tVar 1) (tC (.str "bulk"))) tNil)))))) tNil))))
   (tSeq (tIfS (tTest (tOp (rEq) (tDGet (tVar 1) (tC (.str "when"))) (tC (.int 1)))) (tDrop (tCall sp_begin [] E0 (tCons (tVar 4) tNil))) tNext)
   (tRet (tVar 4))))))
def rd__law_world (Za7:Addr) (sp_World___init__ sp__law_kind sp_begin sp_do sp_kind_of:Sp):TS:=
 (tSeq (tAsg (tOp (rI0 fun i j=>.int (i + j)) (tDGet (tVar 1) (tC (.str "n"))) (tC (.int 2))) (gName 2))
   (tSeq (tAsg (tOp (rI CPow fun i j=>.int (i ^ j.toNat)) (tC (.int 10)) (tC (.int 15))) (gName 3))
   (tSeq (tIfS (tTest (tOp (rEq) (tDGet (tVar 1) (tC (.str "what"))) (tC (.int 7)))) (tAsg (tOp (rI0 fun i j=>.int (i + j)) (tOp (rI0 fun i j=>.int (i + j)) (tOp (rI0 fun i j=>.int (i + j)) (tC (.int 1)) (tDGet (tVar 1) (tC (.str "n")))) (tDGet (tVar 1) (tC (.str "bulk")))) (tVar 2)) (gName 3)) tNext)
   (rd__law_world_t0_3 Za7 sp_World___init__ sp__law_kind sp_begin sp_do sp_kind_of))))
def rd__law_deed (K:PySem.W.Frag):TS:=
 (tSeq (tAsg (tDGet (tVar 0) (tC (.str "what"))) (gName 1))
   (tSeq (tAsg (tTup (tCons (tDGet (tVar 0) (tC (.str "h"))) (tCons (tDGet (tVar 0) (tC (.str "t"))) (tCons (tDGet (tVar 0) (tC (.str "u"))) (tCons (tDGet (tVar 0) (tC (.str "f"))) tNil))))) (gTup K 4 (gCons (gName 2) (gCons (gName 3) (gCons (gName 4) (gCons (gName 5) gNil))))))
   (tSeq (tIfS (tTest (tOp (rEq) (tVar 1) (tC (.int 0)))) (tRet (tTup (tCons (tC (.str "get")) (tCons (tVar 2) (tCons (tVar 3) (tCons (tVar 4) (tCons (tVar 5) tNil))))))) tNext)
   (tSeq (tIfS (tTest (tOp (rEq) (tVar 1) (tC (.int 1)))) (tRet (tTup (tCons (tC (.str "put")) (tCons (tVar 2) (tCons (tVar 4) (tCons (tVar 5) (tCons (tVar 3) tNil))))))) tNext)
   (tSeq (tIfS (tTest (tOp (rEq) (tVar 1) (tC (.int 2)))) (tRet (tTup (tCons (tC (.str "write")) (tCons (tVar 2) (tCons (tVar 4) (tCons (tDGet (tVar 0) (tC (.str "load"))) tNil)))))) tNext)
   (tSeq (tIfS (tTest (tOp (rEq) (tVar 1) (tC (.int 3)))) (tRet (tTup (tCons (tC (.str "read")) (tCons (tVar 2) (tCons (tVar 4) tNil))))) tNext)
   (tSeq (tIfS (tTest (tOp (rEq) (tVar 1) (tC (.int 4)))) (tRet (tTup (tCons (tC (.str "name")) (tCons (tVar 2) (tCons (tVar 4) (tCons (tC (.str "owl")) tNil)))))) tNext)
   (tSeq (tIfS (tTest (tOp (rEq) (tVar 1) (tC (.int 5)))) (tRet (tTup (tCons (tC (.str "get")) (tCons (tVar 2) (tCons (tVar 4) (tCons (tVar 3) (tCons (tVar 5) tNil))))))) tNext)
   (tSeq (tIfS (tTest (tOp (rEq) (tVar 1) (tC (.int 6)))) (tRet (tTup (tCons (tC (.str "put")) (tCons (tVar 2) (tCons (tVar 3) (tCons (tVar 5) (tCons (tVar 3) tNil))))))) tNext)
   (tSeq (tIfS (tTest (tOp (rEq) (tVar 1) (tC (.int 7)))) (tRet (tTup (tCons (tC (.str "make")) (tCons (tVar 2) (tCons (tDGet (tVar 0) (tC (.str "into"))) (tCons (tDGet (tVar 0) (tC (.str "n"))) (tCons (tOp (rI0 fun i j=>.int (i + j)) (tC (.int 2)) (tDGet (tVar 0) (tC (.str "over")))) tNil))))))) tNext)
   (tRet (tTup (tCons (tC (.str "seek")) (tCons (tVar 2) (tCons (tVar 4) (tCons (tC (.str "owl")) tNil))))))))))))))))
def rd__law_good_t0_5 (K:PySem.W.Frag) (sp__law_same sp_do:Sp):TS:=
 (tSeq (tAsg (tLst (tCons (tTup (tCons (tC (.str "got")) (tCons (tC .non) tNil))) (tCons (tTup (tCons (tC (.str "put")) (tCons (tC .non) tNil))) (tCons (tTup (tCons (tC (.str "wrote")) (tCons (tC (.int 0)) tNil))) (tCons (tTup (tCons (tC (.str "read")) (tCons (tC (.int 0)) tNil))) (tCons (tTup (tCons (tC (.str "named")) (tCons (tC (.int 2)) tNil))) (tCons (tTup (tCons (tC (.str "got")) (tCons (tC .non) tNil))) (tCons (tTup (tCons (tC (.str "put")) (tCons (tC .non) tNil))) tNil)))))))) (gName 4))
   (tSeq (tAsg (tOp (rCat) (tVar 4) (tLst (tCons (tTup (tCons (tC (.str "made")) (tCons (tC (.int 2)) tNil))) (tCons (tTup (tCons (tC (.str "sought")) (tCons (tC (.int 1)) tNil))) tNil)))) (gName 4))
   (tSeq (tAsg (tCall sp_do [] E0 (tCons (tVar 0) (tCons (tVar 2) tNil))) (gName 5))
   (tRet ((tAndV (tCB (G.cIsi) (tCons (tVar 5) (tCons (tC (.ty "tuple")) tNil))) (tAndV (tOp (rEq) (tCB (G.cLenL K) (tCons (tVar 5) tNil)) (tC (.int 3))) (tCall sp__law_same [] E0 (tCons (tSl (rSlT K) (tVar 5) tNoPart (tPart (tC (.int 2)))) (tCons (tOp (rIxL K) (tVar 4) (tVar 3)) tNil))))))))))
def rd__law_good (K:PySem.W.Frag) (sp__law_same sp_do:Sp):TS:=
 (tSeq (tAsg (tDGet (tVar 1) (tC (.str "what"))) (gName 3))
   (tSeq (tIfS (tTest (tOp (rI0 fun i j=>.bl (decide (i < j))) (tVar 3) (tC (.int 5)))) (tDrop (tCall sp_do [] E0 (tCons (tVar 0) (tCons (tTup (tCons (tC (.str "make")) (tCons (tDGet (tVar 1) (tC (.str "h"))) (tCons (tDGet (tVar 1) (tC (.str "u"))) (tCons (tOp (rI0 fun i j=>.int (i + j)) (tDGet (tVar 1) (tC (.str "f"))) (tC (.int 1))) (tCons (tC (.int 0)) tNil)))))) tNil)))) tNext)
   (tSeq (tIfS ((tOr (tTest (tOp (rEq) (tVar 3) (tC (.int 5)))) (tTest (tOp (rEq) (tVar 3) (tC (.int 6)))))) (tDrop (tCall sp_do [] E0 (tCons (tVar 0) (tCons (tTup (tCons (tC (.str "make")) (tCons (tDGet (tVar 1) (tC (.str "h"))) (tCons (tDGet (tVar 1) (tC (.str "t"))) (tCons (tOp (rI0 fun i j=>.int (i + j)) (tDGet (tVar 1) (tC (.str "f"))) (tC (.int 1))) (tCons (tC (.int 0)) tNil)))))) tNil)))) tNext)
   (tSeq (tIfS (tTest (tOp (rEq) (tVar 3) (tC (.int 7)))) (tAsg (tTup (tCons (tC (.str "make")) (tCons (tDGet (tVar 1) (tC (.str "h"))) (tCons (tDGet (tVar 1) (tC (.str "into"))) (tCons (tDGet (tVar 1) (tC (.str "n"))) (tCons (tC (.int 1)) tNil)))))) (gName 2)) tNext)
   (tSeq (tIfS (tTest (tOp (rEq) (tVar 3) (tC (.int 8)))) (tDrop (tCall sp_do [] E0 (tCons (tVar 0) (tCons (tTup (tCons (tC (.str "name")) (tCons (tDGet (tVar 1) (tC (.str "h"))) (tCons (tDGet (tVar 1) (tC (.str "t"))) (tCons (tC (.str "owl")) tNil))))) tNil)))) tNext)
   (rd__law_good_t0_5 K sp__law_same sp_do))))))
def rd_law (K:PySem.W.Frag) (sp__law_deed sp__law_draw sp__law_good sp__law_refused sp__law_stands sp__law_world:Sp):TS:=
 (tSeq (tFor (iList K (tOp (rCat) (tSl (rSlL K) (tVar 0) tNoPart (tPart (tC (.int 30)))) (tLst (tCons (tC (.int 12)) tNil)))) (gName 1)
   (tSeq (tAsg (tCall sp__law_draw [] E0 (tCons (tVar 1) tNil)) (gName 2))
   (tSeq (tAsg (tCall sp__law_world [] E0 (tCons (tVar 1) (tCons (tVar 2) tNil))) (gName 3))
   (tSeq (tAsg (tCall sp__law_deed [] E0 (tCons (tVar 2) tNil)) (gName 4))
   (tSeq (tAsg (tOp (rIxL K) (tLst (tCons (tC (.str "empty")) (tCons (tC (.str "empty")) (tCons (tC (.str "empty")) (tCons (tC (.str "empty")) (tCons (tC (.str "empty")) (tCons (tC (.str "field")) (tCons (tC (.str "field")) (tCons (tC (.str "full")) (tCons (tC (.str "name")) tNil)))))))))) (tDGet (tVar 2) (tC (.str "what")))) (gName 5))
   (tSeq (tIfS ((tOr (tTest (tOp (rNe) (tCall sp__law_refused [] E0 (tCons (tVar 3) (tCons (tVar 4) tNil))) (tVar 5))) (tNot (tB (tCall sp__law_stands [] E0 (tCons (tVar 3) (tCons (tVar 2) tNil))))))) (tRet (tC (.bl false))) tNext)
   (tIfS ((tOr (tTest (tOp (rNe) (tCall sp__law_refused [] E0 (tCons (tVar 3) (tCons (tVar 4) tNil))) (tVar 5))) (tNot (tB (tCall sp__law_good [] E0 (tCons (tVar 3) (tCons (tVar 2) (tCons (tVar 4) tNil)))))))) (tRet (tC (.bl false))) tNext)))))))
   (tRet (tC (.bl true))))
structure TxC (K:PySem.W.Frag) (Za6 Za5:Addr):Prop where
 cl_Cell:Cls K Za6
 n_Cell_birth:NoAttr K Za6 "birth"
 n_Cell_bulk:NoAttr K Za6 "bulk"
 n_Cell_tone:NoAttr K Za6 "tone"
 n_Cell_load:NoAttr K Za6 "load"
 n_Cell_fields:NoAttr K Za6 "fields"
 cl_Heap:Cls K Za5
 n_Heap_room:NoAttr K Za5 "room"
 Zao:NoAttr K Za5 "cells"
 n_Heap_used:NoAttr K Za5 "used"
 n_Heap_born:NoAttr K Za5 "born"
 eq_Cell:EqD K Za6
structure CellO (CC:Addr) (H:Hp) (p fa:Addr) (birth bulk tone load:Int) (fl:List V):Prop where
 o:∃ dx,H p=some (.ins CC dx (cellF birth bulk tone load fa))
 f:H fa=some (.lst fl)
structure HpO (CH:Addr) (H:Hp) (hp ca:Addr) (room used born:Int) (cs:List V):Prop where
 o:∃ dx,H hp=some (.ins CH dx (heapF room ca used born))
 c:H ca=some (.lst cs)
def S_Cell_init (CC:Addr):Sp:=fun vs H Q E=>∃ p birth many bulk tone,vs=[.ref p,.int birth,.int many,.int bulk,.int tone]∧∃ dx,H p=some (.ins CC dx [])∧0≤many∧many≤1000∧
 ∀ fa H',H fa=none→H' p=some (.ins CC dx (cellF birth bulk tone 0 fa))→H' fa=some (.lst (List.replicate many.toNat V.non))→(∀ b o,H b=some o→b≠p→H' b=some o)→Q .non H'
def S_Cell_units (CC:Addr):Sp:=fun vs H Q E=>∃ p,vs=[.ref p]∧∃ fa birth bulk tone load fl,CellO CC H p fa birth bulk tone load fl∧Q (.int (1 + fl.length + bulk)) H
def S_Heap_init (CH:Addr):Sp:=fun vs H Q E=>∃ p room,vs=[.ref p,.int room]∧∃ dx,H p=some (.ins CH dx [])∧
 ∀ ca H',H ca=none→H' p=some (.ins CH dx (heapF room ca 0 0))→H' ca=some (.lst [])→(∀ b o,H b=some o→b≠p→H' b=some o)→Q .non H'
def S_Heap_free (CH:Addr):Sp:=fun vs H Q E=>∃ hp,vs=[.ref hp]∧∃ ca room used born cs,HpO CH H hp ca room used born cs∧Q (.int (room - used)) H
def plc (cs:List V):List Int:=((List.range cs.length).filter fun i=>!decide (cs[i]? =some V.non)).map fun (i:Nat)=>(i:Int)
def S_Heap_there (CH:Addr):Sp:=fun vs H Q E=>∃ hp,vs=[.ref hp]∧∃ ca room used born cs,HpO CH H hp ca room used born cs∧cs.length≤1000∧∀ l,H l=none→Q (.ref l) (upd H l (.lst ((plc cs).map V.int)))
def putN (cs:List V) (v:V):List V:=if V.non∈cs then cs.set (cs.idxOf V.non) v else cs ++ [v]
def S_Heap_lay (K:PySem.W.Frag) (CH:Addr):Sp:=fun vs H Q E=>∃ hp v,vs=[.ref hp,v]∧∃ ca room used born cs,HpO CH H hp ca room used born cs∧OkN K H cs∧cs.length≤1000∧Q (.int (cs.idxOf V.non)) (upd H ca (.lst (putN cs v)))
def S_Heap_make (K:PySem.W.Frag) (CC CH CF:Addr):Sp:=fun vs H Q E=>∃ hp many bulk tone,vs=[.ref hp,.int many,.int bulk,.int tone]∧∃ ca dx room used born cs,H hp=some (.ins CH dx (heapF room ca used born))∧H ca=some (.lst cs)∧OkN K H cs∧cs.length≤1000∧0≤many∧many≤1000∧
 (room - used < 1 + many + bulk→∀ H',Same H H'→E (.ref CF) none H')∧
 (1 + many + bulk≤room - used→∀ p fa H',H p=none→H fa=none→Fm [hp,ca] H H'→H' hp=some (.ins CH dx (heapF room ca (used + (1 + many + bulk)) (born + 1)))→H' ca=some (.lst (putN cs (.ref p)))→
  CellO CC H' p fa (born + 1) bulk tone 0 (List.replicate many.toNat V.non)→Q (.int (cs.idxOf V.non)) H')
section
variable {K:PySem.W.Frag}{Za6 Za5 Zae:Addr}{H:Hp}{Q:VK}{E:XK}{n:St→Hp→Prop}{bk ct:St→Hp→Prop}
theorem Cell_units_rd {p:Addr} (T:TxC K Za6 Za5) (q:∃ fa birth bulk tone load fl,CellO Za6 H p fa birth bulk tone load fl∧Q (.int (1 + fl.length + bulk)) H):rd_Cell_units K ⟨n,Q,bk,ct⟩ [some (.ref p)] H:=by
 obtain ⟨fa,birth,bulk,tone,load,fl,⟨⟨dx,h1⟩,h2⟩,h⟩:=q
 unfold rd_Cell_units
 walk_at "ev"
 refine Zaa h1 T.cl_Cell T.n_Cell_fields cellF_lk_fields ?_
 walk_at "ev"
 refine i_lenL (SqL.of h2) ?_
 walk_at "ev"
 refine Zaa h1 T.cl_Cell T.n_Cell_bulk cellF_lk_bulk ?_
 walk_at "ev"
 exact h
theorem Cell___init___rd {p:Addr}{birth many bulk tone:Int} (T:TxC K Za6 Za5) (q:∃ dx,H p=some (.ins Za6 dx [])∧0≤many∧many≤1000∧
 ∀ fa H',H fa=none→H' p=some (.ins Za6 dx (cellF birth bulk tone 0 fa))→H' fa=some (.lst (List.replicate many.toNat V.non))→(∀ b o,H b=some o→b≠p→H' b=some o)→Q .non H'):
  rd_Cell___init__ K ⟨fun _ H'=>Q .non H',Q,bk,ct⟩ [some (.ref p),some (.int birth),some (.int many),some (.int bulk),some (.int tone)] H:=by
 obtain ⟨dx,hp,h0,h1,h⟩:=q
 unfold rd_Cell___init__
 walk_at "ev"
 refine ⟨p,Za6,dx,[],rfl,hp,T.cl_Cell,T.n_Cell_birth,by decide,?_⟩
 walk_at "ev"
 refine ⟨p,Za6,dx,_,rfl,upd_same,T.cl_Cell,T.n_Cell_bulk,by show 1 < 1000;decide,?_⟩
 rw [upd_upd]
 walk_at "ev"
 refine ⟨p,Za6,dx,_,rfl,upd_same,T.cl_Cell,T.n_Cell_tone,by show 2 < 1000;decide,?_⟩
 rw [upd_upd]
 walk_at "ev"
 refine ⟨p,Za6,dx,_,rfl,upd_same,T.cl_Cell,T.n_Cell_load,by show 3 < 1000;decide,?_⟩
 rw [upd_upd]
 walk_at "ev"
 refine ⟨by decide,fun l0 hl0=>?_⟩
 walk_at "ev"
 refine ⟨l0,many,_,rfl,rfl,upd_same,by omega,by omega,?_,fun fa hfa=>?_⟩
 ·show 1 * many.toNat≤sizeLine
  exact Zaj (by omega)
 have npl:p≠l0:=ne_of_none upd_same hl0
 have npf:p≠fa:=ne_of_none ((upd_ne npl).trans upd_same) hfa
 walk_at "ev"
 refine ⟨p,Za6,dx,_,rfl,(upd_ne npf).trans ((upd_ne npl).trans upd_same),T.cl_Cell,T.n_Cell_fields,by show 4 < 1000;decide,?_⟩
 have nfa:H fa=none:=by
  have e:=hfa
  have n1:fa≠l0:=fun z=>by rw [z,upd_same] at e;cases e
  rw [upd_ne n1,upd_ne npf.symm] at e
  exact e
 refine h fa _ nfa (upd_same.trans (congrArg (fun l=>some (HO.ins Za6 dx l)) cellF_mk)) ?_ fun b o hb hne=>?_
 ·rw [upd_ne npf.symm,upd_same]
  have e:(List.replicate many.toNat [V.non]).flatten=List.replicate many.toNat V.non:=by
   generalize many.toNat=k
   induction k with
   | zero=>rfl
   | succ k ih=>rw [List.replicate_succ,List.replicate_succ,List.flatten_cons,ih];rfl
  rw [e]
 ·have e1:upd H p (HO.ins Za6 dx (putF "load" (V.int 0) (putF "tone" (V.int tone) (putF "bulk" (V.int bulk) (putF "birth" (V.int birth) []))))) b=some o:=(upd_ne hne).trans hb
  have n1:b≠l0:=ne_of_none e1 hl0
  have n2:b≠fa:=ne_of_none ((upd_ne n1).trans e1) hfa
  rw [upd_ne hne,upd_ne n2,upd_ne n1]
  exact e1
theorem Heap___init___rd {p:Addr}{room:Int} (T:TxC K Za6 Za5) (q:∃ dx,H p=some (.ins Za5 dx [])∧
 ∀ ca H',H ca=none→H' p=some (.ins Za5 dx (heapF room ca 0 0))→H' ca=some (.lst [])→(∀ b o,H b=some o→b≠p→H' b=some o)→Q .non H'):
  rd_Heap___init__ K ⟨fun _ H'=>Q .non H',Q,bk,ct⟩ [some (.ref p),some (.int room)] H:=by
 obtain ⟨dx,hp,h⟩:=q
 unfold rd_Heap___init__
 walk_at "ev"
 refine ⟨p,Za5,dx,[],rfl,hp,T.cl_Heap,T.n_Heap_room,by decide,?_⟩
 walk_at "ev"
 refine ⟨by decide,fun ca hca=>?_⟩
 walk_at "ev"
 have npc:p≠ca:=ne_of_none upd_same hca
 refine ⟨p,Za5,dx,_,rfl,(upd_ne npc).trans upd_same,T.cl_Heap,T.Zao,by show 1 < 1000;decide,?_⟩
 walk_at "ev"
 refine ⟨p,Za5,dx,_,rfl,upd_same,T.cl_Heap,T.n_Heap_used,by show 2 < 1000;decide,?_⟩
 rw [upd_upd]
 walk_at "ev"
 refine ⟨p,Za5,dx,_,rfl,upd_same,T.cl_Heap,T.n_Heap_born,by show 3 < 1000;decide,?_⟩
 rw [upd_upd]
 have nca:H ca=none:=by
  have e:=hca
  rw [upd_ne npc.symm] at e
  exact e
 refine h ca _ nca (upd_same.trans (congrArg (fun l=>some (HO.ins Za5 dx l)) heapF_mk)) ?_ fun b o hb hne=>?_
 ·rw [upd_ne npc.symm,upd_same]
 ·rw [upd_ne hne,upd_ne (ne_of_none ((upd_ne hne).trans hb) hca),upd_ne hne];exact hb
theorem Heap_free_rd {hp:Addr} (T:TxC K Za6 Za5) (q:∃ ca room used born cs,HpO Za5 H hp ca room used born cs∧Q (.int (room - used)) H):rd_Heap_free K ⟨n,Q,bk,ct⟩ [some (.ref hp)] H:=by
 obtain ⟨ca,room,used,born,cs,⟨⟨dx,h1⟩,h2⟩,h⟩:=q
 unfold rd_Heap_free
 walk_at "ev"
 refine Zaa h1 T.cl_Heap T.n_Heap_room heapF_lk_room ?_
 walk_at "ev"
 refine Zaa h1 T.cl_Heap T.n_Heap_used heapF_lk_used ?_
 walk_at "ev"
 exact h
theorem Heap_there_rd {hp:Addr} (T:TxC K Za6 Za5) (q:∃ ca room used born cs,HpO Za5 H hp ca room used born cs∧cs.length≤1000∧∀ l,H l=none→Q (.ref l) (upd H l (.lst ((plc cs).map V.int)))):rd_Heap_there K ⟨n,Q,bk,ct⟩ [some (.ref hp)] H:=by
 obtain ⟨ca,room,used,born,cs,⟨⟨dx,h1⟩,h2⟩,hl,h⟩:=q
 unfold rd_Heap_there
 walk_at "ev"
 refine i_lcg ?_
 walk_at "ev"
 refine Zaa h1 T.cl_Heap T.Zao heapF_lk_cells ?_
 walk_at "ev"
 refine i_lenL (SqL.of h2) ?_
 walk_at "ev"
 refine ⟨_,rfl,by omega,by omega,?_⟩
 refine lc_range (n:=cs.length) (by omega) (p:=fun i=>!decide (cs[i]? =some V.non)) (f:=fun i=>.int i) (by omega) ?_ ?_ ?_
 ·intro i hi k hk
  walk_at "caps"
  walk_at "ev"
  refine Zaa h1 T.cl_Heap T.Zao heapF_lk_cells ?_
  walk_at "ev"
  refine i_ixL (SqL.of h2) (atI_nat (List.getElem?_eq_getElem hi)) ?_
  walk_at "ev"
  refine i_notN ?_
  rw [List.getElem?_eq_getElem hi] at hk
  walk_at "ev"
  simpa using hk
 ·intro i hi _ k hk
  walk_at "caps"
  walk_at "ev"
  exact hk
 ·have e:((plc cs).map V.int)=((List.range cs.length).filter fun i=>!decide (cs[i]? =some V.non)).map fun (i:Nat)=>V.int i:=by
   unfold plc
   rw [List.map_map];rfl
  rw [← e]
  exact h
theorem Heap_lay_rd {hp:Addr}{v:V} (T:TxC K Za6 Za5) (q:∃ ca room used born cs,HpO Za5 H hp ca room used born cs∧OkN K H cs∧cs.length≤1000∧Q (.int (cs.idxOf V.non)) (upd H ca (.lst (putN cs v)))):rd_Heap_lay K ⟨n,Q,bk,ct⟩ [some (.ref hp),some v,none] H:=by
 obtain ⟨ca,room,used,born,cs,⟨⟨dx,h1⟩,h2⟩,ho,hl,h⟩:=q
 unfold rd_Heap_lay
 walk_at "ev"
 refine Zaa h1 T.cl_Heap T.Zao heapF_lk_cells ?_
 walk_at "ev"
 refine i_notInN (SqL.of h2) ho ?_
 walk_at "ev"
 refine ifnd (fun hn=>?_) (fun hn=>?_)
 ·walk_at "ev"
  refine Zaa h1 T.cl_Heap T.Zao heapF_lk_cells ?_
  refine ⟨.inl ⟨rfl,_,SqL.of h2⟩,?_⟩
  walk_at "ev"
  refine ⟨ca,cs,v,rfl,rfl,h2,Nat.lt_of_le_of_lt hl (by decide),?_⟩
  walk_at "ev"
  have hne:hp≠ca:=ne_of h1 h2 (fun z=>by cases z)
  refine Zaa ((upd_ne hne).trans h1) T.cl_Heap T.Zao heapF_lk_cells ?_
  walk_at "ev"
  refine i_lenL (SqL.of upd_same) ?_
  walk_at "ev"
  have e1:(((cs ++ [v]).length:Int) - 1)=(cs.idxOf V.non:Nat):=by
   rw [List.length_append,List.idxOf_eq_length hn]
   simp
  have e2:putN cs v=cs ++ [v]:=by unfold putN;rw [if_neg hn]
  rw [e1,← e2]
  exact h
 ·walk_at "ev"
  refine Zaa h1 T.cl_Heap T.Zao heapF_lk_cells ?_
  refine ⟨.inl ⟨rfl,_,SqL.of h2⟩,?_⟩
  walk_at "ev"
  refine ⟨ca,cs,rfl,rfl,SqL.of h2,ho,hn,?_⟩
  walk_at "ev"
  refine Zaa h1 T.cl_Heap T.Zao heapF_lk_cells ?_
  walk_at "ev"
  have hi:cs.idxOf V.non < cs.length:=List.idxOf_lt_length_iff.mpr hn
  refine ⟨ca,cs,_,_,rfl,rfl,h2,ixN_nat hi,?_⟩
  have e2:putN cs v=cs.set (cs.idxOf V.non) v:=by unfold putN;rw [if_pos hn]
  rw [← e2]
  walk_at "ev"
  exact h
theorem Heap_make_rd {hp:Addr}{many bulk tone:Int} (T:TxC K Za6 Za5) (q:∃ ca dx room used born cs,H hp=some (.ins Za5 dx (heapF room ca used born))∧H ca=some (.lst cs)∧OkN K H cs∧cs.length≤1000∧0≤many∧many≤1000∧
 (room - used < 1 + many + bulk→∀ H',Same H H'→E (.ref Zae) none H')∧
 (1 + many + bulk≤room - used→∀ p fa H',H p=none→H fa=none→Fm [hp,ca] H H'→H' hp=some (.ins Za5 dx (heapF room ca (used + (1 + many + bulk)) (born + 1)))→H' ca=some (.lst (putN cs (.ref p)))→
  CellO Za6 H' p fa (born + 1) bulk tone 0 (List.replicate many.toNat V.non)→Q (.int (cs.idxOf V.non)) H')):
  rd_Heap_make K Za6 Zae Za5 (S_Cell_init Za6) (S_Cell_units Za6) (S_Heap_free Za5) (S_Heap_lay K Za5) E ⟨n,Q,bk,ct⟩ [some (.ref hp),some (.int many),some (.int bulk),some (.int tone),none] H:=by
 obtain ⟨ca,dx,room,used,born,cs,h1,h2,ho,hl,m0,m1,hE,hQ⟩:=q
 have hne:hp≠ca:=ne_of h1 h2 (fun z=>by cases z)
 unfold rd_Heap_make
 walk_at "ev"
 refine Zaa h1 T.cl_Heap T.n_Heap_born heapF_lk_born ?_
 walk_at "ev"
 intro p dp np ndp ned
 refine ⟨p,_,many,_,_,rfl,dp,upd_same,m0,m1,fun fa H1 nfa c1 c2 f3=>⟨rfl,?_⟩⟩
 have nfa':H fa=none:=by
  have e:=nfa
  by_cases z1:fa=p
  ·rw [z1,upd_same] at e;cases e
  ·rw [upd_ne z1] at e
   by_cases z2:fa=dp
   ·rw [z2,upd_same] at e;cases e
   ·rw [upd_ne z2] at e;exact e
 have sm:Same H H1:=fun b o hb=>by
  refine f3 b o ?_ (ne_of_none hb np)
  rw [upd_ne (ne_of_none hb np),upd_ne (ne_of_none hb ndp)]
  exact hb
 have co:CellO Za6 H1 p fa (born + 1) bulk tone 0 (List.replicate many.toNat V.non):=⟨⟨dp,c1⟩,c2⟩
 have el:((List.replicate many.toNat V.non).length:Int)=many:=by rw [List.length_replicate];omega
 walk_at "ev"
 refine ⟨p,dp,_,rfl,c1,cellF_no_units,?_⟩
 walk_at "ev"
 refine ⟨p,rfl,fa,_,_,_,_,_,co,?_⟩
 walk_at "ev"
 refine ⟨hp,dx,_,rfl,sm _ _ h1,heapF_no_free,?_⟩
 walk_at "ev"
 refine ⟨hp,rfl,ca,room,used,born,cs,⟨⟨dx,sm _ _ h1⟩,sm _ _ h2⟩,?_⟩
 walk_at "ev"
 rw [el]
 refine ifd (fun hf=>?_) (fun hf=>?_)
 ·walk_at "ev"
  exact ⟨by decide,hE hf H1 sm⟩
 ·walk_at "ev"
  refine Zaa c1 T.cl_Cell T.n_Cell_birth cellF_lk_birth ?_
  walk_at "ev"
  refine ⟨hp,Za5,dx,_,rfl,sm _ _ h1,T.cl_Heap,T.n_Heap_born,by show 4 < 1000;decide,?_⟩
  rw [heapF_put_born]
  walk_at "ev"
  refine Zaa upd_same T.cl_Heap T.n_Heap_used heapF_lk_used ?_
  walk_at "ev"
  have n1:p≠hp:=(ne_of_none h1 np).symm
  have n2:fa≠hp:=(ne_of_none h1 nfa').symm
  have n3:p≠ca:=(ne_of_none h2 np).symm
  have n4:fa≠ca:=(ne_of_none h2 nfa').symm
  refine ⟨p,dp,_,rfl,(upd_ne n1).trans c1,cellF_no_units,?_⟩
  walk_at "ev"
  refine ⟨p,rfl,fa,_,_,_,_,_,⟨⟨dp,(upd_ne n1).trans c1⟩,(upd_ne n2).trans c2⟩,?_⟩
  walk_at "ev"
  rw [el]
  refine ⟨hp,Za5,dx,_,rfl,upd_same,T.cl_Heap,T.n_Heap_used,by show 4 < 1000;decide,?_⟩
  rw [heapF_put_used,upd_upd]
  walk_at "ev"
  refine ⟨hp,dx,_,rfl,upd_same,heapF_no_lay,?_⟩
  walk_at "ev"
  refine ⟨hp,.ref p,rfl,ca,room,_,_,cs,⟨⟨dx,upd_same⟩,(upd_ne hne.symm).trans (sm _ _ h2)⟩,?_,hl,?_⟩
  ·intro y hy
   rcases ho y hy with e | ⟨a,C,d,fs,e,ha,hc,he⟩
   ·exact .inl e
   ·refine .inr ?_
    by_cases z:a=hp
    ·rw [z] at ha e
     rw [h1] at ha;cases ha
     exact ⟨hp,_,_,_,e,upd_same,hc,he⟩
    ·exact ⟨a,C,d,fs,e,(upd_ne z).trans (sm _ _ ha),hc,he⟩
  ·refine hQ (by omega) p fa _ np nfa' ?_ ((upd_ne hne).trans upd_same) upd_same ⟨⟨dp,?_⟩,?_⟩
   ·intro b o hb hn
    have b1:b≠hp:=fun z=>hn (by rw [z];exact List.mem_cons_self)
    have b2:b≠ca:=fun z=>hn (by rw [z];exact List.mem_cons_of_mem _ List.mem_cons_self)
    rw [upd_ne b2,upd_ne b1]
    exact sm _ _ hb
   ·rw [upd_ne n3,upd_ne n1];exact c1
   ·rw [upd_ne n4,upd_ne n2];exact c2
end
structure Ce where
 birth:Int
 bulk:Int
 tone:Int
 load:Int
 fl:List (Option Int)
 deriving DecidableEq
structure Sw where
 sense:Int
 phase:Str
 grey:List Int
 looked:Int
 turn:Int
 at':Int
 stop:Int
 walks:Int
 looks:Int
 passes:Int
 loss:V
structure Wm where
 room:Int
 used:Int
 born:Int
 cells:List (Option Ce)
 hands:List (Str×List (Option Int))
 names:List (Str×(Int×Int))
 w:Int
 tells:Int
 sw:Sw
structure Wa where
 wo:Addr
 hp:Addr
 ca:Addr
 ki:Addr
 lk:Addr
 hl:Addr
 nm:Addr
 sw:Addr
 gr:Addr
 hs:List (Addr×Addr)
 cs:List (Option (Addr×Addr))
 ns:List Addr
def oV:Option Int→V
 | none=>.non
 | some i=>.int i
def pV:Option (Addr×Addr)→V
 | none=>.non
 | some p=>.ref p.1
structure Frm (s:Nat) (t0:Nat→Prop) (H H':Hp) (T T':Tg):Prop where
 kp:∀ b o,H b=some o→(T b).1=s→¬ t0 (T b).2→H' b=some o
 tg:∀ b o,H b=some o→T' b=T b
section
variable {CHd CC:Addr}{H H':Hp}{T T':Tg}{s j i:Nat}{t0:Nat→Prop}
theorem Frm.at {a:Addr}{o:HO}{m:Nat} (f:Frm s t0 H H' T T') (ht:T a=(s,m)) (n:¬ t0 m) (h:H a=some o):H' a=some o:=f.kp a o h (by rw [ht]) (by rw [ht];exact n)
theorem Frm.tag {a:Addr}{o:HO}{x:Nat×Nat} (f:Frm s t0 H H' T T') (h:H a=some o) (ht:T a=x):T' a=x:=(f.tg a o h).trans ht
theorem Frm.of_upd {a:Addr}{o:HO}{m:Nat} (ht:T a=(s,m)):Frm s (·=m) H (upd H a o) T T:=⟨fun b u h e n=>by
  have:b≠a:=fun z=>n (by rw [z,ht])
  rw [upd_ne this];exact h,fun _ _ _=>rfl⟩
theorem Frm.of_same (e:Same H H'):Frm s (fun _=>False) H H' T T:=⟨fun b o h _ _=>e b o h,fun _ _ _=>rfl⟩
theorem Frm.of_other {s':Nat} (e:Stp s' H H' T T') (n:s≠s'):Frm s (fun _=>False) H H' T T':=⟨fun b o h z _=>e.kp b o h (by rw [z];exact n),e.tg⟩
structure HdO (CHd:Addr) (H:Hp) (T:Tg) (s j:Nat) (p:Addr×Addr) (m:Str×List (Option Int)):Prop where
 t1:T p.1=(s,20 + 2 * j)
 t2:T p.2=(s,21 + 2 * j)
 o1:∃ dx,H p.1=some (.ins CHd dx (handF m.1 p.2))
 o2:H p.2=some (.lst (m.2.map oV))
theorem HdO.mv {p:Addr×Addr}{m:Str×List (Option Int)} (h:HdO CHd H T s j p m) (f:Frm s t0 H H' T T') (n1:¬ t0 (20 + 2 * j)) (n2:¬ t0 (21 + 2 * j)):HdO CHd H' T' s j p m:=by
 obtain ⟨a1,a2,⟨dx,b1⟩,b2⟩:=h
 exact ⟨f.tag b1 a1,f.tag b2 a2,⟨dx,f.at a1 n1 b1⟩,f.at a2 n2 b2⟩
structure CeO (CC:Addr) (H:Hp) (T:Tg) (s i:Nat) (p:Addr×Addr) (c:Ce):Prop where
 t1:T p.1=(s,100 + 2 * i)
 t2:T p.2=(s,101 + 2 * i)
 o1:∃ dx,H p.1=some (.ins CC dx (cellF c.birth c.bulk c.tone c.load p.2))
 o2:H p.2=some (.lst (c.fl.map oV))
theorem CeO.mv {p:Addr×Addr}{c:Ce} (h:CeO CC H T s i p c) (f:Frm s t0 H H' T T') (n1:¬ t0 (100 + 2 * i)) (n2:¬ t0 (101 + 2 * i)):CeO CC H' T' s i p c:=by
 obtain ⟨a1,a2,⟨dx,b1⟩,b2⟩:=h
 exact ⟨f.tag b1 a1,f.tag b2 a2,⟨dx,f.at a1 n1 b1⟩,f.at a2 n2 b2⟩
def CeP (CC:Addr) (H:Hp) (T:Tg) (s i:Nat):Option (Addr×Addr)→Option Ce→Prop
 | none,none=>True
 | some p,some c=>CeO CC H T s i p c
 | _,_=>False
theorem CeP.mv {p:Option (Addr×Addr)}{c:Option Ce} (h:CeP CC H T s i p c) (f:Frm s t0 H H' T T') (n1:¬ t0 (100 + 2 * i)) (n2:¬ t0 (101 + 2 * i)):CeP CC H' T' s i p c:=by
 cases p with
 | none=>cases c with
  | none=>trivial
  | some c=>exact h.elim
 | some p=>cases c with
  | none=>exact h.elim
  | some c=>exact CeO.mv h f n1 n2
end
def NmO (H:Hp) (T:Tg) (t:Addr) (m:Str×(Int×Int)):Prop:=T t=(0,0)∧H t=some (.tup [.int m.2.1,.int m.2.2])
structure Cs where
 W:Addr
 H:Addr
 C:Addr
 K:Addr
 D:Addr
 S:Addr
 F:Addr
 E:Addr
 L:Addr
structure WB (X:Cs) (H:Hp) (T:Tg) (s:Nat) (A:Wa) (w tells:Int):Prop where
 tw:T A.wo=(s,0)
 tk:T A.ki=(0,0)
 tl:T A.lk=(0,0)
 tn:T A.hl=(s,5)
 ow:∃ dx,H A.wo=some (.ins X.W dx (worldF A.hp A.ki A.hl A.nm A.sw))
 ok:∃ dx,H A.ki=some (.ins X.K dx (kindF A.lk tells))
 ol:∃ dx,(w=0∧H A.lk=some (.ins X.F dx []))∨(w=1∧H A.lk=some (.ins X.E dx []))∨(w=2∧H A.lk=some (.ins X.L dx []))
 on:H A.hl=some (.lst (A.hs.map fun p=>V.ref p.1))
structure WH (X:Cs) (H:Hp) (T:Tg) (s:Nat) (A:Wa) (room used born:Int):Prop where
 th:T A.hp=(s,1)
 tc:T A.ca=(s,2)
 oh:∃ dx,H A.hp=some (.ins X.H dx (heapF room A.ca used born))
 oc:H A.ca=some (.lst (A.cs.map pV))
def nmK (M:List (Str×(Int×Int))) (ns:List Addr):List ((Int ⊕ Str)×V):=List.zipWith (fun (m:Str×(Int×Int)) (t:Addr)=>(Sum.inr m.1,V.ref t)) M ns
structure WN (H:Hp) (T:Tg) (s:Nat) (A:Wa) (names:List (Str×(Int×Int))):Prop where
 tm:T A.nm=(s,6)
 om:H A.nm=some (.dK (nmK names A.ns))
 nms:Al (NmO H T) A.ns names
structure WS (X:Cs) (H:Hp) (T:Tg) (s:Nat) (A:Wa) (S:Sw):Prop where
 ts:T A.sw=(s,7)
 tg:T A.gr=(s,8)
 os:∃ dx,H A.sw=some (.ins X.S dx (sweepF S.sense S.phase A.gr S.looked S.turn S.at' S.stop S.walks S.looks S.passes S.loss))
 og:H A.gr=some (.lst (S.grey.map V.int))
structure WD (X:Cs) (H:Hp) (T:Tg) (s:Nat) (hs:List (Addr×Addr)) (hands:List (Str×List (Option Int))):Prop where
 lh:hs.length=hands.length
 l5:hs.length≤30
 hd:∀ (j:Nat) p m,hs[j]? =some p→hands[j]? =some m→HdO X.D H T s j p m
structure WC (X:Cs) (H:Hp) (T:Tg) (s:Nat) (cs:List (Option (Addr×Addr))) (cells:List (Option Ce)):Prop where
 lc:cs.length=cells.length
 ce:∀ (i:Nat) p c,cs[i]? =some p→cells[i]? =some c→CeP X.C H T s i p c
structure WJ (X:Cs) (H:Hp) (T:Tg) (s:Nat) (A:Wa) (M:Wm):Prop where
 jb:WB X H T s A M.w M.tells
 jh:WH X H T s A M.room M.used M.born
 jn:WN H T s A M.names
 js:WS X H T s A M.sw
 jd:WD X H T s A.hs M.hands
 jc:WC X H T s A.cs M.cells
section
variable {X:Cs}{H H':Hp}{T T':Tg}{s:Nat}{t0:Nat→Prop}{A:Wa}{M:Wm}
theorem WB.mv {w tells:Int} (j:WB X H T s A w tells) (f:Frm s t0 H H' T T') (f0:∀ b o,H b=some o→T b=(0,0)→H' b=some o) (n0:¬ t0 0) (n5:¬ t0 5):WB X H' T' s A w tells:=by
 obtain ⟨tw,tk,tl,tn,⟨d1,ow⟩,⟨d3,ok⟩,⟨d4,ol⟩,on⟩:=j
 have hlk:∃ o,H A.lk=some o:=by
  rcases ol with ⟨_,e⟩ | ⟨_,e⟩ | ⟨_,e⟩
  ·exact ⟨_,e⟩
  ·exact ⟨_,e⟩
  ·exact ⟨_,e⟩
 obtain ⟨olk,elk⟩:=hlk
 refine ⟨f.tag ow tw,f.tag ok tk,f.tag elk tl,f.tag on tn,⟨d1,f.at tw n0 ow⟩,⟨d3,f0 _ _ ok tk⟩,⟨d4,?_⟩,f.at tn n5 on⟩
 rcases ol with ⟨z,e⟩ | ⟨z,e⟩ | ⟨z,e⟩
 ·exact .inl ⟨z,f0 _ _ e tl⟩
 ·exact .inr (.inl ⟨z,f0 _ _ e tl⟩)
 ·exact .inr (.inr ⟨z,f0 _ _ e tl⟩)
theorem WH.mv {room used born:Int} (j:WH X H T s A room used born) (f:Frm s t0 H H' T T') (n1:¬ t0 1) (n2:¬ t0 2):WH X H' T' s A room used born:=by
 obtain ⟨th,tc,⟨d,oh⟩,oc⟩:=j
 exact ⟨f.tag oh th,f.tag oc tc,⟨d,f.at th n1 oh⟩,f.at tc n2 oc⟩
theorem WN.mv {names:List (Str×(Int×Int))} (j:WN H T s A names) (f:Frm s t0 H H' T T') (f0:∀ b o,H b=some o→T b=(0,0)→H' b=some o) (n6:¬ t0 6):WN H' T' s A names:=by
 obtain ⟨tm,om,nms⟩:=j
 exact ⟨f.tag om tm,f.at tm n6 om,nms.mono fun t m ⟨z1,z2⟩=>⟨f.tag z2 z1,f0 _ _ z2 z1⟩⟩
theorem WS.mv {S:Sw} (j:WS X H T s A S) (f:Frm s t0 H H' T T') (n7:¬ t0 7) (n8:¬ t0 8):WS X H' T' s A S:=by
 obtain ⟨ts,tg,⟨d,os⟩,og⟩:=j
 exact ⟨f.tag os ts,f.tag og tg,⟨d,f.at ts n7 os⟩,f.at tg n8 og⟩
theorem WD.mv {hs:List (Addr×Addr)}{hands:List (Str×List (Option Int))} (j:WD X H T s hs hands) (f:Frm s t0 H H' T T') (n:∀ k,20≤k→k < 100→¬ t0 k):WD X H' T' s hs hands:=by
 obtain ⟨lh,l5,hd⟩:=j
 refine ⟨lh,l5,fun j p m e1 e2=>?_⟩
 have hl:j < hs.length:=(List.getElem?_eq_some_iff.mp e1).1
 exact (hd j p m e1 e2).mv f (n _ (by omega) (by omega)) (n _ (by omega) (by omega))
theorem WC.mv {cs:List (Option (Addr×Addr))}{cells:List (Option Ce)} (j:WC X H T s cs cells) (f:Frm s t0 H H' T T') (n:∀ k,100≤k→¬ t0 k):WC X H' T' s cs cells:=by
 obtain ⟨lc,ce⟩:=j
 exact ⟨lc,fun i p c e1 e2=>(ce i p c e1 e2).mv f (n _ (by omega)) (n _ (by omega))⟩
theorem WJ.mv (j:WJ X H T s A M) (f:Frm s (fun _=>False) H H' T T') (f0:∀ b o,H b=some o→T b=(0,0)→H' b=some o):WJ X H' T' s A M:=
 ⟨j.jb.mv f f0 id id,j.jh.mv f id id,j.jn.mv f f0 id,j.js.mv f id id,j.jd.mv f fun _ _ _=>id,j.jc.mv f fun _ _=>id⟩
theorem WJ.same (j:WJ X H T s A M) (e:Same H H'):WJ X H' T s A M:=j.mv (Frm.of_same e) fun b o h _=>e b o h
theorem WJ.other {s':Nat} (j:WJ X H T s A M) (e:Stp s' H H' T T') (n:s≠s') (n0:s'≠0):WJ X H' T' s A M:=j.mv (Frm.of_other e n) fun b o h t=>e.kp b o h (by rw [t];exact fun z=>n0 z.symm)
theorem f0_upd {a:Addr}{o':HO}{m:Nat} (h0:s≠0) (ta:T a=(s,m)):∀ b o,H b=some o→T b=(0,0)→upd H a o' b=some o:=fun b o e t=>by
 rw [upd_ne (ne_tag t ta (fun z=>h0 (congrArg Prod.fst z).symm))];exact e
theorem WJ.slot (j:WJ X H T s A M) (w:WT H T) (h0:s≠0) {h k:Nat}{p:Addr×Addr}{m:Str×List (Option Int)}{x:Option Int} (hp:A.hs[h]? =some p) (hm:M.hands[h]? =some m):
  Stp s H (upd H p.2 (.lst ((m.2.map oV).set k (oV x)))) T T∧WJ X (upd H p.2 (.lst ((m.2.map oV).set k (oV x)))) T s A { M with hands:=M.hands.set h (m.1,m.2.set k x) }:=by
 have hl:=j.jd.l5
 have hh:h < A.hs.length:=(List.getElem?_eq_some_iff.mp hp).1
 have hh':h < M.hands.length:=(List.getElem?_eq_some_iff.mp hm).1
 have d:=j.jd.hd h p m hp hm
 refine ⟨Stp.upd w d.o2 (by rw [d.t2]),?_⟩
 have f:Frm s (·=21 + 2 * h) H (upd H p.2 (.lst ((m.2.map oV).set k (oV x)))) T T:=Frm.of_upd d.t2
 have b2:upd H p.2 (.lst ((m.2.map oV).set k (oV x))) p.2=some (.lst ((m.2.set k x).map oV)):=by rw [upd_same,List.map_set]
 refine ⟨j.jb.mv f (f0_upd h0 d.t2) (by omega) (by omega),j.jh.mv f (by omega) (by omega),j.jn.mv f (f0_upd h0 d.t2) (by omega),j.js.mv f (by omega) (by omega),⟨by rw [List.length_set];exact j.jd.lh,hl,fun j' p' m' e1 e2=>?_⟩,j.jc.mv f fun _ _=>by omega⟩
 by_cases hj:j'=h
 ·subst hj
  dsimp only at e2
  rw [List.getElem?_set_self hh'] at e2
  rw [hp] at e1
  cases e1
  cases e2
  obtain ⟨dd,o1⟩:=d.o1
  exact ⟨d.t1,d.t2,⟨dd,f.at d.t1 (by omega) o1⟩,b2⟩
 ·dsimp only at e2
  rw [List.getElem?_set_ne (fun z=>hj z.symm)] at e2
  exact (j.jd.hd j' p' m' e1 e2).mv f (by omega) (by omega)
theorem WC.at (j:WC X H T s A.cs M.cells) {i:Nat}{c:Ce} (h:M.cells[i]? =some (some c)):∃ p,A.cs[i]? =some (some p)∧CeO X.C H T s i p c:=by
 have hl:i < A.cs.length:=by rw [j.lc];exact (List.getElem?_eq_some_iff.mp h).1
 have e:=j.ce i _ _ (List.getElem?_eq_getElem hl) h
 cases hg:A.cs[i] with
 | none=>rw [hg] at e;exact e.elim
 | some g=>rw [hg] at e;exact ⟨g,by rw [List.getElem?_eq_getElem hl,hg],e⟩
theorem WC.at0 (j:WC X H T s A.cs M.cells) {i:Nat} (h:M.cells[i]? =some none):A.cs[i]? =some none:=by
 have hl:i < A.cs.length:=by rw [j.lc];exact (List.getElem?_eq_some_iff.mp h).1
 have e:=j.ce i _ _ (List.getElem?_eq_getElem hl) h
 cases hg:A.cs[i] with
 | none=>rw [List.getElem?_eq_getElem hl,hg]
 | some g=>rw [hg] at e;exact e.elim
theorem WC.chg (j:WC X H T s A.cs M.cells) {i:Nat}{p:Addr×Addr}{c':Ce} (f:Frm s t0 H H' T T') (hp:A.cs[i]? =some (some p)) (n:∀ k,100≤k→k≠100 + 2 * i→k≠101 + 2 * i→¬ t0 k) (e:CeO X.C H' T' s i p c'):
  WC X H' T' s A.cs (M.cells.set i (some c')):=by
 have hl:i < A.cs.length:=(List.getElem?_eq_some_iff.mp hp).1
 refine ⟨by rw [List.length_set];exact j.lc,fun k g c e1 e2=>?_⟩
 by_cases hk:k=i
 ·subst hk
  rw [List.getElem?_set_self (by rw [← j.lc];exact hl)] at e2
  rw [hp] at e1
  cases e1
  cases e2
  exact e
 ·rw [List.getElem?_set_ne (fun z=>hk z.symm)] at e2
  exact (j.ce k g c e1 e2).mv f (n _ (by omega) (by omega) (by omega)) (n _ (by omega) (by omega) (by omega))
theorem WJ.field (j:WJ X H T s A M) (w:WT H T) (h0:s≠0) {i k:Nat}{p:Addr×Addr}{c:Ce}{x:Option Int} (hp:A.cs[i]? =some (some p)) (e:CeO X.C H T s i p c):
  Stp s H (upd H p.2 (.lst ((c.fl.map oV).set k (oV x)))) T T∧WJ X (upd H p.2 (.lst ((c.fl.map oV).set k (oV x)))) T s A { M with cells:=M.cells.set i (some { c with fl:=c.fl.set k x }) }:=by
 refine ⟨Stp.upd w e.o2 (by rw [e.t2]),?_⟩
 have f:Frm s (·=101 + 2 * i) H (upd H p.2 (.lst ((c.fl.map oV).set k (oV x)))) T T:=Frm.of_upd e.t2
 have b2:upd H p.2 (.lst ((c.fl.map oV).set k (oV x))) p.2=some (.lst ((c.fl.set k x).map oV)):=by rw [upd_same,List.map_set]
 obtain ⟨dd,o1⟩:=e.o1
 exact ⟨j.jb.mv f (f0_upd h0 e.t2) (by omega) (by omega),j.jh.mv f (by omega) (by omega),j.jn.mv f (f0_upd h0 e.t2) (by omega),j.js.mv f (by omega) (by omega),j.jd.mv f fun _ _ _=>by omega,
  j.jc.chg f hp (fun k _ _ n2 z=>n2 z) ⟨e.t1,e.t2,⟨dd,f.at e.t1 (by omega) o1⟩,b2⟩⟩
theorem WJ.cell (j:WJ X H T s A M) (w:WT H T) (h0:s≠0) {i:Nat}{p:Addr×Addr}{c:Ce}{dx:Addr}{tone load:Int} (hp:A.cs[i]? =some (some p)) (e:CeO X.C H T s i p c):
  Stp s H (upd H p.1 (.ins X.C dx (cellF c.birth c.bulk tone load p.2))) T T∧WJ X (upd H p.1 (.ins X.C dx (cellF c.birth c.bulk tone load p.2))) T s A { M with cells:=M.cells.set i (some { c with tone:=tone,load:=load }) }:=by
 obtain ⟨dd,o1⟩:=e.o1
 refine ⟨Stp.upd w o1 (by rw [e.t1]),?_⟩
 have f:Frm s (·=100 + 2 * i) H (upd H p.1 (.ins X.C dx (cellF c.birth c.bulk tone load p.2))) T T:=Frm.of_upd e.t1
 exact ⟨j.jb.mv f (f0_upd h0 e.t1) (by omega) (by omega),j.jh.mv f (by omega) (by omega),j.jn.mv f (f0_upd h0 e.t1) (by omega),j.js.mv f (by omega) (by omega),j.jd.mv f fun _ _ _=>by omega,
  j.jc.chg f hp (fun k _ n1 _ z=>n1 z) ⟨e.t1,e.t2,⟨dx,upd_same⟩,f.at e.t2 (by omega) e.o2⟩⟩
theorem WJ.greys (j:WJ X H T s A M) (w:WT H T) (h0:s≠0) {g:List Int}:Stp s H (upd H A.gr (.lst (g.map V.int))) T T∧WJ X (upd H A.gr (.lst (g.map V.int))) T s A { M with sw:={ M.sw with grey:=g } }:=by
 obtain ⟨ts,tg,⟨dd,os⟩,og⟩:=j.js
 refine ⟨Stp.upd w og (by rw [tg]),?_⟩
 have f:Frm s (·=8) H (upd H A.gr (.lst (g.map V.int))) T T:=Frm.of_upd tg
 exact ⟨j.jb.mv f (f0_upd h0 tg) (by omega) (by omega),j.jh.mv f (by omega) (by omega),j.jn.mv f (f0_upd h0 tg) (by omega),⟨ts,tg,⟨dd,f.at ts (by omega) os⟩,upd_same⟩,j.jd.mv f fun _ _ _=>by omega,j.jc.mv f fun _ _=>by omega⟩
end
def fst0 {α:Type}:List (Option α)→Nat
 | []=>0
 | none :: _=>0
 | some _ :: l=>fst0 l + 1
def putO {α:Type} (l:List (Option α)) (x:α):List (Option α):=if fst0 l < l.length then l.set (fst0 l) (some x) else l ++ [some x]
theorem fst0_le {α:Type} (l:List (Option α)):fst0 l≤l.length:=by
 induction l with
 | nil=>exact Nat.le_refl _
 | cons a l ih=>cases a with
  | none=>exact Nat.zero_le _
  | some a=>exact Nat.succ_le_succ ih
theorem fst0_at {α:Type}{l:List (Option α)} (h:fst0 l < l.length):l[fst0 l]? =some none:=by
 induction l with
 | nil=>exact absurd h (Nat.lt_irrefl _)
 | cons a l ih=>cases a with
  | none=>rfl
  | some a=>exact ih (Nat.lt_of_succ_lt_succ h)
theorem fst0_idx {α:Type}{f:Option α→V} (hf:∀ x,f x=V.non↔x=none) (l:List (Option α)):(l.map f).idxOf V.non=fst0 l∧(V.non∈l.map f↔fst0 l < l.length):=by
 induction l with
 | nil=>exact ⟨rfl,⟨fun z=>(nomatch z),fun z=>absurd z (Nat.lt_irrefl _)⟩⟩
 | cons a l ih=>
  rw [List.map_cons,List.idxOf_cons]
  cases a with
  | none=>
   have e:f none=V.non:=(hf none).mpr rfl
   rw [e]
   exact ⟨rfl,⟨fun _=>Nat.zero_lt_succ _,fun _=>List.mem_cons_self⟩⟩
  | some a=>
   have e:f (some a)≠V.non:=fun z=>by cases (hf (some a)).mp z
   have b:(f (some a) == V.non)=false:=beq_eq_false_iff_ne.mpr e
   rw [b]
   refine ⟨congrArg (· + 1) ih.1,?_⟩
   show _↔fst0 l + 1 < l.length + 1
   rw [List.mem_cons,ih.2]
   constructor
   ·rintro (z | z)
    ·exact absurd z.symm e
    ·omega
   ·intro z
    exact .inr (by omega)
theorem putO_map {α:Type}{f:Option α→V} (hf:∀ x,f x=V.non↔x=none) (l:List (Option α)) (x:α):putN (l.map f) (f (some x))=(putO l x).map f:=by
 obtain ⟨e1,e2⟩:=fst0_idx hf l
 unfold putN putO
 by_cases z:fst0 l < l.length
 ·rw [if_pos z,if_pos (e2.mpr z),List.map_set]
  exact congrArg (fun k=>(l.map f).set k (f (some x))) e1
 ·rw [if_neg z,if_neg (fun w=>z (e2.mp w)),List.map_append];rfl
theorem pV_non (p:Option (Addr×Addr)):pV p=V.non↔p=none:=by cases p<;>simp [pV]
theorem putO_at {α:Type} (l:List (Option α)) (x:α):(putO l x)[fst0 l]? =some (some x):=by
 unfold putO
 by_cases z:fst0 l < l.length
 ·rw [if_pos z,List.getElem?_set_self z]
 ·have e:fst0 l=l.length:=Nat.le_antisymm (fst0_le l) (by omega)
  rw [if_neg z,e,List.getElem?_append_right (Nat.le_refl _),Nat.sub_self];rfl
theorem putO_ne {α:Type}{l:List (Option α)}{x:α}{i:Nat}{y:Option α} (hi:i≠fst0 l) (h:(putO l x)[i]? =some y):l[i]? =some y:=by
 unfold putO at h
 by_cases z:fst0 l < l.length
 ·rw [if_pos z,List.getElem?_set_ne (fun w=>hi w.symm)] at h;exact h
 ·rw [if_neg z] at h
  have e:fst0 l=l.length:=Nat.le_antisymm (fst0_le l) (by omega)
  have hl:=(List.getElem?_eq_some_iff.mp h).1
  rw [List.length_append,List.length_singleton] at hl
  rw [List.getElem?_append_left (by omega)] at h
  exact h
theorem putO_len {α β:Type}{l:List (Option α)}{m:List (Option β)}{x:α}{y:β} (hl:l.length=m.length) (hf:fst0 l=fst0 m):(putO l x).length=(putO m y).length:=by
 unfold putO
 by_cases z:fst0 l < l.length
 ·rw [if_pos z,if_pos (by omega),List.length_set,List.length_set];exact hl
 ·rw [if_neg z,if_neg (by omega),List.length_append,List.length_append,hl];rfl
theorem putO_le {α:Type} (l:List (Option α)) (x:α):(putO l x).length≤l.length + 1:=by
 unfold putO
 by_cases z:fst0 l < l.length
 ·rw [if_pos z,List.length_set];omega
 ·rw [if_neg z,List.length_append];exact Nat.le_refl _
theorem fst0_eq {α β:Type}:∀ (l:List (Option α)) (m:List (Option β)),l.length=m.length→(∀ (i:Nat) x y,l[i]? =some x→m[i]? =some y→(x=none↔y=none))→fst0 l=fst0 m:=by
 intro l
 induction l with
 | nil=>
  intro m hl _
  cases m with
  | nil=>rfl
  | cons b m=>simp at hl
 | cons a l ih=>
  intro m hl h
  cases m with
  | nil=>simp at hl
  | cons b m=>
   have ih':=ih m (by simpa using hl) fun i x y h1 h2=>h (i + 1) x y (by simpa using h1) (by simpa using h2)
   have e:=h 0 a b rfl rfl
   cases a with
   | none=>rw [e.mp rfl];rfl
   | some a=>cases b with
    | none=>exact absurd (e.mpr rfl) (fun z=>by cases z)
    | some b=>exact congrArg (· + 1) ih'
section
variable {X:Cs}{H H':Hp}{T T':Tg}{s:Nat}{A:Wa}{M:Wm}
theorem WC.fst (j:WC X H T s A.cs M.cells):fst0 A.cs=fst0 M.cells:=fst0_eq _ _ j.lc fun i p c e1 e2=>by
 have e:=j.ce i p c e1 e2
 cases p with
 | none=>cases c with
  | none=>exact ⟨fun _=>rfl,fun _=>rfl⟩
  | some c=>exact e.elim
 | some p=>cases c with
  | none=>exact e.elim
  | some c=>exact ⟨fun z=>(by cases z),fun z=>(by cases z)⟩
theorem WJ.put (j:WJ X H T s A M) (w:WT H T) (h0:s≠0) {dx:Addr}{used':Int}{p fa:Addr}{c:Ce} (kp:∀ b o,H b=some o→b≠A.hp→b≠A.ca→H' b=some o) (a1:H' A.hp=some (.ins X.H dx (heapF M.room A.ca used' (M.born + 1)))) (a2:H' A.ca=some (.lst (putN (A.cs.map pV) (.ref p))))
  (n1:H p=none) (n2:H fa=none) (m1:p≠fa) (o1:∃ dx,H' p=some (.ins X.C dx (cellF c.birth c.bulk c.tone c.load fa))) (o2:H' fa=some (.lst (c.fl.map oV))):
  ∃ T',Stp s H H' T T'∧WJ X H' T' s { A with cs:=putO A.cs (p,fa) } { M with used:=used',born:=M.born + 1,cells:=putO M.cells c }:=by
 obtain ⟨th,tc,⟨dd,oh⟩,oc⟩:=j.jh
 have i1:=j.jc.fst
 let k:=fst0 A.cs
 let T':Tg:=setT (setT T p (s,100 + 2 * k)) fa (s,101 + 2 * k)
 have told:∀ b o,H b=some o→T' b=T b:=fun b o h=>by
  show setT _ _ _ b=_
  rw [setT_ne (ne_of_none h n2),setT_ne (ne_of_none h n1)]
 have t1:T' p=(s,100 + 2 * k):=by show setT _ _ _ p=_;rw [setT_ne m1,setT_same]
 have t2:T' fa=(s,101 + 2 * k):=by show setT _ _ _ fa=_;rw [setT_same]
 have al:∀ b o,H b=some o→∃ o',H' b=some o':=fun b o h=>by
  by_cases z1:b=A.hp
  ·exact ⟨_,by rw [z1];exact a1⟩
  ·by_cases z2:b=A.ca
   ·exact ⟨_,by rw [z2];exact a2⟩
   ·exact ⟨o,kp b o h z1 z2⟩
 have f:Frm s (fun k=>k=1∨k=2) H H' T T':=⟨fun b o h e n=>kp b o h (fun z=>n (.inl (by rw [z,th]))) (fun z=>n (.inr (by rw [z,tc]))),told⟩
 have f0:∀ b o,H b=some o→T b=(0,0)→H' b=some o:=fun b o h t=>kp b o h (ne_tag t th (fun z=>h0 (congrArg Prod.fst z).symm)) (ne_tag t tc (fun z=>h0 (congrArg Prod.fst z).symm))
 refine ⟨T',⟨fun b o h nn=>kp b o h (fun z=>nn (by rw [z,th])) (fun z=>nn (by rw [z,tc])),al,told,fun b h=>?_⟩,?_⟩
 ·have b1:b≠p:=fun e=>by obtain ⟨d,z⟩:=o1;rw [e,z] at h;cases h
  have b2:b≠fa:=fun e=>by rw [e,o2] at h;cases h
  have hb:H b=none:=by
   cases z:H b with
   | none=>rfl
   | some o=>obtain ⟨o',z'⟩:=al b o z;rw [h] at z';cases z'
  show setT _ _ _ b=_
  rw [setT_ne b2,setT_ne b1]
  exact w b hb
 ·refine ⟨?_,⟨f.tag oh th,f.tag oc tc,⟨dx,a1⟩,?_⟩,?_,?_,j.jd.mv f fun _ _ _=>by omega,⟨putO_len j.jc.lc i1,fun i g cc e1 e2=>?_⟩⟩
  ·obtain ⟨b1,b2,b3,b4,b5,b6,b7,b8⟩:=j.jb.mv f f0 (by omega) (by omega)
   exact ⟨b1,b2,b3,b4,b5,b6,b7,b8⟩
  ·show H' A.ca=some (.lst ((putO A.cs (p,fa)).map pV))
   rw [← putO_map pV_non];exact a2
  ·obtain ⟨b1,b2,b3⟩:=j.jn.mv f f0 (by omega)
   exact ⟨b1,b2,b3⟩
  ·obtain ⟨b1,b2,b3,b4⟩:=j.js.mv f (by omega) (by omega)
   exact ⟨b1,b2,b3,b4⟩
  ·dsimp only at e1 e2
   by_cases hk:i=fst0 A.cs
   ·subst hk
    rw [putO_at] at e1
    rw [i1,putO_at] at e2
    cases e1
    cases e2
    exact ⟨t1,t2,o1,o2⟩
   ·exact (j.jc.ce i g cc (putO_ne hk e1) (putO_ne (by rw [← i1];exact hk) e2)).mv f (by omega) (by omega)
end
def cellAt (M:Wm) (x:Int):Option Ce:=if 0≤x then (M.cells[x.toNat]?).join else none
def bAt (M:Wm):Option Int→Option Int
 | none=>none
 | some x=>(cellAt M x).map (·.birth)
def Za9 (M:Wm) (h k:Nat):Option Int:=((M.hands[h]?).bind fun m=>m.2[k]?).join
def setSlot (M:Wm) (h k:Nat) (x:Option Int):Wm:={ M with hands:=M.hands.modify h fun m=>(m.1,m.2.set k x) }
def setCell (M:Wm) (i:Int) (c:Ce):Wm:={ M with cells:=M.cells.set i.toNat (some c) }
def noteM (M:Wm):Option Int→Option Int×Wm
 | none=>(none,M)
 | some i=>match cellAt M i with
  | none=>(none,M)
  | some c=>if M.sw.phase="walk"∧c.tone≠M.sw.sense then (some c.birth,{ setCell M i { c with tone:=M.sw.sense } with sw:={ M.sw with grey:=M.sw.grey ++ [i] } }) else (none,M)
def lookedAt (M:Wm) (h:Nat):Bool:=decide (M.sw.looked / 2 ^ h % 2=1)
def goneM (M:Wm) (place birth:Int):Bool:=match cellAt M place with
 | none=>true
 | some c=>if c.birth=birth then decide (M.sw.phase="give"∧c.tone≠M.sw.sense) else true
def putNm (l:List (Str×(Int×Int))) (k:Str) (v:Int×Int):List (Str×(Int×Int)):=if (l.any fun m=>decide (m.1=k))=true then l.map (fun m=>if m.1=k then (m.1,v) else m) else l ++ [(k,v)]
def getNm (l:List (Str×(Int×Int))) (k:Str):Option (Int×Int):=(l.find? fun m=>decide (m.1=k)).map (·.2)
inductive Rf where
 | full | empty | nofield | noname
 deriving DecidableEq
structure Ev where
 word:Str
 thing:Option Int
 notes:List Int
inductive Deed where
 | make (h s:Nat) (many bulk:Int)
 | get (h s t f:Nat)
 | put (h t f s:Nat)
 | copy (h s t:Nat)
 | drop (h s:Nat)
 | give (h s g t:Nat)
 | write (h t:Nat) (load:Int)
 | read (h t:Nat)
 | name (h t:Nat) (word:Str)
 | seek (h s:Nat) (word:Str)
def old? (M:Wm):Bool:=decide (M.tells % 2=1)
def new? (M:Wm):Bool:=decide (M.tells / 2 % 2=1)
def ofN:Option Int→List Int
 | none=>[]
 | some b=>[b]
def notesM (M:Wm):List (Option Int)→List Int×Wm
 | []=>([],M)
 | x :: l=>(ofN (noteM M x).1 ++ (notesM (noteM M x).2 l).1,(notesM (noteM M x).2 l).2)
def doM (M:Wm):Deed→Except Rf (Ev×Wm)
 | .make h s many bulk=>
  if M.used + (1 + many + bulk)≤M.room then
   .ok (⟨"made",some (M.born + 1),[]⟩,setSlot { M with used:=M.used + (1 + many + bulk),born:=M.born + 1,cells:=putO M.cells ⟨M.born + 1,bulk,M.sw.sense,0,List.replicate many.toNat none⟩ } h s (some (fst0 M.cells)))
  else .error .full
 | .get h s t f=>match Za9 M h t with
  | none=>.error .empty
  | some x=>match cellAt M x with
   | none=>.error .empty
   | some c=>match c.fl[f]? with
    | none=>.error .nofield
    | some v=>.ok (⟨"got",bAt M v,[]⟩,setSlot M h s v)
 | .put h t f s=>match Za9 M h t with
  | none=>.error .empty
  | some x=>match cellAt M x with
   | none=>.error .empty
   | some c=>match c.fl[f]? with
    | none=>.error .nofield
    | some v=>
     let M1:=setCell M x { c with fl:=c.fl.set f (Za9 M h s) }
     let r:=notesM M1 ((if old? M=true then [v] else []) ++ if (new? M && !lookedAt M h)=true then [Za9 M h s] else [])
     .ok (⟨"put",bAt M v,r.1⟩,r.2)
 | .copy h s t=>.ok (⟨"copied",bAt M (Za9 M h t),[]⟩,setSlot M h s (Za9 M h t))
 | .drop h s=>.ok (⟨"dropped",bAt M (Za9 M h s),[]⟩,setSlot M h s none)
 | .give h s g t=>
  let r:=notesM (setSlot M g t (Za9 M h s)) (if (new? M && !lookedAt M h)=true then [Za9 M h s] else [])
  .ok (⟨"given",bAt M (Za9 M h s),r.1⟩,r.2)
 | .write h t load=>match Za9 M h t with
  | none=>.error .empty
  | some x=>match cellAt M x with
   | none=>.error .empty
   | some c=>.ok (⟨"wrote",some c.load,[]⟩,setCell M x { c with load:=load })
 | .read h t=>match Za9 M h t with
  | none=>.error .empty
  | some x=>match cellAt M x with
   | none=>.error .empty
   | some c=>.ok (⟨"read",some c.load,[]⟩,M)
 | .name h t word=>match Za9 M h t with
  | none=>.error .empty
  | some x=>match cellAt M x with
   | none=>.error .empty
   | some c=>.ok (⟨"named",some c.birth,[]⟩,{ M with names:=putNm M.names word (x,c.birth) })
 | .seek h s word=>match getNm M.names word with
  | none=>.error .noname
  | some (p,b)=>
   if goneM M p b=true then .ok (⟨"sought",none,[]⟩,setSlot M h s none)
   else
    let r:=notesM (setSlot M h s (some p)) [some p]
    .ok (⟨"sought",some b,r.1⟩,r.2)
def dV:Deed→List V
 | .make h s many bulk=>[.str "make",.int h,.int s,.int many,.int bulk]
 | .get h s t f=>[.str "get",.int h,.int s,.int t,.int f]
 | .put h t f s=>[.str "put",.int h,.int t,.int f,.int s]
 | .copy h s t=>[.str "copy",.int h,.int s,.int t]
 | .drop h s=>[.str "drop",.int h,.int s]
 | .give h s g t=>[.str "give",.int h,.int s,.int g,.int t]
 | .write h t load=>[.str "write",.int h,.int t,.int load]
 | .read h t=>[.str "read",.int h,.int t]
 | .name h t word=>[.str "name",.int h,.int t,.str word]
 | .seek h s word=>[.str "seek",.int h,.int s,.str word]
def okS (M:Wm) (h s:Nat):Prop:=∃ m,M.hands[h]? =some m∧s < m.2.length
def okD (M:Wm):Deed→Prop
 | .make h s many bulk=>okS M h s∧0≤many∧many≤1000∧0≤bulk
 | .get h s t _=>okS M h s∧okS M h t
 | .put h t _ s=>okS M h t∧okS M h s
 | .copy h s t=>okS M h s∧okS M h t
 | .drop h s=>okS M h s
 | .give h s g t=>okS M h s∧okS M g t
 | .write h t _=>okS M h t
 | .read h t=>okS M h t
 | .name h t _=>okS M h t
 | .seek h s _=>okS M h s
structure Ok (M:Wm):Prop where
 sl:∀ m∈M.hands,∀ x,some x∈m.2→∃ c,cellAt M x=some c
 fl:∀ c,some c∈M.cells→∀ x,some x∈c.fl→∃ d,cellAt M x=some d
 tn:∀ c,some c∈M.cells→c.tone=0∨c.tone=1
def rfA (CFull CEmpty CNoField CNoName:Addr):Rf→Addr
 | .full=>CFull
 | .empty=>CEmpty
 | .nofield=>CNoField
 | .noname=>CNoName
def EvO (H:Hp) (a:Addr) (e:Ev):Prop:=∃ l,H a=some (.tup [.str e.word,oV e.thing,.ref l])∧H l=some (.lst (e.notes.map V.int))
def EvN (H0 H:Hp) (a:Addr) (e:Ev):Prop:=∃ l,H0 l=none∧H a=some (.tup [.str e.word,oV e.thing,.ref l])∧H l=some (.lst (e.notes.map V.int))
theorem EvN.o {H0 H:Hp}{a:Addr}{e:Ev} (h:EvN H0 H a e):EvO H a e:=by
 obtain ⟨l,_,h1,h2⟩:=h
 exact ⟨l,h1,h2⟩
def S_deed (X:Cs) (rf:Rf→Addr) (P:Deed→Prop):Sp:=fun vs H Q E=>∃ wo dd,vs=[.ref wo,.ref dd]∧∃ T s A M d,P d∧WT H T∧s≠0∧WJ X H T s A M∧A.wo=wo∧H dd=some (.tup (dV d))∧okD M d∧Ok M∧M.cells.length≤900∧(M.sw.phase="walk"→M.sw.grey.length≤10000)∧(0≤M.tells∧M.tells < 4)∧M.names.length≤1000∧
 (∀ r,doM M d=.error r→∀ H',Same H H'→E (.ref (rf r)) none H')∧
 (∀ e M',doM M d=.ok (e,M')→∀ H' T' A' a,Stp s H H' T T'→WJ X H' T' s A' M'→A'.wo=wo→EvN H H' a e→Q (.ref a) H')
theorem putO_keep {α:Type}{l:List (Option α)}{x a:α}{i:Nat} (h:l[i]? =some (some a)):(putO l x)[i]? =some (some a):=by
 have hl:=(List.getElem?_eq_some_iff.mp h).1
 unfold putO
 by_cases z:fst0 l < l.length
 ·have hi:i≠fst0 l:=fun e=>by rw [e,fst0_at z] at h;cases h
  rw [if_pos z,List.getElem?_set_ne (fun w=>hi w.symm)];exact h
 ·rw [if_neg z,List.getElem?_append_left hl];exact h
theorem cellAt_some {M:Wm}{x:Int}{c:Ce}:cellAt M x=some c↔0≤x∧M.cells[x.toNat]? =some (some c):=by
 unfold cellAt
 by_cases z:0≤x
 ·rw [if_pos z]
  cases e:M.cells[x.toNat]? with
  | none=>simp
  | some y=>cases y with
   | none=>simp
   | some d=>simp [z]
 ·rw [if_neg z]
  simp [z]
theorem cellAt_put {M:Wm}{x u b:Int}{c d:Ce} (h:cellAt M x=some d):cellAt { M with used:=u,born:=b,cells:=putO M.cells c } x=some d:=by
 obtain ⟨h0,h1⟩:=cellAt_some.mp h
 exact cellAt_some.mpr ⟨h0,putO_keep h1⟩
theorem cellAt_new {M:Wm}{u b:Int}{c:Ce}:cellAt { M with used:=u,born:=b,cells:=putO M.cells c } (fst0 M.cells)=some c:=
 cellAt_some.mpr ⟨by omega,by rw [Int.toNat_natCast];exact putO_at _ _⟩
theorem mem_putO {α:Type}{l:List (Option α)}{x:α}{y:Option α} (h:y∈putO l x):y∈l∨y=some x:=by
 unfold putO at h
 by_cases z:fst0 l < l.length
 ·rw [if_pos z] at h
  rcases List.mem_or_eq_of_mem_set h with h | h
  ·exact .inl h
  ·exact .inr h
 ·rw [if_neg z] at h
  rcases List.mem_append.mp h with h | h
  ·exact .inl h
  ·exact .inr (List.mem_singleton.mp h)
theorem slotOf_eq {M:Wm}{h k:Nat}{m:Str×List (Option Int)}{x:Option Int} (hm:M.hands[h]? =some m) (hk:m.2[k]? =some x):Za9 M h k=x:=by
 unfold Za9
 rw [hm]
 show (m.2[k]?).join=x
 rw [hk];rfl
theorem okS_slot {M:Wm}{h k:Nat} (o:okS M h k):∃ m,M.hands[h]? =some m∧m.2[k]? =some (Za9 M h k)∧k < m.2.length:=by
 obtain ⟨m,hm,hk⟩:=o
 refine ⟨m,hm,?_,hk⟩
 rw [slotOf_eq hm (List.getElem?_eq_getElem hk)]
 exact List.getElem?_eq_getElem hk
theorem setSlot_hands {M:Wm}{h k:Nat}{x:Option Int}{m:Str×List (Option Int)} (hm:M.hands[h]? =some m):(setSlot M h k x).hands=M.hands.set h (m.1,m.2.set k x):=by
 show M.hands.modify h _=_
 apply List.ext_getElem?
 intro i
 rw [List.getElem?_modify]
 by_cases e:h=i
 ·subst e
  rw [List.getElem?_set_self (List.getElem?_eq_some_iff.mp hm).1,hm]
  simp
 ·rw [List.getElem?_set_ne e]
  simp [e]
theorem cellAt_setSlot {M:Wm}{h k:Nat}{x:Option Int}{y:Int}:cellAt (setSlot M h k x) y=cellAt M y:=rfl
theorem bAt_setSlot {M:Wm}{h k:Nat}{x:Option Int}{y:Option Int}:bAt (setSlot M h k x) y=bAt M y:=by cases y<;>rfl
theorem Ok.slot {M:Wm} (o:Ok M) {h k:Nat}{x:Option Int} (hx:∀ y,x=some y→∃ c,cellAt M y=some c):Ok (setSlot M h k x):=by
 refine ⟨fun m hm y hy=>?_,o.fl,o.tn⟩
 rw [cellAt_setSlot]
 obtain ⟨i,hi,e⟩:=List.getElem_of_mem hm
 have e':(M.hands.modify h fun m=>(m.1,m.2.set k x))[i]? =some m:=by rw [← e];exact List.getElem?_eq_getElem hi
 rw [List.getElem?_modify] at e'
 cases em:M.hands[i]? with
 | none=>rw [em] at e';cases e'
 | some m0=>
  rw [em] at e'
  have hm0:m0∈M.hands:=List.mem_of_getElem? em
  by_cases z:h=i
  ·have e2:(m0.1,m0.2.set k x)=m:=by simpa [z] using e'
   rw [← e2] at hy
   rcases List.mem_or_eq_of_mem_set hy with hy | hy
   ·exact o.sl m0 hm0 y hy
   ·exact hx y hy.symm
  ·have e2:m0=m:=by simpa [z] using e'
   rw [← e2] at hy
   exact o.sl m0 hm0 y hy
theorem Ok.put {M:Wm} (o:Ok M) {u b:Int}{c:Ce} (hf:∀ x,some x∉c.fl) (ht:c.tone=0∨c.tone=1):Ok { M with used:=u,born:=b,cells:=putO M.cells c }:=by
 refine ⟨fun m hm x hx=>?_,fun d hd x hx=>?_,fun d hd=>?_⟩
 ·obtain ⟨e,he⟩:=o.sl m hm x hx
  exact ⟨e,cellAt_put he⟩
 ·rcases mem_putO hd with hd | hd
  ·obtain ⟨e,he⟩:=o.fl d hd x hx
   exact ⟨e,cellAt_put he⟩
  ·cases hd
   exact absurd hx (hf x)
 ·rcases mem_putO hd with hd | hd
  ·exact o.tn d hd
  ·cases hd
   exact ht
def rowsOf (M:Wm):List (List (Option Int)):=M.hands.map fun m=>m.2.map (bAt M)
theorem noteM_rest {M:Wm} (h:M.sw.phase≠"walk") (x:Option Int):noteM M x=(none,M):=by
 cases x with
 | none=>rfl
 | some x=>
  unfold noteM
  dsimp only
  cases cellAt M x with
  | none=>rfl
  | some c=>
   dsimp only
   rw [if_neg (fun z=>h z.1)]
theorem do_make_fit {M:Wm}{h s:Nat}{many bulk:Int} (hf:M.used + (1 + many + bulk)≤M.room):doM M (.make h s many bulk)=.ok (⟨"made",some (M.born + 1),[]⟩,setSlot { M with used:=M.used + (1 + many + bulk),born:=M.born + 1,cells:=putO M.cells ⟨M.born + 1,bulk,M.sw.sense,0,List.replicate many.toNat none⟩ } h s (some (fst0 M.cells))):=by
 show (if _ then _ else _)=_
 rw [if_pos hf]
structure TxW (K:PySem.W.Frag) (X:Cs):Prop where
 c:TxC K X.C X.H
 cW:Cls K X.W
 nWh:NoAttr K X.W "heap"
 nWk:NoAttr K X.W "kind"
 nWd:NoAttr K X.W "hands"
 nWn:NoAttr K X.W "names"
 nWs:NoAttr K X.W "sweeper"
 cD:Cls K X.D
 nDn:NoAttr K X.D "name"
 nDs:NoAttr K X.D "slots"
 cK:Cls K X.K
 nKl:NoAttr K X.K "looking"
 nKt:NoAttr K X.K "tells"
 cS:Cls K X.S
 n1:NoAttr K X.S "sense"
 n2:NoAttr K X.S "phase"
 n3:NoAttr K X.S "grey"
 n4:NoAttr K X.S "looked"
 n5:NoAttr K X.S "turn"
 n6:NoAttr K X.S "at"
 n7:NoAttr K X.S "stop"
 n8:NoAttr K X.S "walks"
 n9:NoAttr K X.S "looks"
 n10:NoAttr K X.S "passes"
 n11:NoAttr K X.S "loss"
def atO (cs:List V):V→V
 | .int i=>if 0≤i then (cs[i.toNat]?).getD .non else .non
 | _=>.non
def S_cell_at (CH:Addr):Sp:=fun vs H Q E=>∃ hp pl,vs=[.ref hp,pl]∧(pl=.non∨∃ i,pl=.int i)∧∃ ca room used born cs,HpO CH H hp ca room used born cs∧Q (atO cs pl) H
def cO (M:Wm) (x:Option Int):Option Ce:=x.bind (cellAt M)
def S_birth_at (X:Cs):Sp:=fun vs H Q E=>∃ hp pl,vs=[.ref hp,pl]∧∃ x,pl=oV x∧∃ T s A M,WJ X H T s A M∧A.hp=hp∧Q (oV (bAt M x)) H
def S_has_field (X:Cs):Sp:=fun vs H Q E=>∃ p f,vs=[.ref p,.int f]∧∃ T s i q c,CeO X.C H T s i q c∧q.1=p∧Q (.bl (decide (0≤f) && decide (f < c.fl.length))) H
def S_slots_of (X:Cs):Sp:=fun vs H Q E=>∃ wo h,vs=[.ref wo,.int h]∧∃ T s A M k p,WJ X H T s A M∧A.wo=wo∧h=((k:Nat):Int)∧A.hs[k]? =some p∧Q (.ref p.2) H
def S_has_sense (X:Cs):Sp:=fun vs H Q E=>∃ wo p,vs=[.ref wo,.ref p]∧∃ T s A M i q c,WJ X H T s A M∧A.wo=wo∧CeO X.C H T s i q c∧q.1=p∧Q (.bl (decide (c.tone=M.sw.sense))) H
def S_looked_at (X:Cs):Sp:=fun vs H Q E=>∃ wo h,vs=[.ref wo,.int h]∧∃ T s A M k,WJ X H T s A M∧A.wo=wo∧h=((k:Nat):Int)∧Q (.bl (lookedAt M k)) H
def S_told_old (X:Cs):Sp:=fun vs H Q E=>∃ wo v,vs=[.ref wo,v]∧∃ T s A M,WJ X H T s A M∧A.wo=wo∧(0≤M.tells∧M.tells < 4)∧∀ l,H l=none→Q (.ref l) (upd H l (.lst (if old? M=true then [v] else [])))
def S_told_new (X:Cs):Sp:=fun vs H Q E=>∃ wo h v,vs=[.ref wo,.int h,v]∧∃ T s A M k,WJ X H T s A M∧A.wo=wo∧(0≤M.tells∧M.tells < 4)∧h=((k:Nat):Int)∧∀ l,H l=none→Q (.ref l) (upd H l (.lst (if (new? M && !lookedAt M k)=true then [v] else [])))
def S_cell_in (X:Cs) (CE:Addr):Sp:=fun vs H Q E=>∃ wo h t,vs=[.ref wo,.int h,.int t]∧∃ T s A M hn tn,WJ X H T s A M∧A.wo=wo∧h=((hn:Nat):Int)∧t=((tn:Nat):Int)∧okS M hn tn∧
 (cO M (Za9 M hn tn)=none→E (.ref CE) none H)∧
 (∀ i c p,Za9 M hn tn=some i→0≤i→cellAt M i=some c→A.cs[i.toNat]? =some (some p)→CeO X.C H T s i.toNat p c→Q (.ref p.1) H)
def S_fields_in (X:Cs) (CE CF:Addr):Sp:=fun vs H Q E=>∃ wo h t f,vs=[.ref wo,.int h,.int t,.int f]∧∃ T s A M hn tn fn,WJ X H T s A M∧A.wo=wo∧h=((hn:Nat):Int)∧t=((tn:Nat):Int)∧f=((fn:Nat):Int)∧okS M hn tn∧
 (cO M (Za9 M hn tn)=none→E (.ref CE) none H)∧
 (∀ i c,Za9 M hn tn=some i→0≤i→cellAt M i=some c→c.fl[fn]? =none→E (.ref CF) none H)∧
 (∀ i c p,Za9 M hn tn=some i→0≤i→cellAt M i=some c→A.cs[i.toNat]? =some (some p)→CeO X.C H T s i.toNat p c→fn < c.fl.length→Q (.ref p.2) H)
def S_note (X:Cs):Sp:=fun vs H Q E=>∃ wo pl,vs=[.ref wo,pl]∧∃ x,pl=oV x∧∃ T s A M,WT H T∧s≠0∧WJ X H T s A M∧A.wo=wo∧(M.sw.phase="walk"→M.sw.grey.length≤20000)∧
 ∀ H',Stp s H H' T T→WJ X H' T s A (noteM M x).2→Q (oV (noteM M x).1) H'
def S_note_all (X:Cs):Sp:=fun vs H Q E=>∃ wo pl,vs=[.ref wo,.ref pl]∧∃ xs T s A M,WT H T∧s≠0∧WJ X H T s A M∧A.wo=wo∧H pl=some (.lst (xs.map oV))∧T pl=(0,0)∧xs.length≤100∧(M.sw.phase="walk"→M.sw.grey.length≤10000)∧
 ∀ H' T' l,Stp s H H' T T'→WJ X H' T' s A (notesM M xs).2→H' l=some (.lst ((notesM M xs).1.map V.int))→H l=none→Q (.ref l) H'
def S_gone (X:Cs):Sp:=fun vs H Q E=>∃ wo p b,vs=[.ref wo,.int p,.int b]∧∃ T s A M,WJ X H T s A M∧A.wo=wo∧Q (.bl (goneM M p b)) H
def S_place_named (X:Cs) (CN:Addr):Sp:=fun vs H Q E=>∃ wo z,vs=[.ref wo,.str z]∧∃ T s A M,WJ X H T s A M∧A.wo=wo∧(getNm M.names z=none→E (.ref CN) none H)∧(∀ p b,getNm M.names z=some (p,b)→Q (if goneM M p b=true then .non else .int p) H)
theorem oV_cases (x:Option Int):oV x=.non∨∃ i,oV x=.int i:=by cases x with
 | none=>exact .inl rfl
 | some i=>exact .inr ⟨i,rfl⟩
section
variable {X:Cs}{H H':Hp}{T T':Tg}{s:Nat}{A:Wa}{M:Wm}
theorem WJ.hpO (j:WJ X H T s A M):HpO X.H H A.hp A.ca M.room M.used M.born (A.cs.map pV):=⟨j.jh.oh,j.jh.oc⟩
theorem WJ.look (j:WJ X H T s A M) (x:Option Int):(cO M x=none∧atO (A.cs.map pV) (oV x)=.non)∨∃ i c p,x=some i∧0≤i∧cellAt M i=some c∧M.cells[i.toNat]? =some (some c)∧A.cs[i.toNat]? =some (some p)∧atO (A.cs.map pV) (oV x)=.ref p.1∧CeO X.C H T s i.toNat p c:=by
 cases x with
 | none=>exact .inl ⟨rfl,rfl⟩
 | some i=>
  show (cellAt M i=none∧atO _ (.int i)=_)∨_
  by_cases h0:0≤i
  ·cases hc:M.cells[i.toNat]? with
   | none=>
    have hl:A.cs[i.toNat]? =none:=by
     rw [List.getElem?_eq_none_iff] at hc ⊢
     rw [j.jc.lc];exact hc
    refine .inl ⟨by unfold cellAt;rw [if_pos h0,hc];rfl,?_⟩
    show (if 0≤i then _ else _)=_
    rw [if_pos h0,List.getElem?_map,hl];rfl
   | some y=>cases y with
    | none=>
     refine .inl ⟨by unfold cellAt;rw [if_pos h0,hc];rfl,?_⟩
     show (if 0≤i then _ else _)=_
     rw [if_pos h0,List.getElem?_map,j.jc.at0 hc];rfl
    | some c=>
     obtain ⟨p,hp,e⟩:=j.jc.at hc
     refine .inr ⟨i,c,p,rfl,h0,by unfold cellAt;rw [if_pos h0,hc];rfl,hc,hp,?_,e⟩
     show (if 0≤i then _ else _)=_
     rw [if_pos h0,List.getElem?_map,hp];rfl
  ·refine .inl ⟨by unfold cellAt;rw [if_neg h0],?_⟩
   show (if 0≤i then _ else _)=_
   rw [if_neg h0]
theorem WJ.hand (j:WJ X H T s A M) {k:Nat}{p:Addr×Addr} (hp:A.hs[k]? =some p):∃ m,M.hands[k]? =some m∧HdO X.D H T s k p m:=by
 have hl:k < M.hands.length:=by rw [← j.jd.lh];exact (List.getElem?_eq_some_iff.mp hp).1
 exact ⟨_,List.getElem?_eq_getElem hl,j.jd.hd k p _ hp (List.getElem?_eq_getElem hl)⟩
theorem WJ.handOf (j:WJ X H T s A M) {h t:Nat} (o:okS M h t):∃ p m,A.hs[h]? =some p∧M.hands[h]? =some m∧m.2[t]? =some (Za9 M h t)∧t < m.2.length∧HdO X.D H T s h p m:=by
 obtain ⟨m,hm,hk,hl⟩:=okS_slot o
 have hh:h < A.hs.length:=by rw [j.jd.lh];exact (List.getElem?_eq_some_iff.mp hm).1
 exact ⟨_,m,List.getElem?_eq_getElem hh,hm,hk,hl,j.jd.hd h _ m (List.getElem?_eq_getElem hh) hm⟩
theorem WJ.fresh (j:WJ X H T s A M) {l:Addr}{o:HO}{v:Nat×Nat} (h:H l=none):WJ X (upd H l o) (setT T l v) s A M:=
 j.mv (H':=upd H l o) (T':=setT T l v) ⟨fun b u e _ _=>by rw [upd_ne (ne_of_none e h)];exact e,fun b u e=>setT_ne (ne_of_none e h)⟩ fun b u e _=>by rw [upd_ne (ne_of_none e h)];exact e
end
theorem bit4 {t:Int} (h:0≤t∧t < 4):Builtin.bitAnd t 1=t % 2∧(Builtin.bitAnd t 2=0↔¬ t / 2 % 2=1):=by
 have:t=0∨t=1∨t=2∨t=3:=by omega
 rcases this with rfl | rfl | rfl | rfl<;>decide
section
variable {K:PySem.W.Frag}{X:Cs}{H:Hp}{Q:VK}{E:XK}{n:St→Hp→Prop}{bk ct:St→Hp→Prop}
theorem cell_at_rd {hp:Addr}{pl:V} (T:TxW K X) (q:(pl=.non∨∃ i,pl=.int i)∧∃ ca room used born cs,HpO X.H H hp ca room used born cs∧Q (atO cs pl) H):rd_cell_at K ⟨n,Q,bk,ct⟩ [some (.ref hp),some pl] H:=by
 obtain ⟨hpl,ca,room,used,born,cs,⟨⟨dx,h1⟩,h2⟩,q⟩:=q
 unfold rd_cell_at
 rcases hpl with rfl | ⟨i,rfl⟩
 ·walk_at "ev"
  exact q
 ·walk_at "ev"
  refine ifd (fun z=>?_) (fun z=>?_)
  ·walk_at "ev"
   rw [show atO cs (.int i)=.non from if_neg (by omega)] at q
   exact q
  ·rw [show atO cs (.int i)=(cs[i.toNat]?).getD .non from if_pos (by omega)] at q
   walk_at "ev"
   refine Zaa h1 T.c.cl_Heap T.c.Zao heapF_lk_cells ?_
   walk_at "ev"
   refine i_lenL (SqL.of h2) ?_
   walk_at "ev"
   refine ifd (fun y=>?_) (fun y=>?_)
   ·walk_at "ev"
    rw [List.getElem?_eq_none_iff.mpr (by omega)] at q
    exact q
   ·walk_at "ev"
    refine Zaa h1 T.c.cl_Heap T.c.Zao heapF_lk_cells ?_
    walk_at "ev"
    have hl:i.toNat < cs.length:=by omega
    refine i_ixL (SqL.of h2) (atI_int (by omega) (List.getElem?_eq_getElem hl)) ?_
    rw [List.getElem?_eq_getElem hl] at q
    exact q
theorem birth_at_rd {hp:Addr}{pl:V} (T:TxW K X) (q:∃ x,pl=oV x∧∃ T s A M,WJ X H T s A M∧A.hp=hp∧Q (oV (bAt M x)) H):rd_birth_at K (S_cell_at X.H) ⟨n,Q,bk,ct⟩ [some (.ref hp),some pl,none] H:=by
 obtain ⟨x,rfl,Tg,s,A,M,j,rfl,q⟩:=q
 unfold rd_birth_at
 walk_at "ev"
 refine ⟨_,_,rfl,oV_cases x,_,_,_,_,_,j.hpO,?_⟩
 rcases j.look x with ⟨e1,e2⟩ | ⟨i,c,p,rfl,h0,ec,_,_,e2,⟨t1,t2,⟨dx,o1⟩,o2⟩⟩
 ·rw [e2]
  have:bAt M x=none:=by
   cases x with
   | none=>rfl
   | some i=>show (cellAt M i).map _=none;rw [show cellAt M i=none from e1];rfl
  rw [this] at q
  walk_at "ev"
  exact q
 ·rw [e2]
  have:bAt M (some i)=some c.birth:=by show (cellAt M i).map _=_;rw [ec];rfl
  rw [this] at q
  walk_at "ev"
  refine Zaa o1 T.c.cl_Cell T.c.n_Cell_birth cellF_lk_birth ?_
  exact q
theorem Cell_has_field_rd {p:Addr}{f:Int} (T:TxW K X) (q:∃ T s i q c,CeO X.C H T s i q c∧q.1=p∧Q (.bl (decide (0≤f) && decide (f < c.fl.length))) H):rd_Cell_has_field K ⟨n,Q,bk,ct⟩ [some (.ref p),some (.int f)] H:=by
 obtain ⟨Tg,s,i,r,c,⟨t1,t2,⟨dx,o1⟩,o2⟩,rfl,q⟩:=q
 unfold rd_Cell_has_field
 walk_at "ev"
 refine ifd (fun z=>?_) (fun z=>?_)
 ·rw [decide_eq_true z,Bool.true_and] at q
  walk_at "ev"
  refine Zaa o1 T.c.cl_Cell T.c.n_Cell_fields cellF_lk_fields ?_
  walk_at "ev"
  refine i_lenL (SqL.of o2) ?_
  walk_at "ev"
  rw [List.length_map]
  exact q
 ·rw [decide_eq_false z,Bool.false_and] at q
  walk_at "ev"
  exact q
theorem slots_of_rd {wo:Addr}{h:Int} (T:TxW K X) (q:∃ T s A M k p,WJ X H T s A M∧A.wo=wo∧h=((k:Nat):Int)∧A.hs[k]? =some p∧Q (.ref p.2) H):rd_slots_of K ⟨n,Q,bk,ct⟩ [some (.ref wo),some (.int h)] H:=by
 obtain ⟨Tg,s,A,M,k,p,j,rfl,rfl,hp,q⟩:=q
 obtain ⟨d1,ow⟩:=j.jb.ow
 obtain ⟨m,hm,⟨t1,t2,⟨dx,o1⟩,o2⟩⟩:=j.hand hp
 unfold rd_slots_of
 walk_at "ev"
 refine Zaa ow T.cW T.nWd worldF_lk_hands ?_
 walk_at "ev"
 refine i_ixL (SqL.of j.jb.on) (atI_nat (v:=.ref p.1) (by rw [List.getElem?_map,hp];rfl)) ?_
 refine Zaa o1 T.cD T.nDs handF_lk_slots ?_
 exact q
theorem has_sense_rd {wo p:Addr} (T:TxW K X) (q:∃ T s A M i q c,WJ X H T s A M∧A.wo=wo∧CeO X.C H T s i q c∧q.1=p∧Q (.bl (decide (c.tone=M.sw.sense))) H):rd_has_sense K ⟨n,Q,bk,ct⟩ [some (.ref wo),some (.ref p)] H:=by
 obtain ⟨Tg,s,A,M,i,r,c,j,rfl,⟨t1,t2,⟨dx,o1⟩,o2⟩,rfl,q⟩:=q
 obtain ⟨d1,ow⟩:=j.jb.ow
 obtain ⟨d2,os⟩:=j.js.os
 unfold rd_has_sense
 walk_at "ev"
 refine Zaa o1 T.c.cl_Cell T.c.n_Cell_tone cellF_lk_tone ?_
 walk_at "ev"
 refine Zaa ow T.cW T.nWs worldF_lk_sweeper ?_
 walk_at "ev"
 refine Zaa os T.cS T.n1 sweepF_lk_sense ?_
 walk_at "ev"
 exact q
end
theorem bitS {y:Int}:Builtin.bitAnd y 1=y % 2:=by
 unfold Builtin.bitAnd
 by_cases h:0≤y
 ·rw [decide_eq_true h,decide_eq_true (show (0:Int)≤1 by decide)]
  show ((y.toNat &&& 1:Nat):Int)=_
  rw [Nat.and_one_is_mod];omega
 ·rw [decide_eq_false h,decide_eq_true (show (0:Int)≤1 by decide)]
  show (1:Int) - ((1 &&& (Builtin.bitNot y).toNat:Nat):Int)=_
  rw [Nat.and_comm,Nat.and_one_is_mod]
  unfold Builtin.bitNot
  omega
section
variable {K:PySem.W.Frag}{X:Cs}{H:Hp}{Q:VK}{E:XK}{n:St→Hp→Prop}{bk ct:St→Hp→Prop}{CE CF CN:Addr}
theorem looked_at_rd {wo:Addr}{h:Int} (T:TxW K X) (q:∃ T s A M k,WJ X H T s A M∧A.wo=wo∧h=((k:Nat):Int)∧Q (.bl (lookedAt M k)) H):rd_looked_at K ⟨n,Q,bk,ct⟩ [some (.ref wo),some (.int h)] H:=by
 obtain ⟨Tg,s,A,M,k,j,rfl,rfl,q⟩:=q
 obtain ⟨d1,ow⟩:=j.jb.ow
 obtain ⟨d2,os⟩:=j.js.os
 unfold rd_looked_at
 walk_at "ev"
 refine Zaa ow T.cW T.nWs worldF_lk_sweeper ?_
 walk_at "ev"
 refine Zaa os T.cS T.n4 sweepF_lk_looked ?_
 walk_at "ev"
 rw [bitS,Int.toNat_natCast]
 exact q
theorem told_as_old_rd {wo:Addr}{v:V} (T:TxW K X) (q:∃ T s A M,WJ X H T s A M∧A.wo=wo∧(0≤M.tells∧M.tells < 4)∧∀ l,H l=none→Q (.ref l) (upd H l (.lst (if old? M=true then [v] else [])))):
  rd_told_as_old K ⟨n,Q,bk,ct⟩ [some (.ref wo),some v] H:=by
 obtain ⟨Tg,s,A,M,j,rfl,ht,q⟩:=q
 obtain ⟨d1,ow⟩:=j.jb.ow
 obtain ⟨d2,ok⟩:=j.jb.ok
 obtain ⟨b1,_⟩:=bit4 ht
 unfold rd_told_as_old
 walk_at "ev"
 refine Zaa ow T.cW T.nWk worldF_lk_kind ?_
 walk_at "ev"
 refine Zaa ok T.cK T.nKt kindF_lk_tells ?_
 walk_at "ev"
 rw [b1]
 refine ifd (fun z=>?_) (fun z=>?_)
 ·walk_at "ev"
  refine ⟨Zaj (by simp),fun l hl=>?_⟩
  have:=q l hl
  rw [if_neg (by unfold old?;rw [decide_eq_true_iff];omega)] at this
  exact this
 ·walk_at "ev"
  refine ⟨Zaj (by simp),fun l hl=>?_⟩
  have:=q l hl
  rw [if_pos (by unfold old?;rw [decide_eq_true_iff];omega)] at this
  exact this
theorem told_as_new_rd {wo:Addr}{h:Int}{v:V} (T:TxW K X) (q:∃ T s A M k,WJ X H T s A M∧A.wo=wo∧(0≤M.tells∧M.tells < 4)∧h=((k:Nat):Int)∧∀ l,H l=none→Q (.ref l) (upd H l (.lst (if (new? M && !lookedAt M k)=true then [v] else [])))):
  rd_told_as_new K (S_looked_at X) ⟨n,Q,bk,ct⟩ [some (.ref wo),some (.int h),some v] H:=by
 obtain ⟨Tg,s,A,M,k,j,rfl,ht,rfl,q⟩:=q
 obtain ⟨d1,ow⟩:=j.jb.ow
 obtain ⟨d2,ok⟩:=j.jb.ok
 obtain ⟨_,b1⟩:=bit4 ht
 unfold rd_told_as_new
 walk_at "ev"
 refine Zaa ow T.cW T.nWk worldF_lk_kind ?_
 walk_at "ev"
 refine Zaa ok T.cK T.nKt kindF_lk_tells ?_
 walk_at "ev"
 refine ifd (fun z=>?_) (fun z=>?_)
 ·walk_at "ev"
  refine ⟨Zaj (by simp),fun l hl=>?_⟩
  have:=q l hl
  have e:new? M=false:=by unfold new?;exact decide_eq_false (b1.mp z)
  rw [e,Bool.false_and,if_neg (by decide)] at this
  exact this
 ·have e:new? M=true:=by unfold new?;exact decide_eq_true (Decidable.not_not.mp fun w=>z (b1.mpr w))
  rw [e,Bool.true_and] at q
  walk_at "ev"
  refine ⟨_,_,rfl,Tg,s,A,M,k,j,rfl,rfl,?_⟩
  cases hl:lookedAt M k with
  | true=>
   rw [hl] at q
   walk_at "ev"
   refine ⟨Zaj (by simp),fun l hl=>?_⟩
   exact q l hl
  | false=>
   rw [hl] at q
   walk_at "ev"
   refine ⟨Zaj (by simp),fun l hl=>?_⟩
   exact q l hl
theorem cell_in_rd {wo:Addr}{h t:Int} (T:TxW K X) (q:∃ T s A M hn tn,WJ X H T s A M∧A.wo=wo∧h=((hn:Nat):Int)∧t=((tn:Nat):Int)∧okS M hn tn∧
 (cO M (Za9 M hn tn)=none→E (.ref CE) none H)∧
 (∀ i c p,Za9 M hn tn=some i→0≤i→cellAt M i=some c→A.cs[i.toNat]? =some (some p)→CeO X.C H T s i.toNat p c→Q (.ref p.1) H)):
  rd_cell_in K CE (S_cell_at X.H) (S_slots_of X) E ⟨n,Q,bk,ct⟩ [some (.ref wo),some (.int h),some (.int t),none] H:=by
 obtain ⟨Tg,s,A,M,hn,tn,j,rfl,rfl,rfl,ok,hE,hQ⟩:=q
 obtain ⟨d1,ow⟩:=j.jb.ow
 obtain ⟨p,m,hp,hm,hs,hl,⟨t1,t2,o1,o2⟩⟩:=j.handOf ok
 unfold rd_cell_in
 walk_at "ev"
 refine Zaa ow T.cW T.nWh Zat ?_
 walk_at "ev"
 refine ⟨_,_,rfl,Tg,s,A,M,hn,p,j,rfl,rfl,hp,?_⟩
 walk_at "ev"
 refine i_ixL (SqL.of o2) (atI_nat (v:=oV (Za9 M hn tn)) (by rw [List.getElem?_map,hs];rfl)) ?_
 walk_at "ev"
 refine ⟨_,_,rfl,oV_cases _,_,_,_,_,_,j.hpO,?_⟩
 rcases j.look (Za9 M hn tn) with ⟨e1,e2⟩ | ⟨i,c,p',e0,h0,ec,_,hp',e2,ce⟩
 ·rw [e2]
  walk_at "ev"
  exact ⟨by decide,hE e1⟩
 ·rw [e2]
  walk_at "ev"
  exact hQ i c p' e0 h0 ec hp' ce
theorem fields_in_rd {wo:Addr}{h t f:Int} (T:TxW K X) (q:∃ T s A M hn tn fn,WJ X H T s A M∧A.wo=wo∧h=((hn:Nat):Int)∧t=((tn:Nat):Int)∧f=((fn:Nat):Int)∧okS M hn tn∧
 (cO M (Za9 M hn tn)=none→E (.ref CE) none H)∧
 (∀ i c,Za9 M hn tn=some i→0≤i→cellAt M i=some c→c.fl[fn]? =none→E (.ref CF) none H)∧
 (∀ i c p,Za9 M hn tn=some i→0≤i→cellAt M i=some c→A.cs[i.toNat]? =some (some p)→CeO X.C H T s i.toNat p c→fn < c.fl.length→Q (.ref p.2) H)):
  rd_fields_in K X.C CF (S_has_field X) (S_cell_in X CE) E ⟨n,Q,bk,ct⟩ [some (.ref wo),some (.int h),some (.int t),some (.int f),none] H:=by
 obtain ⟨Tg,s,A,M,hn,tn,fn,j,rfl,rfl,rfl,rfl,ok,hE,hF,hQ⟩:=q
 unfold rd_fields_in
 walk_at "ev"
 refine ⟨_,_,_,rfl,Tg,s,A,M,hn,tn,j,rfl,rfl,rfl,ok,hE,fun i c p e0 h0 ec hp ce=>?_⟩
 obtain ⟨t1,t2,⟨dx,o1⟩,o2⟩:=id ce
 walk_at "ev"
 refine ⟨p.1,dx,_,rfl,o1,cellF_no_has_field,?_⟩
 walk_at "ev"
 refine ⟨_,_,rfl,Tg,s,_,p,c,ce,rfl,?_⟩
 by_cases z:fn < c.fl.length
 ·rw [show (decide ((0:Int)≤(fn:Int)) && decide ((fn:Int) < c.fl.length))=true from by simp;omega]
  walk_at "ev"
  refine Zaa o1 T.c.cl_Cell T.c.n_Cell_fields cellF_lk_fields ?_
  exact hQ i c p e0 h0 ec hp ce z
 ·rw [show (decide ((0:Int)≤(fn:Int)) && decide ((fn:Int) < c.fl.length))=false from by simp;omega]
  walk_at "ev"
  exact ⟨by decide,hF i c e0 h0 ec (List.getElem?_eq_none_iff.mpr (by omega))⟩
theorem gone_rd {wo:Addr}{pl b:Int} (T:TxW K X) (q:∃ T s A M,WJ X H T s A M∧A.wo=wo∧Q (.bl (goneM M pl b)) H):rd_gone K (S_cell_at X.H) (S_has_sense X) ⟨n,Q,bk,ct⟩ [some (.ref wo),some (.int pl),some (.int b),none] H:=by
 obtain ⟨Tg,s,A,M,j,rfl,q⟩:=q
 obtain ⟨d1,ow⟩:=j.jb.ow
 obtain ⟨d2,os⟩:=j.js.os
 unfold rd_gone
 walk_at "ev"
 refine Zaa ow T.cW T.nWh Zat ?_
 walk_at "ev"
 refine ⟨_,_,rfl,oV_cases (some pl),_,_,_,_,_,j.hpO,?_⟩
 unfold goneM at q
 rcases j.look (some pl) with ⟨e1,e2⟩ | ⟨i,c,p,ei,h0,ec,_,hp,e2,ce⟩
 ·rw [show atO (A.cs.map pV) (.int pl)=.non from e2]
  rw [show cellAt M pl=none from e1] at q
  walk_at "ev"
  exact q
 ·cases ei
  rw [show atO (A.cs.map pV) (.int pl)=.ref p.1 from e2]
  rw [ec] at q
  dsimp only at q
  obtain ⟨t1,t2,⟨dx,o1⟩,o2⟩:=id ce
  walk_at "ev"
  refine Zaa o1 T.c.cl_Cell T.c.n_Cell_birth cellF_lk_birth ?_
  walk_at "ev"
  refine ifnd (fun z=>?_) (fun z=>?_)
  ·rw [if_neg z] at q
   walk_at "ev"
   exact q
  ·rw [if_pos z] at q
   walk_at "ev"
   refine Zaa ow T.cW T.nWs worldF_lk_sweeper ?_
   walk_at "ev"
   refine Zaa os T.cS T.n2 sweepF_lk_phase ?_
   walk_at "ev"
   refine ifd (fun y=>?_) (fun y=>?_)
   ·walk_at "ev"
    refine ⟨_,_,rfl,Tg,s,A,M,_,p,c,j,rfl,ce,rfl,?_⟩
    walk_at "ev"
    have:decide (M.sw.phase="give"∧c.tone≠M.sw.sense)=!decide (c.tone=M.sw.sense):=by simp [y]
    rw [this] at q
    exact q
   ·have:decide (M.sw.phase="give"∧c.tone≠M.sw.sense)=false:=decide_eq_false fun w=>y w.1
    rw [this] at q
    exact q
theorem note_rd {wo:Addr}{pl:V} (T:TxW K X) (q:∃ x,pl=oV x∧∃ T s A M,WT H T∧s≠0∧WJ X H T s A M∧A.wo=wo∧(M.sw.phase="walk"→M.sw.grey.length≤20000)∧
 ∀ H',Stp s H H' T T→WJ X H' T s A (noteM M x).2→Q (oV (noteM M x).1) H'):rd_note K (S_cell_at X.H) (S_has_sense X) ⟨n,Q,bk,ct⟩ [some (.ref wo),some pl,none,none] H:=by
 obtain ⟨x,rfl,Tg,s,A,M,w,s0,j,rfl,hg,q⟩:=q
 obtain ⟨d1,ow⟩:=j.jb.ow
 obtain ⟨d2,os⟩:=j.js.os
 unfold rd_note
 walk_at "ev"
 refine Zaa ow T.cW T.nWs worldF_lk_sweeper ?_
 walk_at "ev"
 refine Zaa ow T.cW T.nWh Zat ?_
 walk_at "ev"
 refine ⟨_,_,rfl,oV_cases x,_,_,_,_,_,j.hpO,?_⟩
 walk_at "ev"
 refine Zaa os T.cS T.n2 sweepF_lk_phase ?_
 walk_at "ev"
 have stay:noteM M x=(none,M)→Q .non H:=fun e=>by
  have:=q H (Stp.refl w)
  rw [e] at this
  exact this j
 refine ifnd (fun z=>?_) (fun z=>?_)
 ·walk_at "ev"
  exact stay (noteM_rest z x)
 ·rcases j.look x with ⟨e1,e2⟩ | ⟨i,c,p,rfl,h0,ec,hc,hp,e2,ce⟩
  ·rw [e2]
   walk_at "ev"
   refine stay ?_
   cases x with
   | none=>rfl
   | some i=>unfold noteM;dsimp only;rw [show cellAt M i=none from e1]
  ·rw [e2]
   obtain ⟨t1,t2,⟨dx,o1⟩,o2⟩:=id ce
   walk_at "ev"
   refine ⟨_,_,rfl,Tg,s,A,M,_,p,c,j,rfl,ce,rfl,?_⟩
   by_cases y:c.tone=M.sw.sense
   ·rw [decide_eq_true y]
    walk_at "ev"
    refine stay ?_
    unfold noteM;dsimp only;rw [ec];dsimp only;rw [if_neg fun w=>w.2 y]
   ·rw [decide_eq_false y]
    have en:noteM M (some i)=(some c.birth,{ setCell M i { c with tone:=M.sw.sense } with sw:={ M.sw with grey:=M.sw.grey ++ [i] } }):=by
     unfold noteM;dsimp only;rw [ec];dsimp only;rw [if_pos ⟨z,y⟩]
    rw [en] at q
    walk_at "ev"
    refine Zaa os T.cS T.n1 sweepF_lk_sense ?_
    walk_at "ev"
    refine ⟨p.1,X.C,dx,_,rfl,o1,T.c.cl_Cell,T.c.n_Cell_tone,by show 5 < 1000;decide,?_⟩
    rw [cellF_put_tone]
    obtain ⟨st1,j1⟩:=j.cell w s0 (dx:=dx) (tone:=M.sw.sense) (load:=c.load) hp ce
    generalize upd H p.1 (.ins X.C dx (cellF c.birth c.bulk M.sw.sense c.load p.2))=H1 at st1 j1 ⊢
    obtain ⟨d3,os1⟩:=j1.js.os
    obtain ⟨p1,hp1,ce1⟩:=j1.jc.at (i:=i.toNat) (c:={ c with tone:=M.sw.sense,load:=c.load }) (by rw [List.getElem?_set_self (List.getElem?_eq_some_iff.mp hc).1])
    rw [hp] at hp1
    cases hp1
    walk_at "ev"
    refine Zaa os1 T.cS T.n3 sweepF_lk_grey ?_
    walk_at "ev"
    have hgl:=hg z
    refine ⟨.inl ⟨rfl,_,SqL.of j1.js.og⟩,?_⟩
    walk_at "ev"
    refine ⟨_,_,_,rfl,rfl,j1.js.og,?_,?_⟩
    ·rw [List.length_map]
     exact Nat.lt_of_le_of_lt hgl (by decide)
    obtain ⟨st2,j2⟩:=j1.greys st1.wt s0 (g:=M.sw.grey ++ [i])
    have eg:(M.sw.grey.map V.int ++ [V.int i])=(M.sw.grey ++ [i]).map V.int:=by rw [List.map_append];rfl
    show tRet _ _ _ (upd H1 A.gr (.lst (M.sw.grey.map V.int ++ [oV (some i)])))
    rw [show (M.sw.grey.map V.int ++ [oV (some i)])=(M.sw.grey ++ [i]).map V.int from eg]
    generalize upd H1 A.gr (.lst ((M.sw.grey ++ [i]).map V.int))=H2 at st2 j2 ⊢
    obtain ⟨p2,hp2,ce2⟩:=j2.jc.at (i:=i.toNat) (c:={ c with tone:=M.sw.sense,load:=c.load }) (by show (M.cells.set _ _)[_]? =_;rw [List.getElem?_set_self (List.getElem?_eq_some_iff.mp hc).1])
    rw [hp] at hp2
    cases hp2
    obtain ⟨_,_,⟨dx2,o3⟩,_⟩:=ce2
    walk_at "ev"
    refine Zaa o3 T.c.cl_Cell T.c.n_Cell_birth cellF_lk_birth ?_
    exact q H2 (st1.trans st2) j2
theorem nm_get {Tg:Tg}{z:Str}:∀ {ns:List Addr}{names:List (Str×(Int×Int))},Al (NmO H Tg) ns names→(getNm names z=none∧valV (nmK names ns) (Sum.inr z)=none)∨∃ p b t,getNm names z=some (p,b)∧valV (nmK names ns) (Sum.inr z)=some (.ref t)∧H t=some (.tup [.int p,.int b])∧Tg t=(0,0):=by
 intro ns names h
 induction h with
 | nil=>exact .inl ⟨rfl,rfl⟩
 | @cons t m ns names h1 _ ih=>
  by_cases e:m.1=z
  ·refine .inr ⟨m.2.1,m.2.2,t,?_,?_,h1.2,h1.1⟩
   ·unfold getNm;rw [List.find?_cons_of_pos (by simpa using e)];rfl
   ·show (List.find? _ ((Sum.inr m.1,V.ref t) :: nmK names ns)).map _=_
    rw [List.find?_cons_of_pos (by simpa using e)];rfl
  ·have g:getNm (m :: names) z=getNm names z:=by unfold getNm;rw [List.find?_cons_of_neg (by simpa using e)]
   have v:valV (nmK (m :: names) (t :: ns)) (Sum.inr z)=valV (nmK names ns) (Sum.inr z):=by
    show (List.find? _ ((Sum.inr m.1,V.ref t) :: nmK names ns)).map _=_
    rw [List.find?_cons_of_neg (by simpa using e)];rfl
   rw [g,v]
   exact ih
theorem place_named_rd {wo:Addr}{z:Str} (T:TxW K X) (q:∃ T s A M,WJ X H T s A M∧A.wo=wo∧(getNm M.names z=none→E (.ref CN) none H)∧(∀ p b,getNm M.names z=some (p,b)→Q (if goneM M p b=true then .non else .int p) H)):
  rd_place_named K CN (S_gone X) E ⟨n,Q,bk,ct⟩ [some (.ref wo),some (.str z),none,none] H:=by
 obtain ⟨Tg,s,A,M,j,rfl,hE,hQ⟩:=q
 obtain ⟨d1,ow⟩:=j.jb.ow
 obtain ⟨tm,om,nms⟩:=j.jn
 unfold rd_place_named
 walk_at "ev"
 refine Zaa ow T.cW T.nWn worldF_lk_names ?_
 refine ⟨_,_,rfl,dgetS om,?_⟩
 rcases nm_get (z:=z) nms with ⟨e1,e2⟩ | ⟨p,b,t,e1,e2,ot,_⟩
 ·rw [e2]
  walk_at "ev"
  exact ⟨by decide,hE e1⟩
 ·rw [e2,show (!(some (V.ref t)).isSome)=false from rfl]
  walk_at "ev"
  refine Zaa ow T.cW T.nWn worldF_lk_names ?_
  walk_at "ev"
  refine ⟨_,_,rfl,by have:=dgetS (z:=z) om;rw [e2] at this;exact this,?_⟩
  walk_at "ev"
  refine ⟨t,_,0,_,rfl,rfl,SqT.of ot,rfl,?_⟩
  walk_at "ev"
  refine Zaa ow T.cW T.nWn worldF_lk_names ?_
  walk_at "ev"
  refine ⟨_,_,rfl,by have:=dgetS (z:=z) om;rw [e2] at this;exact this,?_⟩
  walk_at "ev"
  refine ⟨t,_,1,_,rfl,rfl,SqT.of ot,rfl,?_⟩
  walk_at "ev"
  refine ⟨_,_,_,rfl,Tg,s,A,M,j,rfl,?_⟩
  have:=hQ p b e1
  cases hg:goneM M p b with
  | true=>
   rw [hg] at this
   walk_at "ev"
   exact this
  | false=>
   rw [hg] at this
   walk_at "ev"
   exact this
theorem Stp.new {s:Nat}{H Hx:Hp}{T Tx:Tg}{l:Addr}{o o0:HO} (e:Stp s H Hx T Tx) (hl:H l=none) (hx:Hx l=some o0):Stp s H (upd Hx l o) T Tx where
 kp:=fun b u h z=>by rw [upd_ne (ne_of_none h hl)];exact e.kp b u h z
 al:=fun b u h=>by rw [upd_ne (ne_of_none h hl)];exact e.al b u h
 tg:=e.tg
 wt:=fun b h=>e.wt b (by
  by_cases z:b=l
  ·rw [z,upd_same] at h;cases h
  ·rw [upd_ne z] at h;exact h)
theorem Stp.fresh {s:Nat}{H:Hp}{T:Tg}{l:Addr}{o:HO}{v:Nat×Nat} (w:WT H T) (hl:H l=none):Stp s H (upd H l o) T (setT T l v) where
 kp:=fun b u h z=>by rw [upd_ne (ne_of_none h hl)];exact h
 al:=fun b u h=>⟨u,by rw [upd_ne (ne_of_none h hl)];exact h⟩
 tg:=fun b u h=>setT_ne (ne_of_none h hl)
 wt:=fun b h=>by
  by_cases z:b=l
  ·rw [z,upd_same] at h;cases h
  ·rw [upd_ne z] at h
   rw [setT_ne z];exact w b h
theorem noteM_grey {M:Wm}{x:Option Int}:(noteM M x).2.sw.phase=M.sw.phase∧(noteM M x).2.sw.grey.length≤M.sw.grey.length + 1∧(noteM M x).2.tells=M.tells∧(noteM M x).2.names=M.names:=by
 cases x with
 | none=>exact ⟨rfl,Nat.le_succ _,rfl,rfl⟩
 | some i=>
  unfold noteM
  dsimp only
  cases cellAt M i with
  | none=>exact ⟨rfl,Nat.le_succ _,rfl,rfl⟩
  | some c=>
   dsimp only
   by_cases z:M.sw.phase="walk"∧c.tone≠M.sw.sense
   ·rw [if_pos z]
    exact ⟨rfl,by show (M.sw.grey ++ [i]).length≤_;rw [List.length_append];exact Nat.le_refl _,rfl,rfl⟩
   ·rw [if_neg z]
    exact ⟨rfl,Nat.le_succ _,rfl,rfl⟩
theorem notesM_append:∀ {l:List (Option Int)}{M:Wm}{x:Option Int},notesM M (l ++ [x])=((notesM M l).1 ++ ofN (noteM (notesM M l).2 x).1,(noteM (notesM M l).2 x).2)
 | [],M,x=>by
  show (ofN (noteM M x).1 ++ [],(noteM M x).2)=([] ++ ofN (noteM M x).1,(noteM M x).2)
  rw [List.append_nil,List.nil_append]
 | y :: l,M,x=>by
  show (ofN (noteM M y).1 ++ (notesM (noteM M y).2 (l ++ [x])).1,(notesM (noteM M y).2 (l ++ [x])).2)=_
  rw [notesM_append]
  show _=((ofN (noteM M y).1 ++ (notesM (noteM M y).2 l).1) ++ _,_)
  rw [List.append_assoc]
  rfl
theorem notesM_grey:∀ {l:List (Option Int)}{M:Wm},(notesM M l).2.sw.phase=M.sw.phase∧(notesM M l).2.sw.grey.length≤M.sw.grey.length + l.length
 | [],M=>⟨rfl,Nat.le_refl _⟩
 | y :: l,M=>by
  obtain ⟨a,b,_⟩:=noteM_grey (M:=M) (x:=y)
  obtain ⟨c,d⟩:=notesM_grey (l:=l) (M:=(noteM M y).2)
  refine ⟨c.trans a,?_⟩
  show (notesM (noteM M y).2 l).2.sw.grey.length≤_
  rw [List.length_cons]
  omega
theorem notesM_len:∀ {l:List (Option Int)}{M:Wm},(notesM M l).1.length≤l.length
 | [],M=>Nat.le_refl _
 | y :: l,M=>by
  have:=notesM_len (l:=l) (M:=(noteM M y).2)
  show (ofN (noteM M y).1 ++ (notesM (noteM M y).2 l).1).length≤_
  rw [List.length_append,List.length_cons]
  have:(ofN (noteM M y).1).length≤1:=by cases (noteM M y).1<;>simp [ofN]
  omega
theorem note_all_rd {wo pl:Addr} (T:TxW K X) (q:∃ xs T s A M,WT H T∧s≠0∧WJ X H T s A M∧A.wo=wo∧H pl=some (.lst (xs.map oV))∧T pl=(0,0)∧xs.length≤100∧(M.sw.phase="walk"→M.sw.grey.length≤10000)∧
 ∀ H' T' l,Stp s H H' T T'→WJ X H' T' s A (notesM M xs).2→H' l=some (.lst ((notesM M xs).1.map V.int))→H l=none→Q (.ref l) H'):rd_note_all K (S_note X) ⟨n,Q,bk,ct⟩ [some (.ref wo),some (.ref pl),none,none,none] H:=by
 obtain ⟨xs,Tg,s,A,M,w,s0,j,rfl,opl,tpl,hx,hg,q⟩:=q
 unfold rd_note_all
 walk_at "ev"
 refine ⟨Zaj (by simp),fun l hl=>?_⟩
 have npl:pl≠l:=ne_of_none opl hl
 have st1:Stp s H (upd H l (.lst [])) Tg (setT Tg l (s + 1,0)):=Stp.fresh w hl
 have j1:WJ X (upd H l (.lst [])) (setT Tg l (s + 1,0)) s A M:=j.fresh hl
 have g1:upd H l (.lst []) l=some (.lst []):=upd_same
 have tl:setT Tg l (s + 1,0) l=(s + 1,0):=setT_same
 have tp:setT Tg l (s + 1,0) pl=(0,0):=(setT_ne npl).trans tpl
 have op1:upd H l (.lst []) pl=some (.lst (xs.map oV)):=(upd_ne npl).trans opl
 generalize upd H l (.lst [])=H1 at st1 j1 g1 op1 ⊢
 generalize setT Tg l (s + 1,0)=T1 at st1 j1 tl tp
 walk_at "ev"
 refine ⟨pl,rfl,⟨_,SqL.of op1⟩,forL (xs.map oV) (fun i σ Hx=>∃ v3 v4,σ=[some (.ref A.wo),some (.ref pl),some (.ref l),v3,v4]∧Stp s H Hx Tg T1∧WJ X Hx T1 s A (notesM M (xs.take i)).2∧Hx l=some (.lst ((notesM M (xs.take i)).1.map V.int))∧Hx pl=some (.lst (xs.map oV))) ⟨_,_,rfl,st1,j1,g1,op1⟩ (fun _ _ _ _ ⟨_,_,_,_,_,_,e⟩=>SqL.of e) ?_ ?_⟩
 ·rintro i x σ Hx hi ⟨v3,v4,rfl,st2,j2,g2,op2⟩
  obtain ⟨y,hy,rfl⟩:∃ y,xs[i]? =some y∧oV y=x:=by
   rw [List.getElem?_map] at hi
   obtain ⟨y,a,b⟩:=Option.map_eq_some_iff.mp hi
   exact ⟨y,a,b⟩
  have il:=(List.getElem?_eq_some_iff.mp hy).1
  have et:xs.take (i + 1)=xs.take i ++ [y]:=by
   rw [List.take_add_one,hy];rfl
  obtain ⟨gp,gl⟩:=notesM_grey (l:=xs.take i) (M:=M)
  have nl:=notesM_len (l:=xs.take i) (M:=M)
  have tk:(xs.take i).length≤100:=by rw [List.length_take];omega
  walk_at "ev"
  refine ⟨_,_,rfl,y,rfl,T1,s,A,_,st2.wt,s0,j2,rfl,fun z=>?_,fun Hy sty jy=>?_⟩
  ·have:=hg (gp.symm.trans z)
   omega
  have gy:Hy l=some (.lst ((notesM M (xs.take i)).1.map V.int)):=sty.kp _ _ g2 (by rw [tl];show s + 1≠s;omega)
  have oy:Hy pl=some (.lst (xs.map oV)):=sty.kp _ _ op2 (by rw [tp];exact fun z=>s0 z.symm)
  have stt:=st2.trans sty
  walk_at "ev"
  cases hn:(noteM (notesM M (xs.take i)).2 y).1 with
  | none=>
   dsimp only [oV]
   walk_at "ev"
   refine ⟨_,_,rfl,stt,?_,?_,oy⟩
   ·rw [et,notesM_append];exact jy
   ·rw [et,notesM_append]
    show Hy l=some (.lst (((notesM M (xs.take i)).1 ++ ofN (noteM (notesM M (xs.take i)).2 y).1).map V.int))
    rw [hn]
    show Hy l=some (.lst (((notesM M (xs.take i)).1 ++ []).map V.int))
    rw [List.append_nil];exact gy
  | some b=>
   dsimp only [oV]
   walk_at "ev"
   refine ⟨.inl ⟨rfl,_,SqL.of gy⟩,?_⟩
   walk_at "ev"
   refine ⟨_,_,_,rfl,rfl,gy,?_,?_⟩
   ·rw [List.length_map]
    exact Nat.lt_of_le_of_lt (show _≤100 by omega) (by decide)
   walk_at "ev"
   refine ⟨_,_,rfl,Stp.new stt hl gy,?_,?_,?_⟩
   ·rw [et,notesM_append]
    exact jy.other (s':=s + 1) (Stp.upd sty.wt gy (by rw [tl])) (by omega) (by omega)
   ·rw [et,notesM_append,upd_same]
    show some (HO.lst _)=some (HO.lst (((notesM M (xs.take i)).1 ++ ofN (noteM (notesM M (xs.take i)).2 y).1).map V.int))
    rw [hn,List.map_append];rfl
   ·rw [upd_ne npl];exact oy
 ·rintro σ Hx ⟨v3,v4,rfl,st2,j2,g2,op2⟩
  walk_at "ev"
  rw [show (xs.map oV).length=xs.length from List.length_map _,List.take_length] at j2 g2
  exact q Hx T1 l st2 j2 g2 hl
end
theorem setSlot_eq {M:Wm}{h k:Nat}{x:Option Int}{m:Str×List (Option Int)} (hm:M.hands[h]? =some m):{ M with hands:=M.hands.set h (m.1,m.2.set k x) }=setSlot M h k x:=by
 have e:=setSlot_hands (k:=k) (x:=x) hm
 show _={ M with hands:=_ }
 rw [show (M.hands.modify h fun m=>(m.1,m.2.set k x))=M.hands.set h (m.1,m.2.set k x) from e]
def isMake (d:Deed):Prop:=∃ h s many bulk,d=.make h s many bulk
def isGet (d:Deed):Prop:=∃ h s t f,d=.get h s t f
def isPut (d:Deed):Prop:=∃ h t f s,d=.put h t f s
def isWrite (d:Deed):Prop:=∃ h t load,d=.write h t load
def isRead (d:Deed):Prop:=∃ h t,d=.read h t
def isName (d:Deed):Prop:=∃ h t word,d=.name h t word
def isSeek (d:Deed):Prop:=∃ h s word,d=.seek h s word
abbrev DeedQ (X:Cs) (rf:Rf→Addr) (P:Deed→Prop) (wo dd:Addr) (H:Hp) (Q:VK) (E:XK):Prop:=∃ T s A M d,P d∧WT H T∧s≠0∧WJ X H T s A M∧A.wo=wo∧H dd=some (.tup (dV d))∧okD M d∧Ok M∧M.cells.length≤900∧(M.sw.phase="walk"→M.sw.grey.length≤10000)∧(0≤M.tells∧M.tells < 4)∧M.names.length≤1000∧
 (∀ r,doM M d=.error r→∀ H',Same H H'→E (.ref (rf r)) none H')∧
 (∀ e M',doM M d=.ok (e,M')→∀ H' T' A' a,Stp s H H' T T'→WJ X H' T' s A' M'→A'.wo=wo→EvN H H' a e→Q (.ref a) H')
section
variable {X:Cs}{H Hx:Hp}{T Tx:Tg}{s:Nat}{A Ax:Wa}{M M':Wm}{d:Deed}{e:Ev}{wo:Addr}{Q:VK}
theorem Stp.free {s:Nat}{H Hx:Hp}{T Tx:Tg}{l:Addr} (e:Stp s H Hx T Tx) (h:Hx l=none):H l=none:=by
 cases z:H l with
 | none=>rfl
 | some o=>obtain ⟨o',z'⟩:=e.al l o z;rw [h] at z';cases z'
theorem ev0 (hQ:∀ e M',doM M d=.ok (e,M')→∀ H' T' A' a,Stp s H H' T T'→WJ X H' T' s A' M'→A'.wo=wo→EvN H H' a e→Q (.ref a) H') (he:doM M d=.ok (e,M')) (hn:e.notes=[]) (st:Stp s H Hx T Tx) (j:WJ X Hx Tx s Ax M') (aw:Ax.wo=wo) {l a:Addr} (hl:Hx l=none) (ha:upd Hx l (.lst []) a=none):
  Q (.ref a) (upd (upd Hx l (.lst [])) a (.tup [.str e.word,oV e.thing,.ref l])):=by
 have s1:=same_new hl (.lst [])
 have s2:=same_new ha (.tup [.str e.word,oV e.thing,.ref l])
 have s3:=s1.trans s2
 refine hQ e M' he _ Tx Ax a (st.trans (Stp.same st.wt s3)) (j.same s3) aw ⟨l,Stp.free st hl,upd_same,?_⟩
 rw [hn]
 exact s2 _ _ upd_same
theorem ev1 {l a:Addr} (hl0:H l=none) (hQ:∀ e M',doM M d=.ok (e,M')→∀ H' T' A' a,Stp s H H' T T'→WJ X H' T' s A' M'→A'.wo=wo→EvN H H' a e→Q (.ref a) H') (he:doM M d=.ok (e,M')) (st:Stp s H Hx T Tx) (j:WJ X Hx Tx s Ax M') (aw:Ax.wo=wo) (hl:Hx l=some (.lst (e.notes.map V.int))) (ha:Hx a=none):
  Q (.ref a) (upd Hx a (.tup [.str e.word,oV e.thing,.ref l])):=by
 have s2:=same_new ha (.tup [.str e.word,oV e.thing,.ref l])
 exact hQ e M' he _ Tx Ax a (st.trans (Stp.same st.wt s2)) (j.same s2) aw ⟨l,hl0,upd_same,s2 _ _ hl⟩
end
theorem setCell_bAt {M:Wm}{i:Int}{c c':Ce} (h:cellAt M i=some c) (hb:c'.birth=c.birth) (x:Option Int):bAt (setCell M i c') x=bAt M x:=by
 cases x with
 | none=>rfl
 | some y=>
  obtain ⟨h0,h1⟩:=cellAt_some.mp h
  show (cellAt (setCell M i c') y).map _=(cellAt M y).map _
  by_cases e:y=i
  ·subst e
   rw [h,show cellAt (setCell M y c') y=some c' from cellAt_some.mpr ⟨h0,by show (M.cells.set _ _)[_]? =_;rw [List.getElem?_set_self (List.getElem?_eq_some_iff.mp h1).1]⟩]
   show some c'.birth=some c.birth
   rw [hb]
  ·have:cellAt (setCell M i c') y=cellAt M y:=by
    unfold cellAt setCell
    by_cases z:0≤y
    ·rw [if_pos z,if_pos z]
     show ((M.cells.set _ _)[_]?).join=_
     rw [List.getElem?_set_ne (by omega)]
    ·rw [if_neg z,if_neg z]
   rw [this]
theorem noteM_bAt {M:Wm}{y:Option Int} (x:Option Int):bAt (noteM M y).2 x=bAt M x:=by
 cases y with
 | none=>rfl
 | some i=>
  unfold noteM
  dsimp only
  cases hc:cellAt M i with
  | none=>rfl
  | some c=>
   dsimp only
   by_cases z:M.sw.phase="walk"∧c.tone≠M.sw.sense
   ·rw [if_pos z]
    have e:=setCell_bAt (M:=M) (i:=i) (c:=c) (c':={ c with tone:=M.sw.sense }) hc rfl x
    cases x with
    | none=>rfl
    | some y=>exact e
   ·rw [if_neg z]
theorem notesM_bAt:∀ {l:List (Option Int)}{M:Wm} (x:Option Int),bAt (notesM M l).2 x=bAt M x
 | [],_,_=>rfl
 | y :: l,M,x=>(notesM_bAt (l:=l) (M:=(noteM M y).2) x).trans (noteM_bAt x)
theorem ifMap {b:Bool}{x:Option Int}:(if b=true then [oV x] else [])=(if b=true then [x] else []).map oV:=by cases b<;>rfl
section
variable {K:PySem.W.Frag}{X:Cs}{H:Hp}{Q:VK}{E:XK}{n:St→Hp→Prop}{bk ct:St→Hp→Prop}{rf:Rf→Addr}
theorem do_make_rd {wo dd CF:Addr} (T:TxW K X) (hF:rf .full=CF) (q:DeedQ X rf isMake wo dd H Q E):rd_do_make K X.H (S_Heap_make K X.C X.H CF) (S_birth_at X) (S_slots_of X) E ⟨n,Q,bk,ct⟩ [some (.ref wo),some (.ref dd),none,none,none,none] H:=by
 obtain ⟨Tg,s,A,M,_,⟨h,sl,many,bulk,rfl⟩,w,s0,j,rfl,od,⟨o1,m0,m1,b0⟩,ok,hc,hg,ht,hn,hE,hQ⟩:=q
 obtain ⟨p,m,hp,hm,hs,hl,hd⟩:=j.handOf o1
 obtain ⟨d1,ow⟩:=j.jb.ow
 obtain ⟨d2,os⟩:=j.js.os
 obtain ⟨th,tc,⟨d3,oh⟩,oc⟩:=j.jh
 have hcs:A.cs.length≤900:=by rw [j.jc.lc];exact hc
 unfold rd_do_make
 walk_at "ev"
 refine ⟨dd,_,1,_,rfl,rfl,SqT.of od,rfl,?_⟩
 walk_at "ev"
 refine ⟨_,_,rfl,Tg,s,A,M,h,p,j,rfl,rfl,hp,?_⟩
 walk_at "ev"
 refine ⟨dd,_,3,_,rfl,rfl,SqT.of od,rfl,?_⟩
 walk_at "ev"
 refine ⟨dd,_,4,_,rfl,rfl,SqT.of od,rfl,?_⟩
 walk_at "ev"
 refine Zaa ow T.cW T.nWh Zat ?_
 refine ⟨A.hp,d3,_,rfl,oh,heapF_no_make,?_⟩
 walk_at "ev"
 refine Zaa ow T.cW T.nWs worldF_lk_sweeper ?_
 walk_at "ev"
 refine Zaa os T.cS T.n1 sweepF_lk_sense ?_
 walk_at "ev"
 refine ⟨_,_,_,_,rfl,A.ca,d3,_,_,_,_,oh,oc,?_,by rw [List.length_map];omega,m0,m1,fun hf H' sm=>?_,fun hf pc fa H1 npc nfa fm a1 a2 co=>?_⟩
 ·intro y hy
  obtain ⟨o,ho,rfl⟩:=List.mem_map.mp hy
  cases o with
  | none=>exact .inl rfl
  | some g=>
   obtain ⟨i,hi,ei⟩:=List.getElem_of_mem ho
   have e:=j.jc.ce i _ _ (List.getElem?_eq_getElem hi) (List.getElem?_eq_getElem (by rw [← j.jc.lc];exact hi))
   rw [ei] at e
   cases hcc:M.cells[i]'(by rw [← j.jc.lc];exact hi) with
   | none=>rw [hcc] at e;exact e.elim
   | some c=>
    rw [hcc] at e
    obtain ⟨_,_,⟨dx,o1⟩,_⟩:=(show CeO X.C H Tg s i g c from e)
    exact .inr ⟨g.1,X.C,dx,_,rfl,o1,T.c.cl_Cell,T.c.eq_Cell⟩
 ·rw [← hF]
  refine hE .full ?_ H' sm
  show (if _ then _ else _)=_
  rw [if_neg (by omega)]
 ·obtain ⟨⟨dp,c1⟩,c2⟩:=co
  have npf:pc≠fa:=ne_of c1 c2 (fun z=>by cases z)
  obtain ⟨T1,st1,j1⟩:=j.put w s0 (H':=H1) (dx:=d3) (used':=M.used + (1 + many + bulk)) (p:=pc) (fa:=fa) (c:=⟨M.born + 1,bulk,M.sw.sense,0,List.replicate many.toNat none⟩)
   (fun b o hb n1 n2=>fm b o hb (by simp [n1,n2])) a1 a2 npc nfa npf ⟨dp,c1⟩ (by rw [c2,List.map_replicate];rfl)
  have ei:((A.cs.map pV).idxOf V.non:Int)=(fst0 M.cells:Nat):=by rw [(fst0_idx pV_non A.cs).1,j.jc.fst]
  walk_at "ev"
  rw [ei]
  refine ⟨dd,_,2,_,rfl,rfl,SqT.of (fm _ _ od ?_),rfl,?_⟩
  ·intro z
   rcases List.mem_cons.mp z with z | z
   ·rw [z,oh] at od;cases od
   ·rw [List.mem_singleton.mp z,oc] at od;cases od
  have hd1:=j1.jd.hd h p m hp hm
  refine ⟨p.2,_,_,sl,rfl,rfl,hd1.o2,ixN_nat (by rw [List.length_map];exact hl),?_⟩
  obtain ⟨st2,j2⟩:=j1.slot st1.wt s0 (k:=sl) (x:=some (fst0 M.cells:Nat)) hp hm
  rw [setSlot_eq (M:={ M with used:=M.used + (1 + many + bulk),born:=M.born + 1,cells:=putO M.cells ⟨M.born + 1,bulk,M.sw.sense,0,List.replicate many.toNat none⟩ }) hm] at j2
  show tRet _ _ _ (upd H1 p.2 (.lst ((m.2.map oV).set sl (oV (some (fst0 M.cells:Nat))))))
  generalize upd H1 p.2 (.lst ((m.2.map oV).set sl (oV (some (fst0 M.cells:Nat)))))=H2 at st2 j2 ⊢
  obtain ⟨d5,ow2⟩:=j2.jb.ow
  walk_at "ev"
  refine Zaa ow2 T.cW T.nWh Zat ?_
  walk_at "ev"
  refine ⟨_,_,rfl,some (fst0 M.cells:Nat),rfl,T1,s,_,_,j2,rfl,?_⟩
  rw [bAt_setSlot]
  rw [show bAt { M with used:=M.used + (1 + many + bulk),born:=M.born + 1,cells:=putO M.cells ⟨M.born + 1,bulk,M.sw.sense,0,List.replicate many.toNat none⟩ } (some (fst0 M.cells:Nat))=some (M.born + 1) from by
   show (cellAt _ _).map _=_
   rw [cellAt_new];rfl]
  walk_at "ev"
  refine ⟨Zaj (by simp),fun l hl=>⟨Zaj (by simp),fun a ha=>?_⟩⟩
  exact ev0 hQ (d:=.make h sl many bulk) (do_make_fit (by omega)) rfl (st1.trans st2) j2 rfl hl ha
end
theorem doGet_err {M:Wm}{h s t f:Nat} (e:cO M (Za9 M h t)=none):doM M (.get h s t f)=.error .empty:=by
 show (match Za9 M h t with | none=>_ | some x=>_)=_
 cases hs:Za9 M h t with
 | none=>rfl
 | some x=>
  rw [hs] at e
  show (match cellAt M x with | none=>_ | some c=>_)=_
  rw [show cellAt M x=none from e]
theorem doPut_err {M:Wm}{h s t f:Nat} (e:cO M (Za9 M h t)=none):doM M (.put h t f s)=.error .empty:=by
 show (match Za9 M h t with | none=>_ | some x=>_)=_
 cases hs:Za9 M h t with
 | none=>rfl
 | some x=>
  rw [hs] at e
  show (match cellAt M x with | none=>_ | some c=>_)=_
  rw [show cellAt M x=none from e]
theorem doWrite_err {M:Wm}{h t:Nat}{l:Int} (e:cO M (Za9 M h t)=none):doM M (.write h t l)=.error .empty:=by
 show (match Za9 M h t with | none=>_ | some x=>_)=_
 cases hs:Za9 M h t with
 | none=>rfl
 | some x=>
  rw [hs] at e
  show (match cellAt M x with | none=>_ | some c=>_)=_
  rw [show cellAt M x=none from e]
theorem doRead_err {M:Wm}{h t:Nat} (e:cO M (Za9 M h t)=none):doM M (.read h t)=.error .empty:=by
 show (match Za9 M h t with | none=>_ | some x=>_)=_
 cases hs:Za9 M h t with
 | none=>rfl
 | some x=>
  rw [hs] at e
  show (match cellAt M x with | none=>_ | some c=>_)=_
  rw [show cellAt M x=none from e]
theorem doName_err {M:Wm}{h t:Nat}{z:Str} (e:cO M (Za9 M h t)=none):doM M (.name h t z)=.error .empty:=by
 show (match Za9 M h t with | none=>_ | some x=>_)=_
 cases hs:Za9 M h t with
 | none=>rfl
 | some x=>
  rw [hs] at e
  show (match cellAt M x with | none=>_ | some c=>_)=_
  rw [show cellAt M x=none from e]
theorem doGet_nf {M:Wm}{h s t f:Nat}{i:Int}{c:Ce} (e0:Za9 M h t=some i) (ec:cellAt M i=some c) (hf:c.fl[f]? =none):doM M (.get h s t f)=.error .nofield:=by
 show (match Za9 M h t with | none=>_ | some x=>_)=_
 rw [e0]
 show (match cellAt M i with | none=>_ | some c=>_)=_
 rw [ec]
 show (match c.fl[f]? with | none=>_ | some v=>_)=_
 rw [hf]
theorem doPut_nf {M:Wm}{h s t f:Nat}{i:Int}{c:Ce} (e0:Za9 M h t=some i) (ec:cellAt M i=some c) (hf:c.fl[f]? =none):doM M (.put h t f s)=.error .nofield:=by
 show (match Za9 M h t with | none=>_ | some x=>_)=_
 rw [e0]
 show (match cellAt M i with | none=>_ | some c=>_)=_
 rw [ec]
 show (match c.fl[f]? with | none=>_ | some v=>_)=_
 rw [hf]
theorem doGet_ok {M:Wm}{h s t f:Nat}{i:Int}{c:Ce}{v:Option Int} (e0:Za9 M h t=some i) (ec:cellAt M i=some c) (hf:c.fl[f]? =some v):doM M (.get h s t f)=.ok (⟨"got",bAt M v,[]⟩,setSlot M h s v):=by
 show (match Za9 M h t with | none=>_ | some x=>_)=_
 rw [e0]
 show (match cellAt M i with | none=>_ | some c=>_)=_
 rw [ec]
 show (match c.fl[f]? with | none=>_ | some v=>_)=_
 rw [hf]
def putL (M:Wm) (h s:Nat) (v:Option Int):List (Option Int):=(if old? M=true then [v] else []) ++ if (new? M && !lookedAt M h)=true then [Za9 M h s] else []
theorem doPut_ok {M:Wm}{h s t f:Nat}{i:Int}{c:Ce}{v:Option Int} (e0:Za9 M h t=some i) (ec:cellAt M i=some c) (hf:c.fl[f]? =some v):doM M (.put h t f s)=.ok (⟨"put",bAt M v,(notesM (setCell M i { c with fl:=c.fl.set f (Za9 M h s) }) (putL M h s v)).1⟩,(notesM (setCell M i { c with fl:=c.fl.set f (Za9 M h s) }) (putL M h s v)).2):=by
 show (match Za9 M h t with | none=>_ | some x=>_)=_
 rw [e0]
 show (match cellAt M i with | none=>_ | some c=>_)=_
 rw [ec]
 show (match c.fl[f]? with | none=>_ | some v=>_)=_
 rw [hf]
 rfl
theorem doWrite_ok {M:Wm}{h t:Nat}{l i:Int}{c:Ce} (e0:Za9 M h t=some i) (ec:cellAt M i=some c):doM M (.write h t l)=.ok (⟨"wrote",some c.load,[]⟩,setCell M i { c with load:=l }):=by
 show (match Za9 M h t with | none=>_ | some x=>_)=_
 rw [e0]
 show (match cellAt M i with | none=>_ | some c=>_)=_
 rw [ec]
theorem doRead_ok {M:Wm}{h t:Nat}{i:Int}{c:Ce} (e0:Za9 M h t=some i) (ec:cellAt M i=some c):doM M (.read h t)=.ok (⟨"read",some c.load,[]⟩,M):=by
 show (match Za9 M h t with | none=>_ | some x=>_)=_
 rw [e0]
 show (match cellAt M i with | none=>_ | some c=>_)=_
 rw [ec]
theorem doName_ok {M:Wm}{h t:Nat}{z:Str}{i:Int}{c:Ce} (e0:Za9 M h t=some i) (ec:cellAt M i=some c):doM M (.name h t z)=.ok (⟨"named",some c.birth,[]⟩,{ M with names:=putNm M.names z (i,c.birth) }):=by
 show (match Za9 M h t with | none=>_ | some x=>_)=_
 rw [e0]
 show (match cellAt M i with | none=>_ | some c=>_)=_
 rw [ec]
section
variable {X:Cs}{H H':Hp}{T T':Tg}{s:Nat}{A:Wa}{M:Wm}
theorem nm_put {z:Str}{v:Int×Int}{t:Addr} (ht:NmO H T t (z,v)):∀ {ns:List Addr}{names:List (Str×(Int×Int))},Al (NmO H T) ns names→(∃ ns',(nmK names ns).map (fun kv=>if kv.1=Sum.inr z then (kv.1,V.ref t) else kv)=nmK (names.map fun m=>if m.1=z then (m.1,v) else m) ns'∧Al (NmO H T) ns' (names.map fun m=>if m.1=z then (m.1,v) else m))∧
  ((nmK names ns).any fun kv=>decide (kv.1=Sum.inr z))=(names.any fun m=>decide (m.1=z))∧nmK names ns ++ [(Sum.inr z,V.ref t)]=nmK (names ++ [(z,v)]) (ns ++ [t])∧Al (NmO H T) (ns ++ [t]) (names ++ [(z,v)]):=by
 intro ns names h
 induction h with
 | nil=>exact ⟨⟨[],rfl,.nil⟩,rfl,rfl,.cons ht .nil⟩
 | @cons a m ns names h1 _ ih=>
  obtain ⟨⟨ns',e1,e2⟩,e3,e4,e5⟩:=ih
  refine ⟨?_,?_,?_,.cons h1 e5⟩
  ·by_cases e:m.1=z
   ·refine ⟨t :: ns',?_,?_⟩
    ·show (if (Sum.inr m.1:Int ⊕ Str)=Sum.inr z then _ else _) :: _=_
     rw [if_pos (by rw [e]),List.map_cons,if_pos e]
     show _ :: _=(Sum.inr m.1,V.ref t) :: nmK _ ns'
     rw [← e1];rfl
    ·rw [List.map_cons,if_pos e]
     exact .cons (by rw [e];exact ht) e2
   ·refine ⟨a :: ns',?_,?_⟩
    ·show (if (Sum.inr m.1:Int ⊕ Str)=Sum.inr z then _ else _) :: _=_
     rw [if_neg (fun w=>e (Sum.inr.inj w)),List.map_cons,if_neg e]
     show _ :: _=(Sum.inr m.1,V.ref a) :: nmK _ ns'
     rw [← e1];rfl
    ·rw [List.map_cons,if_neg e]
     exact .cons h1 e2
  ·show (decide ((Sum.inr m.1:Int ⊕ Str)=Sum.inr z) || (nmK names ns).any _)=(decide (m.1=z) || names.any _)
   rw [e3]
   congr 1
   by_cases e:m.1=z<;>simp [e]
  ·show (Sum.inr m.1,V.ref a) :: (nmK names ns ++ _)=(Sum.inr m.1,V.ref a) :: nmK (names ++ _) (ns ++ _)
   rw [e4]
theorem nm_len {ns:List Addr}{names:List (Str×(Int×Int))} (h:Al (NmO H T) ns names):(nmK names ns).length=names.length:=by
 induction h with
 | nil=>rfl
 | @cons a m ns names h1 _ ih=>show (_ :: nmK names ns).length=_;rw [List.length_cons,List.length_cons,ih]
theorem WJ.named (j:WJ X H T s A M) (w:WT H T) (h0:s≠0) {z:Str}{v:Int×Int}{t:Addr} (ht:NmO H T t (z,v)):∃ ns',Stp s H (upd H A.nm (.dK (putK (nmK M.names A.ns) (Sum.inr z) (.ref t)))) T T∧
  WJ X (upd H A.nm (.dK (putK (nmK M.names A.ns) (Sum.inr z) (.ref t)))) T s { A with ns:=ns' } { M with names:=putNm M.names z v }:=by
 obtain ⟨tm,om,nms⟩:=j.jn
 obtain ⟨⟨n1,e1,e2⟩,e3,e4,e5⟩:=nm_put ht nms
 have f:Frm s (·=6) H (upd H A.nm (.dK (putK (nmK M.names A.ns) (Sum.inr z) (.ref t)))) T T:=Frm.of_upd tm
 have mvn:∀ {ns:List Addr}{names:List (Str×(Int×Int))},Al (NmO H T) ns names→Al (NmO (upd H A.nm (.dK (putK (nmK M.names A.ns) (Sum.inr z) (.ref t)))) T) ns names:=fun h=>h.mono fun t m ⟨z1,z2⟩=>⟨z1,f0_upd h0 tm _ _ z2 z1⟩
 have go:∀ ns',putK (nmK M.names A.ns) (Sum.inr z) (.ref t)=nmK (putNm M.names z v) ns'→Al (NmO H T) ns' (putNm M.names z v)→WJ X (upd H A.nm (.dK (putK (nmK M.names A.ns) (Sum.inr z) (.ref t)))) T s { A with ns:=ns' } { M with names:=putNm M.names z v }:=fun ns' g1 g2=>by
  refine ⟨?_,?_,⟨tm,by show upd _ A.nm _ A.nm=_;rw [upd_same,g1],mvn g2⟩,?_,j.jd.mv f fun _ _ _=>by omega,j.jc.mv f fun _ _=>by omega⟩
  ·obtain ⟨b1,b2,b3,b4,b5,b6,b7,b8⟩:=j.jb.mv f (f0_upd h0 tm) (by omega) (by omega)
   exact ⟨b1,b2,b3,b4,b5,b6,b7,b8⟩
  ·obtain ⟨b1,b2,b3,b4⟩:=j.jh.mv f (by omega) (by omega)
   exact ⟨b1,b2,b3,b4⟩
  ·obtain ⟨b1,b2,b3,b4⟩:=j.js.mv f (by omega) (by omega)
   exact ⟨b1,b2,b3,b4⟩
 by_cases ha:(M.names.any fun m=>decide (m.1=z))=true
 ·refine ⟨n1,Stp.upd w om (by rw [tm]),go n1 ?_ ?_⟩
  ·unfold putK putNm
   rw [if_pos (e3.trans ha),if_pos ha,e1]
  ·unfold putNm;rw [if_pos ha];exact e2
 ·refine ⟨A.ns ++ [t],Stp.upd w om (by rw [tm]),go _ ?_ ?_⟩
  ·unfold putK putNm
   rw [if_neg (fun y=>ha (e3.symm.trans y)),if_neg ha,e4]
  ·unfold putNm;rw [if_neg ha];exact e5
end
section
variable {K:PySem.W.Frag}{X:Cs}{H:Hp}{Q:VK}{E:XK}{n:St→Hp→Prop}{bk ct:St→Hp→Prop}{rf:Rf→Addr}{CE CF CN:Addr}
theorem do_get_rd {wo dd:Addr} (T:TxW K X) (hE':rf .empty=CE) (hF':rf .nofield=CF) (q:DeedQ X rf isGet wo dd H Q E):rd_do_get K (S_birth_at X) (S_fields_in X CE CF) (S_slots_of X) E ⟨n,Q,bk,ct⟩ [some (.ref wo),some (.ref dd),none,none,none,none] H:=by
 obtain ⟨Tg,s,A,M,_,⟨h,sl,t,f,rfl⟩,w,s0,j,rfl,od,⟨o1,o2⟩,ok,hc,hg,ht,hn,hE,hQ⟩:=q
 obtain ⟨p,m,hp,hm,hs,hl,hd⟩:=j.handOf o1
 unfold rd_do_get
 walk_at "ev"
 refine ⟨dd,_,1,_,rfl,rfl,SqT.of od,rfl,?_⟩
 walk_at "ev"
 refine ⟨dd,_,3,_,rfl,rfl,SqT.of od,rfl,?_⟩
 walk_at "ev"
 refine ⟨dd,_,4,_,rfl,rfl,SqT.of od,rfl,?_⟩
 walk_at "ev"
 refine ⟨_,_,_,_,rfl,Tg,s,A,M,h,t,f,j,rfl,rfl,rfl,rfl,o2,fun e=>?_,fun i c e0 h0 ec hf=>?_,fun i c pc e0 h0 ec hpc ce hf=>?_⟩
 ·rw [← hE'];exact hE .empty (doGet_err e) H (Same.refl _)
 ·rw [← hF'];exact hE .nofield (doGet_nf e0 ec hf) H (Same.refl _)
 ·have hv:=List.getElem?_eq_getElem hf
  walk_at "ev"
  refine i_ixL (SqL.of ce.o2) (atI_nat (v:=oV (c.fl[f])) (by rw [List.getElem?_map,hv];rfl)) ?_
  walk_at "ev"
  refine ⟨_,_,rfl,Tg,s,A,M,h,p,j,rfl,rfl,hp,?_⟩
  walk_at "ev"
  refine ⟨dd,_,2,_,rfl,rfl,SqT.of od,rfl,?_⟩
  refine ⟨p.2,_,_,sl,rfl,rfl,hd.o2,ixN_nat (by rw [List.length_map];exact hl),?_⟩
  obtain ⟨st1,j1⟩:=j.slot w s0 (k:=sl) (x:=c.fl[f]) hp hm
  rw [setSlot_eq hm] at j1
  generalize upd H p.2 (.lst ((m.2.map oV).set sl (oV c.fl[f])))=H1 at st1 j1 ⊢
  obtain ⟨d1,ow⟩:=j1.jb.ow
  walk_at "ev"
  refine Zaa ow T.cW T.nWh Zat ?_
  walk_at "ev"
  refine ⟨_,_,rfl,c.fl[f],rfl,Tg,s,A,_,j1,rfl,?_⟩
  rw [bAt_setSlot]
  walk_at "ev"
  refine ⟨Zaj (by simp),fun l hl=>⟨Zaj (by simp),fun a ha=>?_⟩⟩
  exact ev0 hQ (d:=.get h sl t f) (doGet_ok e0 ec hv) rfl st1 j1 rfl hl ha
theorem do_put_rd {wo dd:Addr} (T:TxW K X) (hE':rf .empty=CE) (hF':rf .nofield=CF) (q:DeedQ X rf isPut wo dd H Q E):rd_do_put K (S_birth_at X) (S_fields_in X CE CF) (S_note_all X) (S_slots_of X) (S_told_new X) (S_told_old X) E ⟨n,Q,bk,ct⟩ [some (.ref wo),some (.ref dd),none,none,none,none,none,none] H:=by
 obtain ⟨Tg,s,A,M,_,⟨h,t,f,sl,rfl⟩,w,s0,j,rfl,od,⟨o2,o1⟩,ok,hc,hg,ht,hn,hE,hQ⟩:=q
 obtain ⟨p,m,hp,hm,hs,hl,hd⟩:=j.handOf o1
 unfold rd_do_put
 walk_at "ev"
 refine ⟨dd,_,1,_,rfl,rfl,SqT.of od,rfl,?_⟩
 walk_at "ev"
 refine ⟨dd,_,3,_,rfl,rfl,SqT.of od,rfl,?_⟩
 walk_at "ev"
 refine ⟨dd,_,2,_,rfl,rfl,SqT.of od,rfl,?_⟩
 walk_at "ev"
 refine ⟨_,_,_,_,rfl,Tg,s,A,M,h,t,f,j,rfl,rfl,rfl,rfl,o2,fun e=>?_,fun i c e0 h0 ec hf=>?_,fun i c pc e0 h0 ec hpc ce hf=>?_⟩
 ·rw [← hE'];exact hE .empty (doPut_err e) H (Same.refl _)
 ·rw [← hF'];exact hE .nofield (doPut_nf e0 ec hf) H (Same.refl _)
 ·have hv:=List.getElem?_eq_getElem hf
  walk_at "ev"
  refine i_ixL (SqL.of ce.o2) (atI_nat (v:=oV (c.fl[f])) (by rw [List.getElem?_map,hv];rfl)) ?_
  walk_at "ev"
  refine ⟨_,_,rfl,Tg,s,A,M,h,p,j,rfl,rfl,hp,?_⟩
  walk_at "ev"
  refine ⟨dd,_,4,_,rfl,rfl,SqT.of od,rfl,?_⟩
  refine i_ixL (SqL.of hd.o2) (atI_nat (v:=oV (Za9 M h sl)) (by rw [List.getElem?_map,hs];rfl)) ?_
  walk_at "ev"
  refine ⟨pc.2,_,_,f,rfl,rfl,ce.o2,ixN_nat (by rw [List.length_map];exact hf),?_⟩
  obtain ⟨st1,j1⟩:=j.field w s0 (k:=f) (x:=Za9 M h sl) hpc ce
  have j1:WJ X _ Tg s A (setCell M i { c with fl:=c.fl.set f (Za9 M h sl) }):=j1
  generalize upd H pc.2 (.lst ((c.fl.map oV).set f (oV (Za9 M h sl))))=H1 at st1 j1 ⊢
  walk_at "ev"
  refine ⟨_,_,rfl,Tg,s,A,_,j1,rfl,ht,fun l1 hl1=>?_⟩
  rw [show old? (setCell M i { c with fl:=c.fl.set f (Za9 M h sl) })=old? M from rfl,ifMap]
  have s1:=same_new hl1 (.lst ((if old? M=true then [c.fl[f]] else []).map oV))
  have g1:upd H1 l1 (.lst ((if old? M=true then [c.fl[f]] else []).map oV)) l1=some (.lst ((if old? M=true then [c.fl[f]] else []).map oV)):=upd_same
  generalize upd H1 l1 (.lst ((if old? M=true then [c.fl[f]] else []).map oV))=H2 at s1 g1 ⊢
  walk_at "ev"
  refine ⟨_,_,_,rfl,Tg,s,A,_,h,j1.same s1,rfl,ht,rfl,fun l2 hl2=>?_⟩
  rw [show (new? (setCell M i { c with fl:=c.fl.set f (Za9 M h sl) }) && !lookedAt (setCell M i { c with fl:=c.fl.set f (Za9 M h sl) }) h)=(new? M && !lookedAt M h) from rfl,ifMap]
  have s2:=same_new hl2 (.lst ((if (new? M && !lookedAt M h)=true then [Za9 M h sl] else []).map oV))
  have g2:upd H2 l2 (.lst ((if (new? M && !lookedAt M h)=true then [Za9 M h sl] else []).map oV)) l2=some (.lst ((if (new? M && !lookedAt M h)=true then [Za9 M h sl] else []).map oV)):=upd_same
  generalize upd H2 l2 (.lst ((if (new? M && !lookedAt M h)=true then [Za9 M h sl] else []).map oV))=H3 at s2 g2 ⊢
  walk_at "ev"
  refine ⟨l1,l2,_,_,rfl,rfl,s2 _ _ g1,g2,?_,fun l3 hl3=>?_⟩
  ·refine Zaj ?_
   cases old? M<;>cases (new? M && !lookedAt M h)<;>simp
  rw [← List.map_append]
  have s3:=same_new hl3 (.lst (((if old? M=true then [c.fl[f]] else []) ++ if (new? M && !lookedAt M h)=true then [Za9 M h sl] else []).map oV))
  have g3:upd H3 l3 (.lst (((if old? M=true then [c.fl[f]] else []) ++ if (new? M && !lookedAt M h)=true then [Za9 M h sl] else []).map oV)) l3=some (.lst ((putL M h sl c.fl[f]).map oV)):=upd_same
  generalize upd H3 l3 (.lst (((if old? M=true then [c.fl[f]] else []) ++ if (new? M && !lookedAt M h)=true then [Za9 M h sl] else []).map oV))=H4 at s3 g3 ⊢
  have s14:=s1.trans (s2.trans s3)
  walk_at "ev"
  refine ⟨_,_,rfl,putL M h sl c.fl[f],Tg,s,A,_,st1.wt.same s14,s0,j1.same s14,rfl,g3,(st1.wt.same (s1.trans s2)) _ hl3,?_,hg,fun H5 T5 l5 st5 j5 g5 nl5=>?_⟩
  ·unfold putL
   cases old? M<;>cases (new? M && !lookedAt M h)<;>simp
  obtain ⟨d1,ow⟩:=j5.jb.ow
  walk_at "ev"
  refine Zaa ow T.cW T.nWh Zat ?_
  walk_at "ev"
  refine ⟨_,_,rfl,c.fl[f],rfl,T5,s,A,_,j5,rfl,?_⟩
  rw [notesM_bAt,setCell_bAt (c':={ c with fl:=c.fl.set f (Za9 M h sl) }) ec rfl]
  walk_at "ev"
  refine ⟨Zaj (by simp),fun a ha=>?_⟩
  exact ev1 (Stp.free st1 (s14.free nl5)) hQ (d:=.put h t f sl) (doPut_ok e0 ec hv) (st1.trans ((Stp.same st1.wt s14).trans st5)) j5 rfl g5 ha
theorem do_write_rd {wo dd:Addr} (T:TxW K X) (hE':rf .empty=CE) (q:DeedQ X rf isWrite wo dd H Q E):rd_do_write K (S_cell_in X CE) E ⟨n,Q,bk,ct⟩ [some (.ref wo),some (.ref dd),none,none] H:=by
 obtain ⟨Tg,s,A,M,_,⟨h,t,load,rfl⟩,w,s0,j,rfl,od,o1,ok,hc,hg,ht,hn,hE,hQ⟩:=q
 unfold rd_do_write
 walk_at "ev"
 refine ⟨dd,_,1,_,rfl,rfl,SqT.of od,rfl,?_⟩
 walk_at "ev"
 refine ⟨dd,_,2,_,rfl,rfl,SqT.of od,rfl,?_⟩
 walk_at "ev"
 refine ⟨_,_,_,rfl,Tg,s,A,M,h,t,j,rfl,rfl,rfl,o1,fun e=>?_,fun i c pc e0 h0 ec hpc ce=>?_⟩
 ·rw [← hE'];exact hE .empty (doWrite_err e) H (Same.refl _)
 ·obtain ⟨t1,t2,⟨dx,oo1⟩,oo2⟩:=id ce
  walk_at "ev"
  refine Zaa oo1 T.c.cl_Cell T.c.n_Cell_load cellF_lk_load ?_
  walk_at "ev"
  refine ⟨dd,_,3,_,rfl,rfl,SqT.of od,rfl,?_⟩
  walk_at "ev"
  refine ⟨pc.1,X.C,dx,_,rfl,oo1,T.c.cl_Cell,T.c.n_Cell_load,by show 5 < 1000;decide,?_⟩
  rw [cellF_put_load]
  obtain ⟨st1,j1⟩:=j.cell w s0 (dx:=dx) (tone:=c.tone) (load:=load) hpc ce
  generalize upd H pc.1 (.ins X.C dx (cellF c.birth c.bulk c.tone load pc.2))=H1 at st1 j1 ⊢
  walk_at "ev"
  refine ⟨Zaj (by simp),fun l hl=>⟨Zaj (by simp),fun a ha=>?_⟩⟩
  exact ev0 hQ (d:=.write h t load) (doWrite_ok e0 ec) rfl st1 j1 rfl hl ha
theorem do_read_rd {wo dd:Addr} (T:TxW K X) (hE':rf .empty=CE) (q:DeedQ X rf isRead wo dd H Q E):rd_do_read K (S_cell_in X CE) E ⟨n,Q,bk,ct⟩ [some (.ref wo),some (.ref dd),none] H:=by
 obtain ⟨Tg,s,A,M,_,⟨h,t,rfl⟩,w,s0,j,rfl,od,o1,ok,hc,hg,ht,hn,hE,hQ⟩:=q
 unfold rd_do_read
 walk_at "ev"
 refine ⟨dd,_,1,_,rfl,rfl,SqT.of od,rfl,?_⟩
 walk_at "ev"
 refine ⟨dd,_,2,_,rfl,rfl,SqT.of od,rfl,?_⟩
 walk_at "ev"
 refine ⟨_,_,_,rfl,Tg,s,A,M,h,t,j,rfl,rfl,rfl,o1,fun e=>?_,fun i c pc e0 h0 ec hpc ce=>?_⟩
 ·rw [← hE'];exact hE .empty (doRead_err e) H (Same.refl _)
 ·obtain ⟨t1,t2,⟨dx,oo1⟩,oo2⟩:=id ce
  walk_at "ev"
  refine Zaa oo1 T.c.cl_Cell T.c.n_Cell_load cellF_lk_load ?_
  walk_at "ev"
  refine ⟨Zaj (by simp),fun l hl=>⟨Zaj (by simp),fun a ha=>?_⟩⟩
  exact ev0 hQ (d:=.read h t) (doRead_ok e0 ec) rfl (Stp.refl w) j rfl hl ha
theorem do_name_rd {wo dd:Addr} (T:TxW K X) (hE':rf .empty=CE) (q:DeedQ X rf isName wo dd H Q E):rd_do_name K (S_cell_in X CE) (S_slots_of X) E ⟨n,Q,bk,ct⟩ [some (.ref wo),some (.ref dd),none,none,none] H:=by
 obtain ⟨Tg,s,A,M,_,⟨h,t,z,rfl⟩,w,s0,j,rfl,od,o1,ok,hc,hg,ht,hn,hE,hQ⟩:=q
 obtain ⟨p,m,hp,hm,hs,hl,hd⟩:=j.handOf o1
 unfold rd_do_name
 walk_at "ev"
 refine ⟨dd,_,1,_,rfl,rfl,SqT.of od,rfl,?_⟩
 walk_at "ev"
 refine ⟨dd,_,2,_,rfl,rfl,SqT.of od,rfl,?_⟩
 walk_at "ev"
 refine ⟨_,_,_,rfl,Tg,s,A,M,h,t,j,rfl,rfl,rfl,o1,fun e=>?_,fun i c pc e0 h0 ec hpc ce=>?_⟩
 ·rw [← hE'];exact hE .empty (doName_err e) H (Same.refl _)
 ·obtain ⟨t1,t2,⟨dx,oo1⟩,oo2⟩:=id ce
  walk_at "ev"
  refine Zaa oo1 T.c.cl_Cell T.c.n_Cell_birth cellF_lk_birth ?_
  walk_at "ev"
  refine ⟨_,_,rfl,Tg,s,A,M,h,p,j,rfl,rfl,hp,?_⟩
  walk_at "ev"
  refine i_ixL (SqL.of hd.o2) (atI_nat (v:=oV (Za9 M h t)) (by rw [List.getElem?_map,hs];rfl)) ?_
  rw [e0]
  walk_at "ev"
  refine ⟨Zaj (by simp),fun tp htp=>?_⟩
  have s1:=same_new htp (.tup [oV (some i),.int c.birth])
  have g1:upd H tp (.tup [oV (some i),.int c.birth]) tp=some (.tup [.int i,.int c.birth]):=upd_same
  generalize upd H tp (.tup [oV (some i),.int c.birth])=H1 at s1 g1 ⊢
  have j1:=j.same s1
  have w1:=w.same s1
  obtain ⟨d1,ow⟩:=j1.jb.ow
  walk_at "ev"
  refine Zaa ow T.cW T.nWn worldF_lk_names ?_
  walk_at "ev"
  refine ⟨dd,_,3,_,rfl,rfl,SqT.of (s1 _ _ od),rfl,?_⟩
  refine ⟨_,_,rfl,dputS j1.jn.om (by rw [nm_len j1.jn.nms];exact Nat.lt_of_le_of_lt hn (by decide)),?_⟩
  obtain ⟨ns',st2,j2⟩:=j1.named w1 s0 (z:=z) (v:=(i,c.birth)) (t:=tp) ⟨w _ htp,g1⟩
  generalize upd H1 A.nm (.dK (putK (nmK M.names A.ns) (Sum.inr z) (.ref tp)))=H2 at st2 j2 ⊢
  walk_at "ev"
  refine ⟨Zaj (by simp),fun l hl=>⟨Zaj (by simp),fun a ha=>?_⟩⟩
  exact ev0 hQ (d:=.name h t z) (doName_ok e0 ec) rfl ((Stp.same w s1).trans st2) j2 rfl hl ha
theorem do_seek_rd {wo dd:Addr} (T:TxW K X) (hN':rf .noname=CN) (q:DeedQ X rf isSeek wo dd H Q E):rd_do_seek K (S_birth_at X) (S_note_all X) (S_place_named X CN) (S_slots_of X) E ⟨n,Q,bk,ct⟩ [some (.ref wo),some (.ref dd),none,none] H:=by
 obtain ⟨Tg,s,A,M,_,⟨h,sl,z,rfl⟩,w,s0,j,rfl,od,o1,ok,hc,hg,ht,hn,hE,hQ⟩:=q
 obtain ⟨p,m,hp,hm,hs,hl,hd⟩:=j.handOf o1
 unfold rd_do_seek
 walk_at "ev"
 refine ⟨dd,_,3,_,rfl,rfl,SqT.of od,rfl,?_⟩
 walk_at "ev"
 refine ⟨_,_,rfl,Tg,s,A,M,j,rfl,fun e=>?_,fun pl b e=>?_⟩
 ·rw [← hN']
  refine hE .noname ?_ H (Same.refl _)
  show (match getNm M.names z with | none=>_ | some (p,b)=>_)=_
  rw [e]
 ·let x:Option Int:=if goneM M pl b=true then none else some pl
  have ex:(if goneM M pl b=true then V.non else .int pl)=oV x:=by
   show _=oV (if _ then _ else _)
   cases goneM M pl b<;>rfl
  rw [ex]
  have he:doM M (.seek h sl z)=.ok (⟨"sought",bAt M x,(notesM (setSlot M h sl x) [x]).1⟩,(notesM (setSlot M h sl x) [x]).2):=by
   show (match getNm M.names z with | none=>_ | some (p,b)=>_)=_
   rw [e]
   dsimp only
   cases hgn:goneM M pl b with
   | true=>
    have:x=none:=by show (if _ then _ else _)=_;rw [hgn];rfl
    rw [this];rfl
   | false=>
    have hx:x=some pl:=by show (if _ then _ else _)=_;rw [hgn];rfl
    have:bAt M (some pl)=some b:=by
     unfold goneM at hgn
     show (cellAt M pl).map _=_
     cases hcc:cellAt M pl with
     | none=>rw [hcc] at hgn;cases hgn
     | some c=>
      rw [hcc] at hgn
      dsimp only at hgn
      by_cases y:c.birth=b
      ·rw [← y];rfl
      ·rw [if_neg y] at hgn;cases hgn
    rw [hx,this];rfl
  clear_value x
  walk_at "ev"
  refine ⟨dd,_,1,_,rfl,rfl,SqT.of od,rfl,?_⟩
  walk_at "ev"
  refine ⟨_,_,rfl,Tg,s,A,M,h,p,j,rfl,rfl,hp,?_⟩
  walk_at "ev"
  refine ⟨dd,_,2,_,rfl,rfl,SqT.of od,rfl,?_⟩
  refine ⟨p.2,_,_,sl,rfl,rfl,hd.o2,ixN_nat (by rw [List.length_map];exact hl),?_⟩
  obtain ⟨st1,j1⟩:=j.slot w s0 (k:=sl) (x:=x) hp hm
  rw [setSlot_eq hm] at j1
  generalize upd H p.2 (.lst ((m.2.map oV).set sl (oV x)))=H1 at st1 j1 ⊢
  walk_at "ev"
  refine ⟨Zaj (by simp),fun l1 hl1=>?_⟩
  have s1:=same_new hl1 (.lst [oV x])
  have g1:upd H1 l1 (.lst [oV x]) l1=some (.lst ([x].map oV)):=upd_same
  generalize upd H1 l1 (.lst [oV x])=H2 at s1 g1 ⊢
  walk_at "ev"
  refine ⟨_,_,rfl,[x],Tg,s,A,_,st1.wt.same s1,s0,j1.same s1,rfl,g1,st1.wt _ hl1,by simp,hg,fun H3 T3 l3 st3 j3 g3 nl3=>?_⟩
  obtain ⟨d1,ow⟩:=j3.jb.ow
  walk_at "ev"
  refine Zaa ow T.cW T.nWh Zat ?_
  walk_at "ev"
  refine ⟨_,_,rfl,x,rfl,T3,s,A,_,j3,rfl,?_⟩
  rw [notesM_bAt,bAt_setSlot]
  walk_at "ev"
  refine ⟨Zaj (by simp),fun a ha=>?_⟩
  exact ev1 (Stp.free st1 (s1.free nl3)) hQ (d:=.seek h sl z) he (st1.trans ((Stp.same st1.wt s1).trans st3)) j3 rfl g3 ha
end
section
variable {K:PySem.W.Frag}{X:Cs}{H:Hp}{Q:VK}{E:XK}{n:St→Hp→Prop}{bk ct:St→Hp→Prop}{rf:Rf→Addr}{f1 f2 f3 f4 f5 f6 f7 f8 f9 f10:Addr}
end
def S_births_at (X:Cs):Sp:=fun vs H Q E=>∃ hp sl,vs=[.ref hp,.ref sl]∧∃ T s A M,∃ xs:List (Option Int),WJ X H T s A M∧A.hp=hp∧H sl=some (.lst (xs.map oV))∧xs.length≤1000∧∀ l,H l=none→Q (.ref l) (upd H l (.lst ((xs.map (bAt M)).map oV)))
def S_births (X:Cs):Sp:=fun vs H Q E=>∃ wo,vs=[.ref wo]∧∃ T s A M,WJ X H T s A M∧A.wo=wo∧M.cells.length≤1000∧(∀ m∈M.hands,m.2.length≤1000)∧∀ (l:Addr) (ls:List Addr) H',Same H H'→H' l=some (.lst (ls.map V.ref))→ls.length=(rowsOf M).length→(∀ (j:Nat) r x,ls[j]? =some r→(rowsOf M)[j]? =some x→H' r=some (.lst (x.map oV)))→Q (.ref l) H'
section
variable {K:PySem.W.Frag}{X:Cs}{H:Hp}{Q:VK}{E:XK}{n:St→Hp→Prop}{bk ct:St→Hp→Prop}
theorem births_at_rd {hp sl:Addr} (T:TxW K X) (q:∃ T s A M,∃ xs:List (Option Int),WJ X H T s A M∧A.hp=hp∧H sl=some (.lst (xs.map oV))∧xs.length≤1000∧∀ l,H l=none→Q (.ref l) (upd H l (.lst ((xs.map (bAt M)).map oV)))):
  rd_births_at K (S_birth_at X) ⟨n,Q,bk,ct⟩ [some (.ref hp),some (.ref sl)] H:=by
 obtain ⟨Tg,s,A,M,xs,j,rfl,o,hx,q⟩:=q
 unfold rd_births_at
 walk_at "ev"
 refine i_lcg ?_
 walk_at "ev"
 refine ⟨_,rfl,⟨_,SqL.of o⟩,?_⟩
 refine lc_list (SqL.of o) (fun i=>(xs[i]?).map fun x=>oV (bAt M x)) (by rw [List.length_map];omega) (fun i x hx=>?_) ?_
 ·rw [List.getElem?_map] at hx
  obtain ⟨y,hy,rfl⟩:=Option.map_eq_some_iff.mp hx
  refine ⟨fun q hq=>?_,fun z q hz hq=>?_⟩
  ·rw [hy] at hq
   exact i_true hq
  ·rw [hy] at hz
   cases hz
   walk_at "caps"
   walk_at "ev"
   exact ⟨_,_,rfl,y,rfl,Tg,s,A,M,j,rfl,hq⟩
 ·intro p hp
  have:(List.range (xs.map oV).length).filterMap (fun i=>(xs[i]?).map fun x=>oV (bAt M x))=(xs.map (bAt M)).map oV:=by
   rw [List.length_map,List.map_map]
   clear q o hx
   induction xs with
   | nil=>rfl
   | cons a l ih=>
    rw [List.length_cons,List.range_succ_eq_map,List.filterMap_cons]
    simp only [List.getElem?_cons_zero,Option.map_some,List.map_cons,List.filterMap_map]
    congr 1
  rw [this]
  exact q p hp
theorem births_held_rd {wo:Addr} (T:TxW K X) (q:∃ T s A M,WJ X H T s A M∧A.wo=wo∧M.cells.length≤1000∧(∀ m∈M.hands,m.2.length≤1000)∧∀ (l:Addr) (ls:List Addr) H',Same H H'→H' l=some (.lst (ls.map V.ref))→ls.length=(rowsOf M).length→(∀ (j:Nat) r x,ls[j]? =some r→(rowsOf M)[j]? =some x→H' r=some (.lst (x.map oV)))→Q (.ref l) H'):
  rd_births_held K (S_births_at X) ⟨n,Q,bk,ct⟩ [some (.ref wo)] H:=by
 obtain ⟨Tg,s,A,M,j,rfl,hc,hh,q⟩:=q
 obtain ⟨d1,ow⟩:=j.jb.ow
 have l5:=j.jd.l5
 unfold rd_births_held
 walk_at "ev"
 refine i_lcg ?_
 walk_at "ev"
 refine Zaa ow T.cW T.nWd worldF_lk_hands ?_
 refine ⟨_,rfl,⟨_,SqL.of j.jb.on⟩,?_⟩
 refine lc_newDL (SqL.of j.jb.on) (by rw [List.length_map];omega) (fun i r Hx=>∃ x,(rowsOf M)[i]? =some x∧Hx r=some (.lst (x.map oV))) (fun _ _ _ _ ⟨x,e,z⟩ s=>⟨x,e,s _ _ z⟩) (fun _ _ _ ⟨_,_,z⟩=>⟨_,z⟩) (fun x H1 q hq=>i_true hq) (fun i x H1 hi s1 q' hq=>?_) ?_
 ·rw [List.getElem?_map] at hi
  obtain ⟨p,hp,rfl⟩:=Option.map_eq_some_iff.mp hi
  have j1:=j.same s1
  obtain ⟨m,hm,hd⟩:=j1.hand hp
  obtain ⟨dx,o1⟩:=hd.o1
  obtain ⟨d2,ow1⟩:=j1.jb.ow
  walk_at "caps"
  walk_at "ev"
  refine Zaa ow1 T.cW T.nWh Zat ?_
  walk_at "ev"
  refine Zaa o1 T.cD T.nDs handF_lk_slots ?_
  walk_at "ev"
  refine ⟨_,_,rfl,Tg,s,A,M,m.2,j1,rfl,hd.o2,hh m (List.mem_of_getElem? hm),fun l hl=>?_⟩
  exact hq l _ (same_new hl _) hl ⟨_,by unfold rowsOf;rw [List.getElem?_map,hm];rfl,upd_same⟩
 ·intro rs H' s1 hl _ _ hr p hp
  have s2:=same_new hp (.lst (rs.map V.ref))
  refine q p rs _ (s1.trans s2) upd_same ?_ fun j' r x e1 e2=>?_
  ·rw [hl,List.length_map]
   unfold rowsOf
   rw [List.length_map,j.jd.lh]
  ·obtain ⟨y,e3,z⟩:=hr j' r e1
   rw [e2] at e3
   cases e3
   exact s2 _ _ z
end
def S_Hand_init (CD:Addr):Sp:=fun vs H Q E=>∃ p nm many,vs=[.ref p,.str nm,.int many]∧∃ dx,H p=some (.ins CD dx [])∧0≤many∧many≤1000∧
 ∀ sa H',H sa=none→H' p=some (.ins CD dx (handF nm sa))→H' sa=some (.lst (List.replicate many.toNat V.non))→(∀ b o,H b=some o→b≠p→H' b=some o)→Q .non H'
def S_Sweeper_init (CS:Addr):Sp:=fun vs H Q E=>∃ p,vs=[.ref p]∧∃ dx,H p=some (.ins CS dx [])∧
 ∀ gr H',H gr=none→H' p=some (.ins CS dx (sweepF 0 "rest" gr 0 0 0 0 0 0 0 .non))→H' gr=some (.lst [])→(∀ b o,H b=some o→b≠p→H' b=some o)→Q .non H'
section
variable {K:PySem.W.Frag}{X:Cs}{H:Hp}{Q:VK}{E:XK}{n:St→Hp→Prop}{bk ct:St→Hp→Prop}
theorem Hand___init___rd {p:Addr}{nm:Str}{many:Int} (T:TxW K X) (q:∃ dx,H p=some (.ins X.D dx [])∧0≤many∧many≤1000∧
 ∀ sa H',H sa=none→H' p=some (.ins X.D dx (handF nm sa))→H' sa=some (.lst (List.replicate many.toNat V.non))→(∀ b o,H b=some o→b≠p→H' b=some o)→Q .non H'):
  rd_Hand___init__ K ⟨fun _ H'=>Q .non H',Q,bk,ct⟩ [some (.ref p),some (.str nm),some (.int many)] H:=by
 obtain ⟨dx,hp,h0,h1,h⟩:=q
 unfold rd_Hand___init__
 walk_at "ev"
 refine ⟨p,X.D,dx,[],rfl,hp,T.cD,T.nDn,by decide,?_⟩
 walk_at "ev"
 refine ⟨by decide,fun l0 hl0=>?_⟩
 walk_at "ev"
 refine ⟨l0,many,_,rfl,rfl,upd_same,by omega,by omega,?_,fun fa hfa=>?_⟩
 ·show 1 * many.toNat≤sizeLine
  exact Zaj (by omega)
 have npl:p≠l0:=ne_of_none upd_same hl0
 have npf:p≠fa:=ne_of_none (by rw [upd_ne npl];exact upd_same) hfa
 have hfa0:H fa=none:=by
  by_cases z:fa=l0
  ·rw [z,upd_same] at hfa;cases hfa
  ·rw [upd_ne z,upd_ne (fun e=>npf e.symm)] at hfa;exact hfa
 have hl00:H l0=none:=by rw [upd_ne (fun e=>npl e.symm)] at hl0;exact hl0
 walk_at "ev"
 refine ⟨p,X.D,dx,_,rfl,by rw [upd_ne npf,upd_ne npl];exact upd_same,T.cD,T.nDs,by show 1 < 1000;decide,?_⟩
 refine h fa _ hfa0 ?_ ?_ fun b o hb nb=>?_
 ·rw [upd_same,handF_mk]
 ·rw [upd_ne npf.symm,upd_same]
  congr 2
  generalize many.toNat=k
  induction k with
  | zero=>rfl
  | succ k ih=>rw [List.replicate_succ,List.replicate_succ,List.flatten_cons,ih];rfl
 ·rw [upd_ne nb,upd_ne (ne_of_none hb hfa0),upd_ne (ne_of_none hb hl00),upd_ne nb];exact hb
theorem Sweeper___init___rd {p:Addr} (T:TxW K X) (q:∃ dx,H p=some (.ins X.S dx [])∧
 ∀ gr H',H gr=none→H' p=some (.ins X.S dx (sweepF 0 "rest" gr 0 0 0 0 0 0 0 .non))→H' gr=some (.lst [])→(∀ b o,H b=some o→b≠p→H' b=some o)→Q .non H'):
  rd_Sweeper___init__ K ⟨fun _ H'=>Q .non H',Q,bk,ct⟩ [some (.ref p)] H:=by
 obtain ⟨dx,hp,h⟩:=q
 unfold rd_Sweeper___init__
 walk_at "ev"
 refine ⟨p,X.S,dx,[],rfl,hp,T.cS,T.n1,by decide,?_⟩
 walk_at "ev"
 refine ⟨p,X.S,dx,_,rfl,upd_same,T.cS,T.n2,by show 1 < 1000;decide,?_⟩
 rw [upd_upd]
 walk_at "ev"
 refine ⟨by decide,fun gr hgr=>?_⟩
 have npg:p≠gr:=ne_of_none upd_same hgr
 have hgr0:H gr=none:=by rw [upd_ne npg.symm] at hgr;exact hgr
 walk_at "ev"
 refine ⟨p,X.S,dx,_,rfl,by rw [upd_ne npg];exact upd_same,T.cS,T.n3,by show 2 < 1000;decide,?_⟩
 walk_at "ev"
 refine ⟨p,X.S,dx,_,rfl,upd_same,T.cS,T.n4,by show 3 < 1000;decide,?_⟩
 rw [upd_upd]
 walk_at "ev"
 refine ⟨p,X.S,dx,_,rfl,upd_same,T.cS,T.n5,by show 4 < 1000;decide,?_⟩
 rw [upd_upd]
 walk_at "ev"
 refine ⟨p,X.S,dx,_,rfl,upd_same,T.cS,T.n6,by show 5 < 1000;decide,?_⟩
 rw [upd_upd]
 walk_at "ev"
 refine ⟨p,X.S,dx,_,rfl,upd_same,T.cS,T.n7,by show 6 < 1000;decide,?_⟩
 rw [upd_upd]
 walk_at "ev"
 refine ⟨p,X.S,dx,_,rfl,upd_same,T.cS,T.n8,by show 7 < 1000;decide,?_⟩
 rw [upd_upd]
 walk_at "ev"
 refine ⟨p,X.S,dx,_,rfl,upd_same,T.cS,T.n9,by show 8 < 1000;decide,?_⟩
 rw [upd_upd]
 walk_at "ev"
 refine ⟨p,X.S,dx,_,rfl,upd_same,T.cS,T.n10,by show 9 < 1000;decide,?_⟩
 rw [upd_upd]
 walk_at "ev"
 refine ⟨p,X.S,dx,_,rfl,upd_same,T.cS,T.n11,by show 10 < 1000;decide,?_⟩
 rw [upd_upd]
 refine h gr _ hgr0 ?_ ?_ fun b o hb nb=>?_
 ·rw [upd_same,sweepF_mk]
 ·rw [upd_ne npg.symm,upd_same]
 ·rw [upd_ne nb,upd_ne (ne_of_none hb hgr0),upd_ne nb];exact hb
end
def wd (w:Int):Str:=if w=0 then "first" else if w=1 then "each" else "last"
def tlS (t:Int):Str:=if t=0 then "" else if t=1 then " old" else if t=2 then " new" else " old new"
def words (w t:Int):Str:=wd w ++ tlS t
theorem words_inj {w t w' t':Int} (w0:0≤w) (w1:w < 3) (t0:0≤t) (t1:t < 4) (a0:0≤w') (a1:w' < 3) (b0:0≤t') (b1:t' < 4) (e:words w t=words w' t'):w=w'∧t=t':=by
 have key:∀ a∈[(0:Int),1,2],∀ b∈[(0:Int),1,2,3],∀ a'∈[(0:Int),1,2],∀ b'∈[(0:Int),1,2,3],words a b=words a' b'→a=a'∧b=b':=by decide +kernel
 exact key w (by simp;omega) t (by simp;omega) w' (by simp;omega) t' (by simp;omega) e
theorem wd_len (w:Int):(wd w).length≤5:=by
 unfold wd
 by_cases h:w=0
 ·rw [if_pos h];decide
 ·rw [if_neg h]
  by_cases h:w=1
  ·rw [if_pos h];decide
  ·rw [if_neg h];decide
structure KdO (X:Cs) (H:Hp) (ki lk:Addr) (w t:Int):Prop where
 ok:∃ dx,H ki=some (.ins X.K dx (kindF lk t))
 ol:∃ dx,(w=0∧H lk=some (.ins X.F dx []))∨(w=1∧H lk=some (.ins X.E dx []))∨(w=2∧H lk=some (.ins X.L dx []))
theorem KdO.same {X:Cs}{H H':Hp}{ki lk:Addr}{w t:Int} (k:KdO X H ki lk w t) (s:Same H H'):KdO X H' ki lk w t:=by
 obtain ⟨⟨d1,a⟩,⟨d2,b⟩⟩:=k
 refine ⟨⟨d1,s _ _ a⟩,⟨d2,?_⟩⟩
 rcases b with ⟨z,e⟩ | ⟨z,e⟩ | ⟨z,e⟩
 ·exact .inl ⟨z,s _ _ e⟩
 ·exact .inr (.inl ⟨z,s _ _ e⟩)
 ·exact .inr (.inr ⟨z,s _ _ e⟩)
def S_kind_of (X:Cs):Sp:=fun vs H Q E=>∃ z,vs=[.str z]∧∃ w t,0≤w∧w < 3∧0≤t∧t < 4∧z=words w t∧∀ ki lk H',Same H H'→H ki=none→H lk=none→KdO X H' ki lk w t→Q (.ref ki) H'
def newW (room:Int) (hands:List (Str×Int)) (w t:Int):Wm:=⟨room,0,0,[],hands.map fun m=>(m.1,List.replicate m.2.toNat none),[],w,t,⟨0,"rest",[],0,0,0,0,0,0,0,.non⟩⟩
def S_World_init (X:Cs):Sp:=fun vs H Q E=>∃ p room ki hl0,vs=[.ref p,.int room,.ref ki,.ref hl0]∧∃ dx T s lk w t ts hands,H p=some (.ins X.W dx [])∧WT H T∧s≠0∧KdO X H ki lk w t∧T ki=(0,0)∧T lk=(0,0)∧ki≠p∧lk≠p∧H hl0=some (.lst (ts.map V.ref))∧
 Al (fun (t:Addr) (m:Str×Int)=>H t=some (.tup [.str m.1,.int m.2])∧0≤m.2∧m.2≤1000) ts hands∧hands.length≤30∧
 ∀ H' T' A,(∀ b o,H b=some o→b≠p→H' b=some o)→(∀ b o,H b=some o→b≠p→T' b=T b)→WT H' T'→A.wo=p→WJ X H' T' s A (newW room hands w t)→Q .non H'
def S_Kind_init (CK:Addr):Sp:=fun vs H Q E=>∃ p l t,vs=[.ref p,.ref l,.int t]∧∃ dx,H p=some (.ins CK dx [])∧∀ H',H' p=some (.ins CK dx (kindF l t))→(∀ b o,H b=some o→b≠p→H' b=some o)→Q .non H'
def S_tell (v:V):Sp:=fun vs H Q E=>∃ a,vs=[.ref a]∧Q v H
def S_words (X:Cs):Sp:=fun vs H Q E=>∃ ki,vs=[.ref ki]∧∃ lk w t,KdO X H ki lk w t∧0≤t∧t < 4∧∀ H',Same H H'→Q (.str (words w t)) H'
section
variable {K:PySem.W.Frag}{X:Cs}{H:Hp}{Q:VK}{E:XK}{n:St→Hp→Prop}{bk ct:St→Hp→Prop}
theorem First_word_rd {a:Addr} (T:TxW K X) (q:Q (.str "first") H):rd_First_word ⟨n,Q,bk,ct⟩ [some (.ref a)] H:=by
 unfold rd_First_word
 walk_at "ev"
 exact q
theorem Each_word_rd {a:Addr} (T:TxW K X) (q:Q (.str "each") H):rd_Each_word ⟨n,Q,bk,ct⟩ [some (.ref a)] H:=by
 unfold rd_Each_word
 walk_at "ev"
 exact q
theorem Last_word_rd {a:Addr} (T:TxW K X) (q:Q (.str "last") H):rd_Last_word ⟨n,Q,bk,ct⟩ [some (.ref a)] H:=by
 unfold rd_Last_word
 walk_at "ev"
 exact q
theorem Kind___init___rd {p l:Addr}{t:Int} (T:TxW K X) (q:∃ dx,H p=some (.ins X.K dx [])∧∀ H',H' p=some (.ins X.K dx (kindF l t))→(∀ b o,H b=some o→b≠p→H' b=some o)→Q .non H'):
  rd_Kind___init__ K ⟨fun _ H'=>Q .non H',Q,bk,ct⟩ [some (.ref p),some (.ref l),some (.int t)] H:=by
 obtain ⟨dx,hp,h⟩:=q
 unfold rd_Kind___init__
 walk_at "ev"
 refine ⟨p,X.K,dx,[],rfl,hp,T.cK,T.nKl,by decide,?_⟩
 walk_at "ev"
 refine ⟨p,X.K,dx,_,rfl,upd_same,T.cK,T.nKt,by show 1 < 1000;decide,?_⟩
 rw [upd_upd]
 refine h _ ?_ fun b o hb nb=>?_
 ·rw [upd_same,kindF_mk]
 ·rw [upd_ne nb];exact hb
theorem w0 {w:Int} (hw:w=0∨w=1∨w=2):words w 0=wd w:=by rcases hw with rfl | rfl | rfl<;>decide +kernel
theorem w3 {w:Int} (hw:w=0∨w=1∨w=2):words w 3=(wd w ++ " old") ++ " new":=by rcases hw with rfl | rfl | rfl<;>decide +kernel
theorem w3l {w:Int} (hw:w=0∨w=1∨w=2):(wd w ++ " old":Str).length≤20:=by rcases hw with rfl | rfl | rfl<;>decide +kernel
theorem words_go {p lk:Addr}{dx:Addr}{w t:Int} (hw:w=0∨w=1∨w=2) (T:TxW K X) (hp:H p=some (.ins X.K dx (kindF lk t))) (t0:0≤t) (t1:t < 4) (q:Q (.str (words w t)) H):
  (tSeq (tIfS (tTest (tOp (rNe) (tOp (rI0 fun i j=>.int (Builtin.bitAnd i j)) (tFld K (tVar 0) "tells") (tC (.int 1))) (tC (.int 0)))) (tAsg (tOp (G.rCatS) (tVar 1) (tC (.str " old"))) (gName 1)) tNext)
   (tSeq (tIfS (tTest (tOp (rNe) (tOp (rI0 fun i j=>.int (Builtin.bitAnd i j)) (tFld K (tVar 0) "tells") (tC (.int 2))) (tC (.int 0)))) (tAsg (tOp (G.rCatS) (tVar 1) (tC (.str " new"))) (gName 1)) tNext)
   (tRet (tVar 1)))) ⟨n,Q,bk,ct⟩ [some (.ref p),some (.str (wd w))] H:=by
 have lw:=wd_len w
 have ht:t=0∨t=1∨t=2∨t=3:=by omega
 walk_at "ev"
 refine Zaa hp T.cK T.nKt kindF_lk_tells ?_
 walk_at "ev"
 rcases ht with rfl | rfl | rfl | rfl
 ·refine ifnd (fun z=>absurd (by decide) z) (fun _=>?_)
  walk_at "ev"
  refine Zaa hp T.cK T.nKt kindF_lk_tells ?_
  walk_at "ev"
  refine ifnd (fun z=>absurd (by decide) z) (fun _=>?_)
  walk_at "ev"
  rw [w0 hw] at q
  exact q
 ·refine ifnd (fun _=>?_) (fun z=>absurd z (by decide))
  walk_at "ev"
  refine i_catS (Zaj (by have:(" old":Str).length=4:=rfl;omega)) ?_
  walk_at "ev"
  refine Zaa hp T.cK T.nKt kindF_lk_tells ?_
  walk_at "ev"
  refine ifnd (fun z=>absurd (by decide) z) (fun _=>?_)
  walk_at "ev"
  exact q
 ·refine ifnd (fun z=>absurd (by decide) z) (fun _=>?_)
  walk_at "ev"
  refine Zaa hp T.cK T.nKt kindF_lk_tells ?_
  walk_at "ev"
  refine ifnd (fun _=>?_) (fun z=>absurd z (by decide))
  walk_at "ev"
  refine i_catS (Zaj (by have:(" new":Str).length=4:=rfl;omega)) ?_
  walk_at "ev"
  exact q
 ·refine ifnd (fun _=>?_) (fun z=>absurd z (by decide))
  walk_at "ev"
  refine i_catS (Zaj (by have:(" old":Str).length=4:=rfl;omega)) ?_
  walk_at "ev"
  refine Zaa hp T.cK T.nKt kindF_lk_tells ?_
  walk_at "ev"
  refine ifnd (fun _=>?_) (fun z=>absurd z (by decide))
  walk_at "ev"
  refine i_catS (Zaj (by have:(" new":Str).length=4:=rfl;have:=w3l hw;omega)) ?_
  walk_at "ev"
  rw [w3 hw] at q
  exact q
theorem Kind_words_rd {p:Addr} (T:TxW K X) (q:∃ lk w t,KdO X H p lk w t∧0≤t∧t < 4∧∀ H',Same H H'→Q (.str (words w t)) H'):
  rd_Kind_words K X.E X.F X.L (S_tell (.str "each")) (S_tell (.str "first")) (S_tell (.str "last")) ⟨n,Q,bk,ct⟩ [some (.ref p),none] H:=by
 obtain ⟨lk,w,t,⟨⟨dx,hp⟩,⟨dl,ol⟩⟩,t0,t1,h⟩:=q
 have h:=h H (Same.refl _)
 unfold rd_Kind_words
 refine i_seq ?_
 walk_at "es"
 rcases ol with ⟨rfl,o⟩ | ⟨rfl,o⟩ | ⟨rfl,o⟩
 ·refine i_orL ?_
  walk_at "ev"
  refine Zaa hp T.cK T.nKl kindF_lk_looking ?_
  walk_at "es"
  refine ⟨lk,dl,_,rfl,o,rfl,?_⟩
  walk_at "es"
  refine ⟨lk,rfl,?_⟩
  walk_at "es"
  exact words_go (w:=0) (by decide) T hp t0 t1 h
 ·refine i_orR (i_orL ?_)
  walk_at "ev"
  refine Zaa hp T.cK T.nKl kindF_lk_looking ?_
  walk_at "es"
  refine ⟨lk,dl,_,rfl,o,rfl,?_⟩
  walk_at "es"
  refine ⟨lk,rfl,?_⟩
  walk_at "es"
  exact words_go (w:=1) (by decide) T hp t0 t1 h
 ·refine i_orR (i_orR ?_)
  walk_at "ev"
  refine Zaa hp T.cK T.nKl kindF_lk_looking ?_
  walk_at "es"
  refine ⟨lk,dl,_,rfl,o,rfl,?_⟩
  walk_at "es"
  refine ⟨lk,rfl,?_⟩
  walk_at "es"
  exact words_go (w:=2) (by decide) T hp t0 t1 h
theorem kind_of_rd {z:Str} (T:TxW K X) (q:∃ w t,0≤w∧w < 3∧0≤t∧t < 4∧z=words w t∧∀ ki lk H',Same H H'→H ki=none→H lk=none→KdO X H' ki lk w t→Q (.ref ki) H'):
  rd_kind_of K X.E X.F X.K X.L (S_Kind_init X.K) (S_words X) ⟨n,Q,bk,ct⟩ [some (.str z),none,none,none] H:=by
 obtain ⟨wq,tq,wq0,wq1,tq0,tq1,ez,hq⟩:=q
 unfold rd_kind_of
 walk_at "ev"
 intro af df n1 m1 e1
 have s1:Same H (upd (upd H df (.own af)) af (.ins X.F df [])):=fun b o hb=>by rw [upd_ne (ne_of_none hb n1),upd_ne (ne_of_none hb m1)];exact hb
 have o1:upd (upd H df (.own af)) af (.ins X.F df []) af=some (.ins X.F df []):=upd_same
 generalize upd (upd H df (.own af)) af (.ins X.F df [])=H1 at s1 o1 ⊢
 walk_at "ev"
 intro ae de n2 m2 e2
 have s2:Same H1 (upd (upd H1 de (.own ae)) ae (.ins X.E de [])):=fun b o hb=>by rw [upd_ne (ne_of_none hb n2),upd_ne (ne_of_none hb m2)];exact hb
 have o2:upd (upd H1 de (.own ae)) ae (.ins X.E de []) ae=some (.ins X.E de []):=upd_same
 generalize upd (upd H1 de (.own ae)) ae (.ins X.E de [])=H2 at s2 o2 ⊢
 walk_at "ev"
 intro al dl n3 m3 e3
 have s3:Same H2 (upd (upd H2 dl (.own al)) al (.ins X.L dl [])):=fun b o hb=>by rw [upd_ne (ne_of_none hb n3),upd_ne (ne_of_none hb m3)];exact hb
 have o3:upd (upd H2 dl (.own al)) al (.ins X.L dl []) al=some (.ins X.L dl []):=upd_same
 generalize upd (upd H2 dl (.own al)) al (.ins X.L dl [])=H3 at s3 o3 ⊢
 walk_at "ev"
 refine ⟨Zaj (by simp),fun lp hlp=>?_⟩
 have s4:=same_new hlp (.lst [.ref af,.ref ae,.ref al])
 have g4:upd H3 lp (.lst [.ref af,.ref ae,.ref al]) lp=some (.lst [.ref af,.ref ae,.ref al]):=upd_same
 generalize upd H3 lp (.lst [.ref af,.ref ae,.ref al])=H4 at s4 g4 ⊢
 have of4:=s4 _ _ (s3 _ _ (s2 _ _ o1))
 have oe4:=s4 _ _ (s3 _ _ o2)
 have ol4:=s4 _ _ o3
 have s04:=s1.trans (s2.trans (s3.trans s4))
 have lko:∀ {i:Nat}{x:V},([.ref af,.ref ae,.ref al]:List V)[i]? =some x→i < 3∧∃ lk,x=.ref lk∧H lk=none∧∃ dx,((i:Int)=0∧H4 lk=some (.ins X.F dx []))∨((i:Int)=1∧H4 lk=some (.ins X.E dx []))∨((i:Int)=2∧H4 lk=some (.ins X.L dx [])):=by
  intro i x hx
  match i,hx with
  | 0,hx=>cases hx;exact ⟨by omega,af,rfl,n1,df,.inl ⟨rfl,of4⟩⟩
  | 1,hx=>cases hx;exact ⟨by omega,ae,rfl,s1.free n2,de,.inr (.inl ⟨rfl,oe4⟩)⟩
  | 2,hx=>cases hx;exact ⟨by omega,al,rfl,(s1.trans s2).free n3,dl,.inr (.inr ⟨rfl,ol4⟩)⟩
  | k + 3,hx=>cases hx
 clear s1 s2 s3 s4 of4 oe4 ol4
 refine ⟨lp,rfl,⟨_,SqL.of g4⟩,forL [.ref af,.ref ae,.ref al] (fun i σ Hx=>∃ v1 v2 v3,σ=[some (.str z),v1,v2,v3]∧Same H4 Hx∧∀ (w:Nat) (t:Int),w < i→0≤t→t < 4→z≠words w t) ⟨_,_,_,rfl,Same.refl _,fun w t hw=>absurd hw (Nat.not_lt_zero _)⟩ (fun _ _ _ _ ⟨_,_,_,_,s,_⟩=>SqL.of (s _ _ g4)) ?_ ?_⟩
 ·rintro i x σ H5 hi ⟨v1,v2,v3,rfl,s5,hn⟩
  obtain ⟨hi3,lk,rfl,nlk,dlk,ol⟩:=lko hi
  walk_at "ev"
  refine ⟨4,rfl,by omega,by omega,?_⟩
  refine forR (fun k σ Hx=>∃ v2 v3,σ=[some (.str z),some (.ref lk),v2,v3]∧Same H4 Hx∧∀ (t:Int),0≤t→t < k→z≠words i t) ⟨_,_,rfl,s5,fun t h0 h1=>absurd h1 (by omega)⟩ ?_ ?_
  ·rintro k σ H6 hk ⟨v2,v3,rfl,s6,hn2⟩
   have hk4:k < 4:=hk
   have e0:(0:Int) + (k:Int)=k:=by omega
   rw [e0]
   walk_at "ev"
   intro p dx np ndx ned
   refine ⟨p,lk,k,rfl,dx,upd_same,fun H7 k1 k2=>⟨rfl,?_⟩⟩
   have s7:Same H6 H7:=fun b o hb=>by
    refine k2 b o ?_ (ne_of_none hb np)
    rw [upd_ne (ne_of_none hb np),upd_ne (ne_of_none hb ndx)]
    exact hb
   have kd:KdO X H7 p lk i k:=⟨⟨dx,k1⟩,⟨dlk,by
    rcases ol with ⟨e,o⟩ | ⟨e,o⟩ | ⟨e,o⟩
    ·exact .inl ⟨e,s7 _ _ (s6 _ _ o)⟩
    ·exact .inr (.inl ⟨e,s7 _ _ (s6 _ _ o)⟩)
    ·exact .inr (.inr ⟨e,s7 _ _ (s6 _ _ o)⟩)⟩⟩
   walk_at "ev"
   refine ⟨p,dx,_,rfl,k1,kindF_no_words,?_⟩
   walk_at "ev"
   refine ⟨p,rfl,lk,i,k,kd,by omega,by omega,fun H8 s8=>?_⟩
   walk_at "ev"
   refine ifd (fun e=>?_) (fun e=>?_)
   ·walk_at "ev"
    obtain ⟨rfl,rfl⟩:=words_inj wq0 wq1 tq0 tq1 (by omega) (by omega) (by omega) (by omega) (ez.symm.trans e.symm)
    refine hq p lk _ (s04.trans (s6.trans (s7.trans s8))) ((s04.trans s6).free np) nlk ⟨⟨dx,s8 _ _ k1⟩,?_⟩
    obtain ⟨_,⟨d,od⟩⟩:=kd
    refine ⟨d,?_⟩
    rcases od with ⟨e,o⟩ | ⟨e,o⟩ | ⟨e,o⟩
    ·exact .inl ⟨e,s8 _ _ o⟩
    ·exact .inr (.inl ⟨e,s8 _ _ o⟩)
    ·exact .inr (.inr ⟨e,s8 _ _ o⟩)
   ·walk_at "ev"
    refine ⟨_,_,rfl,s6.trans (s7.trans s8),fun t t0 t1=>?_⟩
    by_cases ht:t=k
    ·rw [ht]
     exact fun w=>e w.symm
    ·exact hn2 t t0 (by omega)
  ·rintro σ H3 ⟨v2,v3,rfl,s3,hn2⟩
   refine ⟨_,_,_,rfl,s3,fun w t hw t0 t1=>?_⟩
   by_cases hwi:w=i
   ·rw [hwi]
    exact hn2 t t0 t1
   ·exact hn w t (by omega) t0 t1
 ·rintro σ H2 ⟨v1,v2,v3,rfl,s2,hn⟩
  exfalso
  have:=hn wq.toNat tq (by show wq.toNat < 3;omega) tq0 tq1
  have e:((wq.toNat:Nat):Int)=wq:=by omega
  rw [e] at this
  exact this ez
end
structure Ex (p:Addr) (H H':Hp) (T T':Tg):Prop where
 kp:∀ b o,H b=some o→b≠p→H' b=some o
 al:∀ b o,H b=some o→∃ o',H' b=some o'
 tg:∀ b o,H b=some o→T' b=T b
 wt:WT H' T'
section
variable {p:Addr}{H H1 H2 H':Hp}{T T1 T2 T':Tg}
theorem Ex.trans (a:Ex p H H1 T T1) (b:Ex p H1 H2 T1 T2):Ex p H H2 T T2 where
 kp:=fun x o h n=>b.kp x o (a.kp x o h n) n
 al:=fun x o h=>by obtain ⟨o1,h1⟩:=a.al x o h;exact b.al x o1 h1
 tg:=fun x o h=>by obtain ⟨o1,h1⟩:=a.al x o h;rw [b.tg x o1 h1,a.tg x o h]
 wt:=b.wt
theorem wt_of (w:WT H T) (al:∀ b o,H b=some o→∃ o',H' b=some o'):WT H' T:=fun b h=>w b (by
 cases z:H b with
 | none=>rfl
 | some o=>obtain ⟨o',e⟩:=al b o z;rw [h] at e;cases e)
theorem wt_set {a:Addr}{o:HO}{v:Nat×Nat} (w:WT H T) (h:H a=some o):WT H (setT T a v):=fun b hb=>by
 rw [setT_ne (fun e=>by rw [e,h] at hb;cases hb)];exact w b hb
theorem Ex.updp {o o0:HO} (w:WT H T) (h:H p=some o0):Ex p H (upd H p o) T T where
 kp:=fun x u hx n=>by rw [upd_ne n];exact hx
 al:=fun x u hx=>by
  by_cases e:x=p
  ·exact ⟨o,by rw [e,upd_same]⟩
  ·exact ⟨u,by rw [upd_ne e];exact hx⟩
 tg:=fun _ _ _=>rfl
 wt:=wt_of w fun x u hx=>by
  by_cases e:x=p
  ·exact ⟨o,by rw [e,upd_same]⟩
  ·exact ⟨u,by rw [upd_ne e];exact hx⟩
theorem Ex.news {vs:List (Addr×(Nat×Nat))} (w:WT H T) (s:Same H H') (hn:∀ v∈vs,H v.1=none∧∃ o,H' v.1=some o):Ex p H H' T (vs.foldr (fun v t=>setT t v.1 v.2) T):=by
 have tg:∀ b o,H b=some o→(vs.foldr (fun v t=>setT t v.1 v.2) T) b=T b:=by
  intro b o hb
  induction vs with
  | nil=>rfl
  | cons v vs ih=>
   show setT _ v.1 v.2 b=_
   rw [setT_ne (ne_of_none hb (hn v List.mem_cons_self).1)]
   exact ih fun u hu=>hn u (List.mem_cons_of_mem _ hu)
 refine ⟨fun b o hb _=>s _ _ hb,fun b o hb=>⟨o,s _ _ hb⟩,tg,?_⟩
 clear tg
 induction vs with
 | nil=>exact w.same s
 | cons v vs ih=>
  obtain ⟨o,ho⟩:=(hn v List.mem_cons_self).2
  exact wt_set (ih fun u hu=>hn u (List.mem_cons_of_mem _ hu)) ho
end
section
variable {K:PySem.W.Frag}{X:Cs}{H:Hp}{Q:VK}{E:XK}{n:St→Hp→Prop}{bk ct:St→Hp→Prop}
theorem World___init___rd {p ki hl0:Addr}{room:Int} (T:TxW K X) (q:∃ dx T s lk w t,∃ ts:List Addr,∃ hands,H p=some (.ins X.W dx [])∧WT H T∧s≠0∧KdO X H ki lk w t∧T ki=(0,0)∧T lk=(0,0)∧ki≠p∧lk≠p∧H hl0=some (.lst (ts.map V.ref))∧
 Al (fun (t:Addr) (m:Str×Int)=>H t=some (.tup [.str m.1,.int m.2])∧0≤m.2∧m.2≤1000) ts hands∧hands.length≤30∧
 ∀ H' T' A,(∀ b o,H b=some o→b≠p→H' b=some o)→(∀ b o,H b=some o→b≠p→T' b=T b)→WT H' T'→A.wo=p→WJ X H' T' s A (newW room hands w t)→Q .non H'):
  rd_World___init__ K X.D X.H X.S (S_Hand_init X.D) (S_Heap_init X.H) (S_Sweeper_init X.S) ⟨fun _ H'=>Q .non H',Q,bk,ct⟩ [some (.ref p),some (.int room),some (.ref ki),some (.ref hl0)] H:=by
 obtain ⟨dx,T0,s,lk,w,t,ts,hands,hp,wt0,s0,kd,tki,tlk,nki,nlk,oh0,al,hn,hQ⟩:=q
 have x0:WT H (setT T0 p (s,0)):=wt_set wt0 hp
 have tp:setT T0 p (s,0) p=(s,0):=setT_same
 have to0:∀ b o,H b=some o→b≠p→setT T0 p (s,0) b=T0 b:=fun b _ _ hb=>setT_ne hb
 generalize hT:setT T0 p (s,0)=Ta at x0 tp to0
 unfold rd_World___init__
 walk_at "ev"
 intro hq dh nh ndh neh
 refine ⟨hq,room,rfl,dh,upd_same,fun ca H1 nca a1 a2 k1=>⟨rfl,?_⟩⟩
 have nca0:H ca=none:=by
  by_cases z:ca=hq
  ·rw [z,upd_same] at nca;cases nca
  ·rw [upd_ne z] at nca
   by_cases y:ca=dh
   ·rw [y,upd_same] at nca;cases nca
   ·rw [upd_ne y] at nca;exact nca
 have sm1:Same H H1:=fun b o hb=>k1 b o (by rw [upd_ne (ne_of_none hb nh),upd_ne (ne_of_none hb ndh)];exact hb) (ne_of_none hb nh)
 have e1:Ex p H H1 Ta _:=Ex.news (vs:=[(hq,(s,1)),(ca,(s,2))]) x0 sm1 (by
  intro v hv
  simp only [List.mem_cons,List.not_mem_nil,or_false] at hv
  rcases hv with rfl | rfl
  ·exact ⟨nh,_,a1⟩
  ·exact ⟨nca0,_,a2⟩)
 have nhc:hq≠ca:=ne_of a1 a2 (fun z=>by cases z)
 have th1:([(hq,(s,1)),(ca,(s,2))].foldr (fun v t=>setT t v.1 v.2) Ta) hq=(s,1):=setT_same
 have tc1:([(hq,(s,1)),(ca,(s,2))].foldr (fun v t=>setT t v.1 v.2) Ta) ca=(s,2):=(setT_ne nhc.symm).trans setT_same
 generalize ([(hq,(s,1)),(ca,(s,2))]:List (Addr×(Nat×Nat))).foldr (fun v t=>setT t v.1 v.2) Ta=Tb at e1 th1 tc1
 have hp1:=sm1 _ _ hp
 have nph:hq≠p:=fun z=>by rw [z,hp] at nh;cases nh
 have npc:ca≠p:=fun z=>by rw [z,hp] at nca0;cases nca0
 clear k1 nca
 walk_at "ev"
 refine ⟨p,X.W,dx,[],rfl,hp1,T.cW,T.nWh,by decide,?_⟩
 have e2:=e1.trans (Ex.updp (o:=.ins X.W dx (putF "heap" (.ref hq) [])) e1.wt hp1)
 have g2:upd H1 p (.ins X.W dx (putF "heap" (.ref hq) [])) p=some (.ins X.W dx (putF "heap" (.ref hq) [])):=upd_same
 have a1:=(upd_ne (o:=.ins X.W dx (putF "heap" (.ref hq) [])) nph).trans a1
 have a2:=(upd_ne (o:=.ins X.W dx (putF "heap" (.ref hq) [])) npc).trans a2
 generalize upd H1 p (.ins X.W dx (putF "heap" (.ref hq) []))=H2 at e2 g2 a1 a2 ⊢
 walk_at "ev"
 refine ⟨p,X.W,dx,_,rfl,g2,T.cW,T.nWk,by show 1 < 1000;decide,?_⟩
 have e3:=e2.trans (Ex.updp (o:=.ins X.W dx (putF "kind" (.ref ki) (putF "heap" (.ref hq) []))) e2.wt g2)
 have g3:upd H2 p (.ins X.W dx (putF "kind" (.ref ki) (putF "heap" (.ref hq) []))) p=some (.ins X.W dx (putF "kind" (.ref ki) (putF "heap" (.ref hq) []))):=upd_same
 have a1:=(upd_ne (o:=.ins X.W dx (putF "kind" (.ref ki) (putF "heap" (.ref hq) []))) nph).trans a1
 have a2:=(upd_ne (o:=.ins X.W dx (putF "kind" (.ref ki) (putF "heap" (.ref hq) []))) npc).trans a2
 generalize upd H2 p (.ins X.W dx (putF "kind" (.ref ki) (putF "heap" (.ref hq) [])))=H3 at e3 g3 a1 a2 ⊢
 generalize hF3:(putF "kind" (.ref ki) (putF "heap" (.ref hq) []))=F3 at g3 ⊢
 have lF3:F3.length=2:=by rw [← hF3];rfl
 have oh3:H3 hl0=some (.lst (ts.map V.ref)):=e3.kp _ _ oh0 (fun z=>by rw [z,hp] at oh0;cases oh0)
 have ltl:ts.length=hands.length:=al.length
 have tup3:∀ (i:Nat) a,ts[i]? =some a→∃ m,hands[i]? =some m∧H3 a=some (.tup [.str m.1,.int m.2])∧0≤m.2∧m.2≤1000:=fun i a ha=>by
  have hl:i < hands.length:=by rw [← ltl];exact (List.getElem?_eq_some_iff.mp ha).1
  obtain ⟨a',ha',z1,z2,z3⟩:=al.get (List.getElem?_eq_getElem hl)
  rw [ha] at ha'
  cases ha'
  exact ⟨_,List.getElem?_eq_getElem hl,e3.kp _ _ z1 (fun z=>by rw [z,hp] at z1;cases z1),z2,z3⟩
 have lo:=e3.wt
 walk_at "ev"
 refine ⟨_,rfl,⟨_,SqL.of oh3⟩,lcg2_of ?_⟩
 refine ⟨fun i m ys Hx=>i≤ts.length∧m=ts.length - i∧∃ (hs:List (Addr×Addr)) (Tx:Tg),ys=hs.map (fun q=>V.ref q.1)∧hs.length=i∧Same H3 Hx∧Ex p H3 Hx Tb Tx∧∀ (j:Nat) q m,hs[j]? =some q→hands[j]? =some m→HdO X.D Hx Tx s j q (m.1,List.replicate m.2.toNat none)∧q.1≠p∧q.2≠p,
  ⟨ts.length,Nat.zero_le _,rfl,[],Tb,rfl,rfl,Same.refl _,⟨fun _ _ h _=>h,fun _ o h=>⟨o,h⟩,fun _ _ _=>rfl,lo⟩,fun j q m e=>by simp at e⟩,?_⟩
 rintro i m ys Hx ⟨hi,rfl,hs,Tx,rfl,hl,sx,ex,hds⟩
 by_cases hk:i=ts.length
 ·refine .inl ⟨⟨_,SqL.of (sx _ _ oh3),by rw [List.length_map];omega⟩,fun hla nhl=>?_⟩
  have nhl3:H3 hla=none:=sx.free nhl
  have s4:=same_new nhl (.lst (hs.map fun q=>V.ref q.1))
  have e4:Ex p Hx _ Tx _:=Ex.news (p:=p) (vs:=[(hla,(s,5))]) ex.wt s4 (by
   intro v hv
   rw [List.mem_singleton.mp hv]
   exact ⟨nhl,_,upd_same⟩)
  have t4:([(hla,(s,5))].foldr (fun v t=>setT t v.1 v.2) Tx) hla=(s,5):=setT_same
  have o4:upd Hx hla (.lst (hs.map fun q=>V.ref q.1)) hla=some (.lst (hs.map fun q=>V.ref q.1)):=upd_same
  have hpx:=sx _ _ g3
  have nhp:hla≠p:=fun z=>by rw [z,hpx] at nhl;cases nhl
  have hp4:=s4 _ _ hpx
  generalize upd Hx hla (.lst (hs.map fun q=>V.ref q.1))=H4 at s4 e4 o4 hp4 ⊢
  generalize ([(hla,(s,5))]:List (Addr×(Nat×Nat))).foldr (fun v t=>setT t v.1 v.2) Tx=T4 at e4 t4
  walk_at "ev"
  refine ⟨p,X.W,dx,_,rfl,hp4,T.cW,T.nWd,by rw [lF3];decide,?_⟩
  have e5:=Ex.updp (p:=p) (o:=.ins X.W dx (putF "hands" (.ref hla) F3)) e4.wt hp4
  have hp5:upd H4 p (.ins X.W dx (putF "hands" (.ref hla) F3)) p=some (.ins X.W dx (putF "hands" (.ref hla) F3)):=upd_same
  generalize upd H4 p (.ins X.W dx (putF "hands" (.ref hla) F3))=H5 at e5 hp5 ⊢
  walk_at "ev"
  intro nm hnm
  have nnp:nm≠p:=fun z=>by rw [z,hp5] at hnm;cases hnm
  have s6:=same_new hnm (.dK [])
  have e6:Ex p H5 _ T4 _:=Ex.news (p:=p) (vs:=[(nm,(s,6))]) e5.wt s6 (by
   intro v hv
   rw [List.mem_singleton.mp hv]
   exact ⟨hnm,_,upd_same⟩)
  have t6:([(nm,(s,6))].foldr (fun v t=>setT t v.1 v.2) T4) nm=(s,6):=setT_same
  have o6:upd H5 nm (.dK []) nm=some (.dK []):=upd_same
  have hp6:=s6 _ _ hp5
  generalize upd H5 nm (.dK [])=H6 at s6 e6 o6 hp6 ⊢
  generalize ([(nm,(s,6))]:List (Addr×(Nat×Nat))).foldr (fun v t=>setT t v.1 v.2) T4=T6 at e6 t6
  walk_at "ev"
  refine ⟨p,X.W,dx,_,rfl,hp6,T.cW,T.nWn,by rw [← hF3];show 3 < 1000;decide,?_⟩
  have e7:=Ex.updp (p:=p) (o:=.ins X.W dx (putF "names" (.ref nm) (putF "hands" (.ref hla) F3))) e6.wt hp6
  have hp7:upd H6 p (.ins X.W dx (putF "names" (.ref nm) (putF "hands" (.ref hla) F3))) p=some (.ins X.W dx (putF "names" (.ref nm) (putF "hands" (.ref hla) F3))):=upd_same
  generalize upd H6 p (.ins X.W dx (putF "names" (.ref nm) (putF "hands" (.ref hla) F3)))=H7 at e7 hp7 ⊢
  walk_at "ev"
  intro sw ds nsw nds nes
  refine ⟨sw,rfl,ds,upd_same,fun gr H8 ngr b1 b2 k8=>⟨rfl,?_⟩⟩
  have ngr0:H7 gr=none:=by
   by_cases z:gr=sw
   ·rw [z,upd_same] at ngr;cases ngr
   ·rw [upd_ne z] at ngr
    by_cases y:gr=ds
    ·rw [y,upd_same] at ngr;cases ngr
    ·rw [upd_ne y] at ngr;exact ngr
  have s8:Same H7 H8:=fun b o hb=>k8 b o (by rw [upd_ne (ne_of_none hb nsw),upd_ne (ne_of_none hb nds)];exact hb) (ne_of_none hb nsw)
  have e8:Ex p H7 H8 T6 _:=Ex.news (p:=p) (vs:=[(sw,(s,7)),(gr,(s,8))]) e7.wt s8 (by
   intro v hv
   simp only [List.mem_cons,List.not_mem_nil,or_false] at hv
   rcases hv with rfl | rfl
   ·exact ⟨nsw,_,b1⟩
   ·exact ⟨ngr0,_,b2⟩)
  have nsg:sw≠gr:=ne_of b1 b2 (fun z=>by cases z)
  have ts8:([(sw,(s,7)),(gr,(s,8))].foldr (fun v t=>setT t v.1 v.2) T6) sw=(s,7):=setT_same
  have tg8:([(sw,(s,7)),(gr,(s,8))].foldr (fun v t=>setT t v.1 v.2) T6) gr=(s,8):=(setT_ne nsg.symm).trans setT_same
  generalize ([(sw,(s,7)),(gr,(s,8))]:List (Addr×(Nat×Nat))).foldr (fun v t=>setT t v.1 v.2) T6=T8 at e8 ts8 tg8
  have hp8:=s8 _ _ hp7
  have nsp:sw≠p:=fun z=>by rw [z,hp7] at nsw;cases nsw
  have ngp:gr≠p:=fun z=>by rw [z,hp7] at ngr0;cases ngr0
  clear k8 ngr
  walk_at "ev"
  refine ⟨p,X.W,dx,_,rfl,hp8,T.cW,T.nWs,by rw [← hF3];show 4 < 1000;decide,?_⟩
  have e9:=Ex.updp (p:=p) (o:=.ins X.W dx (putF "sweeper" (.ref sw) (putF "names" (.ref nm) (putF "hands" (.ref hla) F3)))) e8.wt hp8
  have hp9:upd H8 p (.ins X.W dx (putF "sweeper" (.ref sw) (putF "names" (.ref nm) (putF "hands" (.ref hla) F3)))) p=some (.ins X.W dx (worldF hq ki hla nm sw)):=by
   rw [upd_same,← hF3,worldF_mk]
  generalize upd H8 p (.ins X.W dx (putF "sweeper" (.ref sw) (putF "names" (.ref nm) (putF "hands" (.ref hla) F3))))=H9 at e9 hp9 ⊢
  have f89:=e9
  have f69:=e7.trans (e8.trans e9)
  have f49:=e5.trans (e6.trans f69)
  have fx9:=e4.trans f49
  have f39:=ex.trans fx9
  have f09:=e3.trans f39
  obtain ⟨⟨dk,ok⟩,⟨dl,ol⟩⟩:=kd
  have hlk:∃ o,H lk=some o:=by
   rcases ol with ⟨_,z⟩ | ⟨_,z⟩ | ⟨_,z⟩
   ·exact ⟨_,z⟩
   ·exact ⟨_,z⟩
   ·exact ⟨_,z⟩
  obtain ⟨olk,elk⟩:=hlk
  refine hQ H9 T8 ⟨p,hq,ca,ki,lk,hla,nm,sw,gr,hs,[],[]⟩ f09.kp (fun b o hb nb=>(f09.tg b o hb).trans (to0 b o hb nb)) f09.wt rfl ⟨⟨(f09.tg _ _ hp).trans tp,(f09.tg _ _ ok).trans ((to0 _ _ ok nki).trans tki),(f09.tg _ _ elk).trans ((to0 _ _ elk nlk).trans tlk),(f49.tg _ _ o4).trans t4,⟨dx,hp9⟩,⟨dk,f09.kp _ _ ok nki⟩,⟨dl,?_⟩,f49.kp _ _ o4 nhp⟩,
   ⟨(f39.tg _ _ a1).trans th1,(f39.tg _ _ a2).trans tc1,⟨dh,f39.kp _ _ a1 nph⟩,f39.kp _ _ a2 npc⟩,⟨(f69.tg _ _ o6).trans t6,f69.kp _ _ o6 nnp,.nil⟩,
   ⟨(f89.tg _ _ b1).trans ts8,(f89.tg _ _ b2).trans tg8,⟨ds,f89.kp _ _ b1 nsp⟩,f89.kp _ _ b2 ngp⟩,⟨?_,by show hs.length≤30;rw [hl,hk,ltl];exact hn,?_⟩,⟨rfl,fun i q c z=>by simp at z⟩⟩
  ·rcases ol with ⟨z,y⟩ | ⟨z,y⟩ | ⟨z,y⟩
   ·exact .inl ⟨z,f09.kp _ _ y nlk⟩
   ·exact .inr (.inl ⟨z,f09.kp _ _ y nlk⟩)
   ·exact .inr (.inr ⟨z,f09.kp _ _ y nlk⟩)
  ·show hs.length=(hands.map _).length
   rw [List.length_map,hl,hk,ltl]
  ·intro j q m z1 z2
   have z2:(hands.map fun m=>(m.1,List.replicate m.2.toNat none))[j]? =some m:=z2
   rw [List.getElem?_map] at z2
   obtain ⟨m0,y1,rfl⟩:=Option.map_eq_some_iff.mp z2
   obtain ⟨⟨u1,u2,⟨du,u3⟩,u4⟩,v1,v2⟩:=hds j q m0 z1 y1
   exact ⟨(fx9.tg _ _ u3).trans u1,(fx9.tg _ _ u4).trans u2,⟨du,fx9.kp _ _ u3 v1⟩,fx9.kp _ _ u4 v2⟩
 ·have hlt:i < ts.length:=by omega
  refine .inr ⟨⟨_,_,SqL.of (sx _ _ oh3),by rw [List.getElem?_map,List.getElem?_eq_getElem hlt];rfl⟩,?_,fun x H' y=>?_⟩
  ·rw [List.length_map,hl]
   exact Nat.lt_of_lt_of_le hlt (Zaj (by omega))
  obtain ⟨y1,y2⟩:=y
  subst y1
  have ey:=y2 _ (SqL.of (sx _ _ oh3))
  rw [List.getElem?_map,List.getElem?_eq_getElem hlt] at ey
  have ey:x=.ref ts[i]:=(Option.some.inj ey).symm
  subst ey
  obtain ⟨m,hm,ot,m0,m1⟩:=tup3 i _ (List.getElem?_eq_getElem hlt)
  refine i_true (iteT ⟨ts[i],.str m.1,.int m.2,_,rfl,SqT.of (sx _ _ ot),?_⟩)
  walk_at "caps"
  walk_at "ev"
  intro q1 dq nq ndq neq
  refine ⟨q1,m.1,m.2,rfl,dq,upd_same,m0,m1,fun sa Hy nsa b1 b2 k=>⟨rfl,?_⟩⟩
  have nsa0:H' sa=none:=by
   by_cases z:sa=q1
   ·rw [z,upd_same] at nsa;cases nsa
   ·rw [upd_ne z] at nsa
    by_cases y:sa=dq
    ·rw [y,upd_same] at nsa;cases nsa
    ·rw [upd_ne y] at nsa;exact nsa
  have sy:Same H' Hy:=fun b o hb=>k b o (by rw [upd_ne (ne_of_none hb nq),upd_ne (ne_of_none hb ndq)];exact hb) (ne_of_none hb nq)
  have ey:Ex p H' Hy Tx _:=Ex.news (p:=p) (vs:=[(q1,(s,20 + 2 * i)),(sa,(s,21 + 2 * i))]) ex.wt sy (by
   intro v hv
   simp only [List.mem_cons,List.not_mem_nil,or_false] at hv
   rcases hv with rfl | rfl
   ·exact ⟨nq,_,b1⟩
   ·exact ⟨nsa0,_,b2⟩)
  have nqs:q1≠sa:=ne_of b1 b2 (fun z=>by cases z)
  have hpx:=sx _ _ g3
  refine ⟨ts.length - (i + 1),by omega,by omega,rfl,hs ++ [(q1,sa)],_,by rw [List.map_append];rfl,by rw [List.length_append,hl];rfl,sx.trans sy,ex.trans ey,fun j q m' z1 z2=>?_⟩
  by_cases hj:j < hs.length
  ·rw [List.getElem?_append_left hj] at z1
   obtain ⟨⟨u1,u2,⟨du,u3⟩,u4⟩,v1,v2⟩:=hds j q m' z1 z2
   exact ⟨⟨(ey.tg _ _ u3).trans u1,(ey.tg _ _ u4).trans u2,⟨du,sy _ _ u3⟩,sy _ _ u4⟩,v1,v2⟩
  ·have hj':=(List.getElem?_eq_some_iff.mp z1).1
   rw [List.length_append,List.length_singleton] at hj'
   have ej:j=hs.length:=by omega
   subst ej
   rw [List.getElem?_append_right (Nat.le_refl _),Nat.sub_self] at z1
   cases z1
   rw [hl] at z2 ⊢
   rw [hm] at z2
   cases z2
   exact ⟨⟨setT_same,(setT_ne nqs.symm).trans setT_same,⟨dq,b1⟩,by rw [b2,List.map_replicate];rfl⟩,(fun z=>by rw [show q1=p from z,hpx] at nq;cases nq),(fun z=>by rw [show sa=p from z,hpx] at nsa0;cases nsa0)⟩
end
theorem wd_at {w:Int} (h0:0≤w) (h1:w < 3):atI [V.str "first",.str "each",.str "last"] w=some (.str (wd w)):=by
 have:w=0∨w=1∨w=2:=by omega
 rcases this with rfl | rfl | rfl<;>rfl
theorem tl_at {w:Int} (h0:0≤w) (h1:w < 4):atI [V.str "",.str " old",.str " new",.str " old new"] w=some (.str (tlS w)):=by
 have:w=0∨w=1∨w=2∨w=3:=by omega
 rcases this with rfl | rfl | rfl | rfl<;>rfl
theorem tlS_len (w:Int):(tlS w).length≤8:=by
 unfold tlS
 by_cases h:w=0
 ·rw [if_pos h];decide
 ·rw [if_neg h]
  by_cases h:w=1
  ·rw [if_pos h];decide
  ·rw [if_neg h]
   by_cases h:w=2
   ·rw [if_pos h];decide
   ·rw [if_neg h];decide
def S_mix:Sp:=fun vs H Q E=>∃ c f,vs=[.int c,.int f]∧0≤f∧f < 2 ^ 31∧∀ z:Int,0≤z→Q (.int z) H
def S_kindL:Sp:=fun vs H Q E=>∃ c,vs=[.int c]∧∀ w t H',0≤w→w < 3→0≤t→t < 4→Same H H'→Q (.str (words w t)) H'
section
variable {K:PySem.W.Frag}{H:Hp}{Q:VK}{E:XK}{n:St→Hp→Prop}{bk ct:St→Hp→Prop}
theorem _law_mix_rd {c f:Int} (q:0≤f∧f < 2 ^ 31∧∀ z:Int,0≤z→Q (.int z) H):rd__law_mix ⟨n,Q,bk,ct⟩ [some (.int c),some (.int f),none] H:=by
 obtain ⟨h0,h1,h⟩:=q
 unfold rd__law_mix
 walk_at "ev"
 refine h _ ?_
 generalize (c * f + 12345) % 2147483647=d
 have:=Int.emod_nonneg (d * d) (show (2147483629:Int)≠0 by decide)
 generalize d * d % 2147483629=e at this ⊢
 omega
theorem _law_kind_rd {c:Int} (q:∀ w t H',0≤w→w < 3→0≤t→t < 4→Same H H'→Q (.str (words w t)) H'):rd__law_kind K S_mix ⟨n,Q,bk,ct⟩ [some (.int c),none] H:=by
 unfold rd__law_kind
 walk_at "ev"
 refine ⟨Zaj (by simp),fun l1 h1=>?_⟩
 have s1:=same_new h1 (.lst [.str "first",.str "each",.str "last"])
 have g1:upd H l1 (.lst [.str "first",.str "each",.str "last"]) l1=some (.lst [.str "first",.str "each",.str "last"]):=upd_same
 generalize upd H l1 (.lst [.str "first",.str "each",.str "last"])=H1 at s1 g1 ⊢
 walk_at "ev"
 refine ⟨_,_,rfl,by decide,by decide,fun z hz=>?_⟩
 walk_at "ev"
 have z0:0≤z % 3:=by omega
 have z1:z % 3 < 3:=by omega
 generalize z % 3=w at z0 z1 ⊢
 refine i_ixL (SqL.of g1) (wd_at z0 z1) ?_
 walk_at "ev"
 refine ⟨Zaj (by simp),fun l2 h2=>?_⟩
 have s2:=same_new h2 (.lst [.str "",.str " old",.str " new",.str " old new"])
 have g2:upd H1 l2 (.lst [.str "",.str " old",.str " new",.str " old new"]) l2=some (.lst [.str "",.str " old",.str " new",.str " old new"]):=upd_same
 generalize upd H1 l2 (.lst [.str "",.str " old",.str " new",.str " old new"])=H2 at s2 g2 ⊢
 walk_at "ev"
 refine ⟨_,_,rfl,by decide,by decide,fun y hy=>?_⟩
 walk_at "ev"
 have y0:0≤y % 4:=by omega
 have y1:y % 4 < 4:=by omega
 generalize y % 4=t at y0 y1 ⊢
 refine i_ixL (SqL.of g2) (tl_at y0 y1) ?_
 walk_at "ev"
 have a1:=wd_len w
 have a2:=tlS_len t
 refine i_catS (Zaj (by omega)) ?_
 exact q w t H2 z0 z1 y0 y1 (s1.trans s2)
end
def markM (M:Wm) (i:Int) (c:Ce):Str:=if M.sw.phase="rest" then "kept" else if M.sw.phase="give" then (if c.tone=M.sw.sense then "kept" else "doomed") else if c.tone=M.sw.sense then (if i∈M.sw.grey then "grey" else "dark") else "pale"
def toldM (M:Wm):List (Int×Ce):=(List.range M.cells.length).filterMap fun (i:Nat)=>((M.cells[i]?).join).map fun c=>((i:Int),c)
def S_mark_of (X:Cs):Sp:=fun vs H Q E=>∃ wo i,vs=[.ref wo,.int i]∧∃ T s A M c,WJ X H T s A M∧A.wo=wo∧0≤i∧M.cells[i.toNat]? =some (some c)∧Q (.str (markM M i c)) H
def TcO (M:Wm) (H:Hp) (p:Addr×Addr) (t:Int×Ce):Prop:=H p.1=some (.tup [.int t.1,.int t.2.birth,.int t.2.bulk,.int t.2.load,.ref p.2,.str (markM M t.1 t.2)])∧H p.2=some (.lst ((t.2.fl.map (bAt M)).map oV))
def S_told_cell (X:Cs):Sp:=fun vs H Q E=>∃ wo i,vs=[.ref wo,.int i]∧∃ T s A M c,WJ X H T s A M∧A.wo=wo∧0≤i∧M.cells[i.toNat]? =some (some c)∧c.fl.length≤1000∧∀ a l H',Same H H'→H a=none→TcO M H' (a,l) (i,c)→Q (.ref a) H'
def S_told (X:Cs):Sp:=fun vs H Q E=>∃ wo,vs=[.ref wo]∧∃ T s A M,WJ X H T s A M∧A.wo=wo∧M.cells.length≤1000∧(∀ c,some c∈M.cells→c.fl.length≤1000)∧
 ∀ (l:Addr) (ls:List Addr) H',Same H H'→H' l=some (.lst (ls.map V.ref))→ls.length=(toldM M).length→(∀ (j:Nat) r t,ls[j]? =some r→(toldM M)[j]? =some t→∃ f,TcO M H' (r,f) t)→Q (.ref l) H'
theorem plc_told {X:Cs}{H:Hp}{T:Tg}{s:Nat}{A:Wa}{M:Wm} (j:WJ X H T s A M):plc (A.cs.map pV)=(toldM M).map (·.1):=by
 have key:∀ i,i < M.cells.length→(decide ((A.cs.map pV)[i]? =some V.non)=true↔(M.cells[i]?).join=none):=fun i hi=>by
  rw [decide_eq_true_iff,List.getElem?_map]
  cases hc:M.cells[i]? with
  | none=>rw [List.getElem?_eq_none_iff] at hc;omega
  | some y=>cases y with
   | none=>rw [j.jc.at0 hc];simp [pV]
   | some c=>
    obtain ⟨p,hp,_⟩:=j.jc.at hc
    rw [hp];simp [pV]
 unfold plc toldM
 rw [List.length_map,j.jc.lc]
 generalize hn:M.cells.length=n at key
 clear hn
 induction n with
 | zero=>rfl
 | succ n ih=>
  rw [List.range_succ,List.filter_append,List.map_append,List.filterMap_append,List.map_append,ih fun i hi=>key i (by omega)]
  congr 1
  have k:=key n (by omega)
  cases hc:(M.cells[n]?).join with
  | none=>
   have:decide ((A.cs.map pV)[n]? =some V.non)=true:=k.mpr hc
   simp only [List.filter_cons,this,Bool.not_true,List.filter_nil,List.filterMap_cons,hc,Option.map_none,List.filterMap_nil]
   rfl
  | some c=>
   have:decide ((A.cs.map pV)[n]? =some V.non)=false:=by
    cases hd:decide ((A.cs.map pV)[n]? =some V.non) with
    | false=>rfl
    | true=>rw [k.mp hd] at hc;cases hc
   simp only [List.filter_cons,this,Bool.not_false,List.filter_nil,List.filterMap_cons,hc,Option.map_some,List.filterMap_nil]
   rfl
theorem told_at {M:Wm}{j:Nat}{t:Int×Ce} (h:(toldM M)[j]? =some t):0≤t.1∧M.cells[t.1.toNat]? =some (some t.2):=by
 have hm:=List.mem_of_getElem? h
 unfold toldM at hm
 obtain ⟨i,hi,e⟩:=List.mem_filterMap.mp hm
 obtain ⟨c,hc,rfl⟩:=Option.map_eq_some_iff.mp e
 refine ⟨by show (0:Int)≤(i:Nat);omega,?_⟩
 show M.cells[((i:Nat):Int).toNat]? =some (some c)
 rw [Int.toNat_natCast]
 cases hx:M.cells[i]? with
 | none=>rw [hx] at hc;cases hc
 | some y=>rw [hx] at hc;rw [show y=some c from hc]
section
variable {K:PySem.W.Frag}{X:Cs}{H:Hp}{Q:VK}{E:XK}{n:St→Hp→Prop}{bk ct:St→Hp→Prop}
theorem inV_ints {i:Int}{l:List Int}:inV (.int i) (l.map V.int)=decide (i∈l):=by
 unfold inV
 induction l with
 | nil=>rfl
 | cons a l ih=>
  rw [List.map_cons,List.any_cons,ih]
  by_cases e:i=a
  ·subst e;simp [eqV]
  ·have e':¬ a=i:=fun z=>e z.symm
   simp [eqV,e,e']
theorem mark_of_rd {wo:Addr}{i:Int} (T:TxW K X) (q:∃ T s A M c,WJ X H T s A M∧A.wo=wo∧0≤i∧M.cells[i.toNat]? =some (some c)∧Q (.str (markM M i c)) H):rd_mark_of K (S_has_sense X) ⟨n,Q,bk,ct⟩ [some (.ref wo),some (.int i),none,none] H:=by
 obtain ⟨Tg,s,A,M,c,j,rfl,h0,hc,q⟩:=q
 obtain ⟨d1,ow⟩:=j.jb.ow
 obtain ⟨d2,os⟩:=j.js.os
 obtain ⟨th,tc,⟨d3,oh⟩,oc⟩:=j.jh
 obtain ⟨p,hp,ce⟩:=j.jc.at hc
 unfold rd_mark_of
 walk_at "ev"
 refine Zaa ow T.cW T.nWs worldF_lk_sweeper ?_
 walk_at "ev"
 refine Zaa ow T.cW T.nWh Zat ?_
 refine Zaa oh T.c.cl_Heap T.c.Zao heapF_lk_cells ?_
 walk_at "ev"
 refine i_ixL (SqL.of oc) (atI_int (v:=.ref p.1) h0 (by rw [List.getElem?_map,hp];rfl)) ?_
 walk_at "ev"
 refine ⟨_,_,rfl,Tg,s,A,M,_,p,c,j,rfl,ce,rfl,?_⟩
 walk_at "ev"
 refine Zaa os T.cS T.n2 sweepF_lk_phase ?_
 walk_at "ev"
 unfold markM at q
 refine ifd (fun z=>?_) (fun z=>?_)
 ·rw [if_pos z] at q
  walk_at "ev"
  exact q
 ·rw [if_neg z] at q
  walk_at "ev"
  refine Zaa os T.cS T.n2 sweepF_lk_phase ?_
  walk_at "ev"
  refine ifd (fun y=>?_) (fun y=>?_)
  ·rw [if_pos y] at q
   walk_at "ev"
   refine ifd (fun x=>?_) (fun x=>?_)
   ·rw [if_pos x] at q
    walk_at "ev"
    exact q
   ·rw [if_neg x] at q
    walk_at "ev"
    exact q
  ·rw [if_neg y] at q
   walk_at "ev"
   refine ifnd (fun x=>?_) (fun x=>?_)
   ·rw [if_neg x] at q
    walk_at "ev"
    exact q
   ·rw [if_pos x] at q
    walk_at "ev"
    refine Zaa os T.cS T.n3 sweepF_lk_grey ?_
    refine ⟨_,_,rfl,.inl (SqL.of j.js.og),rfl,?_,?_⟩
    ·rw [List.all_map,List.all_eq_true]
     intro a _
     rfl
    rw [if_neg (by decide),inV_ints]
    walk_at "ev"
    refine ifd (fun y=>?_) (fun y=>?_)
    ·rw [if_pos y] at q
     walk_at "ev"
     exact q
    ·rw [if_neg y] at q
     walk_at "ev"
     exact q
theorem told_cell_rd {wo:Addr}{i:Int} (T:TxW K X) (q:∃ T s A M c,WJ X H T s A M∧A.wo=wo∧0≤i∧M.cells[i.toNat]? =some (some c)∧c.fl.length≤1000∧∀ a l H',Same H H'→H a=none→TcO M H' (a,l) (i,c)→Q (.ref a) H'):
  rd_told_cell K (S_births_at X) (S_mark_of X) ⟨n,Q,bk,ct⟩ [some (.ref wo),some (.int i),none,none] H:=by
 obtain ⟨Tg,s,A,M,c,j,rfl,h0,hc,hl,q⟩:=q
 obtain ⟨d1,ow⟩:=j.jb.ow
 obtain ⟨th,tc,⟨d3,oh⟩,oc⟩:=j.jh
 obtain ⟨p,hp,ce⟩:=j.jc.at hc
 obtain ⟨t1,t2,⟨dx,o1⟩,o2⟩:=id ce
 unfold rd_told_cell
 walk_at "ev"
 refine Zaa ow T.cW T.nWh Zat ?_
 refine Zaa oh T.c.cl_Heap T.c.Zao heapF_lk_cells ?_
 walk_at "ev"
 refine i_ixL (SqL.of oc) (atI_int (v:=.ref p.1) h0 (by rw [List.getElem?_map,hp];rfl)) ?_
 walk_at "ev"
 refine Zaa ow T.cW T.nWh Zat ?_
 walk_at "ev"
 refine Zaa o1 T.c.cl_Cell T.c.n_Cell_fields cellF_lk_fields ?_
 walk_at "ev"
 refine ⟨_,_,rfl,Tg,s,A,M,c.fl,j,rfl,o2,hl,fun l nl=>?_⟩
 have s1:=same_new nl (.lst ((c.fl.map (bAt M)).map oV))
 have g1:upd H l (.lst ((c.fl.map (bAt M)).map oV)) l=some (.lst ((c.fl.map (bAt M)).map oV)):=upd_same
 generalize upd H l (.lst ((c.fl.map (bAt M)).map oV))=H1 at s1 g1 ⊢
 walk_at "ev"
 refine Zaa (s1 _ _ o1) T.c.cl_Cell T.c.n_Cell_birth cellF_lk_birth ?_
 walk_at "ev"
 refine Zaa (s1 _ _ o1) T.c.cl_Cell T.c.n_Cell_bulk cellF_lk_bulk ?_
 walk_at "ev"
 refine Zaa (s1 _ _ o1) T.c.cl_Cell T.c.n_Cell_load cellF_lk_load ?_
 walk_at "ev"
 refine ⟨_,_,rfl,Tg,s,A,M,c,j.same s1,rfl,h0,hc,?_⟩
 walk_at "ev"
 refine ⟨Zaj (by simp),fun a na=>?_⟩
 have s2:=same_new na (.tup [.int i,.int c.birth,.int c.bulk,.int c.load,.ref l,.str (markM M i c)])
 exact q a l _ (s1.trans s2) (s1.free na) ⟨upd_same,s2 _ _ g1⟩
theorem told_cells_rd {wo:Addr} (T:TxW K X) (q:∃ T s A M,WJ X H T s A M∧A.wo=wo∧M.cells.length≤1000∧(∀ c,some c∈M.cells→c.fl.length≤1000)∧
 ∀ (l:Addr) (ls:List Addr) H',Same H H'→H' l=some (.lst (ls.map V.ref))→ls.length=(toldM M).length→(∀ (j:Nat) r t,ls[j]? =some r→(toldM M)[j]? =some t→∃ f,TcO M H' (r,f) t)→Q (.ref l) H'):
  rd_told_cells K X.H (S_Heap_there X.H) (S_told_cell X) ⟨n,Q,bk,ct⟩ [some (.ref wo)] H:=by
 obtain ⟨Tg,s,A,M,j,rfl,hc,hf,q⟩:=q
 obtain ⟨d1,ow⟩:=j.jb.ow
 obtain ⟨th,tc,⟨d3,oh⟩,oc⟩:=j.jh
 have hl:(toldM M).length≤1000:=by
  have:=List.length_filterMap_le (fun (i:Nat)=>((M.cells[i]?).join).map fun c=>((i:Int),c)) (List.range M.cells.length)
  rw [List.length_range] at this
  exact Nat.le_trans this hc
 unfold rd_told_cells
 walk_at "ev"
 refine i_lcg ?_
 walk_at "ev"
 refine Zaa ow T.cW T.nWh Zat ?_
 refine ⟨A.hp,d3,_,rfl,oh,heapF_no_there,?_⟩
 walk_at "ev"
 refine ⟨_,rfl,_,_,_,_,_,j.hpO,by rw [List.length_map,j.jc.lc];exact hc,fun l0 nl0=>?_⟩
 rw [plc_told j]
 have s1:=same_new nl0 (.lst (((toldM M).map (·.1)).map V.int))
 have g1:upd H l0 (.lst (((toldM M).map (·.1)).map V.int)) l0=some (.lst (((toldM M).map (·.1)).map V.int)):=upd_same
 generalize upd H l0 (.lst (((toldM M).map (·.1)).map V.int))=H1 at s1 g1 ⊢
 refine ⟨_,rfl,⟨_,SqL.of g1⟩,?_⟩
 refine lc_newDL (SqL.of g1) (by rw [List.length_map,List.length_map];omega) (fun i r Hx=>∃ t f,(toldM M)[i]? =some t∧TcO M Hx (r,f) t) (fun _ _ _ _ ⟨t,f,e,z1,z2⟩ s=>⟨t,f,e,s _ _ z1,s _ _ z2⟩) (fun _ _ _ ⟨_,_,_,z,_⟩=>⟨_,z⟩) (fun x H1 q hq=>i_true hq) (fun i x H2 hi s2 q' hq=>?_) ?_
 ·rw [List.getElem?_map,List.getElem?_map] at hi
  cases ht:(toldM M)[i]? with
  | none=>rw [ht] at hi;cases hi
  | some t=>
   rw [ht] at hi
   cases hi
   obtain ⟨t0,tc'⟩:=told_at ht
   walk_at "caps"
   walk_at "ev"
   refine ⟨_,_,rfl,Tg,s,A,M,t.2,j.same (s1.trans s2),rfl,t0,tc',hf _ (List.mem_of_getElem? tc'),fun a l H3 s3 na tco=>?_⟩
   exact hq a H3 s3 na ⟨t,l,ht,tco⟩
 ·intro rs H' s2 hl2 _ _ hr p hp
  have s3:=same_new hp (.lst (rs.map V.ref))
  refine q p rs _ (s1.trans (s2.trans s3)) upd_same (by rw [hl2,List.length_map,List.length_map]) fun k r t e1 e2=>?_
  obtain ⟨t',f,e3,z1,z2⟩:=hr k r e1
  rw [e2] at e3
  cases e3
  exact ⟨f,s3 _ _ z1,s3 _ _ z2⟩
end
def okP (d:Deed):Prop:=isMake d∨isGet d∨isPut d∨isWrite d∨isRead d∨isName d∨isSeek d
abbrev S_doP (X:Cs) (rf:Rf→Addr):Sp:=S_deed X rf okP
section
variable {K:PySem.W.Frag}{X:Cs}{H:Hp}{Q:VK}{E:XK}{n:St→Hp→Prop}{bk ct:St→Hp→Prop}{rf:Rf→Addr}{f_do_copy f_do_drop f_do_get f_do_give f_do_make f_do_name f_do_put f_do_read f_do_seek f_do_write:Addr}
theorem do_rd {wo dd:Addr} (T:TxW K X) (q:DeedQ X rf okP wo dd H Q E):
  rd_do K f_do_copy f_do_drop f_do_get f_do_give f_do_make f_do_name f_do_put f_do_read f_do_seek f_do_write (S_deed X rf isGet) (S_deed X rf isMake) (S_deed X rf isName) (S_deed X rf isPut) (S_deed X rf isRead) (S_deed X rf isSeek) (S_deed X rf isWrite) E ⟨n,Q,bk,ct⟩ [some (.ref wo),some (.ref dd),none] H:=by
 obtain ⟨Tg,s,A,M,d,hP,w,s0,j,rfl,od,r⟩:=q
 unfold rd_do
 rcases hP with ⟨x0,x1,x2,x3,rfl⟩ | ⟨x0,x1,x2,x3,rfl⟩ | ⟨x0,x1,x2,x3,rfl⟩ | ⟨x0,x1,x2,rfl⟩ | ⟨x0,x1,rfl⟩ | ⟨x0,x1,x2,rfl⟩ | ⟨x0,x1,x2,rfl⟩
 ·walk_at "ev"
  refine ⟨dd,_,0,_,rfl,rfl,SqT.of od,rfl,?_⟩
  refine ⟨_,f_do_make,rfl,rfl,?_⟩
  walk_at "ev"
  refine i_callT (S_deed X rf isMake) rfl (by simp) ?_
  walk_at "ev"
  exact ⟨_,_,rfl,Tg,s,A,M,_,⟨_,_,_,_,rfl⟩,w,s0,j,rfl,od,r⟩
 ·walk_at "ev"
  refine ⟨dd,_,0,_,rfl,rfl,SqT.of od,rfl,?_⟩
  refine ⟨_,f_do_get,rfl,rfl,?_⟩
  walk_at "ev"
  refine i_callT (S_deed X rf isGet) rfl (by simp) ?_
  walk_at "ev"
  exact ⟨_,_,rfl,Tg,s,A,M,_,⟨_,_,_,_,rfl⟩,w,s0,j,rfl,od,r⟩
 ·walk_at "ev"
  refine ⟨dd,_,0,_,rfl,rfl,SqT.of od,rfl,?_⟩
  refine ⟨_,f_do_put,rfl,rfl,?_⟩
  walk_at "ev"
  refine i_callT (S_deed X rf isPut) rfl (by simp) ?_
  walk_at "ev"
  exact ⟨_,_,rfl,Tg,s,A,M,_,⟨_,_,_,_,rfl⟩,w,s0,j,rfl,od,r⟩
 ·walk_at "ev"
  refine ⟨dd,_,0,_,rfl,rfl,SqT.of od,rfl,?_⟩
  refine ⟨_,f_do_write,rfl,rfl,?_⟩
  walk_at "ev"
  refine i_callT (S_deed X rf isWrite) rfl (by simp) ?_
  walk_at "ev"
  exact ⟨_,_,rfl,Tg,s,A,M,_,⟨_,_,_,rfl⟩,w,s0,j,rfl,od,r⟩
 ·walk_at "ev"
  refine ⟨dd,_,0,_,rfl,rfl,SqT.of od,rfl,?_⟩
  refine ⟨_,f_do_read,rfl,rfl,?_⟩
  walk_at "ev"
  refine i_callT (S_deed X rf isRead) rfl (by simp) ?_
  walk_at "ev"
  exact ⟨_,_,rfl,Tg,s,A,M,_,⟨_,_,rfl⟩,w,s0,j,rfl,od,r⟩
 ·walk_at "ev"
  refine ⟨dd,_,0,_,rfl,rfl,SqT.of od,rfl,?_⟩
  refine ⟨_,f_do_name,rfl,rfl,?_⟩
  walk_at "ev"
  refine i_callT (S_deed X rf isName) rfl (by simp) ?_
  walk_at "ev"
  exact ⟨_,_,rfl,Tg,s,A,M,_,⟨_,_,_,rfl⟩,w,s0,j,rfl,od,r⟩
 ·walk_at "ev"
  refine ⟨dd,_,0,_,rfl,rfl,SqT.of od,rfl,?_⟩
  refine ⟨_,f_do_seek,rfl,rfl,?_⟩
  walk_at "ev"
  refine i_callT (S_deed X rf isSeek) rfl (by simp) ?_
  walk_at "ev"
  exact ⟨_,_,rfl,Tg,s,A,M,_,⟨_,_,_,rfl⟩,w,s0,j,rfl,od,r⟩
end
def Sm (H:Hp):Nat→V→V→Prop
 | 0,x,y=>x=y∧flatV x=true
 | d + 1,x,y=>(x=y∧flatV x=true)∨∃ a b xs ys,x=.ref a∧y=.ref b∧((H a=some (.lst xs)∧H b=some (.lst ys))∨(H a=some (.tup xs)∧H b=some (.tup ys)))∧xs.length≤1000000∧G.Al (Sm H d) xs ys
def S_same (d:Nat):Sp:=fun vs H Q E=>∃ x y,vs=[x,y]∧Sm H d x y∧Q (.bl true) H
def S_never:Sp:=fun vs H Q E=>∃ x y:V,vs=[x,y]∧False
section
variable {K:PySem.W.Frag}{H:Hp}{Q:VK}{n:St→Hp→Prop}{bk ct:St→Hp→Prop}
theorem same_flat {sp:Sp}{x:V} (hf:flatV x=true) (q:Q (.bl true) H):rd__law_same K sp ⟨n,Q,bk,ct⟩ [some x,some x,none] H:=by
 unfold rd__law_same
 cases x with
 | non=>
  walk_at "ev"
  exact q
 | bl b=>
  walk_at "ev"
  cases b with
  | true=>
   refine i_iteT ?_
   walk_at "ev"
   exact q
  | false=>
   refine i_iteF ?_
   walk_at "ev"
   refine i_iteT ?_
   walk_at "ev"
   exact q
 | int i=>
  walk_at "ev"
  refine i_iteF ?_
  walk_at "ev"
  refine i_iteF ?_
  walk_at "ev"
  rw [decide_eq_true rfl]
  exact q
 | str z=>
  walk_at "ev"
  refine i_iteF ?_
  walk_at "ev"
  refine i_iteF ?_
  walk_at "ev"
  rw [decide_eq_true rfl]
  exact q
 | _=>exact absurd (show false=true from hf) Bool.false_ne_true
theorem same_seq {sp:Sp}{a b:Addr}{xs ys:List V} (hl:xs.length=ys.length) (h1000:xs.length≤1000000) (hab:(H a=some (.lst xs)∧H b=some (.lst ys))∨(H a=some (.tup xs)∧H b=some (.tup ys)))
  (hs:∀ (i:Nat) (x y:V),xs[i]? =some x→ys[i]? =some y→∀ Q' E',Q' (.bl true) H→sp [x,y] H Q' E') (q:Q (.bl true) H):rd__law_same K sp ⟨n,Q,bk,ct⟩ [some (.ref a),some (.ref b),none] H:=by
 unfold rd__law_same
 walk_at "ev"
 refine i_iteF ?_
 walk_at "ev"
 refine i_iteF ?_
 walk_at "ev"
 have lp:∀ (T:TE),True:=fun _=>trivial
 rcases hab with ⟨ha,hb⟩ | ⟨ha,hb⟩
 ·refine i_isiL_int hb ?_
  walk_at "ev"
  refine i_isiL_str hb ?_
  walk_at "ev"
  refine i_isiL_list hb ?_
  walk_at "ev"
  refine i_isiL_list ha ?_
  walk_at "ev"
  refine i_isiL_tuple hb ?_
  walk_at "ev"
  refine i_lenL (SqL.of ha) ?_
  walk_at "ev"
  refine i_lenL (SqL.of hb) ?_
  walk_at "ev"
  rw [hl]
  refine ifnd (fun z=>absurd rfl z) (fun _=>?_)
  walk_at "ev"
  refine i_lenL (SqL.of hb) ?_
  walk_at "ev"
  refine ⟨_,rfl,by omega,by omega,?_⟩
  refine forR (fun _ σ Hx=>∃ v,σ=[some (.ref a),some (.ref b),v]∧Hx=H) ⟨_,rfl,rfl⟩ ?_ ?_
  ·rintro i σ Hx hi ⟨v,rfl,rfl⟩
   have e0:(0:Int) + (i:Int)=i:=by omega
   rw [e0]
   have hy:i < ys.length:=by omega
   have hx:i < xs.length:=by omega
   walk_at "ev"
   refine .inl (i_ixL (SqL.of ha) (atI_nat (List.getElem?_eq_getElem hx)) ?_)
   walk_at "ev"
   refine .inl (i_ixL (SqL.of hb) (atI_nat (List.getElem?_eq_getElem hy)) ?_)
   walk_at "ev"
   refine hs i _ _ (List.getElem?_eq_getElem hx) (List.getElem?_eq_getElem hy) _ _ ?_
   walk_at "ev"
   exact ⟨_,rfl,rfl⟩
  ·rintro σ Hx ⟨v,rfl,rfl⟩
   walk_at "ev"
   exact q
 ·refine i_isiT_int hb ?_
  walk_at "ev"
  refine i_isiT_str hb ?_
  walk_at "ev"
  refine i_isiT_list hb ?_
  walk_at "ev"
  refine i_isiT_tuple hb ?_
  walk_at "ev"
  refine i_isiT_tuple ha ?_
  walk_at "ev"
  refine ⟨a,xs,rfl,.inr (SqT.of ha),?_⟩
  walk_at "ev"
  refine ⟨b,ys,rfl,.inr (SqT.of hb),?_⟩
  walk_at "ev"
  rw [hl]
  refine ifnd (fun z=>absurd rfl z) (fun _=>?_)
  walk_at "ev"
  refine ⟨b,ys,rfl,.inr (SqT.of hb),?_⟩
  walk_at "ev"
  refine ⟨_,rfl,by omega,by omega,?_⟩
  refine forR (fun _ σ Hx=>∃ v,σ=[some (.ref a),some (.ref b),v]∧Hx=H) ⟨_,rfl,rfl⟩ ?_ ?_
  ·rintro i σ Hx hi ⟨v,rfl,rfl⟩
   have e0:(0:Int) + (i:Int)=i:=by omega
   rw [e0]
   have hy:i < ys.length:=by omega
   have hx:i < xs.length:=by omega
   walk_at "ev"
   refine .inr (.inl ⟨a,xs,i,_,rfl,rfl,SqT.of ha,atI_nat (List.getElem?_eq_getElem hx),?_⟩)
   walk_at "ev"
   refine .inr (.inl ⟨b,ys,i,_,rfl,rfl,SqT.of hb,atI_nat (List.getElem?_eq_getElem hy),?_⟩)
   walk_at "ev"
   refine hs i _ _ (List.getElem?_eq_getElem hx) (List.getElem?_eq_getElem hy) _ _ ?_
   walk_at "ev"
   exact ⟨_,rfl,rfl⟩
  ·rintro σ Hx ⟨v,rfl,rfl⟩
   walk_at "ev"
   exact q
theorem _law_same_rd0 {x y:V} (q:Sm H 0 x y∧Q (.bl true) H):rd__law_same K S_never ⟨n,Q,bk,ct⟩ [some x,some y,none] H:=by
 obtain ⟨⟨rfl,hf⟩,q⟩:=q
 exact same_flat hf q
theorem _law_same_rd {d:Nat}{x y:V} (q:Sm H (d + 1) x y∧Q (.bl true) H):rd__law_same K (S_same d) ⟨n,Q,bk,ct⟩ [some x,some y,none] H:=by
 obtain ⟨h | ⟨a,b,xs,ys,rfl,rfl,hab,hz,al⟩,q⟩:=q
 ·obtain ⟨rfl,hf⟩:=h
  exact same_flat hf q
 ·refine same_seq al.length hz hab (fun i x y e1 e2 Q' E' hq=>?_) q
  obtain ⟨x',e3,hs⟩:=al.get e2
  rw [e1] at e3
  cases e3
  exact ⟨x,y,rfl,hs,hq⟩
end
structure Rw (H:Hp) (T:Tg) (lr:Addr) (rs:List Addr) (rows:List (List (Option Int))):Prop where
 tl:T lr=(2,0)
 ol:H lr=some (.lst (rs.map V.ref))
 ln:rs.length=rows.length
 at_:∀ (j:Nat) r x,rs[j]? =some r→rows[j]? =some x→T r=(2,1 + j)∧H r=some (.lst (x.map oV))
section
variable {H H':Hp}{T T':Tg}{lr:Addr}{rs:List Addr}{rows:List (List (Option Int))}
end
theorem flat_oV (x:Option Int):flatV (oV x)=true:=by cases x<;>rfl
theorem sm_flat {H:Hp}{d:Nat}{x:V} (h:flatV x=true):Sm H d x x:=by
 cases d with
 | zero=>exact ⟨rfl,h⟩
 | succ d=>exact .inl ⟨rfl,h⟩
theorem sm_flats {H:Hp}{d:Nat}:∀ {xs:List V},xs.all flatV=true→Al (Sm H d) xs xs
 | [],_=>.nil
 | x :: xs,h=>by
  rw [List.all_cons,Bool.and_eq_true] at h
  exact .cons (sm_flat h.1) (sm_flats h.2)
theorem all_oV (l:List (Option Int)):(l.map oV).all flatV=true:=by
 rw [List.all_eq_true]
 intro x hx
 obtain ⟨i,_,rfl⟩:=List.mem_map.mp hx
 exact flat_oV i
theorem al_of {α β:Type}{P:α→β→Prop}:∀ {xs:List α}{ys:List β},xs.length=ys.length→(∀ (i:Nat) x y,xs[i]? =some x→ys[i]? =some y→P x y)→Al P xs ys
 | [],[],_,_=>.nil
 | [],_ :: _,h,_=>by simp at h
 | _ :: _,[],h,_=>by simp at h
 | x :: xs,y :: ys,h,p=>.cons (p 0 x y rfl rfl) (al_of (by simpa using h) fun i a b h1 h2=>p (i + 1) a b (by simpa using h1) (by simpa using h2))
theorem sm_rows {H:Hp}{l lr:Addr}{ls rs:List Addr}{rows:List (List (Option Int))} (h1:H l=some (.lst (ls.map V.ref))) (h2:H lr=some (.lst (rs.map V.ref))) (n1:ls.length=rows.length) (n2:rs.length=rows.length) (hb:rows.length≤1000) (hr:∀ x∈rows,x.length≤1000)
  (g1:∀ (j:Nat) r x,ls[j]? =some r→rows[j]? =some x→H r=some (.lst (x.map oV))) (g2:∀ (j:Nat) r x,rs[j]? =some r→rows[j]? =some x→H r=some (.lst (x.map oV))):Sm H 3 (.ref l) (.ref lr):=by
 refine .inr ⟨l,lr,_,_,rfl,rfl,.inl ⟨h1,h2⟩,by rw [List.length_map];omega,al_of (by rw [List.length_map,List.length_map];omega) fun i x y e1 e2=>?_⟩
 rw [List.getElem?_map] at e1 e2
 cases c1:ls[i]? with
 | none=>rw [c1] at e1;cases e1
 | some r1=>
  cases c2:rs[i]? with
  | none=>rw [c2] at e2;cases e2
  | some r2=>
   rw [c1] at e1
   rw [c2] at e2
   cases e1
   cases e2
   have hi:i < rows.length:=by rw [← n1];exact (List.getElem?_eq_some_iff.mp c1).1
   refine .inr ⟨r1,r2,_,_,rfl,rfl,.inl ⟨g1 i r1 _ c1 (List.getElem?_eq_getElem hi),g2 i r2 _ c2 (List.getElem?_eq_getElem hi)⟩,?_,sm_flats (all_oV _)⟩
   rw [List.length_map]
   have:=hr _ (List.getElem_mem hi)
   omega
theorem okS_set {M:Wm}{h s g t:Nat}{x:Option Int} (o:okS M h s):okS (setSlot M g t x) h s:=by
 obtain ⟨m,hm,hl⟩:=o
 by_cases z:g=h
 ·subst z
  exact ⟨(m.1,m.2.set t x),by rw [setSlot_hands hm,List.getElem?_set_self (List.getElem?_eq_some_iff.mp hm).1],by rw [List.length_set];exact hl⟩
 ·refine ⟨m,?_,hl⟩
  show (M.hands.modify g _)[h]? =_
  rw [List.getElem?_modify]
  simp [z,hm]
def atBegin (w:Int) (h:Nat):Int:=if w=0 then 2 ^ h - 1 else 0
def beginM (M:Wm):Wm:={ M with sw:={ M.sw with sense:=1 - M.sw.sense,phase:="walk",grey:=[],looked:=atBegin M.w M.hands.length,turn:=M.sw.turn + 1,walks:=0,looks:=0,passes:=0 } }
def S_all_of:Sp:=fun vs H Q E=>∃ h,vs=[.int h]∧0≤h∧h≤30∧Q (.int (2 ^ h.toNat - 1)) H
def S_at_begin (k:Nat):Sp:=fun vs H Q E=>∃ a h,vs=[.ref a,.int h]∧0≤h∧h≤30∧Q (.int (if k=0 then 2 ^ h.toNat - 1 else 0)) H
def S_begin (X:Cs):Sp:=fun vs H Q E=>∃ wo,vs=[.ref wo]∧∃ T s A M,WT H T∧s≠0∧WJ X H T s A M∧A.wo=wo∧∀ H' T' A',Stp s H H' T T'→WJ X H' T' s A' (beginM M)→A'.wo=wo→Q .non H'
section
variable {X:Cs}{H H':Hp}{T T':Tg}{s:Nat}{A:Wa}{M:Wm}
theorem WJ.newgrey (j:WJ X H T s A M) (w:WT H T) (h0:s≠0) {dx l:Addr} (S:Sw) (hl:H l=none) (e9:S.grey=[]):
  Stp s H (upd (upd H l (.lst [])) A.sw (.ins X.S dx (sweepF S.sense S.phase l S.looked S.turn S.at' S.stop S.walks S.looks S.passes S.loss))) T (setT T l (s,8))∧
  WJ X (upd (upd H l (.lst [])) A.sw (.ins X.S dx (sweepF S.sense S.phase l S.looked S.turn S.at' S.stop S.walks S.looks S.passes S.loss))) (setT T l (s,8)) s { A with gr:=l } { M with sw:=S }:=by
 obtain ⟨ts,tg,⟨dd,os⟩,og⟩:=id j.js
 have nls:l≠A.sw:=(ne_of_none os hl).symm
 have w1:WT (upd H l (.lst [])) (setT T l (s,8)):=wt_set (w.same (same_new hl _)) upd_same
 have st1:Stp s H (upd H l (.lst [])) T (setT T l (s,8)):=⟨fun b o h _=>(same_new hl _) _ _ h,fun b o h=>⟨o,(same_new hl _) _ _ h⟩,fun b o h=>setT_ne (ne_of_none h hl),w1⟩
 have j1:WJ X (upd H l (.lst [])) (setT T l (s,8)) s A M:=j.fresh hl
 obtain ⟨ts1,tg1,⟨dd1,os1⟩,og1⟩:=id j1.js
 refine ⟨st1.trans (Stp.upd w1 os1 (by rw [ts1])),?_⟩
 have f:Frm s (·=7) (upd H l (.lst [])) (upd (upd H l (.lst [])) A.sw (.ins X.S dx (sweepF S.sense S.phase l S.looked S.turn S.at' S.stop S.walks S.looks S.passes S.loss))) (setT T l (s,8)) (setT T l (s,8)):=Frm.of_upd ts1
 have b1:=j1.jb.mv f (f0_upd h0 ts1) (by omega) (by omega)
 have b2:=j1.jh.mv f (by omega) (by omega)
 have b3:=j1.jn.mv f (f0_upd h0 ts1) (by omega)
 have b5:=j1.jd.mv f fun _ _ _=>by omega
 have b6:=j1.jc.mv f fun _ _=>by omega
 obtain ⟨x1,x2,x3,x4,x5,x6,x7,x8⟩:=b1
 obtain ⟨y1,y2,y3,y4⟩:=b2
 obtain ⟨z1,z2,z3⟩:=b3
 exact ⟨⟨x1,x2,x3,x4,x5,x6,x7,x8⟩,⟨y1,y2,y3,y4⟩,⟨z1,z2,z3⟩,⟨ts1,setT_same,⟨dx,upd_same⟩,by rw [upd_ne nls,upd_same,e9];rfl⟩,b5,b6⟩
end
section
variable {K:PySem.W.Frag}{X:Cs}{H:Hp}{Q:VK}{E:XK}{n:St→Hp→Prop}{bk ct:St→Hp→Prop}
theorem cpow1 {j:Int} (h0:0≤j) (h1:j≤1000):CPow 1 j:=⟨h0,by omega,by decide⟩
theorem all_of_rd {h:Int} (q:0≤h∧h≤30∧Q (.int (2 ^ h.toNat - 1)) H):rd_all_of ⟨n,Q,bk,ct⟩ [some (.int h)] H:=by
 obtain ⟨h0,h1,q⟩:=q
 unfold rd_all_of
 walk_at "ev"
 refine ⟨_,_,rfl,rfl,cpow1 h0 (by omega),?_⟩
 walk_at "ev"
 rw [Int.one_mul]
 exact q
theorem Looking_at_begin_rd {a:Addr}{h:Int} (q:0≤h∧h≤30∧Q (.int (if (1:Nat)=0 then 2 ^ h.toNat - 1 else 0)) H):rd_Looking_at_begin ⟨n,Q,bk,ct⟩ [some (.ref a),some (.int h)] H:=by
 unfold rd_Looking_at_begin
 walk_at "ev"
 exact q.2.2
theorem First_at_begin_rd {a:Addr}{h:Int} (q:0≤h∧h≤30∧Q (.int (if (0:Nat)=0 then 2 ^ h.toNat - 1 else 0)) H):rd_First_at_begin S_all_of ⟨n,Q,bk,ct⟩ [some (.ref a),some (.int h)] H:=by
 obtain ⟨h0,h1,q⟩:=q
 unfold rd_First_at_begin
 walk_at "ev"
 exact ⟨h,rfl,h0,h1,q⟩
theorem begin_rd {wo:Addr} (Tx:TxW K X) (q:∃ T s A M,WT H T∧s≠0∧WJ X H T s A M∧A.wo=wo∧∀ H' T' A',Stp s H H' T T'→WJ X H' T' s A' (beginM M)→A'.wo=wo→Q .non H'):
  rd_begin K X.E X.F X.L (S_at_begin 0) (S_at_begin 1) ⟨fun _ H'=>Q .non H',Q,bk,ct⟩ [some (.ref wo),none] H:=by
 obtain ⟨T,s,A,M,w,h0,j,rfl,q⟩:=q
 obtain ⟨dw,ow⟩:=j.jb.ow
 obtain ⟨ds,os⟩:=j.js.os
 obtain ⟨dk,ok⟩:=j.jb.ok
 obtain ⟨dl,ol⟩:=j.jb.ol
 have on:=j.jb.on
 have lh:=j.jd.lh
 have l5:=j.jd.l5
 unfold rd_begin
 walk_at "ev"
 refine Zaa ow Tx.cW Tx.nWs worldF_lk_sweeper ?_
 walk_at "ev"
 refine Zaa os Tx.cS Tx.n1 sweepF_lk_sense ?_
 walk_at "ev"
 refine ⟨A.sw,X.S,ds,_,rfl,os,Tx.cS,Tx.n1,by show 11 < 1000;decide,?_⟩
 rw [sweepF_put_sense]
 walk_at "ev"
 refine Zaa upd_same Tx.cS Tx.n5 sweepF_lk_turn ?_
 walk_at "ev"
 refine ⟨A.sw,X.S,ds,_,rfl,upd_same,Tx.cS,Tx.n5,by show 11 < 1000;decide,?_⟩
 rw [sweepF_put_turn,upd_upd]
 walk_at "ev"
 refine ⟨A.sw,X.S,ds,_,rfl,upd_same,Tx.cS,Tx.n2,by show 11 < 1000;decide,?_⟩
 rw [sweepF_put_phase,upd_upd]
 walk_at "ev"
 refine ⟨by decide,fun gr hgr=>?_⟩
 have nsg:A.sw≠gr:=ne_of_none upd_same hgr
 have hgr0:H gr=none:=by rw [upd_ne nsg.symm] at hgr;exact hgr
 walk_at "ev"
 refine ⟨A.sw,X.S,ds,_,rfl,by rw [upd_ne nsg];exact upd_same,Tx.cS,Tx.n3,by show 11 < 1000;decide,?_⟩
 rw [sweepF_put_grey]
 have sw2:∀ (a b:HO) (o:HO),upd (upd (upd H A.sw a) gr o) A.sw b=upd (upd H gr o) A.sw b:=fun a b o=>by
  funext x
  by_cases z:x=A.sw
  ·rw [z,upd_same,upd_same]
  ·rw [upd_ne z,upd_ne z]
   by_cases y:x=gr
   ·rw [y,upd_same,upd_same]
   ·rw [upd_ne y,upd_ne y,upd_ne z]
 rw [sw2]
 have fin:∀ {lo:Int}{σ:St},σ=[some (.ref A.wo),some (.ref A.sw)]→lo=atBegin M.w M.hands.length→∀ (H3:Hp),H3=upd (upd H gr (.lst [])) A.sw (.ins X.S ds (sweepF (1 - M.sw.sense) "walk" gr M.sw.looked (M.sw.turn + 1) M.sw.at' M.sw.stop M.sw.walks M.sw.looks M.sw.passes M.sw.loss))→
   (∃ a C dx fs,V.ref A.sw=.ref a∧H3 a=some (.ins C dx fs)∧Cls K C∧NoAttr K C "looked"∧fs.length < 1000∧(tSeq (sFld K (tVar 1) (tC (.int 0)) "walks") (tSeq (sFld K (tVar 1) (tC (.int 0)) "looks") (sFld K (tVar 1) (tC (.int 0)) "passes"))) ⟨fun _ H'=>Q .non H',Q,bk,ct⟩ σ (upd H3 a (.ins C dx (putF "looked" (.int lo) fs)))):=by
  rintro lo σ rfl elo H3 rfl
  refine ⟨A.sw,X.S,ds,_,rfl,upd_same,Tx.cS,Tx.n4,by show 11 < 1000;decide,?_⟩
  rw [sweepF_put_looked,upd_upd]
  walk_at "ev"
  refine ⟨A.sw,X.S,ds,_,rfl,upd_same,Tx.cS,Tx.n8,by show 11 < 1000;decide,?_⟩
  rw [sweepF_put_walks,upd_upd]
  walk_at "ev"
  refine ⟨A.sw,X.S,ds,_,rfl,upd_same,Tx.cS,Tx.n9,by show 11 < 1000;decide,?_⟩
  rw [sweepF_put_looks,upd_upd]
  walk_at "ev"
  refine ⟨A.sw,X.S,ds,_,rfl,upd_same,Tx.cS,Tx.n10,by show 11 < 1000;decide,?_⟩
  rw [sweepF_put_passes,upd_upd]
  obtain ⟨st,j'⟩:=j.newgrey w h0 (dx:=ds) (l:=gr) { M.sw with sense:=1 - M.sw.sense,phase:="walk",grey:=[],looked:=atBegin M.w M.hands.length,turn:=M.sw.turn + 1,walks:=0,looks:=0,passes:=0 } hgr0 rfl
  subst elo
  exact q _ _ _ st j' rfl
 have kp:∀ b o,H b=some o→b≠A.sw→upd (upd H gr (.lst [])) A.sw (.ins X.S ds (sweepF (1 - M.sw.sense) "walk" gr M.sw.looked (M.sw.turn + 1) M.sw.at' M.sw.stop M.sw.walks M.sw.looks M.sw.passes M.sw.loss)) b=some o:=fun b o hb nb=>by
  rw [upd_ne nb,upd_ne (ne_of_none hb hgr0)];exact hb
 have dS:∀ {a:Addr}{C d:Addr}{fs:List (Str×V)},H a=some (.ins C d fs)→fs.length < 11→a≠A.sw:=fun e hl z=>by
  rw [z,os] at e
  have:=Option.some.inj e
  injection this with _ _ e3
  rw [← e3] at hl
  exact absurd hl (by show ¬ 11 < 11;decide)
 have ow3:=kp _ _ ow (dS ow (by show 5 < 11;decide))
 have ok3:=kp _ _ ok (dS ok (by show 2 < 11;decide))
 have on3:=kp _ _ on (ne_of on os (fun z=>by cases z))
 generalize hH3:upd (upd H gr (.lst [])) A.sw (.ins X.S ds (sweepF (1 - M.sw.sense) "walk" gr M.sw.looked (M.sw.turn + 1) M.sw.at' M.sw.stop M.sw.walks M.sw.looks M.sw.passes M.sw.loss))=H3 at kp ow3 ok3 on3 ⊢
 have lenH:((A.hs.map fun p=>V.ref p.1).length:Int)=(M.hands.length:Int):=by rw [List.length_map,lh]
 refine i_seq ?_
 walk_at "es"
 rcases ol with ⟨ew,o⟩ | ⟨ew,o⟩ | ⟨ew,o⟩
 ·have o3:=kp _ _ o (dS o (by show 0 < 11;decide))
  refine i_orL ?_
  walk_at "es"
  refine Zaa ow3 Tx.cW Tx.nWk worldF_lk_kind ?_
  refine Zaa ok3 Tx.cK Tx.nKl kindF_lk_looking ?_
  walk_at "es"
  refine ⟨A.lk,dl,_,rfl,o3,rfl,?_⟩
  walk_at "es"
  refine Zaa ow3 Tx.cW Tx.nWd worldF_lk_hands ?_
  walk_at "es"
  refine i_lenL (SqL.of on3) ?_
  rw [lenH]
  walk_at "es"
  refine ⟨A.lk,_,rfl,by omega,by omega,?_⟩
  walk_at "es"
  exact fin rfl (by unfold atBegin;rw [if_pos ew,if_pos rfl,Int.toNat_natCast]) _ hH3.symm
 ·have o3:=kp _ _ o (dS o (by show 0 < 11;decide))
  refine i_orR (i_orL ?_)
  walk_at "es"
  refine Zaa ow3 Tx.cW Tx.nWk worldF_lk_kind ?_
  refine Zaa ok3 Tx.cK Tx.nKl kindF_lk_looking ?_
  walk_at "es"
  refine ⟨A.lk,dl,_,rfl,o3,rfl,?_⟩
  walk_at "es"
  refine Zaa ow3 Tx.cW Tx.nWd worldF_lk_hands ?_
  walk_at "es"
  refine i_lenL (SqL.of on3) ?_
  rw [lenH]
  walk_at "es"
  refine ⟨A.lk,_,rfl,by omega,by omega,?_⟩
  walk_at "es"
  exact fin rfl (by unfold atBegin;rw [if_neg (show ¬ (1:Nat)=0 by decide),if_neg (by omega)]) _ hH3.symm
 ·have o3:=kp _ _ o (dS o (by show 0 < 11;decide))
  refine i_orR (i_orR ?_)
  walk_at "es"
  refine Zaa ow3 Tx.cW Tx.nWk worldF_lk_kind ?_
  refine Zaa ok3 Tx.cK Tx.nKl kindF_lk_looking ?_
  walk_at "es"
  refine ⟨A.lk,dl,_,rfl,o3,rfl,?_⟩
  walk_at "es"
  refine Zaa ow3 Tx.cW Tx.nWd worldF_lk_hands ?_
  walk_at "es"
  refine i_lenL (SqL.of on3) ?_
  rw [lenH]
  walk_at "es"
  refine ⟨A.lk,_,rfl,by omega,by omega,?_⟩
  walk_at "es"
  exact fin rfl (by unfold atBegin;rw [if_neg (show ¬ (1:Nat)=0 by decide),if_neg (by omega)]) _ hH3.symm
end
def zK (ks:List Str) (vs:List V):List (L2.Key×V):=List.zipWith (fun z v=>((Sum.inr z:L2.Key),v)) ks vs
theorem zget {k:Str}{v:V}:∀ {ks:List Str}{vs:List V}{i:Nat},ks[i]? =some k→((ks.take i).all fun z=>!decide (z=k))=true→vs[i]? =some v→valV (zK ks vs) (Sum.inr k)=some v
 | [],_,_,h,_,_=>by simp at h
 | _ :: _,[],_,_,_,h=>by simp at h
 | a :: ks,b :: vs,0,h1,_,h3=>by
  have e1:a=k:=by simpa using h1
  have e3:b=v:=by simpa using h3
  subst e1 e3
  exact valV_pos (p:=((Sum.inr a:L2.Key),b)) rfl
 | a :: ks,b :: vs,i + 1,h1,h2,h3=>by
  rw [List.take_succ_cons,List.all_cons,Bool.and_eq_true] at h2
  have ne:¬ a=k:=by simpa using h2.1
  refine (valV_neg (p:=((Sum.inr a:L2.Key),b)) (fun e=>ne (Sum.inr.inj e))).trans ?_
  exact zget (by simpa using h1) h2.2 (by simpa using h3)
theorem znone {k:Str}:∀ {ks:List Str}{vs:List V},(ks.all fun z=>!decide (z=k))=true→valV (zK ks vs) (Sum.inr k)=none
 | [],_,_=>rfl
 | _ :: _,[],_=>rfl
 | a :: ks,b :: vs,h=>by
  rw [List.all_cons,Bool.and_eq_true] at h
  have ne:¬ a=k:=by simpa using h.1
  exact (valV_neg (p:=((Sum.inr a:L2.Key),b)) (fun e=>ne (Sum.inr.inj e))).trans (znone h.2)
theorem zput {ks:List Str}{vs:List V}{k:Str}{v:V} (hl:ks.length=vs.length) (h:(ks.all fun z=>!decide (z=k))=true):putK (zK ks vs) (Sum.inr k) v=zK (ks ++ [k]) (vs ++ [v]):=by
 rw [putK_new _ (znone h)]
 unfold zK
 rw [List.zipWith_append hl]
 rfl
theorem zlast {ks:List Str}{vs:List V}{k:Str}{v0 v:V} (hl:ks.length=vs.length) (h:(ks.all fun z=>!decide (z=k))=true):putK (zK (ks ++ [k]) (vs ++ [v0])) (Sum.inr k) v=zK (ks ++ [k]) (vs ++ [v]):=by
 have e0:zK (ks ++ [k]) (vs ++ [v0])=zK ks vs ++ [((Sum.inr k:L2.Key),v0)]:=by unfold zK;rw [List.zipWith_append hl];rfl
 have e1:zK (ks ++ [k]) (vs ++ [v])=zK ks vs ++ [((Sum.inr k:L2.Key),v)]:=by unfold zK;rw [List.zipWith_append hl];rfl
 have hn:=valV_not (znone (vs:=vs) h)
 rw [e0,e1]
 unfold putK
 rw [if_pos (by simp)]
 rw [List.map_append]
 congr 1
 ·refine (List.map_congr_left (g:=id) fun kv hkv=>?_).trans (List.map_id _)
  rw [if_neg (fun e=>hn (List.mem_map.mpr ⟨kv,hkv,e⟩))];rfl
 ·simp
theorem zrd {H:Hp}{d:Addr}{ks:List Str}{vs:List V}{k:Str}{v:V}{i:Nat} (hd:H d=some (.dK (zK ks vs))) (h1:ks[i]? =some k) (h2:((ks.take i).all fun z=>!decide (z=k))=true) (h3:vs[i]? =some v):DGet H d (.str k) (some v):=by
 have:=DGet.k (k:=Sum.inr k) hd
 rw [zget h1 h2 h3] at this
 exact this
theorem zwr {H:Hp}{d:Addr}{ks:List Str}{vs:List V}{k:Str}{v:V} (hd:H d=some (.dK (zK ks vs))) (hl:ks.length=vs.length) (h20:ks.length≤20) (h:(ks.all fun z=>!decide (z=k))=true):DPut H d (.str k) v (upd H d (.dK (zK (ks ++ [k]) (vs ++ [v])))):=by
 have:=DPut.k (k:=Sum.inr k) (v:=v) hd (by
  unfold zK
  rw [List.length_zipWith]
  exact Nat.lt_of_le_of_lt (show _≤20 by omega) (by decide))
 rw [zput hl h] at this
 exact this
structure Dr where
 what:Int
 many:Int
 h:Int
 t:Int
 u:Int
 n:Int
 bulk:Int
 f:Int
 over:Int
 into:Int
 wh:Int
 load:Int
structure DrOk (D:Dr):Prop where
 what:0≤D.what∧D.what < 9
 many:3≤D.many∧D.many≤9
 h:0≤D.h∧D.h < 2
 t:0≤D.t∧D.t < D.many
 u:0≤D.u∧D.u < D.many
 ut:D.u≠D.t
 n:0≤D.n∧D.n < 4
 bulk:3≤D.bulk∧D.bulk < 8
 f:0≤D.f∧D.f < 8
 f56:D.what=5∨D.what=6→D.n≤D.f
 over:0≤D.over
 into:D.into=D.u∨D.into=D.t
 wh:0≤D.wh∧D.wh < 3
def mkW (w:Int):Str:=if w=0 then "kept" else if w=1 then "pale" else "dark"
def drN:List Str:=["what","many","h","t","u","n","bulk","f","over","into","when","mark","load"]
def drV (D:Dr):List V:=[.int D.what,.int D.many,.int D.h,.int D.t,.int D.u,.int D.n,.int D.bulk,.int D.f,.int D.over,.int D.into,.int D.wh,.str (mkW D.wh),.int D.load]
def DrAt (H:Hp) (d:Addr) (D:Dr):Prop:=H d=some (.dK (zK drN (drV D)))
section
variable {H H':Hp}{d:Addr}{D:Dr}
theorem DrAt.same (h:DrAt H d D) (s:Same H H'):DrAt H' d D:=s _ _ h
theorem DrAt.what (h:DrAt H d D):DGet H d (.str "what") (some (.int D.what)):=zrd (i:=0) h rfl (by decide +kernel) rfl
theorem DrAt.many (h:DrAt H d D):DGet H d (.str "many") (some (.int D.many)):=zrd (i:=1) h rfl (by decide +kernel) rfl
theorem DrAt.h (h:DrAt H d D):DGet H d (.str "h") (some (.int D.h)):=zrd (i:=2) h rfl (by decide +kernel) rfl
theorem DrAt.t (h:DrAt H d D):DGet H d (.str "t") (some (.int D.t)):=zrd (i:=3) h rfl (by decide +kernel) rfl
theorem DrAt.u (h:DrAt H d D):DGet H d (.str "u") (some (.int D.u)):=zrd (i:=4) h rfl (by decide +kernel) rfl
theorem DrAt.n (h:DrAt H d D):DGet H d (.str "n") (some (.int D.n)):=zrd (i:=5) h rfl (by decide +kernel) rfl
theorem DrAt.bulk (h:DrAt H d D):DGet H d (.str "bulk") (some (.int D.bulk)):=zrd (i:=6) h rfl (by decide +kernel) rfl
theorem DrAt.f (h:DrAt H d D):DGet H d (.str "f") (some (.int D.f)):=zrd (i:=7) h rfl (by decide +kernel) rfl
theorem DrAt.over (h:DrAt H d D):DGet H d (.str "over") (some (.int D.over)):=zrd (i:=8) h rfl (by decide +kernel) rfl
theorem DrAt.into (h:DrAt H d D):DGet H d (.str "into") (some (.int D.into)):=zrd (i:=9) h rfl (by decide +kernel) rfl
theorem DrAt.wh (h:DrAt H d D):DGet H d (.str "when") (some (.int D.wh)):=zrd (i:=10) h rfl (by decide +kernel) rfl
theorem DrAt.mark (h:DrAt H d D):DGet H d (.str "mark") (some (.str (mkW D.wh))):=zrd (i:=11) h rfl (by decide +kernel) rfl
theorem DrAt.load (h:DrAt H d D):DGet H d (.str "load") (some (.int D.load)):=zrd (i:=12) h rfl (by decide +kernel) rfl
end
def S_draw:Sp:=fun vs H Q E=>∃ c,vs=[.int c]∧Builtin.Int.intBits c≤2 ^ 20∧∀ (D:Dr) (d:Addr) H',DrOk D→Same H H'→H d=none→DrAt H' d D→Q (.ref d) H'
section
variable {K:PySem.W.Frag}{H:Hp}{Q:VK}{E:XK}{n:St→Hp→Prop}{bk ct:St→Hp→Prop}
theorem umod {t m x:Int} (hm:3≤m) (h0:0≤t) (h1:t < m) (hx:0≤x):(t + 1 + x % (m - 1)) % m≠t:=by
 have a0:=Int.emod_nonneg x (show m - 1≠0 by omega)
 have a1:=Int.emod_lt_of_pos x (show 0 < m - 1 by omega)
 generalize x % (m - 1)=y at a0 a1
 by_cases z:t + 1 + y < m
 ·rw [Int.emod_eq_of_lt (by omega) z];omega
 ·have e:(t + 1 + y) % m=t + 1 + y - m:=by
   rw [← Int.sub_emod_right]
   exact Int.emod_eq_of_lt (by omega) (by omega)
  rw [e];omega
theorem mark_at {w:Int} (h0:0≤w) (h1:w < 3):atI [V.str "kept",.str "pale",.str "dark"] w=some (.str (mkW w)):=by
 have:w=0∨w=1∨w=2:=by omega
 rcases this with rfl | rfl | rfl<;>rfl
theorem over_at {w:Int} (h0:0≤w) (h1:w < 4):∃ o:Int,0≤o∧atI [V.int 0,.int 1,.int 9,.int (10 ^ Int.toNat 9)] w=some (.int o):=by
 have:w=0∨w=1∨w=2∨w=3:=by omega
 rcases this with rfl | rfl | rfl | rfl
 ·exact ⟨0,by decide,rfl⟩
 ·exact ⟨1,by decide,rfl⟩
 ·exact ⟨9,by decide,rfl⟩
 ·exact ⟨_,by decide,rfl⟩
theorem into_at {w u t:Int} (h0:0≤w) (h1:w < 2):∃ o:Int,(o=u∨o=t)∧atI [V.int u,.int t] w=some (.int o):=by
 have:w=0∨w=1:=by omega
 rcases this with rfl | rfl
 ·exact ⟨u,.inl rfl,rfl⟩
 ·exact ⟨t,.inr rfl,rfl⟩
theorem _law_draw_rd {c:Int} (q:Builtin.Int.intBits c≤2 ^ 20∧∀ (D:Dr) (d:Addr) H',DrOk D→Same H H'→H d=none→DrAt H' d D→Q (.ref d) H'):
  rd__law_draw K S_mix ⟨n,Q,bk,ct⟩ [some (.int c),none,none,none,none,none] H:=by
 obtain ⟨hb,q⟩:=q
 unfold rd__law_draw
 walk_at "ev"
 refine ⟨_,_,rfl,by decide,by decide,fun z1 p1=>?_⟩
 walk_at "ev"
 refine ⟨_,_,rfl,by decide,by decide,fun z2 p2=>?_⟩
 walk_at "ev"
 refine ⟨_,_,rfl,by decide,by decide,fun z3 p3=>?_⟩
 walk_at "ev"
 have m0:=Int.emod_nonneg z1 (show (7:Int)≠0 by decide)
 have m1:=Int.emod_lt_of_pos z1 (show (0:Int) < 7 by decide)
 have hm:3≤3 + z1 % 7:=by omega
 have hm9:3 + z1 % 7≤9:=by omega
 generalize 3 + z1 % 7=m at hm hm9
 intro d hd
 simp only [tPairs]
 walk_at "ev"
 have t0:=Int.emod_nonneg (z1 / 14) (show m≠0 by omega)
 have t1:=Int.emod_lt_of_pos (z1 / 14) (show 0 < m by omega)
 have a0:=Int.emod_nonneg z2 (show (9:Int)≠0 by decide)
 have a1:=Int.emod_lt_of_pos z2 (show (0:Int) < 9 by decide)
 have b0:=Int.emod_nonneg (z1 / 7) (show (2:Int)≠0 by decide)
 have b1:=Int.emod_lt_of_pos (z1 / 7) (show (0:Int) < 2 by decide)
 refine ⟨upd_same,[(Sum.inr "what",.int (z2 % 9)),(Sum.inr "many",.int m),(Sum.inr "h",.int (z1 / 7 % 2)),(Sum.inr "t",.int (z1 / 14 % m))],rfl,by show 4≤15;decide,?_⟩
 rw [upd_upd]
 have em:mergeK [] [((Sum.inr "what":L2.Key),V.int (z2 % 9)),(Sum.inr "many",.int m),(Sum.inr "h",.int (z1 / 7 % 2)),(Sum.inr "t",.int (z1 / 14 % m))]=zK ["what","many","h","t"] [.int (z2 % 9),.int m,.int (z1 / 7 % 2),.int (z1 / 14 % m)]:=by
  unfold mergeK
  simp only [List.foldl_cons,List.foldl_nil]
  rw [show putK ([]:List (L2.Key×V)) (Sum.inr "what") (.int (z2 % 9))=zK ["what"] [.int (z2 % 9)] from zput (ks:=[]) (vs:=[]) rfl rfl,
   zput (ks:=["what"]) rfl (by decide +kernel),List.singleton_append,List.singleton_append,zput (ks:=["what","many"]) rfl (by decide +kernel)]
  exact zput (ks:=["what","many","h"]) rfl (by decide +kernel)
 rw [em]
 generalize z2 % 9=wt at a0 a1
 generalize z1 / 7 % 2=hh at b0 b1
 generalize z1 / 14 % m=tt at t0 t1
 have s1:Same H (upd H d (.dK (zK ["what","many","h","t"] [.int wt,.int m,.int hh,.int tt]))):=same_new hd _
 have g1:upd H d (.dK (zK ["what","many","h","t"] [.int wt,.int m,.int hh,.int tt])) d=some (.dK (zK ["what","many","h","t"] [.int wt,.int m,.int hh,.int tt])):=upd_same
 generalize upd H d (.dK (zK ["what","many","h","t"] [.int wt,.int m,.int hh,.int tt]))=H1 at s1 g1 ⊢
 walk_at "ev"
 refine ⟨d,_,rfl,zrd (i:=3) g1 rfl (by decide +kernel) rfl,?_⟩
 walk_at "ev"
 have hu0:=Int.emod_nonneg (tt + 1 + z1 / 200 % (m - 1)) (show m≠0 by omega)
 have hu1:=Int.emod_lt_of_pos (tt + 1 + z1 / 200 % (m - 1)) (show 0 < m by omega)
 have hut:=umod (x:=z1 / 200) hm t0 t1 (by omega)
 generalize (tt + 1 + z1 / 200 % (m - 1)) % m=u at hu0 hu1 hut ⊢
 refine ⟨d,_,rfl,zwr g1 rfl (by decide) (by decide +kernel),?_⟩
 simp only [List.cons_append,List.nil_append]
 have s2:Same H (upd H1 d (.dK (zK ["what","many","h","t","u"] [.int wt,.int m,.int hh,.int tt,.int u]))):=fun b o hb'=>by rw [upd_ne (ne_of_none hb' hd)];exact s1 _ _ hb'
 have g2:upd H1 d (.dK (zK ["what","many","h","t","u"] [.int wt,.int m,.int hh,.int tt,.int u])) d=some (.dK (zK ["what","many","h","t","u"] [.int wt,.int m,.int hh,.int tt,.int u])):=upd_same
 generalize upd H1 d (.dK (zK ["what","many","h","t","u"] [.int wt,.int m,.int hh,.int tt,.int u]))=H2 at s2 g2 ⊢
 clear s1 g1
 walk_at "ev"
 have n0:=Int.emod_nonneg (z2 / 9) (show (4:Int)≠0 by decide)
 have n1:=Int.emod_lt_of_pos (z2 / 9) (show (0:Int) < 4 by decide)
 generalize z2 / 9 % 4=nn at n0 n1 ⊢
 refine ⟨d,_,rfl,zwr g2 rfl (by decide) (by decide +kernel),?_⟩
 simp only [List.cons_append,List.nil_append]
 have s3:Same H (upd H2 d (.dK (zK ["what","many","h","t","u","n"] [.int wt,.int m,.int hh,.int tt,.int u,.int nn]))):=fun b o hb'=>by rw [upd_ne (ne_of_none hb' hd)];exact s2 _ _ hb'
 have g3:upd H2 d (.dK (zK ["what","many","h","t","u","n"] [.int wt,.int m,.int hh,.int tt,.int u,.int nn])) d=some (.dK (zK ["what","many","h","t","u","n"] [.int wt,.int m,.int hh,.int tt,.int u,.int nn])):=upd_same
 generalize upd H2 d (.dK (zK ["what","many","h","t","u","n"] [.int wt,.int m,.int hh,.int tt,.int u,.int nn]))=H3 at s3 g3 ⊢
 clear s2 g2
 walk_at "ev"
 have u0:=Int.emod_nonneg z3 (show (5:Int)≠0 by decide)
 have u1:=Int.emod_lt_of_pos z3 (show (0:Int) < 5 by decide)
 have hbk:3≤3 + z3 % 5∧3 + z3 % 5 < 8:=by omega
 generalize 3 + z3 % 5=bu at hbk ⊢
 refine ⟨d,_,rfl,zwr g3 rfl (by decide) (by decide +kernel),?_⟩
 simp only [List.cons_append,List.nil_append]
 have s4:Same H (upd H3 d (.dK (zK ["what","many","h","t","u","n","bulk"] [.int wt,.int m,.int hh,.int tt,.int u,.int nn,.int bu]))):=fun b o hb'=>by rw [upd_ne (ne_of_none hb' hd)];exact s3 _ _ hb'
 have g4:upd H3 d (.dK (zK ["what","many","h","t","u","n","bulk"] [.int wt,.int m,.int hh,.int tt,.int u,.int nn,.int bu])) d=some (.dK (zK ["what","many","h","t","u","n","bulk"] [.int wt,.int m,.int hh,.int tt,.int u,.int nn,.int bu])):=upd_same
 generalize upd H3 d (.dK (zK ["what","many","h","t","u","n","bulk"] [.int wt,.int m,.int hh,.int tt,.int u,.int nn,.int bu]))=H4 at s4 g4 ⊢
 clear s3 g3
 walk_at "ev"
 have f0:=Int.emod_nonneg (z3 / 5) (show (8:Int)≠0 by decide)
 have f1:=Int.emod_lt_of_pos (z3 / 5) (show (0:Int) < 8 by decide)
 refine ⟨d,_,rfl,zwr g4 rfl (by decide) (by decide +kernel),?_⟩
 have rest:∀ (f:Int) (H5:Hp),0≤f→f < 8→(wt=5∨wt=6→nn≤f)→Same H H5→H5 d=some (.dK (zK ["what","many","h","t","u","n","bulk","f"] [.int wt,.int m,.int hh,.int tt,.int u,.int nn,.int bu,.int f]))→
   rd__law_draw_t0_10 K ⟨n,Q,bk,ct⟩ [some (.int c),some (.int z1),some (.int z2),some (.int z3),some (.int m),some (.ref d)] H5:=by
  intro f H5 f0 f1 hf s5 g5
  unfold rd__law_draw_t0_10
  walk_at "ev"
  refine ⟨by show 4≤sizeLine;exact Zaj (by decide),fun l1 nl1=>?_⟩
  walk_at "ev"
  obtain ⟨o,o0,eo⟩:=over_at (w:=z3 / 40 % 4) (Int.emod_nonneg _ (by decide)) (Int.emod_lt_of_pos _ (by decide))
  refine i_ixL (SqL.of upd_same) eo ?_
  have sl1:=same_new nl1 (.lst [V.int 0,.int 1,.int 9,.int (10 ^ Int.toNat 9)])
  have g5':=sl1 _ _ g5
  have s5':=s5.trans sl1
  generalize upd H5 l1 (.lst [V.int 0,.int 1,.int 9,.int (10 ^ Int.toNat 9)])=H5' at g5' s5' ⊢
  clear s5 g5 sl1
  walk_at "ev"
  refine ⟨d,_,rfl,zwr g5' rfl (by decide) (by decide +kernel),?_⟩
  simp only [List.cons_append,List.nil_append]
  have s6:Same H (upd H5' d (.dK (zK ["what","many","h","t","u","n","bulk","f","over"] [.int wt,.int m,.int hh,.int tt,.int u,.int nn,.int bu,.int f,.int o]))):=fun b o hb'=>by rw [upd_ne (ne_of_none hb' hd)];exact s5' _ _ hb'
  have g6:upd H5' d (.dK (zK ["what","many","h","t","u","n","bulk","f","over"] [.int wt,.int m,.int hh,.int tt,.int u,.int nn,.int bu,.int f,.int o])) d=some (.dK (zK ["what","many","h","t","u","n","bulk","f","over"] [.int wt,.int m,.int hh,.int tt,.int u,.int nn,.int bu,.int f,.int o])):=upd_same
  generalize upd H5' d (.dK (zK ["what","many","h","t","u","n","bulk","f","over"] [.int wt,.int m,.int hh,.int tt,.int u,.int nn,.int bu,.int f,.int o]))=H6 at s6 g6 ⊢
  clear s5' g5'
  walk_at "ev"
  refine ⟨d,_,rfl,zrd (i:=4) g6 rfl (by decide +kernel) rfl,?_⟩
  walk_at "ev"
  refine ⟨d,_,rfl,zrd (i:=3) g6 rfl (by decide +kernel) rfl,?_⟩
  walk_at "ev"
  refine ⟨by show 2≤sizeLine;exact Zaj (by decide),fun l2 nl2=>?_⟩
  walk_at "ev"
  obtain ⟨i,i0,ei⟩:=into_at (w:=z3 / 160 % 2) (u:=u) (t:=tt) (Int.emod_nonneg _ (by decide)) (Int.emod_lt_of_pos _ (by decide))
  refine i_ixL (SqL.of upd_same) ei ?_
  have sl2:=same_new nl2 (.lst [V.int u,.int tt])
  have g6':=sl2 _ _ g6
  have s6':=s6.trans sl2
  generalize upd H6 l2 (.lst [V.int u,.int tt])=H6' at g6' s6' ⊢
  clear s6 g6 sl2
  walk_at "ev"
  refine ⟨d,_,rfl,zwr g6' rfl (by decide) (by decide +kernel),?_⟩
  simp only [List.cons_append,List.nil_append]
  have s7:Same H (upd H6' d (.dK (zK ["what","many","h","t","u","n","bulk","f","over","into"] [.int wt,.int m,.int hh,.int tt,.int u,.int nn,.int bu,.int f,.int o,.int i]))):=fun b o hb'=>by rw [upd_ne (ne_of_none hb' hd)];exact s6' _ _ hb'
  have g7:upd H6' d (.dK (zK ["what","many","h","t","u","n","bulk","f","over","into"] [.int wt,.int m,.int hh,.int tt,.int u,.int nn,.int bu,.int f,.int o,.int i])) d=some (.dK (zK ["what","many","h","t","u","n","bulk","f","over","into"] [.int wt,.int m,.int hh,.int tt,.int u,.int nn,.int bu,.int f,.int o,.int i])):=upd_same
  generalize upd H6' d (.dK (zK ["what","many","h","t","u","n","bulk","f","over","into"] [.int wt,.int m,.int hh,.int tt,.int u,.int nn,.int bu,.int f,.int o,.int i]))=H7 at s7 g7 ⊢
  clear s6' g6'
  walk_at "ev"
  have w0:=Int.emod_nonneg (z2 / 36) (show (3:Int)≠0 by decide)
  have w1:=Int.emod_lt_of_pos (z2 / 36) (show (0:Int) < 3 by decide)
  generalize z2 / 36 % 3=wh at w0 w1 ⊢
  refine ⟨d,_,rfl,zwr g7 rfl (by decide) (by decide +kernel),?_⟩
  simp only [List.cons_append,List.nil_append]
  have s8:Same H (upd H7 d (.dK (zK ["what","many","h","t","u","n","bulk","f","over","into","when"] [.int wt,.int m,.int hh,.int tt,.int u,.int nn,.int bu,.int f,.int o,.int i,.int wh]))):=fun b o hb'=>by rw [upd_ne (ne_of_none hb' hd)];exact s7 _ _ hb'
  have g8:upd H7 d (.dK (zK ["what","many","h","t","u","n","bulk","f","over","into","when"] [.int wt,.int m,.int hh,.int tt,.int u,.int nn,.int bu,.int f,.int o,.int i,.int wh])) d=some (.dK (zK ["what","many","h","t","u","n","bulk","f","over","into","when"] [.int wt,.int m,.int hh,.int tt,.int u,.int nn,.int bu,.int f,.int o,.int i,.int wh])):=upd_same
  generalize upd H7 d (.dK (zK ["what","many","h","t","u","n","bulk","f","over","into","when"] [.int wt,.int m,.int hh,.int tt,.int u,.int nn,.int bu,.int f,.int o,.int i,.int wh]))=H8 at s8 g8 ⊢
  clear s7 g7
  walk_at "ev"
  refine ⟨by show 3≤sizeLine;exact Zaj (by decide),fun l3 nl3=>?_⟩
  have sl3:=same_new nl3 (.lst [V.str "kept",.str "pale",.str "dark"])
  have g8':=sl3 _ _ g8
  have s8':=s8.trans sl3
  have o3:upd H8 l3 (.lst [V.str "kept",.str "pale",.str "dark"]) l3=some (.lst [V.str "kept",.str "pale",.str "dark"]):=upd_same
  generalize upd H8 l3 (.lst [V.str "kept",.str "pale",.str "dark"])=H8' at g8' s8' o3 ⊢
  clear s8 g8 sl3
  walk_at "ev"
  refine ⟨d,_,rfl,zrd (i:=10) g8' rfl (by decide +kernel) rfl,?_⟩
  refine i_ixL (SqL.of o3) (mark_at w0 w1) ?_
  walk_at "ev"
  refine ⟨d,_,rfl,zwr g8' rfl (by decide) (by decide +kernel),?_⟩
  simp only [List.cons_append,List.nil_append]
  have s9:Same H (upd H8' d (.dK (zK ["what","many","h","t","u","n","bulk","f","over","into","when","mark"] [.int wt,.int m,.int hh,.int tt,.int u,.int nn,.int bu,.int f,.int o,.int i,.int wh,.str (mkW wh)]))):=fun b o hb'=>by rw [upd_ne (ne_of_none hb' hd)];exact s8' _ _ hb'
  have g9:upd H8' d (.dK (zK ["what","many","h","t","u","n","bulk","f","over","into","when","mark"] [.int wt,.int m,.int hh,.int tt,.int u,.int nn,.int bu,.int f,.int o,.int i,.int wh,.str (mkW wh)])) d=some (.dK (zK ["what","many","h","t","u","n","bulk","f","over","into","when","mark"] [.int wt,.int m,.int hh,.int tt,.int u,.int nn,.int bu,.int f,.int o,.int i,.int wh,.str (mkW wh)])):=upd_same
  generalize upd H8' d (.dK (zK ["what","many","h","t","u","n","bulk","f","over","into","when","mark"] [.int wt,.int m,.int hh,.int tt,.int u,.int nn,.int bu,.int f,.int o,.int i,.int wh,.str (mkW wh)]))=H9 at s9 g9 ⊢
  clear s8' g8' o3
  walk_at "ev"
  refine i_I (mulW _ hb (by decide)) ?_
  walk_at "ev"
  refine ⟨d,_,rfl,zwr g9 rfl (by decide) (by decide +kernel),?_⟩
  simp only [List.cons_append,List.nil_append]
  walk_at "ev"
  refine q ⟨wt,m,hh,tt,u,nn,bu,f,o,i,wh,_⟩ d _ ⟨⟨a0,a1⟩,⟨hm,hm9⟩,⟨b0,b1⟩,⟨t0,t1⟩,⟨hu0,hu1⟩,hut,⟨n0,n1⟩,hbk,⟨f0,f1⟩,hf,o0,i0,⟨w0,w1⟩⟩ (fun b o hb'=>by rw [upd_ne (ne_of_none hb' hd)];exact s9 _ _ hb') hd upd_same
 have e5:upd H4 d (.dK (zK ((["what","many","h","t","u","n","bulk"]:List Str) ++ (["f"]:List Str)) ([.int wt,.int m,.int hh,.int tt,.int u,.int nn,.int bu] ++ [.int (z3 / 5 % 8)]))) d=some (.dK (zK ((["what","many","h","t","u","n","bulk"]:List Str) ++ (["f"]:List Str)) ([.int wt,.int m,.int hh,.int tt,.int u,.int nn,.int bu] ++ [.int (z3 / 5 % 8)]))):=upd_same
 have s5:Same H (upd H4 d (.dK (zK ((["what","many","h","t","u","n","bulk"]:List Str) ++ (["f"]:List Str)) ([.int wt,.int m,.int hh,.int tt,.int u,.int nn,.int bu] ++ [.int (z3 / 5 % 8)])))):=fun b o hb'=>by rw [upd_ne (ne_of_none hb' hd)];exact s4 _ _ hb'
 generalize upd H4 d (.dK (zK ((["what","many","h","t","u","n","bulk"]:List Str) ++ (["f"]:List Str)) ([.int wt,.int m,.int hh,.int tt,.int u,.int nn,.int bu] ++ [.int (z3 / 5 % 8)])))=H5 at e5 s5 ⊢
 have over56:(wt=5∨wt=6)→sDPut (tVar 5) (tC (.str "f")) (tOp (rI0 fun i j=>.int (i + j)) (tDGet (tVar 5) (tC (.str "n"))) (tOp (rI (fun _ j=>0 < j) fun i j=>.int (i % j)) (tOp (rI CDiv fun i j=>.int (i / j)) (tVar 3) (tC (.int 5))) (tOp (rI0 fun i j=>.int (i - j)) (tC (.int 8)) (tDGet (tVar 5) (tC (.str "n")))))) ⟨rd__law_draw_t0_10 K ⟨n,Q,bk,ct⟩,Q,bk,ct⟩ [some (.int c),some (.int z1),some (.int z2),some (.int z3),some (.int m),some (.ref d)] H5:=fun _=>by
  walk_at "ev"
  refine ⟨d,_,rfl,zrd (i:=5) e5 rfl (by decide +kernel) rfl,?_⟩
  walk_at "ev"
  refine ⟨d,_,rfl,zrd (i:=5) e5 rfl (by decide +kernel) rfl,?_⟩
  walk_at "ev"
  have y0:=Int.emod_nonneg (z3 / 5) (show 8 - nn≠0 by omega)
  have y1:=Int.emod_lt_of_pos (z3 / 5) (show 0 < 8 - nn by omega)
  refine ⟨d,_,rfl,DPut.k (k:=Sum.inr "f") e5 (show 8 < sizeLine from by decide),?_⟩
  rw [zlast rfl (by decide +kernel)]
  exact rest (nn + z3 / 5 % (8 - nn)) _ (by omega) (by omega) (fun _=>by omega) (fun b o hb'=>by rw [upd_ne (ne_of_none hb' hd)];exact s5 _ _ hb') upd_same
 refine i_seq ?_
 walk_at "es"
 refine ⟨d,_,rfl,zrd (i:=0) e5 rfl (by decide +kernel) rfl,?_⟩
 walk_at "es"
 refine ifd (fun h5=>?_) (fun h5=>?_)
 ·refine i_iteT ?_
  exact over56 (.inl h5)
 ·walk_at "es"
  refine ⟨d,_,rfl,zrd (i:=0) e5 rfl (by decide +kernel) rfl,?_⟩
  walk_at "es"
  refine ifd (fun h6=>?_) (fun h6=>?_)
  ·exact over56 (.inr h6)
  ·walk_at "es"
   exact rest (z3 / 5 % 8) _ f0 f1 (fun z=>by omega) s5 e5
end
def cN (D:Dr) (tone:Int):Ce:=⟨1,D.bulk,tone,0,List.replicate D.n.toNat none⟩
def hands0 (D:Dr):List (Str×List (Option Int)):=[("one",List.replicate D.many.toNat none),("two",List.replicate D.many.toNat none)]
def hands1 (D:Dr):List (Str×List (Option Int)):=(hands0 D).modify D.h.toNat fun m=>(m.1,m.2.set D.t.toNat (some 0))
structure P0 (D:Dr) (M:Wm):Prop where
 room:M.room=if D.what=7 then 1 + D.n + D.bulk + (D.n + 2) else 10 ^ 15
 used:M.used=1 + D.n + D.bulk
 born:M.born=1
 ce:∃ tone,(tone=0∨tone=1)∧M.cells=[some (cN D tone)]∧markM M 0 (cN D tone)=mkW D.wh
 hd:M.hands=hands1 D
 nm:M.names=[]
 ph:M.sw.phase="rest"∨M.sw.phase="walk"
 gr:M.sw.grey=[]
 se:M.sw.sense=0∨M.sw.sense=1
 tl:0≤M.tells∧M.tells < 4
section
variable {D:Dr}{M:Wm}
theorem at_hands1 {k:Nat} (hk:k < 2):∃ z,(hands1 D)[k]? =some (z,if k=D.h.toNat then (List.replicate D.many.toNat none).set D.t.toNat (some 0) else List.replicate D.many.toNat none):=by
 unfold hands1 hands0
 rw [List.getElem?_modify]
 match k,hk with
 | 0,_=>
  by_cases z:D.h.toNat=0
  ·exact ⟨"one",by simp [z]⟩
  ·exact ⟨"one",by simp [z,Ne.symm z]⟩
 | 1,_=>
  by_cases z:D.h.toNat=1
  ·exact ⟨"two",by simp [z]⟩
  ·exact ⟨"two",by simp [z,Ne.symm z]⟩
theorem P0.okS (p:P0 D M) (o:DrOk D) {k:Int} (h0:0≤k) (h1:k < D.many):okS M D.h.toNat k.toNat:=by
 have:=o.h
 obtain ⟨z,hz⟩:=at_hands1 (D:=D) (k:=D.h.toNat) (by omega)
 refine ⟨_,by rw [p.hd];exact hz,?_⟩
 rw [if_pos rfl,List.length_set,List.length_replicate]
 omega
theorem P0.slot_t (p:P0 D M) (o:DrOk D):Za9 M D.h.toNat D.t.toNat=some 0:=by
 have:=o.h
 have:=o.t
 obtain ⟨z,hz⟩:=at_hands1 (D:=D) (k:=D.h.toNat) (by omega)
 refine slotOf_eq (m:=_) (by rw [p.hd];exact hz) ?_
 rw [if_pos rfl,List.getElem?_set_self (by rw [List.length_replicate];omega)]
theorem P0.slot_u (p:P0 D M) (o:DrOk D):Za9 M D.h.toNat D.u.toNat=none:=by
 have:=o.h
 have:=o.t
 have:=o.u
 have:=o.ut
 obtain ⟨z,hz⟩:=at_hands1 (D:=D) (k:=D.h.toNat) (by omega)
 refine slotOf_eq (m:=_) (by rw [p.hd];exact hz) ?_
 rw [if_pos rfl,List.getElem?_set_ne (by omega),List.getElem?_replicate]
 simp;omega
theorem P0.cell (p:P0 D M):∃ tone,(tone=0∨tone=1)∧cellAt M 0=some (cN D tone)∧M.cells=[some (cN D tone)]:=by
 obtain ⟨tone,h1,h2,_⟩:=p.ce
 refine ⟨tone,h1,?_,h2⟩
 unfold cellAt
 rw [h2];rfl
theorem P0.ok (p:P0 D M):Ok M:=by
 obtain ⟨tone,ht,hc,hcs⟩:=p.cell
 refine ⟨fun m hm x hx=>?_,fun c hc' x hx=>?_,fun c hc'=>?_⟩
 ·have:x=0:=by
   rw [p.hd] at hm
   obtain ⟨k,hk,e⟩:=List.getElem_of_mem hm
   have hk2:k < 2:=by simpa [hands1,hands0] using hk
   obtain ⟨z,hz⟩:=at_hands1 (D:=D) hk2
   rw [List.getElem?_eq_getElem hk,e] at hz
   rw [Option.some.inj hz] at hx
   dsimp only at hx
   split at hx
   ·rcases List.mem_or_eq_of_mem_set hx with hx | hx
    ·cases List.eq_of_mem_replicate hx
    ·exact Option.some.inj hx
   ·cases List.eq_of_mem_replicate hx
  subst this
  exact ⟨_,hc⟩
 ·rw [hcs] at hc'
  have e:c=cN D tone:=by simpa using hc'
  subst e
  cases List.eq_of_mem_replicate hx
 ·rw [hcs] at hc'
  have e:c=cN D tone:=by simpa using hc'
  subst e
  exact ht
def deedOf (D:Dr):Deed:=
 if D.what=0 then .get D.h.toNat D.t.toNat D.u.toNat D.f.toNat
 else if D.what=1 then .put D.h.toNat D.u.toNat D.f.toNat D.t.toNat
 else if D.what=2 then .write D.h.toNat D.u.toNat D.load
 else if D.what=3 then .read D.h.toNat D.u.toNat
 else if D.what=4 then .name D.h.toNat D.u.toNat "owl"
 else if D.what=5 then .get D.h.toNat D.u.toNat D.t.toNat D.f.toNat
 else if D.what=6 then .put D.h.toNat D.t.toNat D.f.toNat D.t.toNat
 else if D.what=7 then .make D.h.toNat D.into.toNat D.n (2 + D.over)
 else .seek D.h.toNat D.u.toNat "owl"
def rfOf (D:Dr):Rf:=if D.what < 5 then .empty else if D.what < 7 then .nofield else if D.what=7 then .full else .noname
def rfS:Rf→Str
 | .full=>"full"
 | .empty=>"empty"
 | .nofield=>"field"
 | .noname=>"name"
theorem nine {w:Int} (h:0≤w∧w < 9):w=0∨w=1∨w=2∨w=3∨w=4∨w=5∨w=6∨w=7∨w=8:=by omega
theorem deed_okP (o:DrOk D):okP (deedOf D):=by
 unfold deedOf
 rcases nine o.what with e | e | e | e | e | e | e | e | e<;>rw [e]
 ·exact .inr (.inl ⟨_,_,_,_,rfl⟩)
 ·exact .inr (.inr (.inl ⟨_,_,_,_,rfl⟩))
 ·exact .inr (.inr (.inr (.inl ⟨_,_,_,rfl⟩)))
 ·exact .inr (.inr (.inr (.inr (.inl ⟨_,_,rfl⟩))))
 ·exact .inr (.inr (.inr (.inr (.inr (.inl ⟨_,_,_,rfl⟩)))))
 ·exact .inr (.inl ⟨_,_,_,_,rfl⟩)
 ·exact .inr (.inr (.inl ⟨_,_,_,_,rfl⟩))
 ·exact .inl ⟨_,_,_,_,rfl⟩
 ·exact .inr (.inr (.inr (.inr (.inr (.inr ⟨_,_,_,rfl⟩)))))
theorem P0.okD (p:P0 D M) (o:DrOk D):okD M (deedOf D):=by
 have ot:=p.okS o o.t.1 o.t.2
 have ou:=p.okS o o.u.1 o.u.2
 have oi:K21.okS M D.h.toNat D.into.toNat:=by
  rcases o.into with e | e<;>rw [e]
  ·exact ou
  ·exact ot
 have:=o.over
 have:=o.n
 unfold deedOf
 rcases nine o.what with e | e | e | e | e | e | e | e | e<;>rw [e]
 ·exact ⟨ot,ou⟩
 ·exact ⟨ou,ot⟩
 ·exact ou
 ·exact ou
 ·exact ou
 ·exact ⟨ou,ot⟩
 ·exact ⟨ot,ot⟩
 ·exact ⟨oi,by omega,by omega,by omega⟩
 ·exact ou
theorem P0.refused (p:P0 D M) (o:DrOk D):doM M (deedOf D)=.error (rfOf D):=by
 have st:=p.slot_t o
 have su:=p.slot_u o
 obtain ⟨tone,ht,hc,hcs⟩:=p.cell
 have hn:=o.n
 have hf:=o.f
 have nf:(D.what=5∨D.what=6)→(cN D tone).fl[D.f.toNat]? =none:=fun z=>by
  have:=o.f56 z
  show (List.replicate D.n.toNat none)[D.f.toNat]? =none
  rw [List.getElem?_eq_none_iff,List.length_replicate]
  omega
 unfold deedOf rfOf
 rcases nine o.what with e | e | e | e | e | e | e | e | e
 ·rw [e];show (match Za9 M D.h.toNat D.u.toNat with | none=>_ | some x=>_)=_;rw [su];rfl
 ·rw [e];show (match Za9 M D.h.toNat D.u.toNat with | none=>_ | some x=>_)=_;rw [su];rfl
 ·rw [e];show (match Za9 M D.h.toNat D.u.toNat with | none=>_ | some x=>_)=_;rw [su];rfl
 ·rw [e];show (match Za9 M D.h.toNat D.u.toNat with | none=>_ | some x=>_)=_;rw [su];rfl
 ·rw [e];show (match Za9 M D.h.toNat D.u.toNat with | none=>_ | some x=>_)=_;rw [su];rfl
 ·have nf:=nf (.inl e)
  rw [e]
  show (match Za9 M D.h.toNat D.t.toNat with | none=>_ | some x=>_)=_
  rw [st]
  show (match cellAt M 0 with | none=>_ | some c=>_)=_
  rw [hc]
  show (match (cN D tone).fl[D.f.toNat]? with | none=>_ | some v=>_)=_
  rw [nf];rfl
 ·have nf:=nf (.inr e)
  rw [e]
  show (match Za9 M D.h.toNat D.t.toNat with | none=>_ | some x=>_)=_
  rw [st]
  show (match cellAt M 0 with | none=>_ | some c=>_)=_
  rw [hc]
  show (match (cN D tone).fl[D.f.toNat]? with | none=>_ | some v=>_)=_
  rw [nf];rfl
 ·have r:=p.room
  have us:=p.used
  have ov:=o.over
  rw [e] at r
  rw [e]
  show (if M.used + (1 + D.n + (2 + D.over))≤M.room then _ else _)=_
  rw [if_neg (by rw [r,us,if_pos rfl];omega)];rfl
 ·rw [e]
  show (match getNm M.names "owl" with | none=>_ | some (p,b)=>_)=_
  rw [p.nm];rfl
end
def S_deedL:Sp:=fun vs H Q E=>∃ d,vs=[.ref d]∧∃ D,DrOk D∧DrAt H d D∧∀ a H',Same H H'→H a=none→H' a=some (.tup (dV (deedOf D)))→Q (.ref a) H'
def S_refused (X:Cs) (rf:Rf→Addr):Sp:=fun vs H Q E=>∃ wo dd,vs=[.ref wo,.ref dd]∧∃ T A M d r,okP d∧WT H T∧WJ X H T 1 A M∧A.wo=wo∧H dd=some (.tup (dV d))∧okD M d∧Ok M∧M.cells.length≤900∧M.sw.grey=[]∧(0≤M.tells∧M.tells < 4)∧M.names.length≤1000∧doM M d=.error r∧∀ H',Same H H'→Q (.str (rfS r)) H'
def S_wordL (rf:Rf→Addr):Sp:=fun vs H Q E=>∃ v,vs=[v]∧∃ ea r,v=.ref ea∧H ea=some (xobj ea (.ref (rf r)))∧∀ H',Same H H'→Q (.str (rfS r)) H'
structure Kit (isk:Value→Value→Option Bool) (rf:Rf→Addr) (CS CT:Addr):Prop where
 k:∀ r r',isk (.ref (rf r)) (.ref (rf r'))=some (decide (r=r'))
 s:∀ r,isk (.ref (rf r)) (.ref CS)=some false
 t:∀ r,isk (.ref (rf r)) (.ref CT)=some false
 v:∀ r,isk (.ref (rf r)) (.type "ValueError")=some true
section
variable {K:PySem.W.Frag}{X:Cs}{H:Hp}{Q:VK}{E:XK}{n:St→Hp→Prop}{bk ct:St→Hp→Prop}
theorem _law_deed_rd {d:Addr} (q:∃ D,DrOk D∧DrAt H d D∧∀ a H',Same H H'→H a=none→H' a=some (.tup (dV (deedOf D)))→Q (.ref a) H'):rd__law_deed K ⟨n,Q,bk,ct⟩ [some (.ref d),none,none,none,none,none] H:=by
 obtain ⟨D,o,hd,q⟩:=q
 have c0:=o.h
 have c1:=o.t
 have c2:=o.u
 have c3:=o.f
 have c4:0≤D.into:=by rcases o.into with e | e<;>omega
 have eh:V.int D.h=V.int (D.h.toNat:Nat):=congrArg V.int (by omega)
 have et:V.int D.t=V.int (D.t.toNat:Nat):=congrArg V.int (by omega)
 have eu:V.int D.u=V.int (D.u.toNat:Nat):=congrArg V.int (by omega)
 have ef:V.int D.f=V.int (D.f.toNat:Nat):=congrArg V.int (by omega)
 have ei:V.int D.into=V.int (D.into.toNat:Nat):=congrArg V.int (by omega)
 unfold rd__law_deed
 walk_at "ev"
 refine ⟨d,_,rfl,hd.what,?_⟩
 walk_at "ev"
 refine ⟨d,_,rfl,hd.h,?_⟩
 walk_at "ev"
 refine ⟨d,_,rfl,hd.t,?_⟩
 walk_at "ev"
 refine ⟨d,_,rfl,hd.u,?_⟩
 walk_at "ev"
 refine ⟨d,_,rfl,hd.f,?_⟩
 walk_at "ev"
 refine ⟨Zaj (by simp),fun tp ntp=>?_⟩
 have s1:=same_new ntp (.tup [.int D.h,.int D.t,.int D.u,.int D.f])
 have g1:upd H tp (.tup [.int D.h,.int D.t,.int D.u,.int D.f]) tp=some (.tup [.int D.h,.int D.t,.int D.u,.int D.f]):=upd_same
 generalize upd H tp (.tup [.int D.h,.int D.t,.int D.u,.int D.f])=H1 at s1 g1 ⊢
 have hd:=hd.same s1
 have q:∀ a H',Same H1 H'→H1 a=none→H' a=some (.tup (dV (deedOf D)))→Q (.ref a) H':=fun a H' s na e=>q a H' (s1.trans s) (s1.free na) e
 refine ⟨tp,_,rfl,SqT.of g1,rfl,?_⟩
 refine ⟨_,_,rfl,?_⟩
 walk_at "ev"
 refine ⟨_,_,rfl,?_⟩
 walk_at "ev"
 refine ⟨_,_,rfl,?_⟩
 walk_at "ev"
 refine ⟨_,_,rfl,?_⟩
 walk_at "ev"
 refine ⟨rfl,?_⟩
 walk_at "ev"
 refine ifd (fun e=>?_) (fun e0=>?_)
 ·walk_at "ev"
  refine ⟨Zaj (by simp),fun a na=>q a _ (same_new na _) na ?_⟩
  rw [upd_same,eh,et,eu,ef]
  unfold deedOf
  rw [e]
  rfl
 walk_at "ev"
 refine ifd (fun e=>?_) (fun e1=>?_)
 ·walk_at "ev"
  refine ⟨Zaj (by simp),fun a na=>q a _ (same_new na _) na ?_⟩
  rw [upd_same,eh,et,eu,ef]
  unfold deedOf
  rw [e]
  rfl
 walk_at "ev"
 refine ifd (fun e=>?_) (fun e2=>?_)
 ·walk_at "ev"
  refine ⟨d,_,rfl,hd.load,?_⟩
  walk_at "ev"
  refine ⟨Zaj (by simp),fun a na=>q a _ (same_new na _) na ?_⟩
  rw [upd_same,eh,eu]
  unfold deedOf
  rw [e]
  rfl
 walk_at "ev"
 refine ifd (fun e=>?_) (fun e3=>?_)
 ·walk_at "ev"
  refine ⟨Zaj (by simp),fun a na=>q a _ (same_new na _) na ?_⟩
  rw [upd_same,eh,eu]
  unfold deedOf
  rw [e]
  rfl
 walk_at "ev"
 refine ifd (fun e=>?_) (fun e4=>?_)
 ·walk_at "ev"
  refine ⟨Zaj (by simp),fun a na=>q a _ (same_new na _) na ?_⟩
  rw [upd_same,eh,eu]
  unfold deedOf
  rw [e]
  rfl
 walk_at "ev"
 refine ifd (fun e=>?_) (fun e5=>?_)
 ·walk_at "ev"
  refine ⟨Zaj (by simp),fun a na=>q a _ (same_new na _) na ?_⟩
  rw [upd_same,eh,et,eu,ef]
  unfold deedOf
  rw [e]
  rfl
 walk_at "ev"
 refine ifd (fun e=>?_) (fun e6=>?_)
 ·walk_at "ev"
  refine ⟨Zaj (by simp),fun a na=>q a _ (same_new na _) na ?_⟩
  rw [upd_same,eh,et,ef]
  unfold deedOf
  rw [e]
  rfl
 walk_at "ev"
 refine ifd (fun e=>?_) (fun e7=>?_)
 ·walk_at "ev"
  refine ⟨d,_,rfl,hd.into,?_⟩
  walk_at "ev"
  refine ⟨d,_,rfl,hd.n,?_⟩
  walk_at "ev"
  refine ⟨d,_,rfl,hd.over,?_⟩
  walk_at "ev"
  refine ⟨Zaj (by simp),fun a na=>q a _ (same_new na _) na ?_⟩
  rw [upd_same,eh,ei]
  unfold deedOf
  rw [e]
  rfl
 walk_at "ev"
 have e:D.what=8:=by have:=o.what;omega
 refine ⟨Zaj (by simp),fun a na=>q a _ (same_new na _) na ?_⟩
 rw [upd_same,eh,eu]
 unfold deedOf
 rw [e]
 rfl
theorem _law_refused_rd {wo dd:Addr}{rf:Rf→Addr}{CE CF CN CM:Addr} (h1:rf .empty=CE) (h2:rf .full=CF) (h3:rf .nofield=CN) (h4:rf .noname=CM) (q:∃ T A M d r,okP d∧WT H T∧WJ X H T 1 A M∧A.wo=wo∧H dd=some (.tup (dV d))∧okD M d∧Ok M∧M.cells.length≤900∧M.sw.grey=[]∧(0≤M.tells∧M.tells < 4)∧M.names.length≤1000∧doM M d=.error r∧∀ H',Same H H'→Q (.str (rfS r)) H'):
  rd__law_refused CE CF CN CM (S_wordL rf) (S_doP X rf) ⟨n,Q,bk,ct⟩ [some (.ref wo),some (.ref dd),none,none] H:=by
 obtain ⟨T,A,M,d,r,hP,w,j,rfl,ed,od,ok,hc,hg,tl,nm,er,q⟩:=q
 unfold rd__law_refused
 walk_at "ev"
 refine ⟨_,dd,rfl,T,1,A,M,d,hP,w,by decide,j,rfl,ed,od,ok,hc,fun _=>by rw [hg];decide,tl,nm,fun r' er' H' s=>?_,fun e M' he=>?_⟩
 ·rw [er] at er'
  cases er'
  refine ⟨?_,fun ea nea=>?_⟩
  ·cases r
   ·exact .inr (.inr (.inl (by rw [h2])))
   ·exact .inl (by rw [h1])
   ·exact .inr (.inl (by rw [h3]))
   ·exact .inr (.inr (.inr (by rw [h4])))
  ·simp only [List.set_cons_succ,List.set_cons_zero]
   walk_at "ev"
   simp only [List.set_cons_succ,List.set_cons_zero]
   walk_at "ev"
   exact ⟨_,rfl,ea,r,rfl,upd_same,fun H2 s2=>q _ (s.trans ((same_new nea _).trans s2))⟩
 ·rw [er] at he
  cases he
theorem _law_word_rd {v:V}{isk:Value→Value→Option Bool}{rf:Rf→Addr}{CE CF CN CM CS CT:Addr} (h1:rf .empty=CE) (h2:rf .full=CF) (h3:rf .nofield=CN) (h4:rf .noname=CM) (kt:Kit isk rf CS CT) (q:∃ ea r,v=.ref ea∧H ea=some (xobj ea (.ref (rf r)))∧∀ H',Same H H'→Q (.str (rfS r)) H'):
  rd__law_word K CE CF CN CM CS CT isk ⟨n,Q,bk,ct⟩ [some v,none,none,none] H:=by
 obtain ⟨ea,r,rfl,he,q⟩:=q
 subst h1 h2 h3 h4
 have mem:rf r∈[rf .empty,rf .full,rf .nofield,rf .noname]:=by cases r<;>simp
 have ask:∀ (H':Hp) (r':Rf) (Q':VK),H' ea=some (xobj ea (.ref (rf r)))→Q' (.bl (decide (r=r'))) H'→cIsiX [rf .empty,rf .full,rf .nofield,rf .noname] isk [.ref ea,.ref (rf r')] H' Q':=fun H' r' Q' e k=>⟨ea,.ref (rf r'),rf r,_,⟨_,rfl,rfl⟩,mem,e,kt.k r r',k⟩
 unfold rd__law_word
 walk_at "ev"
 refine ask H .empty _ he ?_
 walk_at "ev"
 refine ask H .nofield _ he ?_
 walk_at "ev"
 refine ask H .full _ he ?_
 walk_at "ev"
 refine ask H .noname _ he ?_
 walk_at "ev"
 refine ⟨Zaj (by simp),fun l1 nl1=>?_⟩
 have s1:=same_new nl1 (.lst [V.bl (decide (r=.empty)),.bl (decide (r=.nofield)),.bl (decide (r=.full)),.bl (decide (r=.noname))])
 have o1:upd H l1 (.lst [V.bl (decide (r=.empty)),.bl (decide (r=.nofield)),.bl (decide (r=.full)),.bl (decide (r=.noname))]) l1=some (.lst [V.bl (decide (r=.empty)),.bl (decide (r=.nofield)),.bl (decide (r=.full)),.bl (decide (r=.noname))]):=upd_same
 generalize upd H l1 (.lst [V.bl (decide (r=.empty)),.bl (decide (r=.nofield)),.bl (decide (r=.full)),.bl (decide (r=.noname))])=H1 at s1 o1 ⊢
 have he1:=s1 _ _ he
 walk_at "ev"
 refine ⟨ea,.ref CS,rf r,false,⟨_,rfl,rfl⟩,mem,he1,kt.s r,?_⟩
 walk_at "ev"
 refine ⟨ea,.ref CT,rf r,false,⟨_,rfl,rfl⟩,mem,he1,kt.t r,?_⟩
 walk_at "ev"
 refine ⟨Zaj (by simp),fun l2 nl2=>?_⟩
 have s2:=same_new nl2 (.lst [V.bl false,.bl false])
 have o2:upd H1 l2 (.lst [V.bl false,.bl false]) l2=some (.lst [V.bl false,.bl false]):=upd_same
 have o1:=s2 _ _ o1
 generalize upd H1 l2 (.lst [V.bl false,.bl false])=H2 at s2 o1 o2 ⊢
 walk_at "ev"
 refine ⟨l1,l2,_,_,rfl,rfl,o1,o2,Zaj (by simp),fun l3 nl3=>?_⟩
 have s3:=same_new nl3 (.lst ([V.bl (decide (r=.empty)),.bl (decide (r=.nofield)),.bl (decide (r=.full)),.bl (decide (r=.noname))] ++ [V.bl false,.bl false]))
 have o3:upd H2 l3 (.lst ([V.bl (decide (r=.empty)),.bl (decide (r=.nofield)),.bl (decide (r=.full)),.bl (decide (r=.noname))] ++ [V.bl false,.bl false])) l3=some (.lst ([decide (r=.empty),decide (r=.nofield),decide (r=.full),decide (r=.noname),false,false].map V.bl)):=upd_same
 generalize upd H2 l3 (.lst ([V.bl (decide (r=.empty)),.bl (decide (r=.nofield)),.bl (decide (r=.full)),.bl (decide (r=.noname))] ++ [V.bl false,.bl false]))=H3 at s3 o3 ⊢
 walk_at "ev"
 refine ⟨Zaj (by simp),fun l4 nl4=>?_⟩
 have s4:=same_new nl4 (.lst [V.str "empty",.str "field",.str "full",.str "name",.str "sound",.str "text"])
 have o4:upd H3 l4 (.lst [V.str "empty",.str "field",.str "full",.str "name",.str "sound",.str "text"]) l4=some (.lst ((["empty","field","full","name","sound","text"]:List Str).map V.str)):=upd_same
 have o3:=s4 _ _ o3
 generalize upd H3 l4 (.lst [V.str "empty",.str "field",.str "full",.str "name",.str "sound",.str "text"])=H4 at s4 o3 o4 ⊢
 have s04:=s1.trans (s2.trans (s3.trans s4))
 have he4:=s04 _ _ he
 walk_at "ev"
 refine i_lcg ?_
 walk_at "ev"
 refine ⟨_,rfl,by decide,by decide,?_⟩
 refine lc_range (n:=6) rfl (p:=fun i=>(([decide (r=.empty),decide (r=.nofield),decide (r=.full),decide (r=.noname),false,false]:List Bool)[i]?).getD false) (f:=fun i=>.str (((["empty","field","full","name","sound","text"]:List Str)[i]?).getD "")) (by decide) ?_ ?_ ?_
 ·intro i hi k hk
  walk_at "caps"
  walk_at "ev"
  refine i_ixL (SqL.of o3) (v:=.bl ((([decide (r=.empty),decide (r=.nofield),decide (r=.full),decide (r=.noname),false,false]:List Bool)[i]?).getD false)) (atI_nat (by rw [List.getElem?_map,List.getElem?_eq_getElem (show i < 6 from hi)];rfl)) ?_
  walk_at "ev"
  exact hk
 ·intro i hi _ k hk
  walk_at "caps"
  walk_at "ev"
  refine i_ixL (SqL.of o4) (v:=.str (((["empty","field","full","name","sound","text"]:List Str)[i]?).getD "")) (atI_nat (by rw [List.getElem?_map,List.getElem?_eq_getElem (show i < 6 from hi)];rfl)) ?_
  exact hk
 ·have el:(((List.range 6).filter fun i=>(([decide (r=.empty),decide (r=.nofield),decide (r=.full),decide (r=.noname),false,false]:List Bool)[i]?).getD false).map fun i=>V.str (((["empty","field","full","name","sound","text"]:List Str)[i]?).getD ""))=[V.str (rfS r)]:=by cases r<;>rfl
  intro l5 nl5
  rw [el]
  have s5:=same_new nl5 (.lst [V.str (rfS r)])
  have o5:upd H4 l5 (.lst [V.str (rfS r)]) l5=some (.lst [V.str (rfS r)]):=upd_same
  generalize upd H4 l5 (.lst [V.str (rfS r)])=H5 at s5 o5 ⊢
  walk_at "ev"
  refine i_lenL (SqL.of o5) ?_
  walk_at "ev"
  refine ifnd (fun z=>absurd rfl z) (fun _=>?_)
  walk_at "ev"
  refine ⟨ea,.type "ValueError",rf r,true,⟨_,rfl,rfl⟩,mem,s5 _ _ he4,kt.v r,?_⟩
  walk_at "ev"
  refine i_ixL (SqL.of o5) (atI_nat (j:=0) (v:=.str (rfS r)) rfl) ?_
  exact q _ (s04.trans s5)
end
structure Kp (H H':Hp) (T T':Tg):Prop where
 k:∀ b o,H b=some o→T b=(0,0)→H' b=some o∧T' b=(0,0)
theorem Kp.same {H H':Hp}{T:Tg} (s:Same H H'):Kp H H' T T:=⟨fun b o h t=>⟨s _ _ h,t⟩⟩
theorem Kp.stp {s:Nat}{H H':Hp}{T T':Tg} (st:Stp s H H' T T') (n:s≠0):Kp H H' T T':=⟨fun b o h t=>⟨st.kp b o h (by rw [t];exact fun w=>n w.symm),(st.tg b o h).trans t⟩⟩
theorem Kp.trans {H H1 H2:Hp}{T T1 T2:Tg} (a:Kp H H1 T T1) (b:Kp H1 H2 T1 T2):Kp H H2 T T2:=⟨fun x o h t=>by
 obtain ⟨h1,t1⟩:=a.k x o h t
 exact b.k x o h1 t1⟩
structure B0 (D:Dr) (M:Wm):Prop where
 room:M.room=if D.what=7 then 1 + D.n + D.bulk + (D.n + 2) else 10 ^ 15
 used:M.used=0
 born:M.born=0
 ce:M.cells=[]
 hd:M.hands=hands0 D
 nm:M.names=[]
 gr:M.sw.grey=[]
 se:M.sw.sense=0∨M.sw.sense=1
 tl:0≤M.tells∧M.tells < 4
def madeM (M:Wm) (D:Dr):Wm:=setSlot { M with used:=M.used + (1 + D.n + D.bulk),born:=M.born + 1,cells:=putO M.cells ⟨M.born + 1,D.bulk,M.sw.sense,0,List.replicate D.n.toNat none⟩ } D.h.toNat D.t.toNat (some (fst0 M.cells))
section
variable {D:Dr}{M:Wm}
theorem B0.begin (b:B0 D M):B0 D (beginM M):=by
 refine ⟨b.room,b.used,b.born,b.ce,b.hd,b.nm,rfl,?_,b.tl⟩
 show 1 - M.sw.sense=0∨1 - M.sw.sense=1
 have:=b.se
 omega
theorem B0.okS (b:B0 D M) (o:DrOk D):okS M D.h.toNat D.t.toNat:=by
 have h:=o.h
 have t:=o.t
 have:D.h.toNat=0∨D.h.toNat=1:=by omega
 rcases this with e | e
 ·refine ⟨("one",List.replicate D.many.toNat none),by rw [b.hd,e];rfl,?_⟩
  show D.t.toNat < (List.replicate D.many.toNat (none:Option Int)).length
  rw [List.length_replicate];omega
 ·refine ⟨("two",List.replicate D.many.toNat none),by rw [b.hd,e];rfl,?_⟩
  show D.t.toNat < (List.replicate D.many.toNat (none:Option Int)).length
  rw [List.length_replicate];omega
theorem B0.ok (b:B0 D M):Ok M:=by
 refine ⟨fun m hm x hx=>?_,fun c hc=>?_,fun c hc=>?_⟩
 ·rw [b.hd] at hm
  simp only [hands0,List.mem_cons,List.not_mem_nil,or_false] at hm
  rcases hm with rfl | rfl
  ·cases List.eq_of_mem_replicate hx
  ·cases List.eq_of_mem_replicate hx
 ·rw [b.ce] at hc;cases hc
 ·rw [b.ce] at hc;cases hc
theorem B0.fit (b:B0 D M) (o:DrOk D):M.used + (1 + D.n + D.bulk)≤M.room:=by
 have:=o.n
 have:=o.bulk
 rw [b.used,b.room]
 split
 ·omega
 ·have:(10:Int) ^ 15=1000000000000000:=by decide
  omega
theorem B0.cells (b:B0 D M):(madeM M D).cells=[some (cN D M.sw.sense)]:=by
 show putO M.cells ⟨M.born + 1,D.bulk,M.sw.sense,0,List.replicate D.n.toNat none⟩=_
 rw [b.ce,b.born];rfl
theorem B0.made (b:B0 D M) (ph:M.sw.phase="rest"∨M.sw.phase="walk") (hm:markM M 0 (cN D M.sw.sense)=mkW D.wh):P0 D (madeM M D):=by
 refine ⟨b.room,?_,?_,⟨M.sw.sense,b.se,b.cells,hm⟩,?_,b.nm,ph,b.gr,b.se,b.tl⟩
 ·show M.used + (1 + D.n + D.bulk)=_
  rw [b.used];omega
 ·show M.born + 1=1
  rw [b.born];rfl
 ·show M.hands.modify D.h.toNat (fun m=>(m.1,m.2.set D.t.toNat (some (fst0 M.cells:Int))))=_
  rw [b.hd,b.ce];rfl
theorem B0.begun (b:B0 D M) (hs:M.sw.sense=0) (hw:D.wh=1):P0 D (beginM (madeM M D)):=by
 refine ⟨b.room,?_,?_,⟨M.sw.sense,b.se,b.cells,?_⟩,?_,b.nm,.inr rfl,rfl,?_,b.tl⟩
 ·show M.used + (1 + D.n + D.bulk)=_
  rw [b.used];omega
 ·show M.born + 1=1
  rw [b.born];rfl
 ·rw [hs,hw]
  unfold markM
  rw [if_neg (show ¬ (beginM (madeM M D)).sw.phase="rest" from by show ¬ ("walk":Str)="rest";decide),if_neg (show ¬ (beginM (madeM M D)).sw.phase="give" from by show ¬ ("walk":Str)="give";decide)]
  rw [if_neg (show ¬ (cN D 0).tone=(beginM (madeM M D)).sw.sense from by show ¬ (0:Int)=1 - M.sw.sense;rw [hs];decide)]
  rfl
 ·show M.hands.modify D.h.toNat (fun m=>(m.1,m.2.set D.t.toNat (some (fst0 M.cells:Int))))=_
  rw [b.hd,b.ce];rfl
 ·show 1 - M.sw.sense=0∨1 - M.sw.sense=1
  omega
theorem mark_rest (h:M.sw.phase="rest") {c:Ce}:markM M 0 c="kept":=by unfold markM;rw [if_pos h]
theorem mark_dark (h:M.sw.phase="walk") (hg:M.sw.grey=[]) {c:Ce} (hc:c.tone=M.sw.sense):markM M 0 c="dark":=by
 unfold markM
 rw [h,if_neg (by decide),if_neg (by decide),if_pos hc,hg,if_neg (by simp)]
end
def S_worldL (X:Cs):Sp:=fun vs H Q E=>∃ c d,vs=[.int c,.ref d]∧∃ D,DrOk D∧DrAt H d D∧∀ wo H' T' A' M',Same H H'→WT H' T'→WJ X H' T' 1 A' M'→A'.wo=wo→P0 D M'→(∀ b o,H b=some o→T' b=(0,0))→Q (.ref wo) H'
section
variable {K:PySem.W.Frag}{X:Cs}{rf:Rf→Addr}{H:Hp}{Q:VK}{E:XK}{n:St→Hp→Prop}{bk ct:St→Hp→Prop}
theorem doOk {T:Tg}{A:Wa}{M M':Wm}{wo dd:Addr}{d:Deed}{e:Ev} (w:WT H T) (j:WJ X H T 1 A M) (aw:A.wo=wo) (ok:Ok M) (hc:M.cells.length≤900) (hg:M.sw.grey.length≤10000) (tl:0≤M.tells∧M.tells < 4) (nm:M.names.length≤1000) (hP:okP d) (hd:doM M d=.ok (e,M')) (od:okD M d) (ed:H dd=some (.tup (dV d)))
  (k:∀ H1 T1 A1 a,Stp 1 H H1 T T1→WJ X H1 T1 1 A1 M'→A1.wo=wo→EvO H1 a e→Q (.ref a) H1):S_doP X rf [.ref wo,.ref dd] H Q E:=by
 refine ⟨wo,dd,rfl,T,1,A,M,d,hP,w,by decide,j,aw,ed,od,ok,hc,fun _=>hg,tl,nm,fun r er=>(by rw [hd] at er;cases er),fun e' M'' he H1 T1 A1 a st j1 aw1 ev=>?_⟩
 have hh:(e',M'')=(e,M'):=by
  rw [hd] at he
  exact (Except.ok.inj he).symm
 cases hh
 exact k H1 T1 A1 a st j1 aw1 ev.o
theorem doMake {T:Tg}{A:Wa}{M:Wm}{D:Dr}{wo dd:Addr} (w:WT H T) (j:WJ X H T 1 A M) (aw:A.wo=wo) (o:DrOk D) (b:B0 D M) (ed:H dd=some (.tup [.str "make",.int D.h,.int D.t,.int D.n,.int D.bulk]))
  (k:∀ H1 T1 A1 a,Stp 1 H H1 T T1→WJ X H1 T1 1 A1 (madeM M D)→A1.wo=wo→Q (.ref a) H1):S_doP X rf [.ref wo,.ref dd] H Q E:=by
 have h:=o.h
 have t:=o.t
 have hn:=o.n
 have hb:=o.bulk
 refine doOk (d:=.make D.h.toNat D.t.toNat D.n D.bulk) w j aw b.ok (by rw [b.ce];decide) (by rw [b.gr];decide) b.tl (by rw [b.nm];decide) (.inl ⟨_,_,_,_,rfl⟩) (do_make_fit (b.fit o)) ⟨b.okS o,by omega,by omega,by omega⟩ ?_ fun H1 T1 A1 a st j1 aw1 _=>k H1 T1 A1 a st j1 aw1
 rw [ed]
 show _=some (HO.tup [.str "make",.int (D.h.toNat:Nat),.int (D.t.toNat:Nat),.int D.n,.int D.bulk])
 rw [show ((D.h.toNat:Nat):Int)=D.h from by omega,show ((D.t.toNat:Nat):Int)=D.t from by omega]
theorem _law_world_rd {c:Int}{d:Addr} (q:∃ D,DrOk D∧DrAt H d D∧∀ wo H' T' A' M',Same H H'→WT H' T'→WJ X H' T' 1 A' M'→A'.wo=wo→P0 D M'→(∀ b o,H b=some o→T' b=(0,0))→Q (.ref wo) H'):
  rd__law_world X.W (S_World_init X) S_kindL (S_begin X) (S_doP X rf) (S_kind_of X) ⟨n,Q,bk,ct⟩ [some (.int c),some (.ref d),none,none,none] H:=by
 obtain ⟨D,o,hd,q⟩:=q
 have hm:=o.many
 have hwh:=o.wh
 unfold rd__law_world
 have rest:∀ (v2:Option V) (room:Int),room=(if D.what=7 then 1 + D.n + D.bulk + (D.n + 2) else 10 ^ 15)→rd__law_world_t0_3 X.W (S_World_init X) S_kindL (S_begin X) (S_doP X rf) (S_kind_of X) ⟨n,Q,bk,ct⟩ [some (.int c),some (.ref d),v2,some (.int room),none] H:=by
  intro v2 room er
  unfold rd__law_world_t0_3
  walk_at "ev"
  refine ⟨_,rfl,fun w t H3 w0 w1 t0 t1 s3=>?_⟩
  walk_at "ev"
  refine ⟨_,rfl,w,t,w0,w1,t0,t1,rfl,fun ki lk H4 s4 nki nlk kd=>?_⟩
  have s04:=s3.trans s4
  have hd4:=hd.same s04
  walk_at "ev"
  refine ⟨d,_,rfl,hd4.many,?_⟩
  walk_at "ev"
  refine ⟨Zaj (by simp),fun ta nta=>?_⟩
  have s5:=same_new nta (.tup [.str "one",.int D.many])
  have g5:upd H4 ta (.tup [.str "one",.int D.many]) ta=some (.tup [.str "one",.int D.many]):=upd_same
  generalize upd H4 ta (.tup [.str "one",.int D.many])=H5 at s5 g5 ⊢
  have hd5:=hd4.same s5
  walk_at "ev"
  refine ⟨d,_,rfl,hd5.many,?_⟩
  walk_at "ev"
  refine ⟨Zaj (by simp),fun tb ntb=>?_⟩
  have s5b:=same_new ntb (.tup [.str "two",.int D.many])
  have g5b:upd H5 tb (.tup [.str "two",.int D.many]) tb=some (.tup [.str "two",.int D.many]):=upd_same
  generalize upd H5 tb (.tup [.str "two",.int D.many])=H5b at s5b g5b ⊢
  walk_at "ev"
  refine ⟨Zaj (by simp),fun hl0 nhl0=>?_⟩
  have s6:=same_new nhl0 (.lst [.ref ta,.ref tb])
  have g6:upd H5b hl0 (.lst [.ref ta,.ref tb]) hl0=some (.lst ([ta,tb].map V.ref)):=upd_same
  generalize upd H5b hl0 (.lst [.ref ta,.ref tb])=H6 at s6 g6 ⊢
  have ota:=s6 _ _ (s5b _ _ g5)
  have otb:=s6 _ _ g5b
  have kd6:=((kd.same s5).same s5b).same s6
  have s06:=s04.trans (s5.trans (s5b.trans s6))
  walk_at "ev"
  intro wo dx nwo ndx ned
  have s7:Same H6 (upd (upd H6 dx (.own wo)) wo (.ins X.W dx [])):=fun b o hb=>by rw [upd_ne (ne_of_none hb nwo),upd_ne (ne_of_none hb ndx)];exact hb
  have g7:upd (upd H6 dx (.own wo)) wo (.ins X.W dx []) wo=some (.ins X.W dx []):=upd_same
  generalize upd (upd H6 dx (.own wo)) wo (.ins X.W dx [])=H7 at s7 g7 ⊢
  have kd7:=kd6.same s7
  have nkw:ki≠wo:=by
   obtain ⟨⟨_,e⟩,_⟩:=kd6
   exact ne_of_none e nwo
  have nlw:lk≠wo:=by
   obtain ⟨_,⟨_,e⟩⟩:=kd6
   rcases e with ⟨_,e⟩ | ⟨_,e⟩ | ⟨_,e⟩
   ·exact ne_of_none e nwo
   ·exact ne_of_none e nwo
   ·exact ne_of_none e nwo
  refine ⟨wo,_,ki,hl0,rfl,dx,fun _=>(0,0),1,lk,w,t,[ta,tb],[("one",D.many),("two",D.many)],g7,fun _ _=>rfl,by decide,kd7,rfl,rfl,nkw,nlw,s7 _ _ g6,.cons ⟨s7 _ _ ota,by show 0≤D.many;omega,by show D.many≤1000;omega⟩ (.cons ⟨s7 _ _ otb,by show 0≤D.many;omega,by show D.many≤1000;omega⟩ .nil),by show 2≤30;decide,fun H8 T8 A8 k8 t8 w8 aw8 j8=>⟨rfl,?_⟩⟩
  have s08:Same H H8:=s06.trans fun b o hb=>k8 b o (s7 _ _ hb) (ne_of_none hb nwo)
  have kt8:∀ b o,H b=some o→T8 b=(0,0):=fun b o hb=>t8 b o (s7 _ _ (s06 _ _ hb)) (ne_of_none (s06 _ _ hb) nwo)
  have hd8:=hd.same s08
  have b0:B0 D (newW room [("one",D.many),("two",D.many)] w t):=⟨er,rfl,rfl,rfl,rfl,rfl,rfl,.inl rfl,⟨t0,t1⟩⟩
  have hs0:(newW room [("one",D.many),("two",D.many)] w t).sw.sense=0:=rfl
  have hp0:(newW room [("one",D.many),("two",D.many)] w t).sw.phase="rest":=rfl
  generalize newW room [("one",D.many),("two",D.many)] w t=M0 at j8 b0 hs0 hp0
  clear k8 t8 s06 s7 g7 kd7 kd6 s6 s5 s5b
  have mk:∀ (M:Wm) (H9:Hp) (T9:Tg) (A9:Wa),WT H9 T9→WJ X H9 T9 1 A9 M→A9.wo=wo→B0 D M→DrAt H9 d D→∀ (Q':VK),(∀ H1 T1 A1 a,Kp H9 H1 T9 T1→WT H1 T1→WJ X H1 T1 1 A1 (madeM M D)→A1.wo=wo→Q' (.ref a) H1)→
    tCall (S_doP X rf) [] E0 (tCons (tVar 4) (tCons (tTup (tCons (tC (.str "make")) (tCons (tDGet (tVar 1) (tC (.str "h"))) (tCons (tDGet (tVar 1) (tC (.str "t"))) (tCons (tDGet (tVar 1) (tC (.str "n"))) (tCons (tDGet (tVar 1) (tC (.str "bulk"))) tNil)))))) tNil)) [some (.int c),some (.ref d),v2,some (.int room),some (.ref wo)] H9 Q':=by
   intro M H9 T9 A9 w9 j9 aw9 b9 hd9 Q' k9
   walk_at "ev"
   refine ⟨d,_,rfl,hd9.h,?_⟩
   walk_at "ev"
   refine ⟨d,_,rfl,hd9.t,?_⟩
   walk_at "ev"
   refine ⟨d,_,rfl,hd9.n,?_⟩
   walk_at "ev"
   refine ⟨d,_,rfl,hd9.bulk,?_⟩
   walk_at "ev"
   refine ⟨Zaj (by simp),fun dd ndd=>?_⟩
   have s1:=same_new ndd (.tup [.str "make",.int D.h,.int D.t,.int D.n,.int D.bulk])
   have g1:upd H9 dd (.tup [.str "make",.int D.h,.int D.t,.int D.n,.int D.bulk]) dd=some (.tup [.str "make",.int D.h,.int D.t,.int D.n,.int D.bulk]):=upd_same
   generalize upd H9 dd (.tup [.str "make",.int D.h,.int D.t,.int D.n,.int D.bulk])=H10 at s1 g1 ⊢
   walk_at "ev"
   refine doMake (w9.same s1) (j9.same s1) aw9 o b9 g1 fun H1 T1 A1 a st j1 aw1=>?_
   exact k9 H1 T1 A1 a ((Kp.same s1).trans (Kp.stp st (by decide))) st.wt j1 aw1
  have fin:∀ (H1:Hp) (T1:Tg) (A1:Wa) (M1:Wm),Kp H8 H1 T8 T1→WT H1 T1→WJ X H1 T1 1 A1 M1→A1.wo=wo→P0 D M1→Q (.ref wo) H1:=fun H1 T1 A1 M1 k1 w1 j1 aw1 p1=>
   q wo H1 T1 A1 M1 (fun b o hb=>(k1.k b o (s08 _ _ hb) (kt8 b o hb)).1) w1 j1 aw1 p1 fun b o hb=>(k1.k b o (s08 _ _ hb) (kt8 b o hb)).2
  have dK:∀ {H1:Hp}{T1:Tg},Kp H8 H1 T8 T1→DrAt H1 d D:=fun k1=>(k1.k d _ hd8 (kt8 d _ hd)).1
  walk_at "ev"
  refine ⟨d,_,rfl,hd8.wh,?_⟩
  have h3:D.wh=0∨D.wh=1∨D.wh=2:=by omega
  rcases h3 with e | e | e
  ·walk_at "ev"
   refine ifd (fun z=>absurd z (by omega)) (fun _=>?_)
   refine i_next ?_
   refine i_seq ?_
   refine i_drop ?_
   refine mk M0 H8 T8 A8 w8 j8 aw8 b0 hd8 _ fun H1 T1 A1 a k1 w1 j1 aw1=>?_
   walk_at "ev"
   refine ⟨d,_,rfl,(dK k1).wh,?_⟩
   walk_at "ev"
   refine ifd (fun z=>absurd z (by omega)) (fun _=>?_)
   walk_at "ev"
   exact fin H1 T1 A1 _ k1 w1 j1 aw1 (b0.made (.inl hp0) (by rw [mark_rest hp0,e];rfl))
  ·walk_at "ev"
   refine ifd (fun z=>absurd z (by omega)) (fun _=>?_)
   refine i_next ?_
   refine i_seq ?_
   refine i_drop ?_
   refine mk M0 H8 T8 A8 w8 j8 aw8 b0 hd8 _ fun H1 T1 A1 a k1 w1 j1 aw1=>?_
   walk_at "ev"
   refine ⟨d,_,rfl,(dK k1).wh,?_⟩
   walk_at "ev"
   refine ifd (fun _=>?_) (fun z=>absurd e z)
   walk_at "ev"
   refine ⟨wo,rfl,T1,1,A1,_,w1,by decide,j1,aw1,fun H2 T2 A2 st2 j2 aw2=>?_⟩
   walk_at "ev"
   exact fin H2 T2 A2 _ (k1.trans (Kp.stp st2 (by decide))) st2.wt j2 aw2 (b0.begun hs0 e)
  ·walk_at "ev"
   refine ifd (fun _=>?_) (fun z=>absurd e z)
   walk_at "ev"
   refine ⟨wo,rfl,T8,1,A8,_,w8,by decide,j8,aw8,fun H2 T2 A2 st2 j2 aw2=>?_⟩
   have k2:=Kp.stp st2 (by decide)
   refine i_seq ?_
   refine i_drop ?_
   refine mk (beginM M0) H2 T2 A2 st2.wt j2 aw2 b0.begin (dK k2) _ fun H1 T1 A1 a k1 w1 j1 aw1=>?_
   have k12:=k2.trans k1
   walk_at "ev"
   refine ⟨d,_,rfl,(dK k12).wh,?_⟩
   walk_at "ev"
   refine ifd (fun z=>absurd z (by omega)) (fun _=>?_)
   walk_at "ev"
   exact fin H1 T1 A1 _ k12 w1 j1 aw1 (b0.begin.made (.inr rfl) (by rw [mark_dark rfl rfl rfl,e];rfl))
 walk_at "ev"
 refine ⟨d,_,rfl,hd.n,?_⟩
 walk_at "ev"
 refine ⟨d,_,rfl,hd.what,?_⟩
 walk_at "es"
 refine ifd (fun e7=>?_) (fun e7=>?_)
 ·walk_at "es"
  refine ⟨d,_,rfl,hd.n,?_⟩
  walk_at "es"
  refine ⟨d,_,rfl,hd.bulk,?_⟩
  walk_at "es"
  exact rest _ _ (by rw [if_pos e7])
 ·walk_at "es"
  exact rest _ _ (by rw [if_neg e7];rfl)
end
def rows1 (D:Dr):List (List (Option Int)):=[List.replicate D.many.toNat none,List.replicate D.many.toNat none].modify D.h.toNat fun r=>r.set D.t.toNat (some 1)
section
variable {D:Dr}{M:Wm}
theorem P0.rows (p:P0 D M) (o:DrOk D):rowsOf M=rows1 D:=by
 obtain ⟨tone,_,hc,_⟩:=p.cell
 have h:=o.h
 have b0:bAt M (some 0)=some 1:=by
  show (cellAt M 0).map _=_
  rw [hc];rfl
 have e1:(List.replicate D.many.toNat (none:Option Int)).map (bAt M)=List.replicate D.many.toNat none:=by rw [List.map_replicate];rfl
 have e2:((List.replicate D.many.toNat (none:Option Int)).set D.t.toNat (some 0)).map (bAt M)=(List.replicate D.many.toNat none).set D.t.toNat (some 1):=by rw [List.map_set,e1,b0]
 unfold rowsOf rows1
 rw [p.hd]
 unfold hands1 hands0
 have:D.h.toNat=0∨D.h.toNat=1:=by omega
 rcases this with e | e
 ·rw [e]
  show [_,_]=[_,_]
  dsimp only
  rw [e1,e2]
 ·rw [e]
  show [_,_]=[_,_]
  dsimp only
  rw [e1,e2]
theorem rows1_len:(rows1 D).length=2:=by unfold rows1;rw [List.length_modify];rfl
theorem rows1_row:∀ x∈rows1 D,x.length=D.many.toNat:=by
 intro x hx
 unfold rows1 at hx
 obtain ⟨k,hk,e⟩:=List.getElem_of_mem hx
 have e':=List.getElem?_eq_getElem hk
 rw [e,List.getElem?_modify] at e'
 have hk2:k < 2:=by simpa using hk
 match k,hk2 with
 | 0,_=>
  by_cases z:D.h.toNat=0
  ·simp [z] at e';rw [← e'];simp
  ·simp [z] at e';rw [← e'];simp
 | 1,_=>
  by_cases z:D.h.toNat=1
  ·simp [z] at e';rw [← e'];simp
  ·simp [z] at e';rw [← e'];simp
end
def S_standsL (X:Cs):Sp:=fun vs H Q E=>∃ wo d,vs=[.ref wo,.ref d]∧∃ T A M D,DrOk D∧DrAt H d D∧WJ X H T 1 A M∧A.wo=wo∧P0 D M∧∀ H',Same H H'→Q (.bl true) H'
section
variable {K:PySem.W.Frag}{X:Cs}{rf:Rf→Addr}{H:Hp}{Q:VK}{E:XK}{n:St→Hp→Prop}{bk ct:St→Hp→Prop}
theorem flat1 (k:Nat):(List.replicate k [V.non]).flatten=List.replicate k V.non:=by
 induction k with
 | zero=>rfl
 | succ k ih=>rw [List.replicate_succ,List.replicate_succ,List.flatten_cons,ih];rfl
theorem rowN {σ:St}{tn:TE}{m:Int} (h0:0≤m) (h1:m≤1000) (ht:∀ H' (k:VK),Same H H'→k (.int m) H'→tn σ H' k) (k:∀ r H',H r=none→Same H H'→H' r=some (.lst ((List.replicate m.toNat (none:Option Int)).map oV))→Q (.ref r) H'):tOp (rRep) (tLst (tCons (tC .non) tNil)) tn σ H Q:=by
 walk_at "ev"
 refine ⟨by decide,fun l0 hl0=>?_⟩
 have s1:=same_new hl0 (.lst [V.non])
 have g1:upd H l0 (.lst [V.non]) l0=some (.lst [V.non]):=upd_same
 generalize upd H l0 (.lst [V.non])=H1 at s1 g1 ⊢
 refine ht _ _ s1 ?_
 refine ⟨l0,m,_,rfl,rfl,g1,by omega,by omega,by show 1 * m.toNat≤sizeLine;exact Zaj (by omega),fun r hr=>?_⟩
 refine k r _ (s1.free hr) (s1.trans (same_new hr _)) ?_
 rw [upd_same,flat1,List.map_replicate];rfl
theorem _law_stands_rd {wo d:Addr} (Tx:TxW K X) (q:∃ T A M D,DrOk D∧DrAt H d D∧WJ X H T 1 A M∧A.wo=wo∧P0 D M∧∀ H',Same H H'→Q (.bl true) H'):
  rd__law_stands K (S_same 3) (S_births X) (S_told X) ⟨n,Q,bk,ct⟩ [some (.ref wo),some (.ref d),none,none] H:=by
 obtain ⟨T,A,M,D,o,hd,j,aw,p,q⟩:=q
 have hm:=o.many
 have hh:=o.h
 have htt:=o.t
 have hn:=o.n
 have rws:=p.rows o
 obtain ⟨tone,ht01,hc0,hcs⟩:=p.cell
 unfold rd__law_stands
 refine i_seq ?_
 walk_at "es"
 refine rowN (m:=D.many) (by omega) (by omega) (fun H' k s hk=>by
  walk_at "ev"
  exact ⟨d,_,rfl,(hd.same s).many,hk⟩) fun r1 H1 nr1 s1 o1=>?_
 walk_at "es"
 refine rowN (m:=D.many) (by omega) (by omega) (fun H' k s hk=>by
  walk_at "ev"
  exact ⟨d,_,rfl,((hd.same s1).same s).many,hk⟩) fun r2 H2 nr2 s2 o2=>?_
 walk_at "es"
 refine ⟨Zaj (by simp),fun lr nlr=>?_⟩
 have n12:r1≠r2:=ne_of_none o1 nr2
 have o1:=s2 _ _ o1
 have nl1:r1≠lr:=ne_of_none o1 nlr
 have nl2:r2≠lr:=ne_of_none o2 nlr
 have s3:=same_new nlr (.lst [.ref r1,.ref r2])
 have o3:upd H2 lr (.lst [.ref r1,.ref r2]) lr=some (.lst ([r1,r2].map V.ref)):=upd_same
 generalize upd H2 lr (.lst [.ref r1,.ref r2])=H3 at s3 o3 ⊢
 have o1:=s3 _ _ o1
 have o2:=s3 _ _ o2
 have s03:=s1.trans (s2.trans s3)
 have hd3:=hd.same s03
 walk_at "ev"
 refine ⟨d,_,rfl,hd3.h,?_⟩
 have hget:∃ rh,[r1,r2][D.h.toNat]? =some rh∧H3 rh=some (.lst ((List.replicate D.many.toNat (none:Option Int)).map oV))∧H rh=none:=by
  have:D.h.toNat=0∨D.h.toNat=1:=by omega
  rcases this with e | e
  ·exact ⟨r1,by rw [e];rfl,o1,nr1⟩
  ·exact ⟨r2,by rw [e];rfl,o2,s1.free nr2⟩
 obtain ⟨rh,hrh,orh,nrh⟩:=hget
 refine i_ixL (SqL.of o3) (i:=D.h) (v:=.ref rh) (atI_int hh.1 (by rw [List.getElem?_map,hrh];rfl)) ?_
 walk_at "ev"
 refine ⟨d,_,rfl,hd3.t,?_⟩
 walk_at "ev"
 refine ⟨rh,_,_,D.t.toNat,rfl,rfl,orh,?_,?_⟩
 ·rw [List.length_map,List.length_replicate,show D.t=((D.t.toNat:Nat):Int) from by omega]
  exact ixN_nat (by omega)
 rw [show ((List.replicate D.many.toNat (none:Option Int)).map oV).set D.t.toNat (.int 1)=((List.replicate D.many.toNat none).set D.t.toNat (some 1)).map oV from by rw [List.map_set];rfl]
 have s4:Same H (upd H3 rh (.lst (((List.replicate D.many.toNat none).set D.t.toNat (some 1)).map oV))):=fun b u hb=>by rw [upd_ne (ne_of_none hb nrh)];exact s03 _ _ hb
 have nlh:lr≠rh:=by
  have hmem:=List.mem_of_getElem? hrh
  simp only [List.mem_cons,List.not_mem_nil,or_false] at hmem
  rcases hmem with rfl | rfl
  ·exact nl1.symm
  ·exact nl2.symm
 have o4:upd H3 rh (.lst (((List.replicate D.many.toNat none).set D.t.toNat (some 1)).map oV)) lr=some (.lst ([r1,r2].map V.ref)):=by rw [upd_ne nlh];exact o3
 have rows4:∀ (k:Nat) r x,[r1,r2][k]? =some r→(rows1 D)[k]? =some x→upd H3 rh (.lst (((List.replicate D.many.toNat none).set D.t.toNat (some 1)).map oV)) r=some (.lst (x.map oV)):=by
  intro k r x e1 e2
  unfold rows1 at e2
  rw [List.getElem?_modify] at e2
  have:D.h.toNat=0∨D.h.toNat=1:=by omega
  match k,e1,e2 with
  | 0,e1,e2=>
   have er:r1=r:=by simpa using e1
   subst er
   rcases this with e | e
   ·rw [e] at hrh
    have:r1=rh:=by simpa using hrh
    subst this
    have ex:(List.replicate D.many.toNat (none:Option Int)).set D.t.toNat (some 1)=x:=by simpa [e] using e2
    rw [upd_same,ex]
   ·rw [e] at hrh
    have:r2=rh:=by simpa using hrh
    subst this
    have ex:List.replicate D.many.toNat (none:Option Int)=x:=by simpa [e] using e2
    rw [upd_ne n12,← ex];exact o1
  | 1,e1,e2=>
   have er:r2=r:=by simpa using e1
   subst er
   rcases this with e | e
   ·rw [e] at hrh
    have:r1=rh:=by simpa using hrh
    subst this
    have ex:List.replicate D.many.toNat (none:Option Int)=x:=by simpa [e] using e2
    rw [upd_ne (Ne.symm n12),← ex];exact o2
   ·rw [e] at hrh
    have:r2=rh:=by simpa using hrh
    subst this
    have ex:(List.replicate D.many.toNat (none:Option Int)).set D.t.toNat (some 1)=x:=by simpa [e] using e2
    rw [upd_same,ex]
  | k + 2,e1,e2=>cases e1
 generalize upd H3 rh (.lst (((List.replicate D.many.toNat none).set D.t.toNat (some 1)).map oV))=H4 at s4 o4 rows4 ⊢
 clear s03 s1 s2 s3 o1 o2 o3 orh hd3
 have j4:=j.same s4
 walk_at "ev"
 refine ⟨wo,rfl,T,1,A,M,j4,aw,by rw [hcs];show 1≤1000;decide,fun m hm'=>?_,fun lb lbs H5 s5 b1 b2 b3=>?_⟩
 ·have:m.2.length=D.many.toNat:=by
   have hr:m.2.map (bAt M)∈rowsOf M:=List.mem_map.mpr ⟨m,hm',rfl⟩
   rw [rws] at hr
   have:=rows1_row _ hr
   rwa [List.length_map] at this
  omega
 walk_at "ev"
 have hd5:=hd.same (s4.trans s5)
 refine ⟨.ref lb,.ref lr,rfl,sm_rows b1 (s5 _ _ o4) b2 (by rw [rws,rows1_len];rfl) (by rw [rws,rows1_len];decide) (fun x hx=>by rw [rws] at hx;rw [rows1_row x hx];omega) b3 (fun k r x e1 e2=>s5 _ _ (rows4 k r x e1 (by rw [rws] at e2;exact e2))),?_⟩
 have s05:=s4.trans s5
 have j5:=j.same s05
 obtain ⟨dw,ow⟩:=j5.jb.ow
 obtain ⟨dh,oh⟩:=j5.jh.oh
 rw [aw] at ow
 walk_at "ev"
 refine Zaa ow Tx.cW Tx.nWh Zat ?_
 refine Zaa oh Tx.c.cl_Heap Tx.c.n_Heap_used heapF_lk_used ?_
 walk_at "ev"
 refine Zaa ow Tx.cW Tx.nWh Zat ?_
 refine Zaa oh Tx.c.cl_Heap Tx.c.n_Heap_born heapF_lk_born ?_
 walk_at "ev"
 refine ⟨Zaj (by simp),fun l6 nl6=>?_⟩
 have s6:=same_new nl6 (.lst [.int M.used,.int M.born])
 have o6:upd H5 l6 (.lst [.int M.used,.int M.born]) l6=some (.lst [.int M.used,.int M.born]):=upd_same
 generalize upd H5 l6 (.lst [.int M.used,.int M.born])=H6 at s6 o6 ⊢
 have hd6:=hd5.same s6
 walk_at "ev"
 refine ⟨d,_,rfl,hd6.n,?_⟩
 walk_at "ev"
 refine ⟨d,_,rfl,hd6.bulk,?_⟩
 walk_at "ev"
 refine ⟨Zaj (by simp),fun l7 nl7=>?_⟩
 have s7:=same_new nl7 (.lst [.int (1 + D.n + D.bulk),.int 1])
 have o7:upd H6 l7 (.lst [.int (1 + D.n + D.bulk),.int 1]) l7=some (.lst [.int (1 + D.n + D.bulk),.int 1]):=upd_same
 have o6:=s7 _ _ o6
 generalize upd H6 l7 (.lst [.int (1 + D.n + D.bulk),.int 1])=H7 at s7 o6 o7 ⊢
 rw [p.used,p.born] at o6
 walk_at "ev"
 refine ⟨.ref l6,.ref l7,rfl,.inr ⟨l6,l7,_,_,rfl,rfl,.inl ⟨o6,o7⟩,by show 2≤1000000;decide,sm_flats rfl⟩,?_⟩
 have s07:=s05.trans (s6.trans s7)
 have hd7:=hd.same s07
 walk_at "ev"
 refine ⟨d,_,rfl,hd7.bulk,?_⟩
 walk_at "ev"
 refine rowN (m:=D.n) (by omega) (by omega) (fun H' k s hk=>by
  walk_at "ev"
  exact ⟨d,_,rfl,(hd7.same s).n,hk⟩) fun r8 H8 nr8 s8 o8=>?_
 have hd8:=hd7.same s8
 walk_at "ev"
 refine ⟨d,_,rfl,hd8.mark,?_⟩
 walk_at "ev"
 refine ⟨Zaj (by simp),fun t9 nt9=>?_⟩
 have s9:=same_new nt9 (.tup [.int 0,.int 1,.int D.bulk,.int 0,.ref r8,.str (mkW D.wh)])
 have o9:upd H8 t9 (.tup [.int 0,.int 1,.int D.bulk,.int 0,.ref r8,.str (mkW D.wh)]) t9=some (.tup [.int 0,.int 1,.int D.bulk,.int 0,.ref r8,.str (mkW D.wh)]):=upd_same
 have o8:=s9 _ _ o8
 generalize upd H8 t9 (.tup [.int 0,.int 1,.int D.bulk,.int 0,.ref r8,.str (mkW D.wh)])=H9 at s9 o8 o9 ⊢
 walk_at "ev"
 refine ⟨Zaj (by simp),fun l10 nl10=>?_⟩
 have s10:=same_new nl10 (.lst [.ref t9])
 have o10:upd H9 l10 (.lst [.ref t9]) l10=some (.lst [.ref t9]):=upd_same
 have o8:=s10 _ _ o8
 have o9:=s10 _ _ o9
 generalize upd H9 l10 (.lst [.ref t9])=H10 at s10 o8 o9 o10 ⊢
 have s010:=s07.trans (s8.trans (s9.trans s10))
 have j10:=j.same s010
 walk_at "ev"
 refine ⟨wo,rfl,T,1,A,M,j10,aw,by rw [hcs];show 1≤1000;decide,fun c hc=>?_,fun lt lts H11 s11 g1 g2 g3=>?_⟩
 ·rw [hcs] at hc
  have e:c=cN D tone:=by simpa using hc
  subst e
  show (List.replicate D.n.toNat none).length≤1000
  rw [List.length_replicate];omega
 have told:toldM M=[((0:Int),cN D tone)]:=by
  unfold toldM
  rw [hcs];rfl
 rw [told] at g2 g3
 obtain ⟨rt,hrt⟩:∃ r,lts=[r]:=by
  match lts,g2 with
  | [r],_=>exact ⟨r,rfl⟩
 subst hrt
 obtain ⟨f,c1,c2⟩:=g3 0 rt _ rfl rfl
 have hmark:markM M 0 (cN D tone)=mkW D.wh:=by
  obtain ⟨t',_,e1,e2⟩:=p.ce
  rw [hcs] at e1
  have e3:cN D tone=cN D t':=by simpa using e1
  rw [e3];exact e2
 have ef:((cN D tone).fl.map (bAt M)).map oV=(List.replicate D.n.toNat (none:Option Int)).map oV:=by
  show ((List.replicate D.n.toNat (none:Option Int)).map (bAt M)).map oV=_
  rw [List.map_replicate];rfl
 have c1:H11 rt=some (.tup [.int 0,.int 1,.int D.bulk,.int 0,.ref f,.str (mkW D.wh)]):=by rw [← hmark];exact c1
 have c2:H11 f=some (.lst ((List.replicate D.n.toNat (none:Option Int)).map oV)):=by rw [← ef];exact c2
 have o8:=s11 _ _ o8
 have o9:=s11 _ _ o9
 have o10:=s11 _ _ o10
 walk_at "ev"
 refine ⟨.ref lt,.ref l10,rfl,?_,?_⟩
 ·refine .inr ⟨lt,l10,_,_,rfl,rfl,.inl ⟨g1,o10⟩,by show 1≤1000000;decide,.cons ?_ .nil⟩
  refine .inr ⟨rt,t9,_,_,rfl,rfl,.inr ⟨c1,o9⟩,by show 6≤1000000;decide,?_⟩
  refine .cons (sm_flat rfl) (.cons (sm_flat rfl) (.cons (sm_flat rfl) (.cons (sm_flat rfl) (.cons ?_ (.cons (sm_flat rfl) .nil)))))
  exact .inr ⟨f,r8,_,_,rfl,rfl,.inl ⟨c2,o8⟩,by rw [List.length_map,List.length_replicate];omega,sm_flats (all_oV _)⟩
 have s011:=s010.trans s11
 have j11:=j.same s011
 obtain ⟨dw11,ow11⟩:=j11.jb.ow
 rw [aw] at ow11
 walk_at "ev"
 refine Zaa ow11 Tx.cW Tx.nWn worldF_lk_names ?_
 walk_at "ev"
 intro d12 nd12
 have om:=j11.jn.om
 rw [p.nm] at om
 refine i_eqD0 (kvs:=nmK [] A.ns) ((same_new nd12 _) _ _ om) upd_same ?_
 exact q _ (s011.trans (same_new nd12 _))
end
def dueL:List (Str×Option Int):=[("got",none),("put",none),("wrote",some 0),("read",some 0),("named",some 2),("got",none),("put",none),("made",some 2),("sought",some 1)]
section
variable {D:Dr}{M:Wm}
def moreM (M:Wm) (D:Dr) (k:Nat):Wm:=setSlot { M with used:=M.used + (1 + (D.f + 1) + 0),born:=M.born + 1,cells:=putO M.cells ⟨M.born + 1,0,M.sw.sense,0,List.replicate (D.f + 1).toNat none⟩ } D.h.toNat k (some (fst0 M.cells))
theorem slot_set {M:Wm}{h k:Nat}{x:Option Int} (o:okS M h k):Za9 (setSlot M h k x) h k=x:=by
 obtain ⟨m,hm,hk⟩:=o
 refine slotOf_eq (m:=(m.1,m.2.set k x)) ?_ ?_
 ·rw [setSlot_hands hm,List.getElem?_set_self (List.getElem?_eq_some_iff.mp hm).1]
 ·rw [List.getElem?_set_self hk]
theorem P0.more_cell (p:P0 D M) (k:Nat):cellAt (moreM M D k) 1=some ⟨2,0,M.sw.sense,0,List.replicate (D.f + 1).toNat none⟩:=by
 obtain ⟨tone,_,_,hcs⟩:=p.cell
 have e:(moreM M D k).cells=[some (cN D tone),some ⟨2,0,M.sw.sense,0,List.replicate (D.f + 1).toNat none⟩]:=by
  show putO M.cells ⟨M.born + 1,0,M.sw.sense,0,List.replicate (D.f + 1).toNat none⟩=_
  rw [hcs,p.born];rfl
 unfold cellAt
 rw [e];rfl
theorem P0.more_slot (p:P0 D M) {k:Nat} (o:K21.okS M D.h.toNat k):Za9 (moreM M D k) D.h.toNat k=some 1:=by
 obtain ⟨tone,_,_,hcs⟩:=p.cell
 have e:(fst0 M.cells:Int)=1:=by rw [hcs];rfl
 unfold moreM
 rw [e]
 refine slot_set ?_
 exact o
theorem P0.more_ok (p:P0 D M) (k:Nat):Ok (moreM M D k):=by
 unfold moreM
 refine Ok.slot (p.ok.put (fun x hx=>?_) p.se) fun y ey=>?_
 ·cases List.eq_of_mem_replicate hx
 ·cases ey
  exact ⟨_,cellAt_new⟩
theorem P0.more_len (p:P0 D M) (k:Nat):(moreM M D k).cells.length≤900:=by
 obtain ⟨tone,_,_,hcs⟩:=p.cell
 have:=putO_le M.cells (⟨M.born + 1,0,M.sw.sense,0,List.replicate (D.f + 1).toNat none⟩:Ce)
 rw [hcs] at this
 show (putO M.cells _).length≤900
 rw [hcs]
 simp only [List.length_singleton] at this
 omega
theorem P0.fit (p:P0 D M) (o:DrOk D) (h7:D.what≠7):M.used + (1 + (D.f + 1) + 0)≤M.room:=by
 have:=o.n
 have:=o.bulk
 have:=o.f
 rw [p.used,p.room,if_neg h7]
 have:(10:Int) ^ 15=1000000000000000:=by decide
 omega
theorem okS_more {k h s:Nat} (o:K21.okS M h s):K21.okS (moreM M D k) h s:=by
 unfold moreM
 refine okS_set ?_
 exact o
theorem fl_more (o:DrOk D):(List.replicate (D.f + 1).toNat (none:Option Int))[D.f.toNat]? =some none:=by
 have:=o.f
 rw [List.getElem?_replicate,if_pos (by omega)]
theorem do_get {M:Wm}{h s t f:Nat}{x:Int}{c:Ce}{v:Option Int} (h1:Za9 M h t=some x) (h2:cellAt M x=some c) (h3:c.fl[f]? =some v):doM M (.get h s t f)=.ok (⟨"got",bAt M v,[]⟩,setSlot M h s v):=by
 show (match Za9 M h t with | none=>_ | some x=>_)=_
 rw [h1]
 show (match cellAt M x with | none=>_ | some c=>_)=_
 rw [h2]
 show (match c.fl[f]? with | none=>_ | some v=>_)=_
 rw [h3]
theorem do_put {M:Wm}{h t f s:Nat}{x:Int}{c:Ce}{v:Option Int} (h1:Za9 M h t=some x) (h2:cellAt M x=some c) (h3:c.fl[f]? =some v):∃ ns M',doM M (.put h t f s)=.ok (⟨"put",bAt M v,ns⟩,M'):=by
 refine ⟨(notesM (setCell M x { c with fl:=c.fl.set f (Za9 M h s) }) ((if old? M=true then [v] else []) ++ if (new? M && !lookedAt M h)=true then [Za9 M h s] else [])).1,(notesM (setCell M x { c with fl:=c.fl.set f (Za9 M h s) }) ((if old? M=true then [v] else []) ++ if (new? M && !lookedAt M h)=true then [Za9 M h s] else [])).2,?_⟩
 show (match Za9 M h t with | none=>_ | some x=>_)=_
 rw [h1]
 show (match cellAt M x with | none=>_ | some c=>_)=_
 rw [h2]
 show (match c.fl[f]? with | none=>_ | some v=>_)=_
 rw [h3]
theorem do_write {M:Wm}{h t:Nat}{x l:Int}{c:Ce} (h1:Za9 M h t=some x) (h2:cellAt M x=some c):∃ M',doM M (.write h t l)=.ok (⟨"wrote",some c.load,[]⟩,M'):=by
 refine ⟨setCell M x { c with load:=l },?_⟩
 show (match Za9 M h t with | none=>_ | some x=>_)=_
 rw [h1]
 show (match cellAt M x with | none=>_ | some c=>_)=_
 rw [h2]
theorem do_read {M:Wm}{h t:Nat}{x:Int}{c:Ce} (h1:Za9 M h t=some x) (h2:cellAt M x=some c):∃ M',doM M (.read h t)=.ok (⟨"read",some c.load,[]⟩,M'):=by
 refine ⟨M,?_⟩
 show (match Za9 M h t with | none=>_ | some x=>_)=_
 rw [h1]
 show (match cellAt M x with | none=>_ | some c=>_)=_
 rw [h2]
theorem do_name {M:Wm}{h t:Nat}{x:Int}{c:Ce}{z:Str} (h1:Za9 M h t=some x) (h2:cellAt M x=some c):doM M (.name h t z)=.ok (⟨"named",some c.birth,[]⟩,{ M with names:=putNm M.names z (x,c.birth) }):=by
 show (match Za9 M h t with | none=>_ | some x=>_)=_
 rw [h1]
 show (match cellAt M x with | none=>_ | some c=>_)=_
 rw [h2]
theorem do_seek {M:Wm}{h s:Nat}{z:Str}{p b:Int} (h1:getNm M.names z=some (p,b)) (h2:goneM M p b=false):∃ ns M',doM M (.seek h s z)=.ok (⟨"sought",some b,ns⟩,M'):=by
 refine ⟨(notesM (setSlot M h s (some p)) [some p]).1,(notesM (setSlot M h s (some p)) [some p]).2,?_⟩
 show (match getNm M.names z with | none=>_ | some (p,b)=>_)=_
 rw [h1]
 show (if goneM M p b=true then _ else _)=_
 rw [if_neg (by rw [h2];decide)]
theorem P0.good_u (p:P0 D M) (o:DrOk D) (h5:D.what < 5):∃ e M',doM (moreM M D D.u.toNat) (deedOf D)=.ok (e,M')∧dueL[D.what.toNat]? =some (e.word,e.thing):=by
 have su:=p.more_slot (p.okS o o.u.1 o.u.2)
 have cu:=p.more_cell D.u.toNat
 have fu:=fl_more o
 unfold deedOf
 have h0:=o.what
 have:D.what=0∨D.what=1∨D.what=2∨D.what=3∨D.what=4:=by omega
 rcases this with e | e | e | e | e<;>rw [e]
 ·exact ⟨_,_,do_get su cu fu,rfl⟩
 ·obtain ⟨ns,M',h⟩:=do_put (s:=D.t.toNat) su cu fu
  exact ⟨_,_,h,rfl⟩
 ·obtain ⟨M',h⟩:=do_write (l:=D.load) su cu
  exact ⟨_,_,h,rfl⟩
 ·obtain ⟨M',h⟩:=do_read su cu
  exact ⟨_,_,h,rfl⟩
 ·exact ⟨_,_,do_name su cu,rfl⟩
theorem P0.good_t (p:P0 D M) (o:DrOk D) (h5:D.what=5∨D.what=6):∃ e M',doM (moreM M D D.t.toNat) (deedOf D)=.ok (e,M')∧dueL[D.what.toNat]? =some (e.word,e.thing):=by
 have su:=p.more_slot (p.okS o o.t.1 o.t.2)
 have cu:=p.more_cell D.t.toNat
 have fu:=fl_more o
 unfold deedOf
 rcases h5 with e | e<;>rw [e]
 ·exact ⟨_,_,do_get su cu fu,rfl⟩
 ·obtain ⟨ns,M',h⟩:=do_put (s:=D.t.toNat) su cu fu
  exact ⟨_,_,h,rfl⟩
theorem P0.good_7 (p:P0 D M) (o:DrOk D) (h7:D.what=7):∃ e M',doM M (.make D.h.toNat D.into.toNat D.n 1)=.ok (e,M')∧dueL[D.what.toNat]? =some (e.word,e.thing):=by
 refine ⟨_,_,do_make_fit (by rw [p.used,p.room,if_pos h7];omega),?_⟩
 rw [h7,p.born];rfl
theorem P0.good_8 (p:P0 D M) (o:DrOk D) (h8:D.what=8):∃ M1,doM M (.name D.h.toNat D.t.toNat "owl")=.ok (⟨"named",some 1,[]⟩,M1)∧Ok M1∧K21.okD M1 (deedOf D)∧M1.cells.length≤900∧M1.sw.grey=[]∧(0≤M1.tells∧M1.tells < 4)∧M1.names.length≤1000∧∃ e M',doM M1 (deedOf D)=.ok (e,M')∧dueL[D.what.toNat]? =some (e.word,e.thing):=by
 obtain ⟨tone,ht,hc,hcs⟩:=p.cell
 have ok:=p.ok
 have hg:goneM { M with names:=putNm M.names "owl" (0,1) } 0 1=false:=by
  show (match cellAt M 0 with | none=>_ | some c=>_)=_
  rw [hc]
  show (if (cN D tone).birth=1 then decide (M.sw.phase="give"∧(cN D tone).tone≠M.sw.sense) else true)=false
  rw [if_pos (show (cN D tone).birth=1 from rfl)]
  have:¬ M.sw.phase="give":=by
   rcases p.ph with e | e<;>rw [e]<;>decide
  simp [this]
 refine ⟨_,do_name (p.slot_t o) hc,⟨ok.sl,ok.fl,ok.tn⟩,?_,by show M.cells.length≤900;rw [hcs];show 1≤900;decide,p.gr,p.tl,by show (putNm M.names _ _).length≤1000;rw [p.nm];show 1≤1000;decide,?_⟩
 ·have:=p.okD o
  unfold deedOf at this ⊢
  rw [h8] at this ⊢
  exact this
 ·have hn:getNm (putNm M.names "owl" (0,(cN D tone).birth)) "owl"=some (0,1):=by rw [p.nm];rfl
  obtain ⟨ns,M',h⟩:=do_seek (M:={ M with names:=putNm M.names "owl" (0,(cN D tone).birth) }) (h:=D.h.toNat) (s:=D.u.toNat) hn hg
  refine ⟨⟨"sought",some 1,ns⟩,M',?_,?_⟩
  ·unfold deedOf
   rw [h8]
   exact h
  ·rw [h8];rfl
end
def S_goodL (X:Cs):Sp:=fun vs H Q E=>∃ wo d dd,vs=[.ref wo,.ref d,.ref dd]∧∃ T A M D,DrOk D∧DrAt H d D∧T d=(0,0)∧H dd=some (.tup (dV (deedOf D)))∧T dd=(0,0)∧WT H T∧WJ X H T 1 A M∧A.wo=wo∧P0 D M∧∀ H' T',Kp H H' T T'→Q (.bl true) H'
section
variable {K:PySem.W.Frag}{X:Cs}{rf:Rf→Addr}{H:Hp}{Q:VK}{E:XK}{n:St→Hp→Prop}{bk ct:St→Hp→Prop}
theorem cut02 (x y z:V):cutV [x,y,z] none (some 2)=[x,y]:=rfl
theorem good_end {T:Tg}{A:Wa}{M M':Wm}{D:Dr}{wo d dd:Addr}{d':Deed}{e:Ev} (o:DrOk D) (w:WT H T) (j:WJ X H T 1 A M) (aw:A.wo=wo) (ok:Ok M) (hc:M.cells.length≤900) (hg:M.sw.grey.length≤10000) (tl:0≤M.tells∧M.tells < 4) (nm:M.names.length≤1000) (hP:okP d') (hdo:doM M d'=.ok (e,M')) (od:okD M d') (ed:H dd=some (.tup (dV d'))) (tdd:T dd=(0,0)) (he:dueL[D.what.toNat]? =some (e.word,e.thing))
  (q:∀ H' T',Kp H H' T T'→Q (.bl true) H'):rd__law_good_t0_5 K (S_same 3) (S_doP X rf) ⟨n,Q,bk,ct⟩ [some (.ref wo),some (.ref d),some (.ref dd),some (.int D.what),none,none] H:=by
 unfold rd__law_good_t0_5
 walk_at "ev"
 have s0:Same H H:=Same.refl _
 have eH:H=H:=rfl
 refine ⟨Zaj (by simp),fun t0 nt0=>?_⟩
 have st0:=same_new nt0 (.tup [.str "got",.non])
 have ot0:upd H t0 (.tup [.str "got",.non]) t0=some (.tup [.str "got",.non]):=upd_same
 have ft0:H t0=none:=s0.free nt0
 generalize upd H t0 (.tup [.str "got",.non])=Gt0 at st0 ot0 ⊢
 have zt0:=s0.trans st0
 walk_at "ev"
 refine ⟨Zaj (by simp),fun t1 nt1=>?_⟩
 have st1:=same_new nt1 (.tup [.str "put",.non])
 have ot1:upd Gt0 t1 (.tup [.str "put",.non]) t1=some (.tup [.str "put",.non]):=upd_same
 have ft1:H t1=none:=zt0.free nt1
 generalize upd Gt0 t1 (.tup [.str "put",.non])=Gt1 at st1 ot1 ⊢
 have ot0:=st1 _ _ ot0
 have zt1:=zt0.trans st1
 walk_at "ev"
 refine ⟨Zaj (by simp),fun t2 nt2=>?_⟩
 have st2:=same_new nt2 (.tup [.str "wrote",.int 0])
 have ot2:upd Gt1 t2 (.tup [.str "wrote",.int 0]) t2=some (.tup [.str "wrote",.int 0]):=upd_same
 have ft2:H t2=none:=zt1.free nt2
 generalize upd Gt1 t2 (.tup [.str "wrote",.int 0])=Gt2 at st2 ot2 ⊢
 have ot0:=st2 _ _ ot0
 have ot1:=st2 _ _ ot1
 have zt2:=zt1.trans st2
 walk_at "ev"
 refine ⟨Zaj (by simp),fun t3 nt3=>?_⟩
 have st3:=same_new nt3 (.tup [.str "read",.int 0])
 have ot3:upd Gt2 t3 (.tup [.str "read",.int 0]) t3=some (.tup [.str "read",.int 0]):=upd_same
 have ft3:H t3=none:=zt2.free nt3
 generalize upd Gt2 t3 (.tup [.str "read",.int 0])=Gt3 at st3 ot3 ⊢
 have ot0:=st3 _ _ ot0
 have ot1:=st3 _ _ ot1
 have ot2:=st3 _ _ ot2
 have zt3:=zt2.trans st3
 walk_at "ev"
 refine ⟨Zaj (by simp),fun t4 nt4=>?_⟩
 have st4:=same_new nt4 (.tup [.str "named",.int 2])
 have ot4:upd Gt3 t4 (.tup [.str "named",.int 2]) t4=some (.tup [.str "named",.int 2]):=upd_same
 have ft4:H t4=none:=zt3.free nt4
 generalize upd Gt3 t4 (.tup [.str "named",.int 2])=Gt4 at st4 ot4 ⊢
 have ot0:=st4 _ _ ot0
 have ot1:=st4 _ _ ot1
 have ot2:=st4 _ _ ot2
 have ot3:=st4 _ _ ot3
 have zt4:=zt3.trans st4
 walk_at "ev"
 refine ⟨Zaj (by simp),fun t5 nt5=>?_⟩
 have st5:=same_new nt5 (.tup [.str "got",.non])
 have ot5:upd Gt4 t5 (.tup [.str "got",.non]) t5=some (.tup [.str "got",.non]):=upd_same
 have ft5:H t5=none:=zt4.free nt5
 generalize upd Gt4 t5 (.tup [.str "got",.non])=Gt5 at st5 ot5 ⊢
 have ot0:=st5 _ _ ot0
 have ot1:=st5 _ _ ot1
 have ot2:=st5 _ _ ot2
 have ot3:=st5 _ _ ot3
 have ot4:=st5 _ _ ot4
 have zt5:=zt4.trans st5
 walk_at "ev"
 refine ⟨Zaj (by simp),fun t6 nt6=>?_⟩
 have st6:=same_new nt6 (.tup [.str "put",.non])
 have ot6:upd Gt5 t6 (.tup [.str "put",.non]) t6=some (.tup [.str "put",.non]):=upd_same
 have ft6:H t6=none:=zt5.free nt6
 generalize upd Gt5 t6 (.tup [.str "put",.non])=Gt6 at st6 ot6 ⊢
 have ot0:=st6 _ _ ot0
 have ot1:=st6 _ _ ot1
 have ot2:=st6 _ _ ot2
 have ot3:=st6 _ _ ot3
 have ot4:=st6 _ _ ot4
 have ot5:=st6 _ _ ot5
 have zt6:=zt5.trans st6
 walk_at "ev"
 refine ⟨Zaj (by simp),fun l7 nl7=>?_⟩
 have sl7:=same_new nl7 (.lst [.ref t0,.ref t1,.ref t2,.ref t3,.ref t4,.ref t5,.ref t6])
 have ol7:upd Gt6 l7 (.lst [.ref t0,.ref t1,.ref t2,.ref t3,.ref t4,.ref t5,.ref t6]) l7=some (.lst [.ref t0,.ref t1,.ref t2,.ref t3,.ref t4,.ref t5,.ref t6]):=upd_same
 have fl7:H l7=none:=zt6.free nl7
 generalize upd Gt6 l7 (.lst [.ref t0,.ref t1,.ref t2,.ref t3,.ref t4,.ref t5,.ref t6])=Gl7 at sl7 ol7 ⊢
 have ot0:=sl7 _ _ ot0
 have ot1:=sl7 _ _ ot1
 have ot2:=sl7 _ _ ot2
 have ot3:=sl7 _ _ ot3
 have ot4:=sl7 _ _ ot4
 have ot5:=sl7 _ _ ot5
 have ot6:=sl7 _ _ ot6
 have zl7:=zt6.trans sl7
 walk_at "ev"
 refine ⟨Zaj (by simp),fun t7 nt7=>?_⟩
 have st7:=same_new nt7 (.tup [.str "made",.int 2])
 have ot7:upd Gl7 t7 (.tup [.str "made",.int 2]) t7=some (.tup [.str "made",.int 2]):=upd_same
 have ft7:H t7=none:=zl7.free nt7
 generalize upd Gl7 t7 (.tup [.str "made",.int 2])=Gt7 at st7 ot7 ⊢
 have ot0:=st7 _ _ ot0
 have ot1:=st7 _ _ ot1
 have ot2:=st7 _ _ ot2
 have ot3:=st7 _ _ ot3
 have ot4:=st7 _ _ ot4
 have ot5:=st7 _ _ ot5
 have ot6:=st7 _ _ ot6
 have ol7:=st7 _ _ ol7
 have zt7:=zl7.trans st7
 walk_at "ev"
 refine ⟨Zaj (by simp),fun t8 nt8=>?_⟩
 have st8:=same_new nt8 (.tup [.str "sought",.int 1])
 have ot8:upd Gt7 t8 (.tup [.str "sought",.int 1]) t8=some (.tup [.str "sought",.int 1]):=upd_same
 have ft8:H t8=none:=zt7.free nt8
 generalize upd Gt7 t8 (.tup [.str "sought",.int 1])=Gt8 at st8 ot8 ⊢
 have ot0:=st8 _ _ ot0
 have ot1:=st8 _ _ ot1
 have ot2:=st8 _ _ ot2
 have ot3:=st8 _ _ ot3
 have ot4:=st8 _ _ ot4
 have ot5:=st8 _ _ ot5
 have ot6:=st8 _ _ ot6
 have ol7:=st8 _ _ ol7
 have ot7:=st8 _ _ ot7
 have zt8:=zt7.trans st8
 walk_at "ev"
 refine ⟨Zaj (by simp),fun l9 nl9=>?_⟩
 have sl9:=same_new nl9 (.lst [.ref t7,.ref t8])
 have ol9:upd Gt8 l9 (.lst [.ref t7,.ref t8]) l9=some (.lst [.ref t7,.ref t8]):=upd_same
 have fl9:H l9=none:=zt8.free nl9
 generalize upd Gt8 l9 (.lst [.ref t7,.ref t8])=Gl9 at sl9 ol9 ⊢
 have ot0:=sl9 _ _ ot0
 have ot1:=sl9 _ _ ot1
 have ot2:=sl9 _ _ ot2
 have ot3:=sl9 _ _ ot3
 have ot4:=sl9 _ _ ot4
 have ot5:=sl9 _ _ ot5
 have ot6:=sl9 _ _ ot6
 have ol7:=sl9 _ _ ol7
 have ot7:=sl9 _ _ ot7
 have ot8:=sl9 _ _ ot8
 have zl9:=zt8.trans sl9
 walk_at "ev"
 refine ⟨l7,l9,_,_,rfl,rfl,ol7,ol9,Zaj (by simp),fun ld nld=>?_⟩
 have sld:=same_new nld (.lst ([.ref t0,.ref t1,.ref t2,.ref t3,.ref t4,.ref t5,.ref t6] ++ [.ref t7,.ref t8]))
 have old:upd Gl9 ld (.lst ([.ref t0,.ref t1,.ref t2,.ref t3,.ref t4,.ref t5,.ref t6] ++ [.ref t7,.ref t8])) ld=some (.lst ([t0,t1,t2,t3,t4,t5,t6,t7,t8].map V.ref)):=upd_same
 have fld:H ld=none:=zl9.free nld
 generalize upd Gl9 ld (.lst ([.ref t0,.ref t1,.ref t2,.ref t3,.ref t4,.ref t5,.ref t6] ++ [.ref t7,.ref t8]))=G0 at sld old ⊢
 have z0:=zl9.trans sld
 have ot0:=sld _ _ ot0
 have ot1:=sld _ _ ot1
 have ot2:=sld _ _ ot2
 have ot3:=sld _ _ ot3
 have ot4:=sld _ _ ot4
 have ot5:=sld _ _ ot5
 have ot6:=sld _ _ ot6
 have ot7:=sld _ _ ot7
 have ot8:=sld _ _ ot8
 have hdue:∃ tw,[t0,t1,t2,t3,t4,t5,t6,t7,t8][D.what.toNat]? =some tw∧H tw=none∧G0 tw=some (.tup [.str e.word,oV e.thing]):=by
  rcases nine o.what with e' | e' | e' | e' | e' | e' | e' | e' | e'<;>rw [e'] at he ⊢<;>have he:=Option.some.inj he
  ·exact ⟨t0,rfl,ft0,by rw [← (Prod.mk.inj he).1,← (Prod.mk.inj he).2];exact ot0⟩
  ·exact ⟨t1,rfl,ft1,by rw [← (Prod.mk.inj he).1,← (Prod.mk.inj he).2];exact ot1⟩
  ·exact ⟨t2,rfl,ft2,by rw [← (Prod.mk.inj he).1,← (Prod.mk.inj he).2];exact ot2⟩
  ·exact ⟨t3,rfl,ft3,by rw [← (Prod.mk.inj he).1,← (Prod.mk.inj he).2];exact ot3⟩
  ·exact ⟨t4,rfl,ft4,by rw [← (Prod.mk.inj he).1,← (Prod.mk.inj he).2];exact ot4⟩
  ·exact ⟨t5,rfl,ft5,by rw [← (Prod.mk.inj he).1,← (Prod.mk.inj he).2];exact ot5⟩
  ·exact ⟨t6,rfl,ft6,by rw [← (Prod.mk.inj he).1,← (Prod.mk.inj he).2];exact ot6⟩
  ·exact ⟨t7,rfl,ft7,by rw [← (Prod.mk.inj he).1,← (Prod.mk.inj he).2];exact ot7⟩
  ·exact ⟨t8,rfl,ft8,by rw [← (Prod.mk.inj he).1,← (Prod.mk.inj he).2];exact ot8⟩
 obtain ⟨tw,hw,ftw,otw⟩:=hdue
 clear ot0 ot1 ot2 ot3 ot4 ot5 ot6 ot7 ot8
 walk_at "ev"
 refine doOk (w.same z0) (j.same z0) aw ok hc hg tl nm hP hdo od (z0 _ _ ed) fun H1 T1 A1 a st j1 aw1 ev=>?_
 have k1:=(Kp.same z0).trans (Kp.stp st (by decide))
 have old:=((Kp.stp st (by decide)).k _ _ old (w _ fld)).1
 have otw:=((Kp.stp st (by decide)).k _ _ otw (w _ ftw)).1
 obtain ⟨l,ev1,ev2⟩:=ev
 walk_at "ev"
 refine i_isiT_tuple ev1 ?_
 walk_at "ev"
 refine ⟨a,_,rfl,.inr (SqT.of ev1),?_⟩
 walk_at "ev"
 refine ifd (fun _=>?_) (fun z=>absurd rfl z)
 walk_at "ev"
 refine ⟨a,_,rfl,SqT.of ev1,by show ¬ (HT.sIx 3 0 none=0∧HT.sIx 3 3 (some 2)=3);decide,fun p np=>?_⟩
 rw [cut02]
 have sp:=same_new np (.tup [.str e.word,oV e.thing])
 have op:upd H1 p (.tup [.str e.word,oV e.thing]) p=some (.tup [.str e.word,oV e.thing]):=upd_same
 generalize upd H1 p (.tup [.str e.word,oV e.thing])=H2 at sp op ⊢
 have old:=sp _ _ old
 have otw:=sp _ _ otw
 walk_at "ev"
 refine i_ixL (SqL.of old) (i:=D.what) (v:=.ref tw) (atI_int o.what.1 (by rw [List.getElem?_map,hw];rfl)) ?_
 walk_at "ev"
 refine ⟨.ref p,.ref tw,rfl,.inr ⟨p,tw,_,_,rfl,rfl,.inr ⟨op,otw⟩,by show 2≤1000000;decide,.cons (sm_flat rfl) (.cons (sm_flat (flat_oV _)) .nil)⟩,?_⟩
 exact q _ T1 (k1.trans (Kp.same sp))
end
section
variable {K:PySem.W.Frag}{X:Cs}{rf:Rf→Addr}{H:Hp}{Q:VK}{E:XK}{n:St→Hp→Prop}{bk ct:St→Hp→Prop}
theorem natI {x:Int} (h:0≤x):((x.toNat:Nat):Int)=x:=by omega
theorem _law_good_rd {wo d dd:Addr} (q:∃ T A M D,DrOk D∧DrAt H d D∧T d=(0,0)∧H dd=some (.tup (dV (deedOf D)))∧T dd=(0,0)∧WT H T∧WJ X H T 1 A M∧A.wo=wo∧P0 D M∧∀ H' T',Kp H H' T T'→Q (.bl true) H'):
  rd__law_good K (S_same 3) (S_doP X rf) ⟨n,Q,bk,ct⟩ [some (.ref wo),some (.ref d),some (.ref dd),none,none,none] H:=by
 obtain ⟨T,A,M,D,o,hd,td,hdd,tdd,w,j,aw,p,q⟩:=q
 have h9:=o.what
 have hh:=o.h
 have hu:=o.u
 have htt:=o.t
 have hf:=o.f
 have hn:=o.n
 have hi0:0≤D.into∧D.into < D.many:=by rcases o.into with e | e<;>omega
 have gr0:M.sw.grey.length≤10000:=by rw [p.gr];decide
 have nm0:M.names.length≤1000:=by rw [p.nm];decide
 have cl0:M.cells.length≤900:=by
  obtain ⟨_,_,_,hcs⟩:=p.cell
  rw [hcs];show 1≤900;decide
 unfold rd__law_good
 walk_at "ev"
 refine ⟨d,_,rfl,hd.what,?_⟩
 walk_at "ev"
 refine ifd (fun h5=>?_) (fun h5=>?_)
 ·walk_at "ev"
  refine ⟨d,_,rfl,hd.h,?_⟩
  walk_at "ev"
  refine ⟨d,_,rfl,hd.u,?_⟩
  walk_at "ev"
  refine ⟨d,_,rfl,hd.f,?_⟩
  walk_at "ev"
  refine ⟨Zaj (by simp),fun d1 nd1=>?_⟩
  have s1:=same_new nd1 (.tup [.str "make",.int D.h,.int D.u,.int (D.f + 1),.int 0])
  have g1:upd H d1 (.tup [.str "make",.int D.h,.int D.u,.int (D.f + 1),.int 0]) d1=some (.tup (dV (.make D.h.toNat D.u.toNat (D.f + 1) 0))):=by rw [upd_same];show _=some (HO.tup [.str "make",.int (D.h.toNat:Nat),.int (D.u.toNat:Nat),.int (D.f + 1),.int 0]);rw [natI hh.1,natI hu.1]
  generalize upd H d1 (.tup [.str "make",.int D.h,.int D.u,.int (D.f + 1),.int 0])=H1 at s1 g1 ⊢
  walk_at "ev"
  refine doOk (w.same s1) (j.same s1) aw p.ok cl0 gr0 p.tl nm0 (.inl ⟨_,_,_,_,rfl⟩) (do_make_fit (p.fit o (by omega))) ⟨p.okS o hu.1 hu.2,by omega,by omega,by omega⟩ g1 fun H2 T2 A2 a st j2 aw2 _=>?_
  have k2:=(Kp.same s1).trans (Kp.stp st (by decide))
  obtain ⟨hdd2,tdd2⟩:=k2.k _ _ hdd tdd
  walk_at "ev"
  refine ifd (fun z=>absurd z (by omega)) (fun _=>?_)
  walk_at "ev"
  refine ifd (fun z=>absurd z (by omega)) (fun _=>?_)
  walk_at "ev"
  refine ifd (fun z=>absurd z (by omega)) (fun _=>?_)
  walk_at "ev"
  refine ifd (fun z=>absurd z (by omega)) (fun _=>?_)
  walk_at "ev"
  obtain ⟨e,M',hdo,hdue⟩:=p.good_u o h5
  refine good_end (M:=moreM M D D.u.toNat) o st.wt j2 aw2 (p.more_ok _) (p.more_len _) gr0 p.tl nm0 (deed_okP o) hdo ?_ hdd2 tdd2 hdue fun H' T' k=>q H' T' (k2.trans k)
  have od:=p.okD o
  unfold deedOf at od ⊢
  have:D.what=0∨D.what=1∨D.what=2∨D.what=3∨D.what=4:=by omega
  rcases this with e | e | e | e | e<;>rw [e] at od ⊢
  ·exact ⟨okS_more od.1,okS_more od.2⟩
  ·exact ⟨okS_more od.1,okS_more od.2⟩
  ·exact okS_more od
  ·exact okS_more od
  ·exact okS_more od
 walk_at "ev"
 have six:(D.what=5∨D.what=6)→tDrop (tCall (S_doP X rf) [] E0 (tCons (tVar 0) (tCons (tTup (tCons (tC (.str "make")) (tCons (tDGet (tVar 1) (tC (.str "h"))) (tCons (tDGet (tVar 1) (tC (.str "t"))) (tCons (tOp (rI0 fun i j=>.int (i + j)) (tDGet (tVar 1) (tC (.str "f"))) (tC (.int 1))) (tCons (tC (.int 0)) tNil)))))) tNil)))
   ⟨tSeq (tIfS (tTest (tOp (rEq) (tVar 3) (tC (.int 7)))) (tAsg (tTup (tCons (tC (.str "make")) (tCons (tDGet (tVar 1) (tC (.str "h"))) (tCons (tDGet (tVar 1) (tC (.str "into"))) (tCons (tDGet (tVar 1) (tC (.str "n"))) (tCons (tC (.int 1)) tNil)))))) (gName 2)) tNext) (tSeq (tIfS (tTest (tOp (rEq) (tVar 3) (tC (.int 8)))) (tDrop (tCall (S_doP X rf) [] E0 (tCons (tVar 0) (tCons (tTup (tCons (tC (.str "name")) (tCons (tDGet (tVar 1) (tC (.str "h"))) (tCons (tDGet (tVar 1) (tC (.str "t"))) (tCons (tC (.str "owl")) tNil))))) tNil)))) tNext) (rd__law_good_t0_5 K (S_same 3) (S_doP X rf))) ⟨n,Q,bk,ct⟩,Q,bk,ct⟩ [some (.ref wo),some (.ref d),some (.ref dd),some (.int D.what),none,none] H:=fun h56=>by
  walk_at "ev"
  refine ⟨d,_,rfl,hd.h,?_⟩
  walk_at "ev"
  refine ⟨d,_,rfl,hd.t,?_⟩
  walk_at "ev"
  refine ⟨d,_,rfl,hd.f,?_⟩
  walk_at "ev"
  refine ⟨Zaj (by simp),fun d1 nd1=>?_⟩
  have s1:=same_new nd1 (.tup [.str "make",.int D.h,.int D.t,.int (D.f + 1),.int 0])
  have g1:upd H d1 (.tup [.str "make",.int D.h,.int D.t,.int (D.f + 1),.int 0]) d1=some (.tup (dV (.make D.h.toNat D.t.toNat (D.f + 1) 0))):=by rw [upd_same];show _=some (HO.tup [.str "make",.int (D.h.toNat:Nat),.int (D.t.toNat:Nat),.int (D.f + 1),.int 0]);rw [natI hh.1,natI htt.1]
  generalize upd H d1 (.tup [.str "make",.int D.h,.int D.t,.int (D.f + 1),.int 0])=H1 at s1 g1 ⊢
  walk_at "ev"
  refine doOk (w.same s1) (j.same s1) aw p.ok cl0 gr0 p.tl nm0 (.inl ⟨_,_,_,_,rfl⟩) (do_make_fit (p.fit o (by omega))) ⟨p.okS o htt.1 htt.2,by omega,by omega,by omega⟩ g1 fun H2 T2 A2 a st j2 aw2 _=>?_
  have k2:=(Kp.same s1).trans (Kp.stp st (by decide))
  obtain ⟨hdd2,tdd2⟩:=k2.k _ _ hdd tdd
  walk_at "ev"
  refine ifd (fun z=>absurd z (by omega)) (fun _=>?_)
  walk_at "ev"
  refine ifd (fun z=>absurd z (by omega)) (fun _=>?_)
  walk_at "ev"
  obtain ⟨e,M',hdo,hdue⟩:=p.good_t o h56
  refine good_end (M:=moreM M D D.t.toNat) o st.wt j2 aw2 (p.more_ok _) (p.more_len _) gr0 p.tl nm0 (deed_okP o) hdo ?_ hdd2 tdd2 hdue fun H' T' k=>q H' T' (k2.trans k)
  have od:=p.okD o
  unfold deedOf at od ⊢
  rcases h56 with e | e<;>rw [e] at od ⊢
  ·exact ⟨okS_more od.1,okS_more od.2⟩
  ·exact ⟨okS_more od.1,okS_more od.2⟩
 refine ifd (fun h5'=>?_) (fun h5'=>?_)
 ·refine i_iteT ?_
  exact six (.inl h5')
 walk_at "ev"
 refine ifd (fun h6=>?_) (fun h6=>?_)
 ·exact six (.inr h6)
 walk_at "ev"
 refine ifd (fun h7=>?_) (fun h7=>?_)
 ·walk_at "ev"
  refine ⟨d,_,rfl,hd.h,?_⟩
  walk_at "ev"
  refine ⟨d,_,rfl,hd.into,?_⟩
  walk_at "ev"
  refine ⟨d,_,rfl,hd.n,?_⟩
  walk_at "ev"
  refine ⟨Zaj (by simp),fun d1 nd1=>?_⟩
  have s1:=same_new nd1 (.tup [.str "make",.int D.h,.int D.into,.int D.n,.int 1])
  have g1:upd H d1 (.tup [.str "make",.int D.h,.int D.into,.int D.n,.int 1]) d1=some (.tup (dV (.make D.h.toNat D.into.toNat D.n 1))):=by rw [upd_same];show _=some (HO.tup [.str "make",.int (D.h.toNat:Nat),.int (D.into.toNat:Nat),.int D.n,.int 1]);rw [natI hh.1,natI hi0.1]
  generalize upd H d1 (.tup [.str "make",.int D.h,.int D.into,.int D.n,.int 1])=H1 at s1 g1 ⊢
  walk_at "ev"
  refine ifd (fun z=>absurd z (by omega)) (fun _=>?_)
  walk_at "ev"
  obtain ⟨e,M',hdo,hdue⟩:=p.good_7 o h7
  exact good_end o (w.same s1) (j.same s1) aw p.ok cl0 gr0 p.tl nm0 (.inl ⟨_,_,_,_,rfl⟩) hdo ⟨p.okS o hi0.1 hi0.2,by omega,by omega,by omega⟩ g1 (w _ nd1) hdue fun H' T' k=>q H' T' ((Kp.same s1).trans k)
 walk_at "ev"
 refine ifd (fun h8=>?_) (fun h8=>absurd (show D.what=8 by omega) h8)
 walk_at "ev"
 refine ⟨d,_,rfl,hd.h,?_⟩
 walk_at "ev"
 refine ⟨d,_,rfl,hd.t,?_⟩
 walk_at "ev"
 refine ⟨Zaj (by simp),fun d1 nd1=>?_⟩
 have s1:=same_new nd1 (.tup [.str "name",.int D.h,.int D.t,.str "owl"])
 have g1:upd H d1 (.tup [.str "name",.int D.h,.int D.t,.str "owl"]) d1=some (.tup (dV (.name D.h.toNat D.t.toNat "owl"))):=by rw [upd_same];show _=some (HO.tup [.str "name",.int (D.h.toNat:Nat),.int (D.t.toNat:Nat),.str "owl"]);rw [natI hh.1,natI htt.1]
 generalize upd H d1 (.tup [.str "name",.int D.h,.int D.t,.str "owl"])=H1 at s1 g1 ⊢
 walk_at "ev"
 obtain ⟨M1,hd1,ok1,od1,cl1,gr1,tl1,nm1,e,M',hdo,hdue⟩:=p.good_8 o h8
 refine doOk (w.same s1) (j.same s1) aw p.ok cl0 gr0 p.tl nm0 (.inr (.inr (.inr (.inr (.inr (.inl ⟨_,_,_,rfl⟩)))))) hd1 (p.okS o htt.1 htt.2) g1 fun H2 T2 A2 a st j2 aw2 _=>?_
 have k2:=(Kp.same s1).trans (Kp.stp st (by decide))
 obtain ⟨hdd2,tdd2⟩:=k2.k _ _ hdd tdd
 walk_at "ev"
 exact good_end o st.wt j2 aw2 ok1 cl1 (by rw [gr1];decide) tl1 nm1 (deed_okP o) hdo od1 hdd2 tdd2 hdue fun H' T' k=>q H' T' (k2.trans k)
theorem due_at {D:Dr} (o:DrOk D):atI [V.str "empty",.str "empty",.str "empty",.str "empty",.str "empty",.str "field",.str "field",.str "full",.str "name"] D.what=some (.str (rfS (rfOf D))):=by
 unfold rfOf
 rcases nine o.what with e | e | e | e | e | e | e | e | e<;>rw [e]<;>rfl
end
def S_law (K:PySem.W.Frag):Sp:=fun vs H Q E=>∃ a,vs=[.ref a]∧∃ ns:List Int,SqL K H a (ns.map V.int)∧ns.length≤63∧BitsOk ns∧∀ H',Q (.bl true) H'
section
variable {K:PySem.W.Frag}{X:Cs}{rf:Rf→Addr}{H:Hp}{Q:VK}{E:XK}{n:St→Hp→Prop}{bk ct:St→Hp→Prop}
theorem law_rd {a:Addr} (q:∃ ns:List Int,SqL K H a (ns.map V.int)∧ns.length≤63∧BitsOk ns∧∀ H',Q (.bl true) H'):
  rd_law K S_deedL S_draw (S_goodL X) (S_refused X rf) (S_standsL X) (S_worldL X) ⟨n,Q,bk,ct⟩ [some (.ref a),none,none,none,none,none] H:=by
 obtain ⟨ns0,hS,hlen,hbits,h⟩:=q
 unfold rd_law
 walk_at "ev"
 refine ⟨a,_,rfl,hS,fun l1 nl1=>?_⟩
 have zints:∃ zs:List Int,cutV (ns0.map V.int) none (some 30)=zs.map V.int∧zs.length≤63∧∀ c∈zs,c∈ns0:=by
  refine ⟨(ns0.drop (HT.sIx ns0.length 0 none)).take (HT.sIx ns0.length ns0.length (some 30) - HT.sIx ns0.length 0 none),?_,?_,fun c hc=>List.mem_of_mem_drop (List.mem_of_mem_take hc)⟩
  ·unfold cutV
   rw [List.map_take,List.map_drop,List.length_map]
  ·rw [List.length_take,List.length_drop]
   omega
 obtain ⟨zs,ez,lz,mz⟩:=zints
 rw [ez]
 have s1:=same_new nl1 (.lst (zs.map V.int))
 have g1:upd H l1 (.lst (zs.map V.int)) l1=some (.lst (zs.map V.int)):=upd_same
 generalize upd H l1 (.lst (zs.map V.int))=H1 at s1 g1 ⊢
 walk_at "ev"
 refine ⟨by decide,fun l2 nl2=>?_⟩
 have s2:=same_new nl2 (.lst [V.int 12])
 have g2:upd H1 l2 (.lst [V.int 12]) l2=some (.lst [V.int 12]):=upd_same
 have g1:=s2 _ _ g1
 generalize upd H1 l2 (.lst [V.int 12])=H2 at s2 g1 g2 ⊢
 walk_at "ev"
 refine ⟨l1,l2,_,_,rfl,rfl,g1,g2,Zaj (by rw [List.length_map];simp;omega),fun src nsrc=>?_⟩
 have e3:zs.map V.int ++ [V.int 12]=(zs ++ [12]).map V.int:=by rw [List.map_append];rfl
 rw [e3]
 have g3:upd H2 src (.lst ((zs ++ [12]).map V.int)) src=some (.lst ((zs ++ [12]).map V.int)):=upd_same
 generalize upd H2 src (.lst ((zs ++ [12]).map V.int))=H3 at g3 ⊢
 have bits:∀ c∈zs ++ [12],Builtin.Int.intBits c≤2 ^ 20:=fun c hc=>by
  rcases List.mem_append.mp hc with hc | hc
  ·exact hbits c (mz c hc)
  ·rw [List.mem_singleton.mp hc];decide
 refine ⟨src,rfl,⟨_,SqL.of g3⟩,forL ((zs ++ [12]).map V.int) (fun i σ Hx=>∃ v1 v2 v3 v4 v5,σ=[some (.ref a),v1,v2,v3,v4,v5]∧Hx src=some (.lst ((zs ++ [12]).map V.int))) ⟨_,_,_,_,_,rfl,g3⟩ (fun _ _ _ _ ⟨_,_,_,_,_,_,e⟩=>SqL.of e) ?_ ?_⟩
 ·rintro i x σ Hx hi ⟨v1,v2,v3,v4,v5,rfl,os⟩
  obtain ⟨c,hc,rfl⟩:=List.mem_map.mp (List.mem_of_getElem? hi)
  walk_at "ev"
  refine ⟨_,rfl,bits c hc,fun D d Hd o sd nd hd=>?_⟩
  walk_at "ev"
  refine ⟨_,d,rfl,D,o,hd,fun wo Hw T A M sw w j aw p kt=>?_⟩
  have hdw:=hd.same sw
  have td:=kt d _ hd
  have ts:=kt src _ (sd _ _ os)
  have os:=sw _ _ (sd _ _ os)
  walk_at "ev"
  refine ⟨d,rfl,D,o,hdw,fun dd He se ndd hdd=>?_⟩
  have tdd:=w _ ndd
  have hde:=hdw.same se
  have w:=w.same se
  have j:=j.same se
  have os:=se _ _ os
  walk_at "ev"
  refine ⟨Zaj (by simp),fun l5 nl5=>?_⟩
  have s5:=same_new nl5 (.lst [V.str "empty",.str "empty",.str "empty",.str "empty",.str "empty",.str "field",.str "field",.str "full",.str "name"])
  have o5:upd He l5 (.lst [V.str "empty",.str "empty",.str "empty",.str "empty",.str "empty",.str "field",.str "field",.str "full",.str "name"]) l5=some (.lst [V.str "empty",.str "empty",.str "empty",.str "empty",.str "empty",.str "field",.str "field",.str "full",.str "name"]):=upd_same
  generalize upd He l5 (.lst [V.str "empty",.str "empty",.str "empty",.str "empty",.str "empty",.str "field",.str "field",.str "full",.str "name"])=H5 at s5 o5 ⊢
  have hdd:=s5 _ _ hdd
  have hd5:=hde.same s5
  have w:=w.same s5
  have j:=j.same s5
  have os:=s5 _ _ os
  walk_at "ev"
  refine ⟨d,_,rfl,hd5.what,?_⟩
  refine i_ixL (SqL.of o5) (due_at o) ?_
  have cl0:M.cells.length≤900:=by
   obtain ⟨_,_,_,hcs⟩:=p.cell
   rw [hcs];show 1≤900;decide
  have nm0:M.names.length≤1000:=by rw [p.nm];decide
  walk_at "ev"
  refine ⟨wo,dd,rfl,T,A,M,deedOf D,rfOf D,deed_okP o,w,j,aw,hdd,p.okD o,p.ok,cl0,p.gr,p.tl,nm0,p.refused o,fun H6 s6=>?_⟩
  have w:=w.same s6
  have j:=j.same s6
  have hd6:=hd5.same s6
  have hdd:=s6 _ _ hdd
  have os:=s6 _ _ os
  walk_at "ev"
  refine ifnd (fun z=>absurd rfl z) (fun _=>?_)
  walk_at "ev"
  refine ⟨wo,d,rfl,T,A,M,D,o,hd6,j,aw,p,fun H7 s7=>?_⟩
  have w:=w.same s7
  have j:=j.same s7
  have hd7:=hd6.same s7
  have hdd:=s7 _ _ hdd
  have os:=s7 _ _ os
  walk_at "ev"
  refine ⟨wo,dd,rfl,T,A,M,deedOf D,rfOf D,deed_okP o,w,j,aw,hdd,p.okD o,p.ok,cl0,p.gr,p.tl,nm0,p.refused o,fun H8 s8=>?_⟩
  have w:=w.same s8
  have j:=j.same s8
  have hd8:=hd7.same s8
  have hdd:=s8 _ _ hdd
  have os:=s8 _ _ os
  walk_at "ev"
  refine ifnd (fun z=>absurd rfl z) (fun _=>?_)
  walk_at "ev"
  refine ⟨wo,d,dd,rfl,T,A,M,D,o,hd8,td,hdd,tdd,w,j,aw,p,fun H9 T9 k9=>?_⟩
  walk_at "ev"
  exact ⟨_,_,_,_,_,rfl,(k9.k _ _ os ts).1⟩
 ·rintro σ Hx ⟨v1,v2,v3,v4,v5,rfl,os⟩
  walk_at "ev"
  exact h _
end
def top (i:Nat):Stmt:=PySem.Challenge.pw_greywalk_k21_deeds_refused.main.body.getD i (.Pass ⟨0,0,0,0⟩)
abbrev s_Cell___init__:Stmt:=inClass (top 10) 0
abbrev s_Cell_units:Stmt:=inClass (top 10) 1
abbrev s_Cell_has_field:Stmt:=inClass (top 10) 2
abbrev s_Heap___init__:Stmt:=inClass (top 11) 0
abbrev s_Heap_make:Stmt:=inClass (top 11) 1
abbrev s_Heap_lay:Stmt:=inClass (top 11) 2
abbrev s_Heap_free:Stmt:=inClass (top 11) 4
abbrev s_Heap_there:Stmt:=inClass (top 11) 5
abbrev s_cell_at:Stmt:=top 12
abbrev s_birth_at:Stmt:=top 13
abbrev s_all_of:Stmt:=top 17
abbrev s_Looking_at_begin:Stmt:=inClass (top 18) 2
abbrev s_First_word:Stmt:=inClass (top 19) 0
abbrev s_First_at_begin:Stmt:=inClass (top 19) 2
abbrev s_Each_word:Stmt:=inClass (top 20) 0
abbrev s_Last_word:Stmt:=inClass (top 21) 0
abbrev s_Kind___init__:Stmt:=inClass (top 22) 0
abbrev s_Kind_words:Stmt:=inClass (top 22) 2
abbrev s_kind_of:Stmt:=top 23
abbrev s_Hand___init__:Stmt:=inClass (top 25) 0
abbrev s_Sweeper___init__:Stmt:=inClass (top 26) 0
abbrev s_World___init__:Stmt:=inClass (top 27) 0
abbrev s_births_held:Stmt:=top 28
abbrev s_births_at:Stmt:=top 29
abbrev s_looked_at:Stmt:=top 30
abbrev s_has_sense:Stmt:=top 31
abbrev s_mark_of:Stmt:=top 32
abbrev s_told_cells:Stmt:=top 33
abbrev s_told_cell:Stmt:=top 34
abbrev s_begin:Stmt:=top 35
abbrev s_note:Stmt:=top 36
abbrev s_note_all:Stmt:=top 37
abbrev s_gone:Stmt:=top 38
abbrev s_slots_of:Stmt:=top 40
abbrev s_cell_in:Stmt:=top 41
abbrev s_fields_in:Stmt:=top 42
abbrev s_told_as_old:Stmt:=top 43
abbrev s_told_as_new:Stmt:=top 44
abbrev s_do_make:Stmt:=top 45
abbrev s_do_get:Stmt:=top 46
abbrev s_do_put:Stmt:=top 47
abbrev s_do_write:Stmt:=top 51
abbrev s_do_read:Stmt:=top 52
abbrev s_do_name:Stmt:=top 53
abbrev s_do_seek:Stmt:=top 54
abbrev s_place_named:Stmt:=top 55
abbrev s_do:Stmt:=top 57
abbrev s__law_mix:Stmt:=top 59
abbrev s__law_kind:Stmt:=top 60
abbrev s__law_same:Stmt:=top 61
abbrev s__law_word:Stmt:=top 62
abbrev s__law_refused:Stmt:=top 63
abbrev s__law_stands:Stmt:=top 64
abbrev s__law_draw:Stmt:=top 65
abbrev s__law_world:Stmt:=top 66
abbrev s__law_deed:Stmt:=top 67
abbrev s__law_good:Stmt:=top 68
abbrev s_law:Stmt:=top 69
structure Txt (w:World) (K:PySem.W.Frag) (mg:Str→Option Value) (Za6 Za5 Za8 Zad Zaf Zag Zah Za1 Za7 C_GreyError Za0 Za3 Zae Za4 C_Sound C_TextError Zas f_Cell_units Zan Zaq f_Heap_make f_Heap_lay f_Heap_free f_Heap_there f_cell_at f_birth_at f_all_of Zac f_First_word Zam f_Each_word f_Last_word Zap f_Kind_words f_kind_of Zar Zak Zal f_births_held f_births_at f_looked_at f_has_sense f_mark_of f_told_cells f_told_cell f_begin f_note f_note_all f_gone f_slots_of f_cell_in f_fields_in f_told_as_old f_told_as_new f_do_make f_do_get f_do_put f_do_write f_do_read f_do_name f_do_seek f_place_named f_do f__law_mix f__law_kind f__law_same f__law_word f__law_refused f__law_stands f__law_draw f__law_world f__law_deed f__law_good f_do_copy f_do_drop f_do_give:Addr):Prop where
 tab_DEEDS:G.Tab K w mg "DEEDS" [("make",f_do_make),("get",f_do_get),("put",f_do_put),("copy",f_do_copy),("drop",f_do_drop),("give",f_do_give),("write",f_do_write),("read",f_do_read),("name",f_do_name),("seek",f_do_seek)]
 cl_Cell:Cls K Za6
 m_Cell:mg "Cell"=some (.ref Za6)
 mk_Cell:Mk K Za6 Zas
 n_Cell_birth:NoAttr K Za6 "birth"
 n_Cell_bulk:NoAttr K Za6 "bulk"
 n_Cell_tone:NoAttr K Za6 "tone"
 n_Cell_load:NoAttr K Za6 "load"
 n_Cell_fields:NoAttr K Za6 "fields"
 eq_Cell:G.EqD K Za6
 cl_Heap:Cls K Za5
 m_Heap:mg "Heap"=some (.ref Za5)
 mk_Heap:Mk K Za5 Zaq
 n_Heap_room:NoAttr K Za5 "room"
 Zao:NoAttr K Za5 "cells"
 n_Heap_used:NoAttr K Za5 "used"
 n_Heap_born:NoAttr K Za5 "born"
 cl_First:Cls K Za8
 m_First:mg "First"=some (.ref Za8)
 mk0_First:G.Mk0 K Za8
 cl_Each:Cls K Zad
 m_Each:mg "Each"=some (.ref Zad)
 mk0_Each:G.Mk0 K Zad
 cl_Last:Cls K Zaf
 m_Last:mg "Last"=some (.ref Zaf)
 mk0_Last:G.Mk0 K Zaf
 cl_Kind:Cls K Zag
 m_Kind:mg "Kind"=some (.ref Zag)
 mk_Kind:Mk K Zag Zap
 n_Kind_looking:NoAttr K Zag "looking"
 n_Kind_tells:NoAttr K Zag "tells"
 cl_Hand:Cls K Zah
 m_Hand:mg "Hand"=some (.ref Zah)
 mk_Hand:Mk K Zah Zar
 n_Hand_name:NoAttr K Zah "name"
 n_Hand_slots:NoAttr K Zah "slots"
 cl_Sweeper:Cls K Za1
 m_Sweeper:mg "Sweeper"=some (.ref Za1)
 mk_Sweeper:Mk K Za1 Zak
 n_Sweeper_sense:NoAttr K Za1 "sense"
 n_Sweeper_phase:NoAttr K Za1 "phase"
 n_Sweeper_grey:NoAttr K Za1 "grey"
 n_Sweeper_looked:NoAttr K Za1 "looked"
 n_Sweeper_turn:NoAttr K Za1 "turn"
 n_Sweeper_at:NoAttr K Za1 "at"
 n_Sweeper_stop:NoAttr K Za1 "stop"
 n_Sweeper_walks:NoAttr K Za1 "walks"
 n_Sweeper_looks:NoAttr K Za1 "looks"
 n_Sweeper_passes:NoAttr K Za1 "passes"
 n_Sweeper_loss:NoAttr K Za1 "loss"
 cl_World:Cls K Za7
 m_World:mg "World"=some (.ref Za7)
 mk_World:Mk K Za7 Zal
 n_World_heap:NoAttr K Za7 "heap"
 n_World_kind:NoAttr K Za7 "kind"
 n_World_hands:NoAttr K Za7 "hands"
 n_World_names:NoAttr K Za7 "names"
 n_World_sweeper:NoAttr K Za7 "sweeper"
 m_GreyError:mg "GreyError"=some (.ref C_GreyError)
 m_EmptySlot:mg "EmptySlot"=some (.ref Za0)
 m_NoField:mg "NoField"=some (.ref Za3)
 m_Full:mg "Full"=some (.ref Zae)
 m_NoName:mg "NoName"=some (.ref Za4)
 m_Sound:mg "Sound"=some (.ref C_Sound)
 m_TextError:mg "TextError"=some (.ref C_TextError)
 x_EmptySlot:G.ExcK K Za0
 x_Full:G.ExcK K Zae
 x_NoField:G.ExcK K Za3
 x_NoName:G.ExcK K Za4
 e_EmptySlot_GreyError:PySem.W.exmOne K (.ref Za0) (.ref C_GreyError)=some true
 e_NoField_GreyError:PySem.W.exmOne K (.ref Za3) (.ref C_GreyError)=some true
 e_Full_GreyError:PySem.W.exmOne K (.ref Zae) (.ref C_GreyError)=some true
 e_NoName_GreyError:PySem.W.exmOne K (.ref Za4) (.ref C_GreyError)=some true
 exc:G.ExcAll K [Za0,Zae,Za3,Za4]
 me_Each_at_begin:Meth K Zad "at_begin" Zac
 me_Last_at_begin:Meth K Zaf "at_begin" Zac
 me_Cell___init__:Meth K Za6 "__init__" Zas
 me_Cell_units:Meth K Za6 "units" f_Cell_units
 me_Cell_has_field:Meth K Za6 "has_field" Zan
 me_Heap___init__:Meth K Za5 "__init__" Zaq
 me_Heap_make:Meth K Za5 "make" f_Heap_make
 me_Heap_lay:Meth K Za5 "lay" f_Heap_lay
 me_Heap_free:Meth K Za5 "free" f_Heap_free
 me_Heap_there:Meth K Za5 "there" f_Heap_there
 m_cell_at:mg "cell_at"=some (.ref f_cell_at)
 m_birth_at:mg "birth_at"=some (.ref f_birth_at)
 m_all_of:mg "all_of"=some (.ref f_all_of)
 me_Looking_at_begin:Meth K Zad "at_begin" Zac
 me_First_word:Meth K Za8 "word" f_First_word
 me_First_at_begin:Meth K Za8 "at_begin" Zam
 me_Each_word:Meth K Zad "word" f_Each_word
 me_Last_word:Meth K Zaf "word" f_Last_word
 me_Kind___init__:Meth K Zag "__init__" Zap
 me_Kind_words:Meth K Zag "words" f_Kind_words
 m_kind_of:mg "kind_of"=some (.ref f_kind_of)
 me_Hand___init__:Meth K Zah "__init__" Zar
 me_Sweeper___init__:Meth K Za1 "__init__" Zak
 me_World___init__:Meth K Za7 "__init__" Zal
 m_births_held:mg "births_held"=some (.ref f_births_held)
 m_births_at:mg "births_at"=some (.ref f_births_at)
 m_looked_at:mg "looked_at"=some (.ref f_looked_at)
 m_has_sense:mg "has_sense"=some (.ref f_has_sense)
 m_mark_of:mg "mark_of"=some (.ref f_mark_of)
 m_told_cells:mg "told_cells"=some (.ref f_told_cells)
 m_told_cell:mg "told_cell"=some (.ref f_told_cell)
 m_begin:mg "begin"=some (.ref f_begin)
 m_note:mg "note"=some (.ref f_note)
 m_note_all:mg "note_all"=some (.ref f_note_all)
 m_gone:mg "gone"=some (.ref f_gone)
 m_slots_of:mg "slots_of"=some (.ref f_slots_of)
 m_cell_in:mg "cell_in"=some (.ref f_cell_in)
 m_fields_in:mg "fields_in"=some (.ref f_fields_in)
 m_told_as_old:mg "told_as_old"=some (.ref f_told_as_old)
 m_told_as_new:mg "told_as_new"=some (.ref f_told_as_new)
 m_do_make:mg "do_make"=some (.ref f_do_make)
 m_do_get:mg "do_get"=some (.ref f_do_get)
 m_do_put:mg "do_put"=some (.ref f_do_put)
 m_do_write:mg "do_write"=some (.ref f_do_write)
 m_do_read:mg "do_read"=some (.ref f_do_read)
 m_do_name:mg "do_name"=some (.ref f_do_name)
 m_do_seek:mg "do_seek"=some (.ref f_do_seek)
 m_place_named:mg "place_named"=some (.ref f_place_named)
 m_do:mg "do"=some (.ref f_do)
 m__law_mix:mg "_law_mix"=some (.ref f__law_mix)
 m__law_kind:mg "_law_kind"=some (.ref f__law_kind)
 m__law_same:mg "_law_same"=some (.ref f__law_same)
 m__law_word:mg "_law_word"=some (.ref f__law_word)
 m__law_refused:mg "_law_refused"=some (.ref f__law_refused)
 m__law_stands:mg "_law_stands"=some (.ref f__law_stands)
 m__law_draw:mg "_law_draw"=some (.ref f__law_draw)
 m__law_world:mg "_law_world"=some (.ref f__law_world)
 m__law_deed:mg "_law_deed"=some (.ref f__law_deed)
 m__law_good:mg "_law_good"=some (.ref f__law_good)
 z_ValueError:mg "ValueError"=none
 z_bool:mg "bool"=none
 z_int:mg "int"=none
 Zab:mg "isinstance"=none
 z_len:mg "len"=none
 z_list:mg "list"=none
 z_range:mg "range"=none
 z_str:mg "str"=none
 z_tuple:mg "tuple"=none
 g_NEW:G.GC mg "NEW" (.int 2)
 g_OLD:G.GC mg "OLD" (.int 1)
 kit:Kit (PySem.W.kitOne K) (rfA Zae Za0 Za3 Za4) C_Sound C_TextError
theorem sc_Cell___init__:FnScope ["self","birth","many","bulk","tone"] ["self","birth","many","bulk","tone"] (defScope s_Cell___init__):=⟨rfl,rfl,rfl,by decide +kernel,rfl,by decide +kernel,by decide +kernel⟩
theorem sc_Cell_units:FnScope ["self"] ["self"] (defScope s_Cell_units):=⟨rfl,rfl,rfl,by decide +kernel,rfl,by decide +kernel,by decide +kernel⟩
theorem sc_Cell_has_field:FnScope ["self","field"] ["self","field"] (defScope s_Cell_has_field):=⟨rfl,rfl,rfl,by decide +kernel,rfl,by decide +kernel,by decide +kernel⟩
theorem sc_Heap___init__:FnScope ["self","room"] ["self","room"] (defScope s_Heap___init__):=⟨rfl,rfl,rfl,by decide +kernel,rfl,by decide +kernel,by decide +kernel⟩
theorem sc_Heap_make:FnScope ["self","many","bulk","tone","cell"] ["self","many","bulk","tone"] (defScope s_Heap_make):=⟨rfl,rfl,rfl,by decide +kernel,rfl,by decide +kernel,by decide +kernel⟩
theorem sc_Heap_lay:FnScope ["self","cell","place"] ["self","cell"] (defScope s_Heap_lay):=⟨rfl,rfl,rfl,by decide +kernel,rfl,by decide +kernel,by decide +kernel⟩
theorem sc_Heap_free:FnScope ["self"] ["self"] (defScope s_Heap_free):=⟨rfl,rfl,rfl,by decide +kernel,rfl,by decide +kernel,by decide +kernel⟩
theorem sc_Heap_there:FnScope ["self"] ["self"] (defScope s_Heap_there):=⟨rfl,rfl,rfl,by decide +kernel,rfl,by decide +kernel,by decide +kernel⟩
theorem sc_cell_at:FnScope ["heap","place"] ["heap","place"] (defScope s_cell_at):=⟨rfl,rfl,rfl,by decide +kernel,rfl,by decide +kernel,by decide +kernel⟩
theorem sc_birth_at:FnScope ["heap","place","cell"] ["heap","place"] (defScope s_birth_at):=⟨rfl,rfl,rfl,by decide +kernel,rfl,by decide +kernel,by decide +kernel⟩
theorem sc_all_of:FnScope ["hands"] ["hands"] (defScope s_all_of):=⟨rfl,rfl,rfl,by decide +kernel,rfl,by decide +kernel,by decide +kernel⟩
theorem sc_Looking_at_begin:FnScope ["self","hands"] ["self","hands"] (defScope s_Looking_at_begin):=⟨rfl,rfl,rfl,by decide +kernel,rfl,by decide +kernel,by decide +kernel⟩
theorem sc_First_word:FnScope ["self"] ["self"] (defScope s_First_word):=⟨rfl,rfl,rfl,by decide +kernel,rfl,by decide +kernel,by decide +kernel⟩
theorem sc_First_at_begin:FnScope ["self","hands"] ["self","hands"] (defScope s_First_at_begin):=⟨rfl,rfl,rfl,by decide +kernel,rfl,by decide +kernel,by decide +kernel⟩
theorem sc_Each_word:FnScope ["self"] ["self"] (defScope s_Each_word):=⟨rfl,rfl,rfl,by decide +kernel,rfl,by decide +kernel,by decide +kernel⟩
theorem sc_Last_word:FnScope ["self"] ["self"] (defScope s_Last_word):=⟨rfl,rfl,rfl,by decide +kernel,rfl,by decide +kernel,by decide +kernel⟩
theorem sc_Kind___init__:FnScope ["self","looking","tells"] ["self","looking","tells"] (defScope s_Kind___init__):=⟨rfl,rfl,rfl,by decide +kernel,rfl,by decide +kernel,by decide +kernel⟩
theorem sc_Kind_words:FnScope ["self","text"] ["self"] (defScope s_Kind_words):=⟨rfl,rfl,rfl,by decide +kernel,rfl,by decide +kernel,by decide +kernel⟩
theorem sc_kind_of:FnScope ["text","looking","tells","kind"] ["text"] (defScope s_kind_of):=⟨rfl,rfl,rfl,by decide +kernel,rfl,by decide +kernel,by decide +kernel⟩
theorem sc_Hand___init__:FnScope ["self","name","many"] ["self","name","many"] (defScope s_Hand___init__):=⟨rfl,rfl,rfl,by decide +kernel,rfl,by decide +kernel,by decide +kernel⟩
theorem sc_Sweeper___init__:FnScope ["self"] ["self"] (defScope s_Sweeper___init__):=⟨rfl,rfl,rfl,by decide +kernel,rfl,by decide +kernel,by decide +kernel⟩
theorem sc_World___init__:FnScope ["self","room","kind","hands"] ["self","room","kind","hands"] (defScope s_World___init__):=⟨rfl,rfl,rfl,by decide +kernel,rfl,by decide +kernel,by decide +kernel⟩
theorem sc_births_held:FnScope ["world"] ["world"] (defScope s_births_held):=⟨rfl,rfl,rfl,by decide +kernel,rfl,by decide +kernel,by decide +kernel⟩
theorem sc_births_at:FnScope ["heap","places"] ["heap","places"] (defScope s_births_at):=⟨rfl,rfl,rfl,by decide +kernel,rfl,by decide +kernel,by decide +kernel⟩
theorem sc_looked_at:FnScope ["world","hand"] ["world","hand"] (defScope s_looked_at):=⟨rfl,rfl,rfl,by decide +kernel,rfl,by decide +kernel,by decide +kernel⟩
theorem sc_has_sense:FnScope ["world","cell"] ["world","cell"] (defScope s_has_sense):=⟨rfl,rfl,rfl,by decide +kernel,rfl,by decide +kernel,by decide +kernel⟩
theorem sc_mark_of:FnScope ["world","place","sweeper","toned"] ["world","place"] (defScope s_mark_of):=⟨rfl,rfl,rfl,by decide +kernel,rfl,by decide +kernel,by decide +kernel⟩
theorem sc_told_cells:FnScope ["world"] ["world"] (defScope s_told_cells):=⟨rfl,rfl,rfl,by decide +kernel,rfl,by decide +kernel,by decide +kernel⟩
theorem sc_told_cell:FnScope ["world","place","cell","fields"] ["world","place"] (defScope s_told_cell):=⟨rfl,rfl,rfl,by decide +kernel,rfl,by decide +kernel,by decide +kernel⟩
theorem sc_begin:FnScope ["world","sweeper"] ["world"] (defScope s_begin):=⟨rfl,rfl,rfl,by decide +kernel,rfl,by decide +kernel,by decide +kernel⟩
theorem sc_note:FnScope ["world","place","sweeper","cell"] ["world","place"] (defScope s_note):=⟨rfl,rfl,rfl,by decide +kernel,rfl,by decide +kernel,by decide +kernel⟩
theorem sc_note_all:FnScope ["world","places","births","place","birth"] ["world","places"] (defScope s_note_all):=⟨rfl,rfl,rfl,by decide +kernel,rfl,by decide +kernel,by decide +kernel⟩
theorem sc_gone:FnScope ["world","place","birth","cell"] ["world","place","birth"] (defScope s_gone):=⟨rfl,rfl,rfl,by decide +kernel,rfl,by decide +kernel,by decide +kernel⟩
theorem sc_slots_of:FnScope ["world","hand"] ["world","hand"] (defScope s_slots_of):=⟨rfl,rfl,rfl,by decide +kernel,rfl,by decide +kernel,by decide +kernel⟩
theorem sc_cell_in:FnScope ["world","hand","slot","cell"] ["world","hand","slot"] (defScope s_cell_in):=⟨rfl,rfl,rfl,by decide +kernel,rfl,by decide +kernel,by decide +kernel⟩
theorem sc_fields_in:FnScope ["world","hand","slot","field","cell"] ["world","hand","slot","field"] (defScope s_fields_in):=⟨rfl,rfl,rfl,by decide +kernel,rfl,by decide +kernel,by decide +kernel⟩
theorem sc_told_as_old:FnScope ["world","place"] ["world","place"] (defScope s_told_as_old):=⟨rfl,rfl,rfl,by decide +kernel,rfl,by decide +kernel,by decide +kernel⟩
theorem sc_told_as_new:FnScope ["world","hand","place"] ["world","hand","place"] (defScope s_told_as_new):=⟨rfl,rfl,rfl,by decide +kernel,rfl,by decide +kernel,by decide +kernel⟩
theorem sc_do_make:FnScope ["world","deed","slots","many","bulk","place"] ["world","deed"] (defScope s_do_make):=⟨rfl,rfl,rfl,by decide +kernel,rfl,by decide +kernel,by decide +kernel⟩
theorem sc_do_get:FnScope ["world","deed","hand","source","field","place"] ["world","deed"] (defScope s_do_get):=⟨rfl,rfl,rfl,by decide +kernel,rfl,by decide +kernel,by decide +kernel⟩
theorem sc_do_put:FnScope ["world","deed","hand","field","fields","old","new","noted"] ["world","deed"] (defScope s_do_put):=⟨rfl,rfl,rfl,by decide +kernel,rfl,by decide +kernel,by decide +kernel⟩
theorem sc_do_write:FnScope ["world","deed","cell","before"] ["world","deed"] (defScope s_do_write):=⟨rfl,rfl,rfl,by decide +kernel,rfl,by decide +kernel,by decide +kernel⟩
theorem sc_do_read:FnScope ["world","deed","cell"] ["world","deed"] (defScope s_do_read):=⟨rfl,rfl,rfl,by decide +kernel,rfl,by decide +kernel,by decide +kernel⟩
theorem sc_do_name:FnScope ["world","deed","hand","slot","birth"] ["world","deed"] (defScope s_do_name):=⟨rfl,rfl,rfl,by decide +kernel,rfl,by decide +kernel,by decide +kernel⟩
theorem sc_do_seek:FnScope ["world","deed","place","noted"] ["world","deed"] (defScope s_do_seek):=⟨rfl,rfl,rfl,by decide +kernel,rfl,by decide +kernel,by decide +kernel⟩
theorem sc_place_named:FnScope ["world","word","place","birth"] ["world","word"] (defScope s_place_named):=⟨rfl,rfl,rfl,by decide +kernel,rfl,by decide +kernel,by decide +kernel⟩
theorem sc_do:FnScope ["world","deed","act"] ["world","deed"] (defScope s_do):=⟨rfl,rfl,rfl,by decide +kernel,rfl,by decide +kernel,by decide +kernel⟩
theorem sc__law_mix:FnScope ["_law_cell","_law_factor","_law_mixed"] ["_law_cell","_law_factor"] (defScope s__law_mix):=⟨rfl,rfl,rfl,by decide +kernel,rfl,by decide +kernel,by decide +kernel⟩
theorem sc__law_kind:FnScope ["_law_cell","_law_word_here"] ["_law_cell"] (defScope s__law_kind):=⟨rfl,rfl,rfl,by decide +kernel,rfl,by decide +kernel,by decide +kernel⟩
theorem sc__law_same:FnScope ["_law_found","_law_due","_law_k"] ["_law_found","_law_due"] (defScope s__law_same):=⟨rfl,rfl,rfl,by decide +kernel,rfl,by decide +kernel,by decide +kernel⟩
theorem sc__law_word:FnScope ["_law_e","_law_found","_law_words","_law_some"] ["_law_e"] (defScope s__law_word):=⟨rfl,rfl,rfl,by decide +kernel,rfl,by decide +kernel,by decide +kernel⟩
theorem sc__law_refused:FnScope ["_law_world_here","_law_deed_here","_law_caught","_law_e"] ["_law_world_here","_law_deed_here"] (defScope s__law_refused):=⟨rfl,rfl,rfl,by decide +kernel,rfl,by decide +kernel,by decide +kernel⟩
theorem sc__law_stands:FnScope ["_law_world_here","_law_draw_here","_law_due","_law_told"] ["_law_world_here","_law_draw_here"] (defScope s__law_stands):=⟨rfl,rfl,rfl,by decide +kernel,rfl,by decide +kernel,by decide +kernel⟩
theorem sc__law_draw:FnScope ["_law_cell","_law_one","_law_two","_law_tri","_law_many","_law_draw_here"] ["_law_cell"] (defScope s__law_draw):=⟨rfl,rfl,rfl,by decide +kernel,rfl,by decide +kernel,by decide +kernel⟩
theorem sc__law_world:FnScope ["_law_cell","_law_draw_here","_law_spare","_law_room","_law_world_here"] ["_law_cell","_law_draw_here"] (defScope s__law_world):=⟨rfl,rfl,rfl,by decide +kernel,rfl,by decide +kernel,by decide +kernel⟩
theorem sc__law_deed:FnScope ["_law_draw_here","_law_what","_law_h","_law_t","_law_u","_law_f"] ["_law_draw_here"] (defScope s__law_deed):=⟨rfl,rfl,rfl,by decide +kernel,rfl,by decide +kernel,by decide +kernel⟩
theorem sc__law_good:FnScope ["_law_world_here","_law_draw_here","_law_deed_here","_law_what","_law_due","_law_event"] ["_law_world_here","_law_draw_here","_law_deed_here"] (defScope s__law_good):=⟨rfl,rfl,rfl,by decide +kernel,rfl,by decide +kernel,by decide +kernel⟩
theorem sc_law:FnScope ["_law_script","_law_cell","_law_draw_here","_law_world_here","_law_deed_here","_law_due"] ["_law_script"] (defScope s_law):=⟨rfl,rfl,rfl,by decide +kernel,rfl,by decide +kernel,by decide +kernel⟩
structure PAw (X:Cx) (es:List Expr) (t:TA):Prop where
 h:PA X es t
structure PSw (X:Cx) (st:List Stmt) (t:TS):Prop where
 h:PSs X st t
theorem paw_nil {X:Cx}:PAw X [] tNil:=⟨pa_nil⟩
theorem paw_cons {X:Cx}{e es te t} (ha:PE X e te) (hr:PAw X es t) (hs:starEach (e :: es) X.env=(false,eval e X.env) :: starEach es X.env:=by rfl):PAw X (e :: es) (tCons te t):=⟨pa_cons ha hr.h hs⟩
theorem psw_cons {X:Cx}{st rest t u} (h1:PS X st t) (h2:PSw X rest u):PSw X (st :: rest) (tSeq t u):=⟨pss_cons h1 h2.h⟩
theorem psw_lst {X:Cx}{i:Nat}{x:Str}{es t p pos' pos rest u} (hN:X.N.Nodup) (hi:X.N[i]? =some x) (hx:Loc X.env.scope x) (h:PAw X es t) (h2:PSw X rest u) (hf:X.fn x=true∨X.env.scope.names.lookup x=some .local:=by first | exact .inl rfl | exact .inr rfl | assumption):PSw X (.Assign [.Name x pos'] (.List es p) pos :: rest) (tSeq (tAsg (tLst t) (gName i)) u):=⟨pss_cons (ps_set hN hi hx (pe_lst h.h) rfl hf) h2.h⟩
open PySem.Spec PyProof.Rows in
theorem fokw {P:Program}{w:World}{K:PySem.W.Frag}{mg:Str→Option Value}{base:Heap}{x qual:Str}{st:Stmt}{f:Addr}{fd:FuncData}{N ps:List Str}{sp:Sp}{k:Nat} (F:Fun K x qual st f fd) (S:FnScope N ps (defScope st)) (len:∀ vs H Q E,sp vs H Q E→vs.length=ps.length)
  (hbody:∀ (cdv:Value) (A:Around) (outer:List Env) (s:Shared) (H:Hp) (vs:List V) (Q:VK) (E:XK),Room k (A.deeper (envOfC qual (defScope st) s.heap.objs.size f cdv))→sp vs H Q E→
   ∃ t,PSw (cxOf (CXe P w) P w K mg base N qual (defScope st) f cdv A outer s H E).nox (defBody st) t∧t { nx:=fun _ H'=>Q .non H',rt:=Q } (start N vs) H):FnOk P w K mg base (CXe P w) (k + 1) f fd ps sp:=
 G.fok F S len fun cdv A outer s H vs Q E hr h=>let ⟨t,p,q⟩:=hbody cdv A outer s H vs Q E hr h;⟨t,p.h,q⟩
section
variable {P:Program}{w:World}{K:PySem.W.Frag}{mg:Str→Option Value}{base:Heap}{C_GreyError Za0 Za3 Zae Za4 C_Sound C_TextError Zas f_Cell_units Zan Zaq f_Heap_make f_Heap_lay f_Heap_free f_Heap_there f_cell_at f_birth_at f_all_of Zac f_First_word Zam f_Each_word f_Last_word Zap f_Kind_words f_kind_of Zar Zak Zal f_births_held f_births_at f_looked_at f_has_sense f_mark_of f_told_cells f_told_cell f_begin f_note f_note_all f_gone f_slots_of f_cell_in f_fields_in f_told_as_old f_told_as_new f_do_make f_do_get f_do_put f_do_write f_do_read f_do_name f_do_seek f_place_named f_do f__law_mix f__law_kind f__law_same f__law_word f__law_refused f__law_stands f__law_draw f__law_world f__law_deed f__law_good f_do_copy f_do_drop f_do_give:Addr}{XQ:Cs} (T:Txt w K mg XQ.C XQ.H XQ.F XQ.E XQ.L XQ.K XQ.D XQ.S XQ.W C_GreyError Za0 Za3 Zae Za4 C_Sound C_TextError Zas f_Cell_units Zan Zaq f_Heap_make f_Heap_lay f_Heap_free f_Heap_there f_cell_at f_birth_at f_all_of Zac f_First_word Zam f_Each_word f_Last_word Zap f_Kind_words f_kind_of Zar Zak Zal f_births_held f_births_at f_looked_at f_has_sense f_mark_of f_told_cells f_told_cell f_begin f_note f_note_all f_gone f_slots_of f_cell_in f_fields_in f_told_as_old f_told_as_new f_do_make f_do_get f_do_put f_do_write f_do_read f_do_name f_do_seek f_place_named f_do f__law_mix f__law_kind f__law_same f__law_word f__law_refused f__law_stands f__law_draw f__law_world f__law_deed f__law_good f_do_copy f_do_drop f_do_give)
include T
theorem tx0:TxW K XQ:=⟨⟨T.cl_Cell,T.n_Cell_birth,T.n_Cell_bulk,T.n_Cell_tone,T.n_Cell_load,T.n_Cell_fields,T.cl_Heap,T.n_Heap_room,T.Zao,T.n_Heap_used,T.n_Heap_born,T.eq_Cell⟩,T.cl_World,T.n_World_heap,T.n_World_kind,T.n_World_hands,T.n_World_names,T.n_World_sweeper,T.cl_Hand,T.n_Hand_name,T.n_Hand_slots,T.cl_Kind,T.n_Kind_looking,T.n_Kind_tells,T.cl_Sweeper,T.n_Sweeper_sense,T.n_Sweeper_phase,T.n_Sweeper_grey,T.n_Sweeper_looked,T.n_Sweeper_turn,T.n_Sweeper_at,T.n_Sweeper_stop,T.n_Sweeper_walks,T.n_Sweeper_looks,T.n_Sweeper_passes,T.n_Sweeper_loss⟩
theorem ok_Cell___init__ {fd:FuncData} (F:Fun K "__init__" "Cell.__init__" s_Cell___init__ Zas fd):FnOk P w K mg base (G.CXe P w) 1 Zas fd ["self","birth","many","bulk","tone"] (S_Cell_init XQ.C):=by
 have sc:=sc_Cell___init__
 have tx:=tx0 T
 refine G.fok F sc (fun vs H Q E h=>?_) (fun cdv A outer s H vs Q E hr h=>?_)
 ·obtain ⟨z0,z1,z2,z3,z4,rfl,q⟩:=h;rfl
 ·refine ⟨rd_Cell___init__ K,(pss_cons (ps_fld (pv 0) (pv 1) rfl)
   (pss_cons (ps_fld (pv 0) (pv 3) rfl)
   (pss_cons (ps_fld (pv 0) (pv 4) rfl)
   (pss_cons (ps_fld (pv 0) (pe_int) rfl)
   (pss_one (ps_fld (pv 0) (pe_op op_rep (pe_lst (pa_cons (pe_non) pa_nil)) (pv 2)) rfl)))))),?_⟩
  obtain ⟨z0,z1,z2,z3,z4,rfl,q⟩:=h
  exact Cell___init___rd tx.c q
theorem ok_Cell_units {fd:FuncData} (F:Fun K "units" "Cell.units" s_Cell_units f_Cell_units fd):FnOk P w K mg base (G.CXe P w) 1 f_Cell_units fd ["self"] (S_Cell_units XQ.C):=by
 have sc:=sc_Cell_units
 have tx:=tx0 T
 refine G.fok F sc (fun vs H Q E h=>?_) (fun cdv A outer s H vs Q E hr h=>?_)
 ·obtain ⟨z0,rfl,q⟩:=h;rfl
 ·refine ⟨rd_Cell_units K,(pss_one (ps_ret (pe_op op_add (pe_op op_add (pe_int) (pe_callB G.call_lenL (by rfl) T.z_len G.boot_len (pa_cons (pe_fld (pv 0) rfl) pa_nil))) (pe_fld (pv 0) rfl)))),?_⟩
  obtain ⟨z0,rfl,q⟩:=h
  exact Cell_units_rd tx.c q
theorem ok_Cell_has_field {fd:FuncData} (F:Fun K "has_field" "Cell.has_field" s_Cell_has_field Zan fd):FnOk P w K mg base (G.CXe P w) 1 Zan fd ["self","field"] (S_has_field XQ):=by
 have sc:=sc_Cell_has_field
 have tx:=tx0 T
 refine G.fok F sc (fun vs H Q E h=>?_) (fun cdv A outer s H vs Q E hr h=>?_)
 ·obtain ⟨z0,z1,rfl,q⟩:=h;rfl
 ·refine ⟨rd_Cell_has_field K,(pss_one (ps_ret (pe_chain op_le op_lt (pe_int) (pv 1) (pe_callB G.call_lenL (by rfl) T.z_len G.boot_len (pa_cons (pe_fld (pv 0) rfl) pa_nil))))),?_⟩
  obtain ⟨z0,z1,rfl,q⟩:=h
  exact Cell_has_field_rd tx q
theorem ok_Heap___init__ {fd:FuncData} (F:Fun K "__init__" "Heap.__init__" s_Heap___init__ Zaq fd):FnOk P w K mg base (G.CXe P w) 1 Zaq fd ["self","room"] (S_Heap_init XQ.H):=by
 have sc:=sc_Heap___init__
 have tx:=tx0 T
 refine G.fok F sc (fun vs H Q E h=>?_) (fun cdv A outer s H vs Q E hr h=>?_)
 ·obtain ⟨z0,z1,rfl,q⟩:=h;rfl
 ·refine ⟨rd_Heap___init__ K,(pss_cons (ps_fld (pv 0) (pv 1) rfl)
   (pss_cons (ps_fld (pv 0) (pe_lst pa_nil) rfl)
   (pss_cons (ps_fld (pv 0) (pe_int) rfl)
   (pss_one (ps_fld (pv 0) (pe_int) rfl))))),?_⟩
  obtain ⟨z0,z1,rfl,q⟩:=h
  exact Heap___init___rd tx.c q
theorem ok_Heap_make {fd:FuncData} (F:G.FunD K "make" "Heap.make" s_Heap_make f_Heap_make fd) {fd_Cell___init__:FuncData} (G_Cell___init__:FnOk P w K mg base (G.CXe P w) 1 Zas fd_Cell___init__ ["self","birth","many","bulk","tone"] (S_Cell_init XQ.C)) (b_Cell___init__:Binds K fd_Cell___init__ ["self","birth","many","bulk","tone"] []) (k_Cell___init__:PySem.W.keepIn K (.ref Zas)=true) {fd_Cell_units:FuncData} (G_Cell_units:FnOk P w K mg base (G.CXe P w) 1 f_Cell_units fd_Cell_units ["self"] (S_Cell_units XQ.C)) (b_Cell_units:Binds K fd_Cell_units ["self"] []) (k_Cell_units:PySem.W.keepIn K (.ref f_Cell_units)=true) {fd_Heap_free:FuncData} (G_Heap_free:FnOk P w K mg base (G.CXe P w) 1 f_Heap_free fd_Heap_free ["self"] (S_Heap_free XQ.H)) (b_Heap_free:Binds K fd_Heap_free ["self"] []) (k_Heap_free:PySem.W.keepIn K (.ref f_Heap_free)=true) {fd_Heap_lay:FuncData} (G_Heap_lay:FnOk P w K mg base (G.CXe P w) 1 f_Heap_lay fd_Heap_lay ["self","cell"] (S_Heap_lay K XQ.H)) (b_Heap_lay:Binds K fd_Heap_lay ["self","cell"] []) (k_Heap_lay:PySem.W.keepIn K (.ref f_Heap_lay)=true):FnOk P w K mg base (G.CXe P w) 3 f_Heap_make fd ["self","many","bulk","tone"] (S_Heap_make K XQ.C XQ.H Zae):=by
 have sc:=sc_Heap_make
 have tx:=tx0 T
 refine G.fokDX F sc (fun vs H Q E h=>?_) (fun cdv A outer s H vs Q E hr h=>?_)
 ·obtain ⟨z0,z1,z2,z3,rfl,q⟩:=h;rfl
 ·refine ⟨rd_Heap_make K XQ.C Zae XQ.H (S_Cell_init XQ.C) (S_Cell_units XQ.C) (S_Heap_free XQ.H) (S_Heap_lay K XQ.H) E,(pss_cons (ps_set (i:=4) sc.nd rfl (Or.inl rfl) (pe_make T.mk_Cell G_Cell___init__ (hr.mono (by decide)) rfl T.m_Cell b_Cell___init__ .nil G.Zai (pa_cons (pe_op op_add (pe_fld (pv 0) rfl) (pe_int)) (pa_cons (pv 1) (pa_cons (pv 2) (pa_cons (pv 3) pa_nil))))))
   (pss_cons (ps_if (pt_cmpR op_gt (pe_meth0 (pv 4) T.cl_Cell T.me_Cell_units G_Cell_units (hr.mono (by decide)) b_Cell_units .nil G.Zai) (pe_meth0 (pv 0) T.cl_Heap T.me_Heap_free G_Heap_free (hr.mono (by decide)) b_Heap_free .nil G.Zai) (nomark _)) (pss_one (G.ps_raise rfl rfl T.m_Full T.x_Full (pa_cons (pe_str) pa_nil) (fun _ _ _ _ _ _ _ I hx hE=>G.raiseL I hx hE))) pss_nil)
   (pss_cons (ps_fld (pv 0) (pe_fld (pv 4) rfl) rfl)
   (pss_cons (ps_fld (pv 0) (pe_op op_add (pe_fld (pv 0) rfl) (pe_meth0 (pv 4) T.cl_Cell T.me_Cell_units G_Cell_units (hr.mono (by decide)) b_Cell_units .nil G.Zai)) rfl)
   (pss_one (ps_ret (pe_meth (pv 0) T.cl_Heap T.me_Heap_lay G_Heap_lay (hr.mono (by decide)) b_Heap_lay .nil G.Zai (pa_cons (pv 4) pa_nil)))))))),?_⟩
  obtain ⟨z0,z1,z2,z3,rfl,q⟩:=h
  exact Heap_make_rd tx.c q
theorem ok_Heap_lay {fd:FuncData} (F:Fun K "lay" "Heap.lay" s_Heap_lay f_Heap_lay fd):FnOk P w K mg base (G.CXe P w) 1 f_Heap_lay fd ["self","cell"] (S_Heap_lay K XQ.H):=by
 have sc:=sc_Heap_lay
 have tx:=tx0 T
 refine G.fok F sc (fun vs H Q E h=>?_) (fun cdv A outer s H vs Q E hr h=>?_)
 ·obtain ⟨z0,z1,rfl,q⟩:=h;rfl
 ·refine ⟨rd_Heap_lay K,(pss_cons (ps_if (pt_cmpR (G.op_notInN (hu_of hr)) (pe_non) (pe_fld (pv 0) rfl) (by with_unfolding_all rfl)) (pss_cons (ps_expr (pe_bm PySem.F.plainAttrs_list PySem.F.slot_list_append PySem.F.type_list_append mt_append (pe_fld (pv 0) rfl) (pa_cons (pv 1) pa_nil)))
   (pss_one (ps_ret (pe_op op_sub (pe_callB G.call_lenL (by rfl) T.z_len G.boot_len (pa_cons (pe_fld (pv 0) rfl) pa_nil)) (pe_int))))) pss_nil)
   (pss_cons (ps_set (i:=2) sc.nd rfl (Or.inl rfl) (pe_bm PySem.F.plainAttrs_list PySem.F.slot_list_index PySem.F.type_list_index (G.mt_indexN (hu_of hr)) (pe_fld (pv 0) rfl) (pa_cons (pe_non) pa_nil)))
   (pss_cons (ps_asg (pv 1) (pg_sub (pe_fld (pv 0) rfl) (pv 2) set_list))
   (pss_one (ps_ret (pv 2)))))),?_⟩
  obtain ⟨z0,z1,rfl,q⟩:=h
  exact Heap_lay_rd tx.c q
theorem ok_Heap_free {fd:FuncData} (F:Fun K "free" "Heap.free" s_Heap_free f_Heap_free fd):FnOk P w K mg base (G.CXe P w) 1 f_Heap_free fd ["self"] (S_Heap_free XQ.H):=by
 have sc:=sc_Heap_free
 have tx:=tx0 T
 refine G.fok F sc (fun vs H Q E h=>?_) (fun cdv A outer s H vs Q E hr h=>?_)
 ·obtain ⟨z0,rfl,q⟩:=h;rfl
 ·refine ⟨rd_Heap_free K,(pss_one (ps_ret (pe_op op_sub (pe_fld (pv 0) rfl) (pe_fld (pv 0) rfl)))),?_⟩
  obtain ⟨z0,rfl,q⟩:=h
  exact Heap_free_rd tx.c q
theorem ok_Heap_there {fd:FuncData} (F:Fun K "there" "Heap.there" s_Heap_there f_Heap_there fd):FnOk P w K mg base (G.CXe P w) 1 f_Heap_there fd ["self"] (S_Heap_there XQ.H):=by
 have sc:=sc_Heap_there
 have tx:=tx0 T
 refine G.fok F sc (fun vs H Q E h=>?_) (fun cdv A outer s H vs Q E hr h=>?_)
 ·obtain ⟨z0,rfl,q⟩:=h;rfl
 ·refine ⟨rd_Heap_there K,(pss_one (ps_ret (G.pe_lc (cns:=["self"]) [0] (pi_range1 rfl T.z_range (pa_cons (pe_callB G.call_lenL (by rfl) T.z_len G.boot_len (pa_cons (pe_fld (pv 0) rfl) pa_nil)) pa_nil)) (fun _ _ _ _ _=>(G.pf_one (pt_cmpR G.op_notN_ (pe_ix ix_list (pe_fld (pv 1) rfl) (pv 0) (fun _ _=>rfl)) (pe_non) (nomark _)))) (fun _ _ _ _ _=>(pv 0)) rfl rfl (by repeat (first | exact trivial | refine ⟨rfl,?_⟩)) (by repeat (first | exact trivial | refine ⟨rfl,?_⟩)) rfl (by decide +kernel) rfl (by decide +kernel) (by decide +kernel) rfl (by decide +kernel)))),?_⟩
  obtain ⟨z0,rfl,q⟩:=h
  exact Heap_there_rd tx.c q
theorem ok_cell_at {fd:FuncData} (F:Fun K "cell_at" "cell_at" s_cell_at f_cell_at fd):FnOk P w K mg base (G.CXe P w) 1 f_cell_at fd ["heap","place"] (S_cell_at XQ.H):=by
 have sc:=sc_cell_at
 have tx:=tx0 T
 refine G.fok F sc (fun vs H Q E h=>?_) (fun cdv A outer s H vs Q E hr h=>?_)
 ·obtain ⟨z0,z1,rfl,q⟩:=h;rfl
 ·refine ⟨rd_cell_at K,(pss_cons (ps_if (PW.pt (pw_or (pt_cmpR G.op_isN_ (pv 1) (pe_non) (nomark _)) (pw_or (pt_cmpR op_lt (pv 1) (pe_int) (nomark _)) (pw_or1 (pt_cmpR op_ge (pv 1) (pe_callB G.call_lenL (by rfl) T.z_len G.boot_len (pa_cons (pe_fld (pv 0) rfl) pa_nil)) (nomark _)))))) (pss_one (ps_ret (pe_non))) pss_nil)
   (pss_one (ps_ret (pe_ix ix_list (pe_fld (pv 0) rfl) (pv 1) (fun _ _=>rfl))))),?_⟩
  obtain ⟨z0,z1,rfl,q⟩:=h
  exact cell_at_rd tx q
theorem ok_birth_at {fd:FuncData} (F:Fun K "birth_at" "birth_at" s_birth_at f_birth_at fd) {fd_cell_at:FuncData} (G_cell_at:FnOk P w K mg base (G.CXe P w) 1 f_cell_at fd_cell_at ["heap","place"] (S_cell_at XQ.H)) (b_cell_at:Binds K fd_cell_at ["heap","place"] []) (k_cell_at:PySem.W.keepIn K (.ref f_cell_at)=true):FnOk P w K mg base (G.CXe P w) 2 f_birth_at fd ["heap","place"] (S_birth_at XQ):=by
 have sc:=sc_birth_at
 have tx:=tx0 T
 refine G.fok F sc (fun vs H Q E h=>?_) (fun cdv A outer s H vs Q E hr h=>?_)
 ·obtain ⟨z0,z1,rfl,q⟩:=h;rfl
 ·refine ⟨rd_birth_at K (S_cell_at XQ.H),(pss_cons (ps_set (i:=2) sc.nd rfl (Or.inl rfl) (pe_call G_cell_at (hr.mono (by decide)) rfl T.m_cell_at k_cell_at b_cell_at .nil G.Zai (pa_cons (pv 0) (pa_cons (pv 1) pa_nil))))
   (pss_cons (ps_if (pt_cmpR G.op_isN_ (pv 2) (pe_non) (nomark _)) (pss_one (ps_ret (pe_non))) pss_nil)
   (pss_one (ps_ret (pe_fld (pv 2) rfl))))),?_⟩
  obtain ⟨z0,z1,rfl,q⟩:=h
  exact birth_at_rd tx q
theorem ok_all_of {fd:FuncData} (F:Fun K "all_of" "all_of" s_all_of f_all_of fd):FnOk P w K mg base (G.CXe P w) 1 f_all_of fd ["hands"] (S_all_of):=by
 have sc:=sc_all_of
 have tx:=tx0 T
 refine G.fok F sc (fun vs H Q E h=>?_) (fun cdv A outer s H vs Q E hr h=>?_)
 ·obtain ⟨z0,rfl,q⟩:=h;rfl
 ·refine ⟨rd_all_of,(pss_one (ps_ret (pe_op op_sub (pe_op op_shl (pe_int) (pv 0)) (pe_int)))),?_⟩
  obtain ⟨z0,rfl,q⟩:=h
  exact all_of_rd q
theorem ok_Looking_at_begin {fd:FuncData} (F:Fun K "at_begin" "Looking.at_begin" s_Looking_at_begin Zac fd):FnOk P w K mg base (G.CXe P w) 1 Zac fd ["self","hands"] (S_at_begin 1):=by
 have sc:=sc_Looking_at_begin
 have tx:=tx0 T
 refine G.fok F sc (fun vs H Q E h=>?_) (fun cdv A outer s H vs Q E hr h=>?_)
 ·obtain ⟨z0,z1,rfl,q⟩:=h;rfl
 ·refine ⟨rd_Looking_at_begin,(pss_one (ps_ret (pe_int))),?_⟩
  obtain ⟨z0,z1,rfl,q⟩:=h
  exact Looking_at_begin_rd q
theorem ok_First_word {fd:FuncData} (F:Fun K "word" "First.word" s_First_word f_First_word fd):FnOk P w K mg base (G.CXe P w) 1 f_First_word fd ["self"] (S_tell (.str "first")):=by
 have sc:=sc_First_word
 have tx:=tx0 T
 refine G.fok F sc (fun vs H Q E h=>?_) (fun cdv A outer s H vs Q E hr h=>?_)
 ·obtain ⟨z0,rfl,q⟩:=h;rfl
 ·refine ⟨rd_First_word,(pss_one (ps_ret (pe_str))),?_⟩
  obtain ⟨z0,rfl,q⟩:=h
  exact First_word_rd tx q
theorem ok_First_at_begin {fd:FuncData} (F:Fun K "at_begin" "First.at_begin" s_First_at_begin Zam fd) {fd_all_of:FuncData} (G_all_of:FnOk P w K mg base (G.CXe P w) 1 f_all_of fd_all_of ["hands"] (S_all_of)) (b_all_of:Binds K fd_all_of ["hands"] []) (k_all_of:PySem.W.keepIn K (.ref f_all_of)=true):FnOk P w K mg base (G.CXe P w) 2 Zam fd ["self","hands"] (S_at_begin 0):=by
 have sc:=sc_First_at_begin
 have tx:=tx0 T
 refine G.fok F sc (fun vs H Q E h=>?_) (fun cdv A outer s H vs Q E hr h=>?_)
 ·obtain ⟨z0,z1,rfl,q⟩:=h;rfl
 ·refine ⟨rd_First_at_begin (S_all_of),(pss_one (ps_ret (pe_call G_all_of (hr.mono (by decide)) rfl T.m_all_of k_all_of b_all_of .nil G.Zai (pa_cons (pv 1) pa_nil)))),?_⟩
  obtain ⟨z0,z1,rfl,q⟩:=h
  exact First_at_begin_rd q
theorem ok_Each_word {fd:FuncData} (F:Fun K "word" "Each.word" s_Each_word f_Each_word fd):FnOk P w K mg base (G.CXe P w) 1 f_Each_word fd ["self"] (S_tell (.str "each")):=by
 have sc:=sc_Each_word
 have tx:=tx0 T
 refine G.fok F sc (fun vs H Q E h=>?_) (fun cdv A outer s H vs Q E hr h=>?_)
 ·obtain ⟨z0,rfl,q⟩:=h;rfl
 ·refine ⟨rd_Each_word,(pss_one (ps_ret (pe_str))),?_⟩
  obtain ⟨z0,rfl,q⟩:=h
  exact Each_word_rd tx q
theorem ok_Last_word {fd:FuncData} (F:Fun K "word" "Last.word" s_Last_word f_Last_word fd):FnOk P w K mg base (G.CXe P w) 1 f_Last_word fd ["self"] (S_tell (.str "last")):=by
 have sc:=sc_Last_word
 have tx:=tx0 T
 refine G.fok F sc (fun vs H Q E h=>?_) (fun cdv A outer s H vs Q E hr h=>?_)
 ·obtain ⟨z0,rfl,q⟩:=h;rfl
 ·refine ⟨rd_Last_word,(pss_one (ps_ret (pe_str))),?_⟩
  obtain ⟨z0,rfl,q⟩:=h
  exact Last_word_rd tx q
theorem ok_Kind___init__ {fd:FuncData} (F:Fun K "__init__" "Kind.__init__" s_Kind___init__ Zap fd):FnOk P w K mg base (G.CXe P w) 1 Zap fd ["self","looking","tells"] (S_Kind_init XQ.K):=by
 have sc:=sc_Kind___init__
 have tx:=tx0 T
 refine G.fok F sc (fun vs H Q E h=>?_) (fun cdv A outer s H vs Q E hr h=>?_)
 ·obtain ⟨z0,z1,z2,rfl,q⟩:=h;rfl
 ·refine ⟨rd_Kind___init__ K,(pss_cons (ps_fld (pv 0) (pv 1) rfl)
   (pss_one (ps_fld (pv 0) (pv 2) rfl))),?_⟩
  obtain ⟨z0,z1,z2,rfl,q⟩:=h
  exact Kind___init___rd tx q
theorem ok_Kind_words {fd:FuncData} (F:Fun K "words" "Kind.words" s_Kind_words f_Kind_words fd) {fd_Each_word:FuncData} (G_Each_word:FnOk P w K mg base (G.CXe P w) 1 f_Each_word fd_Each_word ["self"] (S_tell (.str "each"))) (b_Each_word:Binds K fd_Each_word ["self"] []) (k_Each_word:PySem.W.keepIn K (.ref f_Each_word)=true) {fd_First_word:FuncData} (G_First_word:FnOk P w K mg base (G.CXe P w) 1 f_First_word fd_First_word ["self"] (S_tell (.str "first"))) (b_First_word:Binds K fd_First_word ["self"] []) (k_First_word:PySem.W.keepIn K (.ref f_First_word)=true) {fd_Last_word:FuncData} (G_Last_word:FnOk P w K mg base (G.CXe P w) 1 f_Last_word fd_Last_word ["self"] (S_tell (.str "last"))) (b_Last_word:Binds K fd_Last_word ["self"] []) (k_Last_word:PySem.W.keepIn K (.ref f_Last_word)=true):FnOk P w K mg base (G.CXe P w) 2 f_Kind_words fd ["self"] (S_words XQ):=by
 have sc:=sc_Kind_words
 have tx:=tx0 T
 refine G.fok F sc (fun vs H Q E h=>?_) (fun cdv A outer s H vs Q E hr h=>?_)
 ·obtain ⟨z0,rfl,q⟩:=h;rfl
 ·refine ⟨rd_Kind_words K XQ.E XQ.F XQ.L (S_tell (.str "each")) (S_tell (.str "first")) (S_tell (.str "last")),(pss_cons (ps_set (i:=1) sc.nd rfl (Or.inl rfl) (G.pe_eith (pe_meth0 (pe_fld (pv 0) rfl) T.cl_First T.me_First_word G_First_word (hr.mono (by decide)) b_First_word .nil G.Zai) (G.pe_eith (pe_meth0 (pe_fld (pv 0) rfl) T.cl_Each T.me_Each_word G_Each_word (hr.mono (by decide)) b_Each_word .nil G.Zai) (pe_meth0 (pe_fld (pv 0) rfl) T.cl_Last T.me_Last_word G_Last_word (hr.mono (by decide)) b_Last_word .nil G.Zai))))
   (pss_cons (ps_if (pt_cmpR op_ne (pe_op op_and (pe_fld (pv 0) rfl) (T.g_OLD.pe rfl)) (pe_int) (nomark _)) (pss_one (ps_set (i:=1) sc.nd rfl (Or.inl rfl) (pe_op op_add_str (pv 1) (pe_str)))) pss_nil)
   (pss_cons (ps_if (pt_cmpR op_ne (pe_op op_and (pe_fld (pv 0) rfl) (T.g_NEW.pe rfl)) (pe_int) (nomark _)) (pss_one (ps_set (i:=1) sc.nd rfl (Or.inl rfl) (pe_op op_add_str (pv 1) (pe_str)))) pss_nil)
   (pss_one (ps_ret (pv 1)))))),?_⟩
  obtain ⟨z0,rfl,q⟩:=h
  exact Kind_words_rd tx q
theorem ok_kind_of {fd:FuncData} (F:Fun K "kind_of" "kind_of" s_kind_of f_kind_of fd) {fd_Kind___init__:FuncData} (G_Kind___init__:FnOk P w K mg base (G.CXe P w) 1 Zap fd_Kind___init__ ["self","looking","tells"] (S_Kind_init XQ.K)) (b_Kind___init__:Binds K fd_Kind___init__ ["self","looking","tells"] []) (k_Kind___init__:PySem.W.keepIn K (.ref Zap)=true) {fd_Kind_words:FuncData} (G_Kind_words:FnOk P w K mg base (G.CXe P w) 2 f_Kind_words fd_Kind_words ["self"] (S_words XQ)) (b_Kind_words:Binds K fd_Kind_words ["self"] []) (k_Kind_words:PySem.W.keepIn K (.ref f_Kind_words)=true):FnOk P w K mg base (G.CXe P w) 3 f_kind_of fd ["text"] (S_kind_of XQ):=by
 have sc:=sc_kind_of
 have tx:=tx0 T
 refine G.fok F sc (fun vs H Q E h=>?_) (fun cdv A outer s H vs Q E hr h=>?_)
 ·obtain ⟨z0,rfl,q⟩:=h;rfl
 ·refine ⟨rd_kind_of K XQ.E XQ.F XQ.K XQ.L (S_Kind_init XQ.K) (S_words XQ),(pss_cons (ps_for PassesOwn.never rfl (pi_list (pe_lst (pa_cons (G.pe_make00 T.mk0_First rfl T.m_First) (pa_cons (G.pe_make00 T.mk0_Each rfl T.m_Each) (pa_cons (G.pe_make00 T.mk0_Last rfl T.m_Last) pa_nil))))) (pg_name (i:=1) sc.nd rfl (Or.inl rfl))
   (pss_one (ps_for PassesOwn.never rfl (pi_range1 rfl T.z_range (pa_cons (pe_int) pa_nil)) (pg_name (i:=2) sc.nd rfl (Or.inl rfl))
   (pss_cons (ps_set (i:=3) sc.nd rfl (Or.inl rfl) (pe_make T.mk_Kind G_Kind___init__ (hr.mono (by decide)) rfl T.m_Kind b_Kind___init__ .nil G.Zai (pa_cons (pv 1) (pa_cons (pv 2) pa_nil))))
   (pss_one (ps_if (pt_cmpR op_eq (pe_meth0 (pv 3) T.cl_Kind T.me_Kind_words G_Kind_words (hr.mono (by decide)) b_Kind_words .nil G.Zai) (pv 0) (nomark _)) (pss_one (ps_ret (pv 3))) pss_nil))))))
   (pss_one (ps_ret (pe_non)))),?_⟩
  obtain ⟨z0,rfl,q⟩:=h
  exact kind_of_rd tx q
theorem ok_Hand___init__ {fd:FuncData} (F:Fun K "__init__" "Hand.__init__" s_Hand___init__ Zar fd):FnOk P w K mg base (G.CXe P w) 1 Zar fd ["self","name","many"] (S_Hand_init XQ.D):=by
 have sc:=sc_Hand___init__
 have tx:=tx0 T
 refine G.fok F sc (fun vs H Q E h=>?_) (fun cdv A outer s H vs Q E hr h=>?_)
 ·obtain ⟨z0,z1,z2,rfl,q⟩:=h;rfl
 ·refine ⟨rd_Hand___init__ K,(pss_cons (ps_fld (pv 0) (pv 1) rfl)
   (pss_one (ps_fld (pv 0) (pe_op op_rep (pe_lst (pa_cons (pe_non) pa_nil)) (pv 2)) rfl))),?_⟩
  obtain ⟨z0,z1,z2,rfl,q⟩:=h
  exact Hand___init___rd tx q
theorem ok_Sweeper___init__ {fd:FuncData} (F:Fun K "__init__" "Sweeper.__init__" s_Sweeper___init__ Zak fd):FnOk P w K mg base (G.CXe P w) 1 Zak fd ["self"] (S_Sweeper_init XQ.S):=by
 have sc:=sc_Sweeper___init__
 have tx:=tx0 T
 refine G.fok F sc (fun vs H Q E h=>?_) (fun cdv A outer s H vs Q E hr h=>?_)
 ·obtain ⟨z0,rfl,q⟩:=h;rfl
 ·refine ⟨rd_Sweeper___init__ K,(pss_cons (ps_fld (pv 0) (pe_int) rfl)
   (pss_cons (ps_fld (pv 0) (pe_str) rfl)
   (pss_cons (ps_fld (pv 0) (pe_lst pa_nil) rfl)
   (pss_cons (ps_fld (pv 0) (pe_int) rfl)
   (pss_cons (ps_fld (pv 0) (pe_int) rfl)
   (pss_cons (ps_fld (pv 0) (pe_int) rfl)
   (pss_cons (ps_fld (pv 0) (pe_int) rfl)
   (pss_cons (ps_fld (pv 0) (pe_int) rfl)
   (pss_cons (ps_fld (pv 0) (pe_int) rfl)
   (pss_cons (ps_fld (pv 0) (pe_int) rfl)
   (pss_one (ps_fld (pv 0) (pe_non) rfl)))))))))))),?_⟩
  obtain ⟨z0,rfl,q⟩:=h
  exact Sweeper___init___rd tx q
theorem ok_World___init__ {fd:FuncData} (F:Fun K "__init__" "World.__init__" s_World___init__ Zal fd) {fd_Hand___init__:FuncData} (G_Hand___init__:FnOk P w K mg base (G.CXe P w) 1 Zar fd_Hand___init__ ["self","name","many"] (S_Hand_init XQ.D)) (b_Hand___init__:Binds K fd_Hand___init__ ["self","name","many"] []) (k_Hand___init__:PySem.W.keepIn K (.ref Zar)=true) {fd_Heap___init__:FuncData} (G_Heap___init__:FnOk P w K mg base (G.CXe P w) 1 Zaq fd_Heap___init__ ["self","room"] (S_Heap_init XQ.H)) (b_Heap___init__:Binds K fd_Heap___init__ ["self","room"] []) (k_Heap___init__:PySem.W.keepIn K (.ref Zaq)=true) {fd_Sweeper___init__:FuncData} (G_Sweeper___init__:FnOk P w K mg base (G.CXe P w) 1 Zak fd_Sweeper___init__ ["self"] (S_Sweeper_init XQ.S)) (b_Sweeper___init__:Binds K fd_Sweeper___init__ ["self"] []) (k_Sweeper___init__:PySem.W.keepIn K (.ref Zak)=true):FnOk P w K mg base (G.CXe P w) 3 Zal fd ["self","room","kind","hands"] (S_World_init XQ):=by
 have sc:=sc_World___init__
 have tx:=tx0 T
 refine G.fok F sc (fun vs H Q E h=>?_) (fun cdv A outer s H vs Q E hr h=>?_)
 ·obtain ⟨z0,z1,z2,z3,rfl,q⟩:=h;rfl
 ·refine ⟨rd_World___init__ K XQ.D XQ.H XQ.S (S_Hand_init XQ.D) (S_Heap_init XQ.H) (S_Sweeper_init XQ.S),(pss_cons (ps_fld (pv 0) (pe_make T.mk_Heap G_Heap___init__ (hr.mono (by decide)) rfl T.m_Heap b_Heap___init__ .nil G.Zai (pa_cons (pv 1) pa_nil)) rfl)
   (pss_cons (ps_fld (pv 0) (pv 2) rfl)
   (pss_cons (ps_fld (pv 0) (G.pe_lc2 (cns:=[]) [] (pi_list (pv 3)) (fun _ _ _ _ _=>G.pf_nil) (fun _ _ _ _ _=>(pe_make T.mk_Hand G_Hand___init__ (hr.mono (by decide)) rfl T.m_Hand b_Hand___init__ .nil G.Zai (pa_cons (pv 0) (pa_cons (pv 1) pa_nil)))) rfl rfl (by repeat (first | exact trivial | refine ⟨rfl,?_⟩)) (by repeat (first | exact trivial | refine ⟨rfl,?_⟩)) rfl (by decide +kernel) rfl (by decide +kernel) (by decide +kernel) rfl rfl (by decide +kernel)) rfl)
   (pss_cons (ps_fld (pv 0) (pe_dnewK) rfl)
   (pss_one (ps_fld (pv 0) (pe_make0 T.mk_Sweeper G_Sweeper___init__ (hr.mono (by decide)) rfl T.m_Sweeper b_Sweeper___init__ .nil G.Zai) rfl)))))),?_⟩
  obtain ⟨z0,z1,z2,z3,rfl,q⟩:=h
  exact World___init___rd tx q
theorem ok_births_held {fd:FuncData} (F:Fun K "births_held" "births_held" s_births_held f_births_held fd) {fd_births_at:FuncData} (G_births_at:FnOk P w K mg base (G.CXe P w) 3 f_births_at fd_births_at ["heap","places"] (S_births_at XQ)) (b_births_at:Binds K fd_births_at ["heap","places"] []) (k_births_at:PySem.W.keepIn K (.ref f_births_at)=true):FnOk P w K mg base (G.CXe P w) 4 f_births_held fd ["world"] (S_births XQ):=by
 have sc:=sc_births_held
 have tx:=tx0 T
 refine G.fok F sc (fun vs H Q E h=>?_) (fun cdv A outer s H vs Q E hr h=>?_)
 ·obtain ⟨z0,rfl,q⟩:=h;rfl
 ·refine ⟨rd_births_held K (S_births_at XQ),(pss_one (ps_ret (G.pe_lc (cns:=["world"]) [0] (pi_list (pe_fld (pv 0) rfl)) (fun _ _ _ _ _=>G.pf_nil) (fun _ _ _ _ _=>(pe_call G_births_at (hr.mono (by decide)) rfl T.m_births_at k_births_at b_births_at .nil G.Zai (pa_cons (pe_fld (pv 1) rfl) (pa_cons (pe_fld (pv 0) rfl) pa_nil)))) rfl rfl (by repeat (first | exact trivial | refine ⟨rfl,?_⟩)) (by repeat (first | exact trivial | refine ⟨rfl,?_⟩)) rfl (by decide +kernel) rfl (by decide +kernel) (by decide +kernel) rfl (by decide +kernel)))),?_⟩
  obtain ⟨z0,rfl,q⟩:=h
  exact births_held_rd tx q
theorem ok_births_at {fd:FuncData} (F:Fun K "births_at" "births_at" s_births_at f_births_at fd) {fd_birth_at:FuncData} (G_birth_at:FnOk P w K mg base (G.CXe P w) 2 f_birth_at fd_birth_at ["heap","place"] (S_birth_at XQ)) (b_birth_at:Binds K fd_birth_at ["heap","place"] []) (k_birth_at:PySem.W.keepIn K (.ref f_birth_at)=true):FnOk P w K mg base (G.CXe P w) 3 f_births_at fd ["heap","places"] (S_births_at XQ):=by
 have sc:=sc_births_at
 have tx:=tx0 T
 refine G.fok F sc (fun vs H Q E h=>?_) (fun cdv A outer s H vs Q E hr h=>?_)
 ·obtain ⟨z0,z1,rfl,q⟩:=h;rfl
 ·refine ⟨rd_births_at K (S_birth_at XQ),(pss_one (ps_ret (G.pe_lc (cns:=["heap"]) [0] (pi_list (pv 1)) (fun _ _ _ _ _=>G.pf_nil) (fun _ _ _ _ _=>(pe_call G_birth_at (hr.mono (by decide)) rfl T.m_birth_at k_birth_at b_birth_at .nil G.Zai (pa_cons (pv 1) (pa_cons (pv 0) pa_nil)))) rfl rfl (by repeat (first | exact trivial | refine ⟨rfl,?_⟩)) (by repeat (first | exact trivial | refine ⟨rfl,?_⟩)) rfl (by decide +kernel) rfl (by decide +kernel) (by decide +kernel) rfl (by decide +kernel)))),?_⟩
  obtain ⟨z0,z1,rfl,q⟩:=h
  exact births_at_rd tx q
theorem ok_looked_at {fd:FuncData} (F:Fun K "looked_at" "looked_at" s_looked_at f_looked_at fd):FnOk P w K mg base (G.CXe P w) 1 f_looked_at fd ["world","hand"] (S_looked_at XQ):=by
 have sc:=sc_looked_at
 have tx:=tx0 T
 refine G.fok F sc (fun vs H Q E h=>?_) (fun cdv A outer s H vs Q E hr h=>?_)
 ·obtain ⟨z0,z1,rfl,q⟩:=h;rfl
 ·refine ⟨rd_looked_at K,(pss_one (ps_ret (pe_cmpR op_eq (pe_op op_and (pe_op op_shr (pe_fld (pe_fld (pv 0) rfl) rfl) (pv 1)) (pe_int)) (pe_int) (nomark _)))),?_⟩
  obtain ⟨z0,z1,rfl,q⟩:=h
  exact looked_at_rd tx q
theorem ok_has_sense {fd:FuncData} (F:Fun K "has_sense" "has_sense" s_has_sense f_has_sense fd):FnOk P w K mg base (G.CXe P w) 1 f_has_sense fd ["world","cell"] (S_has_sense XQ):=by
 have sc:=sc_has_sense
 have tx:=tx0 T
 refine G.fok F sc (fun vs H Q E h=>?_) (fun cdv A outer s H vs Q E hr h=>?_)
 ·obtain ⟨z0,z1,rfl,q⟩:=h;rfl
 ·refine ⟨rd_has_sense K,(pss_one (ps_ret (pe_cmpR op_eq (pe_fld (pv 1) rfl) (pe_fld (pe_fld (pv 0) rfl) rfl) (nomark _)))),?_⟩
  obtain ⟨z0,z1,rfl,q⟩:=h
  exact has_sense_rd tx q
theorem ok_mark_of {fd:FuncData} (F:Fun K "mark_of" "mark_of" s_mark_of f_mark_of fd) {fd_has_sense:FuncData} (G_has_sense:FnOk P w K mg base (G.CXe P w) 1 f_has_sense fd_has_sense ["world","cell"] (S_has_sense XQ)) (b_has_sense:Binds K fd_has_sense ["world","cell"] []) (k_has_sense:PySem.W.keepIn K (.ref f_has_sense)=true):FnOk P w K mg base (G.CXe P w) 2 f_mark_of fd ["world","place"] (S_mark_of XQ):=by
 have sc:=sc_mark_of
 have tx:=tx0 T
 refine G.fok F sc (fun vs H Q E h=>?_) (fun cdv A outer s H vs Q E hr h=>?_)
 ·obtain ⟨z0,z1,rfl,q⟩:=h;rfl
 ·refine ⟨rd_mark_of K (S_has_sense XQ),(pss_cons (ps_set (i:=2) sc.nd rfl (Or.inl rfl) (pe_fld (pv 0) rfl))
   (pss_cons (ps_set (i:=3) sc.nd rfl (Or.inl rfl) (pe_call G_has_sense (hr.mono (by decide)) rfl T.m_has_sense k_has_sense b_has_sense .nil G.Zai (pa_cons (pv 0) (pa_cons (pe_ix ix_list (pe_fld (pe_fld (pv 0) rfl) rfl) (pv 1) (fun _ _=>rfl)) pa_nil))))
   (pss_cons (ps_if (pt_cmpR op_eq (pe_fld (pv 2) rfl) (pe_str) (nomark _)) (pss_one (ps_ret (pe_str))) pss_nil)
   (pss_cons (ps_if (pt_cmpR op_eq (pe_fld (pv 2) rfl) (pe_str) (nomark _)) (pss_one (ps_ret (pe_ifExp (pt_val (pv 3)) (pe_str) (pe_str)))) pss_nil)
   (pss_cons (ps_if (pt_not (pt_val (pv 3))) (pss_one (ps_ret (pe_str))) pss_nil)
   (pss_one (ps_ret (pe_ifExp (pt_cmpR op_in_seq (pv 1) (pe_fld (pv 2) rfl) (by with_unfolding_all rfl)) (pe_str) (pe_str))))))))),?_⟩
  obtain ⟨z0,z1,rfl,q⟩:=h
  exact mark_of_rd tx q
theorem ok_told_cells {fd:FuncData} (F:Fun K "told_cells" "told_cells" s_told_cells f_told_cells fd) {fd_Heap_there:FuncData} (G_Heap_there:FnOk P w K mg base (G.CXe P w) 1 f_Heap_there fd_Heap_there ["self"] (S_Heap_there XQ.H)) (b_Heap_there:Binds K fd_Heap_there ["self"] []) (k_Heap_there:PySem.W.keepIn K (.ref f_Heap_there)=true) {fd_told_cell:FuncData} (G_told_cell:FnOk P w K mg base (G.CXe P w) 4 f_told_cell fd_told_cell ["world","place"] (S_told_cell XQ)) (b_told_cell:Binds K fd_told_cell ["world","place"] []) (k_told_cell:PySem.W.keepIn K (.ref f_told_cell)=true):FnOk P w K mg base (G.CXe P w) 5 f_told_cells fd ["world"] (S_told XQ):=by
 have sc:=sc_told_cells
 have tx:=tx0 T
 refine G.fok F sc (fun vs H Q E h=>?_) (fun cdv A outer s H vs Q E hr h=>?_)
 ·obtain ⟨z0,rfl,q⟩:=h;rfl
 ·refine ⟨rd_told_cells K XQ.H (S_Heap_there XQ.H) (S_told_cell XQ),(pss_one (ps_ret (G.pe_lc (cns:=["world"]) [0] (pi_list (pe_meth0 (pe_fld (pv 0) rfl) T.cl_Heap T.me_Heap_there G_Heap_there (hr.mono (by decide)) b_Heap_there .nil G.Zai)) (fun _ _ _ _ _=>G.pf_nil) (fun _ _ _ _ _=>(pe_call G_told_cell (hr.mono (by decide)) rfl T.m_told_cell k_told_cell b_told_cell .nil G.Zai (pa_cons (pv 1) (pa_cons (pv 0) pa_nil)))) rfl rfl (by repeat (first | exact trivial | refine ⟨rfl,?_⟩)) (by repeat (first | exact trivial | refine ⟨rfl,?_⟩)) rfl (by decide +kernel) rfl (by decide +kernel) (by decide +kernel) rfl (by decide +kernel)))),?_⟩
  obtain ⟨z0,rfl,q⟩:=h
  exact told_cells_rd tx q
theorem ok_told_cell {fd:FuncData} (F:Fun K "told_cell" "told_cell" s_told_cell f_told_cell fd) {fd_births_at:FuncData} (G_births_at:FnOk P w K mg base (G.CXe P w) 3 f_births_at fd_births_at ["heap","places"] (S_births_at XQ)) (b_births_at:Binds K fd_births_at ["heap","places"] []) (k_births_at:PySem.W.keepIn K (.ref f_births_at)=true) {fd_mark_of:FuncData} (G_mark_of:FnOk P w K mg base (G.CXe P w) 2 f_mark_of fd_mark_of ["world","place"] (S_mark_of XQ)) (b_mark_of:Binds K fd_mark_of ["world","place"] []) (k_mark_of:PySem.W.keepIn K (.ref f_mark_of)=true):FnOk P w K mg base (G.CXe P w) 4 f_told_cell fd ["world","place"] (S_told_cell XQ):=by
 have sc:=sc_told_cell
 have tx:=tx0 T
 refine G.fok F sc (fun vs H Q E h=>?_) (fun cdv A outer s H vs Q E hr h=>?_)
 ·obtain ⟨z0,z1,rfl,q⟩:=h;rfl
 ·refine ⟨rd_told_cell K (S_births_at XQ) (S_mark_of XQ),(pss_cons (ps_set (i:=2) sc.nd rfl (Or.inl rfl) (pe_ix ix_list (pe_fld (pe_fld (pv 0) rfl) rfl) (pv 1) (fun _ _=>rfl)))
   (pss_cons (ps_set (i:=3) sc.nd rfl (Or.inl rfl) (pe_call G_births_at (hr.mono (by decide)) rfl T.m_births_at k_births_at b_births_at .nil G.Zai (pa_cons (pe_fld (pv 0) rfl) (pa_cons (pe_fld (pv 2) rfl) pa_nil))))
   (pss_one (ps_ret (pe_tup (pa_cons (pv 1) (pa_cons (pe_fld (pv 2) rfl) (pa_cons (pe_fld (pv 2) rfl) (pa_cons (pe_fld (pv 2) rfl) (pa_cons (pv 3) (pa_cons (pe_call G_mark_of (hr.mono (by decide)) rfl T.m_mark_of k_mark_of b_mark_of .nil G.Zai (pa_cons (pv 0) (pa_cons (pv 1) pa_nil))) pa_nil))))))))))),?_⟩
  obtain ⟨z0,z1,rfl,q⟩:=h
  exact told_cell_rd tx q
theorem ok_begin {fd:FuncData} (F:Fun K "begin" "begin" s_begin f_begin fd) {fd_First_at_begin:FuncData} (G_First_at_begin:FnOk P w K mg base (G.CXe P w) 2 Zam fd_First_at_begin ["self","hands"] (S_at_begin 0)) (b_First_at_begin:Binds K fd_First_at_begin ["self","hands"] []) (k_First_at_begin:PySem.W.keepIn K (.ref Zam)=true) {fd_Looking_at_begin:FuncData} (G_Looking_at_begin:FnOk P w K mg base (G.CXe P w) 1 Zac fd_Looking_at_begin ["self","hands"] (S_at_begin 1)) (b_Looking_at_begin:Binds K fd_Looking_at_begin ["self","hands"] []) (k_Looking_at_begin:PySem.W.keepIn K (.ref Zac)=true):FnOk P w K mg base (G.CXe P w) 3 f_begin fd ["world"] (S_begin XQ):=by
 have sc:=sc_begin
 have tx:=tx0 T
 refine G.fok F sc (fun vs H Q E h=>?_) (fun cdv A outer s H vs Q E hr h=>?_)
 ·obtain ⟨z0,rfl,q⟩:=h;rfl
 ·refine ⟨rd_begin K XQ.E XQ.F XQ.L (S_at_begin 0) (S_at_begin 1),(pss_cons (ps_set (i:=1) sc.nd rfl (Or.inl rfl) (pe_fld (pv 0) rfl))
   (pss_cons (ps_fld (pv 1) (pe_op op_sub (pe_int) (pe_fld (pv 1) rfl)) rfl)
   (pss_cons (ps_fld (pv 1) (pe_op op_add (pe_fld (pv 1) rfl) (pe_int)) rfl)
   (pss_cons (ps_fld (pv 1) (pe_str) rfl)
   (pss_cons (ps_fld (pv 1) (pe_lst pa_nil) rfl)
   (pss_cons (ps_fld (pv 1) (G.pe_eith (pe_meth (pe_fld (pe_fld (pv 0) rfl) rfl) T.cl_First T.me_First_at_begin G_First_at_begin (hr.mono (by decide)) b_First_at_begin .nil G.Zai (pa_cons (pe_callB G.call_lenL (by rfl) T.z_len G.boot_len (pa_cons (pe_fld (pv 0) rfl) pa_nil)) pa_nil)) (G.pe_eith (pe_meth (pe_fld (pe_fld (pv 0) rfl) rfl) T.cl_Each T.me_Each_at_begin G_Looking_at_begin (hr.mono (by decide)) b_Looking_at_begin .nil G.Zai (pa_cons (pe_callB G.call_lenL (by rfl) T.z_len G.boot_len (pa_cons (pe_fld (pv 0) rfl) pa_nil)) pa_nil)) (pe_meth (pe_fld (pe_fld (pv 0) rfl) rfl) T.cl_Last T.me_Last_at_begin G_Looking_at_begin (hr.mono (by decide)) b_Looking_at_begin .nil G.Zai (pa_cons (pe_callB G.call_lenL (by rfl) T.z_len G.boot_len (pa_cons (pe_fld (pv 0) rfl) pa_nil)) pa_nil)))) rfl)
   (pss_cons (ps_fld (pv 1) (pe_int) rfl)
   (pss_cons (ps_fld (pv 1) (pe_int) rfl)
   (pss_one (ps_fld (pv 1) (pe_int) rfl)))))))))),?_⟩
  obtain ⟨z0,rfl,q⟩:=h
  exact begin_rd tx q
theorem ok_note {fd:FuncData} (F:Fun K "note" "note" s_note f_note fd) {fd_cell_at:FuncData} (G_cell_at:FnOk P w K mg base (G.CXe P w) 1 f_cell_at fd_cell_at ["heap","place"] (S_cell_at XQ.H)) (b_cell_at:Binds K fd_cell_at ["heap","place"] []) (k_cell_at:PySem.W.keepIn K (.ref f_cell_at)=true) {fd_has_sense:FuncData} (G_has_sense:FnOk P w K mg base (G.CXe P w) 1 f_has_sense fd_has_sense ["world","cell"] (S_has_sense XQ)) (b_has_sense:Binds K fd_has_sense ["world","cell"] []) (k_has_sense:PySem.W.keepIn K (.ref f_has_sense)=true):FnOk P w K mg base (G.CXe P w) 2 f_note fd ["world","place"] (S_note XQ):=by
 have sc:=sc_note
 have tx:=tx0 T
 refine G.fok F sc (fun vs H Q E h=>?_) (fun cdv A outer s H vs Q E hr h=>?_)
 ·obtain ⟨z0,z1,rfl,q⟩:=h;rfl
 ·refine ⟨rd_note K (S_cell_at XQ.H) (S_has_sense XQ),(pss_cons (ps_set (i:=2) sc.nd rfl (Or.inl rfl) (pe_fld (pv 0) rfl))
   (pss_cons (ps_set (i:=3) sc.nd rfl (Or.inl rfl) (pe_call G_cell_at (hr.mono (by decide)) rfl T.m_cell_at k_cell_at b_cell_at .nil G.Zai (pa_cons (pe_fld (pv 0) rfl) (pa_cons (pv 1) pa_nil))))
   (pss_cons (ps_if (PW.pt (pw_or (pt_cmpR op_ne (pe_fld (pv 2) rfl) (pe_str) (nomark _)) (pw_or (pt_cmpR G.op_isN_ (pv 3) (pe_non) (nomark _)) (pw_or1 (pt_val (pe_call G_has_sense (hr.mono (by decide)) rfl T.m_has_sense k_has_sense b_has_sense .nil G.Zai (pa_cons (pv 0) (pa_cons (pv 3) pa_nil)))))))) (pss_one (ps_ret (pe_non))) pss_nil)
   (pss_cons (ps_fld (pv 3) (pe_fld (pv 2) rfl) rfl)
   (pss_cons (ps_expr (pe_bm PySem.F.plainAttrs_list PySem.F.slot_list_append PySem.F.type_list_append mt_append (pe_fld (pv 2) rfl) (pa_cons (pv 1) pa_nil)))
   (pss_one (ps_ret (pe_fld (pv 3) rfl)))))))),?_⟩
  obtain ⟨z0,z1,rfl,q⟩:=h
  exact note_rd tx q
theorem ok_note_all {fd:FuncData} (F:Fun K "note_all" "note_all" s_note_all f_note_all fd) {fd_note:FuncData} (G_note:FnOk P w K mg base (G.CXe P w) 2 f_note fd_note ["world","place"] (S_note XQ)) (b_note:Binds K fd_note ["world","place"] []) (k_note:PySem.W.keepIn K (.ref f_note)=true):FnOk P w K mg base (G.CXe P w) 3 f_note_all fd ["world","places"] (S_note_all XQ):=by
 have sc:=sc_note_all
 have tx:=tx0 T
 refine G.fok F sc (fun vs H Q E h=>?_) (fun cdv A outer s H vs Q E hr h=>?_)
 ·obtain ⟨z0,z1,rfl,q⟩:=h;rfl
 ·refine ⟨rd_note_all K (S_note XQ),(pss_cons (ps_set (i:=2) sc.nd rfl (Or.inl rfl) (pe_lst pa_nil))
   (pss_cons (ps_for PassesOwn.never rfl (pi_list (pv 1)) (pg_name (i:=3) sc.nd rfl (Or.inl rfl))
   (pss_cons (ps_set (i:=4) sc.nd rfl (Or.inl rfl) (pe_call G_note (hr.mono (by decide)) rfl T.m_note k_note b_note .nil G.Zai (pa_cons (pv 0) (pa_cons (pv 3) pa_nil))))
   (pss_one (ps_if (pt_cmpR G.op_notN_ (pv 4) (pe_non) (nomark _)) (pss_one (ps_expr (pe_bm PySem.F.plainAttrs_list PySem.F.slot_list_append PySem.F.type_list_append mt_append (pv 2) (pa_cons (pv 4) pa_nil)))) pss_nil))))
   (pss_one (ps_ret (pv 2))))),?_⟩
  obtain ⟨z0,z1,rfl,q⟩:=h
  exact note_all_rd tx q
theorem ok_gone {fd:FuncData} (F:Fun K "gone" "gone" s_gone f_gone fd) {fd_cell_at:FuncData} (G_cell_at:FnOk P w K mg base (G.CXe P w) 1 f_cell_at fd_cell_at ["heap","place"] (S_cell_at XQ.H)) (b_cell_at:Binds K fd_cell_at ["heap","place"] []) (k_cell_at:PySem.W.keepIn K (.ref f_cell_at)=true) {fd_has_sense:FuncData} (G_has_sense:FnOk P w K mg base (G.CXe P w) 1 f_has_sense fd_has_sense ["world","cell"] (S_has_sense XQ)) (b_has_sense:Binds K fd_has_sense ["world","cell"] []) (k_has_sense:PySem.W.keepIn K (.ref f_has_sense)=true):FnOk P w K mg base (G.CXe P w) 2 f_gone fd ["world","place","birth"] (S_gone XQ):=by
 have sc:=sc_gone
 have tx:=tx0 T
 refine G.fok F sc (fun vs H Q E h=>?_) (fun cdv A outer s H vs Q E hr h=>?_)
 ·obtain ⟨z0,z1,z2,rfl,q⟩:=h;rfl
 ·refine ⟨rd_gone K (S_cell_at XQ.H) (S_has_sense XQ),(pss_cons (ps_set (i:=3) sc.nd rfl (Or.inl rfl) (pe_call G_cell_at (hr.mono (by decide)) rfl T.m_cell_at k_cell_at b_cell_at .nil G.Zai (pa_cons (pe_fld (pv 0) rfl) (pa_cons (pv 1) pa_nil))))
   (pss_cons (ps_if (PW.pt (pw_or (pt_cmpR G.op_isN_ (pv 3) (pe_non) (nomark _)) (pw_or1 (pt_cmpR op_ne (pe_fld (pv 3) rfl) (pv 2) (nomark _))))) (pss_one (ps_ret (pe_bl))) pss_nil)
   (pss_one (ps_ret ((pe_and (pe_cmpR op_eq (pe_fld (pe_fld (pv 0) rfl) rfl) (pe_str) (nomark _)) (pe_one (pe_not (pe_call G_has_sense (hr.mono (by decide)) rfl T.m_has_sense k_has_sense b_has_sense .nil G.Zai (pa_cons (pv 0) (pa_cons (pv 3) pa_nil))))))))))),?_⟩
  obtain ⟨z0,z1,z2,rfl,q⟩:=h
  exact gone_rd tx q
theorem ok_slots_of {fd:FuncData} (F:Fun K "slots_of" "slots_of" s_slots_of f_slots_of fd):FnOk P w K mg base (G.CXe P w) 1 f_slots_of fd ["world","hand"] (S_slots_of XQ):=by
 have sc:=sc_slots_of
 have tx:=tx0 T
 refine G.fok F sc (fun vs H Q E h=>?_) (fun cdv A outer s H vs Q E hr h=>?_)
 ·obtain ⟨z0,z1,rfl,q⟩:=h;rfl
 ·refine ⟨rd_slots_of K,(pss_one (ps_ret (pe_fld (pe_ix ix_list (pe_fld (pv 0) rfl) (pv 1) (fun _ _=>rfl)) rfl))),?_⟩
  obtain ⟨z0,z1,rfl,q⟩:=h
  exact slots_of_rd tx q
theorem ok_cell_in {fd:FuncData} (F:Fun K "cell_in" "cell_in" s_cell_in f_cell_in fd) {fd_cell_at:FuncData} (G_cell_at:FnOk P w K mg base (G.CXe P w) 1 f_cell_at fd_cell_at ["heap","place"] (S_cell_at XQ.H)) (b_cell_at:Binds K fd_cell_at ["heap","place"] []) (k_cell_at:PySem.W.keepIn K (.ref f_cell_at)=true) {fd_slots_of:FuncData} (G_slots_of:FnOk P w K mg base (G.CXe P w) 1 f_slots_of fd_slots_of ["world","hand"] (S_slots_of XQ)) (b_slots_of:Binds K fd_slots_of ["world","hand"] []) (k_slots_of:PySem.W.keepIn K (.ref f_slots_of)=true):FnOk P w K mg base (G.CXe P w) 2 f_cell_in fd ["world","hand","slot"] (S_cell_in XQ Za0):=by
 have sc:=sc_cell_in
 have tx:=tx0 T
 refine G.fokX F sc (fun vs H Q E h=>?_) (fun cdv A outer s H vs Q E hr h=>?_)
 ·obtain ⟨z0,z1,z2,rfl,q⟩:=h;rfl
 ·refine ⟨rd_cell_in K Za0 (S_cell_at XQ.H) (S_slots_of XQ) E,(pss_cons (ps_set (i:=3) sc.nd rfl (Or.inl rfl) (pe_call G_cell_at (hr.mono (by decide)) rfl T.m_cell_at k_cell_at b_cell_at .nil G.Zai (pa_cons (pe_fld (pv 0) rfl) (pa_cons (pe_ix ix_list (pe_call G_slots_of (hr.mono (by decide)) rfl T.m_slots_of k_slots_of b_slots_of .nil G.Zai (pa_cons (pv 0) (pa_cons (pv 1) pa_nil))) (pv 2) (fun _ _=>rfl)) pa_nil))))
   (pss_cons (ps_if (pt_cmpR G.op_isN_ (pv 3) (pe_non) (nomark _)) (pss_one (G.ps_raise rfl rfl T.m_EmptySlot T.x_EmptySlot (pa_cons (pe_str) pa_nil) (fun _ _ _ _ _ _ _ I hx hE=>G.raiseL I hx hE))) pss_nil)
   (pss_one (ps_ret (pv 3))))),?_⟩
  obtain ⟨z0,z1,z2,rfl,q⟩:=h
  exact cell_in_rd tx q
theorem ok_fields_in {fd:FuncData} (F:Fun K "fields_in" "fields_in" s_fields_in f_fields_in fd) {fd_Cell_has_field:FuncData} (G_Cell_has_field:FnOk P w K mg base (G.CXe P w) 1 Zan fd_Cell_has_field ["self","field"] (S_has_field XQ)) (b_Cell_has_field:Binds K fd_Cell_has_field ["self","field"] []) (k_Cell_has_field:PySem.W.keepIn K (.ref Zan)=true) {fd_cell_in:FuncData} (G_cell_in:FnOk P w K mg base (G.CXe P w) 2 f_cell_in fd_cell_in ["world","hand","slot"] (S_cell_in XQ Za0)) (b_cell_in:Binds K fd_cell_in ["world","hand","slot"] []) (k_cell_in:PySem.W.keepIn K (.ref f_cell_in)=true):FnOk P w K mg base (G.CXe P w) 3 f_fields_in fd ["world","hand","slot","field"] (S_fields_in XQ Za0 Za3):=by
 have sc:=sc_fields_in
 have tx:=tx0 T
 refine G.fokX F sc (fun vs H Q E h=>?_) (fun cdv A outer s H vs Q E hr h=>?_)
 ·obtain ⟨z0,z1,z2,z3,rfl,q⟩:=h;rfl
 ·refine ⟨rd_fields_in K XQ.C Za3 (S_has_field XQ) (S_cell_in XQ Za0) E,(pss_cons (ps_set (i:=4) sc.nd rfl (Or.inl rfl) (pe_call G_cell_in (hr.mono (by decide)) rfl T.m_cell_in k_cell_in b_cell_in .nil G.passL (pa_cons (pv 0) (pa_cons (pv 1) (pa_cons (pv 2) pa_nil)))))
   (pss_cons (ps_if (pt_not (pt_val (pe_meth (pv 4) T.cl_Cell T.me_Cell_has_field G_Cell_has_field (hr.mono (by decide)) b_Cell_has_field .nil G.Zai (pa_cons (pv 3) pa_nil)))) (pss_one (G.ps_raise rfl rfl T.m_NoField T.x_NoField (pa_cons (pe_str) pa_nil) (fun _ _ _ _ _ _ _ I hx hE=>G.raiseL I hx hE))) pss_nil)
   (pss_one (ps_ret (pe_fld (pv 4) rfl))))),?_⟩
  obtain ⟨z0,z1,z2,z3,rfl,q⟩:=h
  exact fields_in_rd tx q
theorem ok_told_as_old {fd:FuncData} (F:Fun K "told_as_old" "told_as_old" s_told_as_old f_told_as_old fd):FnOk P w K mg base (G.CXe P w) 1 f_told_as_old fd ["world","place"] (S_told_old XQ):=by
 have sc:=sc_told_as_old
 have tx:=tx0 T
 refine G.fok F sc (fun vs H Q E h=>?_) (fun cdv A outer s H vs Q E hr h=>?_)
 ·obtain ⟨z0,z1,rfl,q⟩:=h;rfl
 ·refine ⟨rd_told_as_old K,(pss_cons (ps_if (pt_cmpR op_eq (pe_op op_and (pe_fld (pe_fld (pv 0) rfl) rfl) (T.g_OLD.pe rfl)) (pe_int) (nomark _)) (pss_one (ps_ret (pe_lst pa_nil))) pss_nil)
   (pss_one (ps_ret (pe_lst (pa_cons (pv 1) pa_nil))))),?_⟩
  obtain ⟨z0,z1,rfl,q⟩:=h
  exact told_as_old_rd tx q
theorem ok_told_as_new {fd:FuncData} (F:Fun K "told_as_new" "told_as_new" s_told_as_new f_told_as_new fd) {fd_looked_at:FuncData} (G_looked_at:FnOk P w K mg base (G.CXe P w) 1 f_looked_at fd_looked_at ["world","hand"] (S_looked_at XQ)) (b_looked_at:Binds K fd_looked_at ["world","hand"] []) (k_looked_at:PySem.W.keepIn K (.ref f_looked_at)=true):FnOk P w K mg base (G.CXe P w) 2 f_told_as_new fd ["world","hand","place"] (S_told_new XQ):=by
 have sc:=sc_told_as_new
 have tx:=tx0 T
 refine G.fok F sc (fun vs H Q E h=>?_) (fun cdv A outer s H vs Q E hr h=>?_)
 ·obtain ⟨z0,z1,z2,rfl,q⟩:=h;rfl
 ·refine ⟨rd_told_as_new K (S_looked_at XQ),(pss_cons (ps_if (PW.pt (pw_or (pt_cmpR op_eq (pe_op op_and (pe_fld (pe_fld (pv 0) rfl) rfl) (T.g_NEW.pe rfl)) (pe_int) (nomark _)) (pw_or1 (pt_val (pe_call G_looked_at (hr.mono (by decide)) rfl T.m_looked_at k_looked_at b_looked_at .nil G.Zai (pa_cons (pv 0) (pa_cons (pv 1) pa_nil))))))) (pss_one (ps_ret (pe_lst pa_nil))) pss_nil)
   (pss_one (ps_ret (pe_lst (pa_cons (pv 2) pa_nil))))),?_⟩
  obtain ⟨z0,z1,z2,rfl,q⟩:=h
  exact told_as_new_rd tx q
theorem ok_do_make {fd:FuncData} (F:Fun K "do_make" "do_make" s_do_make f_do_make fd) {fd_Heap_make:FuncData} (G_Heap_make:FnOk P w K mg base (G.CXe P w) 3 f_Heap_make fd_Heap_make ["self","many","bulk","tone"] (S_Heap_make K XQ.C XQ.H Zae)) (b_Heap_make:Binds K fd_Heap_make ["self","many","bulk","tone"] []) (k_Heap_make:PySem.W.keepIn K (.ref f_Heap_make)=true) {fd_birth_at:FuncData} (G_birth_at:FnOk P w K mg base (G.CXe P w) 2 f_birth_at fd_birth_at ["heap","place"] (S_birth_at XQ)) (b_birth_at:Binds K fd_birth_at ["heap","place"] []) (k_birth_at:PySem.W.keepIn K (.ref f_birth_at)=true) {fd_slots_of:FuncData} (G_slots_of:FnOk P w K mg base (G.CXe P w) 1 f_slots_of fd_slots_of ["world","hand"] (S_slots_of XQ)) (b_slots_of:Binds K fd_slots_of ["world","hand"] []) (k_slots_of:PySem.W.keepIn K (.ref f_slots_of)=true):FnOk P w K mg base (G.CXe P w) 4 f_do_make fd ["world","deed"] (S_deed XQ (rfA Zae Za0 Za3 Za4) isMake):=by
 have sc:=sc_do_make
 have tx:=tx0 T
 refine G.fokX F sc (fun vs H Q E h=>?_) (fun cdv A outer s H vs Q E hr h=>?_)
 ·obtain ⟨z0,z1,rfl,q⟩:=h;rfl
 ·refine ⟨rd_do_make K XQ.H (S_Heap_make K XQ.C XQ.H Zae) (S_birth_at XQ) (S_slots_of XQ) E,(pss_cons (ps_set (i:=2) sc.nd rfl (Or.inl rfl) (pe_call G_slots_of (hr.mono (by decide)) rfl T.m_slots_of k_slots_of b_slots_of .nil G.Zai (pa_cons (pv 0) (pa_cons (pe_ix ix_tup (pv 1) (pe_int) (fun _ _=>rfl)) pa_nil))))
   (pss_cons (ps_set (i:=3) sc.nd rfl (Or.inl rfl) (pe_ix ix_tup (pv 1) (pe_int) (fun _ _=>rfl)))
   (pss_cons (ps_set (i:=4) sc.nd rfl (Or.inl rfl) (pe_ix ix_tup (pv 1) (pe_int) (fun _ _=>rfl)))
   (pss_cons (ps_set (i:=5) sc.nd rfl (Or.inl rfl) (pe_meth (pe_fld (pv 0) rfl) T.cl_Heap T.me_Heap_make G_Heap_make (hr.mono (by decide)) b_Heap_make .nil G.passL (pa_cons (pv 3) (pa_cons (pv 4) (pa_cons (pe_fld (pe_fld (pv 0) rfl) rfl) pa_nil)))))
   (pss_cons (ps_asg (pv 5) (pg_sub (pv 2) (pe_ix ix_tup (pv 1) (pe_int) (fun _ _=>rfl)) set_list))
   (pss_one (ps_ret (pe_tup (pa_cons (pe_str) (pa_cons (pe_call G_birth_at (hr.mono (by decide)) rfl T.m_birth_at k_birth_at b_birth_at .nil G.Zai (pa_cons (pe_fld (pv 0) rfl) (pa_cons (pv 5) pa_nil))) (pa_cons (pe_lst pa_nil) pa_nil))))))))))),?_⟩
  obtain ⟨z0,z1,rfl,q⟩:=h
  exact do_make_rd tx rfl q
theorem ok_do_get {fd:FuncData} (F:Fun K "do_get" "do_get" s_do_get f_do_get fd) {fd_birth_at:FuncData} (G_birth_at:FnOk P w K mg base (G.CXe P w) 2 f_birth_at fd_birth_at ["heap","place"] (S_birth_at XQ)) (b_birth_at:Binds K fd_birth_at ["heap","place"] []) (k_birth_at:PySem.W.keepIn K (.ref f_birth_at)=true) {fd_fields_in:FuncData} (G_fields_in:FnOk P w K mg base (G.CXe P w) 3 f_fields_in fd_fields_in ["world","hand","slot","field"] (S_fields_in XQ Za0 Za3)) (b_fields_in:Binds K fd_fields_in ["world","hand","slot","field"] []) (k_fields_in:PySem.W.keepIn K (.ref f_fields_in)=true) {fd_slots_of:FuncData} (G_slots_of:FnOk P w K mg base (G.CXe P w) 1 f_slots_of fd_slots_of ["world","hand"] (S_slots_of XQ)) (b_slots_of:Binds K fd_slots_of ["world","hand"] []) (k_slots_of:PySem.W.keepIn K (.ref f_slots_of)=true):FnOk P w K mg base (G.CXe P w) 4 f_do_get fd ["world","deed"] (S_deed XQ (rfA Zae Za0 Za3 Za4) isGet):=by
 have sc:=sc_do_get
 have tx:=tx0 T
 refine G.fokX F sc (fun vs H Q E h=>?_) (fun cdv A outer s H vs Q E hr h=>?_)
 ·obtain ⟨z0,z1,rfl,q⟩:=h;rfl
 ·refine ⟨rd_do_get K (S_birth_at XQ) (S_fields_in XQ Za0 Za3) (S_slots_of XQ) E,(pss_cons (ps_set (i:=2) sc.nd rfl (Or.inl rfl) (pe_ix ix_tup (pv 1) (pe_int) (fun _ _=>rfl)))
   (pss_cons (ps_set (i:=3) sc.nd rfl (Or.inl rfl) (pe_ix ix_tup (pv 1) (pe_int) (fun _ _=>rfl)))
   (pss_cons (ps_set (i:=4) sc.nd rfl (Or.inl rfl) (pe_ix ix_tup (pv 1) (pe_int) (fun _ _=>rfl)))
   (pss_cons (ps_set (i:=5) sc.nd rfl (Or.inl rfl) (pe_ix ix_list (pe_call G_fields_in (hr.mono (by decide)) rfl T.m_fields_in k_fields_in b_fields_in .nil G.passL (pa_cons (pv 0) (pa_cons (pv 2) (pa_cons (pv 3) (pa_cons (pv 4) pa_nil))))) (pv 4) (fun _ _=>rfl)))
   (pss_cons (ps_asg (pv 5) (pg_sub (pe_call G_slots_of (hr.mono (by decide)) rfl T.m_slots_of k_slots_of b_slots_of .nil G.Zai (pa_cons (pv 0) (pa_cons (pv 2) pa_nil))) (pe_ix ix_tup (pv 1) (pe_int) (fun _ _=>rfl)) set_list))
   (pss_one (ps_ret (pe_tup (pa_cons (pe_str) (pa_cons (pe_call G_birth_at (hr.mono (by decide)) rfl T.m_birth_at k_birth_at b_birth_at .nil G.Zai (pa_cons (pe_fld (pv 0) rfl) (pa_cons (pv 5) pa_nil))) (pa_cons (pe_lst pa_nil) pa_nil))))))))))),?_⟩
  obtain ⟨z0,z1,rfl,q⟩:=h
  exact do_get_rd tx rfl rfl q
theorem ok_do_put {fd:FuncData} (F:Fun K "do_put" "do_put" s_do_put f_do_put fd) {fd_birth_at:FuncData} (G_birth_at:FnOk P w K mg base (G.CXe P w) 2 f_birth_at fd_birth_at ["heap","place"] (S_birth_at XQ)) (b_birth_at:Binds K fd_birth_at ["heap","place"] []) (k_birth_at:PySem.W.keepIn K (.ref f_birth_at)=true) {fd_fields_in:FuncData} (G_fields_in:FnOk P w K mg base (G.CXe P w) 3 f_fields_in fd_fields_in ["world","hand","slot","field"] (S_fields_in XQ Za0 Za3)) (b_fields_in:Binds K fd_fields_in ["world","hand","slot","field"] []) (k_fields_in:PySem.W.keepIn K (.ref f_fields_in)=true) {fd_note_all:FuncData} (G_note_all:FnOk P w K mg base (G.CXe P w) 3 f_note_all fd_note_all ["world","places"] (S_note_all XQ)) (b_note_all:Binds K fd_note_all ["world","places"] []) (k_note_all:PySem.W.keepIn K (.ref f_note_all)=true) {fd_slots_of:FuncData} (G_slots_of:FnOk P w K mg base (G.CXe P w) 1 f_slots_of fd_slots_of ["world","hand"] (S_slots_of XQ)) (b_slots_of:Binds K fd_slots_of ["world","hand"] []) (k_slots_of:PySem.W.keepIn K (.ref f_slots_of)=true) {fd_told_as_new:FuncData} (G_told_as_new:FnOk P w K mg base (G.CXe P w) 2 f_told_as_new fd_told_as_new ["world","hand","place"] (S_told_new XQ)) (b_told_as_new:Binds K fd_told_as_new ["world","hand","place"] []) (k_told_as_new:PySem.W.keepIn K (.ref f_told_as_new)=true) {fd_told_as_old:FuncData} (G_told_as_old:FnOk P w K mg base (G.CXe P w) 1 f_told_as_old fd_told_as_old ["world","place"] (S_told_old XQ)) (b_told_as_old:Binds K fd_told_as_old ["world","place"] []) (k_told_as_old:PySem.W.keepIn K (.ref f_told_as_old)=true):FnOk P w K mg base (G.CXe P w) 4 f_do_put fd ["world","deed"] (S_deed XQ (rfA Zae Za0 Za3 Za4) isPut):=by
 have sc:=sc_do_put
 have tx:=tx0 T
 refine G.fokX F sc (fun vs H Q E h=>?_) (fun cdv A outer s H vs Q E hr h=>?_)
 ·obtain ⟨z0,z1,rfl,q⟩:=h;rfl
 ·refine ⟨rd_do_put K (S_birth_at XQ) (S_fields_in XQ Za0 Za3) (S_note_all XQ) (S_slots_of XQ) (S_told_new XQ) (S_told_old XQ) E,(pss_cons (ps_set (i:=2) sc.nd rfl (Or.inl rfl) (pe_ix ix_tup (pv 1) (pe_int) (fun _ _=>rfl)))
   (pss_cons (ps_set (i:=3) sc.nd rfl (Or.inl rfl) (pe_ix ix_tup (pv 1) (pe_int) (fun _ _=>rfl)))
   (pss_cons (ps_set (i:=4) sc.nd rfl (Or.inl rfl) (pe_call G_fields_in (hr.mono (by decide)) rfl T.m_fields_in k_fields_in b_fields_in .nil G.passL (pa_cons (pv 0) (pa_cons (pv 2) (pa_cons (pe_ix ix_tup (pv 1) (pe_int) (fun _ _=>rfl)) (pa_cons (pv 3) pa_nil))))))
   (pss_cons (ps_set (i:=5) sc.nd rfl (Or.inl rfl) (pe_ix ix_list (pv 4) (pv 3) (fun _ _=>rfl)))
   (pss_cons (ps_set (i:=6) sc.nd rfl (Or.inl rfl) (pe_ix ix_list (pe_call G_slots_of (hr.mono (by decide)) rfl T.m_slots_of k_slots_of b_slots_of .nil G.Zai (pa_cons (pv 0) (pa_cons (pv 2) pa_nil))) (pe_ix ix_tup (pv 1) (pe_int) (fun _ _=>rfl)) (fun _ _=>rfl)))
   (pss_cons (ps_asg (pv 6) (pg_sub (pv 4) (pv 3) set_list))
   (pss_cons (ps_set (i:=7) sc.nd rfl (Or.inl rfl) (pe_call G_note_all (hr.mono (by decide)) rfl T.m_note_all k_note_all b_note_all .nil G.Zai (pa_cons (pv 0) (pa_cons (pe_op op_cat (pe_call G_told_as_old (hr.mono (by decide)) rfl T.m_told_as_old k_told_as_old b_told_as_old .nil G.Zai (pa_cons (pv 0) (pa_cons (pv 5) pa_nil))) (pe_call G_told_as_new (hr.mono (by decide)) rfl T.m_told_as_new k_told_as_new b_told_as_new .nil G.Zai (pa_cons (pv 0) (pa_cons (pv 2) (pa_cons (pv 6) pa_nil))))) pa_nil))))
   (pss_one (ps_ret (pe_tup (pa_cons (pe_str) (pa_cons (pe_call G_birth_at (hr.mono (by decide)) rfl T.m_birth_at k_birth_at b_birth_at .nil G.Zai (pa_cons (pe_fld (pv 0) rfl) (pa_cons (pv 5) pa_nil))) (pa_cons (pv 7) pa_nil))))))))))))),?_⟩
  obtain ⟨z0,z1,rfl,q⟩:=h
  exact do_put_rd tx rfl rfl q
theorem ok_do_write {fd:FuncData} (F:Fun K "do_write" "do_write" s_do_write f_do_write fd) {fd_cell_in:FuncData} (G_cell_in:FnOk P w K mg base (G.CXe P w) 2 f_cell_in fd_cell_in ["world","hand","slot"] (S_cell_in XQ Za0)) (b_cell_in:Binds K fd_cell_in ["world","hand","slot"] []) (k_cell_in:PySem.W.keepIn K (.ref f_cell_in)=true):FnOk P w K mg base (G.CXe P w) 3 f_do_write fd ["world","deed"] (S_deed XQ (rfA Zae Za0 Za3 Za4) isWrite):=by
 have sc:=sc_do_write
 have tx:=tx0 T
 refine G.fokX F sc (fun vs H Q E h=>?_) (fun cdv A outer s H vs Q E hr h=>?_)
 ·obtain ⟨z0,z1,rfl,q⟩:=h;rfl
 ·refine ⟨rd_do_write K (S_cell_in XQ Za0) E,(pss_cons (ps_set (i:=2) sc.nd rfl (Or.inl rfl) (pe_call G_cell_in (hr.mono (by decide)) rfl T.m_cell_in k_cell_in b_cell_in .nil G.passL (pa_cons (pv 0) (pa_cons (pe_ix ix_tup (pv 1) (pe_int) (fun _ _=>rfl)) (pa_cons (pe_ix ix_tup (pv 1) (pe_int) (fun _ _=>rfl)) pa_nil)))))
   (pss_cons (ps_set (i:=3) sc.nd rfl (Or.inl rfl) (pe_fld (pv 2) rfl))
   (pss_cons (ps_fld (pv 2) (pe_ix ix_tup (pv 1) (pe_int) (fun _ _=>rfl)) rfl)
   (pss_one (ps_ret (pe_tup (pa_cons (pe_str) (pa_cons (pv 3) (pa_cons (pe_lst pa_nil) pa_nil))))))))),?_⟩
  obtain ⟨z0,z1,rfl,q⟩:=h
  exact do_write_rd tx rfl q
theorem ok_do_read {fd:FuncData} (F:Fun K "do_read" "do_read" s_do_read f_do_read fd) {fd_cell_in:FuncData} (G_cell_in:FnOk P w K mg base (G.CXe P w) 2 f_cell_in fd_cell_in ["world","hand","slot"] (S_cell_in XQ Za0)) (b_cell_in:Binds K fd_cell_in ["world","hand","slot"] []) (k_cell_in:PySem.W.keepIn K (.ref f_cell_in)=true):FnOk P w K mg base (G.CXe P w) 3 f_do_read fd ["world","deed"] (S_deed XQ (rfA Zae Za0 Za3 Za4) isRead):=by
 have sc:=sc_do_read
 have tx:=tx0 T
 refine G.fokX F sc (fun vs H Q E h=>?_) (fun cdv A outer s H vs Q E hr h=>?_)
 ·obtain ⟨z0,z1,rfl,q⟩:=h;rfl
 ·refine ⟨rd_do_read K (S_cell_in XQ Za0) E,(pss_cons (ps_set (i:=2) sc.nd rfl (Or.inl rfl) (pe_call G_cell_in (hr.mono (by decide)) rfl T.m_cell_in k_cell_in b_cell_in .nil G.passL (pa_cons (pv 0) (pa_cons (pe_ix ix_tup (pv 1) (pe_int) (fun _ _=>rfl)) (pa_cons (pe_ix ix_tup (pv 1) (pe_int) (fun _ _=>rfl)) pa_nil)))))
   (pss_one (ps_ret (pe_tup (pa_cons (pe_str) (pa_cons (pe_fld (pv 2) rfl) (pa_cons (pe_lst pa_nil) pa_nil))))))),?_⟩
  obtain ⟨z0,z1,rfl,q⟩:=h
  exact do_read_rd tx rfl q
theorem ok_do_name {fd:FuncData} (F:Fun K "do_name" "do_name" s_do_name f_do_name fd) {fd_cell_in:FuncData} (G_cell_in:FnOk P w K mg base (G.CXe P w) 2 f_cell_in fd_cell_in ["world","hand","slot"] (S_cell_in XQ Za0)) (b_cell_in:Binds K fd_cell_in ["world","hand","slot"] []) (k_cell_in:PySem.W.keepIn K (.ref f_cell_in)=true) {fd_slots_of:FuncData} (G_slots_of:FnOk P w K mg base (G.CXe P w) 1 f_slots_of fd_slots_of ["world","hand"] (S_slots_of XQ)) (b_slots_of:Binds K fd_slots_of ["world","hand"] []) (k_slots_of:PySem.W.keepIn K (.ref f_slots_of)=true):FnOk P w K mg base (G.CXe P w) 3 f_do_name fd ["world","deed"] (S_deed XQ (rfA Zae Za0 Za3 Za4) isName):=by
 have sc:=sc_do_name
 have tx:=tx0 T
 refine G.fokX F sc (fun vs H Q E h=>?_) (fun cdv A outer s H vs Q E hr h=>?_)
 ·obtain ⟨z0,z1,rfl,q⟩:=h;rfl
 ·refine ⟨rd_do_name K (S_cell_in XQ Za0) (S_slots_of XQ) E,(pss_cons (ps_set (i:=2) sc.nd rfl (Or.inl rfl) (pe_ix ix_tup (pv 1) (pe_int) (fun _ _=>rfl)))
   (pss_cons (ps_set (i:=3) sc.nd rfl (Or.inl rfl) (pe_ix ix_tup (pv 1) (pe_int) (fun _ _=>rfl)))
   (pss_cons (ps_set (i:=4) sc.nd rfl (Or.inl rfl) (pe_fld (pe_call G_cell_in (hr.mono (by decide)) rfl T.m_cell_in k_cell_in b_cell_in .nil G.passL (pa_cons (pv 0) (pa_cons (pv 2) (pa_cons (pv 3) pa_nil)))) rfl))
   (pss_cons (ps_dput (hu_of hr) (pe_fld (pv 0) rfl) (pe_ix ix_tup (pv 1) (pe_int) (fun _ _=>rfl)) (pe_tup (pa_cons (pe_ix ix_list (pe_call G_slots_of (hr.mono (by decide)) rfl T.m_slots_of k_slots_of b_slots_of .nil G.Zai (pa_cons (pv 0) (pa_cons (pv 2) pa_nil))) (pv 3) (fun _ _=>rfl)) (pa_cons (pv 4) pa_nil))) rfl)
   (pss_one (ps_ret (pe_tup (pa_cons (pe_str) (pa_cons (pv 4) (pa_cons (pe_lst pa_nil) pa_nil)))))))))),?_⟩
  obtain ⟨z0,z1,rfl,q⟩:=h
  exact do_name_rd tx rfl q
theorem ok_do_seek {fd:FuncData} (F:Fun K "do_seek" "do_seek" s_do_seek f_do_seek fd) {fd_birth_at:FuncData} (G_birth_at:FnOk P w K mg base (G.CXe P w) 2 f_birth_at fd_birth_at ["heap","place"] (S_birth_at XQ)) (b_birth_at:Binds K fd_birth_at ["heap","place"] []) (k_birth_at:PySem.W.keepIn K (.ref f_birth_at)=true) {fd_note_all:FuncData} (G_note_all:FnOk P w K mg base (G.CXe P w) 3 f_note_all fd_note_all ["world","places"] (S_note_all XQ)) (b_note_all:Binds K fd_note_all ["world","places"] []) (k_note_all:PySem.W.keepIn K (.ref f_note_all)=true) {fd_place_named:FuncData} (G_place_named:FnOk P w K mg base (G.CXe P w) 3 f_place_named fd_place_named ["world","word"] (S_place_named XQ Za4)) (b_place_named:Binds K fd_place_named ["world","word"] []) (k_place_named:PySem.W.keepIn K (.ref f_place_named)=true) {fd_slots_of:FuncData} (G_slots_of:FnOk P w K mg base (G.CXe P w) 1 f_slots_of fd_slots_of ["world","hand"] (S_slots_of XQ)) (b_slots_of:Binds K fd_slots_of ["world","hand"] []) (k_slots_of:PySem.W.keepIn K (.ref f_slots_of)=true):FnOk P w K mg base (G.CXe P w) 4 f_do_seek fd ["world","deed"] (S_deed XQ (rfA Zae Za0 Za3 Za4) isSeek):=by
 have sc:=sc_do_seek
 have tx:=tx0 T
 refine G.fokX F sc (fun vs H Q E h=>?_) (fun cdv A outer s H vs Q E hr h=>?_)
 ·obtain ⟨z0,z1,rfl,q⟩:=h;rfl
 ·refine ⟨rd_do_seek K (S_birth_at XQ) (S_note_all XQ) (S_place_named XQ Za4) (S_slots_of XQ) E,(pss_cons (ps_set (i:=2) sc.nd rfl (Or.inl rfl) (pe_call G_place_named (hr.mono (by decide)) rfl T.m_place_named k_place_named b_place_named .nil G.passL (pa_cons (pv 0) (pa_cons (pe_ix ix_tup (pv 1) (pe_int) (fun _ _=>rfl)) pa_nil))))
   (pss_cons (ps_asg (pv 2) (pg_sub (pe_call G_slots_of (hr.mono (by decide)) rfl T.m_slots_of k_slots_of b_slots_of .nil G.Zai (pa_cons (pv 0) (pa_cons (pe_ix ix_tup (pv 1) (pe_int) (fun _ _=>rfl)) pa_nil))) (pe_ix ix_tup (pv 1) (pe_int) (fun _ _=>rfl)) set_list))
   (pss_cons (ps_set (i:=3) sc.nd rfl (Or.inl rfl) (pe_call G_note_all (hr.mono (by decide)) rfl T.m_note_all k_note_all b_note_all .nil G.Zai (pa_cons (pv 0) (pa_cons (pe_lst (pa_cons (pv 2) pa_nil)) pa_nil))))
   (pss_one (ps_ret (pe_tup (pa_cons (pe_str) (pa_cons (pe_call G_birth_at (hr.mono (by decide)) rfl T.m_birth_at k_birth_at b_birth_at .nil G.Zai (pa_cons (pe_fld (pv 0) rfl) (pa_cons (pv 2) pa_nil))) (pa_cons (pv 3) pa_nil))))))))),?_⟩
  obtain ⟨z0,z1,rfl,q⟩:=h
  exact do_seek_rd tx rfl q
theorem ok_place_named {fd:FuncData} (F:Fun K "place_named" "place_named" s_place_named f_place_named fd) {fd_gone:FuncData} (G_gone:FnOk P w K mg base (G.CXe P w) 2 f_gone fd_gone ["world","place","birth"] (S_gone XQ)) (b_gone:Binds K fd_gone ["world","place","birth"] []) (k_gone:PySem.W.keepIn K (.ref f_gone)=true):FnOk P w K mg base (G.CXe P w) 3 f_place_named fd ["world","word"] (S_place_named XQ Za4):=by
 have sc:=sc_place_named
 have tx:=tx0 T
 refine G.fokX F sc (fun vs H Q E h=>?_) (fun cdv A outer s H vs Q E hr h=>?_)
 ·obtain ⟨z0,z1,rfl,q⟩:=h;rfl
 ·refine ⟨rd_place_named K Za4 (S_gone XQ) E,(pss_cons (ps_if (pt_cmp (pc_dnotin (hu_of hr) (pv 1) (pe_fld (pv 0) rfl))) (pss_one (G.ps_raise rfl rfl T.m_NoName T.x_NoName (pa_cons (pe_str) pa_nil) (fun _ _ _ _ _ _ _ I hx hE=>G.raiseL I hx hE))) pss_nil)
   (pss_cons (ps_set (i:=2) sc.nd rfl (Or.inl rfl) (pe_ix ix_tup (pe_dget (hu_of hr) (pe_fld (pv 0) rfl) (pv 1) (fun _ _=>rfl)) (pe_int) (fun _ _=>rfl)))
   (pss_cons (ps_set (i:=3) sc.nd rfl (Or.inl rfl) (pe_ix ix_tup (pe_dget (hu_of hr) (pe_fld (pv 0) rfl) (pv 1) (fun _ _=>rfl)) (pe_int) (fun _ _=>rfl)))
   (pss_cons (ps_if (pt_val (pe_call G_gone (hr.mono (by decide)) rfl T.m_gone k_gone b_gone .nil G.Zai (pa_cons (pv 0) (pa_cons (pv 2) (pa_cons (pv 3) pa_nil))))) (pss_one (ps_ret (pe_non))) pss_nil)
   (pss_one (ps_ret (pv 2))))))),?_⟩
  obtain ⟨z0,z1,rfl,q⟩:=h
  exact place_named_rd tx q
theorem ok_do {fd:FuncData} (F:Fun K "do" "do" s_do f_do fd) {fd_do_get:FuncData} (G_do_get:FnOk P w K mg base (G.CXe P w) 4 f_do_get fd_do_get ["world","deed"] (S_deed XQ (rfA Zae Za0 Za3 Za4) isGet)) (b_do_get:Binds K fd_do_get ["world","deed"] []) (k_do_get:PySem.W.keepIn K (.ref f_do_get)=true) {fd_do_make:FuncData} (G_do_make:FnOk P w K mg base (G.CXe P w) 4 f_do_make fd_do_make ["world","deed"] (S_deed XQ (rfA Zae Za0 Za3 Za4) isMake)) (b_do_make:Binds K fd_do_make ["world","deed"] []) (k_do_make:PySem.W.keepIn K (.ref f_do_make)=true) {fd_do_name:FuncData} (G_do_name:FnOk P w K mg base (G.CXe P w) 3 f_do_name fd_do_name ["world","deed"] (S_deed XQ (rfA Zae Za0 Za3 Za4) isName)) (b_do_name:Binds K fd_do_name ["world","deed"] []) (k_do_name:PySem.W.keepIn K (.ref f_do_name)=true) {fd_do_put:FuncData} (G_do_put:FnOk P w K mg base (G.CXe P w) 4 f_do_put fd_do_put ["world","deed"] (S_deed XQ (rfA Zae Za0 Za3 Za4) isPut)) (b_do_put:Binds K fd_do_put ["world","deed"] []) (k_do_put:PySem.W.keepIn K (.ref f_do_put)=true) {fd_do_read:FuncData} (G_do_read:FnOk P w K mg base (G.CXe P w) 3 f_do_read fd_do_read ["world","deed"] (S_deed XQ (rfA Zae Za0 Za3 Za4) isRead)) (b_do_read:Binds K fd_do_read ["world","deed"] []) (k_do_read:PySem.W.keepIn K (.ref f_do_read)=true) {fd_do_seek:FuncData} (G_do_seek:FnOk P w K mg base (G.CXe P w) 4 f_do_seek fd_do_seek ["world","deed"] (S_deed XQ (rfA Zae Za0 Za3 Za4) isSeek)) (b_do_seek:Binds K fd_do_seek ["world","deed"] []) (k_do_seek:PySem.W.keepIn K (.ref f_do_seek)=true) {fd_do_write:FuncData} (G_do_write:FnOk P w K mg base (G.CXe P w) 3 f_do_write fd_do_write ["world","deed"] (S_deed XQ (rfA Zae Za0 Za3 Za4) isWrite)) (b_do_write:Binds K fd_do_write ["world","deed"] []) (k_do_write:PySem.W.keepIn K (.ref f_do_write)=true):FnOk P w K mg base (G.CXe P w) 5 f_do fd ["world","deed"] (S_deed XQ (rfA Zae Za0 Za3 Za4) okP):=by
 have sc:=sc_do
 have tx:=tx0 T
 refine G.fokX F sc (fun vs H Q E h=>?_) (fun cdv A outer s H vs Q E hr h=>?_)
 ·obtain ⟨z0,z1,rfl,q⟩:=h;rfl
 ·refine ⟨rd_do K f_do_copy f_do_drop f_do_get f_do_give f_do_make f_do_name f_do_put f_do_read f_do_seek f_do_write (S_deed XQ (rfA Zae Za0 Za3 Za4) isGet) (S_deed XQ (rfA Zae Za0 Za3 Za4) isMake) (S_deed XQ (rfA Zae Za0 Za3 Za4) isName) (S_deed XQ (rfA Zae Za0 Za3 Za4) isPut) (S_deed XQ (rfA Zae Za0 Za3 Za4) isRead) (S_deed XQ (rfA Zae Za0 Za3 Za4) isSeek) (S_deed XQ (rfA Zae Za0 Za3 Za4) isWrite) E,(pss_cons (ps_set (i:=2) sc.nd rfl (Or.inl rfl) (G.pe_tab T.tab_DEEDS rfl (pe_ix ix_tup (pv 1) (pe_int) (fun _ _=>rfl)) (fun _ _=>rfl)))
   (pss_one (ps_ret (G.pe_callT (k:=4) (G.FnT.cons (by decide) G_do_make b_do_make k_do_make (G.FnT.cons (by decide) G_do_get b_do_get k_do_get (G.FnT.cons (by decide) G_do_put b_do_put k_do_put (G.FnT.cons (by decide) G_do_write b_do_write k_do_write (G.FnT.cons (by decide) G_do_read b_do_read k_do_read (G.FnT.cons (by decide) G_do_name b_do_name k_do_name (G.FnT.cons (by decide) G_do_seek b_do_seek k_do_seek G.FnT.nil))))))) (hr.mono (by decide)) rfl (Or.inl rfl) G.passL (pa_cons (pv 0) (pa_cons (pv 1) pa_nil)))))),?_⟩
  obtain ⟨z0,z1,rfl,q⟩:=h
  exact do_rd tx q
theorem ok__law_mix {fd:FuncData} (F:Fun K "_law_mix" "_law_mix" s__law_mix f__law_mix fd):FnOk P w K mg base (G.CXe P w) 1 f__law_mix fd ["_law_cell","_law_factor"] (S_mix):=by
 have sc:=sc__law_mix
 have tx:=tx0 T
 refine G.fok F sc (fun vs H Q E h=>?_) (fun cdv A outer s H vs Q E hr h=>?_)
 ·obtain ⟨z0,z1,rfl,q⟩:=h;rfl
 ·refine ⟨rd__law_mix,(pss_cons (ps_set (i:=2) sc.nd rfl (Or.inl rfl) (pe_op op_mod (pe_op op_add (pe_op op_mul (pv 0) (pv 1)) (pe_int)) (pe_int)))
   (pss_one (ps_ret (pe_op op_fdiv (pe_op op_mod (pe_op op_mul (pv 2) (pv 2)) (pe_int)) (pe_int))))),?_⟩
  obtain ⟨z0,z1,rfl,q⟩:=h
  exact _law_mix_rd q
theorem ok__law_kind {fd:FuncData} (F:Fun K "_law_kind" "_law_kind" s__law_kind f__law_kind fd) {fd__law_mix:FuncData} (G__law_mix:FnOk P w K mg base (G.CXe P w) 1 f__law_mix fd__law_mix ["_law_cell","_law_factor"] (S_mix)) (b__law_mix:Binds K fd__law_mix ["_law_cell","_law_factor"] []) (k__law_mix:PySem.W.keepIn K (.ref f__law_mix)=true):FnOk P w K mg base (G.CXe P w) 2 f__law_kind fd ["_law_cell"] (S_kindL):=by
 have sc:=sc__law_kind
 have tx:=tx0 T
 refine G.fok F sc (fun vs H Q E h=>?_) (fun cdv A outer s H vs Q E hr h=>?_)
 ·obtain ⟨z0,rfl,q⟩:=h;rfl
 ·refine ⟨rd__law_kind K (S_mix),(pss_cons (ps_set (i:=1) sc.nd rfl (Or.inl rfl) (pe_ix ix_list (pe_lst (pa_cons (pe_str) (pa_cons (pe_str) (pa_cons (pe_str) pa_nil)))) (pe_op op_mod (pe_call G__law_mix (hr.mono (by decide)) rfl T.m__law_mix k__law_mix b__law_mix .nil G.Zai (pa_cons (pv 0) (pa_cons (pe_int) pa_nil))) (pe_int)) (fun _ _=>rfl)))
   (pss_one (ps_ret (pe_op op_add_str (pv 1) (pe_ix ix_list (pe_lst (pa_cons (pe_str) (pa_cons (pe_str) (pa_cons (pe_str) (pa_cons (pe_str) pa_nil))))) (pe_op op_mod (pe_call G__law_mix (hr.mono (by decide)) rfl T.m__law_mix k__law_mix b__law_mix .nil G.Zai (pa_cons (pv 0) (pa_cons (pe_int) pa_nil))) (pe_int)) (fun _ _=>rfl)))))),?_⟩
  obtain ⟨z0,rfl,q⟩:=h
  exact _law_kind_rd q
theorem ok__law_same0 {fd:FuncData} (F:Fun K "_law_same" "_law_same" s__law_same f__law_same fd) (G__law_same:FnOk P w K mg base (G.CXe P w) 0 f__law_same fd ["_law_found","_law_due"] (S_never)) (b__law_same:Binds K fd ["_law_found","_law_due"] []) (k__law_same:PySem.W.keepIn K (.ref f__law_same)=true):FnOk P w K mg base (G.CXe P w) 1 f__law_same fd ["_law_found","_law_due"] (S_same 0):=by
 have sc:=sc__law_same
 refine G.fok F sc (fun vs H Q E h=>?_) (fun cdv A outer s H vs Q E hr h=>?_)
 ·obtain ⟨z0,z1,rfl,q⟩:=h;rfl
 ·refine ⟨rd__law_same K (S_never),(pss_cons (ps_if (pt_cmpR G.op_isN_ (pv 1) (pe_non) (nomark _)) (pss_one (ps_ret (pe_cmpR G.op_isN_ (pv 0) (pe_non) (nomark _)))) pss_nil)
   (pss_cons (ps_if (pt_cmpR G.op_isB (pv 1) (pe_bl) (nomark _)) (pss_one (ps_ret (pe_cmpR G.op_isB (pv 0) (pe_bl) (nomark _)))) pss_nil)
   (pss_cons (ps_if (pt_cmpR G.op_isB (pv 1) (pe_bl) (nomark _)) (pss_one (ps_ret (pe_cmpR G.op_isB (pv 0) (pe_bl) (nomark _)))) pss_nil)
   (pss_cons (ps_if (pt_val (pe_callB G.call_isi (by rfl) T.Zab G.boot_isinstance (pa_cons (pv 1) (pa_cons (pe_bltn rfl T.z_int G.boot_int rfl) pa_nil)))) (pss_one (ps_ret ((pe_and (pe_callB G.call_isi (by rfl) T.Zab G.boot_isinstance (pa_cons (pv 0) (pa_cons (pe_bltn rfl T.z_int G.boot_int rfl) pa_nil))) (pe_and (pe_not (pe_callB G.call_isi (by rfl) T.Zab G.boot_isinstance (pa_cons (pv 0) (pa_cons (pe_bltn rfl T.z_bool G.boot_bool rfl) pa_nil)))) (pe_one (pe_cmpR op_eq (pv 0) (pv 1) (nomark _)))))))) pss_nil)
   (pss_cons (ps_if (pt_val (pe_callB G.call_isi (by rfl) T.Zab G.boot_isinstance (pa_cons (pv 1) (pa_cons (pe_bltn rfl T.z_str G.boot_str rfl) pa_nil)))) (pss_one (ps_ret ((pe_and (pe_callB G.call_isi (by rfl) T.Zab G.boot_isinstance (pa_cons (pv 0) (pa_cons (pe_bltn rfl T.z_str G.boot_str rfl) pa_nil))) (pe_one (pe_cmpR op_eq (pv 0) (pv 1) (nomark _))))))) pss_nil)
   (pss_cons (ps_if (PW.pt (pw_and (pt_val (pe_callB G.call_isi (by rfl) T.Zab G.boot_isinstance (pa_cons (pv 1) (pa_cons (pe_bltn rfl T.z_list G.boot_list rfl) pa_nil)))) (pw_and1 (pt_not (pt_val (pe_callB G.call_isi (by rfl) T.Zab G.boot_isinstance (pa_cons (pv 0) (pa_cons (pe_bltn rfl T.z_list G.boot_list rfl) pa_nil)))))))) (pss_one (ps_ret (pe_bl))) pss_nil)
   (pss_cons (ps_if (PW.pt (pw_and (pt_val (pe_callB G.call_isi (by rfl) T.Zab G.boot_isinstance (pa_cons (pv 1) (pa_cons (pe_bltn rfl T.z_tuple G.boot_tuple rfl) pa_nil)))) (pw_and1 (pt_not (pt_val (pe_callB G.call_isi (by rfl) T.Zab G.boot_isinstance (pa_cons (pv 0) (pa_cons (pe_bltn rfl T.z_tuple G.boot_tuple rfl) pa_nil)))))))) (pss_one (ps_ret (pe_bl))) pss_nil)
   (pss_cons (ps_if (pt_cmpR op_ne (pe_callB G.call_lenL (by rfl) T.z_len G.boot_len (pa_cons (pv 0) pa_nil)) (pe_callB G.call_lenL (by rfl) T.z_len G.boot_len (pa_cons (pv 1) pa_nil)) (nomark _)) (pss_one (ps_ret (pe_bl))) pss_nil)
   (pss_cons (ps_for PassesOwn.never rfl (pi_range1 rfl T.z_range (pa_cons (pe_callB G.call_lenL (by rfl) T.z_len G.boot_len (pa_cons (pv 1) pa_nil)) pa_nil)) (pg_name (i:=2) sc.nd rfl (Or.inl rfl))
   (pss_one (ps_if (pt_not (pt_val (pe_call G__law_same (hr.mono (by omega)) rfl T.m__law_same k__law_same b__law_same .nil G.Zai (pa_cons (pe_ix ix_seq (pv 0) (pv 2) (fun _ _=>rfl)) (pa_cons (pe_ix ix_seq (pv 1) (pv 2) (fun _ _=>rfl)) pa_nil))))) (pss_one (ps_ret (pe_bl))) pss_nil)))
   (pss_one (ps_ret (pe_bl)))))))))))),?_⟩
  obtain ⟨z0,z1,rfl,q⟩:=h
  exact _law_same_rd0 q
theorem ok__law_same {d lv:Nat} (hlv:0≤lv) {fd:FuncData} (F:Fun K "_law_same" "_law_same" s__law_same f__law_same fd) (G__law_same:FnOk P w K mg base (G.CXe P w) lv f__law_same fd ["_law_found","_law_due"] (S_same d)) (b__law_same:Binds K fd ["_law_found","_law_due"] []) (k__law_same:PySem.W.keepIn K (.ref f__law_same)=true):FnOk P w K mg base (G.CXe P w) (lv + 1) f__law_same fd ["_law_found","_law_due"] (S_same (d + 1)):=by
 have sc:=sc__law_same
 refine G.fok F sc (fun vs H Q E h=>?_) (fun cdv A outer s H vs Q E hr h=>?_)
 ·obtain ⟨z0,z1,rfl,q⟩:=h;rfl
 ·refine ⟨rd__law_same K (S_same d),(pss_cons (ps_if (pt_cmpR G.op_isN_ (pv 1) (pe_non) (nomark _)) (pss_one (ps_ret (pe_cmpR G.op_isN_ (pv 0) (pe_non) (nomark _)))) pss_nil)
   (pss_cons (ps_if (pt_cmpR G.op_isB (pv 1) (pe_bl) (nomark _)) (pss_one (ps_ret (pe_cmpR G.op_isB (pv 0) (pe_bl) (nomark _)))) pss_nil)
   (pss_cons (ps_if (pt_cmpR G.op_isB (pv 1) (pe_bl) (nomark _)) (pss_one (ps_ret (pe_cmpR G.op_isB (pv 0) (pe_bl) (nomark _)))) pss_nil)
   (pss_cons (ps_if (pt_val (pe_callB G.call_isi (by rfl) T.Zab G.boot_isinstance (pa_cons (pv 1) (pa_cons (pe_bltn rfl T.z_int G.boot_int rfl) pa_nil)))) (pss_one (ps_ret ((pe_and (pe_callB G.call_isi (by rfl) T.Zab G.boot_isinstance (pa_cons (pv 0) (pa_cons (pe_bltn rfl T.z_int G.boot_int rfl) pa_nil))) (pe_and (pe_not (pe_callB G.call_isi (by rfl) T.Zab G.boot_isinstance (pa_cons (pv 0) (pa_cons (pe_bltn rfl T.z_bool G.boot_bool rfl) pa_nil)))) (pe_one (pe_cmpR op_eq (pv 0) (pv 1) (nomark _)))))))) pss_nil)
   (pss_cons (ps_if (pt_val (pe_callB G.call_isi (by rfl) T.Zab G.boot_isinstance (pa_cons (pv 1) (pa_cons (pe_bltn rfl T.z_str G.boot_str rfl) pa_nil)))) (pss_one (ps_ret ((pe_and (pe_callB G.call_isi (by rfl) T.Zab G.boot_isinstance (pa_cons (pv 0) (pa_cons (pe_bltn rfl T.z_str G.boot_str rfl) pa_nil))) (pe_one (pe_cmpR op_eq (pv 0) (pv 1) (nomark _))))))) pss_nil)
   (pss_cons (ps_if (PW.pt (pw_and (pt_val (pe_callB G.call_isi (by rfl) T.Zab G.boot_isinstance (pa_cons (pv 1) (pa_cons (pe_bltn rfl T.z_list G.boot_list rfl) pa_nil)))) (pw_and1 (pt_not (pt_val (pe_callB G.call_isi (by rfl) T.Zab G.boot_isinstance (pa_cons (pv 0) (pa_cons (pe_bltn rfl T.z_list G.boot_list rfl) pa_nil)))))))) (pss_one (ps_ret (pe_bl))) pss_nil)
   (pss_cons (ps_if (PW.pt (pw_and (pt_val (pe_callB G.call_isi (by rfl) T.Zab G.boot_isinstance (pa_cons (pv 1) (pa_cons (pe_bltn rfl T.z_tuple G.boot_tuple rfl) pa_nil)))) (pw_and1 (pt_not (pt_val (pe_callB G.call_isi (by rfl) T.Zab G.boot_isinstance (pa_cons (pv 0) (pa_cons (pe_bltn rfl T.z_tuple G.boot_tuple rfl) pa_nil)))))))) (pss_one (ps_ret (pe_bl))) pss_nil)
   (pss_cons (ps_if (pt_cmpR op_ne (pe_callB G.call_lenL (by rfl) T.z_len G.boot_len (pa_cons (pv 0) pa_nil)) (pe_callB G.call_lenL (by rfl) T.z_len G.boot_len (pa_cons (pv 1) pa_nil)) (nomark _)) (pss_one (ps_ret (pe_bl))) pss_nil)
   (pss_cons (ps_for PassesOwn.never rfl (pi_range1 rfl T.z_range (pa_cons (pe_callB G.call_lenL (by rfl) T.z_len G.boot_len (pa_cons (pv 1) pa_nil)) pa_nil)) (pg_name (i:=2) sc.nd rfl (Or.inl rfl))
   (pss_one (ps_if (pt_not (pt_val (pe_call G__law_same (hr.mono (by omega)) rfl T.m__law_same k__law_same b__law_same .nil G.Zai (pa_cons (pe_ix ix_seq (pv 0) (pv 2) (fun _ _=>rfl)) (pa_cons (pe_ix ix_seq (pv 1) (pv 2) (fun _ _=>rfl)) pa_nil))))) (pss_one (ps_ret (pe_bl))) pss_nil)))
   (pss_one (ps_ret (pe_bl)))))))))))),?_⟩
  obtain ⟨z0,z1,rfl,q⟩:=h
  exact _law_same_rd q
theorem ok__law_word {fd:FuncData} (F:Fun K "_law_word" "_law_word" s__law_word f__law_word fd):FnOk P w K mg base (G.CXe P w) 1 f__law_word fd ["_law_e"] (S_wordL (rfA Zae Za0 Za3 Za4)):=by
 have sc:=sc__law_word
 have tx:=tx0 T
 refine G.fok F sc (fun vs H Q E h=>?_) (fun cdv A outer s H vs Q E hr h=>?_)
 ·obtain ⟨z0,rfl,q⟩:=h;rfl
 ·refine ⟨rd__law_word K Za0 Zae Za3 Za4 C_Sound C_TextError (PySem.W.kitOne K),(pss_cons (ps_if (pt_cmpR G.op_isN_ (pv 0) (pe_non) (nomark _)) (pss_one (ps_ret (pe_str))) pss_nil)
   (pss_cons (ps_set (i:=1) sc.nd rfl (Or.inr rfl) (pe_lst (pa_cons (pe_callB (G.call_isiX T.exc) (by rfl) T.Zab G.boot_isinstance (pa_cons (pv 0) (pa_cons (pe_glob rfl T.m_EmptySlot rfl) pa_nil))) (pa_cons (pe_callB (G.call_isiX T.exc) (by rfl) T.Zab G.boot_isinstance (pa_cons (pv 0) (pa_cons (pe_glob rfl T.m_NoField rfl) pa_nil))) (pa_cons (pe_callB (G.call_isiX T.exc) (by rfl) T.Zab G.boot_isinstance (pa_cons (pv 0) (pa_cons (pe_glob rfl T.m_Full rfl) pa_nil))) (pa_cons (pe_callB (G.call_isiX T.exc) (by rfl) T.Zab G.boot_isinstance (pa_cons (pv 0) (pa_cons (pe_glob rfl T.m_NoName rfl) pa_nil))) pa_nil))))))
   (pss_cons (ps_set (i:=1) sc.nd rfl (Or.inr rfl) (pe_op op_cat (pv 1) (pe_lst (pa_cons (pe_callB (G.call_isiX T.exc) (by rfl) T.Zab G.boot_isinstance (pa_cons (pv 0) (pa_cons (pe_glob rfl T.m_Sound rfl) pa_nil))) (pa_cons (pe_callB (G.call_isiX T.exc) (by rfl) T.Zab G.boot_isinstance (pa_cons (pv 0) (pa_cons (pe_glob rfl T.m_TextError rfl) pa_nil))) pa_nil)))))
   (pss_cons (ps_set (i:=2) sc.nd rfl (Or.inr rfl) (pe_lst (pa_cons (pe_str) (pa_cons (pe_str) (pa_cons (pe_str) (pa_cons (pe_str) (pa_cons (pe_str) (pa_cons (pe_str) pa_nil))))))))
   (pss_cons (G.ps_lcset (iz:=3) (cns:=["_law_found","_law_words"]) [1,2] (pi_range1 rfl T.z_range (pa_cons (pe_int) pa_nil)) (fun _ _ _ _ _=>(G.pf_one (pt_val (pe_ix ix_list (pv 1) (pv 0) (fun _ _=>rfl))))) (fun _ _ _ _ _=>(pe_ix ix_list (pv 2) (pv 0) (fun _ _=>rfl))) rfl rfl (by repeat (first | exact trivial | refine ⟨rfl,?_⟩)) (by repeat (first | exact trivial | refine ⟨rfl,?_⟩)) rfl (by decide +kernel) rfl (by decide +kernel) (by decide +kernel) rfl (by decide +kernel) sc.nd rfl (Or.inl rfl) (Or.inr rfl) rfl)
   (pss_cons (ps_if (PW.pt (pw_or (pt_cmpR op_ne (pe_callB G.call_lenL (by rfl) T.z_len G.boot_len (pa_cons (pv 3) pa_nil)) (pe_int) (nomark _)) (pw_or1 (pt_not (pt_val (pe_callB (G.call_isiX T.exc) (by rfl) T.Zab G.boot_isinstance (pa_cons (pv 0) (pa_cons (pe_bltn rfl T.z_ValueError G.boot_ValueError rfl) pa_nil)))))))) (pss_one (ps_ret (pe_str))) pss_nil)
   (pss_one (ps_ret (pe_ix ix_list (pv 3) (pe_int) (fun _ _=>rfl)))))))))),?_⟩
  obtain ⟨z0,rfl,q⟩:=h
  exact _law_word_rd rfl rfl rfl rfl T.kit q
theorem ok__law_refused {fd:FuncData} (F:Fun K "_law_refused" "_law_refused" s__law_refused f__law_refused fd) {fd__law_word:FuncData} (G__law_word:FnOk P w K mg base (G.CXe P w) 1 f__law_word fd__law_word ["_law_e"] (S_wordL (rfA Zae Za0 Za3 Za4))) (b__law_word:Binds K fd__law_word ["_law_e"] []) (k__law_word:PySem.W.keepIn K (.ref f__law_word)=true) {fd_do:FuncData} (G_do:FnOk P w K mg base (G.CXe P w) 5 f_do fd_do ["world","deed"] (S_deed XQ (rfA Zae Za0 Za3 Za4) okP)) (b_do:Binds K fd_do ["world","deed"] []) (k_do:PySem.W.keepIn K (.ref f_do)=true):FnOk P w K mg base (G.CXe P w) 6 f__law_refused fd ["_law_world_here","_law_deed_here"] (S_refused XQ (rfA Zae Za0 Za3 Za4)):=by
 have sc:=sc__law_refused
 have tx:=tx0 T
 refine G.fok F sc (fun vs H Q E h=>?_) (fun cdv A outer s H vs Q E hr h=>?_)
 ·obtain ⟨z0,z1,rfl,q⟩:=h;rfl
 ·refine ⟨rd__law_refused Za0 Zae Za3 Za4 (S_wordL (rfA Zae Za0 Za3 Za4)) (S_deed XQ (rfA Zae Za0 Za3 Za4) okP),(pss_cons (ps_set (i:=2) sc.nd rfl (Or.inl rfl) (pe_non))
   (pss_cons (G.ps_tryAs (i:=3) rfl ⟨rfl,rfl⟩ sc.nd rfl rfl rfl T.m_GreyError (fun cls h=>by rcases h with rfl | rfl | rfl | rfl<;>first | exact T.e_EmptySlot_GreyError | exact T.e_NoField_GreyError | exact T.e_Full_GreyError | exact T.e_NoName_GreyError) (fun Ex pn xe hx=>(pss_one (ps_expr (G.pe_callX G_do (hr.mono (by decide)) rfl T.m_do k_do b_do .nil hx (pa_cons (pv 0) (pa_cons (pv 1) pa_nil)))))) (fun ea pn=>(pss_one (ps_set (i:=2) sc.nd rfl (Or.inl rfl) (pv 3)))))
   (pss_one (ps_ret (pe_call G__law_word (hr.mono (by decide)) rfl T.m__law_word k__law_word b__law_word .nil G.Zai (pa_cons (pv 2) pa_nil)))))),?_⟩
  obtain ⟨z0,z1,rfl,q⟩:=h
  exact _law_refused_rd rfl rfl rfl rfl q
theorem ok__law_stands {fd:FuncData} (F:Fun K "_law_stands" "_law_stands" s__law_stands f__law_stands fd) {fd__law_same:FuncData} (G__law_same:FnOk P w K mg base (G.CXe P w) 4 f__law_same fd__law_same ["_law_found","_law_due"] (S_same 3)) (b__law_same:Binds K fd__law_same ["_law_found","_law_due"] []) (k__law_same:PySem.W.keepIn K (.ref f__law_same)=true) {fd_births_held:FuncData} (G_births_held:FnOk P w K mg base (G.CXe P w) 4 f_births_held fd_births_held ["world"] (S_births XQ)) (b_births_held:Binds K fd_births_held ["world"] []) (k_births_held:PySem.W.keepIn K (.ref f_births_held)=true) {fd_told_cells:FuncData} (G_told_cells:FnOk P w K mg base (G.CXe P w) 5 f_told_cells fd_told_cells ["world"] (S_told XQ)) (b_told_cells:Binds K fd_told_cells ["world"] []) (k_told_cells:PySem.W.keepIn K (.ref f_told_cells)=true):FnOk P w K mg base (G.CXe P w) 6 f__law_stands fd ["_law_world_here","_law_draw_here"] (S_standsL XQ):=by
 have sc:=sc__law_stands
 have tx:=tx0 T
 refine G.fok F sc (fun vs H Q E h=>?_) (fun cdv A outer s H vs Q E hr h=>?_)
 ·obtain ⟨z0,z1,rfl,q⟩:=h;rfl
 ·refine ⟨rd__law_stands K (S_same 3) (S_births XQ) (S_told XQ),(pss_cons (ps_set (i:=2) sc.nd rfl (Or.inl rfl) (pe_lst (pa_cons (pe_op op_rep (pe_lst (pa_cons (pe_non) pa_nil)) (pe_dget (hu_of hr) (pv 1) (pe_str) (fun _ _=>rfl))) (pa_cons (pe_op op_rep (pe_lst (pa_cons (pe_non) pa_nil)) (pe_dget (hu_of hr) (pv 1) (pe_str) (fun _ _=>rfl))) pa_nil))))
   (pss_cons (ps_asg (pe_int) (pg_sub (pe_ix ix_list (pv 2) (pe_dget (hu_of hr) (pv 1) (pe_str) (fun _ _=>rfl)) (fun _ _=>rfl)) (pe_dget (hu_of hr) (pv 1) (pe_str) (fun _ _=>rfl)) set_list))
   (pss_cons (ps_if (pt_not (pt_val (pe_call G__law_same (hr.mono (by decide)) rfl T.m__law_same k__law_same b__law_same .nil G.Zai (pa_cons (pe_call G_births_held (hr.mono (by decide)) rfl T.m_births_held k_births_held b_births_held .nil G.Zai (pa_cons (pv 0) pa_nil)) (pa_cons (pv 2) pa_nil))))) (pss_one (ps_ret (pe_bl))) pss_nil)
   (pss_cons (ps_if (pt_not (pt_val (pe_call G__law_same (hr.mono (by decide)) rfl T.m__law_same k__law_same b__law_same .nil G.Zai (pa_cons (pe_lst (pa_cons (pe_fld (pe_fld (pv 0) rfl) rfl) (pa_cons (pe_fld (pe_fld (pv 0) rfl) rfl) pa_nil))) (pa_cons (pe_lst (pa_cons (pe_op op_add (pe_op op_add (pe_int) (pe_dget (hu_of hr) (pv 1) (pe_str) (fun _ _=>rfl))) (pe_dget (hu_of hr) (pv 1) (pe_str) (fun _ _=>rfl))) (pa_cons (pe_int) pa_nil))) pa_nil))))) (pss_one (ps_ret (pe_bl))) pss_nil)
   (pss_cons (ps_set (i:=3) sc.nd rfl (Or.inl rfl) (pe_lst (pa_cons (pe_tup (pa_cons (pe_int) (pa_cons (pe_int) (pa_cons (pe_dget (hu_of hr) (pv 1) (pe_str) (fun _ _=>rfl)) (pa_cons (pe_int) (pa_cons (pe_op op_rep (pe_lst (pa_cons (pe_non) pa_nil)) (pe_dget (hu_of hr) (pv 1) (pe_str) (fun _ _=>rfl))) (pa_cons (pe_dget (hu_of hr) (pv 1) (pe_str) (fun _ _=>rfl)) pa_nil))))))) pa_nil)))
   (pss_one (ps_ret ((pe_and (pe_call G__law_same (hr.mono (by decide)) rfl T.m__law_same k__law_same b__law_same .nil G.Zai (pa_cons (pe_call G_told_cells (hr.mono (by decide)) rfl T.m_told_cells k_told_cells b_told_cells .nil G.Zai (pa_cons (pv 0) pa_nil)) (pa_cons (pv 3) pa_nil))) (pe_one (pe_cmpR (G.op_eqD0 (hu_of hr)) (pe_fld (pv 0) rfl) (pe_dnewK) (nomark _)))))))))))),?_⟩
  obtain ⟨z0,z1,rfl,q⟩:=h
  exact _law_stands_rd tx q
theorem ok__law_draw {fd:FuncData} (F:Fun K "_law_draw" "_law_draw" s__law_draw f__law_draw fd) {fd__law_mix:FuncData} (G__law_mix:FnOk P w K mg base (G.CXe P w) 1 f__law_mix fd__law_mix ["_law_cell","_law_factor"] (S_mix)) (b__law_mix:Binds K fd__law_mix ["_law_cell","_law_factor"] []) (k__law_mix:PySem.W.keepIn K (.ref f__law_mix)=true):FnOk P w K mg base (G.CXe P w) 2 f__law_draw fd ["_law_cell"] (S_draw):=by
 have sc:=sc__law_draw
 have tx:=tx0 T
 refine G.fok F sc (fun vs H Q E h=>?_) (fun cdv A outer s H vs Q E hr h=>?_)
 ·obtain ⟨z0,rfl,q⟩:=h;rfl
 ·refine ⟨rd__law_draw K (S_mix),(pss_cons (ps_set (i:=1) sc.nd rfl (Or.inl rfl) (pe_call G__law_mix (hr.mono (by decide)) rfl T.m__law_mix k__law_mix b__law_mix .nil G.Zai (pa_cons (pv 0) (pa_cons (pe_int) pa_nil))))
   (pss_cons (ps_set (i:=2) sc.nd rfl (Or.inl rfl) (pe_call G__law_mix (hr.mono (by decide)) rfl T.m__law_mix k__law_mix b__law_mix .nil G.Zai (pa_cons (pv 0) (pa_cons (pe_int) pa_nil))))
   (pss_cons (ps_set (i:=3) sc.nd rfl (Or.inl rfl) (pe_call G__law_mix (hr.mono (by decide)) rfl T.m__law_mix k__law_mix b__law_mix .nil G.Zai (pa_cons (pv 0) (pa_cons (pe_int) pa_nil))))
   (pss_cons (ps_set (i:=4) sc.nd rfl (Or.inl rfl) (pe_op op_add (pe_int) (pe_op op_mod (pv 1) (pe_int))))
   (pss_cons (ps_set (i:=5) sc.nd rfl (Or.inl rfl) (pe_disp (pps_cons (pe_str) (pe_op op_mod (pv 2) (pe_int)) (pps_cons (pe_str) (pv 4) (pps_cons (pe_str) (pe_op op_mod (pe_op op_fdiv (pv 1) (pe_int)) (pe_int)) (pps_cons (pe_str) (pe_op op_mod (pe_op op_fdiv (pv 1) (pe_int)) (pv 4)) pps_nil)))) rfl rfl (by decide) (by decide)))
   (pss_cons (ps_dput (hu_of hr) (pv 5) (pe_str) (pe_op op_mod (pe_op op_add (pe_op op_add (pe_dget (hu_of hr) (pv 5) (pe_str) (fun _ _=>rfl)) (pe_int)) (pe_op op_mod (pe_op op_fdiv (pv 1) (pe_int)) (pe_op op_sub (pv 4) (pe_int)))) (pv 4)) rfl)
   (pss_cons (ps_dput (hu_of hr) (pv 5) (pe_str) (pe_op op_mod (pe_op op_fdiv (pv 2) (pe_int)) (pe_int)) rfl)
   (pss_cons (ps_dput (hu_of hr) (pv 5) (pe_str) (pe_op op_add (pe_int) (pe_op op_mod (pv 3) (pe_int))) rfl)
   (pss_cons (ps_dput (hu_of hr) (pv 5) (pe_str) (pe_op op_mod (pe_op op_fdiv (pv 3) (pe_int)) (pe_int)) rfl)
   (pss_cons (ps_if (PW.pt (pw_or (pt_cmpR op_eq (pe_dget (hu_of hr) (pv 5) (pe_str) (fun _ _=>rfl)) (pe_int) (nomark _)) (pw_or1 (pt_cmpR op_eq (pe_dget (hu_of hr) (pv 5) (pe_str) (fun _ _=>rfl)) (pe_int) (nomark _))))) (pss_one (ps_dput (hu_of hr) (pv 5) (pe_str) (pe_op op_add (pe_dget (hu_of hr) (pv 5) (pe_str) (fun _ _=>rfl)) (pe_op op_mod (pe_op op_fdiv (pv 3) (pe_int)) (pe_op op_sub (pe_int) (pe_dget (hu_of hr) (pv 5) (pe_str) (fun _ _=>rfl))))) rfl)) pss_nil)
   (pss_cons (ps_dput (hu_of hr) (pv 5) (pe_str) (pe_ix ix_list (pe_lst (pa_cons (pe_int) (pa_cons (pe_int) (pa_cons (pe_int) (pa_cons (pe_op op_pow (pe_int) (pe_int)) pa_nil))))) (pe_op op_mod (pe_op op_fdiv (pv 3) (pe_int)) (pe_int)) (fun _ _=>rfl)) rfl)
   (pss_cons (ps_dput (hu_of hr) (pv 5) (pe_str) (pe_ix ix_list (pe_lst (pa_cons (pe_dget (hu_of hr) (pv 5) (pe_str) (fun _ _=>rfl)) (pa_cons (pe_dget (hu_of hr) (pv 5) (pe_str) (fun _ _=>rfl)) pa_nil))) (pe_op op_mod (pe_op op_fdiv (pv 3) (pe_int)) (pe_int)) (fun _ _=>rfl)) rfl)
   (pss_cons (ps_dput (hu_of hr) (pv 5) (pe_str) (pe_op op_mod (pe_op op_fdiv (pv 2) (pe_int)) (pe_int)) rfl)
   (pss_cons (ps_dput (hu_of hr) (pv 5) (pe_str) (pe_ix ix_list (pe_lst (pa_cons (pe_str) (pa_cons (pe_str) (pa_cons (pe_str) pa_nil)))) (pe_dget (hu_of hr) (pv 5) (pe_str) (fun _ _=>rfl)) (fun _ _=>rfl)) rfl)
   (pss_cons (ps_dput (hu_of hr) (pv 5) (pe_str) (pe_op op_mod (pe_op G.op_mulW (pv 0) (pe_op op_pow (pe_int) (pe_int))) (pe_op op_pow (pe_int) (pe_int))) rfl)
   (pss_one (ps_ret (pv 5)))))))))))))))))),?_⟩
  obtain ⟨z0,rfl,q⟩:=h
  exact _law_draw_rd q
theorem ok__law_world {fd:FuncData} (F:Fun K "_law_world" "_law_world" s__law_world f__law_world fd) {fd_World___init__:FuncData} (G_World___init__:FnOk P w K mg base (G.CXe P w) 3 Zal fd_World___init__ ["self","room","kind","hands"] (S_World_init XQ)) (b_World___init__:Binds K fd_World___init__ ["self","room","kind","hands"] []) (k_World___init__:PySem.W.keepIn K (.ref Zal)=true) {fd__law_kind:FuncData} (G__law_kind:FnOk P w K mg base (G.CXe P w) 2 f__law_kind fd__law_kind ["_law_cell"] (S_kindL)) (b__law_kind:Binds K fd__law_kind ["_law_cell"] []) (k__law_kind:PySem.W.keepIn K (.ref f__law_kind)=true) {fd_begin:FuncData} (G_begin:FnOk P w K mg base (G.CXe P w) 3 f_begin fd_begin ["world"] (S_begin XQ)) (b_begin:Binds K fd_begin ["world"] []) (k_begin:PySem.W.keepIn K (.ref f_begin)=true) {fd_do:FuncData} (G_do:FnOk P w K mg base (G.CXe P w) 5 f_do fd_do ["world","deed"] (S_deed XQ (rfA Zae Za0 Za3 Za4) okP)) (b_do:Binds K fd_do ["world","deed"] []) (k_do:PySem.W.keepIn K (.ref f_do)=true) {fd_kind_of:FuncData} (G_kind_of:FnOk P w K mg base (G.CXe P w) 3 f_kind_of fd_kind_of ["text"] (S_kind_of XQ)) (b_kind_of:Binds K fd_kind_of ["text"] []) (k_kind_of:PySem.W.keepIn K (.ref f_kind_of)=true):FnOk P w K mg base (G.CXe P w) 6 f__law_world fd ["_law_cell","_law_draw_here"] (S_worldL XQ):=by
 have sc:=sc__law_world
 have tx:=tx0 T
 refine G.fok F sc (fun vs H Q E h=>?_) (fun cdv A outer s H vs Q E hr h=>?_)
 ·obtain ⟨z0,z1,rfl,q⟩:=h;rfl
 ·refine ⟨rd__law_world XQ.W (S_World_init XQ) (S_kindL) (S_begin XQ) (S_deed XQ (rfA Zae Za0 Za3 Za4) okP) (S_kind_of XQ),(pss_cons (ps_set (i:=2) sc.nd rfl (Or.inl rfl) (pe_op op_add (pe_dget (hu_of hr) (pv 1) (pe_str) (fun _ _=>rfl)) (pe_int)))
   (pss_cons (ps_set (i:=3) sc.nd rfl (Or.inl rfl) (pe_op op_pow (pe_int) (pe_int)))
   (pss_cons (ps_if (pt_cmpR op_eq (pe_dget (hu_of hr) (pv 1) (pe_str) (fun _ _=>rfl)) (pe_int) (nomark _)) (pss_one (ps_set (i:=3) sc.nd rfl (Or.inl rfl) (pe_op op_add (pe_op op_add (pe_op op_add (pe_int) (pe_dget (hu_of hr) (pv 1) (pe_str) (fun _ _=>rfl))) (pe_dget (hu_of hr) (pv 1) (pe_str) (fun _ _=>rfl))) (pv 2)))) pss_nil)
   (pss_cons (ps_set (i:=4) sc.nd rfl (Or.inl rfl) (pe_make T.mk_World G_World___init__ (hr.mono (by decide)) rfl T.m_World b_World___init__ .nil G.Zai (pa_cons (pv 3) (pa_cons (pe_call G_kind_of (hr.mono (by decide)) rfl T.m_kind_of k_kind_of b_kind_of .nil G.Zai (pa_cons (pe_call G__law_kind (hr.mono (by decide)) rfl T.m__law_kind k__law_kind b__law_kind .nil G.Zai (pa_cons (pv 0) pa_nil)) pa_nil)) (pa_cons (pe_lst (pa_cons (pe_tup (pa_cons (pe_str) (pa_cons (pe_dget (hu_of hr) (pv 1) (pe_str) (fun _ _=>rfl)) pa_nil))) (pa_cons (pe_tup (pa_cons (pe_str) (pa_cons (pe_dget (hu_of hr) (pv 1) (pe_str) (fun _ _=>rfl)) pa_nil))) pa_nil))) pa_nil)))))
   (pss_cons (ps_if (pt_cmpR op_eq (pe_dget (hu_of hr) (pv 1) (pe_str) (fun _ _=>rfl)) (pe_int) (nomark _)) (pss_one (ps_expr (pe_call G_begin (hr.mono (by decide)) rfl T.m_begin k_begin b_begin .nil G.Zai (pa_cons (pv 4) pa_nil)))) pss_nil)
   (pss_cons (ps_expr (pe_call G_do (hr.mono (by decide)) rfl T.m_do k_do b_do .nil G.Zai (pa_cons (pv 4) (pa_cons (pe_tup (pa_cons (pe_str) (pa_cons (pe_dget (hu_of hr) (pv 1) (pe_str) (fun _ _=>rfl)) (pa_cons (pe_dget (hu_of hr) (pv 1) (pe_str) (fun _ _=>rfl)) (pa_cons (pe_dget (hu_of hr) (pv 1) (pe_str) (fun _ _=>rfl)) (pa_cons (pe_dget (hu_of hr) (pv 1) (pe_str) (fun _ _=>rfl)) pa_nil)))))) pa_nil))))
   (pss_cons (ps_if (pt_cmpR op_eq (pe_dget (hu_of hr) (pv 1) (pe_str) (fun _ _=>rfl)) (pe_int) (nomark _)) (pss_one (ps_expr (pe_call G_begin (hr.mono (by decide)) rfl T.m_begin k_begin b_begin .nil G.Zai (pa_cons (pv 4) pa_nil)))) pss_nil)
   (pss_one (ps_ret (pv 4)))))))))),?_⟩
  obtain ⟨z0,z1,rfl,q⟩:=h
  exact _law_world_rd q
theorem ok__law_deed {fd:FuncData} (F:Fun K "_law_deed" "_law_deed" s__law_deed f__law_deed fd):FnOk P w K mg base (G.CXe P w) 1 f__law_deed fd ["_law_draw_here"] (S_deedL):=by
 have sc:=sc__law_deed
 have tx:=tx0 T
 refine G.fok F sc (fun vs H Q E h=>?_) (fun cdv A outer s H vs Q E hr h=>?_)
 ·obtain ⟨z0,rfl,q⟩:=h;rfl
 ·refine ⟨rd__law_deed K,(pss_cons (ps_set (i:=1) sc.nd rfl (Or.inl rfl) (pe_dget (hu_of hr) (pv 0) (pe_str) (fun _ _=>rfl)))
   (pss_cons (ps_asg (pe_tup (pa_cons (pe_dget (hu_of hr) (pv 0) (pe_str) (fun _ _=>rfl)) (pa_cons (pe_dget (hu_of hr) (pv 0) (pe_str) (fun _ _=>rfl)) (pa_cons (pe_dget (hu_of hr) (pv 0) (pe_str) (fun _ _=>rfl)) (pa_cons (pe_dget (hu_of hr) (pv 0) (pe_str) (fun _ _=>rfl)) pa_nil))))) (pg_tup rfl (pgs_cons (pg_name (i:=2) sc.nd rfl (Or.inl rfl)) (pgs_cons (pg_name (i:=3) sc.nd rfl (Or.inl rfl)) (pgs_cons (pg_name (i:=4) sc.nd rfl (Or.inl rfl)) (pgs_cons (pg_name (i:=5) sc.nd rfl (Or.inl rfl)) pgs_nil))))))
   (pss_cons (ps_if (pt_cmpR op_eq (pv 1) (pe_int) (nomark _)) (pss_one (ps_ret (pe_tup (pa_cons (pe_str) (pa_cons (pv 2) (pa_cons (pv 3) (pa_cons (pv 4) (pa_cons (pv 5) pa_nil)))))))) pss_nil)
   (pss_cons (ps_if (pt_cmpR op_eq (pv 1) (pe_int) (nomark _)) (pss_one (ps_ret (pe_tup (pa_cons (pe_str) (pa_cons (pv 2) (pa_cons (pv 4) (pa_cons (pv 5) (pa_cons (pv 3) pa_nil)))))))) pss_nil)
   (pss_cons (ps_if (pt_cmpR op_eq (pv 1) (pe_int) (nomark _)) (pss_one (ps_ret (pe_tup (pa_cons (pe_str) (pa_cons (pv 2) (pa_cons (pv 4) (pa_cons (pe_dget (hu_of hr) (pv 0) (pe_str) (fun _ _=>rfl)) pa_nil))))))) pss_nil)
   (pss_cons (ps_if (pt_cmpR op_eq (pv 1) (pe_int) (nomark _)) (pss_one (ps_ret (pe_tup (pa_cons (pe_str) (pa_cons (pv 2) (pa_cons (pv 4) pa_nil)))))) pss_nil)
   (pss_cons (ps_if (pt_cmpR op_eq (pv 1) (pe_int) (nomark _)) (pss_one (ps_ret (pe_tup (pa_cons (pe_str) (pa_cons (pv 2) (pa_cons (pv 4) (pa_cons (pe_str) pa_nil))))))) pss_nil)
   (pss_cons (ps_if (pt_cmpR op_eq (pv 1) (pe_int) (nomark _)) (pss_one (ps_ret (pe_tup (pa_cons (pe_str) (pa_cons (pv 2) (pa_cons (pv 4) (pa_cons (pv 3) (pa_cons (pv 5) pa_nil)))))))) pss_nil)
   (pss_cons (ps_if (pt_cmpR op_eq (pv 1) (pe_int) (nomark _)) (pss_one (ps_ret (pe_tup (pa_cons (pe_str) (pa_cons (pv 2) (pa_cons (pv 3) (pa_cons (pv 5) (pa_cons (pv 3) pa_nil)))))))) pss_nil)
   (pss_cons (ps_if (pt_cmpR op_eq (pv 1) (pe_int) (nomark _)) (pss_one (ps_ret (pe_tup (pa_cons (pe_str) (pa_cons (pv 2) (pa_cons (pe_dget (hu_of hr) (pv 0) (pe_str) (fun _ _=>rfl)) (pa_cons (pe_dget (hu_of hr) (pv 0) (pe_str) (fun _ _=>rfl)) (pa_cons (pe_op op_add (pe_int) (pe_dget (hu_of hr) (pv 0) (pe_str) (fun _ _=>rfl))) pa_nil)))))))) pss_nil)
   (pss_one (ps_ret (pe_tup (pa_cons (pe_str) (pa_cons (pv 2) (pa_cons (pv 4) (pa_cons (pe_str) pa_nil))))))))))))))))),?_⟩
  obtain ⟨z0,rfl,q⟩:=h
  exact _law_deed_rd q
theorem ok__law_good {fd:FuncData} (F:Fun K "_law_good" "_law_good" s__law_good f__law_good fd) {fd__law_same:FuncData} (G__law_same:FnOk P w K mg base (G.CXe P w) 4 f__law_same fd__law_same ["_law_found","_law_due"] (S_same 3)) (b__law_same:Binds K fd__law_same ["_law_found","_law_due"] []) (k__law_same:PySem.W.keepIn K (.ref f__law_same)=true) {fd_do:FuncData} (G_do:FnOk P w K mg base (G.CXe P w) 5 f_do fd_do ["world","deed"] (S_deed XQ (rfA Zae Za0 Za3 Za4) okP)) (b_do:Binds K fd_do ["world","deed"] []) (k_do:PySem.W.keepIn K (.ref f_do)=true):FnOk P w K mg base (G.CXe P w) 6 f__law_good fd ["_law_world_here","_law_draw_here","_law_deed_here"] (S_goodL XQ):=by
 have sc:=sc__law_good
 have tx:=tx0 T
 refine fokw F sc (fun vs H Q E h=>?_) (fun cdv A outer s H vs Q E hr h=>?_)
 ·obtain ⟨z0,z1,z2,rfl,q⟩:=h;rfl
 ·refine ⟨rd__law_good K (S_same 3) (S_deed XQ (rfA Zae Za0 Za3 Za4) okP),(psw_cons (ps_set (i:=3) sc.nd rfl (Or.inl rfl) (pe_dget (hu_of hr) (pv 1) (pe_str) (fun _ _=>rfl)))
   (psw_cons (ps_if (pt_cmpR op_lt (pv 3) (pe_int) (nomark _)) (pss_one (ps_expr (pe_call G_do (hr.mono (by decide)) rfl T.m_do k_do b_do .nil G.Zai (pa_cons (pv 0) (pa_cons (pe_tup (pa_cons (pe_str) (pa_cons (pe_dget (hu_of hr) (pv 1) (pe_str) (fun _ _=>rfl)) (pa_cons (pe_dget (hu_of hr) (pv 1) (pe_str) (fun _ _=>rfl)) (pa_cons (pe_op op_add (pe_dget (hu_of hr) (pv 1) (pe_str) (fun _ _=>rfl)) (pe_int)) (pa_cons (pe_int) pa_nil)))))) pa_nil))))) pss_nil)
   (psw_cons (ps_if (PW.pt (pw_or (pt_cmpR op_eq (pv 3) (pe_int) (nomark _)) (pw_or1 (pt_cmpR op_eq (pv 3) (pe_int) (nomark _))))) (pss_one (ps_expr (pe_call G_do (hr.mono (by decide)) rfl T.m_do k_do b_do .nil G.Zai (pa_cons (pv 0) (pa_cons (pe_tup (pa_cons (pe_str) (pa_cons (pe_dget (hu_of hr) (pv 1) (pe_str) (fun _ _=>rfl)) (pa_cons (pe_dget (hu_of hr) (pv 1) (pe_str) (fun _ _=>rfl)) (pa_cons (pe_op op_add (pe_dget (hu_of hr) (pv 1) (pe_str) (fun _ _=>rfl)) (pe_int)) (pa_cons (pe_int) pa_nil)))))) pa_nil))))) pss_nil)
   (psw_cons (ps_if (pt_cmpR op_eq (pv 3) (pe_int) (nomark _)) (pss_one (ps_set (i:=2) sc.nd rfl (Or.inl rfl) (pe_tup (pa_cons (pe_str) (pa_cons (pe_dget (hu_of hr) (pv 1) (pe_str) (fun _ _=>rfl)) (pa_cons (pe_dget (hu_of hr) (pv 1) (pe_str) (fun _ _=>rfl)) (pa_cons (pe_dget (hu_of hr) (pv 1) (pe_str) (fun _ _=>rfl)) (pa_cons (pe_int) pa_nil)))))))) pss_nil)
   (psw_cons (ps_if (pt_cmpR op_eq (pv 3) (pe_int) (nomark _)) (pss_one (ps_expr (pe_call G_do (hr.mono (by decide)) rfl T.m_do k_do b_do .nil G.Zai (pa_cons (pv 0) (pa_cons (pe_tup (pa_cons (pe_str) (pa_cons (pe_dget (hu_of hr) (pv 1) (pe_str) (fun _ _=>rfl)) (pa_cons (pe_dget (hu_of hr) (pv 1) (pe_str) (fun _ _=>rfl)) (pa_cons (pe_str) pa_nil))))) pa_nil))))) pss_nil)
   (psw_lst (i:=4) sc.nd rfl (Or.inl rfl) (paw_cons (pe_tup (pa_cons (pe_str) (pa_cons (pe_non) pa_nil))) (paw_cons (pe_tup (pa_cons (pe_str) (pa_cons (pe_non) pa_nil))) (paw_cons (pe_tup (pa_cons (pe_str) (pa_cons (pe_int) pa_nil))) (paw_cons (pe_tup (pa_cons (pe_str) (pa_cons (pe_int) pa_nil))) (paw_cons (pe_tup (pa_cons (pe_str) (pa_cons (pe_int) pa_nil))) (paw_cons (pe_tup (pa_cons (pe_str) (pa_cons (pe_non) pa_nil))) (paw_cons (pe_tup (pa_cons (pe_str) (pa_cons (pe_non) pa_nil))) paw_nil)))))))
   ⟨(pss_cons (ps_set (i:=4) sc.nd rfl (Or.inl rfl) (pe_op op_cat (pv 4) (pe_lst (pa_cons (pe_tup (pa_cons (pe_str) (pa_cons (pe_int) pa_nil))) (pa_cons (pe_tup (pa_cons (pe_str) (pa_cons (pe_int) pa_nil))) pa_nil)))))
   (pss_cons (ps_set (i:=5) sc.nd rfl (Or.inl rfl) (pe_call G_do (hr.mono (by decide)) rfl T.m_do k_do b_do .nil G.Zai (pa_cons (pv 0) (pa_cons (pv 2) pa_nil))))
   (pss_one (ps_ret ((pe_and (pe_callB G.call_isi (by rfl) T.Zab G.boot_isinstance (pa_cons (pv 5) (pa_cons (pe_bltn rfl T.z_tuple G.boot_tuple rfl) pa_nil))) (pe_and (pe_cmpR op_eq (pe_callB G.call_lenL (by rfl) T.z_len G.boot_len (pa_cons (pv 5) pa_nil)) (pe_int) (nomark _)) (pe_one (pe_call G__law_same (hr.mono (by decide)) rfl T.m__law_same k__law_same b__law_same .nil G.Zai (pa_cons (pe_slice sl_tup (pv 5) po_none (po_some (pe_int))) (pa_cons (pe_ix ix_list (pv 4) (pv 3) (fun _ _=>rfl)) pa_nil)))))))))))⟩)))))),?_⟩
  obtain ⟨z0,z1,z2,rfl,q⟩:=h
  exact _law_good_rd q
theorem ok_law {fl:Addr}{fd:FuncData} (F:Fun K "law" "law" s_law fl fd) {fd__law_deed:FuncData} (G__law_deed:FnOk P w K mg base (G.CXe P w) 1 f__law_deed fd__law_deed ["_law_draw_here"] (S_deedL)) (b__law_deed:Binds K fd__law_deed ["_law_draw_here"] []) (k__law_deed:PySem.W.keepIn K (.ref f__law_deed)=true) {fd__law_draw:FuncData} (G__law_draw:FnOk P w K mg base (G.CXe P w) 2 f__law_draw fd__law_draw ["_law_cell"] (S_draw)) (b__law_draw:Binds K fd__law_draw ["_law_cell"] []) (k__law_draw:PySem.W.keepIn K (.ref f__law_draw)=true) {fd__law_good:FuncData} (G__law_good:FnOk P w K mg base (G.CXe P w) 6 f__law_good fd__law_good ["_law_world_here","_law_draw_here","_law_deed_here"] (S_goodL XQ)) (b__law_good:Binds K fd__law_good ["_law_world_here","_law_draw_here","_law_deed_here"] []) (k__law_good:PySem.W.keepIn K (.ref f__law_good)=true) {fd__law_refused:FuncData} (G__law_refused:FnOk P w K mg base (G.CXe P w) 6 f__law_refused fd__law_refused ["_law_world_here","_law_deed_here"] (S_refused XQ (rfA Zae Za0 Za3 Za4))) (b__law_refused:Binds K fd__law_refused ["_law_world_here","_law_deed_here"] []) (k__law_refused:PySem.W.keepIn K (.ref f__law_refused)=true) {fd__law_stands:FuncData} (G__law_stands:FnOk P w K mg base (G.CXe P w) 6 f__law_stands fd__law_stands ["_law_world_here","_law_draw_here"] (S_standsL XQ)) (b__law_stands:Binds K fd__law_stands ["_law_world_here","_law_draw_here"] []) (k__law_stands:PySem.W.keepIn K (.ref f__law_stands)=true) {fd__law_world:FuncData} (G__law_world:FnOk P w K mg base (G.CXe P w) 6 f__law_world fd__law_world ["_law_cell","_law_draw_here"] (S_worldL XQ)) (b__law_world:Binds K fd__law_world ["_law_cell","_law_draw_here"] []) (k__law_world:PySem.W.keepIn K (.ref f__law_world)=true):FnOk P w K mg base (G.CXe P w) 7 fl fd ["_law_script"] (S_law K):=by
 have sc:=sc_law
 have tx:=tx0 T
 refine G.fok F sc (fun vs H Q E h=>?_) (fun cdv A outer s H vs Q E hr h=>?_)
 ·obtain ⟨z0,rfl,q⟩:=h;rfl
 ·refine ⟨rd_law K (S_deedL) (S_draw) (S_goodL XQ) (S_refused XQ (rfA Zae Za0 Za3 Za4)) (S_standsL XQ) (S_worldL XQ),(pss_cons (ps_for PassesOwn.never rfl (pi_list (pe_op op_cat (pe_slice sl_list (pv 0) po_none (po_some (pe_int))) (pe_lst (pa_cons (pe_int) pa_nil)))) (pg_name (i:=1) sc.nd rfl (Or.inl rfl))
   (pss_cons (ps_set (i:=2) sc.nd rfl (Or.inl rfl) (pe_call G__law_draw (hr.mono (by decide)) rfl T.m__law_draw k__law_draw b__law_draw .nil G.Zai (pa_cons (pv 1) pa_nil)))
   (pss_cons (ps_set (i:=3) sc.nd rfl (Or.inl rfl) (pe_call G__law_world (hr.mono (by decide)) rfl T.m__law_world k__law_world b__law_world .nil G.Zai (pa_cons (pv 1) (pa_cons (pv 2) pa_nil))))
   (pss_cons (ps_set (i:=4) sc.nd rfl (Or.inl rfl) (pe_call G__law_deed (hr.mono (by decide)) rfl T.m__law_deed k__law_deed b__law_deed .nil G.Zai (pa_cons (pv 2) pa_nil)))
   (pss_cons (ps_set (i:=5) sc.nd rfl (Or.inl rfl) (pe_ix ix_list (pe_lst (pa_cons (pe_str) (pa_cons (pe_str) (pa_cons (pe_str) (pa_cons (pe_str) (pa_cons (pe_str) (pa_cons (pe_str) (pa_cons (pe_str) (pa_cons (pe_str) (pa_cons (pe_str) pa_nil)))))))))) (pe_dget (hu_of hr) (pv 2) (pe_str) (fun _ _=>rfl)) (fun _ _=>rfl)))
   (pss_cons (ps_if (PW.pt (pw_or (pt_cmpR op_ne (pe_call G__law_refused (hr.mono (by decide)) rfl T.m__law_refused k__law_refused b__law_refused .nil G.Zai (pa_cons (pv 3) (pa_cons (pv 4) pa_nil))) (pv 5) (nomark _)) (pw_or1 (pt_not (pt_val (pe_call G__law_stands (hr.mono (by decide)) rfl T.m__law_stands k__law_stands b__law_stands .nil G.Zai (pa_cons (pv 3) (pa_cons (pv 2) pa_nil)))))))) (pss_one (ps_ret (pe_bl))) pss_nil)
   (pss_one (ps_if (PW.pt (pw_or (pt_cmpR op_ne (pe_call G__law_refused (hr.mono (by decide)) rfl T.m__law_refused k__law_refused b__law_refused .nil G.Zai (pa_cons (pv 3) (pa_cons (pv 4) pa_nil))) (pv 5) (nomark _)) (pw_or1 (pt_not (pt_val (pe_call G__law_good (hr.mono (by decide)) rfl T.m__law_good k__law_good b__law_good .nil G.Zai (pa_cons (pv 3) (pa_cons (pv 2) (pa_cons (pv 4) pa_nil))))))))) (pss_one (ps_ret (pe_bl))) pss_nil))))))))
   (pss_one (ps_ret (pe_bl)))),?_⟩
  obtain ⟨z0,rfl,q⟩:=h
  exact law_rd q
end
theorem all_mk {l:PySem.W.OpenLaw}{w:World}{K:PySem.W.Frag}{h:Heap}{mg:Str→Option Value}{fa fl Za6 Za5 Za8 Zad Zaf Zag Zah Za1 Za7 C_GreyError Za0 Za3 Zae Za4 C_Sound C_TextError Zas f_Cell_units Zan Zaq f_Heap_make f_Heap_lay f_Heap_free f_Heap_there f_cell_at f_birth_at f_all_of Zac f_First_word Zam f_Each_word f_Last_word Zap f_Kind_words f_kind_of Zar Zak Zal f_births_held f_births_at f_looked_at f_has_sense f_mark_of f_told_cells f_told_cell f_begin f_note f_note_all f_gone f_slots_of f_cell_in f_fields_in f_told_as_old f_told_as_new f_do_make f_do_get f_do_put f_do_write f_do_read f_do_name f_do_seek f_place_named f_do f__law_mix f__law_kind f__law_same f__law_word f__law_refused f__law_stands f__law_draw f__law_world f__law_deed f__law_good f_do_copy f_do_drop f_do_give:Addr} (KI:K.In h) (GN:h.Ns mainGlobals mg) (hfa:mg "law"=some (.ref fa))
  {od1 an1:Option Addr}{sl1:Array (Option Value)}{oc1 kV1 dc1 pm1 cd1 ct1:Value}
  {od2 an2:Option Addr}{sl2:Array (Option Value)}{oc2 kV2 dc2 pm2 cd2 ct2:Value}
  {od3 an3:Option Addr}{sl3:Array (Option Value)}{oc3 kV3 dc3 pm3 cd3 ct3:Value}
  {od4 an4:Option Addr}{sl4:Array (Option Value)}{oc4 kV4 dc4 pm4 cd4 ct4:Value}
  {od5 an5:Option Addr}{sl5:Array (Option Value)}{oc5 kV5 dc5 pm5 cd5 ct5:Value}
  {td5:Addr}{tc5:Value}{to5:Option Addr}{tn5:Nat}{ts5:Array (Option Value)}{dv5_0 dv5_1:Value}
  {od6 an6:Option Addr}{sl6:Array (Option Value)}{oc6 kV6 dc6 pm6 cd6 ct6:Value}
  {od7 an7:Option Addr}{sl7:Array (Option Value)}{oc7 kV7 dc7 pm7 cd7 ct7:Value}
  {od8 an8:Option Addr}{sl8:Array (Option Value)}{oc8 kV8 dc8 pm8 cd8 ct8:Value}
  {od9 an9:Option Addr}{sl9:Array (Option Value)}{oc9 kV9 dc9 pm9 cd9 ct9:Value}
  {od10 an10:Option Addr}{sl10:Array (Option Value)}{oc10 kV10 dc10 pm10 cd10 ct10:Value}
  {od11 an11:Option Addr}{sl11:Array (Option Value)}{oc11 kV11 dc11 pm11 cd11 ct11:Value}
  {od12 an12:Option Addr}{sl12:Array (Option Value)}{oc12 kV12 dc12 pm12 cd12 ct12:Value}
  {od13 an13:Option Addr}{sl13:Array (Option Value)}{oc13 kV13 dc13 pm13 cd13 ct13:Value}
  {od14 an14:Option Addr}{sl14:Array (Option Value)}{oc14 kV14 dc14 pm14 cd14 ct14:Value}
  {od15 an15:Option Addr}{sl15:Array (Option Value)}{oc15 kV15 dc15 pm15 cd15 ct15:Value}
  {od16 an16:Option Addr}{sl16:Array (Option Value)}{oc16 kV16 dc16 pm16 cd16 ct16:Value}
  {od17 an17:Option Addr}{sl17:Array (Option Value)}{oc17 kV17 dc17 pm17 cd17 ct17:Value}
  {od18 an18:Option Addr}{sl18:Array (Option Value)}{oc18 kV18 dc18 pm18 cd18 ct18:Value}
  {od19 an19:Option Addr}{sl19:Array (Option Value)}{oc19 kV19 dc19 pm19 cd19 ct19:Value}
  {od20 an20:Option Addr}{sl20:Array (Option Value)}{oc20 kV20 dc20 pm20 cd20 ct20:Value}
  {od21 an21:Option Addr}{sl21:Array (Option Value)}{oc21 kV21 dc21 pm21 cd21 ct21:Value}
  {od22 an22:Option Addr}{sl22:Array (Option Value)}{oc22 kV22 dc22 pm22 cd22 ct22:Value}
  {od23 an23:Option Addr}{sl23:Array (Option Value)}{oc23 kV23 dc23 pm23 cd23 ct23:Value}
  {od24 an24:Option Addr}{sl24:Array (Option Value)}{oc24 kV24 dc24 pm24 cd24 ct24:Value}
  {od25 an25:Option Addr}{sl25:Array (Option Value)}{oc25 kV25 dc25 pm25 cd25 ct25:Value}
  {od26 an26:Option Addr}{sl26:Array (Option Value)}{oc26 kV26 dc26 pm26 cd26 ct26:Value}
  {od27 an27:Option Addr}{sl27:Array (Option Value)}{oc27 kV27 dc27 pm27 cd27 ct27:Value}
  {od28 an28:Option Addr}{sl28:Array (Option Value)}{oc28 kV28 dc28 pm28 cd28 ct28:Value}
  {od29 an29:Option Addr}{sl29:Array (Option Value)}{oc29 kV29 dc29 pm29 cd29 ct29:Value}
  {od30 an30:Option Addr}{sl30:Array (Option Value)}{oc30 kV30 dc30 pm30 cd30 ct30:Value}
  {od31 an31:Option Addr}{sl31:Array (Option Value)}{oc31 kV31 dc31 pm31 cd31 ct31:Value}
  {od32 an32:Option Addr}{sl32:Array (Option Value)}{oc32 kV32 dc32 pm32 cd32 ct32:Value}
  {od33 an33:Option Addr}{sl33:Array (Option Value)}{oc33 kV33 dc33 pm33 cd33 ct33:Value}
  {od34 an34:Option Addr}{sl34:Array (Option Value)}{oc34 kV34 dc34 pm34 cd34 ct34:Value}
  {od35 an35:Option Addr}{sl35:Array (Option Value)}{oc35 kV35 dc35 pm35 cd35 ct35:Value}
  {od36 an36:Option Addr}{sl36:Array (Option Value)}{oc36 kV36 dc36 pm36 cd36 ct36:Value}
  {od37 an37:Option Addr}{sl37:Array (Option Value)}{oc37 kV37 dc37 pm37 cd37 ct37:Value}
  {od38 an38:Option Addr}{sl38:Array (Option Value)}{oc38 kV38 dc38 pm38 cd38 ct38:Value}
  {od39 an39:Option Addr}{sl39:Array (Option Value)}{oc39 kV39 dc39 pm39 cd39 ct39:Value}
  {od40 an40:Option Addr}{sl40:Array (Option Value)}{oc40 kV40 dc40 pm40 cd40 ct40:Value}
  {od41 an41:Option Addr}{sl41:Array (Option Value)}{oc41 kV41 dc41 pm41 cd41 ct41:Value}
  {od42 an42:Option Addr}{sl42:Array (Option Value)}{oc42 kV42 dc42 pm42 cd42 ct42:Value}
  {od43 an43:Option Addr}{sl43:Array (Option Value)}{oc43 kV43 dc43 pm43 cd43 ct43:Value}
  {od44 an44:Option Addr}{sl44:Array (Option Value)}{oc44 kV44 dc44 pm44 cd44 ct44:Value}
  {od45 an45:Option Addr}{sl45:Array (Option Value)}{oc45 kV45 dc45 pm45 cd45 ct45:Value}
  {od46 an46:Option Addr}{sl46:Array (Option Value)}{oc46 kV46 dc46 pm46 cd46 ct46:Value}
  {od47 an47:Option Addr}{sl47:Array (Option Value)}{oc47 kV47 dc47 pm47 cd47 ct47:Value}
  {od48 an48:Option Addr}{sl48:Array (Option Value)}{oc48 kV48 dc48 pm48 cd48 ct48:Value}
  {od49 an49:Option Addr}{sl49:Array (Option Value)}{oc49 kV49 dc49 pm49 cd49 ct49:Value}
  {od50 an50:Option Addr}{sl50:Array (Option Value)}{oc50 kV50 dc50 pm50 cd50 ct50:Value}
  {od51 an51:Option Addr}{sl51:Array (Option Value)}{oc51 kV51 dc51 pm51 cd51 ct51:Value}
  {od52 an52:Option Addr}{sl52:Array (Option Value)}{oc52 kV52 dc52 pm52 cd52 ct52:Value}
  {od53 an53:Option Addr}{sl53:Array (Option Value)}{oc53 kV53 dc53 pm53 cd53 ct53:Value}
  {od54 an54:Option Addr}{sl54:Array (Option Value)}{oc54 kV54 dc54 pm54 cd54 ct54:Value}
  {od55 an55:Option Addr}{sl55:Array (Option Value)}{oc55 kV55 dc55 pm55 cd55 ct55:Value}
  {od56 an56:Option Addr}{sl56:Array (Option Value)}{oc56 kV56 dc56 pm56 cd56 ct56:Value}
  {od57 an57:Option Addr}{sl57:Array (Option Value)}{oc57 kV57 dc57 pm57 cd57 ct57:Value}
  {od58 an58:Option Addr}{sl58:Array (Option Value)}{oc58 kV58 dc58 pm58 cd58 ct58:Value}
  {dd_DEEDS:Addr}{ep_DEEDS:Nat}{hh_DEEDS0 hh_DEEDS1 hh_DEEDS2 hh_DEEDS3 hh_DEEDS4 hh_DEEDS5 hh_DEEDS6 hh_DEEDS7 hh_DEEDS8 hh_DEEDS9:Int}{tk_DEEDS0 tk_DEEDS1 tk_DEEDS2 tk_DEEDS3 tk_DEEDS4 tk_DEEDS5 tk_DEEDS6 tk_DEEDS7 tk_DEEDS8 tk_DEEDS9:Tok}
  {u_NEW:Value}
  {u_OLD:Value}
  (a_Cell:PySem.W.nsIn K mainGlobals "Cell"=some (some (.ref Za6)))
  (a_Heap:PySem.W.nsIn K mainGlobals "Heap"=some (some (.ref Za5)))
  (a_First:PySem.W.nsIn K mainGlobals "First"=some (some (.ref Za8)))
  (a_Each:PySem.W.nsIn K mainGlobals "Each"=some (some (.ref Zad)))
  (a_Last:PySem.W.nsIn K mainGlobals "Last"=some (some (.ref Zaf)))
  (a_Kind:PySem.W.nsIn K mainGlobals "Kind"=some (some (.ref Zag)))
  (a_Hand:PySem.W.nsIn K mainGlobals "Hand"=some (some (.ref Zah)))
  (a_Sweeper:PySem.W.nsIn K mainGlobals "Sweeper"=some (some (.ref Za1)))
  (a_World:PySem.W.nsIn K mainGlobals "World"=some (some (.ref Za7)))
  (a_GreyError:PySem.W.nsIn K mainGlobals "GreyError"=some (some (.ref C_GreyError)))
  (a_EmptySlot:PySem.W.nsIn K mainGlobals "EmptySlot"=some (some (.ref Za0)))
  (a_NoField:PySem.W.nsIn K mainGlobals "NoField"=some (some (.ref Za3)))
  (a_Full:PySem.W.nsIn K mainGlobals "Full"=some (some (.ref Zae)))
  (a_NoName:PySem.W.nsIn K mainGlobals "NoName"=some (some (.ref Za4)))
  (a_Sound:PySem.W.nsIn K mainGlobals "Sound"=some (some (.ref C_Sound)))
  (a_TextError:PySem.W.nsIn K mainGlobals "TextError"=some (some (.ref C_TextError)))
  (a1:PySem.W.findIn K (.ref Za6) "__init__"=some (some (.ref Zas)))
  (i1:PySem.W.isFn K (.ref Zas)=true)
  (l1:K.lookup Zas=some ⟨oc1,od1,.func (PySem.W.fnOf "__init__" "Cell.__init__" (defArgs s_Cell___init__) (defBody s_Cell___init__) (defScope s_Cell___init__) .none kV1 dc1 pm1 an1 cd1 ct1),sl1⟩)
  (c1:PySem.W.codeIn K cd1 "Cell.__init__"=true)
  (k1:PySem.W.keepIn K (.ref Zas)=true)
  (a2:PySem.W.findIn K (.ref Za6) "units"=some (some (.ref f_Cell_units)))
  (i2:PySem.W.isFn K (.ref f_Cell_units)=true)
  (l2:K.lookup f_Cell_units=some ⟨oc2,od2,.func (PySem.W.fnOf "units" "Cell.units" (defArgs s_Cell_units) (defBody s_Cell_units) (defScope s_Cell_units) .none kV2 dc2 pm2 an2 cd2 ct2),sl2⟩)
  (c2:PySem.W.codeIn K cd2 "Cell.units"=true)
  (k2:PySem.W.keepIn K (.ref f_Cell_units)=true)
  (a3:PySem.W.findIn K (.ref Za6) "has_field"=some (some (.ref Zan)))
  (i3:PySem.W.isFn K (.ref Zan)=true)
  (l3:K.lookup Zan=some ⟨oc3,od3,.func (PySem.W.fnOf "has_field" "Cell.has_field" (defArgs s_Cell_has_field) (defBody s_Cell_has_field) (defScope s_Cell_has_field) .none kV3 dc3 pm3 an3 cd3 ct3),sl3⟩)
  (c3:PySem.W.codeIn K cd3 "Cell.has_field"=true)
  (k3:PySem.W.keepIn K (.ref Zan)=true)
  (a4:PySem.W.findIn K (.ref Za5) "__init__"=some (some (.ref Zaq)))
  (i4:PySem.W.isFn K (.ref Zaq)=true)
  (l4:K.lookup Zaq=some ⟨oc4,od4,.func (PySem.W.fnOf "__init__" "Heap.__init__" (defArgs s_Heap___init__) (defBody s_Heap___init__) (defScope s_Heap___init__) .none kV4 dc4 pm4 an4 cd4 ct4),sl4⟩)
  (c4:PySem.W.codeIn K cd4 "Heap.__init__"=true)
  (k4:PySem.W.keepIn K (.ref Zaq)=true)
  (a5:PySem.W.findIn K (.ref Za5) "make"=some (some (.ref f_Heap_make)))
  (i5:PySem.W.isFn K (.ref f_Heap_make)=true)
  (l5:K.lookup f_Heap_make=some ⟨oc5,od5,.func (PySem.W.fnOf "make" "Heap.make" (defArgs s_Heap_make) (defBody s_Heap_make) (defScope s_Heap_make) (.ref td5) kV5 dc5 pm5 an5 cd5 ct5),sl5⟩)
  (t5:K.lookup td5=some ⟨tc5,to5,.seq #[dv5_0,dv5_1] tn5,ts5⟩)
  (dr5_0:RelV (.int 0) dv5_0)
  (dr5_1:RelV (.int 0) dv5_1)
  (c5:PySem.W.codeIn K cd5 "Heap.make"=true)
  (k5:PySem.W.keepIn K (.ref f_Heap_make)=true)
  (a6:PySem.W.findIn K (.ref Za5) "lay"=some (some (.ref f_Heap_lay)))
  (i6:PySem.W.isFn K (.ref f_Heap_lay)=true)
  (l6:K.lookup f_Heap_lay=some ⟨oc6,od6,.func (PySem.W.fnOf "lay" "Heap.lay" (defArgs s_Heap_lay) (defBody s_Heap_lay) (defScope s_Heap_lay) .none kV6 dc6 pm6 an6 cd6 ct6),sl6⟩)
  (c6:PySem.W.codeIn K cd6 "Heap.lay"=true)
  (k6:PySem.W.keepIn K (.ref f_Heap_lay)=true)
  (a7:PySem.W.findIn K (.ref Za5) "free"=some (some (.ref f_Heap_free)))
  (i7:PySem.W.isFn K (.ref f_Heap_free)=true)
  (l7:K.lookup f_Heap_free=some ⟨oc7,od7,.func (PySem.W.fnOf "free" "Heap.free" (defArgs s_Heap_free) (defBody s_Heap_free) (defScope s_Heap_free) .none kV7 dc7 pm7 an7 cd7 ct7),sl7⟩)
  (c7:PySem.W.codeIn K cd7 "Heap.free"=true)
  (k7:PySem.W.keepIn K (.ref f_Heap_free)=true)
  (a8:PySem.W.findIn K (.ref Za5) "there"=some (some (.ref f_Heap_there)))
  (i8:PySem.W.isFn K (.ref f_Heap_there)=true)
  (l8:K.lookup f_Heap_there=some ⟨oc8,od8,.func (PySem.W.fnOf "there" "Heap.there" (defArgs s_Heap_there) (defBody s_Heap_there) (defScope s_Heap_there) .none kV8 dc8 pm8 an8 cd8 ct8),sl8⟩)
  (c8:PySem.W.codeIn K cd8 "Heap.there"=true)
  (k8:PySem.W.keepIn K (.ref f_Heap_there)=true)
  (a9:PySem.W.nsIn K mainGlobals "cell_at"=some (some (.ref f_cell_at)))
  (l9:K.lookup f_cell_at=some ⟨oc9,od9,.func (PySem.W.fnOf "cell_at" "cell_at" (defArgs s_cell_at) (defBody s_cell_at) (defScope s_cell_at) .none kV9 dc9 pm9 an9 cd9 ct9),sl9⟩)
  (c9:PySem.W.codeIn K cd9 "cell_at"=true)
  (k9:PySem.W.keepIn K (.ref f_cell_at)=true)
  (a10:PySem.W.nsIn K mainGlobals "birth_at"=some (some (.ref f_birth_at)))
  (l10:K.lookup f_birth_at=some ⟨oc10,od10,.func (PySem.W.fnOf "birth_at" "birth_at" (defArgs s_birth_at) (defBody s_birth_at) (defScope s_birth_at) .none kV10 dc10 pm10 an10 cd10 ct10),sl10⟩)
  (c10:PySem.W.codeIn K cd10 "birth_at"=true)
  (k10:PySem.W.keepIn K (.ref f_birth_at)=true)
  (a11:PySem.W.nsIn K mainGlobals "all_of"=some (some (.ref f_all_of)))
  (l11:K.lookup f_all_of=some ⟨oc11,od11,.func (PySem.W.fnOf "all_of" "all_of" (defArgs s_all_of) (defBody s_all_of) (defScope s_all_of) .none kV11 dc11 pm11 an11 cd11 ct11),sl11⟩)
  (c11:PySem.W.codeIn K cd11 "all_of"=true)
  (k11:PySem.W.keepIn K (.ref f_all_of)=true)
  (a12:PySem.W.findIn K (.ref Zad) "at_begin"=some (some (.ref Zac)))
  (i12:PySem.W.isFn K (.ref Zac)=true)
  (l12:K.lookup Zac=some ⟨oc12,od12,.func (PySem.W.fnOf "at_begin" "Looking.at_begin" (defArgs s_Looking_at_begin) (defBody s_Looking_at_begin) (defScope s_Looking_at_begin) .none kV12 dc12 pm12 an12 cd12 ct12),sl12⟩)
  (c12:PySem.W.codeIn K cd12 "Looking.at_begin"=true)
  (k12:PySem.W.keepIn K (.ref Zac)=true)
  (a13:PySem.W.findIn K (.ref Za8) "word"=some (some (.ref f_First_word)))
  (i13:PySem.W.isFn K (.ref f_First_word)=true)
  (l13:K.lookup f_First_word=some ⟨oc13,od13,.func (PySem.W.fnOf "word" "First.word" (defArgs s_First_word) (defBody s_First_word) (defScope s_First_word) .none kV13 dc13 pm13 an13 cd13 ct13),sl13⟩)
  (c13:PySem.W.codeIn K cd13 "First.word"=true)
  (k13:PySem.W.keepIn K (.ref f_First_word)=true)
  (a14:PySem.W.findIn K (.ref Za8) "at_begin"=some (some (.ref Zam)))
  (i14:PySem.W.isFn K (.ref Zam)=true)
  (l14:K.lookup Zam=some ⟨oc14,od14,.func (PySem.W.fnOf "at_begin" "First.at_begin" (defArgs s_First_at_begin) (defBody s_First_at_begin) (defScope s_First_at_begin) .none kV14 dc14 pm14 an14 cd14 ct14),sl14⟩)
  (c14:PySem.W.codeIn K cd14 "First.at_begin"=true)
  (k14:PySem.W.keepIn K (.ref Zam)=true)
  (a15:PySem.W.findIn K (.ref Zad) "word"=some (some (.ref f_Each_word)))
  (i15:PySem.W.isFn K (.ref f_Each_word)=true)
  (l15:K.lookup f_Each_word=some ⟨oc15,od15,.func (PySem.W.fnOf "word" "Each.word" (defArgs s_Each_word) (defBody s_Each_word) (defScope s_Each_word) .none kV15 dc15 pm15 an15 cd15 ct15),sl15⟩)
  (c15:PySem.W.codeIn K cd15 "Each.word"=true)
  (k15:PySem.W.keepIn K (.ref f_Each_word)=true)
  (a16:PySem.W.findIn K (.ref Zaf) "word"=some (some (.ref f_Last_word)))
  (i16:PySem.W.isFn K (.ref f_Last_word)=true)
  (l16:K.lookup f_Last_word=some ⟨oc16,od16,.func (PySem.W.fnOf "word" "Last.word" (defArgs s_Last_word) (defBody s_Last_word) (defScope s_Last_word) .none kV16 dc16 pm16 an16 cd16 ct16),sl16⟩)
  (c16:PySem.W.codeIn K cd16 "Last.word"=true)
  (k16:PySem.W.keepIn K (.ref f_Last_word)=true)
  (a17:PySem.W.findIn K (.ref Zag) "__init__"=some (some (.ref Zap)))
  (i17:PySem.W.isFn K (.ref Zap)=true)
  (l17:K.lookup Zap=some ⟨oc17,od17,.func (PySem.W.fnOf "__init__" "Kind.__init__" (defArgs s_Kind___init__) (defBody s_Kind___init__) (defScope s_Kind___init__) .none kV17 dc17 pm17 an17 cd17 ct17),sl17⟩)
  (c17:PySem.W.codeIn K cd17 "Kind.__init__"=true)
  (k17:PySem.W.keepIn K (.ref Zap)=true)
  (a18:PySem.W.findIn K (.ref Zag) "words"=some (some (.ref f_Kind_words)))
  (i18:PySem.W.isFn K (.ref f_Kind_words)=true)
  (l18:K.lookup f_Kind_words=some ⟨oc18,od18,.func (PySem.W.fnOf "words" "Kind.words" (defArgs s_Kind_words) (defBody s_Kind_words) (defScope s_Kind_words) .none kV18 dc18 pm18 an18 cd18 ct18),sl18⟩)
  (c18:PySem.W.codeIn K cd18 "Kind.words"=true)
  (k18:PySem.W.keepIn K (.ref f_Kind_words)=true)
  (a19:PySem.W.nsIn K mainGlobals "kind_of"=some (some (.ref f_kind_of)))
  (l19:K.lookup f_kind_of=some ⟨oc19,od19,.func (PySem.W.fnOf "kind_of" "kind_of" (defArgs s_kind_of) (defBody s_kind_of) (defScope s_kind_of) .none kV19 dc19 pm19 an19 cd19 ct19),sl19⟩)
  (c19:PySem.W.codeIn K cd19 "kind_of"=true)
  (k19:PySem.W.keepIn K (.ref f_kind_of)=true)
  (a20:PySem.W.findIn K (.ref Zah) "__init__"=some (some (.ref Zar)))
  (i20:PySem.W.isFn K (.ref Zar)=true)
  (l20:K.lookup Zar=some ⟨oc20,od20,.func (PySem.W.fnOf "__init__" "Hand.__init__" (defArgs s_Hand___init__) (defBody s_Hand___init__) (defScope s_Hand___init__) .none kV20 dc20 pm20 an20 cd20 ct20),sl20⟩)
  (c20:PySem.W.codeIn K cd20 "Hand.__init__"=true)
  (k20:PySem.W.keepIn K (.ref Zar)=true)
  (a21:PySem.W.findIn K (.ref Za1) "__init__"=some (some (.ref Zak)))
  (i21:PySem.W.isFn K (.ref Zak)=true)
  (l21:K.lookup Zak=some ⟨oc21,od21,.func (PySem.W.fnOf "__init__" "Sweeper.__init__" (defArgs s_Sweeper___init__) (defBody s_Sweeper___init__) (defScope s_Sweeper___init__) .none kV21 dc21 pm21 an21 cd21 ct21),sl21⟩)
  (c21:PySem.W.codeIn K cd21 "Sweeper.__init__"=true)
  (k21:PySem.W.keepIn K (.ref Zak)=true)
  (a22:PySem.W.findIn K (.ref Za7) "__init__"=some (some (.ref Zal)))
  (i22:PySem.W.isFn K (.ref Zal)=true)
  (l22:K.lookup Zal=some ⟨oc22,od22,.func (PySem.W.fnOf "__init__" "World.__init__" (defArgs s_World___init__) (defBody s_World___init__) (defScope s_World___init__) .none kV22 dc22 pm22 an22 cd22 ct22),sl22⟩)
  (c22:PySem.W.codeIn K cd22 "World.__init__"=true)
  (k22:PySem.W.keepIn K (.ref Zal)=true)
  (a23:PySem.W.nsIn K mainGlobals "births_held"=some (some (.ref f_births_held)))
  (l23:K.lookup f_births_held=some ⟨oc23,od23,.func (PySem.W.fnOf "births_held" "births_held" (defArgs s_births_held) (defBody s_births_held) (defScope s_births_held) .none kV23 dc23 pm23 an23 cd23 ct23),sl23⟩)
  (c23:PySem.W.codeIn K cd23 "births_held"=true)
  (k23:PySem.W.keepIn K (.ref f_births_held)=true)
  (a24:PySem.W.nsIn K mainGlobals "births_at"=some (some (.ref f_births_at)))
  (l24:K.lookup f_births_at=some ⟨oc24,od24,.func (PySem.W.fnOf "births_at" "births_at" (defArgs s_births_at) (defBody s_births_at) (defScope s_births_at) .none kV24 dc24 pm24 an24 cd24 ct24),sl24⟩)
  (c24:PySem.W.codeIn K cd24 "births_at"=true)
  (k24:PySem.W.keepIn K (.ref f_births_at)=true)
  (a25:PySem.W.nsIn K mainGlobals "looked_at"=some (some (.ref f_looked_at)))
  (l25:K.lookup f_looked_at=some ⟨oc25,od25,.func (PySem.W.fnOf "looked_at" "looked_at" (defArgs s_looked_at) (defBody s_looked_at) (defScope s_looked_at) .none kV25 dc25 pm25 an25 cd25 ct25),sl25⟩)
  (c25:PySem.W.codeIn K cd25 "looked_at"=true)
  (k25:PySem.W.keepIn K (.ref f_looked_at)=true)
  (a26:PySem.W.nsIn K mainGlobals "has_sense"=some (some (.ref f_has_sense)))
  (l26:K.lookup f_has_sense=some ⟨oc26,od26,.func (PySem.W.fnOf "has_sense" "has_sense" (defArgs s_has_sense) (defBody s_has_sense) (defScope s_has_sense) .none kV26 dc26 pm26 an26 cd26 ct26),sl26⟩)
  (c26:PySem.W.codeIn K cd26 "has_sense"=true)
  (k26:PySem.W.keepIn K (.ref f_has_sense)=true)
  (a27:PySem.W.nsIn K mainGlobals "mark_of"=some (some (.ref f_mark_of)))
  (l27:K.lookup f_mark_of=some ⟨oc27,od27,.func (PySem.W.fnOf "mark_of" "mark_of" (defArgs s_mark_of) (defBody s_mark_of) (defScope s_mark_of) .none kV27 dc27 pm27 an27 cd27 ct27),sl27⟩)
  (c27:PySem.W.codeIn K cd27 "mark_of"=true)
  (k27:PySem.W.keepIn K (.ref f_mark_of)=true)
  (a28:PySem.W.nsIn K mainGlobals "told_cells"=some (some (.ref f_told_cells)))
  (l28:K.lookup f_told_cells=some ⟨oc28,od28,.func (PySem.W.fnOf "told_cells" "told_cells" (defArgs s_told_cells) (defBody s_told_cells) (defScope s_told_cells) .none kV28 dc28 pm28 an28 cd28 ct28),sl28⟩)
  (c28:PySem.W.codeIn K cd28 "told_cells"=true)
  (k28:PySem.W.keepIn K (.ref f_told_cells)=true)
  (a29:PySem.W.nsIn K mainGlobals "told_cell"=some (some (.ref f_told_cell)))
  (l29:K.lookup f_told_cell=some ⟨oc29,od29,.func (PySem.W.fnOf "told_cell" "told_cell" (defArgs s_told_cell) (defBody s_told_cell) (defScope s_told_cell) .none kV29 dc29 pm29 an29 cd29 ct29),sl29⟩)
  (c29:PySem.W.codeIn K cd29 "told_cell"=true)
  (k29:PySem.W.keepIn K (.ref f_told_cell)=true)
  (a30:PySem.W.nsIn K mainGlobals "begin"=some (some (.ref f_begin)))
  (l30:K.lookup f_begin=some ⟨oc30,od30,.func (PySem.W.fnOf "begin" "begin" (defArgs s_begin) (defBody s_begin) (defScope s_begin) .none kV30 dc30 pm30 an30 cd30 ct30),sl30⟩)
  (c30:PySem.W.codeIn K cd30 "begin"=true)
  (k30:PySem.W.keepIn K (.ref f_begin)=true)
  (a31:PySem.W.nsIn K mainGlobals "note"=some (some (.ref f_note)))
  (l31:K.lookup f_note=some ⟨oc31,od31,.func (PySem.W.fnOf "note" "note" (defArgs s_note) (defBody s_note) (defScope s_note) .none kV31 dc31 pm31 an31 cd31 ct31),sl31⟩)
  (c31:PySem.W.codeIn K cd31 "note"=true)
  (k31:PySem.W.keepIn K (.ref f_note)=true)
  (a32:PySem.W.nsIn K mainGlobals "note_all"=some (some (.ref f_note_all)))
  (l32:K.lookup f_note_all=some ⟨oc32,od32,.func (PySem.W.fnOf "note_all" "note_all" (defArgs s_note_all) (defBody s_note_all) (defScope s_note_all) .none kV32 dc32 pm32 an32 cd32 ct32),sl32⟩)
  (c32:PySem.W.codeIn K cd32 "note_all"=true)
  (k32:PySem.W.keepIn K (.ref f_note_all)=true)
  (a33:PySem.W.nsIn K mainGlobals "gone"=some (some (.ref f_gone)))
  (l33:K.lookup f_gone=some ⟨oc33,od33,.func (PySem.W.fnOf "gone" "gone" (defArgs s_gone) (defBody s_gone) (defScope s_gone) .none kV33 dc33 pm33 an33 cd33 ct33),sl33⟩)
  (c33:PySem.W.codeIn K cd33 "gone"=true)
  (k33:PySem.W.keepIn K (.ref f_gone)=true)
  (a34:PySem.W.nsIn K mainGlobals "slots_of"=some (some (.ref f_slots_of)))
  (l34:K.lookup f_slots_of=some ⟨oc34,od34,.func (PySem.W.fnOf "slots_of" "slots_of" (defArgs s_slots_of) (defBody s_slots_of) (defScope s_slots_of) .none kV34 dc34 pm34 an34 cd34 ct34),sl34⟩)
  (c34:PySem.W.codeIn K cd34 "slots_of"=true)
  (k34:PySem.W.keepIn K (.ref f_slots_of)=true)
  (a35:PySem.W.nsIn K mainGlobals "cell_in"=some (some (.ref f_cell_in)))
  (l35:K.lookup f_cell_in=some ⟨oc35,od35,.func (PySem.W.fnOf "cell_in" "cell_in" (defArgs s_cell_in) (defBody s_cell_in) (defScope s_cell_in) .none kV35 dc35 pm35 an35 cd35 ct35),sl35⟩)
  (c35:PySem.W.codeIn K cd35 "cell_in"=true)
  (k35:PySem.W.keepIn K (.ref f_cell_in)=true)
  (a36:PySem.W.nsIn K mainGlobals "fields_in"=some (some (.ref f_fields_in)))
  (l36:K.lookup f_fields_in=some ⟨oc36,od36,.func (PySem.W.fnOf "fields_in" "fields_in" (defArgs s_fields_in) (defBody s_fields_in) (defScope s_fields_in) .none kV36 dc36 pm36 an36 cd36 ct36),sl36⟩)
  (c36:PySem.W.codeIn K cd36 "fields_in"=true)
  (k36:PySem.W.keepIn K (.ref f_fields_in)=true)
  (a37:PySem.W.nsIn K mainGlobals "told_as_old"=some (some (.ref f_told_as_old)))
  (l37:K.lookup f_told_as_old=some ⟨oc37,od37,.func (PySem.W.fnOf "told_as_old" "told_as_old" (defArgs s_told_as_old) (defBody s_told_as_old) (defScope s_told_as_old) .none kV37 dc37 pm37 an37 cd37 ct37),sl37⟩)
  (c37:PySem.W.codeIn K cd37 "told_as_old"=true)
  (k37:PySem.W.keepIn K (.ref f_told_as_old)=true)
  (a38:PySem.W.nsIn K mainGlobals "told_as_new"=some (some (.ref f_told_as_new)))
  (l38:K.lookup f_told_as_new=some ⟨oc38,od38,.func (PySem.W.fnOf "told_as_new" "told_as_new" (defArgs s_told_as_new) (defBody s_told_as_new) (defScope s_told_as_new) .none kV38 dc38 pm38 an38 cd38 ct38),sl38⟩)
  (c38:PySem.W.codeIn K cd38 "told_as_new"=true)
  (k38:PySem.W.keepIn K (.ref f_told_as_new)=true)
  (a39:PySem.W.nsIn K mainGlobals "do_make"=some (some (.ref f_do_make)))
  (l39:K.lookup f_do_make=some ⟨oc39,od39,.func (PySem.W.fnOf "do_make" "do_make" (defArgs s_do_make) (defBody s_do_make) (defScope s_do_make) .none kV39 dc39 pm39 an39 cd39 ct39),sl39⟩)
  (c39:PySem.W.codeIn K cd39 "do_make"=true)
  (k39:PySem.W.keepIn K (.ref f_do_make)=true)
  (a40:PySem.W.nsIn K mainGlobals "do_get"=some (some (.ref f_do_get)))
  (l40:K.lookup f_do_get=some ⟨oc40,od40,.func (PySem.W.fnOf "do_get" "do_get" (defArgs s_do_get) (defBody s_do_get) (defScope s_do_get) .none kV40 dc40 pm40 an40 cd40 ct40),sl40⟩)
  (c40:PySem.W.codeIn K cd40 "do_get"=true)
  (k40:PySem.W.keepIn K (.ref f_do_get)=true)
  (a41:PySem.W.nsIn K mainGlobals "do_put"=some (some (.ref f_do_put)))
  (l41:K.lookup f_do_put=some ⟨oc41,od41,.func (PySem.W.fnOf "do_put" "do_put" (defArgs s_do_put) (defBody s_do_put) (defScope s_do_put) .none kV41 dc41 pm41 an41 cd41 ct41),sl41⟩)
  (c41:PySem.W.codeIn K cd41 "do_put"=true)
  (k41:PySem.W.keepIn K (.ref f_do_put)=true)
  (a42:PySem.W.nsIn K mainGlobals "do_write"=some (some (.ref f_do_write)))
  (l42:K.lookup f_do_write=some ⟨oc42,od42,.func (PySem.W.fnOf "do_write" "do_write" (defArgs s_do_write) (defBody s_do_write) (defScope s_do_write) .none kV42 dc42 pm42 an42 cd42 ct42),sl42⟩)
  (c42:PySem.W.codeIn K cd42 "do_write"=true)
  (k42:PySem.W.keepIn K (.ref f_do_write)=true)
  (a43:PySem.W.nsIn K mainGlobals "do_read"=some (some (.ref f_do_read)))
  (l43:K.lookup f_do_read=some ⟨oc43,od43,.func (PySem.W.fnOf "do_read" "do_read" (defArgs s_do_read) (defBody s_do_read) (defScope s_do_read) .none kV43 dc43 pm43 an43 cd43 ct43),sl43⟩)
  (c43:PySem.W.codeIn K cd43 "do_read"=true)
  (k43:PySem.W.keepIn K (.ref f_do_read)=true)
  (a44:PySem.W.nsIn K mainGlobals "do_name"=some (some (.ref f_do_name)))
  (l44:K.lookup f_do_name=some ⟨oc44,od44,.func (PySem.W.fnOf "do_name" "do_name" (defArgs s_do_name) (defBody s_do_name) (defScope s_do_name) .none kV44 dc44 pm44 an44 cd44 ct44),sl44⟩)
  (c44:PySem.W.codeIn K cd44 "do_name"=true)
  (k44:PySem.W.keepIn K (.ref f_do_name)=true)
  (a45:PySem.W.nsIn K mainGlobals "do_seek"=some (some (.ref f_do_seek)))
  (l45:K.lookup f_do_seek=some ⟨oc45,od45,.func (PySem.W.fnOf "do_seek" "do_seek" (defArgs s_do_seek) (defBody s_do_seek) (defScope s_do_seek) .none kV45 dc45 pm45 an45 cd45 ct45),sl45⟩)
  (c45:PySem.W.codeIn K cd45 "do_seek"=true)
  (k45:PySem.W.keepIn K (.ref f_do_seek)=true)
  (a46:PySem.W.nsIn K mainGlobals "place_named"=some (some (.ref f_place_named)))
  (l46:K.lookup f_place_named=some ⟨oc46,od46,.func (PySem.W.fnOf "place_named" "place_named" (defArgs s_place_named) (defBody s_place_named) (defScope s_place_named) .none kV46 dc46 pm46 an46 cd46 ct46),sl46⟩)
  (c46:PySem.W.codeIn K cd46 "place_named"=true)
  (k46:PySem.W.keepIn K (.ref f_place_named)=true)
  (a47:PySem.W.nsIn K mainGlobals "do"=some (some (.ref f_do)))
  (l47:K.lookup f_do=some ⟨oc47,od47,.func (PySem.W.fnOf "do" "do" (defArgs s_do) (defBody s_do) (defScope s_do) .none kV47 dc47 pm47 an47 cd47 ct47),sl47⟩)
  (c47:PySem.W.codeIn K cd47 "do"=true)
  (k47:PySem.W.keepIn K (.ref f_do)=true)
  (a48:PySem.W.nsIn K mainGlobals "_law_mix"=some (some (.ref f__law_mix)))
  (l48:K.lookup f__law_mix=some ⟨oc48,od48,.func (PySem.W.fnOf "_law_mix" "_law_mix" (defArgs s__law_mix) (defBody s__law_mix) (defScope s__law_mix) .none kV48 dc48 pm48 an48 cd48 ct48),sl48⟩)
  (c48:PySem.W.codeIn K cd48 "_law_mix"=true)
  (k48:PySem.W.keepIn K (.ref f__law_mix)=true)
  (a49:PySem.W.nsIn K mainGlobals "_law_kind"=some (some (.ref f__law_kind)))
  (l49:K.lookup f__law_kind=some ⟨oc49,od49,.func (PySem.W.fnOf "_law_kind" "_law_kind" (defArgs s__law_kind) (defBody s__law_kind) (defScope s__law_kind) .none kV49 dc49 pm49 an49 cd49 ct49),sl49⟩)
  (c49:PySem.W.codeIn K cd49 "_law_kind"=true)
  (k49:PySem.W.keepIn K (.ref f__law_kind)=true)
  (a50:PySem.W.nsIn K mainGlobals "_law_same"=some (some (.ref f__law_same)))
  (l50:K.lookup f__law_same=some ⟨oc50,od50,.func (PySem.W.fnOf "_law_same" "_law_same" (defArgs s__law_same) (defBody s__law_same) (defScope s__law_same) .none kV50 dc50 pm50 an50 cd50 ct50),sl50⟩)
  (c50:PySem.W.codeIn K cd50 "_law_same"=true)
  (k50:PySem.W.keepIn K (.ref f__law_same)=true)
  (a51:PySem.W.nsIn K mainGlobals "_law_word"=some (some (.ref f__law_word)))
  (l51:K.lookup f__law_word=some ⟨oc51,od51,.func (PySem.W.fnOf "_law_word" "_law_word" (defArgs s__law_word) (defBody s__law_word) (defScope s__law_word) .none kV51 dc51 pm51 an51 cd51 ct51),sl51⟩)
  (c51:PySem.W.codeIn K cd51 "_law_word"=true)
  (k51:PySem.W.keepIn K (.ref f__law_word)=true)
  (a52:PySem.W.nsIn K mainGlobals "_law_refused"=some (some (.ref f__law_refused)))
  (l52:K.lookup f__law_refused=some ⟨oc52,od52,.func (PySem.W.fnOf "_law_refused" "_law_refused" (defArgs s__law_refused) (defBody s__law_refused) (defScope s__law_refused) .none kV52 dc52 pm52 an52 cd52 ct52),sl52⟩)
  (c52:PySem.W.codeIn K cd52 "_law_refused"=true)
  (k52:PySem.W.keepIn K (.ref f__law_refused)=true)
  (a53:PySem.W.nsIn K mainGlobals "_law_stands"=some (some (.ref f__law_stands)))
  (l53:K.lookup f__law_stands=some ⟨oc53,od53,.func (PySem.W.fnOf "_law_stands" "_law_stands" (defArgs s__law_stands) (defBody s__law_stands) (defScope s__law_stands) .none kV53 dc53 pm53 an53 cd53 ct53),sl53⟩)
  (c53:PySem.W.codeIn K cd53 "_law_stands"=true)
  (k53:PySem.W.keepIn K (.ref f__law_stands)=true)
  (a54:PySem.W.nsIn K mainGlobals "_law_draw"=some (some (.ref f__law_draw)))
  (l54:K.lookup f__law_draw=some ⟨oc54,od54,.func (PySem.W.fnOf "_law_draw" "_law_draw" (defArgs s__law_draw) (defBody s__law_draw) (defScope s__law_draw) .none kV54 dc54 pm54 an54 cd54 ct54),sl54⟩)
  (c54:PySem.W.codeIn K cd54 "_law_draw"=true)
  (k54:PySem.W.keepIn K (.ref f__law_draw)=true)
  (a55:PySem.W.nsIn K mainGlobals "_law_world"=some (some (.ref f__law_world)))
  (l55:K.lookup f__law_world=some ⟨oc55,od55,.func (PySem.W.fnOf "_law_world" "_law_world" (defArgs s__law_world) (defBody s__law_world) (defScope s__law_world) .none kV55 dc55 pm55 an55 cd55 ct55),sl55⟩)
  (c55:PySem.W.codeIn K cd55 "_law_world"=true)
  (k55:PySem.W.keepIn K (.ref f__law_world)=true)
  (a56:PySem.W.nsIn K mainGlobals "_law_deed"=some (some (.ref f__law_deed)))
  (l56:K.lookup f__law_deed=some ⟨oc56,od56,.func (PySem.W.fnOf "_law_deed" "_law_deed" (defArgs s__law_deed) (defBody s__law_deed) (defScope s__law_deed) .none kV56 dc56 pm56 an56 cd56 ct56),sl56⟩)
  (c56:PySem.W.codeIn K cd56 "_law_deed"=true)
  (k56:PySem.W.keepIn K (.ref f__law_deed)=true)
  (a57:PySem.W.nsIn K mainGlobals "_law_good"=some (some (.ref f__law_good)))
  (l57:K.lookup f__law_good=some ⟨oc57,od57,.func (PySem.W.fnOf "_law_good" "_law_good" (defArgs s__law_good) (defBody s__law_good) (defScope s__law_good) .none kV57 dc57 pm57 an57 cd57 ct57),sl57⟩)
  (c57:PySem.W.codeIn K cd57 "_law_good"=true)
  (k57:PySem.W.keepIn K (.ref f__law_good)=true)
  (a58:PySem.W.nsIn K mainGlobals "law"=some (some (.ref fl)))
  (l58:K.lookup fl=some ⟨oc58,od58,.func (PySem.W.fnOf "law" "law" (defArgs s_law) (defBody s_law) (defScope s_law) .none kV58 dc58 pm58 an58 cd58 ct58),sl58⟩)
  (c58:PySem.W.codeIn K cd58 "law"=true)
  (k58:PySem.W.keepIn K (.ref fl)=true)
  (ax_do_copy:PySem.W.nsIn K mainGlobals "do_copy"=some (some (.ref f_do_copy)))
  (ax_do_drop:PySem.W.nsIn K mainGlobals "do_drop"=some (some (.ref f_do_drop)))
  (ax_do_give:PySem.W.nsIn K mainGlobals "do_give"=some (some (.ref f_do_give)))
  (nd_DEEDS:PySem.W.nsIn K mainGlobals "DEEDS"=some (some (.ref dd_DEEDS)))
  (lk_DEEDS:K.lookup dd_DEEDS=some ⟨.type "dict",none,.dict #[⟨hh_DEEDS0,.str "make" tk_DEEDS0,.ref f_do_make⟩,⟨hh_DEEDS1,.str "get" tk_DEEDS1,.ref f_do_get⟩,⟨hh_DEEDS2,.str "put" tk_DEEDS2,.ref f_do_put⟩,⟨hh_DEEDS3,.str "copy" tk_DEEDS3,.ref f_do_copy⟩,⟨hh_DEEDS4,.str "drop" tk_DEEDS4,.ref f_do_drop⟩,⟨hh_DEEDS5,.str "give" tk_DEEDS5,.ref f_do_give⟩,⟨hh_DEEDS6,.str "write" tk_DEEDS6,.ref f_do_write⟩,⟨hh_DEEDS7,.str "read" tk_DEEDS7,.ref f_do_read⟩,⟨hh_DEEDS8,.str "name" tk_DEEDS8,.ref f_do_name⟩,⟨hh_DEEDS9,.str "seek" tk_DEEDS9,.ref f_do_seek⟩] ep_DEEDS,#[]⟩)
  (hx_DEEDS0:hh_DEEDS0=hashStr w "make")
  (hx_DEEDS1:hh_DEEDS1=hashStr w "get")
  (hx_DEEDS2:hh_DEEDS2=hashStr w "put")
  (hx_DEEDS3:hh_DEEDS3=hashStr w "copy")
  (hx_DEEDS4:hh_DEEDS4=hashStr w "drop")
  (hx_DEEDS5:hh_DEEDS5=hashStr w "give")
  (hx_DEEDS6:hh_DEEDS6=hashStr w "write")
  (hx_DEEDS7:hh_DEEDS7=hashStr w "read")
  (hx_DEEDS8:hh_DEEDS8=hashStr w "name")
  (hx_DEEDS9:hh_DEEDS9=hashStr w "seek")
  (pg_Cell:PySem.W.plainGet K Za6 Str.empty=true)
  (hd_Cell:PySem.W.hasDictIn K Za6=true)
  (po_Cell:PySem.W.plainOver K Za6=true)
  (sa_Cell:PySem.W.findIn K (.ref Za6) "__setattr__"=some (some (.builtin "object.__setattr__")))
  (mk_Cell:PySem.W.makesIn K Za6=true)
  (kc_Cell:PySem.W.keepIn K (.ref Za6)=true)
  (n_Cell_birth:PySem.W.findIn K (.ref Za6) "birth"=some none)
  (n_Cell_bulk:PySem.W.findIn K (.ref Za6) "bulk"=some none)
  (n_Cell_tone:PySem.W.findIn K (.ref Za6) "tone"=some none)
  (n_Cell_load:PySem.W.findIn K (.ref Za6) "load"=some none)
  (n_Cell_fields:PySem.W.findIn K (.ref Za6) "fields"=some none)
  (eq1_Cell:PySem.W.findIn K (.ref Za6) "__eq__"=some (some (.builtin "object.__eq__")))
  (eq2_Cell:PySem.W.mroIn K Za6 (.type "object")=some true)
  (pg_Heap:PySem.W.plainGet K Za5 Str.empty=true)
  (hd_Heap:PySem.W.hasDictIn K Za5=true)
  (po_Heap:PySem.W.plainOver K Za5=true)
  (sa_Heap:PySem.W.findIn K (.ref Za5) "__setattr__"=some (some (.builtin "object.__setattr__")))
  (mk_Heap:PySem.W.makesIn K Za5=true)
  (kc_Heap:PySem.W.keepIn K (.ref Za5)=true)
  (n_Heap_room:PySem.W.findIn K (.ref Za5) "room"=some none)
  (Zao:PySem.W.findIn K (.ref Za5) "cells"=some none)
  (n_Heap_used:PySem.W.findIn K (.ref Za5) "used"=some none)
  (n_Heap_born:PySem.W.findIn K (.ref Za5) "born"=some none)
  (pg_First:PySem.W.plainGet K Za8 Str.empty=true)
  (hd_First:PySem.W.hasDictIn K Za8=true)
  (po_First:PySem.W.plainOver K Za8=true)
  (sa_First:PySem.W.findIn K (.ref Za8) "__setattr__"=some (some (.builtin "object.__setattr__")))
  (mk_First:PySem.W.makesIn K Za8=true)
  (kc_First:PySem.W.keepIn K (.ref Za8)=true)
  (oi_First:PySem.W.findIn K (.ref Za8) "__init__"=some (some (.builtin "object.__init__")))
  (pg_Each:PySem.W.plainGet K Zad Str.empty=true)
  (hd_Each:PySem.W.hasDictIn K Zad=true)
  (po_Each:PySem.W.plainOver K Zad=true)
  (sa_Each:PySem.W.findIn K (.ref Zad) "__setattr__"=some (some (.builtin "object.__setattr__")))
  (mk_Each:PySem.W.makesIn K Zad=true)
  (kc_Each:PySem.W.keepIn K (.ref Zad)=true)
  (oi_Each:PySem.W.findIn K (.ref Zad) "__init__"=some (some (.builtin "object.__init__")))
  (pg_Last:PySem.W.plainGet K Zaf Str.empty=true)
  (hd_Last:PySem.W.hasDictIn K Zaf=true)
  (po_Last:PySem.W.plainOver K Zaf=true)
  (sa_Last:PySem.W.findIn K (.ref Zaf) "__setattr__"=some (some (.builtin "object.__setattr__")))
  (mk_Last:PySem.W.makesIn K Zaf=true)
  (kc_Last:PySem.W.keepIn K (.ref Zaf)=true)
  (oi_Last:PySem.W.findIn K (.ref Zaf) "__init__"=some (some (.builtin "object.__init__")))
  (pg_Kind:PySem.W.plainGet K Zag Str.empty=true)
  (hd_Kind:PySem.W.hasDictIn K Zag=true)
  (po_Kind:PySem.W.plainOver K Zag=true)
  (sa_Kind:PySem.W.findIn K (.ref Zag) "__setattr__"=some (some (.builtin "object.__setattr__")))
  (mk_Kind:PySem.W.makesIn K Zag=true)
  (kc_Kind:PySem.W.keepIn K (.ref Zag)=true)
  (n_Kind_looking:PySem.W.findIn K (.ref Zag) "looking"=some none)
  (n_Kind_tells:PySem.W.findIn K (.ref Zag) "tells"=some none)
  (pg_Hand:PySem.W.plainGet K Zah Str.empty=true)
  (hd_Hand:PySem.W.hasDictIn K Zah=true)
  (po_Hand:PySem.W.plainOver K Zah=true)
  (sa_Hand:PySem.W.findIn K (.ref Zah) "__setattr__"=some (some (.builtin "object.__setattr__")))
  (mk_Hand:PySem.W.makesIn K Zah=true)
  (kc_Hand:PySem.W.keepIn K (.ref Zah)=true)
  (n_Hand_name:PySem.W.findIn K (.ref Zah) "name"=some none)
  (n_Hand_slots:PySem.W.findIn K (.ref Zah) "slots"=some none)
  (pg_Sweeper:PySem.W.plainGet K Za1 Str.empty=true)
  (hd_Sweeper:PySem.W.hasDictIn K Za1=true)
  (po_Sweeper:PySem.W.plainOver K Za1=true)
  (sa_Sweeper:PySem.W.findIn K (.ref Za1) "__setattr__"=some (some (.builtin "object.__setattr__")))
  (mk_Sweeper:PySem.W.makesIn K Za1=true)
  (kc_Sweeper:PySem.W.keepIn K (.ref Za1)=true)
  (n_Sweeper_sense:PySem.W.findIn K (.ref Za1) "sense"=some none)
  (n_Sweeper_phase:PySem.W.findIn K (.ref Za1) "phase"=some none)
  (n_Sweeper_grey:PySem.W.findIn K (.ref Za1) "grey"=some none)
  (n_Sweeper_looked:PySem.W.findIn K (.ref Za1) "looked"=some none)
  (n_Sweeper_turn:PySem.W.findIn K (.ref Za1) "turn"=some none)
  (n_Sweeper_at:PySem.W.findIn K (.ref Za1) "at"=some none)
  (n_Sweeper_stop:PySem.W.findIn K (.ref Za1) "stop"=some none)
  (n_Sweeper_walks:PySem.W.findIn K (.ref Za1) "walks"=some none)
  (n_Sweeper_looks:PySem.W.findIn K (.ref Za1) "looks"=some none)
  (n_Sweeper_passes:PySem.W.findIn K (.ref Za1) "passes"=some none)
  (n_Sweeper_loss:PySem.W.findIn K (.ref Za1) "loss"=some none)
  (pg_World:PySem.W.plainGet K Za7 Str.empty=true)
  (hd_World:PySem.W.hasDictIn K Za7=true)
  (po_World:PySem.W.plainOver K Za7=true)
  (sa_World:PySem.W.findIn K (.ref Za7) "__setattr__"=some (some (.builtin "object.__setattr__")))
  (mk_World:PySem.W.makesIn K Za7=true)
  (kc_World:PySem.W.keepIn K (.ref Za7)=true)
  (n_World_heap:PySem.W.findIn K (.ref Za7) "heap"=some none)
  (n_World_kind:PySem.W.findIn K (.ref Za7) "kind"=some none)
  (n_World_hands:PySem.W.findIn K (.ref Za7) "hands"=some none)
  (n_World_names:PySem.W.findIn K (.ref Za7) "names"=some none)
  (n_World_sweeper:PySem.W.findIn K (.ref Za7) "sweeper"=some none)
  (x_EmptySlot:PySem.W.excIn K Za0 [.type "ValueError",.type "Exception",.type "BaseException",.type "object"] "ValueError.__new__"=true)
  (x_Full:PySem.W.excIn K Zae [.type "ValueError",.type "Exception",.type "BaseException",.type "object"] "ValueError.__new__"=true)
  (x_NoField:PySem.W.excIn K Za3 [.type "ValueError",.type "Exception",.type "BaseException",.type "object"] "ValueError.__new__"=true)
  (x_NoName:PySem.W.excIn K Za4 [.type "ValueError",.type "Exception",.type "BaseException",.type "object"] "ValueError.__new__"=true)
  (e_EmptySlot_GreyError:PySem.W.exmOne K (.ref Za0) (.ref C_GreyError)=some true)
  (e_NoField_GreyError:PySem.W.exmOne K (.ref Za3) (.ref C_GreyError)=some true)
  (e_Full_GreyError:PySem.W.exmOne K (.ref Zae) (.ref C_GreyError)=some true)
  (e_NoName_GreyError:PySem.W.exmOne K (.ref Za4) (.ref C_GreyError)=some true)
  (yga_EmptySlot:PySem.W.findIn K (.ref Za0) "__getattribute__"=some (some (.builtin "BaseException.__getattribute__")))
  (yno_EmptySlot:PySem.W.findIn K (.ref Za0) "__getattr__"=some none)
  (ycl_EmptySlot:PySem.W.findIn K (.ref Za0) "__class__"=some (some (.builtin "object.__class__")))
  (yso_EmptySlot:PySem.W.mroIn K Za0 (.type "object")=some true)
  (ysb_EmptySlot:PySem.W.mroIn K Za0 (.type "BaseException")=some true)
  (yis_EmptySlot:PySem.W.hasDictIn K Za0=true)
  (yga_Full:PySem.W.findIn K (.ref Zae) "__getattribute__"=some (some (.builtin "BaseException.__getattribute__")))
  (yno_Full:PySem.W.findIn K (.ref Zae) "__getattr__"=some none)
  (ycl_Full:PySem.W.findIn K (.ref Zae) "__class__"=some (some (.builtin "object.__class__")))
  (yso_Full:PySem.W.mroIn K Zae (.type "object")=some true)
  (ysb_Full:PySem.W.mroIn K Zae (.type "BaseException")=some true)
  (yis_Full:PySem.W.hasDictIn K Zae=true)
  (yga_NoField:PySem.W.findIn K (.ref Za3) "__getattribute__"=some (some (.builtin "BaseException.__getattribute__")))
  (yno_NoField:PySem.W.findIn K (.ref Za3) "__getattr__"=some none)
  (ycl_NoField:PySem.W.findIn K (.ref Za3) "__class__"=some (some (.builtin "object.__class__")))
  (yso_NoField:PySem.W.mroIn K Za3 (.type "object")=some true)
  (ysb_NoField:PySem.W.mroIn K Za3 (.type "BaseException")=some true)
  (yis_NoField:PySem.W.hasDictIn K Za3=true)
  (yga_NoName:PySem.W.findIn K (.ref Za4) "__getattribute__"=some (some (.builtin "BaseException.__getattribute__")))
  (yno_NoName:PySem.W.findIn K (.ref Za4) "__getattr__"=some none)
  (ycl_NoName:PySem.W.findIn K (.ref Za4) "__class__"=some (some (.builtin "object.__class__")))
  (yso_NoName:PySem.W.mroIn K Za4 (.type "object")=some true)
  (ysb_NoName:PySem.W.mroIn K Za4 (.type "BaseException")=some true)
  (yis_NoName:PySem.W.hasDictIn K Za4=true)
  (ih_Each_at_begin:PySem.W.findIn K (.ref Zad) "at_begin"=some (some (.ref Zac)))
  (ih_Last_at_begin:PySem.W.findIn K (.ref Zaf) "at_begin"=some (some (.ref Zac)))
  (z_ValueError:PySem.W.nsIn K mainGlobals "ValueError"=some none)
  (z_bool:PySem.W.nsIn K mainGlobals "bool"=some none)
  (z_int:PySem.W.nsIn K mainGlobals "int"=some none)
  (Zab:PySem.W.nsIn K mainGlobals "isinstance"=some none)
  (z_len:PySem.W.nsIn K mainGlobals "len"=some none)
  (z_list:PySem.W.nsIn K mainGlobals "list"=some none)
  (z_range:PySem.W.nsIn K mainGlobals "range"=some none)
  (z_str:PySem.W.nsIn K mainGlobals "str"=some none)
  (z_tuple:PySem.W.nsIn K mainGlobals "tuple"=some none)
  (gl_NEW:PySem.W.nsIn K mainGlobals "NEW"=some (some u_NEW))
  (gr_NEW:RelV (.int 2) u_NEW)
  (gl_OLD:PySem.W.nsIn K mainGlobals "OLD"=some (some u_OLD))
  (gr_OLD:RelV (.int 1) u_OLD)
  (hk_EmptySlot_EmptySlot:PySem.W.kitOne K (.ref Za0) (.ref Za0)=some true)
  (hk_EmptySlot_NoField:PySem.W.kitOne K (.ref Za0) (.ref Za3)=some false)
  (hk_EmptySlot_Full:PySem.W.kitOne K (.ref Za0) (.ref Zae)=some false)
  (hk_EmptySlot_NoName:PySem.W.kitOne K (.ref Za0) (.ref Za4)=some false)
  (hk_EmptySlot_Sound:PySem.W.kitOne K (.ref Za0) (.ref C_Sound)=some false)
  (hk_EmptySlot_TextError:PySem.W.kitOne K (.ref Za0) (.ref C_TextError)=some false)
  (hk_EmptySlot_V:PySem.W.kitOne K (.ref Za0) (.type "ValueError")=some true)
  (hk_NoField_EmptySlot:PySem.W.kitOne K (.ref Za3) (.ref Za0)=some false)
  (hk_NoField_NoField:PySem.W.kitOne K (.ref Za3) (.ref Za3)=some true)
  (hk_NoField_Full:PySem.W.kitOne K (.ref Za3) (.ref Zae)=some false)
  (hk_NoField_NoName:PySem.W.kitOne K (.ref Za3) (.ref Za4)=some false)
  (hk_NoField_Sound:PySem.W.kitOne K (.ref Za3) (.ref C_Sound)=some false)
  (hk_NoField_TextError:PySem.W.kitOne K (.ref Za3) (.ref C_TextError)=some false)
  (hk_NoField_V:PySem.W.kitOne K (.ref Za3) (.type "ValueError")=some true)
  (hk_Full_EmptySlot:PySem.W.kitOne K (.ref Zae) (.ref Za0)=some false)
  (hk_Full_NoField:PySem.W.kitOne K (.ref Zae) (.ref Za3)=some false)
  (hk_Full_Full:PySem.W.kitOne K (.ref Zae) (.ref Zae)=some true)
  (hk_Full_NoName:PySem.W.kitOne K (.ref Zae) (.ref Za4)=some false)
  (hk_Full_Sound:PySem.W.kitOne K (.ref Zae) (.ref C_Sound)=some false)
  (hk_Full_TextError:PySem.W.kitOne K (.ref Zae) (.ref C_TextError)=some false)
  (hk_Full_V:PySem.W.kitOne K (.ref Zae) (.type "ValueError")=some true)
  (hk_NoName_EmptySlot:PySem.W.kitOne K (.ref Za4) (.ref Za0)=some false)
  (hk_NoName_NoField:PySem.W.kitOne K (.ref Za4) (.ref Za3)=some false)
  (hk_NoName_Full:PySem.W.kitOne K (.ref Za4) (.ref Zae)=some false)
  (hk_NoName_NoName:PySem.W.kitOne K (.ref Za4) (.ref Za4)=some true)
  (hk_NoName_Sound:PySem.W.kitOne K (.ref Za4) (.ref C_Sound)=some false)
  (hk_NoName_TextError:PySem.W.kitOne K (.ref Za4) (.ref C_TextError)=some false)
  (hk_NoName_V:PySem.W.kitOne K (.ref Za4) (.type "ValueError")=some true)
  :∃ fd:FuncData,(∀ (s:Shared) (v:Value),BindsTo s fd ⟨[v],[]⟩ [("_law_script",v)])∧∀ base:Heap,K.In base→base.Ns mainGlobals mg→FnOk l.prog w K mg base (G.CXe l.prog w) 7 fa fd ["_law_script"] (S_law K):=by
 have e:=hfa.symm.trans (PySem.W.mg_of KI GN a58)
 cases e
 have T:Txt w K mg Za6 Za5 Za8 Zad Zaf Zag Zah Za1 Za7 C_GreyError Za0 Za3 Zae Za4 C_Sound C_TextError Zas f_Cell_units Zan Zaq f_Heap_make f_Heap_lay f_Heap_free f_Heap_there f_cell_at f_birth_at f_all_of Zac f_First_word Zam f_Each_word f_Last_word Zap f_Kind_words f_kind_of Zar Zak Zal f_births_held f_births_at f_looked_at f_has_sense f_mark_of f_told_cells f_told_cell f_begin f_note f_note_all f_gone f_slots_of f_cell_in f_fields_in f_told_as_old f_told_as_new f_do_make f_do_get f_do_put f_do_write f_do_read f_do_name f_do_seek f_place_named f_do f__law_mix f__law_kind f__law_same f__law_word f__law_refused f__law_stands f__law_draw f__law_world f__law_deed f__law_good f_do_copy f_do_drop f_do_give:={
  tab_DEEDS:=⟨dd_DEEDS,_,_,ep_DEEDS,PySem.W.mg_of KI GN nd_DEEDS,lk_DEEDS,⟨rfl,rfl,rfl⟩,rfl,hx_DEEDS0,⟨tk_DEEDS0,rfl⟩,rfl,hx_DEEDS1,⟨tk_DEEDS1,rfl⟩,rfl,hx_DEEDS2,⟨tk_DEEDS2,rfl⟩,rfl,hx_DEEDS3,⟨tk_DEEDS3,rfl⟩,rfl,hx_DEEDS4,⟨tk_DEEDS4,rfl⟩,rfl,hx_DEEDS5,⟨tk_DEEDS5,rfl⟩,rfl,hx_DEEDS6,⟨tk_DEEDS6,rfl⟩,rfl,hx_DEEDS7,⟨tk_DEEDS7,rfl⟩,rfl,hx_DEEDS8,⟨tk_DEEDS8,rfl⟩,rfl,hx_DEEDS9,⟨tk_DEEDS9,rfl⟩,rfl,trivial⟩
  cl_Cell:=⟨pg_Cell,hd_Cell,po_Cell,sa_Cell⟩
  m_Cell:=PySem.W.mg_of KI GN a_Cell
  mk_Cell:=⟨mk_Cell,a1,i1,kc_Cell⟩
  n_Cell_birth:=n_Cell_birth
  n_Cell_bulk:=n_Cell_bulk
  n_Cell_tone:=n_Cell_tone
  n_Cell_load:=n_Cell_load
  n_Cell_fields:=n_Cell_fields
  eq_Cell:=⟨eq1_Cell,eq2_Cell⟩
  cl_Heap:=⟨pg_Heap,hd_Heap,po_Heap,sa_Heap⟩
  m_Heap:=PySem.W.mg_of KI GN a_Heap
  mk_Heap:=⟨mk_Heap,a4,i4,kc_Heap⟩
  n_Heap_room:=n_Heap_room
  Zao:=Zao
  n_Heap_used:=n_Heap_used
  n_Heap_born:=n_Heap_born
  cl_First:=⟨pg_First,hd_First,po_First,sa_First⟩
  m_First:=PySem.W.mg_of KI GN a_First
  mk0_First:=⟨mk_First,oi_First,kc_First⟩
  cl_Each:=⟨pg_Each,hd_Each,po_Each,sa_Each⟩
  m_Each:=PySem.W.mg_of KI GN a_Each
  mk0_Each:=⟨mk_Each,oi_Each,kc_Each⟩
  cl_Last:=⟨pg_Last,hd_Last,po_Last,sa_Last⟩
  m_Last:=PySem.W.mg_of KI GN a_Last
  mk0_Last:=⟨mk_Last,oi_Last,kc_Last⟩
  cl_Kind:=⟨pg_Kind,hd_Kind,po_Kind,sa_Kind⟩
  m_Kind:=PySem.W.mg_of KI GN a_Kind
  mk_Kind:=⟨mk_Kind,a17,i17,kc_Kind⟩
  n_Kind_looking:=n_Kind_looking
  n_Kind_tells:=n_Kind_tells
  cl_Hand:=⟨pg_Hand,hd_Hand,po_Hand,sa_Hand⟩
  m_Hand:=PySem.W.mg_of KI GN a_Hand
  mk_Hand:=⟨mk_Hand,a20,i20,kc_Hand⟩
  n_Hand_name:=n_Hand_name
  n_Hand_slots:=n_Hand_slots
  cl_Sweeper:=⟨pg_Sweeper,hd_Sweeper,po_Sweeper,sa_Sweeper⟩
  m_Sweeper:=PySem.W.mg_of KI GN a_Sweeper
  mk_Sweeper:=⟨mk_Sweeper,a21,i21,kc_Sweeper⟩
  n_Sweeper_sense:=n_Sweeper_sense
  n_Sweeper_phase:=n_Sweeper_phase
  n_Sweeper_grey:=n_Sweeper_grey
  n_Sweeper_looked:=n_Sweeper_looked
  n_Sweeper_turn:=n_Sweeper_turn
  n_Sweeper_at:=n_Sweeper_at
  n_Sweeper_stop:=n_Sweeper_stop
  n_Sweeper_walks:=n_Sweeper_walks
  n_Sweeper_looks:=n_Sweeper_looks
  n_Sweeper_passes:=n_Sweeper_passes
  n_Sweeper_loss:=n_Sweeper_loss
  cl_World:=⟨pg_World,hd_World,po_World,sa_World⟩
  m_World:=PySem.W.mg_of KI GN a_World
  mk_World:=⟨mk_World,a22,i22,kc_World⟩
  n_World_heap:=n_World_heap
  n_World_kind:=n_World_kind
  n_World_hands:=n_World_hands
  n_World_names:=n_World_names
  n_World_sweeper:=n_World_sweeper
  m_GreyError:=PySem.W.mg_of KI GN a_GreyError
  m_EmptySlot:=PySem.W.mg_of KI GN a_EmptySlot
  m_NoField:=PySem.W.mg_of KI GN a_NoField
  m_Full:=PySem.W.mg_of KI GN a_Full
  m_NoName:=PySem.W.mg_of KI GN a_NoName
  m_Sound:=PySem.W.mg_of KI GN a_Sound
  m_TextError:=PySem.W.mg_of KI GN a_TextError
  x_EmptySlot:=x_EmptySlot
  x_Full:=x_Full
  x_NoField:=x_NoField
  x_NoName:=x_NoName
  e_EmptySlot_GreyError:=e_EmptySlot_GreyError
  e_NoField_GreyError:=e_NoField_GreyError
  e_Full_GreyError:=e_Full_GreyError
  e_NoName_GreyError:=e_NoName_GreyError
  exc:=by
   intro C hC
   simp only [List.mem_cons,List.not_mem_nil,or_false] at hC
   rcases hC with rfl | rfl | rfl | rfl
   ·exact ⟨yga_EmptySlot,yno_EmptySlot,ycl_EmptySlot,yso_EmptySlot,ysb_EmptySlot,yis_EmptySlot⟩
   ·exact ⟨yga_Full,yno_Full,ycl_Full,yso_Full,ysb_Full,yis_Full⟩
   ·exact ⟨yga_NoField,yno_NoField,ycl_NoField,yso_NoField,ysb_NoField,yis_NoField⟩
   ·exact ⟨yga_NoName,yno_NoName,ycl_NoName,yso_NoName,ysb_NoName,yis_NoName⟩
  me_Each_at_begin:=⟨ih_Each_at_begin,i12,k12⟩
  me_Last_at_begin:=⟨ih_Last_at_begin,i12,k12⟩
  me_Cell___init__:=⟨a1,i1,k1⟩
  me_Cell_units:=⟨a2,i2,k2⟩
  me_Cell_has_field:=⟨a3,i3,k3⟩
  me_Heap___init__:=⟨a4,i4,k4⟩
  me_Heap_make:=⟨a5,i5,k5⟩
  me_Heap_lay:=⟨a6,i6,k6⟩
  me_Heap_free:=⟨a7,i7,k7⟩
  me_Heap_there:=⟨a8,i8,k8⟩
  m_cell_at:=PySem.W.mg_of KI GN a9
  m_birth_at:=PySem.W.mg_of KI GN a10
  m_all_of:=PySem.W.mg_of KI GN a11
  me_Looking_at_begin:=⟨a12,i12,k12⟩
  me_First_word:=⟨a13,i13,k13⟩
  me_First_at_begin:=⟨a14,i14,k14⟩
  me_Each_word:=⟨a15,i15,k15⟩
  me_Last_word:=⟨a16,i16,k16⟩
  me_Kind___init__:=⟨a17,i17,k17⟩
  me_Kind_words:=⟨a18,i18,k18⟩
  m_kind_of:=PySem.W.mg_of KI GN a19
  me_Hand___init__:=⟨a20,i20,k20⟩
  me_Sweeper___init__:=⟨a21,i21,k21⟩
  me_World___init__:=⟨a22,i22,k22⟩
  m_births_held:=PySem.W.mg_of KI GN a23
  m_births_at:=PySem.W.mg_of KI GN a24
  m_looked_at:=PySem.W.mg_of KI GN a25
  m_has_sense:=PySem.W.mg_of KI GN a26
  m_mark_of:=PySem.W.mg_of KI GN a27
  m_told_cells:=PySem.W.mg_of KI GN a28
  m_told_cell:=PySem.W.mg_of KI GN a29
  m_begin:=PySem.W.mg_of KI GN a30
  m_note:=PySem.W.mg_of KI GN a31
  m_note_all:=PySem.W.mg_of KI GN a32
  m_gone:=PySem.W.mg_of KI GN a33
  m_slots_of:=PySem.W.mg_of KI GN a34
  m_cell_in:=PySem.W.mg_of KI GN a35
  m_fields_in:=PySem.W.mg_of KI GN a36
  m_told_as_old:=PySem.W.mg_of KI GN a37
  m_told_as_new:=PySem.W.mg_of KI GN a38
  m_do_make:=PySem.W.mg_of KI GN a39
  m_do_get:=PySem.W.mg_of KI GN a40
  m_do_put:=PySem.W.mg_of KI GN a41
  m_do_write:=PySem.W.mg_of KI GN a42
  m_do_read:=PySem.W.mg_of KI GN a43
  m_do_name:=PySem.W.mg_of KI GN a44
  m_do_seek:=PySem.W.mg_of KI GN a45
  m_place_named:=PySem.W.mg_of KI GN a46
  m_do:=PySem.W.mg_of KI GN a47
  m__law_mix:=PySem.W.mg_of KI GN a48
  m__law_kind:=PySem.W.mg_of KI GN a49
  m__law_same:=PySem.W.mg_of KI GN a50
  m__law_word:=PySem.W.mg_of KI GN a51
  m__law_refused:=PySem.W.mg_of KI GN a52
  m__law_stands:=PySem.W.mg_of KI GN a53
  m__law_draw:=PySem.W.mg_of KI GN a54
  m__law_world:=PySem.W.mg_of KI GN a55
  m__law_deed:=PySem.W.mg_of KI GN a56
  m__law_good:=PySem.W.mg_of KI GN a57
  z_ValueError:=PySem.W.mg_none_of KI GN z_ValueError
  z_bool:=PySem.W.mg_none_of KI GN z_bool
  z_int:=PySem.W.mg_none_of KI GN z_int
  Zab:=PySem.W.mg_none_of KI GN Zab
  z_len:=PySem.W.mg_none_of KI GN z_len
  z_list:=PySem.W.mg_none_of KI GN z_list
  z_range:=PySem.W.mg_none_of KI GN z_range
  z_str:=PySem.W.mg_none_of KI GN z_str
  z_tuple:=PySem.W.mg_none_of KI GN z_tuple
  g_NEW:=⟨_,PySem.W.mg_of KI GN gl_NEW,gr_NEW⟩
  g_OLD:=⟨_,PySem.W.mg_of KI GN gl_OLD,gr_OLD⟩
  kit:=⟨fun r r'=>by cases r<;>cases r'<;>first | exact hk_EmptySlot_EmptySlot | exact hk_EmptySlot_NoField | exact hk_EmptySlot_Full | exact hk_EmptySlot_NoName | exact hk_NoField_EmptySlot | exact hk_NoField_NoField | exact hk_NoField_Full | exact hk_NoField_NoName | exact hk_Full_EmptySlot | exact hk_Full_NoField | exact hk_Full_Full | exact hk_Full_NoName | exact hk_NoName_EmptySlot | exact hk_NoName_NoField | exact hk_NoName_Full | exact hk_NoName_NoName,fun r=>by cases r<;>first | exact hk_EmptySlot_Sound | exact hk_NoField_Sound | exact hk_Full_Sound | exact hk_NoName_Sound,fun r=>by cases r<;>first | exact hk_EmptySlot_TextError | exact hk_NoField_TextError | exact hk_Full_TextError | exact hk_NoName_TextError,fun r=>by cases r<;>first | exact hk_EmptySlot_V | exact hk_NoField_V | exact hk_Full_V | exact hk_NoName_V⟩
 }
 have F1:=fun_mk (st:=s_Cell___init__) l1 c1 k1
 have b1:=F1.binds (ps:=["self","birth","many","bulk","tone"]) fun _ _ _ _ _ _ us hl=>match us,hl with | [_,_,_,_,_],_=>rfl
 have F2:=fun_mk (st:=s_Cell_units) l2 c2 k2
 have b2:=F2.binds (ps:=["self"]) fun _ _ _ _ _ _ us hl=>match us,hl with | [_],_=>rfl
 have F3:=fun_mk (st:=s_Cell_has_field) l3 c3 k3
 have b3:=F3.binds (ps:=["self","field"]) fun _ _ _ _ _ _ us hl=>match us,hl with | [_,_],_=>rfl
 have F4:=fun_mk (st:=s_Heap___init__) l4 c4 k4
 have b4:=F4.binds (ps:=["self","room"]) fun _ _ _ _ _ _ us hl=>match us,hl with | [_,_],_=>rfl
 have F5:=G.funD_mk (st:=s_Heap_make) l5 c5 k5
 have b5:=G.bindsD (ps:=["self","many","bulk","tone"]) (ds:=[]) l5 t5 fun us hl=>match us,hl with | [_,_,_,_],_=>⟨_,rfl,rfl⟩
 have bd5_1:=G.bindsD (ps:=["self","many","bulk","tone"]) (ds:=[dv5_1]) l5 t5 fun us hl=>match us,hl with | [_,_,_],_=>⟨_,rfl,rfl⟩
 have bd5_2:=G.bindsD (ps:=["self","many","bulk","tone"]) (ds:=[dv5_0,dv5_1]) l5 t5 fun us hl=>match us,hl with | [_,_],_=>⟨_,rfl,rfl⟩
 have F6:=fun_mk (st:=s_Heap_lay) l6 c6 k6
 have b6:=F6.binds (ps:=["self","cell"]) fun _ _ _ _ _ _ us hl=>match us,hl with | [_,_],_=>rfl
 have F7:=fun_mk (st:=s_Heap_free) l7 c7 k7
 have b7:=F7.binds (ps:=["self"]) fun _ _ _ _ _ _ us hl=>match us,hl with | [_],_=>rfl
 have F8:=fun_mk (st:=s_Heap_there) l8 c8 k8
 have b8:=F8.binds (ps:=["self"]) fun _ _ _ _ _ _ us hl=>match us,hl with | [_],_=>rfl
 have F9:=fun_mk (st:=s_cell_at) l9 c9 k9
 have b9:=F9.binds (ps:=["heap","place"]) fun _ _ _ _ _ _ us hl=>match us,hl with | [_,_],_=>rfl
 have F10:=fun_mk (st:=s_birth_at) l10 c10 k10
 have b10:=F10.binds (ps:=["heap","place"]) fun _ _ _ _ _ _ us hl=>match us,hl with | [_,_],_=>rfl
 have F11:=fun_mk (st:=s_all_of) l11 c11 k11
 have b11:=F11.binds (ps:=["hands"]) fun _ _ _ _ _ _ us hl=>match us,hl with | [_],_=>rfl
 have F12:=fun_mk (st:=s_Looking_at_begin) l12 c12 k12
 have b12:=F12.binds (ps:=["self","hands"]) fun _ _ _ _ _ _ us hl=>match us,hl with | [_,_],_=>rfl
 have F13:=fun_mk (st:=s_First_word) l13 c13 k13
 have b13:=F13.binds (ps:=["self"]) fun _ _ _ _ _ _ us hl=>match us,hl with | [_],_=>rfl
 have F14:=fun_mk (st:=s_First_at_begin) l14 c14 k14
 have b14:=F14.binds (ps:=["self","hands"]) fun _ _ _ _ _ _ us hl=>match us,hl with | [_,_],_=>rfl
 have F15:=fun_mk (st:=s_Each_word) l15 c15 k15
 have b15:=F15.binds (ps:=["self"]) fun _ _ _ _ _ _ us hl=>match us,hl with | [_],_=>rfl
 have F16:=fun_mk (st:=s_Last_word) l16 c16 k16
 have b16:=F16.binds (ps:=["self"]) fun _ _ _ _ _ _ us hl=>match us,hl with | [_],_=>rfl
 have F17:=fun_mk (st:=s_Kind___init__) l17 c17 k17
 have b17:=F17.binds (ps:=["self","looking","tells"]) fun _ _ _ _ _ _ us hl=>match us,hl with | [_,_,_],_=>rfl
 have F18:=fun_mk (st:=s_Kind_words) l18 c18 k18
 have b18:=F18.binds (ps:=["self"]) fun _ _ _ _ _ _ us hl=>match us,hl with | [_],_=>rfl
 have F19:=fun_mk (st:=s_kind_of) l19 c19 k19
 have b19:=F19.binds (ps:=["text"]) fun _ _ _ _ _ _ us hl=>match us,hl with | [_],_=>rfl
 have F20:=fun_mk (st:=s_Hand___init__) l20 c20 k20
 have b20:=F20.binds (ps:=["self","name","many"]) fun _ _ _ _ _ _ us hl=>match us,hl with | [_,_,_],_=>rfl
 have F21:=fun_mk (st:=s_Sweeper___init__) l21 c21 k21
 have b21:=F21.binds (ps:=["self"]) fun _ _ _ _ _ _ us hl=>match us,hl with | [_],_=>rfl
 have F22:=fun_mk (st:=s_World___init__) l22 c22 k22
 have b22:=F22.binds (ps:=["self","room","kind","hands"]) fun _ _ _ _ _ _ us hl=>match us,hl with | [_,_,_,_],_=>rfl
 have F23:=fun_mk (st:=s_births_held) l23 c23 k23
 have b23:=F23.binds (ps:=["world"]) fun _ _ _ _ _ _ us hl=>match us,hl with | [_],_=>rfl
 have F24:=fun_mk (st:=s_births_at) l24 c24 k24
 have b24:=F24.binds (ps:=["heap","places"]) fun _ _ _ _ _ _ us hl=>match us,hl with | [_,_],_=>rfl
 have F25:=fun_mk (st:=s_looked_at) l25 c25 k25
 have b25:=F25.binds (ps:=["world","hand"]) fun _ _ _ _ _ _ us hl=>match us,hl with | [_,_],_=>rfl
 have F26:=fun_mk (st:=s_has_sense) l26 c26 k26
 have b26:=F26.binds (ps:=["world","cell"]) fun _ _ _ _ _ _ us hl=>match us,hl with | [_,_],_=>rfl
 have F27:=fun_mk (st:=s_mark_of) l27 c27 k27
 have b27:=F27.binds (ps:=["world","place"]) fun _ _ _ _ _ _ us hl=>match us,hl with | [_,_],_=>rfl
 have F28:=fun_mk (st:=s_told_cells) l28 c28 k28
 have b28:=F28.binds (ps:=["world"]) fun _ _ _ _ _ _ us hl=>match us,hl with | [_],_=>rfl
 have F29:=fun_mk (st:=s_told_cell) l29 c29 k29
 have b29:=F29.binds (ps:=["world","place"]) fun _ _ _ _ _ _ us hl=>match us,hl with | [_,_],_=>rfl
 have F30:=fun_mk (st:=s_begin) l30 c30 k30
 have b30:=F30.binds (ps:=["world"]) fun _ _ _ _ _ _ us hl=>match us,hl with | [_],_=>rfl
 have F31:=fun_mk (st:=s_note) l31 c31 k31
 have b31:=F31.binds (ps:=["world","place"]) fun _ _ _ _ _ _ us hl=>match us,hl with | [_,_],_=>rfl
 have F32:=fun_mk (st:=s_note_all) l32 c32 k32
 have b32:=F32.binds (ps:=["world","places"]) fun _ _ _ _ _ _ us hl=>match us,hl with | [_,_],_=>rfl
 have F33:=fun_mk (st:=s_gone) l33 c33 k33
 have b33:=F33.binds (ps:=["world","place","birth"]) fun _ _ _ _ _ _ us hl=>match us,hl with | [_,_,_],_=>rfl
 have F34:=fun_mk (st:=s_slots_of) l34 c34 k34
 have b34:=F34.binds (ps:=["world","hand"]) fun _ _ _ _ _ _ us hl=>match us,hl with | [_,_],_=>rfl
 have F35:=fun_mk (st:=s_cell_in) l35 c35 k35
 have b35:=F35.binds (ps:=["world","hand","slot"]) fun _ _ _ _ _ _ us hl=>match us,hl with | [_,_,_],_=>rfl
 have F36:=fun_mk (st:=s_fields_in) l36 c36 k36
 have b36:=F36.binds (ps:=["world","hand","slot","field"]) fun _ _ _ _ _ _ us hl=>match us,hl with | [_,_,_,_],_=>rfl
 have F37:=fun_mk (st:=s_told_as_old) l37 c37 k37
 have b37:=F37.binds (ps:=["world","place"]) fun _ _ _ _ _ _ us hl=>match us,hl with | [_,_],_=>rfl
 have F38:=fun_mk (st:=s_told_as_new) l38 c38 k38
 have b38:=F38.binds (ps:=["world","hand","place"]) fun _ _ _ _ _ _ us hl=>match us,hl with | [_,_,_],_=>rfl
 have F39:=fun_mk (st:=s_do_make) l39 c39 k39
 have b39:=F39.binds (ps:=["world","deed"]) fun _ _ _ _ _ _ us hl=>match us,hl with | [_,_],_=>rfl
 have F40:=fun_mk (st:=s_do_get) l40 c40 k40
 have b40:=F40.binds (ps:=["world","deed"]) fun _ _ _ _ _ _ us hl=>match us,hl with | [_,_],_=>rfl
 have F41:=fun_mk (st:=s_do_put) l41 c41 k41
 have b41:=F41.binds (ps:=["world","deed"]) fun _ _ _ _ _ _ us hl=>match us,hl with | [_,_],_=>rfl
 have F42:=fun_mk (st:=s_do_write) l42 c42 k42
 have b42:=F42.binds (ps:=["world","deed"]) fun _ _ _ _ _ _ us hl=>match us,hl with | [_,_],_=>rfl
 have F43:=fun_mk (st:=s_do_read) l43 c43 k43
 have b43:=F43.binds (ps:=["world","deed"]) fun _ _ _ _ _ _ us hl=>match us,hl with | [_,_],_=>rfl
 have F44:=fun_mk (st:=s_do_name) l44 c44 k44
 have b44:=F44.binds (ps:=["world","deed"]) fun _ _ _ _ _ _ us hl=>match us,hl with | [_,_],_=>rfl
 have F45:=fun_mk (st:=s_do_seek) l45 c45 k45
 have b45:=F45.binds (ps:=["world","deed"]) fun _ _ _ _ _ _ us hl=>match us,hl with | [_,_],_=>rfl
 have F46:=fun_mk (st:=s_place_named) l46 c46 k46
 have b46:=F46.binds (ps:=["world","word"]) fun _ _ _ _ _ _ us hl=>match us,hl with | [_,_],_=>rfl
 have F47:=fun_mk (st:=s_do) l47 c47 k47
 have b47:=F47.binds (ps:=["world","deed"]) fun _ _ _ _ _ _ us hl=>match us,hl with | [_,_],_=>rfl
 have F48:=fun_mk (st:=s__law_mix) l48 c48 k48
 have b48:=F48.binds (ps:=["_law_cell","_law_factor"]) fun _ _ _ _ _ _ us hl=>match us,hl with | [_,_],_=>rfl
 have F49:=fun_mk (st:=s__law_kind) l49 c49 k49
 have b49:=F49.binds (ps:=["_law_cell"]) fun _ _ _ _ _ _ us hl=>match us,hl with | [_],_=>rfl
 have F50:=fun_mk (st:=s__law_same) l50 c50 k50
 have b50:=F50.binds (ps:=["_law_found","_law_due"]) fun _ _ _ _ _ _ us hl=>match us,hl with | [_,_],_=>rfl
 have F51:=fun_mk (st:=s__law_word) l51 c51 k51
 have b51:=F51.binds (ps:=["_law_e"]) fun _ _ _ _ _ _ us hl=>match us,hl with | [_],_=>rfl
 have F52:=fun_mk (st:=s__law_refused) l52 c52 k52
 have b52:=F52.binds (ps:=["_law_world_here","_law_deed_here"]) fun _ _ _ _ _ _ us hl=>match us,hl with | [_,_],_=>rfl
 have F53:=fun_mk (st:=s__law_stands) l53 c53 k53
 have b53:=F53.binds (ps:=["_law_world_here","_law_draw_here"]) fun _ _ _ _ _ _ us hl=>match us,hl with | [_,_],_=>rfl
 have F54:=fun_mk (st:=s__law_draw) l54 c54 k54
 have b54:=F54.binds (ps:=["_law_cell"]) fun _ _ _ _ _ _ us hl=>match us,hl with | [_],_=>rfl
 have F55:=fun_mk (st:=s__law_world) l55 c55 k55
 have b55:=F55.binds (ps:=["_law_cell","_law_draw_here"]) fun _ _ _ _ _ _ us hl=>match us,hl with | [_,_],_=>rfl
 have F56:=fun_mk (st:=s__law_deed) l56 c56 k56
 have b56:=F56.binds (ps:=["_law_draw_here"]) fun _ _ _ _ _ _ us hl=>match us,hl with | [_],_=>rfl
 have F57:=fun_mk (st:=s__law_good) l57 c57 k57
 have b57:=F57.binds (ps:=["_law_world_here","_law_draw_here","_law_deed_here"]) fun _ _ _ _ _ _ us hl=>match us,hl with | [_,_,_],_=>rfl
 have F58:=fun_mk (st:=s_law) l58 c58 k58
 refine ⟨PySem.W.fnOf "law" "law" (defArgs s_law) (defBody s_law) (defScope s_law) .none kV58 dc58 pm58 an58 cd58 ct58,fun s v=>.of_eq rfl,fun base _ _=>?_⟩
 have G1:=ok_Cell___init__ (P:=l.prog) (w:=w) (base:=base) (XQ:=⟨Za7,Za5,Za6,Zag,Zah,Za1,Za8,Zad,Zaf⟩) T F1
 have G2:=ok_Cell_units (P:=l.prog) (w:=w) (base:=base) (XQ:=⟨Za7,Za5,Za6,Zag,Zah,Za1,Za8,Zad,Zaf⟩) T F2
 have G3:=ok_Cell_has_field (P:=l.prog) (w:=w) (base:=base) (XQ:=⟨Za7,Za5,Za6,Zag,Zah,Za1,Za8,Zad,Zaf⟩) T F3
 have G4:=ok_Heap___init__ (P:=l.prog) (w:=w) (base:=base) (XQ:=⟨Za7,Za5,Za6,Zag,Zah,Za1,Za8,Zad,Zaf⟩) T F4
 have G6:=ok_Heap_lay (P:=l.prog) (w:=w) (base:=base) (XQ:=⟨Za7,Za5,Za6,Zag,Zah,Za1,Za8,Zad,Zaf⟩) T F6
 have G7:=ok_Heap_free (P:=l.prog) (w:=w) (base:=base) (XQ:=⟨Za7,Za5,Za6,Zag,Zah,Za1,Za8,Zad,Zaf⟩) T F7
 have G8:=ok_Heap_there (P:=l.prog) (w:=w) (base:=base) (XQ:=⟨Za7,Za5,Za6,Zag,Zah,Za1,Za8,Zad,Zaf⟩) T F8
 have G9:=ok_cell_at (P:=l.prog) (w:=w) (base:=base) (XQ:=⟨Za7,Za5,Za6,Zag,Zah,Za1,Za8,Zad,Zaf⟩) T F9
 have G11:=ok_all_of (P:=l.prog) (w:=w) (base:=base) (XQ:=⟨Za7,Za5,Za6,Zag,Zah,Za1,Za8,Zad,Zaf⟩) T F11
 have G12:=ok_Looking_at_begin (P:=l.prog) (w:=w) (base:=base) (XQ:=⟨Za7,Za5,Za6,Zag,Zah,Za1,Za8,Zad,Zaf⟩) T F12
 have G13:=ok_First_word (P:=l.prog) (w:=w) (base:=base) (XQ:=⟨Za7,Za5,Za6,Zag,Zah,Za1,Za8,Zad,Zaf⟩) T F13
 have G15:=ok_Each_word (P:=l.prog) (w:=w) (base:=base) (XQ:=⟨Za7,Za5,Za6,Zag,Zah,Za1,Za8,Zad,Zaf⟩) T F15
 have G16:=ok_Last_word (P:=l.prog) (w:=w) (base:=base) (XQ:=⟨Za7,Za5,Za6,Zag,Zah,Za1,Za8,Zad,Zaf⟩) T F16
 have G17:=ok_Kind___init__ (P:=l.prog) (w:=w) (base:=base) (XQ:=⟨Za7,Za5,Za6,Zag,Zah,Za1,Za8,Zad,Zaf⟩) T F17
 have G20:=ok_Hand___init__ (P:=l.prog) (w:=w) (base:=base) (XQ:=⟨Za7,Za5,Za6,Zag,Zah,Za1,Za8,Zad,Zaf⟩) T F20
 have G21:=ok_Sweeper___init__ (P:=l.prog) (w:=w) (base:=base) (XQ:=⟨Za7,Za5,Za6,Zag,Zah,Za1,Za8,Zad,Zaf⟩) T F21
 have G25:=ok_looked_at (P:=l.prog) (w:=w) (base:=base) (XQ:=⟨Za7,Za5,Za6,Zag,Zah,Za1,Za8,Zad,Zaf⟩) T F25
 have G26:=ok_has_sense (P:=l.prog) (w:=w) (base:=base) (XQ:=⟨Za7,Za5,Za6,Zag,Zah,Za1,Za8,Zad,Zaf⟩) T F26
 have G34:=ok_slots_of (P:=l.prog) (w:=w) (base:=base) (XQ:=⟨Za7,Za5,Za6,Zag,Zah,Za1,Za8,Zad,Zaf⟩) T F34
 have G37:=ok_told_as_old (P:=l.prog) (w:=w) (base:=base) (XQ:=⟨Za7,Za5,Za6,Zag,Zah,Za1,Za8,Zad,Zaf⟩) T F37
 have G48:=ok__law_mix (P:=l.prog) (w:=w) (base:=base) (XQ:=⟨Za7,Za5,Za6,Zag,Zah,Za1,Za8,Zad,Zaf⟩) T F48
 have G51:=ok__law_word (P:=l.prog) (w:=w) (base:=base) (XQ:=⟨Za7,Za5,Za6,Zag,Zah,Za1,Za8,Zad,Zaf⟩) T F51
 have G56:=ok__law_deed (P:=l.prog) (w:=w) (base:=base) (XQ:=⟨Za7,Za5,Za6,Zag,Zah,Za1,Za8,Zad,Zaf⟩) T F56
 have G10:=ok_birth_at (P:=l.prog) (w:=w) (base:=base) (XQ:=⟨Za7,Za5,Za6,Zag,Zah,Za1,Za8,Zad,Zaf⟩) T F10 G9 b9 k9
 have G14:=ok_First_at_begin (P:=l.prog) (w:=w) (base:=base) (XQ:=⟨Za7,Za5,Za6,Zag,Zah,Za1,Za8,Zad,Zaf⟩) T F14 G11 b11 k11
 have G18:=ok_Kind_words (P:=l.prog) (w:=w) (base:=base) (XQ:=⟨Za7,Za5,Za6,Zag,Zah,Za1,Za8,Zad,Zaf⟩) T F18 G15 b15 k15 G13 b13 k13 G16 b16 k16
 have G27:=ok_mark_of (P:=l.prog) (w:=w) (base:=base) (XQ:=⟨Za7,Za5,Za6,Zag,Zah,Za1,Za8,Zad,Zaf⟩) T F27 G26 b26 k26
 have G31:=ok_note (P:=l.prog) (w:=w) (base:=base) (XQ:=⟨Za7,Za5,Za6,Zag,Zah,Za1,Za8,Zad,Zaf⟩) T F31 G9 b9 k9 G26 b26 k26
 have G33:=ok_gone (P:=l.prog) (w:=w) (base:=base) (XQ:=⟨Za7,Za5,Za6,Zag,Zah,Za1,Za8,Zad,Zaf⟩) T F33 G9 b9 k9 G26 b26 k26
 have G35:=ok_cell_in (P:=l.prog) (w:=w) (base:=base) (XQ:=⟨Za7,Za5,Za6,Zag,Zah,Za1,Za8,Zad,Zaf⟩) T F35 G9 b9 k9 G34 b34 k34
 have G38:=ok_told_as_new (P:=l.prog) (w:=w) (base:=base) (XQ:=⟨Za7,Za5,Za6,Zag,Zah,Za1,Za8,Zad,Zaf⟩) T F38 G25 b25 k25
 have G49:=ok__law_kind (P:=l.prog) (w:=w) (base:=base) (XQ:=⟨Za7,Za5,Za6,Zag,Zah,Za1,Za8,Zad,Zaf⟩) T F49 G48 b48 k48
 have G54:=ok__law_draw (P:=l.prog) (w:=w) (base:=base) (XQ:=⟨Za7,Za5,Za6,Zag,Zah,Za1,Za8,Zad,Zaf⟩) T F54 G48 b48 k48
 have G5:=ok_Heap_make (P:=l.prog) (w:=w) (base:=base) (XQ:=⟨Za7,Za5,Za6,Zag,Zah,Za1,Za8,Zad,Zaf⟩) T F5 G1 b1 k1 G2 b2 k2 G7 b7 k7 G6 b6 k6
 have G19:=ok_kind_of (P:=l.prog) (w:=w) (base:=base) (XQ:=⟨Za7,Za5,Za6,Zag,Zah,Za1,Za8,Zad,Zaf⟩) T F19 G17 b17 k17 G18 b18 k18
 have G22:=ok_World___init__ (P:=l.prog) (w:=w) (base:=base) (XQ:=⟨Za7,Za5,Za6,Zag,Zah,Za1,Za8,Zad,Zaf⟩) T F22 G20 b20 k20 G4 b4 k4 G21 b21 k21
 have G24:=ok_births_at (P:=l.prog) (w:=w) (base:=base) (XQ:=⟨Za7,Za5,Za6,Zag,Zah,Za1,Za8,Zad,Zaf⟩) T F24 G10 b10 k10
 have G30:=ok_begin (P:=l.prog) (w:=w) (base:=base) (XQ:=⟨Za7,Za5,Za6,Zag,Zah,Za1,Za8,Zad,Zaf⟩) T F30 G14 b14 k14 G12 b12 k12
 have G32:=ok_note_all (P:=l.prog) (w:=w) (base:=base) (XQ:=⟨Za7,Za5,Za6,Zag,Zah,Za1,Za8,Zad,Zaf⟩) T F32 G31 b31 k31
 have G36:=ok_fields_in (P:=l.prog) (w:=w) (base:=base) (XQ:=⟨Za7,Za5,Za6,Zag,Zah,Za1,Za8,Zad,Zaf⟩) T F36 G3 b3 k3 G35 b35 k35
 have G42:=ok_do_write (P:=l.prog) (w:=w) (base:=base) (XQ:=⟨Za7,Za5,Za6,Zag,Zah,Za1,Za8,Zad,Zaf⟩) T F42 G35 b35 k35
 have G43:=ok_do_read (P:=l.prog) (w:=w) (base:=base) (XQ:=⟨Za7,Za5,Za6,Zag,Zah,Za1,Za8,Zad,Zaf⟩) T F43 G35 b35 k35
 have G44:=ok_do_name (P:=l.prog) (w:=w) (base:=base) (XQ:=⟨Za7,Za5,Za6,Zag,Zah,Za1,Za8,Zad,Zaf⟩) T F44 G35 b35 k35 G34 b34 k34
 have G46:=ok_place_named (P:=l.prog) (w:=w) (base:=base) (XQ:=⟨Za7,Za5,Za6,Zag,Zah,Za1,Za8,Zad,Zaf⟩) T F46 G33 b33 k33
 have G23:=ok_births_held (P:=l.prog) (w:=w) (base:=base) (XQ:=⟨Za7,Za5,Za6,Zag,Zah,Za1,Za8,Zad,Zaf⟩) T F23 G24 b24 k24
 have G29:=ok_told_cell (P:=l.prog) (w:=w) (base:=base) (XQ:=⟨Za7,Za5,Za6,Zag,Zah,Za1,Za8,Zad,Zaf⟩) T F29 G24 b24 k24 G27 b27 k27
 have G39:=ok_do_make (P:=l.prog) (w:=w) (base:=base) (XQ:=⟨Za7,Za5,Za6,Zag,Zah,Za1,Za8,Zad,Zaf⟩) T F39 G5 b5 k5 G10 b10 k10 G34 b34 k34
 have G40:=ok_do_get (P:=l.prog) (w:=w) (base:=base) (XQ:=⟨Za7,Za5,Za6,Zag,Zah,Za1,Za8,Zad,Zaf⟩) T F40 G10 b10 k10 G36 b36 k36 G34 b34 k34
 have G41:=ok_do_put (P:=l.prog) (w:=w) (base:=base) (XQ:=⟨Za7,Za5,Za6,Zag,Zah,Za1,Za8,Zad,Zaf⟩) T F41 G10 b10 k10 G36 b36 k36 G32 b32 k32 G34 b34 k34 G38 b38 k38 G37 b37 k37
 have G45:=ok_do_seek (P:=l.prog) (w:=w) (base:=base) (XQ:=⟨Za7,Za5,Za6,Zag,Zah,Za1,Za8,Zad,Zaf⟩) T F45 G10 b10 k10 G32 b32 k32 G46 b46 k46 G34 b34 k34
 have R50_0:=ok__law_same0 (P:=l.prog) (w:=w) (base:=base) (XQ:=⟨Za7,Za5,Za6,Zag,Zah,Za1,Za8,Zad,Zaf⟩) T F50 (G.fn_never (k:=0) fun _ _ _ _ ⟨_,_,_,z⟩=>z) b50 k50
 have R50_1:=ok__law_same (P:=l.prog) (w:=w) (base:=base) (XQ:=⟨Za7,Za5,Za6,Zag,Zah,Za1,Za8,Zad,Zaf⟩) (d:=0) (lv:=1) T (by decide) F50 R50_0 b50 k50
 have R50_2:=ok__law_same (P:=l.prog) (w:=w) (base:=base) (XQ:=⟨Za7,Za5,Za6,Zag,Zah,Za1,Za8,Zad,Zaf⟩) (d:=1) (lv:=2) T (by decide) F50 R50_1 b50 k50
 have R50_3:=ok__law_same (P:=l.prog) (w:=w) (base:=base) (XQ:=⟨Za7,Za5,Za6,Zag,Zah,Za1,Za8,Zad,Zaf⟩) (d:=2) (lv:=3) T (by decide) F50 R50_2 b50 k50
 have G50:=R50_3
 have G28:=ok_told_cells (P:=l.prog) (w:=w) (base:=base) (XQ:=⟨Za7,Za5,Za6,Zag,Zah,Za1,Za8,Zad,Zaf⟩) T F28 G8 b8 k8 G29 b29 k29
 have G47:=ok_do (P:=l.prog) (w:=w) (base:=base) (XQ:=⟨Za7,Za5,Za6,Zag,Zah,Za1,Za8,Zad,Zaf⟩) T F47 G40 b40 k40 G39 b39 k39 G44 b44 k44 G41 b41 k41 G43 b43 k43 G45 b45 k45 G42 b42 k42
 have G52:=ok__law_refused (P:=l.prog) (w:=w) (base:=base) (XQ:=⟨Za7,Za5,Za6,Zag,Zah,Za1,Za8,Zad,Zaf⟩) T F52 G51 b51 k51 G47 b47 k47
 have G53:=ok__law_stands (P:=l.prog) (w:=w) (base:=base) (XQ:=⟨Za7,Za5,Za6,Zag,Zah,Za1,Za8,Zad,Zaf⟩) T F53 G50 b50 k50 G23 b23 k23 G28 b28 k28
 have G55:=ok__law_world (P:=l.prog) (w:=w) (base:=base) (XQ:=⟨Za7,Za5,Za6,Zag,Zah,Za1,Za8,Zad,Zaf⟩) T F55 G22 b22 k22 G49 b49 k49 G30 b30 k30 G47 b47 k47 G19 b19 k19
 have G57:=ok__law_good (P:=l.prog) (w:=w) (base:=base) (XQ:=⟨Za7,Za5,Za6,Zag,Zah,Za1,Za8,Zad,Zaf⟩) T F57 G50 b50 k50 G47 b47 k47
 exact ok_law (XQ:=⟨Za7,Za5,Za6,Zag,Zah,Za1,Za8,Zad,Zaf⟩) T F58 G56 b56 k56 G54 b54 k54 G57 b57 k57 G52 b52 k52 G53 b53 k53 G55 b55 k55
theorem walk {l:PySem.W.OpenLaw}{q:Program}{loose:List Str}{XP:(Str→Option Value)→Heap→Prop}{YP:World→Heap→Prop}{d:DefRec}{K:Params→PySem.W.Frag} (hn:l.most=some 63) (hdf:d.params.defaults=[])
  (hY:∀ (w:World) (h:Heap),YP w h→(K w.params).In h)
  (F:∀ (w:World) (mg:Str→Option Value) (fa:Addr) (h:Heap),(K w.params).In h→h.Ns mainGlobals mg→mg d.name=some (.ref fa)→
   ∃ fd:FuncData,(∀ (s:Shared) (u:Value),BindsTo s fd ⟨[u],[]⟩ [("_law_script",u)])∧∀ base:Heap,(K w.params).In base→base.Ns mainGlobals mg→FnOk l.prog w (K w.params) mg base (G.CXe l.prog w) 7 fa fd ["_law_script"] (S_law (K w.params))):
  PySem.W.WalkO q loose XP YP l.row.toRowW d [] (fun f vs=>PySem.call f vs):=
 G.walk_ofB (n:=63) (k:=7) (x:="_law_script") (CX:=fun w=>G.CXe l.prog w) (sp:=fun w=>S_law (K w.params)) hn (by decide) hdf ⟨rfl,by decide,by decide⟩ hY F (fun _ _ a ns hl _ hS hb=>⟨a,rfl,ns,hS,hl,hb,fun _=>rfl⟩) fun _ _ _ _ _ z=>by
  obtain ⟨_,_,_,_,_,_,_,_,_,_,_,_,z⟩:=z
  exact z
end K21
def PySem.W.Fast.tw11534156362438870789:Nat:=0
def PySem.W.Fast.tw15253464995698893213:Nat:=0
def PySem.W.Fast.tw11138514556701997658:Nat:=0
def PySem.W.Fast.tw15426654102360944671:Nat:=0
def PySem.W.Fast.tw17469449940286633948:Nat:=0
def PySem.W.Fast.tw921716886928815093:Nat:=0
def PySem.W.Fast.tw1788097711383388336:Nat:=0
def PySem.W.Fast.tw9567127131036986679:Nat:=0
def PySem.W.Fast.tw17971400243820456104:Nat:=0
def PySem.W.Fast.tw3723233574839198590:Nat:=0
def PySem.W.Fast.tw14396664723390758327:Nat:=0
def PySem.W.Fast.tw5552989759360423931:Nat:=0
def PySem.W.Fast.tw17085965888231415597:Nat:=0
def PySem.W.Fast.tw15164292673715586848:Nat:=0
def PySem.W.Fast.tw15790106222401195327:Nat:=0
def PySem.W.Fast.tw18351722533755520591:Nat:=0
def PySem.W.Fast.tw9754706388005372591:Nat:=0
def PySem.W.Fast.tw3750768969214055982:Nat:=0
def PySem.W.Fast.tw2953631328105333072:Nat:=0
def PySem.W.Fast.tw1627659488949511559:Nat:=0
def PySem.W.Fast.tw8985608738510335034:Nat:=0
def PySem.W.Fast.tw9406110780748227001:Nat:=0
def PySem.W.Fast.tw1175148167275983331:Nat:=0
def PySem.W.Fast.tw475801048839398085:Nat:=0
def PySem.W.Fast.tw18253356460226591969:Nat:=0
def PySem.W.Fast.tw8352509530545300996:Nat:=0
def PySem.W.Fast.tw745418066681154725:Nat:=0
def PySem.W.Fast.tw5804674163608897152:Nat:=0
open PySem PySem.W PyProof.Rows
set_option maxRecDepth 100000 in
set_option maxHeartbeats 0 in
theorem PySem.Challenge.cw_greywalk_k21_deeds_refused_holds : PySem.Challenge.rw_greywalk_k21_deeds_refused.Holds := by
 w_on;o_law;k_head;(case hw=>w_witness2)
 k_fill
 refine K21.walk (l:=PySem.Challenge.rw_greywalk_k21_deeds_refused) rfl rfl (fun w h Y=>PySem.W.kIn_of Y) ?F
 case F=>
  intro w mg fa h KX G hmg
  refine' K21.all_mk KX G hmg ?a_Cell ?a_Heap ?a_First ?a_Each ?a_Last ?a_Kind ?a_Hand ?a_Sweeper ?a_World ?a_GreyError ?a_EmptySlot ?a_NoField ?a_Full ?a_NoName ?a_Sound ?a_TextError ?a1 ?i1 ?l1 ?c1 ?k1 ?a2 ?i2 ?l2 ?c2 ?k2 ?a3 ?i3 ?l3 ?c3 ?k3 ?a4 ?i4 ?l4 ?c4 ?k4 ?a5 ?i5 ?l5 ?t5 ?dr5_0 ?dr5_1 ?c5 ?k5 ?a6 ?i6 ?l6 ?c6 ?k6 ?a7 ?i7 ?l7 ?c7 ?k7 ?a8 ?i8 ?l8 ?c8 ?k8 ?a9 ?l9 ?c9 ?k9 ?a10 ?l10 ?c10 ?k10 ?a11 ?l11 ?c11 ?k11 ?a12 ?i12 ?l12 ?c12 ?k12 ?a13 ?i13 ?l13 ?c13 ?k13 ?a14 ?i14 ?l14 ?c14 ?k14 ?a15 ?i15 ?l15 ?c15 ?k15 ?a16 ?i16 ?l16 ?c16 ?k16 ?a17 ?i17 ?l17 ?c17 ?k17 ?a18 ?i18 ?l18 ?c18 ?k18 ?a19 ?l19 ?c19 ?k19 ?a20 ?i20 ?l20 ?c20 ?k20 ?a21 ?i21 ?l21 ?c21 ?k21 ?a22 ?i22 ?l22 ?c22 ?k22 ?a23 ?l23 ?c23 ?k23 ?a24 ?l24 ?c24 ?k24 ?a25 ?l25 ?c25 ?k25 ?a26 ?l26 ?c26 ?k26 ?a27 ?l27 ?c27 ?k27 ?a28 ?l28 ?c28 ?k28 ?a29 ?l29 ?c29 ?k29 ?a30 ?l30 ?c30 ?k30 ?a31 ?l31 ?c31 ?k31 ?a32 ?l32 ?c32 ?k32 ?a33 ?l33 ?c33 ?k33 ?a34 ?l34 ?c34 ?k34 ?a35 ?l35 ?c35 ?k35 ?a36 ?l36 ?c36 ?k36 ?a37 ?l37 ?c37 ?k37 ?a38 ?l38 ?c38 ?k38 ?a39 ?l39 ?c39 ?k39 ?a40 ?l40 ?c40 ?k40 ?a41 ?l41 ?c41 ?k41 ?a42 ?l42 ?c42 ?k42 ?a43 ?l43 ?c43 ?k43 ?a44 ?l44 ?c44 ?k44 ?a45 ?l45 ?c45 ?k45 ?a46 ?l46 ?c46 ?k46 ?a47 ?l47 ?c47 ?k47 ?a48 ?l48 ?c48 ?k48 ?a49 ?l49 ?c49 ?k49 ?a50 ?l50 ?c50 ?k50 ?a51 ?l51 ?c51 ?k51 ?a52 ?l52 ?c52 ?k52 ?a53 ?l53 ?c53 ?k53 ?a54 ?l54 ?c54 ?k54 ?a55 ?l55 ?c55 ?k55 ?a56 ?l56 ?c56 ?k56 ?a57 ?l57 ?c57 ?k57 ?a58 ?l58 ?c58 ?k58 ?ax_do_copy ?ax_do_drop ?ax_do_give ?nd_DEEDS ?lk_DEEDS ?hx_DEEDS0 ?hx_DEEDS1 ?hx_DEEDS2 ?hx_DEEDS3 ?hx_DEEDS4 ?hx_DEEDS5 ?hx_DEEDS6 ?hx_DEEDS7 ?hx_DEEDS8 ?hx_DEEDS9 ?pg_Cell ?hd_Cell ?po_Cell ?sa_Cell ?mk_Cell ?kc_Cell ?n_Cell_birth ?n_Cell_bulk ?n_Cell_tone ?n_Cell_load ?n_Cell_fields ?eq1_Cell ?eq2_Cell ?pg_Heap ?hd_Heap ?po_Heap ?sa_Heap ?mk_Heap ?kc_Heap ?n_Heap_room ?Zao ?n_Heap_used ?n_Heap_born ?pg_First ?hd_First ?po_First ?sa_First ?mk_First ?kc_First ?oi_First ?pg_Each ?hd_Each ?po_Each ?sa_Each ?mk_Each ?kc_Each ?oi_Each ?pg_Last ?hd_Last ?po_Last ?sa_Last ?mk_Last ?kc_Last ?oi_Last ?pg_Kind ?hd_Kind ?po_Kind ?sa_Kind ?mk_Kind ?kc_Kind ?n_Kind_looking ?n_Kind_tells ?pg_Hand ?hd_Hand ?po_Hand ?sa_Hand ?mk_Hand ?kc_Hand ?n_Hand_name ?n_Hand_slots ?pg_Sweeper ?hd_Sweeper ?po_Sweeper ?sa_Sweeper ?mk_Sweeper ?kc_Sweeper ?n_Sweeper_sense ?n_Sweeper_phase ?n_Sweeper_grey ?n_Sweeper_looked ?n_Sweeper_turn ?n_Sweeper_at ?n_Sweeper_stop ?n_Sweeper_walks ?n_Sweeper_looks ?n_Sweeper_passes ?n_Sweeper_loss ?pg_World ?hd_World ?po_World ?sa_World ?mk_World ?kc_World ?n_World_heap ?n_World_kind ?n_World_hands ?n_World_names ?n_World_sweeper ?x_EmptySlot ?x_Full ?x_NoField ?x_NoName ?e_EmptySlot_GreyError ?e_NoField_GreyError ?e_Full_GreyError ?e_NoName_GreyError ?yga_EmptySlot ?yno_EmptySlot ?ycl_EmptySlot ?yso_EmptySlot ?ysb_EmptySlot ?yis_EmptySlot ?yga_Full ?yno_Full ?ycl_Full ?yso_Full ?ysb_Full ?yis_Full ?yga_NoField ?yno_NoField ?ycl_NoField ?yso_NoField ?ysb_NoField ?yis_NoField ?yga_NoName ?yno_NoName ?ycl_NoName ?yso_NoName ?ysb_NoName ?yis_NoName ?ih_Each_at_begin ?ih_Last_at_begin ?z_ValueError ?z_bool ?z_int ?Zab ?z_len ?z_list ?z_range ?z_str ?z_tuple ?gl_NEW ?gr_NEW ?gl_OLD ?gr_OLD ?hk_EmptySlot_EmptySlot ?hk_EmptySlot_NoField ?hk_EmptySlot_Full ?hk_EmptySlot_NoName ?hk_EmptySlot_Sound ?hk_EmptySlot_TextError ?hk_EmptySlot_V ?hk_NoField_EmptySlot ?hk_NoField_NoField ?hk_NoField_Full ?hk_NoField_NoName ?hk_NoField_Sound ?hk_NoField_TextError ?hk_NoField_V ?hk_Full_EmptySlot ?hk_Full_NoField ?hk_Full_Full ?hk_Full_NoName ?hk_Full_Sound ?hk_Full_TextError ?hk_Full_V ?hk_NoName_EmptySlot ?hk_NoName_NoField ?hk_NoName_Full ?hk_NoName_NoName ?hk_NoName_Sound ?hk_NoName_TextError ?hk_NoName_V
  (case a_Cell=>k_is)
  (case a_Heap=>k_is)
  (case a_First=>k_is)
  (case a_Each=>k_is)
  (case a_Last=>k_is)
  (case a_Kind=>k_is)
  (case a_Hand=>k_is)
  (case a_Sweeper=>k_is)
  (case a_World=>k_is)
  (case a_GreyError=>k_is)
  (case a_EmptySlot=>k_is)
  (case a_NoField=>k_is)
  (case a_Full=>k_is)
  (case a_NoName=>k_is)
  (case a_Sound=>k_is)
  (case a_TextError=>k_is)
  (case a1=>k_is)
  (case i1=>k_is)
  (case l1=>k_is)
  (case c1=>k_is)
  (case k1=>k_is)
  (case a2=>k_is)
  (case i2=>k_is)
  (case l2=>k_is)
  (case c2=>k_is)
  (case k2=>k_is)
  (case a3=>k_is)
  (case i3=>k_is)
  (case l3=>k_is)
  (case c3=>k_is)
  (case k3=>k_is)
  (case a4=>k_is)
  (case i4=>k_is)
  (case l4=>k_is)
  (case c4=>k_is)
  (case k4=>k_is)
  (case a5=>k_is)
  (case i5=>k_is)
  (case l5=>k_is)
  (case t5=>k_is)
  (case dr5_0=>first | exact rfl | exact ⟨_,rfl⟩)
  (case dr5_1=>first | exact rfl | exact ⟨_,rfl⟩)
  (case c5=>k_is)
  (case k5=>k_is)
  (case a6=>k_is)
  (case i6=>k_is)
  (case l6=>k_is)
  (case c6=>k_is)
  (case k6=>k_is)
  (case a7=>k_is)
  (case i7=>k_is)
  (case l7=>k_is)
  (case c7=>k_is)
  (case k7=>k_is)
  (case a8=>k_is)
  (case i8=>k_is)
  (case l8=>k_is)
  (case c8=>k_is)
  (case k8=>k_is)
  (case a9=>k_is)
  (case l9=>k_is)
  (case c9=>k_is)
  (case k9=>k_is)
  (case a10=>k_is)
  (case l10=>k_is)
  (case c10=>k_is)
  (case k10=>k_is)
  (case a11=>k_is)
  (case l11=>k_is)
  (case c11=>k_is)
  (case k11=>k_is)
  (case a12=>k_is)
  (case i12=>k_is)
  (case l12=>k_is)
  (case c12=>k_is)
  (case k12=>k_is)
  (case a13=>k_is)
  (case i13=>k_is)
  (case l13=>k_is)
  (case c13=>k_is)
  (case k13=>k_is)
  (case a14=>k_is)
  (case i14=>k_is)
  (case l14=>k_is)
  (case c14=>k_is)
  (case k14=>k_is)
  (case a15=>k_is)
  (case i15=>k_is)
  (case l15=>k_is)
  (case c15=>k_is)
  (case k15=>k_is)
  (case a16=>k_is)
  (case i16=>k_is)
  (case l16=>k_is)
  (case c16=>k_is)
  (case k16=>k_is)
  (case a17=>k_is)
  (case i17=>k_is)
  (case l17=>k_is)
  (case c17=>k_is)
  (case k17=>k_is)
  (case a18=>k_is)
  (case i18=>k_is)
  (case l18=>k_is)
  (case c18=>k_is)
  (case k18=>k_is)
  (case a19=>k_is)
  (case l19=>k_is)
  (case c19=>k_is)
  (case k19=>k_is)
  (case a20=>k_is)
  (case i20=>k_is)
  (case l20=>k_is)
  (case c20=>k_is)
  (case k20=>k_is)
  (case a21=>k_is)
  (case i21=>k_is)
  (case l21=>k_is)
  (case c21=>k_is)
  (case k21=>k_is)
  (case a22=>k_is)
  (case i22=>k_is)
  (case l22=>k_is)
  (case c22=>k_is)
  (case k22=>k_is)
  (case a23=>k_is)
  (case l23=>k_is)
  (case c23=>k_is)
  (case k23=>k_is)
  (case a24=>k_is)
  (case l24=>k_is)
  (case c24=>k_is)
  (case k24=>k_is)
  (case a25=>k_is)
  (case l25=>k_is)
  (case c25=>k_is)
  (case k25=>k_is)
  (case a26=>k_is)
  (case l26=>k_is)
  (case c26=>k_is)
  (case k26=>k_is)
  (case a27=>k_is)
  (case l27=>k_is)
  (case c27=>k_is)
  (case k27=>k_is)
  (case a28=>k_is)
  (case l28=>k_is)
  (case c28=>k_is)
  (case k28=>k_is)
  (case a29=>k_is)
  (case l29=>k_is)
  (case c29=>k_is)
  (case k29=>k_is)
  (case a30=>k_is)
  (case l30=>k_is)
  (case c30=>k_is)
  (case k30=>k_is)
  (case a31=>k_is)
  (case l31=>k_is)
  (case c31=>k_is)
  (case k31=>k_is)
  (case a32=>k_is)
  (case l32=>k_is)
  (case c32=>k_is)
  (case k32=>k_is)
  (case a33=>k_is)
  (case l33=>k_is)
  (case c33=>k_is)
  (case k33=>k_is)
  (case a34=>k_is)
  (case l34=>k_is)
  (case c34=>k_is)
  (case k34=>k_is)
  (case a35=>k_is)
  (case l35=>k_is)
  (case c35=>k_is)
  (case k35=>k_is)
  (case a36=>k_is)
  (case l36=>k_is)
  (case c36=>k_is)
  (case k36=>k_is)
  (case a37=>k_is)
  (case l37=>k_is)
  (case c37=>k_is)
  (case k37=>k_is)
  (case a38=>k_is)
  (case l38=>k_is)
  (case c38=>k_is)
  (case k38=>k_is)
  (case a39=>k_is)
  (case l39=>k_is)
  (case c39=>k_is)
  (case k39=>k_is)
  (case a40=>k_is)
  (case l40=>k_is)
  (case c40=>k_is)
  (case k40=>k_is)
  (case a41=>k_is)
  (case l41=>k_is)
  (case c41=>k_is)
  (case k41=>k_is)
  (case a42=>k_is)
  (case l42=>k_is)
  (case c42=>k_is)
  (case k42=>k_is)
  (case a43=>k_is)
  (case l43=>k_is)
  (case c43=>k_is)
  (case k43=>k_is)
  (case a44=>k_is)
  (case l44=>k_is)
  (case c44=>k_is)
  (case k44=>k_is)
  (case a45=>k_is)
  (case l45=>k_is)
  (case c45=>k_is)
  (case k45=>k_is)
  (case a46=>k_is)
  (case l46=>k_is)
  (case c46=>k_is)
  (case k46=>k_is)
  (case a47=>k_is)
  (case l47=>k_is)
  (case c47=>k_is)
  (case k47=>k_is)
  (case a48=>k_is)
  (case l48=>k_is)
  (case c48=>k_is)
  (case k48=>k_is)
  (case a49=>k_is)
  (case l49=>k_is)
  (case c49=>k_is)
  (case k49=>k_is)
  (case a50=>k_is)
  (case l50=>k_is)
  (case c50=>k_is)
  (case k50=>k_is)
  (case a51=>k_is)
  (case l51=>k_is)
  (case c51=>k_is)
  (case k51=>k_is)
  (case a52=>k_is)
  (case l52=>k_is)
  (case c52=>k_is)
  (case k52=>k_is)
  (case a53=>k_is)
  (case l53=>k_is)
  (case c53=>k_is)
  (case k53=>k_is)
  (case a54=>k_is)
  (case l54=>k_is)
  (case c54=>k_is)
  (case k54=>k_is)
  (case a55=>k_is)
  (case l55=>k_is)
  (case c55=>k_is)
  (case k55=>k_is)
  (case a56=>k_is)
  (case l56=>k_is)
  (case c56=>k_is)
  (case k56=>k_is)
  (case a57=>k_is)
  (case l57=>k_is)
  (case c57=>k_is)
  (case k57=>k_is)
  (case a58=>k_is)
  (case l58=>k_is)
  (case c58=>k_is)
  (case k58=>k_is)
  (case ax_do_copy=>k_is)
  (case ax_do_drop=>k_is)
  (case ax_do_give=>k_is)
  (case nd_DEEDS=>k_is)
  (case lk_DEEDS=>k_is)
  (case hx_DEEDS0=>exact rfl)
  (case hx_DEEDS1=>exact rfl)
  (case hx_DEEDS2=>exact rfl)
  (case hx_DEEDS3=>exact rfl)
  (case hx_DEEDS4=>exact rfl)
  (case hx_DEEDS5=>exact rfl)
  (case hx_DEEDS6=>exact rfl)
  (case hx_DEEDS7=>exact rfl)
  (case hx_DEEDS8=>exact rfl)
  (case hx_DEEDS9=>exact rfl)
  (case pg_Cell=>k_is)
  (case hd_Cell=>k_is)
  (case po_Cell=>k_is)
  (case sa_Cell=>k_is)
  (case mk_Cell=>k_is)
  (case kc_Cell=>k_is)
  (case n_Cell_birth=>k_is)
  (case n_Cell_bulk=>k_is)
  (case n_Cell_tone=>k_is)
  (case n_Cell_load=>k_is)
  (case n_Cell_fields=>k_is)
  (case eq1_Cell=>k_is)
  (case eq2_Cell=>k_is)
  (case pg_Heap=>k_is)
  (case hd_Heap=>k_is)
  (case po_Heap=>k_is)
  (case sa_Heap=>k_is)
  (case mk_Heap=>k_is)
  (case kc_Heap=>k_is)
  (case n_Heap_room=>k_is)
  (case Zao=>k_is)
  (case n_Heap_used=>k_is)
  (case n_Heap_born=>k_is)
  (case pg_First=>k_is)
  (case hd_First=>k_is)
  (case po_First=>k_is)
  (case sa_First=>k_is)
  (case mk_First=>k_is)
  (case kc_First=>k_is)
  (case oi_First=>k_is)
  (case pg_Each=>k_is)
  (case hd_Each=>k_is)
  (case po_Each=>k_is)
  (case sa_Each=>k_is)
  (case mk_Each=>k_is)
  (case kc_Each=>k_is)
  (case oi_Each=>k_is)
  (case pg_Last=>k_is)
  (case hd_Last=>k_is)
  (case po_Last=>k_is)
  (case sa_Last=>k_is)
  (case mk_Last=>k_is)
  (case kc_Last=>k_is)
  (case oi_Last=>k_is)
  (case pg_Kind=>k_is)
  (case hd_Kind=>k_is)
  (case po_Kind=>k_is)
  (case sa_Kind=>k_is)
  (case mk_Kind=>k_is)
  (case kc_Kind=>k_is)
  (case n_Kind_looking=>k_is)
  (case n_Kind_tells=>k_is)
  (case pg_Hand=>k_is)
  (case hd_Hand=>k_is)
  (case po_Hand=>k_is)
  (case sa_Hand=>k_is)
  (case mk_Hand=>k_is)
  (case kc_Hand=>k_is)
  (case n_Hand_name=>k_is)
  (case n_Hand_slots=>k_is)
  (case pg_Sweeper=>k_is)
  (case hd_Sweeper=>k_is)
  (case po_Sweeper=>k_is)
  (case sa_Sweeper=>k_is)
  (case mk_Sweeper=>k_is)
  (case kc_Sweeper=>k_is)
  (case n_Sweeper_sense=>k_is)
  (case n_Sweeper_phase=>k_is)
  (case n_Sweeper_grey=>k_is)
  (case n_Sweeper_looked=>k_is)
  (case n_Sweeper_turn=>k_is)
  (case n_Sweeper_at=>k_is)
  (case n_Sweeper_stop=>k_is)
  (case n_Sweeper_walks=>k_is)
  (case n_Sweeper_looks=>k_is)
  (case n_Sweeper_passes=>k_is)
  (case n_Sweeper_loss=>k_is)
  (case pg_World=>k_is)
  (case hd_World=>k_is)
  (case po_World=>k_is)
  (case sa_World=>k_is)
  (case mk_World=>k_is)
  (case kc_World=>k_is)
  (case n_World_heap=>k_is)
  (case n_World_kind=>k_is)
  (case n_World_hands=>k_is)
  (case n_World_names=>k_is)
  (case n_World_sweeper=>k_is)
  (case x_EmptySlot=>k_exc)
  (case x_Full=>k_exc)
  (case x_NoField=>k_exc)
  (case x_NoName=>k_exc)
  (case e_EmptySlot_GreyError=>kts_exm)
  (case e_NoField_GreyError=>kts_exm)
  (case e_Full_GreyError=>kts_exm)
  (case e_NoName_GreyError=>kts_exm)
  (case yga_EmptySlot=>k_is)
  (case yno_EmptySlot=>k_is)
  (case ycl_EmptySlot=>k_is)
  (case yso_EmptySlot=>k_is)
  (case ysb_EmptySlot=>k_is)
  (case yis_EmptySlot=>k_is)
  (case yga_Full=>k_is)
  (case yno_Full=>k_is)
  (case ycl_Full=>k_is)
  (case yso_Full=>k_is)
  (case ysb_Full=>k_is)
  (case yis_Full=>k_is)
  (case yga_NoField=>k_is)
  (case yno_NoField=>k_is)
  (case ycl_NoField=>k_is)
  (case yso_NoField=>k_is)
  (case ysb_NoField=>k_is)
  (case yis_NoField=>k_is)
  (case yga_NoName=>k_is)
  (case yno_NoName=>k_is)
  (case ycl_NoName=>k_is)
  (case yso_NoName=>k_is)
  (case ysb_NoName=>k_is)
  (case yis_NoName=>k_is)
  (case ih_Each_at_begin=>k_is)
  (case ih_Last_at_begin=>k_is)
  (case z_ValueError=>k_is)
  (case z_bool=>k_is)
  (case z_int=>k_is)
  (case Zab=>k_is)
  (case z_len=>k_is)
  (case z_list=>k_is)
  (case z_range=>k_is)
  (case z_str=>k_is)
  (case z_tuple=>k_is)
  (case gl_NEW=>k_is)
  (case gr_NEW=>first | exact rfl | exact ⟨_,rfl⟩)
  (case gl_OLD=>k_is)
  (case gr_OLD=>first | exact rfl | exact ⟨_,rfl⟩)
  (case hk_EmptySlot_EmptySlot=>kit_is)
  (case hk_EmptySlot_NoField=>kit_is)
  (case hk_EmptySlot_Full=>kit_is)
  (case hk_EmptySlot_NoName=>kit_is)
  (case hk_EmptySlot_Sound=>kit_is)
  (case hk_EmptySlot_TextError=>kit_is)
  (case hk_EmptySlot_V=>kit_is)
  (case hk_NoField_EmptySlot=>kit_is)
  (case hk_NoField_NoField=>kit_is)
  (case hk_NoField_Full=>kit_is)
  (case hk_NoField_NoName=>kit_is)
  (case hk_NoField_Sound=>kit_is)
  (case hk_NoField_TextError=>kit_is)
  (case hk_NoField_V=>kit_is)
  (case hk_Full_EmptySlot=>kit_is)
  (case hk_Full_NoField=>kit_is)
  (case hk_Full_Full=>kit_is)
  (case hk_Full_NoName=>kit_is)
  (case hk_Full_Sound=>kit_is)
  (case hk_Full_TextError=>kit_is)
  (case hk_Full_V=>kit_is)
  (case hk_NoName_EmptySlot=>kit_is)
  (case hk_NoName_NoField=>kit_is)
  (case hk_NoName_Full=>kit_is)
  (case hk_NoName_NoName=>kit_is)
  (case hk_NoName_Sound=>kit_is)
  (case hk_NoName_TextError=>kit_is)
  (case hk_NoName_V=>kit_is)
#print axioms PySem.Challenge.cw_greywalk_k21_deeds_refused_holds
