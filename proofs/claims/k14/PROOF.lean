import PyProof.Rows.All
import Lean
import KE.KTryMore
import KE.KItemsList
import KE.KItem
import KE.RegKTryMore
import KE.KDictList
import PySem.Challenge.RW_greywalk_k14_noting
set_option Elab.async false
set_option linter.all false
set_option compiler.extract_closed false
set_option maxRecDepth 100000
abbrev aC:=PySem.W.Frag
theorem cJ{α:Type}{l:List α}{i:Nat}(h:i<l.length):l[i]? =some l[i]:=List.getElem?_eq_getElem h
theorem cV{α:Type}{l:List α}{i:Nat}{a:α}(h:l[i]? =some a):∃h:i<l.length,l[i]=a:=List.getElem?_eq_some_iff.mp h
theorem dB{α β:Type}{f:α->β}{l:List α}{i:Nat}:(l.map f)[i]? =l[i]?.map f:=List.getElem?_map
theorem aU{α β:Type}{l:List α}(f:α->β):(l.map f).length=l.length:=List.length_map f
namespace L2
open PySem PySem.Spec PyProof.Rows
abbrev Key:=Sum Int Str
def Gp:Key->Value->Bool
 | .inl k,v=>Value.isInt k v
 | .inr x,v=>Value.isStrOf x v
def Zq4(w:World):Key->Int
 | .inl k=>hashInt k
 | .inr x=>hashStr w x
theorem fD:∀{k:Key}{v:Value},Gp k v=true->(∃i t,k=Sum.inl i/\v=Value.int i t)\/(∃x t,k=Sum.inr x/\v=Value.str x t)
 | .inl i,v,h=>by
  obtain⟨t,e⟩:=Value.isInt_shape (k:=i) (v:=v) h;exact .inl ⟨i,t,rfl,e⟩
 | .inr x,v,h=>by
  obtain⟨t,e⟩:=Value.isStrOf_shape (x:=x) (v:=v) h;exact .inr ⟨x,t,rfl,e⟩
theorem Ze2(i:Int)(t:Tok):Gp (.inl i) (.int i t)=true:=by simp[Gp,Value.isInt]
theorem Ze1(x:Str)(t:Tok):Gp (.inr x) (.str x t)=true:=by simp[Gp,Value.isStrOf]
theorem Znl(a b:Int):decide ((Sum.inl a:Key)=Sum.inl b)=(a == b):=by
 by_cases e:a=b
 ·subst e;simp
 ·have h:¬ (Sum.inl a:Key)=Sum.inl b:=λq=>e (Sum.inl.inj q);rw[decide_eq_false h];exact(beq_eq_false_iff_ne.mpr e).symm
theorem Zni(a b:Str):decide ((Sum.inr a:Key)=Sum.inr b)=decide (a=b):=by
 by_cases e:a=b
 ·subst e;simp
 ·have h:¬ (Sum.inr a:Key)=Sum.inr b:=λq=>e (Sum.inr.inj q);rw[decide_eq_false h,decide_eq_false e]
theorem Znk(a:Int)(b:Str):decide ((Sum.inl a:Key)=Sum.inr b)=false:=decide_eq_false (λq=>nomatch q)
theorem Znj(a:Str)(b:Int):decide ((Sum.inr a:Key)=Sum.inl b)=false:=decide_eq_false (λq=>nomatch q)
def fB(prog:Program)(w:World):PySem.KeyKind prog w Key where
  is:=Gp
  hash:=Zq4 w
  inj:=λv a b ha hb=>by
    rcases fD ha with ⟨i,t,rfl,rfl⟩ | ⟨x,t,rfl,rfl⟩
    · rcases fD hb with ⟨j,u,rfl,e⟩ | ⟨y,u,rfl,e⟩
      · injection e with e1 _;rw[e1]
      · exact nomatch e
    · rcases fD hb with ⟨j,u,rfl,e⟩ | ⟨y,u,rfl,e⟩
      · exact nomatch e
      · injection e with e1 _;rw[e1]
  byValue:=λk v h=>by
    rcases fD h with ⟨i,t,rfl,rfl⟩ | ⟨x,t,rfl,rfl⟩<;>rfl
  pyHash:=λhv h=>by
    rcases fD hv with ⟨i,t,rfl,rfl⟩ | ⟨x,t,rfl,rfl⟩
    · exact wpAny_pyHash_int h
    · exact wpAny_pyHash_str h
  eqBool:=λhu hv h=>by
    rcases fD hu with ⟨i,t,rfl,rfl⟩ | ⟨x,t,rfl,rfl⟩
    · rcases fD hv with ⟨j,u,rfl,rfl⟩ | ⟨y,u,rfl,rfl⟩
      · rw[Znl]at h;exact wpAny_eqBool_int h
      · rw[Znk]at h;exact SeqAt.EqAt.int_str i t y u _ _ _ _ h
    · rcases fD hv with ⟨j,u,rfl,rfl⟩ | ⟨y,u,rfl,rfl⟩
      · rw[Znj]at h;exact SeqAt.EqAt.str_int x t j u _ _ _ _ h
      · rw[Zni]at h;exact wpAny_eqBool_str h
  «strs»:=λk x t v h=>by
    rcases fD h with ⟨i,u,rfl,e⟩ | ⟨y,u,rfl,e⟩
    · exact nomatch e
    · injection e with e1 _
      subst e1;cases v<;>rfl
theorem Yt(prog:Program)(w:World)(i:Int)(t:Tok):(fB prog w).is (.inl i) (.int i t)=true:=Ze2 i t
theorem Ys(prog:Program)(w:World)(x:Str)(t:Tok):(fB prog w).is (.inr x) (.str x t)=true:=Ze1 x t
end L2
namespace L2
open PySem PySem.Spec PyProof.Rows
inductive V where
 | non | bl (b:Bool) | int (i:Int) | str (x:Str) | byt (b:Array UInt8) | flt (b:UInt64) | ref (a:Addr) | ty (n:String)
 deriving DecidableEq
def RelV:V->Value->Prop
 | .non,u=>u=Value.none
 | .bl b,u=>u=Value.bool b
 | .int i,u=>∃t,u=Value.int i t
 | .str x,u=>∃t,u=Value.str x t
 | .byt b,u=>∃t,u=Value.bytes b t
 | .flt b,u=>∃t,u=Value.float b t
 | .ref a,u=>u=Value.ref a
 | .ty n,u=>u=Value.type n
abbrev Vals:List V->List Value->Prop:=Paired RelV
theorem Vals.length{xs:List V}{us:List Value}(r:Vals xs us):xs.length=us.length:=Paired.length r
theorem Vals.get:∀{xs:List V}{us:List Value}{i:Nat}{x:V},Vals xs us->xs[i]? =some x->∃u,us[i]? =some u/\RelV x u
 | _,_,_,_,.nil,e=>by simp at e
 | _,_,0,_,.cons r _,e=>by simp at e;subst e;exact⟨_,rfl,r⟩
 | _,_,i+1,x,.cons _ t,e=>by
  obtain⟨u,h1,h2⟩:=Vals.get (i:=i) (x:=x) t (by simpa using e);exact⟨u,by simpa using h1,h2⟩
theorem Vals.set{x:V}{u:Value}(r:RelV x u):∀{xs:List V}{us:List Value} (i:Nat),Vals xs us->Vals (xs.set i x) (us.set i u)
 | _,_,_,.nil=>.nil
 | _,_,0,.cons _ t=>.cons r t
 | _,_,i+1,.cons q t=>.cons q (Vals.set r i t)
theorem Vals.append:∀{xs ys:List V}{us ws:List Value},Vals xs us->Vals ys ws->Vals (xs++ys) (us++ws)
 | _,_,_,_,.nil,s=>s
 | _,_,_,_,.cons r t,s=>.cons r (Vals.append t s)
theorem Vals.take:∀{xs:List V}{us:List Value} (n:Nat),Vals xs us->Vals (xs.take n) (us.take n)
 | _,_,0,_=>.nil
 | _,_,_+1,.nil=>.nil
 | _,_,n+1,.cons r t=>.cons r (Vals.take n t)
theorem Vals.drop:∀{xs:List V}{us:List Value} (n:Nat),Vals xs us->Vals (xs.drop n) (us.drop n)
 | _,_,0,r=>r
 | _,_,_+1,.nil=>.nil
 | _,_,n+1,.cons _ t=>Vals.drop n t
def Ht:Option V->Option Value->Prop
 | some v,some u=>RelV v u
 | none,none=>True
 | _,_=>False
def KV{κ:Type}:List (κ×V)->List (κ×Value)->Prop:=Paired λ(p:κ×V) (q:κ×Value)=>p.1=q.1/\RelV p.2 q.2
def kV:Key->V
 | .inl i=>.int i
 | .inr x=>.str x
inductive HO where
  | lst (xs:List V)
  | tup (xs:List V)
  | dK (kvs:List (Key×V)) | dT (kvs:List (List Key×V))
  | set (S:Int->Bool) (n:Nat)
  | ins (C dx:Addr) (fs:List (Str×V))
  | own (x:Addr)
  | xd (fs:List (Str×V))
  | met (f x:Addr)
  | rng (lo hi:Int)
  | uC (o:Obj) (u:HO)
  | Bl (ps:Array Value)
  | ext (φ:Heap->Prop)
abbrev Hp:=Addr->Option HO
def upd(H:Hp)(a:Addr)(o:HO):Hp:=λb=>if b=a then some o else H b
theorem ao{H:Hp}{a:Addr}{o:HO}:upd H a o a=some o:=by unfold upd;rw[if_pos rfl]
theorem aA{H:Hp}{a b:Addr}{o:HO}(h:b≠a):upd H a o b=H b:=by unfold upd;rw[if_neg h]
theorem eU{H:Hp}{a:Addr}{o u:HO}:upd (upd H a o) a u=upd H a u:=by
 funext b;unfold upd;split<;>rfl
theorem pX{H:Hp}{a b:Addr}{o u:HO}(h:H a=some o)(h':H b=some u)(d:o≠u):a≠b:=by
 intro e;subst e;rw[h]at h';exact d (Option.some.inj h')
theorem aB{H:Hp}{a b:Addr}{o:HO}(h:H a=some o)(h':H b=none):a≠b:=by
 intro e;subst e;rw[h]at h';cases h'
section
variable (P:Program)(w:World)
def jx(H:Hp)(h:Heap)(a:Addr):HO->Prop
 | .lst xs=>xs.length<=sizeLine/\∃(its:List Value) (n:Nat),Vals xs its/\h.get? a=some { cls:=.type "list",data:=.seq its.toArray n }
 | .tup xs=>xs.length<=sizeLine/\∃its:List Value,Vals xs its/\IsTup h a its.toArray
 | .dK kvs=>kvs.length<=sizeLine/\(a == sysModules)=false/\∃vs,KV kvs vs/\h.DictOf (fB P w) a vs
 | .dT kvs=>kvs.length<=sizeLine/\(a == sysModules)=false/\∃xs:List (List Key×Addr×Value),
   Paired (λ(p:List Key×V) (q:List Key×Addr×Value)=>p.1=q.1/\H q.2.1=some (.tup (p.1.map kV))/\RelV p.2 q.2.2) kvs xs/\
   ∃o es ep,h.get? a=some o/\o.ExactDict/\o.data=.dict es ep/\es.toList=xs.map (entryOfKey (tupleKind (fB P w)))/\(xs.map (·.1)).Nodup
 | .set S n=>h.SetOf (intKind P w) a S n
 | .ins C dx fs=>H dx=some (.own a)/\fs.length<=1000/\dx≠a/\h.get? a=some (W.instObj C dx)/\
   ∃mA,h.Ns1 dx mA/\(∀f,Ht (fs.lookup f) (mA f))/\PySem.Within mA (fs.map (·.1))
 | .own _=>∃o,h.get? a=some o
 | .xd fs=>∃mA,h.Ns1 a mA/\∀f,Ht (fs.lookup f) (mA f)
 | .rng lo hi=>∃t u v,h.get? a=some { cls:=.type "range",data:=.fields #[.int lo t,.int hi u,.int 1 v] }
 | .uC o u=>h.get? a=some o/\jx H h a u
 | .Bl ps=>h.get? a=some { cls:=.none,data:=.fields ps }
 | .met f x=>h.get? a=some (W.methodObj (.ref f) (.ref x))
 | .ext φ=>φ h/\(∃o,h.get? a=some o)/\∀h1 h2:Heap,φ h1->(∀o,h1.get? a=some o->h2.get? a=some o)->φ h2
def BR(H:Hp)(h:Heap):Prop:=∀a o,H a=some o->jx P w H h a o
end
section
variable {P:Program}{w:World}{H H':Hp}{h h':Heap}{a:Addr}{o:HO}
theorem jx.lt(x:jx P w H h a o):a<h.objs.size:=by
 cases o with
 | lst xs=>obtain⟨_,_,_,_,e⟩:=x;exact Heap.lt_size e
 | tup xs=>obtain⟨_,_,_,p⟩:=x;exact p.lt
 | dK kvs=>obtain⟨_,_,_,_,o,_,_,e,_⟩:=x;exact Heap.lt_size e
 | dT kvs=>obtain⟨_,_,_,_,o,_,_,e,_⟩:=x;exact Heap.lt_size e
 | set S n=>obtain⟨o,_,_,_,e,_⟩:=x;exact Heap.lt_size e
 | ins C dx fs=>obtain⟨_,_,_,e,_⟩:=x;exact Heap.lt_size e
 | own y=>obtain⟨_,e⟩:=x;exact Heap.lt_size e
 | xd fs=>obtain⟨_,⟨_,_,_,e,_⟩,_⟩:=x;exact Heap.lt_size e
 | rng lo hi=>obtain⟨_,_,_,e⟩:=x;exact Heap.lt_size e
 | uC ob u=>obtain⟨e,_⟩:=x;exact Heap.lt_size e
 | Bl ps=>exact Heap.lt_size (show h.get? a=some _ from x)
 | met f y=>exact Heap.lt_size (show h.get? a=some _ from x)
 | ext φ=>obtain⟨_,⟨_,e⟩,_⟩:=x;exact Heap.lt_size e
theorem Paired.Znd{α β:Type}{F G:α->β->Prop}:∀{l₁:List α}{l₂:List β},Paired F l₁ l₂->(∀a b,F a b->G a b)->Paired G l₁ l₂
 | _,_,.nil,_=>.nil
 | _,_,.cons r t,f=>.cons (f _ _ r) (Paired.Znd t f)
theorem jx.stay(x:jx P w H h a o)(k:∀b u,(b=a\/H b=some (.own a))->h.get? b=some u->h'.get? b=some u)
  (ho:∀b,H b=some (.own a)->H' b=some (.own a)) (ht:∀b xs,H b=some (.tup xs)->H' b=some (.tup xs)):jx P w H' h' a o:=by
 induction o with
 | lst xs=>obtain⟨z,its,n,r,e⟩:=x;exact⟨z,its,n,r,k _ _ (.inl rfl) e⟩
 | tup xs=>obtain⟨z,its,r,ob,e,c⟩:=x;exact⟨z,its,r,ob,k _ _ (.inl rfl) e,c⟩
 | dK kvs=>obtain⟨z,y,vs,r,ob,es,ep,e,c⟩:=x;exact⟨z,y,vs,r,ob,es,ep,k _ _ (.inl rfl) e,c⟩
 | dT kvs=>
  obtain⟨z,y,xs,r,ob,es,ep,e,c⟩:=x;exact⟨z,y,xs,Paired.Znd r λp q z=>⟨z.1,ht _ _ z.2.1,z.2.2⟩,ob,es,ep,k _ _ (.inl rfl) e,c⟩
 | set S n=>obtain⟨ob,es,ep,t,e,c⟩:=x;exact⟨ob,es,ep,t,k _ _ (.inl rfl) e,c⟩
 | ins C dx fs=>
  obtain⟨d,z,ne,e,mA,⟨od,es,ep,e2,c⟩,r⟩:=x;exact⟨ho _ d,z,ne,k _ _ (.inl rfl) e,mA,⟨od,es,ep,k _ _ (.inr d) e2,c⟩,r⟩
 | own y=>obtain⟨ob,e⟩:=x;exact⟨ob,k _ _ (.inl rfl) e⟩
 | xd fs=>obtain⟨mA,⟨od,es,ep,e,c⟩,r⟩:=x;exact⟨mA,⟨od,es,ep,k _ _ (.inl rfl) e,c⟩,r⟩
 | rng lo hi=>obtain⟨t,u,v,e⟩:=x;exact⟨t,u,v,k _ _ (.inl rfl) e⟩
 | uC ob u ih=>obtain⟨e,q⟩:=x;exact⟨k _ _ (.inl rfl) e,ih q⟩
 | Bl ps=>
  have e:h.get? a=some { cls:=.none,data:=.fields ps }:=x;show h'.get? a=some { cls:=.none,data:=.fields ps };exact k a _ (.inl rfl) e
 | met f y=>
  have e:h.get? a=some (W.methodObj (.ref f) (.ref y)):=x;show h'.get? a=some (W.methodObj (.ref f) (.ref y));exact k a _ (.inl rfl) e
 | ext φ=>obtain⟨p,⟨o,e⟩,st⟩:=x;exact⟨st _ _ p λo q=>k _ _ (.inl rfl) q,⟨o,k _ _ (.inl rfl) e⟩,st⟩
theorem BR.lt(x:BR P w H h)(e:H a=some o):a<h.objs.size:=(x a o e).lt
theorem BR.fresh(x:BR P w H h)(e:h.objs.size<=a):H a=none:=by
 cases q:H a with
 | none=>rfl
 | some u=>exact absurd (Nat.lt_of_lt_of_le (x.lt q) e) (Nat.lt_irrefl _)
theorem BR.kept(x:BR P w H h)(k:∀b u,h.get? b=some u->h'.get? b=some u):BR P w H h':=λa o e=>
 (x a o e).stay (λb u _ q=>k b u q) (λ_ q=>q) λ_ _ q=>q
theorem BR.laid(x:BR P w H h)(k:∀b u,h.get? b=some u->h'.get? b=some u)(hp:h.objs.size<=a)(new:jx P w (upd H a o) h' a o):BR P w (upd H a o) h':=λb u e=>by
 have hn:=x.fresh hp
 by_cases hb:b=a
 ·subst hb;rw[ao]at e;cases e;exact new
 ·rw[aA hb]at e;exact(x b u e).stay (λc v _ q=>k c v q) (λc q=>by rw[aA (aB q hn)];exact q) λc xs q=>by rw[aA (aB q hn)];exact q
end
def Rd(H:Hp)(a:Addr)(u:HO):Prop:=H a=some u\/∃o,H a=some (.uC o u)
theorem Rd.ok{P:Program}{w:World}{H:Hp}{h:Heap}{a:Addr}{u:HO}(r:Rd H a u)(x:BR P w H h):jx P w H h a u:=by
 rcases r with r | ⟨o,r⟩
 ·exact x a u r
 ·obtain⟨_,q⟩:=x a _ r;exact q
def Mut:Option HO->Prop
 | some (.lst _)=>True
 | some (.dK _)=>True
 | some (.dT _)=>True
 | some (.set _ _)=>True
 | some (.ins _ _ _)=>True
 | some (.ext _)=>True
 | _=>False
section
variable {P:Program}{w:World}{H:Hp}{h h':Heap}{x e:Addr}{o':HO}
theorem BR.write(ok:BR P w H h)(mu:Mut (H x))(he:e=x\/H e=some (.own x))(k:∀b u,b≠e->h.get? b=some u->h'.get? b=some u)(heo:∃u,h'.get? e=some u)
  (new:jx P w (upd H x o') h' x o'):BR P w (upd H x o') h':=λb u q=>by
 have Zpx:∀c y,H c=some (.own y)->c≠x:=λc y r z=>by subst z;rw[r]at mu;exact mu
 have Zrr:∀c xs,H c=some (.tup xs)->c≠x:=λc xs r z=>by subst z;rw[r]at mu;exact mu
 by_cases hb:b=x
 ·subst hb;rw[ao]at q;cases q;exact new
 ·rw[aA hb]at q
  by_cases hbe:b=e
  ·have q':H b=some (.own x):=by
    rcases he with z | z
    ·exact absurd (hbe.trans z) hb
    ·rw[hbe];exact z
   rw[q]at q';cases q';obtain⟨v,hv⟩:=heo;exact⟨v,by rw[hbe];exact hv⟩
  ·refine(ok b u q).stay (λc v hc r=>k c v ?_ r) (λc r=>by rw[aA (Zpx c b r)];exact r) λc xs r=>by rw[aA (Zrr c xs r)];exact r
   rcases hc with rfl | hc
   ·exact hbe
   ·rintro rfl;rcases he with z | z
    ·exact Zpx c b hc z
    ·rw[hc]at z;cases z;exact hb rfl
end
structure Un(fs ex:List Addr)(H H':Hp)(h h':Heap):Prop where
 keep:∀b o,h.get? b=some o->H b=none->b∉fs->b∉ex->h'.get? b=some o
 slot:∀b o,h.get? b=some o->H b=none->b∈fs->b∉ex->∃sl,h'.get? b=some { o with slots:=sl }
 free:∀b o,h.get? b=some o->H b=none->b∉ex->H' b=none
 there:∀b o,h.get? b=some o->b∉ex->∃o',h'.get? b=some o'
 tups:∀b xs,H b=some (.tup xs)->H' b=some (.tup xs)
 Jz:∀b o u,H b=some (.uC o u)->H' b=some (.uC o u)
 Ku:∀b ps,H b=some (.Bl ps)->∃more,H' b=some (.Bl (ps++more))
section
variable {fs fs' ex ex':List Addr}{H H1 H2:Hp}{h h1 h2 h':Heap}{a x e:Addr}{o:HO}
theorem Un.any(u:Un fs ex H H1 h h1){b:Addr}{ob:Obj}(q:h.get? b=some ob)(n:H b=none)(hx:b∉ex):∃sl,h1.get? b=some { ob with slots:=sl }:=by
 by_cases hb:b∈fs
 ·exact u.slot b ob q n hb hx
 ·exact⟨ob.slots,u.keep b ob q n hb hx⟩
theorem Un.kept(k:∀b u,h.get? b=some u->h'.get? b=some u):Un fs ex H H h h':=
 ⟨λb ob q _ _ _=>k b ob q,λb ob q _ _ _=>⟨ob.slots,k b ob q⟩,λ_ _ _ n _=>n,λb ob q _=>⟨ob,k b ob q⟩,λ_ _ q=>q,λ_ _ _ q=>q,λ_ ps q=>⟨#[],by rw[q];simp⟩⟩
theorem Un.refl:Un fs ex H H h h:=Un.kept λ_ _ q=>q
theorem Un.laid(k:∀b u,h.get? b=some u->h'.get? b=some u)(hp:h.objs.size<=a)(hn:H a=none):Un fs ex H (upd H a o) h h' where
 keep:=λb u q _ _ _=>k b u q
 slot:=λb u q _ _ _=>⟨u.slots,k b u q⟩
 free:=λb u q n _=>by rw[aA (Nat.ne_of_lt (Nat.lt_of_lt_of_le (Heap.lt_size q) hp))];exact n
 there:=λb u q _=>⟨u,k b u q⟩
 tups:=λb xs q=>by rw[aA (aB q hn)];exact q
 Jz:=λb u xs q=>by rw[aA (aB q hn)];exact q
 Ku:=λb ps q=>⟨#[],by rw[aA (aB q hn),q];simp⟩
theorem Un.write(mu:Mut (H x))(he:e=x\/H e=some (.own x))(k:∀b u,b≠e->h.get? b=some u->h'.get? b=some u)(heo:∃u,h'.get? e=some u):Un fs ex H (upd H x o) h h':=by
 have hx:∀b,H b=none->b≠x:=λb n z=>by subst z;rw[n]at mu;exact mu
 have hb:∀b,H b=none->b≠e:=λb n z=>by
  subst z;rcases he with r | r
  ·exact hx b n r
  ·rw[n]at r;cases r
 have hm:∀b u,H b=some u->¬ Mut (some u)->b≠x:=λb u q nm z=>by subst z;rw[q]at mu;exact nm mu
 refine⟨λb u q n _ _=>k b u (hb b n) q,λb u q n _ _=>⟨u.slots,k b u (hb b n) q⟩,λb u q n _=>by rw[aA (hx b n)];exact n,λb u q _=>?_,
  λb xs q=>by rw[aA (hm b _ q λz=>z)];exact q,λb u xs q=>by rw[aA (hm b _ q λz=>z)];exact q,λb ps q=>⟨#[],by rw[aA (hm b _ q λz=>z),q];simp⟩⟩
 by_cases hbe:b=e
 ·subst hbe;exact heo
 ·exact⟨u,k b u hbe q⟩
end
def trk(h:Heap)(H:Hp):List Addr:=(List.range h.objs.size).filter λa=>(H a).isSome
def V5(h:Heap)(H:Hp):Heap:=W.hideAll h (trk h H)
theorem Zeb(h:Heap)(H:Hp):(V5 h H).objs.size=h.objs.size:=W.hideAll_size _ _
theorem Zhh{h:Heap}{H:Hp}{b:Addr}{o:Obj}(e:h.get? b=some o)(n:H b=none):(V5 h H).get? b=some o:=
 W.hideAll_get _ e λhm=>by
  have q:(H b).isSome=true:=(List.mem_filter.mp hm).2;rw[n]at q;simp at q
theorem Zk2{h:Heap}{H:Hp}{b:Addr}{o:Obj}(e:(V5 h H).get? b=some o):h.get? b=some o/\H b=none:=by
 have e':h.get? b=some o:=W.of_hideAll (trk h H) e;refine⟨e',?_⟩;cases q:H b with
 | none=>rfl
 | some x=>
  have hm:b∈trk h H:=List.mem_filter.mpr ⟨List.mem_range.mpr (Heap.lt_size e'),by simp[q]⟩;have z:(V5 h H).get? b=none:=W.hideAll_none (trk h H) hm;rw[z]at e;cases e
def Zll(g h:Heap)(L:Addr):List (Addr×Obj):=(List.range h.objs.size).filterMap λa=>if a=L\/(g.get? a).isSome=true then none else(h.get? a).map λo=>(a,o)
def rest(g h:Heap)(L d:Addr):List (Addr×Obj):=(Zll g h L).filter λp=>decide (p.1≠d)
end L2
namespace L2
open PySem PySem.Spec PyProof.Rows
structure Mod(K:aC)(mg:Str->Option Value)(base:Heap):Prop where
 kin:K.In base
 glob:base.Ns mainGlobals mg
 blt:∃mb,base.Ns builtinsNs mb/\∀x:Str,x≠"__name__"->mb x=bootBuiltins x
 nolimit:base.NoLimit
structure Cx where
 prog:Program
 w:World
 K:aC
 mg:Str->Option Value
 base:Heap
 A:Around
 N:List Str
 s₀:Shared
 H₀:Hp
 env:Env
 outer:List Env
 stack:List Env
 ex:List Addr
 fn:Str->Bool
 calm:Bool
 pn:List (Addr×Obj)
 xe:Value->Shared->Prop
def frs(l:List Env):List Addr:=l.filterMap (·.frame)
abbrev Cx.fs(X:Cx):List Addr:=frs X.outer
def Vis(sc:Scope)(x:Str):Prop:=sc.names.lookup x=some .local\/sc.names.lookup x=some .cell\/sc.names.lookup x=some .free
def Loc(sc:Scope)(x:Str):Prop:=sc.names.lookup x=some .local\/sc.names.lookup x=some .cell
def Look(env:Env)(h:Heap)(m:Str->Option Value)(x:Str)(u:Value):Prop:=
 (env.kindOf x=some .local/\m x=some u)\/((env.kindOf x=some .cell\/env.kindOf x=some .free)/\∃c,env.cells.lookup x=some c/\h.IsCell c (some u))
structure Cx.Ok(X:Cx):Prop where
 mod:Mod X.K X.mg X.base
 kind:X.env.scope.kind=.function
 glob:X.env.globals=mainGlobals
 blt:X.env.builtins=builtinsNs
 above:X.s₀.heap.objs.size<=X.env.locals
 inj:∀x y c,X.env.cells.lookup x=some c->X.env.cells.lookup y=some c->x=y
 has:∀x,(X.env.kindOf x=some .cell\/X.env.kindOf x=some .free)->∃c,X.env.cells.lookup x=some c
 cab:∀x c,X.fn x=true->X.env.cells.lookup x=some c->X.s₀.heap.objs.size<=c
 hd:X.calm=true->X.A.handled=none
 frames:X.A.frames=some X.stack
 stk:X.stack=X.outer\/(X.stack=X.env::X.outer/\X.env.frame=some X.env.locals)
 exf:∀b∈X.ex,b≠X.env.locals/\∀x c,X.env.cells.lookup x=some c->c≠b
 bs:∀b o,X.base.get? b=some o->X.s₀.heap.get? b=some o/\X.H₀ b=none
 bsz:X.base.objs.size<=X.s₀.heap.objs.size
 Zdv:∀b o,X.base.get? b=some o->b∉X.ex
 Zi0:∀b∈X.ex,b∉X.fs
 DW:X.s₀.heap.FunFrames X.base X.outer
 frf:∀b∈X.fs,X.H₀ b=none
structure Inv(X:Cx)(pins:List (Addr×Obj))(σ:List (Option V))(H:Hp)(s:Shared):Prop where
 ok:X.Ok
 os:s.os=X.s₀.os
 bare:AllBare s.gens
 base:Un X.fs X.ex X.H₀ H X.s₀.heap s.heap
 loc:∃m,s.heap.Ns X.env.locals m/\∀(i:Nat) (x:Str) (v:V),X.N[i]? =some x->σ[i]? =some (some v)->Vis X.env.scope x->∃u,RelV v u/\Look X.env s.heap m x u
 cell:∀x c,X.env.cells.lookup x=some c->∃v,s.heap.IsCell c v
 free:H X.env.locals=none
 Ba:∀x c,X.env.cells.lookup x=some c->H c=none
 pin:∀p∈X.pn++pins,s.heap.get? p.1=some p.2/\H p.1=none/\p.1≠X.env.locals/\p.1∉X.fs/\∀v,p.2.data≠.cell v
 hok:BR X.prog X.w H s.heap
 len:σ.length=X.N.length
section
variable {X:Cx}{pins:List (Addr×Obj)}{σ:List (Option V)}{H H':Hp}{s:Shared}{h':Heap}
theorem Cx.Ok.Zrt(ok:X.Ok){b:Addr}{o:Obj}(e:X.base.get? b=some o):b∉X.fs:=λhb=>by
 have:=(ok.DW.mem hb).1;rw[e]at this;cases this
theorem Inv.bs(I:Inv X pins σ H s):∀b o,X.base.get? b=some o->s.heap.get? b=some o/\H b=none:=λb o e=>
 ⟨I.base.keep b o (I.ok.bs b o e).1 (I.ok.bs b o e).2 (I.ok.Zrt e) (I.ok.Zdv b o e),I.base.free b o (I.ok.bs b o e).1 (I.ok.bs b o e).2 (I.ok.Zdv b o e)⟩
theorem Inv.bk(I:Inv X pins σ H s):∀b o,X.base.get? b=some o->s.heap.get? b=some o:=λb o e=>(I.bs b o e).1
theorem Inv.mod(I:Inv X pins σ H s):Mod X.K X.mg X.base:=I.ok.mod
theorem Inv.CP(I:Inv X pins σ H s):X.K.In s.heap:=I.ok.mod.kin.keeps I.bk
theorem Inv.lt(I:Inv X pins σ H s):X.env.locals<s.heap.objs.size:=let ⟨_,hn,_⟩:=I.loc;hn.lt
theorem Inv.sz(I:Inv X pins σ H s):X.s₀.heap.objs.size<=s.heap.objs.size:=Nat.le_trans I.ok.above (Nat.le_of_lt I.lt)
theorem Inv.Zrs(I:Inv X pins σ H s){a:Addr}(h:s.heap.objs.size<=a):a∉X.fs:=λhb=>by
 obtain⟨_,o,ho,_⟩:=I.ok.DW.mem hb;exact absurd (Nat.lt_of_lt_of_le (Heap.lt_size ho) (Nat.le_trans I.sz h)) (Nat.lt_irrefl _)
theorem Inv.cne(I:Inv X pins σ H s):∀x c,X.env.cells.lookup x=some c->c≠X.env.locals:=λx c e z=>by
 obtain⟨v,o,ho,hd⟩:=I.cell x c e;obtain⟨m,⟨o',es,ep,ho',hd',_⟩,_⟩:=I.loc;rw[z,ho']at ho;cases ho;rw[hd']at hd;cases hd
theorem Inv.DW(I:Inv X pins σ H s):s.heap.FunFrames X.base X.outer:=by
 have all:∀(l:List Env),(∀b∈frs l,b∈X.fs)->X.s₀.heap.FunFrames X.base l->s.heap.FunFrames X.base l:=by
  intro l
  induction l with
  | nil=>intro _ _;trivial
  | cons env r ih=>
   intro hs hl;obtain⟨hk,⟨L,o,hf,hn,ho,hd⟩,hr⟩:=hl;have hL:L∈X.fs:=hs L (by unfold frs;rw[List.filterMap_cons,hf];exact List.mem_cons_self);obtain⟨sl,e⟩:=I.base.slot L o ho (I.ok.frf L hL) hL λz=>I.ok.Zi0 L z hL;exact⟨hk,⟨L,_,hf,hn,e,hd⟩,ih (λb hb=>hs b (by unfold frs;rw[List.filterMap_cons,hf];exact List.mem_cons_of_mem _ hb)) hr⟩
 exact all X.outer (λ_ hb=>hb) I.ok.DW
theorem Inv.stack(I:Inv X pins σ H s):s.heap.FunFrames X.base X.stack:=by
 rcases I.ok.stk with e | ⟨e,hf⟩
 ·rw[e];exact I.DW
 ·rw[e];obtain⟨m,hn,_⟩:=I.loc;refine .cons (by rw[I.ok.kind];decide) hf hn ?_ I.DW;exact Heap.get?_none_of_le (Nat.le_trans I.ok.bsz I.ok.above)
theorem Inv.MP(I:Inv X pins σ H s):∀b∈frs X.stack,b∈X.env.locals::X.fs:=λb hb=>by
 rcases I.ok.stk with e | ⟨e,hf⟩
 ·rw[e]at hb;exact List.mem_cons_of_mem _ hb
 ·rw[e]at hb;unfold frs at hb;rw[List.filterMap_cons,hf]at hb;exact hb
theorem Inv.Zcb(I:Inv X pins σ H s):∀b∈frs X.stack,H b=none:=λb hb=>by
 rcases List.mem_cons.mp (I.MP b hb)with e | hb
 ·rw[e];exact I.free
 ·obtain⟨_,o,ho,_⟩:=I.ok.DW.mem hb;exact I.base.free b o ho (I.ok.frf b hb) λz=>I.ok.Zi0 b z hb
theorem Inv.step{g':Array GenState}{t':Nat}{d':Drawn}{ch:List Addr}(I:Inv X pins σ H s)
  (hch:∀b∈ch,(b∈X.ex\/X.s₀.heap.objs.size<=b)/\b≠X.env.locals/\(∀x c,X.env.cells.lookup x=some c->c≠b)/\∀p∈X.pn++pins,p.1≠b)
  (keep:∀b o,b≠X.env.locals->b∉X.fs->b∉ch->s.heap.get? b=some o->H b=none->h'.get? b=some o)
  (slot:∀b o,b≠X.env.locals->b∈X.fs->b∉ch->s.heap.get? b=some o->H b=none->∃sl,h'.get? b=some { o with slots:=sl }) (free:∀b o,b∉ch->s.heap.get? b=some o->H b=none->H' b=none)
  (there:∀b o,b∉ch->s.heap.get? b=some o->∃o',h'.get? b=some o')
  (tups:∀b xs,H b=some (.tup xs)->H' b=some (.tup xs)) (Jz:∀b o u,H b=some (.uC o u)->H' b=some (.uC o u)) (Ku:∀b ps,H b=some (.Bl ps)->∃more,H' b=some (.Bl (ps++more)))
  (ns:∀m,s.heap.Ns X.env.locals m->h'.Ns X.env.locals m) (hok:BR X.prog X.w H' h') (hg:AllBare g'):
  Inv X pins σ H' { s with heap:=h',gens:=g',drawn:=d',toks:=t' }:=by
 have neL:∀b o,X.s₀.heap.get? b=some o->b≠X.env.locals:=λb o e=>Nat.ne_of_lt (Nat.lt_of_lt_of_le (Heap.lt_size e) I.ok.above);have neC:∀b o,X.s₀.heap.get? b=some o->b∉X.ex->b∉ch:=λb o e hx hb=>by
  rcases(hch b hb).1 with z | z
  ·exact hx z
  ·exact absurd (Nat.lt_of_lt_of_le (Heap.lt_size e) z) (Nat.lt_irrefl _)
 have cellK:∀x c,X.env.cells.lookup x=some c->∀v,s.heap.IsCell c v->h'.IsCell c v:=λx c e v ⟨o,ho,hd⟩=>by
  have nch:c∉ch:=λz=>(hch c z).2.2.1 x c e rfl
  by_cases hc:c∈X.fs
  ·obtain⟨sl,q⟩:=slot c o (I.cne x c e) hc nch ho (I.Ba x c e);exact⟨_,q,hd⟩
  ·exact⟨o,keep c o (I.cne x c e) hc nch ho (I.Ba x c e),hd⟩
 refine⟨I.ok,I.os,hg,⟨λb o e n hb hx=>?_,λb o e n hb hx=>?_,λb o e n hx=>?_,λb o e hx=>?_,λb xs e=>tups b xs (I.base.tups b xs e),λb o xs e=>Jz b o xs (I.base.Jz b o xs e),λb ps e=>?_⟩,?_,λx c e=>?_,?_,λx c e=>?_,λp hp=>?_,hok,I.len⟩
 ·exact keep b o (neL b o e) hb (neC b o e hx) (I.base.keep b o e n hb hx) (I.base.free b o e n hx)
 ·obtain⟨sl,e1⟩:=I.base.slot b o e n hb hx;obtain⟨sl',e2⟩:=slot b _ (neL b o e) hb (neC b o e hx) e1 (I.base.free b o e n hx);exact⟨sl',e2⟩
 ·obtain⟨o',e1⟩:=I.base.there b o e hx;exact free b o' (neC b o e hx) e1 (I.base.free b o e n hx)
 ·obtain⟨o',e1⟩:=I.base.there b o e hx;exact there b o' (neC b o e hx) e1
 ·obtain⟨m1,e1⟩:=I.base.Ku b ps e;obtain⟨m2,e2⟩:=Ku b _ e1;exact⟨m1++m2,by rw[e2,Array.append_assoc]⟩
 ·obtain⟨m,hn,hl⟩:=I.loc;refine⟨m,ns m hn,λi x v e1 e2 e3=>?_⟩;obtain⟨u,r,l⟩:=hl i x v e1 e2 e3;refine⟨u,r,?_⟩;rcases l with l | ⟨k,c,e,z⟩
  ·exact .inl l
  ·exact .inr ⟨k,c,e,cellK x c e _ z⟩
 ·obtain⟨v,z⟩:=I.cell x c e;exact⟨v,cellK x c e v z⟩
 ·obtain⟨m,⟨o,_,_,ho,_⟩,_⟩:=I.loc;exact free _ o (λz=>(hch _ z).2.1 rfl) ho I.free
 ·obtain⟨v,o,ho,hd⟩:=I.cell x c e;exact free c o (λz=>(hch c z).2.2.1 x c e rfl) ho (I.Ba x c e)
 ·obtain⟨e,n,ne,nf,d⟩:=I.pin p hp;have nch:p.1∉ch:=λz=>(hch p.1 z).2.2.2 p hp rfl;exact⟨keep p.1 p.2 ne nf nch e n,free p.1 p.2 nch e n,ne,nf,d⟩
theorem Inv.un{t':Nat}(I:Inv X pins σ H s)(u:Un X.fs [] H H' s.heap h')(hok:BR X.prog X.w H' h'):Inv X pins σ H' { s with heap:=h',toks:=t' }:=by
 obtain⟨m,⟨o,es,ep,ho,r⟩,_⟩:=id I.loc;obtain⟨sl,hL⟩:=u.any ho I.free (by simp);exact I.step (g':=s.gens) (d':=s.drawn) (ch:=[]) (λ_ z=>nomatch z) (λb o _ hb _ e n=>u.keep b o e n hb (by simp)) (λb o _ hb _ e n=>u.slot b o e n hb (by simp)) (λb o _ e n=>u.free b o e n (by simp)) (λb o _ e=>u.there b o e (by simp)) u.tups u.Jz u.Ku (λm' hm=>by
  obtain⟨o',es',ep',ho',r'⟩:=hm;rw[ho]at ho';cases ho';exact⟨_,es',ep',hL,r'⟩) hok I.bare
theorem Inv.call{g':Array GenState}{t':Nat}{d':Drawn}{ch:List Addr}(I:Inv X pins σ H s)(u:Un (frs X.stack) ch H H' s.heap h')(hok:BR X.prog X.w H' h')(hg:AllBare g')
  (hch:∀b∈ch,(b∈X.ex\/X.s₀.heap.objs.size<=b)/\b≠X.env.locals/\(∀x c,X.env.cells.lookup x=some c->c≠b)/\∀p∈X.pn++pins,p.1≠b):
  Inv X pins σ H' { s with heap:=h',gens:=g',drawn:=d',toks:=t' }:=by
 obtain⟨m,⟨o,es,ep,ho,r⟩,_⟩:=id I.loc;obtain⟨sl,hL⟩:=u.any ho I.free λz=>(hch _ z).2.1 rfl;exact I.step (ch:=ch) hch (λb o hL hb hc e n=>u.keep b o e n (λz=>(List.mem_cons.mp (I.MP b z)).elim hL hb) hc) (λb o _ _ hc e n=>u.any e n hc) (λb o hc e n=>u.free b o e n hc) (λb o hc e=>u.there b o e hc) u.tups u.Jz u.Ku (λm' hm=>by
  obtain⟨o',es',ep',ho',r'⟩:=hm;rw[ho]at ho';cases ho';exact⟨_,es',ep',hL,r'⟩) hok hg
theorem Inv.turned{t':Nat}{it:Addr}(I:Inv X pins σ H s)(k:∀b o,b≠it->s.heap.get? b=some o->h'.get? b=some o)(hn:H it=none)(hL:it≠X.env.locals)
  (h1:it∈X.ex\/X.s₀.heap.objs.size<=it) (h2:∀x c,X.env.cells.lookup x=some c->c≠it) (h3:∀p∈X.pn++pins,p.1≠it):Inv X pins σ H { s with heap:=h',toks:=t' }:=by
 have nit:∀b u,H b=some u->b≠it:=λb u e z=>by rw[z,hn]at e;cases e
 refine I.step (g':=s.gens) (d':=s.drawn) (ch:=[it]) (λb hb=>?_) (λb o _ _ hc e _=>k b o (λz=>hc (by simp[z])) e) (λb o _ _ hc e _=>⟨o.slots,k b o (λz=>hc (by simp[z])) e⟩) (λ_ _ _ _ n=>n)
  (λb o hc e=>⟨o,k b o (λz=>hc (by simp[z])) e⟩) (λ_ _ e=>e) (λ_ _ _ e=>e) (λb ps e=>⟨#[],by rw[e];simp⟩) (λm hm=>?_) (λb u e=>?_) I.bare
 ·have e:b=it:=by simpa using hb
  subst e;exact⟨h1,hL,h2,h3⟩
 ·obtain⟨o,es,ep,ho,r⟩:=hm;exact⟨o,es,ep,k _ o (Ne.symm hL) ho,r⟩
 ·refine(I.hok b u e).stay (λc v hc q=>k c v ?_ q) (λ_ q=>q) λ_ _ q=>q;rcases hc with z | z
  ·rw[z];exact nit b u e
  ·exact nit c _ z
theorem Inv.tok(I:Inv X pins σ H s)(t:Nat):Inv X pins σ H { s with toks:=t }:=I.un (h':=s.heap) (t':=t) Un.refl I.hok
theorem Inv.kept{t':Nat}(I:Inv X pins σ H s)(k:∀b u,s.heap.get? b=some u->h'.get? b=some u):Inv X pins σ H { s with heap:=h',toks:=t' }:=I.un (Un.kept k) (I.hok.kept k)
theorem Inv.laid{a:Addr}{o:HO}{t':Nat}(I:Inv X pins σ H s)(k:∀b u,s.heap.get? b=some u->h'.get? b=some u)(hp:s.heap.objs.size<=a)(new:jx X.prog X.w (upd H a o) h' a o):
  Inv X pins σ (upd H a o) { s with heap:=h',toks:=t' }:=I.un (Un.laid k hp (I.hok.fresh hp)) (I.hok.laid k hp new)
theorem Inv.write{x e:Addr}{o:HO}{t':Nat}(I:Inv X pins σ H s)(mu:Mut (H x))(he:e=x\/H e=some (.own x))(k:∀b u,b≠e->s.heap.get? b=some u->h'.get? b=some u)(heo:∃u,h'.get? e=some u)
  (new:jx X.prog X.w (upd H x o) h' x o):Inv X pins σ (upd H x o) { s with heap:=h',toks:=t' }:=I.un (Un.write mu he k heo) (I.hok.write mu he k heo new)
theorem Inv.Bp{Zlx:List (Addr×Obj)}(I:Inv X pins σ H s)(h:∀p∈Zlx,s.heap.get? p.1=some p.2/\H p.1=none/\p.1≠X.env.locals/\p.1∉X.fs/\∀v,p.2.data≠.cell v):Inv X Zlx σ H s:=
 ⟨I.ok,I.os,I.bare,I.base,I.loc,I.cell,I.free,I.Ba,λp hp=>(List.mem_append.mp hp).elim (λz=>I.pin p (List.mem_append_left _ z)) (h p),I.hok,I.len⟩
theorem Yn{N:List Str}(hN:N.Nodup){i j:Nat}{x:Str}(a:N[i]? =some x)(b:N[j]? =some x):i=j:=by
 obtain⟨h1,e1⟩:=cV a;obtain⟨h2,e2⟩:=cV b;exact(List.getElem_inj hN).mp (e1.trans e2.symm)
theorem Zde{M:Model}{A:Around}{E:Value->Shared->Prop}{i:Nat}{x:Str}{v:V}{u:Value}{Q:Unit->Shared->Prop}(I:Inv X pins σ H s)(hN:X.N.Nodup)(hi:X.N[i]? =some x)(hx:Loc X.env.scope x)(r:RelV v u)
  (h:∀s',Inv X pins (σ.set i (some v)) H s'->(∃a,Heap.SameBut a s.heap s'.heap/\(a=X.env.locals\/X.env.cells.lookup x=some a))->Q () s') (hf:X.fn x=true\/X.env.scope.names.lookup x=some .local:=by first | exact .inl rfl | exact .inr rfl | assumption):wpAny M A (storeName X.env x u) Q E s:=by
 obtain⟨m,hn,hl⟩:=id I.loc;have hcls:(X.env.scope.kind == .class || (X.env.scope.kind == .module && X.env.locals != X.env.globals))=false:=by rw[I.ok.kind];rfl
 have hiσ:i < σ.length:=by rw[I.len];exact(cV hi).1
 have cne:=I.cne;have tracked:∀{a:Addr}{h':Heap},(∃o,s.heap.get? a=some o/\H a=none)->Heap.SameBut a s.heap h'->BR X.prog X.w H h':=λ{a h'} ha hs b ob e=>by
  obtain⟨_,_,hfree⟩:=ha;refine(I.hok b ob e).stay (λc w' hc q=>(hs.2 c ?_).trans q) (λ_ q=>q) λ_ _ q=>q;rintro rfl;rcases hc with rfl | hc
  ·rw[hfree]at e;cases e
  ·rw[hfree]at hc;cases hc
 rcases hx with hk | hk
 ·refine wpAny_storeName_local hk hn (λh' hn' hs=>?_) hcls;obtain⟨oL,_,_,hoL,_⟩:=id hn;refine h _ ⟨I.ok,I.os,I.bare,⟨λb o e n hb hx=>?_,λb o e n hb hx=>?_,I.base.free,λb o e hx=>?_,I.base.tups,I.base.Jz,I.base.Ku⟩,⟨_,hn',λj y v' e1 e2 e3=>?_⟩,λy c e=>?_,I.free,I.Ba,λp hp=>?_,tracked ⟨oL,hoL,I.free⟩ hs,by simpa using I.len⟩ ⟨_,hs,.inl rfl⟩
  ·exact(hs.2 b (Nat.ne_of_lt (Nat.lt_of_lt_of_le (Heap.lt_size e) I.ok.above))).trans (I.base.keep b o e n hb hx)
  ·obtain⟨sl,e1⟩:=I.base.slot b o e n hb hx;exact⟨sl,(hs.2 b (Nat.ne_of_lt (Nat.lt_of_lt_of_le (Heap.lt_size e) I.ok.above))).trans e1⟩
  ·obtain⟨o',e1⟩:=I.base.there b o e hx;exact⟨o',(hs.2 b (Nat.ne_of_lt (Nat.lt_of_lt_of_le (Heap.lt_size e) I.ok.above))).trans e1⟩
  ·by_cases hj:j=i
   ·subst hj;rw[hi]at e1;cases e1;rw[List.getElem?_set_self hiσ]at e2;cases e2;exact⟨u,r,.inl ⟨hk,by simp⟩⟩
   ·rw[List.getElem?_set_ne (Ne.symm hj)]at e2;obtain⟨u',r',q⟩:=hl j y v' e1 e2 e3;refine⟨u',r',?_⟩;rcases q with ⟨k,e⟩ | ⟨k,c,e,z⟩
    ·refine .inl ⟨k,?_⟩;have:y≠x:=λe=>hj (Yn hN e1 (e ▸ hi));simp[this,e]
    ·exact .inr ⟨k,c,e,z.sameBut hs (cne y c e)⟩
  ·obtain⟨w',z⟩:=I.cell y c e;exact⟨w',z.sameBut hs (cne y c e)⟩
  ·obtain⟨e,n,ne,nf,d⟩:=I.pin p hp;exact⟨(hs.2 p.1 ne).trans e,n,ne,nf,d⟩
 ·have hfn:X.fn x=true:=by
   rcases hf with z | z
   ·exact z
   ·rw[z]at hk;cases hk
  obtain⟨c,hc⟩:=I.ok.has x (.inl hk);obtain⟨w',z⟩:=I.cell x c hc;refine wpAny_storeName_cell I.ok.kind hk hc z (λh' hc' hs=>?_);obtain⟨oc,hoc,Zss⟩:=id z;refine h { s with heap:=h' } ⟨I.ok,I.os,I.bare,⟨λb o e n hb hx=>?_,λb o e n hb hx=>?_,I.base.free,λb o e hx=>?_,I.base.tups,I.base.Jz,I.base.Ku⟩,⟨m,hn.sameBut hs (Ne.symm (cne x c hc)),λj y v' e1 e2 e3=>?_⟩,λy c' e=>?_,I.free,I.Ba,λp hp=>?_,tracked ⟨oc,hoc,I.Ba x c hc⟩ hs,by simpa using I.len⟩ ⟨c,hs,.inr hc⟩
  ·exact(hs.2 b (Nat.ne_of_lt (Nat.lt_of_lt_of_le (Heap.lt_size e) (I.ok.cab x c hfn hc)))).trans (I.base.keep b o e n hb hx)
  ·obtain⟨sl,e1⟩:=I.base.slot b o e n hb hx;exact⟨sl,(hs.2 b (Nat.ne_of_lt (Nat.lt_of_lt_of_le (Heap.lt_size e) (I.ok.cab x c hfn hc)))).trans e1⟩
  ·obtain⟨o',e1⟩:=I.base.there b o e hx;exact⟨o',(hs.2 b (Nat.ne_of_lt (Nat.lt_of_lt_of_le (Heap.lt_size e) (I.ok.cab x c hfn hc)))).trans e1⟩
  ·by_cases hj:j=i
   ·subst hj;rw[hi]at e1;cases e1;rw[List.getElem?_set_self hiσ]at e2;cases e2;exact⟨u,r,.inr ⟨.inl hk,c,hc,hc'⟩⟩
   ·rw[List.getElem?_set_ne (Ne.symm hj)]at e2;obtain⟨u',r',q⟩:=hl j y v' e1 e2 e3;refine⟨u',r',?_⟩;rcases q with q | ⟨k,c',e,z'⟩
    ·exact .inl q
    ·refine .inr ⟨k,c',e,z'.sameBut hs ?_⟩;rintro rfl;exact hj (Yn hN e1 (I.ok.inj _ _ _ e hc ▸ hi))
  ·by_cases hcc:c'=c
   ·subst hcc;exact⟨_,hc'⟩
   ·obtain⟨w2,z2⟩:=I.cell y c' e;exact⟨w2,z2.sameBut hs hcc⟩
  ·obtain⟨e,n,ne,nf,d⟩:=I.pin p hp;refine⟨(hs.2 p.1 ?_).trans e,n,ne,nf,d⟩;intro q;rw[q,hoc]at e;have q':oc=p.2:=Option.some.inj e;exact d w' (by rw[<- q'];exact Zss)
theorem MN{M:Model}{A:Around}{E:Value->Shared->Prop}{i:Nat}{x:Str}{v:V}{u:Value}{Q:Unit->Shared->Prop}(I:Inv X pins σ H s)(hN:X.N.Nodup)(hi:X.N[i]? =some x)(hx:Loc X.env.scope x)(r:RelV v u)
  (h:∀s',Inv X pins (σ.set i (some v)) H s'->Q () s') (hf:X.fn x=true\/X.env.scope.names.lookup x=some .local:=by first | exact .inl rfl | exact .inr rfl | assumption):wpAny M A (storeName X.env x u) Q E s:=
 Zde I hN hi hx r (λs' I' _=>h s' I') hf
theorem Inv.call'{s':Shared}{ch:List Addr}(I:Inv X pins σ H s)(ho:s'.os=s.os)(u:Un (frs X.stack) ch H H' s.heap s'.heap)(hok:BR X.prog X.w H' s'.heap)(hg:AllBare s'.gens)
  (hch:∀b∈ch,(b∈X.ex\/X.s₀.heap.objs.size<=b)/\b≠X.env.locals/\(∀x c,X.env.cells.lookup x=some c->c≠b)/\∀p∈X.pn++pins,p.1≠b):Inv X pins σ H' s':=by
 obtain⟨h',g',d',t',o'⟩:=s';have e:o'=s.os:=ho;subst e;exact I.call (g':=g') (t':=t') (d':=d') u hok hg hch
end
abbrev XK:=Value->Option Addr->Hp->Prop
abbrev St:=List (Option V)
abbrev VK:=V->Hp->Prop
abbrev TE:=St->Hp->VK->Prop
abbrev TT:=St->Hp->(Bool->Hp->Prop)->Prop
abbrev TA:=St->Hp->(List V->Hp->Prop)->Prop
structure Ends where
 nx:St->Hp->Prop
 rt:VK
 bk:St->Hp->Prop:=λ_ _=>False
 ct:St->Hp->Prop:=λ_ _=>False
abbrev TS:=Ends->St->Hp->Prop
def EP(X:Cx)(pins:List (Addr×Obj))(σ:St)(Q:VK)(u:Value)(s':Shared):Prop:=∃v H',Inv X pins σ H' s'/\RelV v u/\Q v H'
def TP(X:Cx)(pins:List (Addr×Obj))(σ:St)(Q:Bool->Hp->Prop)(b:Bool)(s':Shared):Prop:=∃H',Inv X pins σ H' s'/\Q b H'
def AP(X:Cx)(pins:List (Addr×Obj))(σ:St)(Q:List V->Hp->Prop)(us:List Value)(s':Shared):Prop:=∃vs H',Inv X pins σ H' s'/\Vals vs us/\Q vs H'
def SP(X:Cx)(pins:List (Addr×Obj))(D:Ends)(f:Flow)(s':Shared):Prop:=
 match f with
 | .next=>∃ σ' H',Inv X pins σ' H' s'/\D.nx σ' H'
 | .brk=>∃ σ' H',Inv X pins σ' H' s'/\D.bk σ' H'
 | .cont=>∃ σ' H',Inv X pins σ' H' s'/\D.ct σ' H'
 | .ret u=>∃v σ' H',Inv X pins σ' H' s'/\RelV v u/\D.rt v H'
def PE(X:Cx)(e:Expr)(t:TE):Prop:=
 ∀(pins:List (Addr×Obj)) (s:Shared) (σ:St) (H:Hp) (Q:VK),Inv X pins σ H s->t σ H Q->wpAny (model X.prog X.w) X.A (eval e X.env) (EP X pins σ Q) X.xe s
def PT(X:Cx)(e:Expr)(t:TT):Prop:=
 ∀(pins:List (Addr×Obj)) (s:Shared) (σ:St) (H:Hp) (Q:Bool->Hp->Prop),Inv X pins σ H s->t σ H Q->wpAny (model X.prog X.w) X.A (isTrue e X.env (eval e X.env)) (TP X pins σ Q) X.xe s
def PW(X:Cx)(e:Expr)(t:TT):Prop:=
 ∀(whole:Sem Value) (pins:List (Addr×Obj)) (s:Shared) (σ:St) (H:Hp) (Q:Bool->Hp->Prop),Inv X pins σ H s->t σ H Q->wpAny (model X.prog X.w) X.A (isTrue e X.env whole) (TP X pins σ Q) X.xe s
theorem PW.pt{X:Cx}{e:Expr}{t:TT}(h:PW X e t):PT X e t:=h _
def PA(X:Cx)(es:List Expr)(t:TA):Prop:=
 ∀(pos:Pos) (pins:List (Addr×Obj)) (s:Shared) (σ:St) (H:Hp) (Q:List V->Hp->Prop),Inv X pins σ H s->t σ H Q->wpAny (model X.prog X.w) X.A (spliced (backTo pos (starEach es X.env))) (AP X pins σ Q) X.xe s
def PS(X:Cx)(st:Stmt)(t:TS):Prop:=
 ∀(pins:List (Addr×Obj)) (s:Shared) (σ:St) (H:Hp) (D:Ends),Inv X pins σ H s->t D σ H->wpAny (model X.prog X.w) X.A (exec st X.env) (SP X pins D) X.xe s
def PSs(X:Cx)(st:List Stmt)(t:TS):Prop:=
 ∀(pins:List (Addr×Obj)) (s:Shared) (σ:St) (H:Hp) (D:Ends),Inv X pins σ H s->t D σ H->wpAny (model X.prog X.w) X.A (execs st X.env) (SP X pins D) X.xe s
theorem jW{α:Type}{t:Sem α}{Q Q':α->Shared->Prop}{M:Model}{A:Around}{E:Value->Shared->Prop}{s:Shared}(h:wpAny M A t Q E s)(hQ:∀a s,Q a s->Q' a s):wpAny M A t Q' E s:=wpAny_mono h hQ λ_ _ x=>x
end L2
namespace L2
open PySem PySem.Spec PyProof.Rows
section
variable {X:Cx}
def aj(i:Nat):TE:=λσ H Q=>∃v,σ[i]? =some (some v)/\Q v H
def tC(v:V):TE:=λ_ H Q=>Q v H
theorem Zfx{i:Nat}{x:Str}{pos:Pos}(hN:X.N[i]? =some x)(hv:Vis X.env.scope x)(hd:(x == ("__debug__":Str))=false:=by decide)(hcd:(x == ("__classdict__":Str))=false:=by decide):PE X (.Name x pos) (aj i):=by
 intro pins s σ H Q I h;obtain⟨v,e,h⟩:=h;obtain⟨m,hn,hl⟩:=I.loc;obtain⟨u,r,l⟩:=hl i x v hN e hv;have fin:EP X pins σ Q u s:=⟨v,H,I,r,h⟩;rcases l with ⟨hk,hm⟩ | ⟨hk,c,hc,hcell⟩
 ·exact wpAny_Name (wpAny_loadName_local I.ok.kind hk hn hm fin) hd
 ·rcases hk with hk | hk
  ·exact wpAny_Name (wpAny_loadName_cell I.ok.kind hk hc hcell fin) hd
  ·exact wpAny_Name (wpAny_loadName_free I.ok.kind hk hc hcell fin hcd) hd
theorem aG{i j pos}:PE X (.Constant (.int i) j pos) (tC (.int i)):=λ_ _ _ H _ I h=>wpAny_Constant_int ⟨.int i,H,I.tok _,⟨_,rfl⟩,h⟩
theorem gZ{b j pos}:PE X (.Constant (.bool b) j pos) (tC (.bl b)):=λ_ _ _ H _ I h=>Constant_bool ⟨.bl b,H,I,rfl,h⟩
theorem dg{j pos}:PE X (.Constant .none j pos) (tC .non):=λ_ _ _ H _ I h=>Constant_none ⟨.non,H,I,rfl,h⟩
theorem bG{x j pos}:PE X (.Constant (.str x) j pos) (tC (.str x)):=λ_ _ _ H _ I h=>Calls.Constant_str ⟨.str x,H,I.tok _,⟨_,rfl⟩,h⟩
def Gl(X:Cx)(x:Str):Prop:=X.env.kindOf x=some .globalImplicit
theorem yE{E:Value->Shared->Prop}{pins:List (Addr×Obj)}{s:Shared}{σ:St}{H:Hp}{x:Str}{u:Value}{pos:Pos}{Q:Value->Shared->Prop}(I:Inv X pins σ H s)(hg:Gl X x)(hm:X.mg x=some u)(h:Q u s)
  (hd:(x == ("__debug__":Str))=false:=by decide):wpAny (model X.prog X.w) X.A (eval (.Name x pos) X.env) Q E s:=
 Calls.Name_function_global I.ok.kind hg (Calls.loadGlobal_global (by rw[I.ok.glob];exact I.mod.glob.keeps I.bk) hm h) hd
theorem Ol{E:Value->Shared->Prop}{pins:List (Addr×Obj)}{s:Shared}{σ:St}{H:Hp}{x:Str}{u:Value}{pos:Pos}{Q:Value->Shared->Prop}(I:Inv X pins σ H s)(hg:Gl X x)(hm:X.mg x=none)(hv:bootBuiltins x=some u)(h:Q u s)
  (hn:x≠"__name__":=by decide) (hd:(x == ("__debug__":Str))=false:=by decide):wpAny (model X.prog X.w) X.A (eval (.Name x pos) X.env) Q E s:=by
 obtain⟨mb,h1,h2⟩:=I.mod.blt;exact Calls.Name_function_global I.ok.kind hg (Calls.loadGlobal_builtin (by rw[I.ok.glob];exact I.mod.glob.keeps I.bk) hm (by rw[I.ok.blt];exact h1.keeps I.bk) ((h2 x hn).trans hv) h) hd
theorem Zjq{x:Str}{v:V}{u:Value}{pos:Pos}(hg:Gl X x)(hm:X.mg x=some u)(r:RelV v u)(hd:(x == ("__debug__":Str))=false:=by decide):PE X (.Name x pos) (tC v):=
 λ_ _ _ H _ I h=>yE I hg hm ⟨v,H,I,r,h⟩ hd
theorem jB{x:Str}{v:V}{u:Value}{pos:Pos}(hg:Gl X x)(hm:X.mg x=none)(hv:bootBuiltins x=some u)(r:RelV v u)(hn:x≠"__name__":=by decide)(hd:(x == ("__debug__":Str))=false:=by decide):PE X (.Name x pos) (tC v):=
 λ_ _ _ H _ I h=>Ol I hg hm hv ⟨v,H,I,r,h⟩ hn hd
variable {a b:Expr}{ta tb:TE}{pos:Pos}
def PC(X:Cx)(op:CmpOp)(a b:Expr)(t:TE):Prop:=
 ∀(pins:List (Addr×Obj)) (s:Shared) (σ:St) (H:Hp) (Q:VK),Inv X pins σ H s->t σ H Q->
  wpAny (model X.prog X.w) X.A (eval a X.env) (λv s₁=>wpAny (model X.prog X.w) X.A (eval b X.env) (λu s₂=>wpAny (model X.prog X.w) X.A (compareOp op v u) (EP X pins σ Q) X.xe s₂) X.xe s₁) X.xe s
theorem Zge(b:Expr){op:CmpOp}(h:op≠.In)(h2:op≠.NotIn):behindInMarks op b=false:=by
 have e1:(op == CmpOp.In)=false:=by cases op<;>first | rfl | exact absurd rfl h
 have e2:(op == CmpOp.NotIn)=false:=by cases op<;>first | rfl | exact absurd rfl h2
 cases b<;>simp[behindInMarks,e1,e2]
def tB(t:TE):TT:=λσ H Q=>t σ H λx H1=>∃c,x=.bl c/\Q c H1
theorem Zfp{op:CmpOp}{t:TE}(h:PC X op a b t)(h1:behindInMarks op b=false:=by first | exact Zge _ (by decide) (by decide) | rfl):PT X (.Compare a [op] [b] pos) (tB t):=by
 intro pins s σ H Q I hw;refine wpAny_isTrue_Compare1 (jW (h pins s σ H _ I hw) λv s1 h1=>jW h1 λu s2 h2=>jW h2 λc s3 ⟨x,H1,I1,r1,q1⟩=>?_) h1;obtain⟨d,rfl,q⟩:=q1;cases r1;exact wpAny_truthy_bool ⟨H1,I1,q⟩
theorem eE{e:Expr}{t:TE}(h:PE X e t)(he:∀whole,isTrue e X.env whole=(do let v <- whole;standAt e.pos;holding [v] (truthy v)):=by intro _;rfl):PT X e (tB t):=by
 intro pins s σ H Q I hw;refine isTrue_plain (jW (h pins s σ H _ I hw) λv s1 ⟨x,H1,I1,r1,q1⟩=>?_) (he _);obtain⟨d,rfl,q⟩:=q1;cases r1;exact wpAny_truthy_bool ⟨H1,I1,q⟩
variable {tA tB':TT}{rest:List Expr}
def Dh(t u:TT):TT:=λσ H Q=>t σ H λc H1=>if c=true then u σ H1 Q else Q false H1
def ZQ(t u:TT):TT:=λσ H Q=>t σ H λc H1=>if c=true then Q true H1 else u σ H1 Q
def qW(t:TT):TT:=λσ H Q=>t σ H λc H1=>Q (!c) H1
theorem qM(ha:PT X a tA):PW X (.BoolOp .And [a] pos) tA:=by
 intro wh pins s σ H Q I h;refine isTrue_and (jW (ha pins s σ H Q I h) λc s1 e=>?_);cases c with
 | true=>exact isTrue_and_nil e
 | false=>exact e
theorem vN(ha:PT X a tA):PW X (.BoolOp .Or [a] pos) tA:=by
 intro wh pins s σ H Q I h;refine isTrue_or (jW (ha pins s σ H Q I h) λc s1 e=>?_);cases c with
 | false=>exact isTrue_or_nil e
 | true=>exact e
theorem pB(ha:PT X a tA)(hb:PW X (.BoolOp .And (b::rest) pos) tB'):PW X (.BoolOp .And (a::b::rest) pos) (Dh tA tB'):=by
 intro wh pins s σ H Q I h;refine isTrue_and (jW (ha pins s σ H _ I h) λc s1 ⟨H1,I1,q1⟩=>?_);cases c with
 | true=>exact hb wh pins s1 σ H1 Q I1 q1
 | false=>exact⟨H1,I1,q1⟩
theorem wJ(ha:PT X a tA)(hb:PW X (.BoolOp .Or (b::rest) pos) tB'):PW X (.BoolOp .Or (a::b::rest) pos) (ZQ tA tB'):=by
 intro wh pins s σ H Q I h;refine isTrue_or (jW (ha pins s σ H _ I h) λc s1 ⟨H1,I1,q1⟩=>?_);cases c with
 | true=>exact⟨H1,I1,q1⟩
 | false=>exact hb wh pins s1 σ H1 Q I1 q1
theorem jE(ha:PT X a tA):PT X (.UnaryOp .Not a pos) (qW tA):=by
 intro pins s σ H Q I h;exact isTrue_not (ha pins s σ H (λc H1=>Q (!c) H1) I h)
def MF(ta tb:TE):TE:=λσ H Q=>ta σ H λx H1=>∃c,x=.bl c/\if c=true then tb σ H1 Q else Q (.bl false) H1
def Zca(ta:TE):TE:=λσ H Q=>ta σ H λx H1=>∃c,x=.bl c/\Q (.bl (!c)) H1
theorem Im{op}{t:TE}(h:PE X a t):PE X (.BoolOp op [a] pos) t:=λpins s σ H Q I hw=>BoolOp_one (h pins s σ H Q I hw)
theorem z6(ha:PE X a ta)(hb:PE X (.BoolOp .And (b::rest) pos) tb):PE X (.BoolOp .And (a::b::rest) pos) (MF ta tb):=by
 intro pins s σ H Q I h;refine BoolOp_and (jW (ha pins s σ H _ I h) λv s1 ⟨x,H1,I1,r1,q1⟩=>?_);obtain⟨c,rfl,q1⟩:=q1;cases r1;refine wpAny_truthy_bool ?_;cases c with
 | true=>exact hb pins s1 σ H1 Q I1 q1
 | false=>exact⟨.bl false,H1,I1,rfl,q1⟩
theorem Zae(ha:PE X a ta):PE X (.UnaryOp .Not a pos) (Zca ta):=by
 intro pins s σ H Q I h;refine UnaryOp_ (jW (ha pins s σ H _ I h) λv s1 ⟨x,H1,I1,r1,q1⟩=>?_);obtain⟨c,rfl,q1⟩:=q1;cases r1;exact not_of (wpAny_truthy_bool ⟨.bl (!c),H1,I1,rfl,q1⟩)
def tIf(t:TT)(ta tb:TE):TE:=λσ H Q=>t σ H λc H1=>if c=true then ta σ H1 Q else tb σ H1 Q
theorem XM{c:Expr}(hc:PT X c tA)(ha:PE X a ta)(hb:PE X b tb):PE X (.IfExp c a b pos) (tIf tA ta tb):=by
 intro pins s σ H Q I h;refine wpAny_IfExp (jW (hc pins s σ H _ I h) λd s1 ⟨H1,I1,q1⟩=>?_);cases d with
 | true=>exact ha pins s1 σ H1 Q I1 q1
 | false=>exact hb pins s1 σ H1 Q I1 q1
end
end L2
namespace L2
open PySem PySem.Spec PyProof.Rows
def cR(K:aC)(H:Hp)(a:Addr)(xs:List V):Prop:=
 Rd H a (.lst xs)\/
  ∃(o:Obj) (its:Array Value) (n:Nat),K.lookup a=some o/\o.cls=.type "list"/\o.dict=none/\o.data=.seq its n/\its.size<=sizeLine/\Vals xs its.toList
def qZ(K:aC)(H:Hp)(a:Addr)(xs:List V):Prop:=
 Rd H a (.tup xs)\/
  ∃(o:Obj) (its:Array Value) (n:Nat),K.lookup a=some o/\o.cls=.type "tuple"/\o.data=.seq its n/\its.size<=sizeLine/\Vals xs its.toList
def Zyk:Value->Option V
 | .none=>some .non
 | .bool b=>some (.bl b)
 | .int i _=>some (.int i)
 | .str x _=>some (.str x)
 | .bytes b _=>some (.byt b)
 | .float b _=>some (.flt b)
 | .ref a=>some (.ref a)
 | .type n=>some (.ty n)
 | _=>none
theorem RelV.abs{x:V}{u:Value}(r:RelV x u):Zyk u=some x:=by
 cases x with
 | non=>cases r;rfl
 | bl _=>cases r;rfl
 | int _=>obtain⟨t,rfl⟩:=r;rfl
 | str _=>obtain⟨t,rfl⟩:=r;rfl
 | byt _=>obtain⟨t,rfl⟩:=r;rfl
 | flt _=>obtain⟨t,rfl⟩:=r;rfl
 | ref _=>cases r;rfl
 | ty _=>cases r;rfl
theorem RelV.inj{x y:V}{u:Value}(r:RelV x u)(q:RelV y u):x=y:=Option.some.inj (r.abs.symm.trans q.abs)
theorem Vals.inj:∀{xs ys:List V}{us:List Value},Vals xs us->Vals ys us->xs=ys
 | _,_,_,.nil,.nil=>rfl
 | _,_,_,.cons r t,.cons r' t'=>by rw[r.inj r',Vals.inj t t']
section
variable {X:Cx}{pins:List (Addr×Obj)}{σ:St}{H:Hp}{s:Shared}{a:Addr}{xs ys:List V}
theorem cR.of{K:aC}(h:H a=some (.lst xs)):cR K H a xs:=.inl (.inl h)
theorem qZ.of{K:aC}(h:H a=some (.tup xs)):qZ K H a xs:=.inl (.inl h)
theorem Inv.list(I:Inv X pins σ H s)(h:cR X.K H a xs):∃its:List Value,Vals xs its/\PlainL s.heap a its.toArray/\xs.length<=sizeLine:=by
 rcases h with h | ⟨o,its,n,hk,hc,hd,hs,hz,r⟩
 ·obtain⟨z,its,n,r,e⟩:=h.ok I.hok;exact⟨its,r,⟨_,n,e,rfl,rfl,rfl⟩,z⟩
 ·refine⟨its.toList,r,⟨o,n,I.CP a o hk,hc,hd,by simpa using hs⟩,?_⟩;have e:=r.length;simp only[Array.length_toList]at e;omega
theorem Inv.tuple(I:Inv X pins σ H s)(h:qZ X.K H a xs):∃its:List Value,Vals xs its/\IsTup s.heap a its.toArray/\xs.length<=sizeLine:=by
 rcases h with h | ⟨o,its,n,hk,hc,hs,hz,r⟩
 ·obtain⟨z,its,r,p⟩:=h.ok I.hok;exact⟨its,r,p,z⟩
 ·refine⟨its.toList,r,⟨o,I.CP a o hk,hc,n,by simpa using hs⟩,?_⟩;have e:=r.length;simp only[Array.length_toList]at e;omega
theorem Inv.Yv(I:Inv X pins σ H s)(h:cR X.K H a xs)(h':cR X.K H a ys):xs=ys:=by
 obtain⟨its,r,⟨o,n,e,_,_,d⟩,_⟩:=I.list h;obtain⟨its',r',⟨o',n',e',_,_,d'⟩,_⟩:=I.list h';rw[e]at e';cases e';rw[d]at d'
 injection d' with d1 _
 have:its=its':=by simpa using congrArg Array.toList d1
 subst this;exact r.inj r'
end
abbrev Cx.wish(X:Cx)(E:Value->Shared->Prop):Cx:={ X with xe:=E }
abbrev Cx.nox(X:Cx):Cx:=X.wish λ_ _=>False
theorem Cx.Ok.wish{X:Cx}(ok:X.Ok)(E:Value->Shared->Prop):(X.wish E).Ok:=
 ⟨ok.mod,ok.kind,ok.glob,ok.blt,ok.above,ok.inj,ok.has,ok.cab,ok.hd,ok.frames,ok.stk,ok.exf,ok.bs,ok.bsz,ok.Zdv,ok.Zi0,ok.DW,ok.frf⟩
theorem Cx.Ok.zu{X:Cx}{E:Value->Shared->Prop}(ok:(X.wish E).Ok):X.Ok:=
 ⟨ok.mod,ok.kind,ok.glob,ok.blt,ok.above,ok.inj,ok.has,ok.cab,ok.hd,ok.frames,ok.stk,ok.exf,ok.bs,ok.bsz,ok.Zdv,ok.Zi0,ok.DW,ok.frf⟩
section
variable {X:Cx}{pins:List (Addr×Obj)}{σ:St}{H:Hp}{s:Shared}{E:Value->Shared->Prop}
theorem Inv.wish(I:Inv X pins σ H s)(E:Value->Shared->Prop):Inv (X.wish E) pins σ H s:=⟨I.ok.wish E,I.os,I.bare,I.base,I.loc,I.cell,I.free,I.Ba,I.pin,I.hok,I.len⟩
theorem Inv.zu(I:Inv (X.wish E) pins σ H s):Inv X pins σ H s:=⟨I.ok.zu,I.os,I.bare,I.base,I.loc,I.cell,I.free,I.Ba,I.pin,I.hok,I.len⟩
theorem SP.zu{D:Ends}{f:Flow}{s':Shared}(h:SP (X.wish E) pins D f s'):SP X pins D f s':=by
 cases f with
 | next=>obtain⟨σ',H',I,q⟩:=h;exact⟨σ',H',I.zu,q⟩
 | brk=>obtain⟨σ',H',I,q⟩:=h;exact⟨σ',H',I.zu,q⟩
 | cont=>obtain⟨σ',H',I,q⟩:=h;exact⟨σ',H',I.zu,q⟩
 | ret u=>obtain⟨v,σ',H',I,r,q⟩:=h;exact⟨v,σ',H',I.zu,r,q⟩
theorem PSs.nox{st:List Stmt}{t:TS}(h:PSs X.nox st t):PSs X st t:=λpins s σ H D I hw=>
 wpAny_mono (h pins s σ H D (I.wish _) hw) (λ_ _ q=>q.zu) λ_ _ z=>False.elim z
end
section
variable {X:Cx}{st:Stmt}{rest:List Stmt}{t u:TS}{e:Expr}{te:TE}{pos:Pos}
def bW:TS:=λD σ H=>D.nx σ H
def aM(t u:TS):TS:=λD σ H=>t { D with nx:=u D } σ H
theorem aR:PSs X [] bW:=λ_ _ σ H _ I h=>wpAny_execs_nil ⟨σ,H,I,h⟩
theorem aq(h1:PS X st t)(h2:PSs X rest u):PSs X (st::rest) (aM t u):=by
 intro pins s σ H D I h;refine wpAny_execs_cons (jW (h1 pins s σ H { D with nx:=u D } I h) λf s1 q=>?_);cases f with
 | next=>
  obtain⟨σ',H',I',q⟩:=q;exact h2 pins s1 σ' H' D I' q
 | ret v=>exact q
 | brk=>exact q
 | cont=>exact q
theorem az(h1:PS X st t):PSs X [st] t:=by
 intro pins s σ H D I h;refine wpAny_execs_cons (jW (h1 pins s σ H D I h) λf s1 q=>?_);cases f with
 | next=>exact wpAny_execs_nil q
 | ret v=>exact q
 | brk=>exact q
 | cont=>exact q
theorem Inv.quiet{pins:List (Addr×Obj)}{σ:St}{H:Hp}{s:Shared}(I:Inv X pins σ H s):interactive X.env=false:=by simp[interactive,I.ok.kind]
def oY(te:TE):TS:=λD σ H=>te σ H λ_ H1=>D.nx σ H1
theorem jY(he:PE X e te)(hs:swapsWith e none pos.line X.env=pure false:=by rfl):PS X (.Expr e pos) (oY te):=by
 intro pins s σ H D I h;exact wpAny_Expr_any (jW (he pins s σ H _ I h) λv s1 ⟨x,H1,I1,r1,q1⟩=>⟨σ,H1,I1,q1⟩) I.quiet hs
def bL(te:TE):TS:=λD σ H=>te σ H D.rt
theorem aK(he:PE X e te):PS X (.Return (some e) pos) (bL te):=by
 intro pins s σ H D I h;exact wpAny_Return_some (jW (he pins s σ H _ I h) λv s1 ⟨x,H1,I1,r1,q1⟩=>⟨x,σ,H1,I1,r1,q1⟩)
def eG(c:TT)(t u:TS):TS:=λD σ H=>c σ H λb H1=>if b=true then t D σ H1 else u D σ H1
theorem bY{c:Expr}{a b:List Stmt}{tc:TT}(hc:PT X c tc)(ha:PSs X a t)(hb:PSs X b u):PS X (.If c a b pos) (eG tc t u):=by
 intro pins s σ H D I h;refine wpAny_If (jW (hc pins s σ H _ I h) λd s1 ⟨H1,I1,q1⟩=>?_);cases d with
 | true=>exact ha pins s1 σ H1 D I1 q1
 | false=>exact hb pins s1 σ H1 D I1 q1
end
abbrev TG:=V->St->Hp->(St->Hp->Prop)->Prop
abbrev TGs:=List V->St->Hp->(St->Hp->Prop)->Prop
def PG(X:Cx)(target:Expr)(t:TG):Prop:=
 ∀(pins:List (Addr×Obj)) (s:Shared) (σ:St) (H:Hp) (v:V) (u:Value) (Q:St->Hp->Prop),Inv X pins σ H s->RelV v u->t v σ H Q->
  wpAny (model X.prog X.w) X.A (assign target X.env u) (λ_ s'=>∃ σ' H',Inv X pins σ' H' s'/\Q σ' H') X.xe s
def PGs(X:Cx)(ts:List Expr)(t:TGs):Prop:=
 ∀(pins:List (Addr×Obj)) (s:Shared) (σ:St) (H:Hp) (vs:List V) (us:List Value) (Q:St->Hp->Prop),Inv X pins σ H s->Vals vs us->t vs σ H Q->
  wpAny (model X.prog X.w) X.A (assignInOrder ((assignEach ts X.env).map (·.2)) us) (λ_ s'=>∃ σ' H',Inv X pins σ' H' s'/\Q σ' H') X.xe s
abbrev Zlo:=V->V->V->Hp->(Hp->Prop)->Prop
def Zrd(X:Cx)(t:Zlo):Prop:=
 ∀(pins:List (Addr×Obj)) (s:Shared) (σ:St) (H:Hp) (o i v:V) (ov iv u:Value) (Q:Hp->Prop),Inv X pins σ H s->RelV o ov->RelV i iv->RelV v u->t o i v H Q->
  wpAny (model X.prog X.w) X.A (setItem ov iv u) (λ_ s'=>∃H',Inv X pins σ H' s'/\Q H') X.xe s
section
variable {X:Cx}{pos:Pos}
def aP(i:Nat):TG:=λv σ H Q=>Q (σ.set i (some v)) H
theorem dR{i:Nat}{x:Str}(hN:X.N.Nodup)(hi:X.N[i]? =some x)(hx:Loc X.env.scope x)(hf:X.fn x=true\/X.env.scope.names.lookup x=some .local:=by first | exact .inl rfl | exact .inr rfl | assumption):PG X (.Name x pos) (aP i):=by
 intro pins s σ H v u Q I r h;exact wpAny_assign_Name (MN I hN hi hx r (λs' I'=>⟨_,H,I',h⟩) hf)
def Zef:TGs:=λvs σ H Q=>vs=[]/\Q σ H
def yW(t:TG)(u:TGs):TGs:=λvs σ H Q=>∃v r,vs=v::r/\t v σ H λσ' H'=>u r σ' H' Q
theorem EY:PGs X [] Zef:=by
 intro pins s σ H vs us Q I r h;obtain⟨e,h⟩:=h;subst e;cases r;exact assignInOrder_nil ⟨σ,H,I,h⟩
theorem mO{e:Expr}{es:List Expr}{t:TG}{u:TGs}(h1:PG X e t)(h2:PGs X es u)
  (hs:(assignEach (e::es) X.env).map (·.2)=assign e X.env::(assignEach es X.env).map (·.2):=by rfl):PGs X (e::es) (yW t u):=by
 intro pins s σ H vs us Q I r h;obtain⟨v,vr,e1,h⟩:=h;subst e1;cases r with
 | cons r rr=>
  rw[hs];refine assignInOrder_cons (jW (h1 pins s σ H _ _ _ I r h) λ_ s1 ⟨σ1,H1,I1,q1⟩=>?_);exact h2 pins s1 σ1 H1 _ _ Q I1 rr q1
def Zee(K:aC)(n:Nat)(t:TGs):TG:=λv σ H Q=>∃a xs,v=.ref a/\qZ K H a xs/\xs.length=n/\t xs σ H Q
theorem Nt{es:List Expr}{k:Nat}{t:TGs}{n:Nat}(hc:X.calm=true)(h:PGs X es t)
  (hn:(assignEach es X.env).length=n:=by rfl) (hst:(assignEach es X.env).findIdx? (·.1)=none:=by rfl):PG X (.Tuple es k pos) (Zee X.K n t):=by
 intro pins s σ H v u Q I r hw;obtain⟨a,xs,e1,hq,hl,hw⟩:=hw;subst e1;cases r;obtain⟨its,rv,ht,hz⟩:=I.tuple hq;refine assign_Tuple_tuple (I.ok.hd hc) ht (by simp[hn,<- hl,rv.length]) hst λh' hx=>?_;have I1:Inv X pins σ H { s with heap:=h' }:=I.kept (t':=s.toks) λb o e=>hx b o (Nat.ne_of_lt (Heap.lt_size e)) e;exact h pins _ σ H xs _ Q I1 (by simpa using rv) hw
def Gz(to ti:TE)(t:Zlo):TG:=λv σ H Q=>to σ H λo H1=>ti σ H1 λi H2=>t o i v H2 λH3=>Q σ H3
theorem vO{o i:Expr}{to ti:TE}{t:Zlo}(ho:PE X o to)(hi:PE X i ti)(hs:Zrd X t)
  (ha:∀v,assign (.Subscript o i pos) X.env v=(do
   let ov <- holding [v] (eval o X.env)
   let iv <- holding [v,ov] (eval i X.env)
   standAt pos
   holding [v,ov,iv] (setItem ov iv v)
   release [v,ov,iv] []):=by intro _;rfl):PG X (.Subscript o i pos) (Gz to ti t):=by
 intro pins s σ H v u Q I r h;rw[ha];refine wpAny_bind (wpAny_holding (jW (ho pins s σ H _ I h) λov s1 ⟨x,H1,I1,r1,q1⟩=>?_));refine wpAny_bind (wpAny_holding (jW (hi pins s1 σ H1 _ I1 q1) λiv s2 ⟨y,H2,I2,r2,q2⟩=>?_));refine wpAny_bind (wpAny_standAt (wpAny_bind (wpAny_holding (jW (hs pins s2 σ H2 x y v ov iv u _ I2 r1 r2 r q2) λ_ s3 ⟨H3,I3,q3⟩=>?_))));exact wpAny_release ⟨σ,H3,I3,q3⟩
def cG(te:TE)(g:TG):TS:=λD σ H=>te σ H λx H1=>g x σ H1 D.nx
theorem tW{tg e:Expr}{te:TE}{g:TG}(he:PE X e te)(hg:PG X tg g)(hs:swapsWithSole [tg] e pos.line X.env=pure false:=by rfl)(hw:swappedStores [tg] e X.env=pure none:=by rfl)
  (h1:(assignEach [tg] X.env).map (·.2)=[assign tg X.env]:=by rfl):PS X (.Assign [tg] e pos) (cG te g):=by
 intro pins s σ H D I h;refine wpAny_Assign_stores (jW (he pins s σ H _ I h) λv s1 ⟨x,H1,I1,r1,q1⟩=>?_) hs hw;rw[h1];exact jW (hg pins s1 σ H1 x v _ I1 r1 q1) λ_ s2 q=>q
theorem bh{i:Nat}{x:Str}{e:Expr}{te:TE}{pos':Pos}(hN:X.N.Nodup)(hi:X.N[i]? =some x)(hx:Loc X.env.scope x)(he:PE X e te)(hs:swapsWith e (some (.Name x pos')) pos.line X.env=pure false:=by rfl)(hf:X.fn x=true\/X.env.scope.names.lookup x=some .local:=by first | exact .inl rfl | exact .inr rfl | assumption):
  PS X (.Assign [.Name x pos'] e pos) (cG te (aP i)):=by
 intro pins s σ H D I h;refine wpAny_Assign_Name (jW (he pins s σ H _ I h) λv s1 ⟨y,H1,I1,r1,q1⟩=>?_) hs;exact MN I1 hN hi hx r1 (λs2 I2=>⟨_,H1,I2,q1⟩) hf
end
section
variable {X:Cx}{pos:Pos}
def Zey(c:TT)(tb:TS):TS:=λD σ H=>∃W:Nat->St->Hp->Prop,(∃m,W m σ H)/\∀m σ H,W m σ H->
 c σ H λb H1=>if b=true then ∃N:St->Hp->Prop,(∀ σ' H',N σ' H'->∃m',m'<m/\W m' σ' H')/\tb { D with nx:=N,ct:=N,bk:=D.nx } σ H1 else D.nx σ H1
theorem Zfq{c:Expr}{body:List Stmt}{tc:TT}{tb:TS}(hp:PassesOwn (model X.prog X.w) X.A X.env X.xe)(hc:PT X c tc)(hb:PSs X body tb):PS X (.While c body [] pos) (Zey tc tb):=by
 intro pins s σ H D I h;obtain⟨W,⟨m0,w0⟩,turn⟩:=h;refine wpAny_While (codeAny_whileLoop (λn s'=>∃ σ' H',Inv X pins σ' H' s'/\W n σ' H') ?_ m0 ⟨σ,H,I,w0⟩);rintro n s1 ⟨σ1,H1,I1,w1⟩;refine wpAny_passesOwn hp (jW (hc pins s1 σ1 H1 _ I1 (turn n σ1 H1 w1)) λb s2 ⟨H2,I2,q2⟩=>?_);cases b with
 | true=>
  obtain⟨N,hN,q2⟩:=q2;rw[if_pos rfl];refine wpAny_passesOwn hp (jW (hb pins s2 σ1 H2 _ I2 q2) λf s3 q3=>?_);cases f with
  | next=>
   obtain⟨σ3,H3,I3,n3⟩:=q3;obtain⟨m',hm,w3⟩:=hN σ3 H3 n3;exact⟨m',hm,σ3,H3,I3,w3⟩
  | cont=>
   obtain⟨σ3,H3,I3,n3⟩:=q3;obtain⟨m',hm,w3⟩:=hN σ3 H3 n3;exact⟨m',hm,σ3,H3,I3,w3⟩
  | brk=>exact q3
  | ret v=>exact q3
 | false=>
  rw[if_neg Bool.false_ne_true];exact wpAny_execs_nil ⟨σ1,H2,I2,q2⟩
end
structure It where
 go:Nat->Hp->Prop
 ZD:Nat->Hp->V->Hp->Prop
 stop:Nat->Hp->Prop
def tD(X:Cx)(pins:List (Addr×Obj))(H:Hp)(b:Addr):Prop:=
 H b=none/\b≠X.env.locals/\b∉X.fs/\(b∈X.ex\/X.s₀.heap.objs.size<=b)/\(∀x c,X.env.cells.lookup x=some c->c≠b)/\∀p∈X.pn++pins,p.1≠b
theorem Inv.Zbn{X:Cx}{pins:List (Addr×Obj)}{σ:St}{H H':Hp}{s:Shared}{b:Addr}(I:Inv X pins σ H s)(hb:s.heap.objs.size<=b)(hn:H' b=none):tD X pins H' b:=by
 refine⟨hn,Nat.ne_of_gt (Nat.lt_of_lt_of_le I.lt hb),I.Zrs hb,.inr (Nat.le_trans I.sz hb),λx c e z=>?_,λp hp z=>?_⟩
 ·obtain⟨v,q⟩:=I.cell x c e;exact absurd (Nat.lt_of_lt_of_le q.lt (by rw[z];exact hb)) (Nat.lt_irrefl _)
 ·exact absurd (Nat.lt_of_lt_of_le (Heap.lt_size (I.pin p hp).1) (by rw[z];exact hb)) (Nat.lt_irrefl _)
structure Turn(P:Program)(w:World)(K:aC)(tg:Expr)(J:It)(fp:List Addr)(it:Addr)(tn:Nat->Heap->Prop):Prop where
  mem:it∈fp
  obj:∀i h,tn i h->∀b∈fp,∃o,h.get? b=some o/\∀v,o.data≠.cell v
  keep:∀i h h',tn i h->(∀b∈fp,∀o,h.get? b=some o->h'.get? b=some o)->tn i h'
  item:∀(X:Cx),X.prog=P->X.w=w->X.K=K->X.calm=true->∀(i:Nat) (pins:List (Addr×Obj)) (s:Shared) (σ:St) (H:Hp) (E:Value->Shared->Prop),Inv X pins σ H s->(∀b∈fp,tD X pins H b)->tn i s.heap->J.go i H->
    wpAny (model P w) X.A (pyNext (.ref it)) (λr s1=>∃u,r=some u/\
      wpAny (model P w) X.A (letOwnedTupleGo tg (.ref it) u) (λ_ s2=>∃x H',Inv X pins σ H' s2/\RelV x u/\J.ZD i H x H'/\tn (i+1) s2.heap/\∀b∈fp,H' b=none) E s1) E s
  done:∀(X:Cx),X.prog=P->X.w=w->X.K=K->X.calm=true->∀(i:Nat) (pins:List (Addr×Obj)) (s:Shared) (σ:St) (H:Hp) (E:Value->Shared->Prop),Inv X pins σ H s->(∀b∈fp,tD X pins H b)->tn i s.heap->J.stop i H->
    wpAny (model P w) X.A (pyNext (.ref it)) (λr s1=>r=none/\Inv X pins σ H s1) E s
  self:∀(A:Around) (i:Nat) (s:Shared) (Q:Value->Shared->Prop) (E:Value->Shared->Prop),tn i s.heap->Q (.ref it) s->wpAny (model P w) A (pyIter (.ref it)) Q E s
abbrev TI:=St->Hp->(It->Hp->Prop)->Prop
def PIE(X:Cx)(pins:List (Addr×Obj))(σ:St)(tg:Expr)(R:It->Hp->Prop)(itv:Value)(s2:Shared):Prop:=
 ∃(it:Addr) (fp:List Addr) (tn:Nat->Heap->Prop) (J:It) (H':Hp),itv=.ref it/\Inv X pins σ H' s2/\Turn X.prog X.w X.K tg J fp it tn/\tn 0 s2.heap/\(∀b∈fp,tD X pins H' b)/\R J H'
def PI(X:Cx)(tg iter:Expr)(wi:TI):Prop:=
 ∀(pins:List (Addr×Obj)) (s:Shared) (σ:St) (H:Hp) (R:It->Hp->Prop),Inv X pins σ H s->wi σ H R->
  wpAny (model X.prog X.w) X.A (eval iter X.env) (λv s1=>wpAny (model X.prog X.w) X.A (pyIter v) (PIE X pins σ tg R) X.xe s1) X.xe s
theorem Zhp{M:Model}{A:Around}{E:Value->Shared->Prop}{s:Shared}{tg:Expr}{it:Addr}{u:Value}{o:Obj}{n:String}{vs:Array Value}{Q:Unit->Shared->Prop}(ho:s.heap.get? it=some o)(hc:o.cls=.type n)(hd:o.data=.fields vs)
    (hn:["enumerate","zip","dict_itemiterator","dict_reverseitemiterator","odict_iterator","itertools.zip_longest","itertools.pairwise"].contains n=false) (hQ:Q () s):wpAny M A (letOwnedTupleGo tg (.ref it) u) Q E s:=by
  unfold letOwnedTupleGo;cases tg<;>first
    | exact wpAny_pure hQ
    | (cases u<;>first
        | exact wpAny_pure hQ
        | (refine wpAny_bind (wpAny_load ho ?_)
           rw[hc,hd];show wpAny M A (if (["enumerate","zip","dict_itemiterator","dict_reverseitemiterator","odict_iterator","itertools.zip_longest","itertools.pairwise"].contains n && vs[0]? == some (rawInt _))=true then _ else _) Q E s;rw[if_neg (by intro h;rw[hn,Bool.false_and]at h;cases h)];exact wpAny_pure hQ))
def Itl(K:aC)(a:Addr):It:=
 ⟨λi H=>∃xs x,cR K H a xs/\xs[i]? =some x,λi H x H'=>H'=H/\∀xs,cR K H a xs->xs[i]? =some x,λi H=>∃xs,cR K H a xs/\xs.length<=i⟩
def Itr(lo:Int)(n:Nat):It:=⟨λi _=>i<n,λi H x H'=>H'=H/\x=.int (lo+i),λi _=>n<=i⟩
theorem Zda{P:Program}{w:World}{K:aC}{tg:Expr}(a it:Addr):Turn P w K tg (Itl K a) [it] it (λi h=>h.IsListIter it a i) where
  mem:=by simp
  obj:=λi h st b hb=>by
    have e:b=it:=by simpa using hb
    subst e;obtain⟨o,e,c,d⟩:=st;exact⟨o,e,λv z=>by rw[d]at z;cases z⟩
  keep:=λi h h' st k=>st.at λo e=>k it (by simp) o e
  item:=by
    intro X hP hw hK hc i pins s σ H E I hf st hg;subst hP hw hK;obtain⟨xs,x,hq,hx⟩:=hg;obtain⟨its,rv,p,hz⟩:=I.list hq;obtain⟨u,hu,ru⟩:=rv.get hx;obtain⟨f0,f1,f2,f3,f4,f5⟩:=hf it (by simp);refine wpAny_pyNext_list_item st p.isList (x:=u) (by simpa using hu) λh' st' sb=>?_;have I1:Inv X pins σ H { s with heap:=h' }:=I.turned (t':=s.toks) (λb o hb e=>(sb.2 b hb).trans e) f0 f1 f3 f4 f5;obtain⟨o,e,c,d⟩:=id st';exact⟨u,rfl,Zhp (s:={ s with heap:=h' }) e c d (by decide) ⟨x,H,I1,ru,⟨rfl,λys hy=>by rw[I.Yv hy hq];exact hx⟩,st',λb hb=>(hf b hb).1⟩⟩
  done:=by
    intro X hP hw hK hc i pins s σ H E I hf st hg;subst hP hw hK;obtain⟨xs,hq,hx⟩:=hg;obtain⟨its,rv,p,hz⟩:=I.list hq;obtain⟨f0,f1,f2,f3,f4,f5⟩:=hf it (by simp);have hl:=rv.length;exact wpAny_pyNext_list_end (I.ok.hd hc) st p.isList (by simp;omega) λh' eb=>⟨rfl,I.turned (t':=s.toks) (λb o hb e=>eb b o hb e) f0 f1 f3 f4 f5⟩
  self:=λ_ _ _ _ _ st h=>wpAny_pyIter_listiter st h
theorem ZL{P:Program}{w:World}{K:aC}{tg:Expr}(it:Addr)(lo:Int)(n:Nat):Turn P w K tg (Itr lo n) [it] it (λi h=>IsRangeIter h it (lo+(i:Nat) * 1) ((n:Int) - (i:Nat)) 1) where
  mem:=by simp
  obj:=λi h st b hb=>by
    have e:b=it:=by simpa using hb
    subst e;exact⟨_,st,λv z=>by
      have z':Data.fields _=Data.cell v:=z;cases z'⟩
  keep:=λi h h' st k=>k it (by simp) _ st
  item:=by
    intro X hP hw hK hc i pins s σ H E I hf st hg;subst hP hw hK;obtain⟨f0,f1,f2,f3,f4,f5⟩:=hf it (by simp);have W:=Walks.range (prog:=X.prog) (w:=X.w) (I.ok.hd hc) it lo 1 n;refine W.item i s _ _ hg st λv h' tk hv st' kk=>?_;obtain⟨t,rfl⟩:=hv;have I1:Inv X pins σ H { s with heap:=h',toks:=tk }:=I.turned (λb o hb e=>kk b o (by simpa using hb) e) f0 f1 f3 f4 f5;refine⟨_,rfl,Zhp (s:={ s with heap:=h',toks:=tk }) (n:="range_iterator") st' rfl rfl (by decide) ⟨.int (lo+i),H,I1,⟨t,?_⟩,⟨rfl,rfl⟩,st',λb hb=>(hf b hb).1⟩⟩;rw[Int.mul_one]
  done:=by
    intro X hP hw hK hc i pins s σ H E I hf st hg;subst hP hw hK;obtain⟨f0,f1,f2,f3,f4,f5⟩:=hf it (by simp);exact wpAny_pyNext_range_end (I.ok.hd hc) st (by have:n<=i:=hg;omega) λh' eb=>⟨rfl,I.turned (t':=s.toks) (λb o hb e=>eb b o hb e) f0 f1 f3 f4 f5⟩
  self:=λ_ _ _ _ _ st h=>wpAny_pyIter_rangeiter st h
end L2
namespace L2
open PySem PySem.Spec PyProof.Rows
section
variable {X:Cx}{tg:Expr}
def pK(K:aC)(tl:TE):TI:=λσ H R=>tl σ H λx H1=>∃a,x=.ref a/\(∃xs,cR K H1 a xs)/\R (Itl K a) H1
theorem jZ{l:Expr}{tl:TE}(hl:PE X l tl):PI X tg l (pK X.K tl):=by
 intro pins s σ H R I h;refine jW (hl pins s σ H _ I h) λv s1 ⟨x,H1,I1,r1,q1⟩=>?_;obtain⟨a,e,⟨xs,hq⟩,q⟩:=q1;subst e;cases r1;obtain⟨its,rv,p,hz⟩:=I1.list hq;refine wpAny_pyIter_list p.isList ?_;refine⟨s1.heap.objs.size,[s1.heap.objs.size],_,_,H1,rfl,I1.kept (t':=s1.toks) λb o e=>Heap.get?_push_of_some _ e,Zda a _,⟨_,Heap.get?_push_size _ rfl,rfl,rfl⟩,λb hb=>?_,q⟩;have e:b=s1.heap.objs.size:=by simpa using hb
 subst e;exact I1.Zbn (Nat.le_refl _) (I1.hok.fresh (Nat.le_refl _))
theorem Zfi{pins:List (Addr×Obj)}{σ:St}{H:Hp}{s:Shared}{R:It->Hp->Prop}{E:Value->Shared->Prop}{lo hi:Int}{t u v:Tok}{tk:Nat}(I:Inv X pins σ H s)(h1:-(2 ^ 62)<=lo)(h2:lo<2 ^ 62)(h3:-(2 ^ 62)<=hi)(h4:hi<2 ^ 62)
  (q:R (Itr lo (hi - lo).toNat) H):wpAny (model X.prog X.w) X.A (pyIter (.ref s.heap.objs.size)) (PIE X pins σ tg R) E { s with heap:=s.heap.push { cls:=.type "range",data:=.fields #[.int lo t,.int hi u,.int 1 v] },toks:=tk }:=by
 refine wpAny_pyIter_range (IsRange.new ..) (small_one h1 h2 h3 h4) ?_;have I1:Inv X pins σ H { s with heap:=s.heap.push { cls:=.type "range",data:=.fields #[.int lo t,.int hi u,.int 1 v] },toks:=tk }:=I.kept λb o e=>Heap.get?_push_of_some _ e;refine⟨(s.heap.push { cls:=.type "range",data:=.fields #[.int lo t,.int hi u,.int 1 v] }).objs.size,[(s.heap.push { cls:=.type "range",data:=.fields #[.int lo t,.int hi u,.int 1 v] }).objs.size],_,_,H,rfl,
  I1.kept (t':=tk) λb o e=>Heap.get?_push_of_some _ e,ZL _ lo (hi - lo).toNat,?_,λb hb=>?_,q⟩
 ·have e1:lo+((0:Nat):Int) * 1=lo:=by simp
  have e2:(((hi - lo).toNat:Nat):Int) - ((0:Nat):Int)=Builtin.Range.rangeSize lo hi 1:=by rw[rangeSize_one];split<;>omega
  show IsRangeIter _ _ (lo+((0:Nat):Int) * 1) ((((hi - lo).toNat:Nat):Int) - ((0:Nat):Int)) 1;rw[e1,e2];exact Heap.get?_push_size _ rfl
 ·have e:b=(s.heap.push { cls:=.type "range",data:=.fields #[.int lo t,.int hi u,.int 1 v] }).objs.size:=by simpa using hb
  subst e;exact I1.Zbn (Nat.le_refl _) (I1.hok.fresh (Nat.le_refl _))
def qY(ta:TA):TI:=λσ H R=>ta σ H λvs H1=>∃j:Int,vs=[.int j]/\-(2 ^ 62)<=j/\j<2 ^ 62/\R (Itr 0 j.toNat) H1
theorem gO{a:Expr}{ta:TA}{p pos:Pos}(hg:Gl X "range")(hm:X.mg "range"=none)(ha:PA X [a] ta)(hs:starEach [a] X.env=[(false,eval a X.env)]:=by rfl):PI X tg (.Call (.Name "range" p) [a] [] pos) (qY ta):=by
 intro pins s σ H R I h;refine Call_ (Ol I hg hm boot_range (PyProof.Rows.callWith_type1 (jW (ha pos pins s σ H _ I h) λus s1 ⟨vs,H1,I1,r1,q1⟩=>?_) hs rfl));obtain⟨j,e,q1,q2,q⟩:=q1;subst e;cases r1 with
 | cons r rr=>
  cases rr;obtain⟨t,rfl⟩:=r;exact call_range_1 (Zfi I1 (by omega) (by omega) q1 q2 (by simpa using q))
def sr(wi:TI)(g:TG)(tb:TS):TS:=λD σ H=>wi σ H λJ H1=>∃W:Nat->Nat->St->Hp->Prop,(∃m,W 0 m σ H1)/\∀i m σ H,W i m σ H->
 (J.stop i H/\D.nx σ H)\/(J.go i H/\∃N:St->Hp->Prop,(∀ σ' H',N σ' H'->∃m',m'<m/\W (i+1) m' σ' H')/\∀x H',J.ZD i H x H'->g x σ H' λσ2 H2=>tb { D with nx:=N,ct:=N,bk:=D.nx } σ2 H2)
def Dw(fp:List Addr)(h:Heap):List (Addr×Obj):=fp.filterMap λb=>(h.get? b).map λo=>(b,o)
theorem ud{fp:List Addr}{h:Heap}{b:Addr}{o:Obj}(hb:b∈fp)(e:h.get? b=some o):(b,o)∈Dw fp h:=List.mem_filterMap.mpr ⟨b,hb,by rw[e];rfl⟩
theorem Sy{fp:List Addr}{h:Heap}{p:Addr×Obj}(hp:p∈Dw fp h):p.1∈fp/\h.get? p.1=some p.2:=by
 obtain⟨b,hb,e⟩:=List.mem_filterMap.mp hp;cases q:h.get? b with
 | none=>rw[q]at e;cases e
 | some o=>
  rw[q]at e;have e':(b,o)=p:=Option.some.inj e;subst e';exact⟨hb,q⟩
theorem Inv.pinned{pins:List (Addr×Obj)}{σ:St}{H:Hp}{s:Shared}{fp:List Addr}(I:Inv X pins σ H s)(hf:∀b∈fp,tD X pins H b)(ho:∀b∈fp,∃o,s.heap.get? b=some o/\∀v,o.data≠.cell v):Inv X (pins++Dw fp s.heap) σ H s:=
 I.Bp λp hp=>(List.mem_append.mp hp).elim (λz=>I.pin p (List.mem_append_right _ z)) λz=>by
  obtain⟨hb,e⟩:=Sy z;obtain⟨f0,f1,f2,_⟩:=hf p.1 hb;obtain⟨o,e',d⟩:=ho p.1 hb;rw[e]at e';cases e';exact⟨e,f0,f1,f2,d⟩
theorem Inv.Ed{pins pl:List (Addr×Obj)}{σ:St}{H:Hp}{s:Shared}(I:Inv X (pins++pl) σ H s):Inv X pins σ H s:=I.Bp λp hp=>I.pin p (List.mem_append_right _ (List.mem_append_left _ hp))
theorem jN{iter:Expr}{body:List Stmt}{wi:TI}{g:TG}{tb:TS}{pos:Pos}(hp:PassesOwn (model X.prog X.w) X.A X.env X.xe)(hc:X.calm=true)(hi:PI X tg iter wi)(hg:PG X tg g)(hb:PSs X body tb)
  (hs:∀x,foldedSetIterable iter X.env x=pure x:=by intro _;rfl):PS X (.For tg iter body [] pos) (sr wi g tb):=by
 intro pins s σ H D I h;refine wpAny_For (jW (hi pins s σ H _ I h) λv s1 h1=>jW h1 λitv s2 h2=>?_) hs;obtain⟨it,fp,tn,J,H2,e,I2,T,st2,f2,W,⟨m0,w0⟩,turn⟩:=h2;subst e;have stat:∀{H':Hp},(∀b∈fp,H' b=none)->∀b∈fp,tD X pins H' b:=λhn b hb=>⟨hn b hb,(f2 b hb).2⟩;refine codeAny_forLoop_any (λn s'=>∃i σ' H',Inv X pins σ' H' s'/\tn i s'.heap/\(∀b∈fp,H' b=none)/\W i n σ' H') ?_ m0 ⟨0,σ,H2,I2,st2,λb hb=>(f2 b hb).1,w0⟩;rintro n s3 ⟨i,σ3,H3,I3,st3,fr3,w3⟩;rcases turn i n σ3 H3 w3 with ⟨stop,qn⟩ | ⟨go,N,hN,step⟩
 ·refine wpAny_passesOwn hp (jW (T.done X rfl rfl rfl hc i pins s3 σ3 H3 X.xe I3 (stat fr3) st3 stop) λr s4 ⟨hr,I4⟩=>?_);subst hr;exact wpAny_execs_nil ⟨σ3,H3,I4,qn⟩
 ·refine wpAny_passesOwn hp (jW (T.item X rfl rfl rfl hc i pins s3 σ3 H3 X.xe I3 (stat fr3) st3 go) λr s4 ⟨u,hr,h4⟩=>?_);subst hr;refine wpAny_passesOwn hp (jW h4 λ_ s5 ⟨x,H5,I5,r5,y5,st5,fr5⟩=>?_);have I5':=I5.pinned (stat fr5) (T.obj _ _ st5);refine wpAny_passesOwn hp (jW (hg _ s5 σ3 H5 x u _ I5' r5 (step x H5 y5)) λ_ s6 ⟨σ6,H6,I6,q6⟩=>?_);refine wpAny_passesOwn hp (jW (hb _ s6 σ6 H6 _ I6 q6) λf s7 q7=>?_);have again:∀{σ7:St}{H7:Hp},Inv X (pins++Dw fp s5.heap) σ7 H7 s7->N σ7 H7->∃m,m<n/\∃i σ' H',Inv X pins σ' H' s7/\tn i s7.heap/\(∀b∈fp,H' b=none)/\W i m σ' H':=λ{σ7 H7} I7 n7=>by
   obtain⟨m',hm,w7⟩:=hN σ7 H7 n7;refine⟨m',hm,i+1,σ7,H7,I7.Ed,T.keep _ _ _ st5 λb hb o e=>(I7.pin (b,o) (List.mem_append_right _ (List.mem_append_right _ (ud hb e)))).1,λb hb=>?_,w7⟩;obtain⟨o,e,d⟩:=T.obj _ _ st5 b hb;exact(I7.pin (b,o) (List.mem_append_right _ (List.mem_append_right _ (ud hb e)))).2.1
  cases f with
  | next=>obtain⟨σ7,H7,I7,n7⟩:=q7;exact again I7 n7
  | cont=>obtain⟨σ7,H7,I7,n7⟩:=q7;exact again I7 n7
  | brk=>obtain⟨σ7,H7,I7,q7⟩:=q7;exact⟨σ7,H7,I7.Ed,q7⟩
  | ret v=>obtain⟨x7,σ7,H7,I7,r7,q7⟩:=q7;exact⟨x7,σ7,H7,I7.Ed,r7,q7⟩
end
theorem Zhu{K:aC}{a:Addr}{xs:List V}{g:TG}{tb:TS}{D:Ends}{σ:St}{H:Hp}(Pv:Nat->St->Hp->Prop)(h0:Pv 0 σ H)(hl:∀i σ H,i<=xs.length->Pv i σ H->cR K H a xs)
  (hs:∀i x σ H,xs[i]? =some x->Pv i σ H->g x σ H λσ2 H2=>tb { D with nx:=Pv (i+1),ct:=Pv (i+1),bk:=D.nx } σ2 H2) (hd:∀ σ H,Pv xs.length σ H->D.nx σ H):
  ∃W:Nat->Nat->St->Hp->Prop,(∃m,W 0 m σ H)/\∀i m σ H,W i m σ H->
   ((Itl K a).stop i H/\D.nx σ H)\/((Itl K a).go i H/\∃N:St->Hp->Prop,(∀ σ' H',N σ' H'->∃m',m'<m/\W (i+1) m' σ' H')/\∀x H',(Itl K a).ZD i H x H'->g x σ H' λσ2 H2=>tb { D with nx:=N,ct:=N,bk:=D.nx } σ2 H2):=by
 refine⟨λi m σ H=>m=xs.length - i/\i<=xs.length/\Pv i σ H,⟨xs.length,by simp,Nat.zero_le _,h0⟩,?_⟩;rintro i m σ H ⟨rfl,hi,p⟩;have q:=hl i σ H hi p
 by_cases hlt:i<xs.length
 ·refine .inr ⟨⟨xs,xs[i],q,by simp[hlt]⟩,Pv (i+1),λσ' H' p'=>⟨xs.length - (i+1),by omega,rfl,hlt,p'⟩,λx H' y=>?_⟩;obtain⟨e,y⟩:=y;subst e;exact hs i x σ _ (y xs q) p
 ·have e:i=xs.length:=by omega
  subst e;exact .inl ⟨⟨xs,q,Nat.le_refl _⟩,hd σ H p⟩
theorem Zeg{lo:Int}{n:Nat}{g:TG}{tb:TS}{D:Ends}{σ:St}{H:Hp}(Pv:Nat->St->Hp->Prop)(h0:Pv 0 σ H)
  (hs:∀i σ H,i<n->Pv i σ H->g (.int (lo+i)) σ H λσ2 H2=>tb { D with nx:=Pv (i+1),ct:=Pv (i+1),bk:=D.nx } σ2 H2) (hd:∀ σ H,Pv n σ H->D.nx σ H):
  ∃W:Nat->Nat->St->Hp->Prop,(∃m,W 0 m σ H)/\∀i m σ H,W i m σ H->
   ((Itr lo n).stop i H/\D.nx σ H)\/((Itr lo n).go i H/\∃N:St->Hp->Prop,(∀ σ' H',N σ' H'->∃m',m'<m/\W (i+1) m' σ' H')/\∀x H',(Itr lo n).ZD i H x H'->g x σ H' λσ2 H2=>tb { D with nx:=N,ct:=N,bk:=D.nx } σ2 H2):=by
 refine⟨λi m σ H=>m=n - i/\i<=n/\Pv i σ H,⟨n,by simp,Nat.zero_le _,h0⟩,?_⟩;rintro i m σ H ⟨rfl,hi,p⟩
 by_cases hlt:i<n
 ·refine .inr ⟨hlt,Pv (i+1),λσ' H' p'=>⟨n - (i+1),by omega,rfl,hlt,p'⟩,λx H' y=>?_⟩;obtain⟨e,y⟩:=y;subst e y;exact hs i σ _ hlt p
 ·have e:i=n:=by omega
  subst e;exact .inl ⟨Nat.le_refl _,hd σ H p⟩
end L2
namespace L2
open PySem PySem.Spec PyProof.Rows
abbrev R2:=V->V->Hp->VK->Prop
def Cq(X:Cx)(f:Value->Value->Sem Value)(r:R2):Prop:=
 ∀(pins:List (Addr×Obj)) (s:Shared) (σ:St) (H:Hp) (x y:V) (v u:Value) (Q:VK),Inv X pins σ H s->RelV x v->RelV y u->r x y H Q->
  wpAny (model X.prog X.w) X.A (f v u) (EP X pins σ Q) X.xe s
def Kr(X:Cx)(f:Value)(r:List V->Hp->VK->Prop):Prop:=
 ∀(pins:List (Addr×Obj)) (s:Shared) (σ:St) (H:Hp) (xs:List V) (us:List Value) (Q:VK),Inv X pins σ H s->Vals xs us->r xs H Q->
  wpAny (model X.prog X.w) X.A (call f us) (EP X pins σ Q) X.xe s
def Zyl(X:Cx)(r:V->Hp->(Bool->Hp->Prop)->Prop):Prop:=
 ∀(pins:List (Addr×Obj)) (s:Shared) (σ:St) (H:Hp) (x:V) (v:Value) (Q:Bool->Hp->Prop),Inv X pins σ H s->RelV x v->r x H Q->
  wpAny (model X.prog X.w) X.A (truthy v) (TP X pins σ Q) X.xe s
def bO(r:R2)(ta tb:TE):TE:=λσ H Q=>ta σ H λx H1=>tb σ H1 λy H2=>r x y H2 Q
def rI(C:Int->Int->Prop)(g:Int->Int->V):R2:=λx y H Q=>∃i j,x=.int i/\y=.int j/\C i j/\Q (g i j) H
def qw(g:Int->Int->V):R2:=λx y H Q=>∃i j,x=.int i/\y=.int j/\Q (g i j) H
section
variable {X:Cx}{a b c:Expr}{ta tb tc:TE}{pos:Pos}
theorem Zow(ha:PE X a ta)(hb:PE X b tb){pins:List (Addr×Obj)}{s:Shared}{σ:St}{H:Hp}{R:V->V->Hp->Prop}(I:Inv X pins σ H s)
  (h:ta σ H λx H1=>tb σ H1 λy H2=>R x y H2) {Q:Value->Shared->Prop}{f:Value->Value->Sem Value}
  (hf:∀v u s2 x y H2,Inv X pins σ H2 s2->RelV x v->RelV y u->R x y H2->wpAny (model X.prog X.w) X.A (f v u) Q X.xe s2):
  wpAny (model X.prog X.w) X.A (eval a X.env) (λv s₁=>wpAny (model X.prog X.w) X.A (eval b X.env) (λu s₂=>wpAny (model X.prog X.w) X.A (f v u) Q X.xe s₂) X.xe s₁) X.xe s:=by
 refine jW (ha pins s σ H _ I h) λv s1 ⟨x,H1,I1,r1,q1⟩=>?_;refine jW (hb pins s1 σ H1 _ I1 q1) λu s2 ⟨y,H2,I2,r2,q2⟩=>?_;exact hf v u s2 x y H2 I2 r1 r2 q2
theorem bU{op:Operator}{r:R2}(ho:Cq X (binaryOp op) r)(ha:PE X a ta)(hb:PE X b tb):PE X (.BinOp a op b pos) (bO r ta tb):=by
 intro pins s σ H Q I h;exact wpAny_BinOp (Zow ha hb I h λv u s2 x y H2 I2 rx ry q=>ho pins s2 σ H2 x y v u Q I2 rx ry q)
theorem opI{f:Value->Value->Sem Value}{C:Int->Int->Prop}{g:Int->Int->Int}
  (rule:∀(i j:Int) (t u:Tok) (s:Shared) (Q:Value->Shared->Prop) (E:Value->Shared->Prop),C i j->Q (.int (g i j) s.toks) { s with toks:=s.toks+1 }->wpAny (model X.prog X.w) X.A (f (.int i t) (.int j u)) Q E s):
  Cq X f (rI C λi j=>.int (g i j)):=by
 intro pins s σ H x y v u Q I rx ry h;obtain⟨i,j,rfl,rfl,hc,q⟩:=h;obtain⟨t,rfl⟩:=rx;obtain⟨t',rfl⟩:=ry;exact rule i j t t' s _ _ hc ⟨.int (g i j),H,I.tok _,⟨_,rfl⟩,q⟩
theorem Zju{f:Value->Value->Sem Value}{g:Int->Int->Int}
  (rule:∀(i j:Int) (t u:Tok) (s:Shared) (Q:Value->Shared->Prop) (E:Value->Shared->Prop),Q (.int (g i j) s.toks) { s with toks:=s.toks+1 }->wpAny (model X.prog X.w) X.A (f (.int i t) (.int j u)) Q E s):
  Cq X f (qw λi j=>.int (g i j)):=by
 intro pins s σ H x y v u Q I rx ry h;obtain⟨i,j,rfl,rfl,q⟩:=h;obtain⟨t,rfl⟩:=rx;obtain⟨t',rfl⟩:=ry;exact rule i j t t' s _ _ ⟨.int (g i j),H,I.tok _,⟨_,rfl⟩,q⟩
theorem Zn0{f:Value->Value->Sem Value}{g:Int->Int->Bool}
  (rule:∀(i j:Int) (t u:Tok) (s:Shared) (Q:Value->Shared->Prop) (E:Value->Shared->Prop),Q (.bool (g i j)) s->wpAny (model X.prog X.w) X.A (f (.int i t) (.int j u)) Q E s):
  Cq X f (qw λi j=>.bl (g i j)):=by
 intro pins s σ H x y v u Q I rx ry h;obtain⟨i,j,rfl,rfl,q⟩:=h;obtain⟨t,rfl⟩:=rx;obtain⟨t',rfl⟩:=ry;exact rule i j t t' s _ _ ⟨.bl (g i j),H,I,rfl,q⟩
def Zc9(i j:Int):Prop:=0<j/\j<1073741824
def Zc8(i j:Int):Prop:=0<=j/\j<=1000000/\i.natAbs<2 ^ 64
def ZC(i j:Int):Prop:=(-(2 ^ 64)<i/\i<2 ^ 64)\/(-(2 ^ 64)<j/\j<2 ^ 64)
theorem ZC.ok{i j:Int}(h:ZC i j):IntMulOk i j:=by
 rcases h with ⟨h1,h2⟩ | ⟨h1,h2⟩
 ·exact .of_left (intBits_le_64 h1 h2)
 ·exact .of_right (intBits_le_64 h1 h2)
theorem ZK(k:Nat):(0:Int)<=2 ^ k:=by
 rw[two_pow_cast];exact Int.natCast_nonneg _
theorem kO:Cq X (binaryOp .Add) (qw λi j=>.int (i+j)):=Zju λ_ _ _ _ _ _ _ q=>add_int q
theorem Iv:Cq X (binaryOp .Sub) (qw λi j=>.int (i - j)):=Zju λ_ _ _ _ _ _ _ q=>sub_int q
theorem Zal:Cq X (binaryOp .Mult) (rI ZC λi j=>.int (i * j)):=opI λ_ _ _ _ _ _ _ hc q=>mul_int q hc.ok
theorem Bu:Cq X (binaryOp .FloorDiv) (rI Zc9 λi j=>.int (i / j)):=opI λi j _ _ _ _ _ hc q=>by
 have h1:(0:Int)<j:=hc.1;have h2:j<1073741824:=hc.2;exact floordiv_int (by omega) (by rw[Int.fdiv_eq_ediv_of_nonneg i (by omega)];exact q) (.inl (PyProof.noPylong_small (by omega)))
theorem mD:Cq X (binaryOp .Mod) (rI (λ_ j=>0<j) λi j=>.int (i % j)):=opI λi j _ _ _ _ _ hc q=>by
 have h1:(0:Int)<j:=hc;exact mod_int' (by omega) (by rw[Int.fmod_eq_emod_of_nonneg i (by omega)];exact q)
theorem Zg5:Cq X (binaryOp .Pow) (rI Zc8 λi j=>.int (i ^ j.toNat)):=opI λ_ _ _ _ _ _ _ hc q=>pow_int_small hc.1 hc.2.1 hc.2.2 q
theorem Zg4:Cq X (binaryOp .LShift) (rI Zc8 λi j=>.int (i * 2 ^ j.toNat)):=opI λ_ _ _ _ _ _ _ hc q=>lshift_int_small hc.1 hc.2.1 hc.2.2 q
theorem Zaj:Cq X (binaryOp .RShift) (rI (λ_ j=>0<=j) λi j=>.int (i / 2 ^ j.toNat)):=opI λi j _ _ _ _ _ hc q=>
 rshift_int hc (by rw[Int.fdiv_eq_ediv_of_nonneg i (ZK _)];exact q)
theorem Nz:Cq X (binaryOp .BitAnd) (qw λi j=>.int (Builtin.bitAnd i j)):=Zju λ_ _ _ _ _ _ _ q=>and_int q
theorem Zpv:Cq X (binaryOp .BitOr) (qw λi j=>.int (Builtin.bitOr i j)):=Zju λ_ _ _ _ _ _ _ q=>or_int q
end
def Zpo:V->V->Bool
 | .non,.non=>true | .non,.int _=>true | .int _,.non=>true | .non,.bl _=>true | .bl _,.non=>true | .non,.str _=>true | .str _,.non=>true
 | .int _,.int _=>true | .bl _,.bl _=>true | .str _,.str _=>true | .byt _,.byt _=>true
 | .int _,.str _=>true | .str _,.int _=>true | .bl _,.str _=>true | .str _,.bl _=>true
 | _,_=>false
def Eb:R2:=λx y H Q=>Zpo x y=true/\Q (.bl (decide (x=y))) H
def rNe:R2:=λx y H Q=>Zpo x y=true/\Q (.bl (!decide (x=y))) H
theorem Zcy{i j:Int}:decide (V.int i=V.int j)=(i == j):=by
 rw[Bool.eq_iff_iff];simp
theorem Zi7{i j:Bool}:decide (V.bl i=V.bl j)=(i == j):=by
 rw[Bool.eq_iff_iff];simp
theorem Zcx{i j:Str}:decide (V.str i=V.str j)=(i == j):=by
 rw[Bool.eq_iff_iff];simp
theorem Zcz{i j:Array UInt8}:decide (V.byt i=V.byt j)=(i.toList == j.toList):=by
 rw[Bool.eq_iff_iff];cases i;cases j;simp
section
variable {X:Cx}{a b c:Expr}{ta tb tc:TE}{pos:Pos}
theorem dZ{pins:List (Addr×Obj)}{σ:St}{H:Hp}{s:Shared}{Q:VK}{k k':Bool}(I:Inv X pins σ H s)(q:Q (.bl k) H)(e:k=k'):EP X pins σ Q (.bool k') s:=by
 subst e;exact⟨.bl k,H,I,rfl,q⟩
theorem kJ:Cq X (compareOp .Eq) Eb:=by
 intro pins s σ H x y v u Q I rx ry h;obtain⟨hs,q⟩:=h;cases x with
 | non=>
  cases rx;cases y with
  | non=>cases ry;exact PySem.EqNone.eq_none_none (dZ I q (by simp))
  | bl j=>cases ry;exact PySem.EqNone.eq_none_bool (dZ I q (by simp))
  | int j=>obtain⟨t',rfl⟩:=ry;exact PySem.EqNone.eq_none_int (dZ I q (by simp))
  | str j=>obtain⟨t',rfl⟩:=ry;exact PySem.EqNone.eq_none_str (dZ I q (by simp))
  | _=>exact absurd (show false=true from hs) Bool.false_ne_true
 | bl i=>
  cases rx;cases y with
  | non=>cases ry;exact PySem.EqNone.eq_bool_none (dZ I q (by simp))
  | bl j=>cases ry;exact eq_bool (dZ I q Zi7)
  | str j=>obtain⟨t',rfl⟩:=ry;exact PySem.EqMixed.eq_bool_str (dZ I q (by simp))
  | _=>exact absurd (show false=true from hs) Bool.false_ne_true
 | int i=>
  obtain⟨t,rfl⟩:=rx;cases y with
  | non=>cases ry;exact PySem.EqNone.eq_int_none (dZ I q (by simp))
  | int j=>obtain⟨t',rfl⟩:=ry;exact eq_int (dZ I q Zcy)
  | str j=>obtain⟨t',rfl⟩:=ry;exact PySem.EqMixed.eq_int_str (dZ I q (by simp))
  | _=>exact absurd (show false=true from hs) Bool.false_ne_true
 | str i=>
  obtain⟨t,rfl⟩:=rx;cases y with
  | non=>cases ry;exact PySem.EqNone.eq_str_none (dZ I q (by simp))
  | bl j=>cases ry;exact PySem.EqMixed.eq_str_bool (dZ I q (by simp))
  | int j=>obtain⟨t',rfl⟩:=ry;exact PySem.EqMixed.eq_str_int (dZ I q (by simp))
  | str j=>obtain⟨t',rfl⟩:=ry;exact eq_str (dZ I q Zcx)
  | _=>exact absurd (show false=true from hs) Bool.false_ne_true
 | byt i=>
  obtain⟨t,rfl⟩:=rx;cases y with
  | byt j=>obtain⟨t',rfl⟩:=ry;exact W.eq_bytes (dZ I q Zcz)
  | _=>exact absurd (show false=true from hs) Bool.false_ne_true
 | _=>cases y<;>exact absurd (show false=true from hs) Bool.false_ne_true
theorem Cv:Cq X (compareOp .NotEq) rNe:=by
 intro pins s σ H x y v u Q I rx ry h;obtain⟨hs,q⟩:=h;cases x with
 | non=>
  cases rx;cases y with
  | non=>cases ry;exact PySem.EqNone.ne_none_none (dZ I q (by simp))
  | bl j=>cases ry;exact PySem.EqNone.ne_none_bool (dZ I q (by simp))
  | int j=>obtain⟨t',rfl⟩:=ry;exact PySem.EqNone.ne_none_int (dZ I q (by simp))
  | str j=>obtain⟨t',rfl⟩:=ry;exact PySem.EqNone.ne_none_str (dZ I q (by simp))
  | _=>exact absurd (show false=true from hs) Bool.false_ne_true
 | bl i=>
  cases rx;cases y with
  | non=>cases ry;exact PySem.EqNone.ne_bool_none (dZ I q (by simp))
  | bl j=>cases ry;exact ne_bool (dZ I q (congrArg not Zi7))
  | str j=>obtain⟨t',rfl⟩:=ry;exact PySem.EqMixed.ne_bool_str (dZ I q (by simp))
  | _=>exact absurd (show false=true from hs) Bool.false_ne_true
 | int i=>
  obtain⟨t,rfl⟩:=rx;cases y with
  | non=>cases ry;exact PySem.EqNone.ne_int_none (dZ I q (by simp))
  | int j=>obtain⟨t',rfl⟩:=ry;exact ne_int (dZ I q (congrArg not Zcy))
  | str j=>obtain⟨t',rfl⟩:=ry;exact PySem.EqMixed.ne_int_str (dZ I q (by simp))
  | _=>exact absurd (show false=true from hs) Bool.false_ne_true
 | str i=>
  obtain⟨t,rfl⟩:=rx;cases y with
  | non=>cases ry;exact PySem.EqNone.ne_str_none (dZ I q (by simp))
  | bl j=>cases ry;exact PySem.EqMixed.ne_str_bool (dZ I q (by simp))
  | int j=>obtain⟨t',rfl⟩:=ry;exact PySem.EqMixed.ne_str_int (dZ I q (by simp))
  | str j=>obtain⟨t',rfl⟩:=ry;exact ne_str (dZ I q (congrArg not Zcx))
  | _=>exact absurd (show false=true from hs) Bool.false_ne_true
 | byt i=>
  obtain⟨t,rfl⟩:=rx;cases y with
  | byt j=>obtain⟨t',rfl⟩:=ry;exact W.ne_bytes (dZ I q (congrArg not Zcz))
  | _=>exact absurd (show false=true from hs) Bool.false_ne_true
 | _=>cases y<;>exact absurd (show false=true from hs) Bool.false_ne_true
theorem XX:Cq X (compareOp .Lt) (qw λi j=>.bl (decide (i<j))):=Zn0 λ_ _ _ _ _ _ _ q=>lt_int q
theorem Zck:Cq X (compareOp .Gt) (qw λi j=>.bl (decide (j<i))):=Zn0 λ_ _ _ _ _ _ _ q=>gt_int q
theorem Zpw:Cq X (compareOp .GtE) (qw λi j=>.bl (decide (j<=i))):=Zn0 λ_ _ _ _ _ _ _ q=>ge_int q
theorem Zmy:Cq X (compareOp .Is) (λx y H Q=>y=.non/\Q (.bl (decide (x=.non))) H):=by
 intro pins s σ H x y v u Q I rx ry h;obtain⟨rfl,q⟩:=h;cases ry;refine is_none_gen (dZ I q ?_);cases x<;>first
  | (cases rx;rfl)
  | (obtain⟨t,rfl⟩:=rx;rfl)
theorem Zjs:Cq X (compareOp .IsNot) (λx y H Q=>y=.non/\Q (.bl (!decide (x=.non))) H):=by
 intro pins s σ H x y v u Q I rx ry h;obtain⟨rfl,q⟩:=h;cases ry;refine isnot_none_gen (dZ I q ?_);cases x<;>first
  | (cases rx;rfl)
  | (obtain⟨t,rfl⟩:=rx;rfl)
def isObj:HO->Bool
 | .lst _=>true
 | .ins _ _ _=>true
 | _=>false
theorem SJ{pins:List (Addr×Obj)}{s:Shared}{σ:St}{H:Hp}{a:Addr}{o:HO}(I:Inv X pins σ H s)(h:H a=some o)(p:isObj o=true):∃ob,s.heap.get? a=some ob/\ob.cls≠.type "tuple":=by
 cases o with
 | lst xs=>
  obtain⟨_,its,n,_,e⟩:xs.length<=sizeLine/\∃(its:List Value) (n:Nat),Vals xs its/\s.heap.get? a=some { cls:=.type "list",data:=.seq its.toArray n }:=I.hok a _ h;exact⟨_,e,(by show Value.type "list"≠.type "tuple";decide +kernel)⟩
 | ins C dx fs=>
  have x:=I.hok a _ h;obtain⟨_,_,_,e,_⟩:=x;exact⟨_,e,(by show Value.ref C≠.type "tuple";exact λz=>by cases z)⟩
 | _=>exact absurd (show false=true from p) Bool.false_ne_true
theorem bx(b:Expr){op:CmpOp}(h:op≠.In:=by decide)(h2:op≠.NotIn:=by decide):behindInMarks op b=false:=by
 have e1:(op == CmpOp.In)=false:=by cases op<;>first | rfl | exact absurd rfl h
 have e2:(op == CmpOp.NotIn)=false:=by cases op<;>first | rfl | exact absurd rfl h2
 cases b<;>simp[behindInMarks,e1,e2]
theorem j7{op:CmpOp}{r:R2}(ho:Cq X (compareOp op) r)(ha:PE X a ta)(hb:PE X b tb)(hm:behindInMarks op b=false):PE X (.Compare a [op] [b] pos) (bO r ta tb):=by
 intro pins s σ H Q I h;exact wpAny_Compare1 (Zow ha hb I h λv u s2 x y H2 I2 rx ry q=>ho pins s2 σ H2 x y v u Q I2 rx ry q) hm
def cB(t:TE):TT:=λσ H Q=>t σ H λx H'=>∃k,x=.bl k/\Q k H'
theorem aX{op:CmpOp}{r:R2}(ho:Cq X (compareOp op) r)(ha:PE X a ta)(hb:PE X b tb)(hm:behindInMarks op b=false):PT X (.Compare a [op] [b] pos) (cB (bO r ta tb)):=by
 intro pins s σ H Q I h;refine wpAny_isTrue_Compare1 (jW (ha pins s σ H _ I h) λv s1 ⟨x,H1,I1,r1,q1⟩=>jW (hb pins s1 σ H1 _ I1 q1) λu s2 ⟨y,H2,I2,r2,q2⟩=>
  jW (ho pins s2 σ H2 x y v u _ I2 r1 r2 q2) λc s3 ⟨z,H3,I3,r3,k,e,q3⟩=>?_) hm
 subst e;cases r3;exact wpAny_truthy_bool ⟨H3,I3,q3⟩
def Zib(K:aC)(x:V)(H:Hp)(k:Bool):Prop:=
 match x with
 | .non=>k=false
 | .bl b=>k=b
 | .int i=>k=(i != 0)
 | .str y=>y.length<=sizeLine/\k=((y.length:Int) != 0)
 | .byt y=>y.size<=sizeLine/\k=((y.size:Int) != 0)
 | .ref p=>(∃xs,cR K H p xs/\k=!xs.isEmpty)\/(∃xs,qZ K H p xs/\k=!xs.isEmpty)\/∃kvs,H p=some (.dK kvs)/\k=!kvs.isEmpty
 | _=>False
theorem Zb9{κ:Type}{kvs:List (κ×V)}{vs:List (κ×Value)}(r:KV kvs vs):(!vs.isEmpty)=!kvs.isEmpty:=by
 cases r<;>rfl
theorem Ox{xs:List V}{its:List Value}(r:Vals xs its):(!its.toArray.isEmpty)=!xs.isEmpty:=by
 cases r<;>simp
theorem Jm:(sizeLine:Nat)<2 ^ 63:=by rw[sizeLine_eq];decide
theorem Zmh:Zyl X (λx H Q=>∃k,Zib X.K x H k/\Q k H):=by
 intro pins s σ H x v Q I rx h;obtain⟨k,e,q⟩:=h;have hl:=Jm;have hs:sizeLine=16777216:=sizeLine_eq;cases x with
 | non=>
  cases rx;have e':k=false:=e;subst e';exact truthy_none ⟨H,I,q⟩
 | bl b=>
  cases rx;have e':k=b:=e;subst e';exact wpAny_truthy_bool ⟨H,I,q⟩
 | int i=>
  obtain⟨t,rfl⟩:=rx;have e':k=(i != 0):=e;subst e';exact PySem.P.truthy_int ⟨H,I,q⟩
 | str y=>
  obtain⟨t,rfl⟩:=rx;obtain⟨hy,e'⟩:y.length<=sizeLine/\k=((y.length:Int) != 0):=e;subst e';exact PySem.P.truthy_str (by omega) ⟨H,I.tok _,q⟩
 | byt y=>
  obtain⟨t,rfl⟩:=rx;obtain⟨hy,e'⟩:y.size<=sizeLine/\k=((y.size:Int) != 0):=e;subst e';exact W.truthy_bytes (by omega) ⟨H,I.tok _,q⟩
 | ref p=>
  cases rx;have e':(∃xs,cR X.K H p xs/\k=!xs.isEmpty)\/(∃xs,qZ X.K H p xs/\k=!xs.isEmpty)\/∃kvs,H p=some (.dK kvs)/\k=!kvs.isEmpty:=e;rcases e' with ⟨xs,hx,e'⟩ | ⟨xs,hx,e'⟩ | ⟨kvs,hx,e'⟩
  ·subst e';obtain⟨its,r,pl,hz⟩:=I.list hx;have hlen:=r.length;exact wpAny_truthy_list pl.isList (by simp only[List.size_toArray];omega) ⟨H,I.tok _,by rw[Ox r];exact q⟩
  ·subst e';obtain⟨its,r,pl,hz⟩:=I.tuple hx;have hlen:=r.length;exact truthy_tuple pl (by simp only[List.size_toArray];omega) ⟨H,I.tok _,by rw[Ox r];exact q⟩
  ·subst e';obtain⟨hz,hS,vs,r,m⟩:kvs.length<=sizeLine/\(p == sysModules)=false/\∃vs,KV kvs vs/\s.heap.DictOf (fB X.prog X.w) p vs:=I.hok p _ hx;have hlen:kvs.length=vs.length:=Paired.length r;exact wpAny_truthy_dict hS m (by omega) ⟨H,I.tok _,by rw[Zb9 r];exact q⟩
 | _=>exact(show False from e).elim
theorem XF(ha:PE X a ta)(he:∀whole,isTrue a X.env whole=(do let v <- whole;standAt a.pos;holding [v] (truthy v))):
  PT X a (λσ H Q=>ta σ H λx H'=>∃k,Zib X.K x H' k/\Q k H'):=by
 intro pins s σ H Q I h;exact isTrue_plain (jW (ha pins s σ H _ I h) λv s1 ⟨x,H1,I1,r1,q1⟩=>Zmh pins s1 σ H1 x v Q I1 r1 q1) (he _)
theorem DK:Cq X (binaryOp .Add) (λx y H Q=>∃i j,x=.str i/\y=.str j/\i.length+j.length<=sizeLine/\Q (.str (i++j)) H):=by
 intro pins s σ H x y v u Q I rx ry h;obtain⟨i,j,rfl,rfl,hz,q⟩:=h;obtain⟨t,rfl⟩:=rx;obtain⟨t',rfl⟩:=ry;exact add_str (λt' tk=>⟨.str (i++j),H,I.tok _,⟨_,rfl⟩,q⟩) hz
theorem vals1{x:V}{us:List Value}(r:Vals [x] us):∃u,us=[u]/\RelV x u:=by
 cases r with
 | cons r1 r2=>cases r2;exact⟨_,rfl,r1⟩
theorem vals2{x y:V}{us:List Value}(r:Vals [x,y] us):∃u w',us=[u,w']/\RelV x u/\RelV y w':=by
 cases r with
 | cons r1 r2=>
  cases r2 with
  | cons r3 r4=>cases r4;exact⟨_,_,rfl,r1,r3⟩
end
end L2
namespace L2
open PySem PySem.Spec PyProof.Rows
structure Zc1(h:Heap)(x dx C:Addr)(mA:Str->Option Value):Prop where
 obj:h.get? x=some (W.instObj C dx)
 ns:h.Ns1 dx mA
 ne:dx≠x
theorem Zdz{h:Heap}{dx:Addr}{mA:Str->Option Value}(n:h.Ns1 dx mA):∃od,h.get? dx=some od/\∀name,W.lookIn name od=some (mA name):=by
 obtain⟨o,es,ep,ho,hd,hk,_,hm⟩:=n;refine⟨o,ho,λname=>?_⟩;have e:=hm name;unfold nsFind findBy at e;rw[<- Array.find?_toList]at e;unfold W.lookIn;rw[hd];dsimp only;split
 ·rename_i y q
  rw[q]at e;exact congrArg some e
 ·rename_i q
  rw[q]at e;have a:es.toList.any (·.refKey)=false:=by
   rw[List.any_eq_false];intro y hy;obtain⟨z,t,hkey⟩:=hk y (Array.mem_toList_iff.mp hy);simp[DictEntry.refKey,hkey]
  have a':¬ es.toList.any (·.refKey)=true:=by rw[a];exact Bool.false_ne_true
  rw[if_neg a'];exact congrArg some e
theorem Zc1.look{h:Heap}{x dx C:Addr}{mA:Str->Option Value}(I:Zc1 h x dx C mA):∃od,W.InstAt h x (W.instObj C dx) C (some od)/\∀name,W.lookIn name od=some (mA name):=
 let ⟨od,ho,hl⟩:=Zdz I.ns
 ⟨od,⟨I.obj,rfl,rfl,ho⟩,hl⟩
section
variable {prog:Program}{w:World}{A:Around}{E:Value->Shared->Prop}{s:Shared}{K:aC}{x dx C f:Addr}{mA:Str->Option Value}{name:Str}{v:Value}
theorem get_map{expr:Bool}{Q:Value->Shared->Prop}(X:K.In s.heap)(I:Zc1 s.heap x dx C mA)(hg:W.plainGet K C name=true)(hh:W.hasDictIn K C=true)
  (ha:W.findIn K (.ref C) name=some none) (hv:mA name=some v) (hv':W.handedIn v=true) (h:Q v { s with toks:=s.toks+1 }):
  wpAny (model prog w) A (getAttr (.ref x) name expr) Q E s:=by
 obtain⟨od,J,hl⟩:=I.look;exact W.get_value X J (W.plainGet_of hg).1 (W.findObj_own hh ha rfl (by rw[hl,hv])) hv' h
theorem Zhq{pl:Sem Bool}{Q:Value×List Value->Shared->Prop}(X:K.In s.heap)(I:Zc1 s.heap x dx C mA)(hg:W.plainGet K C name=true)
  (hf:W.findIn K (.ref C) name=some (some (.ref f))) (ht:W.isFn K (.ref f)=true) (hv:mA name=none) (h:Q (.ref f,[.ref x]) s):
  wpAny (model prog w) A (getMethod (.ref x) name pl) Q E s:=by
 obtain⟨od,J,hl⟩:=I.look;exact W.method_fn X J (W.plainGet_of hg).1 (W.plainGet_of hg).2 hf (beq_iff_eq.mp ht) (by show(W.lookIn name od).map (·.isSome)=some false;rw[hl,hv];rfl) h
theorem Zit{ns:List Str}{Q:Unit->Shared->Prop}(X:K.In s.heap)(I:Zc1 s.heap x dx C mA)
  (hs:W.findIn K (.ref C) "__setattr__"=some (some (.builtin "object.__setattr__"))) (hp:W.plainOver K C=true) (ht:W.takerIn K C name=some none) (hh:W.hasDictIn K C=true)
  (hw:PySem.Within mA ns) (hsz:ns.length<=sizeLine)
  (h:∀h',Zc1 h' x dx C (λy=>if y=name then some v else mA y)->Heap.SameBut dx s.heap h'->Q () { s with heap:=h',toks:=s.toks+2 }):
  wpAny (model prog w) A (setAttr (.ref x) name v) Q E s:=by
 obtain⟨od,J,hl⟩:=I.look;refine W.set_plain X J hs (W.osa_open (s:={ s with toks:=s.toks+1 }) (r:=none) X J hp ht λb=>?_);obtain⟨cd,hc,hd'⟩:=W.any_some hh;have hx:s.heap.get? x=some ⟨.ref C,some dx,.plain,#[]⟩:=I.obj;refine wpAny_bind (wpAny_pure (wpAny_bind (wpAny_bind (wpAny_loadPart hx (wpAny_bind (W.Looks.here (s:={ s with toks:=s.toks+1 }) (W.looks_clsIn X hc) ?_))))));rw[hd'];refine wpAny_pure (a:=some dx) (wpAny_bind (wpAny_pure (wpAny_bind ?_)));refine wpAny_nsSet1 (s:={ s with toks:=s.toks+1 }) I.ns λh' hn2 hs2=>?_;obtain⟨oD,esD,epD,hoD,hdD,hcD⟩:=hn2.count (PySem.Within.cons name v hw);refine wpAny_bind (wpAny_lookBehind hoD (by rw[hdD];exact pastItsLine_dict (Nat.le_trans hcD (by rw[List.length_cons];omega))) ?_);exact wpAny_pure (h _ ⟨(hs2.2 _ (Ne.symm I.ne)).trans I.obj,hn2,I.ne⟩ hs2)
theorem Zgm{R:Result->Shared->Prop}{vs:List Value}{kw:List (Str×Value)}(X:K.In s.heap)(hm:W.makesIn K C=true)
  (hi:W.findIn K (.ref C) "__init__"=some (some (.ref f))) (hf:W.typeIn K (.ref f)=some (.type "function"))
  (h:codeAny (model prog w) (A.under (.builtin "type.__call__" ⟨.ref C::vs,kw⟩)) (.call (.ref f) ⟨.ref (s.heap.objs.size+1)::vs,kw⟩) (W.InitBack (s.heap.objs.size+1) R)
   { s with heap:=(s.heap.push W.emptyDict).push (W.instObj C s.heap.objs.size) }):
  codeAny (model prog w) A (.call (.ref C) ⟨vs,kw⟩) R s:=by
 obtain⟨hh,g,d,t,os⟩:=s;exact W.make_core (W.makes_of X hm) (W.looks_findIn X hi) (λself=>W.bind_fn X self hf) (.inl rfl) h
theorem Zdx{R:Result->Shared->Prop}(X:K.In s.heap)(hm:W.makesIn K C=true)
  (hi:W.findIn K (.ref C) "__init__"=some (some (.builtin "object.__init__")))
  (hb:∀self,W.Looks (model prog w) s.heap (bindSpecial (.builtin "object.__init__") self) (.builtin "object.__init__",[self]))
  (h:codeAny (model prog w) (A.under (.builtin "type.__call__" ⟨[.ref C],[]⟩)) (.call (.builtin "object.__init__") ⟨[.ref (s.heap.objs.size+1)],[]⟩) (W.InitBack (s.heap.objs.size+1) R)
   { s with heap:=(s.heap.push W.emptyDict).push (W.instObj C s.heap.objs.size) }):
  codeAny (model prog w) A (.call (.ref C) ⟨[],[]⟩) R s:=by
 obtain⟨hh,g,d,t,os⟩:=s;exact W.make_core (W.makes_of X hm) (W.looks_findIn X hi) hb (.inr ⟨rfl,rfl⟩) h
end
def cz(f:Str)(v:V):List (Str×V)->List (Str×V)
 | []=>[(f,v)]
 | (g,x)::r=>if g=f then(g,v)::r else(g,x)::cz f v r
theorem J7(f g:Str)(v:V):∀fs:List (Str×V),(cz f v fs).lookup g=if g=f then some v else fs.lookup g
 | []=>by
  show List.lookup g [(f,v)]=_
  by_cases h:g=f
  ·have hb:(g == f)=true:=beq_iff_eq.mpr h;simp only[List.lookup,hb,if_pos h]
  ·have hb:(g == f)=false:=beq_eq_false_iff_ne.mpr h;simp only[List.lookup,hb,if_neg h]
 | (k,x)::r=>by
  have ih:=J7 f g v r;rw[show cz f v ((k,x)::r)=(if k=f then(k,v)::r else(k,x)::cz f v r)from rfl]
  by_cases hk:k=f
  ·rw[if_pos hk]
   by_cases h:g=k
   ·have hb:(g == k)=true:=beq_iff_eq.mpr h;simp only[List.lookup,hb,if_pos (h.trans hk)]
   ·have hb:(g == k)=false:=beq_eq_false_iff_ne.mpr h;simp only[List.lookup,hb,if_neg (λe:g=f=>h (e.trans hk.symm))]
  ·rw[if_neg hk]
   by_cases h:g=k
   ·have hb:(g == k)=true:=beq_iff_eq.mpr h;simp only[List.lookup,hb,if_neg (λe:g=f=>hk (h.symm.trans e))]
   ·have hb:(g == k)=false:=beq_eq_false_iff_ne.mpr h;simp only[List.lookup,hb];exact ih
theorem Jr(f:Str)(v:V):∀fs:List (Str×V),f∈(cz f v fs).map (·.1)/\∀g,g∈fs.map (·.1)->g∈(cz f v fs).map (·.1)
 | []=>⟨by simp[cz],λg h=>by simp at h⟩
 | (k,x)::r=>by
  obtain⟨i1,i2⟩:=Jr f v r;rw[show cz f v ((k,x)::r)=(if k=f then(k,v)::r else(k,x)::cz f v r)from rfl]
  by_cases hk:k=f
  ·rw[if_pos hk];subst hk;exact⟨by simp,λg h=>by simpa using h⟩
  ·rw[if_neg hk];refine⟨?_,λg h=>?_⟩
   ·rw[List.map_cons];exact List.mem_cons_of_mem _ i1
   ·rw[List.map_cons]at h ⊢;rcases List.mem_cons.mp h with e | e
    ·exact List.mem_cons.mpr (.inl e)
    ·exact List.mem_cons_of_mem _ (i2 g e)
theorem Ka(f:Str)(v:V):∀fs:List (Str×V),(cz f v fs).length<=fs.length+1
 | []=>by simp[cz]
 | (k,x)::r=>by
  have ih:=Ka f v r;rw[show cz f v ((k,x)::r)=(if k=f then(k,v)::r else(k,x)::cz f v r)from rfl]
  by_cases hk:k=f
  ·rw[if_pos hk,List.length_cons,List.length_cons];omega
  ·rw[if_neg hk,List.length_cons,List.length_cons];omega
theorem Ht.some_of{v:V}{o:Option Value}(r:Ht (some v) o):∃u,o=some u/\RelV v u:=by
 cases o with
 | none=>exact(show False from r).elim
 | some u=>exact⟨u,rfl,r⟩
theorem Ht.none_of{o:Option Value}(r:Ht none o):o=none:=by
 cases o with
 | none=>rfl
 | some u=>exact(show False from r).elim
theorem Zed{v:V}{u:Value}(r:RelV v u):W.handedIn u=true:=by
 cases v with
 | non=>cases (show u=Value.none from r);rfl
 | bl b=>cases (show u=Value.bool b from r);rfl
 | int i=>obtain⟨t,e⟩:=(show ∃t,u=Value.int i t from r);cases e;rfl
 | str x=>obtain⟨t,e⟩:=(show ∃t,u=Value.str x t from r);cases e;rfl
 | byt b=>obtain⟨t,e⟩:=(show ∃t,u=Value.bytes b t from r);cases e;rfl
 | flt b=>obtain⟨t,e⟩:=(show ∃t,u=Value.float b t from r);cases e;rfl
 | ref a=>cases (show u=Value.ref a from r);rfl
 | ty n=>cases (show u=Value.type n from r);rfl
section
variable {P:Program}{w:World}{H H':Hp}{h h':Heap}{a C dx:Addr}{fs fs':List (Str×V)}
theorem Mg(hok:BR P w H h)(e:H a=some (.ins C dx fs)):∃mA,Zc1 h a dx C mA/\(∀f,Ht (fs.lookup f) (mA f))/\PySem.Within mA (fs.map (·.1))/\fs.length<=1000/\H dx=some (.own a):=by
 obtain⟨d,z,ne,ob,mA,n,r,q⟩:=(show jx P w H h a (.ins C dx fs)from hok a _ e);exact⟨mA,⟨ob,n,ne⟩,r,q,z,d⟩
end
structure De(K:aC)(C:Addr):Prop where
 pg:W.plainGet K C Str.empty=true
 hd:W.hasDictIn K C=true
 po:W.plainOver K C=true
 sa:W.findIn K (.ref C) "__setattr__"=some (some (.builtin "object.__setattr__"))
theorem De.get{K:aC}{C:Addr}(c:De K C)(f:Str):W.plainGet K C f=true:=c.pg
def bD(K:aC)(C:Addr)(f:Str):Prop:=W.findIn K (.ref C) f=some none
theorem bD.taker{K:aC}{C:Addr}{f:Str}(n:bD K C f):W.takerIn K C f=some none:=by
 unfold W.takerIn;rw[show W.findIn K (.ref C) f=some none from n];rfl
structure Con(K:aC)(C:Addr)(f:Str)(v:V)(u:Value):Prop where
 at_:W.findIn K (.ref C) f=some (some u)
 rel:RelV v u
 get:W.specialIn K u "__get__"=some none
 cp:W.copiedNames.contains f=false
structure Meth(K:aC)(C:Addr)(m:Str)(f:Addr):Prop where
 at_:W.findIn K (.ref C) m=some (some (.ref f))
 fn:W.isFn K (.ref f)=true
 kp:W.keepIn K (.ref f)=true
section
variable {X:Cx}{pins:List (Addr×Obj)}{σ:St}{H:Hp}{s:Shared}{a C dx:Addr}{fs:List (Str×V)}{f:Str}{v:V}{A:Around}{E:Value->Shared->Prop}
theorem Zbl{b:Bool}{Q:Value->Shared->Prop}(I:Inv X pins σ H s)(e:H a=some (.ins C dx fs))(c:De X.K C)(n:bD X.K C f)(l:fs.lookup f=some v)
  (h:∀u s',Inv X pins σ H s'->RelV v u->Q u s'):wpAny (model X.prog X.w) A (getAttr (.ref a) f b) Q E s:=by
 obtain⟨mA,O,r,_,_,_⟩:=Mg I.hok e;obtain⟨u,hu,ru⟩:=Ht.some_of (v:=v) (o:=mA f) (by rw[<- l];exact r f);exact get_map I.CP O (c.get f) c.hd n hu (Zed ru) (h u _ (I.tok _) ru)
theorem O3{m:Str}{g:Addr}{pl:Sem Bool}{Q:Value×List Value->Shared->Prop}(I:Inv X pins σ H s)(e:H a=some (.ins C dx fs))(c:De X.K C)(k:Meth X.K C m g)(l:fs.lookup m=none)
  (h:Q (.ref g,[.ref a]) s):wpAny (model X.prog X.w) A (getMethod (.ref a) m pl) Q E s:=by
 obtain⟨mA,O,r,_,_,_⟩:=Mg I.hok e;have hn:mA m=none:=Ht.none_of (by rw[<- l];exact r m);exact Zhq I.CP O (c.get m) k.at_ k.fn hn h
theorem Z4{y:V}{u:Value}{Q:Unit->Shared->Prop}(I:Inv X pins σ H s)(e:H a=some (.ins C dx fs))(c:De X.K C)(n:bD X.K C f)(hl:fs.length<1000)(ry:RelV y u)
  (h:∀s',Inv X pins σ (upd H a (.ins C dx (cz f y fs))) s'->Q () s'):wpAny (model X.prog X.w) A (setAttr (.ref a) f u) Q E s:=by
 obtain⟨mA,O,r,wi,_,ho⟩:=Mg I.hok e;have hz:(fs.map (·.1)).length<=sizeLine:=by rw[aU,sizeLine_eq];omega
 refine Zit I.CP O c.sa c.po n.taker c.hd wi hz λh' O' sb=>h _ ?_;have hd:∃o,h'.get? dx=some o:=let ⟨o,_,_,e',_⟩:=O'.ns;⟨o,e'⟩
 refine I.write (x:=a) (e:=dx) (by rw[e];exact True.intro) (.inr ho) (λb q hb z=>(sb.2 b hb).trans z) hd ?_;refine⟨by rw[aA O.ne];exact ho,?_,O.ne,O'.obj,_,O'.ns,λg=>?_,λg hg=>?_⟩
 ·have:=Ka f y fs;omega
 ·show Ht ((cz f y fs).lookup g) (if g=f then some u else mA g);rw[J7]
  by_cases q:g=f
  ·rw[if_pos q,if_pos q];exact ry
  ·rw[if_neg q,if_neg q];exact r g
 ·by_cases q:g=f
  ·rw[q];exact(Jr f y fs).1
  ·refine(Jr f y fs).2 g (wi g λz=>hg ?_);show(if g=f then some u else mA g)=none;rw[if_neg q];exact z
theorem Inv.made(I:Inv X pins σ H s):Inv X pins σ (upd (upd H s.heap.objs.size (.own (s.heap.objs.size+1))) (s.heap.objs.size+1) (.ins C s.heap.objs.size []))
  { s with heap:=(s.heap.push W.emptyDict).push (W.instObj C s.heap.objs.size) }:=by
 have e1:(s.heap.push W.emptyDict).get? s.heap.objs.size=some W.emptyDict:=Heap.get?_push_size s.heap rfl;have e2:((s.heap.push W.emptyDict).push (W.instObj C s.heap.objs.size)).get? (s.heap.objs.size+1)=some (W.instObj C s.heap.objs.size):=by
  have:=Heap.get?_push_size (s.heap.push W.emptyDict) (o:=W.instObj C s.heap.objs.size) rfl
  rwa [Heap.size_push]at this
 have e3:(s.heap.push W.emptyDict).Ns s.heap.objs.size (λ_=>none):=⟨W.emptyDict,#[],_,e1,rfl,(λe he=>absurd he (by simp)),λ_=>rfl⟩;have I1:=I.laid (a:=s.heap.objs.size) (o:=.own (s.heap.objs.size+1)) (h':=s.heap.push W.emptyDict) (t':=s.toks) (λb u q=>Heap.get?_push_of_some _ q) (Nat.le_refl _) ⟨_,e1⟩;refine I1.laid (a:=s.heap.objs.size+1) (o:=.ins C s.heap.objs.size []) (t':=s.toks) (λb u q=>Heap.get?_push_of_some _ q) (Nat.le_of_eq (Heap.size_push _ _)) ?_;have ne:s.heap.objs.size≠s.heap.objs.size+1:=Nat.ne_of_lt (Nat.lt_succ_self _);refine⟨by rw[aA ne,ao],Nat.zero_le _,ne,e2,λ_=>none,(Heap.Ns1.of_empty e3).at λo q=>Heap.get?_push_of_some _ q,λ_=>True.intro,λy hy=>absurd rfl hy⟩
theorem Zlj{prog:Program}{w:World}{env:Env}{e:Expr}{f:Str}{pos:Pos}{s:Shared}{Q:Value->Shared->Prop}(hb:attributeBase e f env (eval e env)=eval e env)
  (h:wpAny (model prog w) A (eval e env) (λo s₁=>wpAny (model prog w) A (getAttr o f true) Q E s₁) E s):wpAny (model prog w) A (eval (.Attribute e f pos) env) Q E s:=
 Attribute_any_ h (by rw[arm_eval_Attribute,hb])
end
def aY(K:aC)(ta:TE)(f:Str):TE:=λσ H Q=>ta σ H λx H1=>∃a C dx fs v,x=.ref a/\H1 a=some (.ins C dx fs)/\De K C/\bD K C f/\fs.lookup f=some v/\Q v H1
def gH(K:aC)(ta tv:TE)(f:Str):TS:=λD σ H=>tv σ H λy H1=>ta σ H1 λx H2=>∃a C dx fs,x=.ref a/\H2 a=some (.ins C dx fs)/\De K C/\bD K C f/\fs.length<1000/\
 D.nx σ (upd H2 a (.ins C dx (cz f y fs)))
section
variable {X:Cx}{o e value:Expr}{f:Str}{pos pos' tpos:Pos}{ta tv:TE}
theorem aF(he:PE X e ta)(hb:attributeBase e f X.env (eval e X.env)=eval e X.env):PE X (.Attribute e f pos) (aY X.K ta f):=by
 intro pins s σ H Q I h;refine Zlj hb (jW (he pins s σ H _ I h) λu s1 ⟨x,H1,I1,rx,a,C,dx,fs,v,ex,ea,c,n,l,q⟩=>?_);subst ex;obtain rfl:u=Value.ref a:=rx;exact Zbl I1 ea c n l λu' s2 I2 ru=>⟨v,H1,I2,ru,q⟩
theorem cA(ha:PE X o ta)(hv:PE X value tv)(hs:swapsWith value (some (.Attribute o f pos')) pos.line X.env=pure false):PS X (.Assign [.Attribute o f pos'] value pos) (gH X.K ta tv f):=by
 intro pins s σ H D I h;refine plainObj_wpAny_Assign_Attribute (jW (hv pins s σ H _ I h) λu s1 ⟨y,H1,I1,ry,q⟩=>jW (ha pins s1 σ H1 _ I1 q) λov s2 ⟨x,H2,I2,rx,a,C,dx,fs,ex,ea,c,n,l,q2⟩=>?_) hs;subst ex;obtain rfl:ov=Value.ref a:=rx;exact Z4 I2 ea c n l ry λs3 I3=>⟨σ,_,I3,q2⟩
end
section
variable {X:Cx}{pins:List (Addr×Obj)}{σ:St}{H:Hp}{s:Shared}{A:Around}{E:Value->Shared->Prop}{Q:Value->Shared->Prop}{c:Value}{b:Bool}
inductive JP(K:aC)(H:Hp):V->Value->Prop where
 | non:JP K H .non (.type "NoneType")
 | bl (x:Bool):JP K H (.bl x) (.type "bool")
 | int (i:Int):JP K H (.int i) (.type "int")
 | str (x:Str):JP K H (.str x) (.type "str")
 | flt (x:UInt64):JP K H (.flt x) (.type "float")
 | lst {a:Addr}{xs:List V} (e:H a=some (.lst xs)):JP K H (.ref a) (.type "list")
 | uC {a:Addr}{o:Obj}{xs:List V} (e:H a=some (.uC o (.lst xs))):JP K H (.ref a) (.type "list")
 | tup {a:Addr}{xs:List V} (e:H a=some (.tup xs)):JP K H (.ref a) (.type "tuple")
 | dK {a:Addr}{kvs:List (Key×V)} (e:H a=some (.dK kvs)):JP K H (.ref a) (.type "dict")
 | dT {a:Addr}{kvs:List (List Key×V)} (e:H a=some (.dT kvs)):JP K H (.ref a) (.type "dict")
 | ins {a C dx:Addr}{fs:List (Str×V)} (e:H a=some (.ins C dx fs)) (cl:De K C) (ha:W.findIn K (.ref C) "__class__"=some (some (.builtin "object.__class__")))
   (hn:W.specialIn K (.builtin "object.__class__") "__get__"=some (some (.builtin "getset_descriptor.__get__"))) (htk:W.takesIn K (.builtin "object.__class__")=some true)
   (hm:W.mroIn K C (.type "object")=some true):JP K H (.ref a) (.ref C)
theorem Ze3{x:V}{u t:Value}(I:Inv X pins σ H s)(rx:RelV x u)(ty:JP X.K H x t)(e:W.kitOne X.K t c=some b)(h:∀tk,Q (.bool b) { s with toks:=tk }):
  wpAny (model X.prog X.w) A (call (.builtin "isinstance") [u,c]) Q E s:=by
 cases ty with
 | non=>cases (show u=Value.none from rx);exact W.kia_one W.kitx_none I.CP True.intro e (λz=>nomatch z) h
 | bl y=>cases (show u=Value.bool y from rx);exact W.kia_one W.kitx_bool I.CP True.intro e (λz=>nomatch z) h
 | int i=>obtain⟨t,q⟩:=(show ∃t,u=Value.int i t from rx);cases q;exact W.kia_one W.kitx_int I.CP True.intro e (λz=>nomatch z) h
 | str y=>obtain⟨t,q⟩:=(show ∃t,u=Value.str y t from rx);cases q;exact W.kia_one W.kitx_str I.CP True.intro e (λz=>nomatch z) h
 | flt y=>obtain⟨t,q⟩:=(show ∃t,u=Value.float y t from rx);cases q;exact W.kia_one W.kitx_float I.CP True.intro e (λz=>nomatch z) h
 | @lst a xs ea=>
  cases (show u=Value.ref a from rx);obtain⟨_,_,n,_,h1⟩:=(show jx X.prog X.w H s.heap a (.lst xs)from I.hok a _ ea);exact W.kia_one W.kitx_list I.CP ⟨_,h1,rfl⟩ e (λz=>nomatch z) h
 | @uC a ob xs ea=>
  cases (show u=Value.ref a from rx);obtain⟨_,_,_,n,_,h1⟩:=(show jx X.prog X.w H s.heap a (.uC ob (.lst xs))from I.hok a _ ea);exact W.kia_one W.kitx_list I.CP ⟨_,h1,rfl⟩ e (λz=>nomatch z) h
 | @tup a xs ea=>
  cases (show u=Value.ref a from rx);obtain⟨_,_,_,p⟩:=(show jx X.prog X.w H s.heap a (.tup xs)from I.hok a _ ea);obtain⟨o,h1,h2,_⟩:=p;exact W.kia_one W.kitx_tuple I.CP ⟨o,h1,h2⟩ e (λz=>nomatch z) h
 | @dK a kvs ea=>
  cases (show u=Value.ref a from rx);obtain⟨_,_,vs,_,p⟩:=(show jx X.prog X.w H s.heap a (.dK kvs)from I.hok a _ ea);obtain⟨o,es,ep,h1,h2,_⟩:=p;exact W.kia_one W.kitx_dict I.CP ⟨o,h1,h2.1⟩ e (λz=>nomatch z) h
 | @dT a kvs ea=>
  cases (show u=Value.ref a from rx);obtain⟨_,_,xs,_,o,es,ep,h1,h2,_⟩:=(show jx X.prog X.w H s.heap a (.dT kvs)from I.hok a _ ea);exact W.kia_one W.kitx_dict I.CP ⟨o,h1,h2.1⟩ e (λz=>nomatch z) h
 | @ins a C dx fs ea cl ha hn htk hm=>
  cases (show u=Value.ref a from rx);obtain⟨mA,O,_⟩:=Mg I.hok ea;obtain⟨od,J,_⟩:=O.look;exact W.kia_one (W.kitx_own (cl.get _) cl.hd ha hn htk hm) I.CP J e (λz=>nomatch z) h
end
end L2
namespace L2
open PySem PySem.Spec PyProof.Rows
structure Room(k:Nat)(A:Around):Prop where
 hd:A.handled=none
 dp:A.depth+3 * k+5<recursionLimit
 un:A.units+16 * k+200<cLine
theorem Room.mono{j k:Nat}{A:Around}(r:Room k A)(h:j<=k):Room j A:=⟨r.hd,by have:=r.dp;omega,by have:=r.un;omega⟩
theorem Room.deeper{k:Nat}{A:Around}(r:Room (k+1) A)(env:Env):Room k (A.deeper env):=
 ⟨r.hd,by have:=r.dp;show A.depth+1+3 * k+5<_;omega,by have:=r.un;show A.units+3+16 * k+200<_;omega⟩
theorem Zax{A:Around}{C:Addr}{us:List Value}{kw:List (Str×Value)}:(A.under (.builtin "type.__call__" ⟨.ref C::us,kw⟩)).depth=A.depth+1:=by
 first | rfl | simp[Around.under,Code.weight,Code.isCreation,Code.isGuard,Code.isCaller,Code.frames,Code.isFrame,guardIds]
theorem Zaw{A:Around}{C:Addr}{us:List Value}{kw:List (Str×Value)}:(A.under (.builtin "type.__call__" ⟨.ref C::us,kw⟩)).units=A.units+1:=by
 first | rfl | simp[Around.under,Code.cUnits,Code.frames,Code.isFrame]
theorem Room.make{k:Nat}{A:Around}(r:Room (k+1) A)(C:Addr)(us:List Value)(kw:List (Str×Value)):Room k (A.under (.builtin "type.__call__" ⟨.ref C::us,kw⟩)):=
 ⟨r.hd,by have:=r.dp;rw[Zax];omega,by have:=r.un;rw[Zaw];omega⟩
theorem Room.depth{k:Nat}{A:Around}(r:Room k A):A.depth<recursionLimit:=by have:=r.dp;omega
theorem Room.units{k:Nat}{A:Around}(r:Room k A):A.units+64<cLine:=by have:=r.un;omega
def aJ:TA:=λ_ H Q=>Q [] H
def ak(ta:TE)(tr:TA):TA:=λσ H Q=>ta σ H λx H1=>tr σ H1 λxs H2=>Q (x::xs) H2
section
variable {X:Cx}{e:Expr}{es:List Expr}{te:TE}{t:TA}{pos:Pos}
theorem au:PA X [] aJ:=λ_ _ _ _ H Q I h=>Calls.spliced_nil ⟨[],H,I,.nil,h⟩
theorem aa(ha:PE X e te)(hr:PA X es t)(hs:starEach (e::es) X.env=(false,eval e X.env)::starEach es X.env:=by rfl):PA X (e::es) (ak te t):=by
 intro pos pins s σ H Q I h;rw[hs];show wpAny _ _ (spliced ((false,eval e X.env)::backTo pos (starEach es X.env))) _ _ s;refine Calls.spliced_cons (jW (ha pins s σ H _ I h) λu s1 ⟨x,H1,I1,r1,q1⟩=>?_);exact jW (hr pos pins s1 σ H1 _ I1 q1) λus s2 ⟨xs,H2,I2,r2,q2⟩=>⟨x::xs,H2,I2,.cons r1 r2,q2⟩
def u9(t:TA):TE:=λσ H Q=>t σ H λxs H1=>xs.length<=sizeLine/\∀p,H1 p=none->Q (.ref p) (upd H1 p (.tup xs))
def mz(t:TA):TE:=λσ H Q=>t σ H λxs H1=>xs.length<=sizeLine/\∀p,H1 p=none->Q (.ref p) (upd H1 p (.lst xs))
theorem mC{x1}(h:PA X es t):PE X (.Tuple es x1 pos) (u9 t):=by
 intro pins s σ H Q I hq;refine wpAny_Tuple_spliced (jW (h pos pins s σ H _ I hq) λus s1 ⟨xs,H1,I1,r,z,q⟩=>⟨by rw[<- r.length];exact z,?_⟩);have hf:H1 s1.heap.objs.size=none:=I1.hok.fresh (Nat.le_refl _);refine⟨.ref s1.heap.objs.size,upd H1 s1.heap.objs.size (.tup xs),I1.laid (t':=s1.toks) (λb u e=>Heap.get?_push_of_some _ e) (Nat.le_refl _) ?_,rfl,q _ hf⟩;exact⟨z,us,r,⟨_,Heap.get?_push_size _ rfl,rfl,_,rfl⟩⟩
theorem gP(h:PA X es t):PE X (.List es pos) (mz t):=by
 intro pins s σ H Q I hq;refine wpAny_List_spliced (jW (h pos pins s σ H _ I hq) λus s1 ⟨xs,H1,I1,r,z,q⟩=>⟨by rw[<- r.length];exact z,?_⟩);have hf:H1 s1.heap.objs.size=none:=I1.hok.fresh (Nat.le_refl _);refine⟨.ref s1.heap.objs.size,upd H1 s1.heap.objs.size (.lst xs),I1.laid (t':=s1.toks) (λb u e=>Heap.get?_push_of_some _ e) (Nat.le_refl _) ?_,rfl,q _ hf⟩;exact⟨z,us,0,r,Heap.get?_push_size _ rfl⟩
end
abbrev Sp:=List V->Hp->VK->XK->Prop
abbrev Xh:=List Env->Hp->Shared->XK->Value->Shared->Prop
structure Zc6(P:Program)(w:World)(K:aC)(mg:Str->Option Value)(base:Heap)(A:Around)(outer:List Env)(s:Shared)(H:Hp):Prop where
 frames:A.frames=some outer
 mod:Mod K mg base
 bs:∀b o,base.get? b=some o->s.heap.get? b=some o/\H b=none
 bsz:base.objs.size<=s.heap.objs.size
 DW:s.heap.FunFrames base outer
 frf:∀b∈frs outer,H b=none
 hok:BR P w H s.heap
 bare:AllBare s.gens
def CE(outer:List Env)(P:Program)(w:World)(H:Hp)(s:Shared)(Q:VK)(u:Value)(s':Shared):Prop:=
 ∃v H',s'.os=s.os/\AllBare s'.gens/\Un (frs outer) [] H H' s.heap s'.heap/\BR P w H' s'.heap/\RelV v u/\Q v H'
def CR(CX:Xh)(outer:List Env)(P:Program)(w:World)(H:Hp)(s:Shared)(Q:VK)(E:XK)(r:Result)(s':Shared):Prop:=
 match r with
 | .ok (.ret u)=>CE outer P w H s Q u s'
 | .ok _=>False
 | .error e=>CX outer H s E e s'
structure uE(P:Program)(w:World)(K:aC)(mg:Str->Option Value)(base:Heap)(CX:Xh)(k:Nat)(f:Addr)(fd:FuncData)(ps:List Str)(sp:Sp):Prop where
 len:∀vs H Q E,sp vs H Q E->vs.length=ps.length
 run:∀(A:Around) (outer:List Env) (s:Shared) (H:Hp) (args:Args) (us:List Value) (vs:List V) (Q:VK) (E:XK),Room k A->Zc6 P w K mg base A outer s H->BindsTo s fd args (ps.zip us)->Vals vs us->sp vs H Q E->
  codeAny (model P w) A (.call (.ref f) args) (CR CX outer P w H s Q E) s
theorem Zc6.make{P:Program}{w:World}{K:aC}{mg:Str->Option Value}{base:Heap}{A:Around}{outer:List Env}{s:Shared}{H:Hp}(e:Zc6 P w K mg base A outer s H)(C:Addr)(us:List Value)(kw:List (Str×Value)):
  Zc6 P w K mg base (A.under (.builtin "type.__call__" ⟨.ref C::us,kw⟩)) outer s H:=⟨by first | exact e.frames | (simpa[Around.under,Code.envs,Code.isFrame,pushEnvs]using e.frames),e.mod,e.bs,e.bsz,e.DW,e.frf,e.hok,e.bare⟩
section
variable {X:Cx}{pins:List (Addr×Obj)}{σ:St}{H:Hp}{s s':Shared}
theorem Inv.env0(I:Inv X pins σ H s):Zc6 X.prog X.w X.K X.mg X.base X.A X.stack s H:=
 ⟨I.ok.frames,I.ok.mod,I.bs,Nat.le_trans I.ok.bsz I.sz,I.stack,I.Zcb,I.hok,I.bare⟩
theorem Inv.after{Q:VK}{u:Value}(I:Inv X pins σ H s)(h:CE X.stack X.prog X.w H s Q u s'):EP X pins σ Q u s':=by
 obtain⟨v,H',os,bare,un,hok,r,q⟩:=h;obtain⟨hh,g,d,t,os'⟩:=s';obtain rfl:os'=s.os:=os;exact⟨v,H',I.call (h':=hh) (g':=g) (d':=d) (t':=t) (ch:=[]) un hok bare (λb z=>absurd z (by simp)),r,q⟩
end
def aZ(sp:Sp)(Bd:List V)(E:XK)(t:TA):TE:=λσ H Q=>t σ H λvs H1=>sp (vs++Bd) H1 Q E
def jk(C:Addr)(m:Str)(sp:Sp)(Bd:List V)(E:XK)(ta:TE)(t:TA):TE:=λσ H Q=>ta σ H λx H1=>∃a dx fs,x=.ref a/\H1 a=some (.ins C dx fs)/\fs.lookup m=none/\
 t σ H1 λvs H2=>sp (x::(vs++Bd)) H2 Q E
def Eh(C:Addr)(sp:Sp)(Bd:List V)(E:XK)(t:TA):TE:=λσ H Q=>t σ H λvs H1=>∀x dx,H1 x=none->H1 dx=none->dx≠x->
 sp (.ref x::(vs++Bd)) (upd (upd H1 dx (.own x)) x (.ins C dx [])) (λv H2=>v=.non/\Q (.ref x) H2) E
def Binds(K:aC)(fd:FuncData)(ps:List Str)(ds:List Value):Prop:=
 ∀(s:Shared) (us:List Value),K.In s.heap->(us++ds).length=ps.length->BindsTo s fd ⟨us,[]⟩ (ps.zip (us++ds))
theorem Binds.all{K:aC}{fd:FuncData}{ps:List Str}(h:∀us:List Value,us.length=ps.length->bindArgs fd ⟨us,[]⟩=pure (ps.zip us)):Binds K fd ps []:=λs us _ hl=>by
 rw[List.append_nil]at hl ⊢;exact .of_eq (h us hl)
def Passes(CX:Xh)(X:Cx)(E:XK):Prop:=∀(pins:List (Addr×Obj)) (σ:St) (H:Hp) (s:Shared) (e:Value) (s':Shared),Inv X pins σ H s->CX X.stack H s E e s'->X.xe e s'
section
variable {X:Cx}{CX:Xh}{k:Nat}{f C:Addr}{fd:FuncData}{ps:List Str}{sp:Sp}{Bd:List V}{ds:List Value}{E:XK}{x m:Str}{p pos apos:Pos}{e o:Expr}{es:List Expr}{ta:TE}{t:TA}
theorem UJ{pins:List (Addr×Obj)}{σ:St}{H:Hp}{s:Shared}{Q:VK}{us:List Value}{vs:List V}(F:uE X.prog X.w X.K X.mg X.base CX k f fd ps sp)(hr:Room k X.A)(hb:Binds X.K fd ps ds)(hd:Vals Bd ds)(hx:Passes CX X E)
  (I:Inv X pins σ H s) (r:Vals vs us) (h:sp (vs++Bd) H Q E):wpAny (model X.prog X.w) X.A (call (.ref f) us) (EP X pins σ Q) X.xe s:=by
 have r2:Vals (vs++Bd) (us++ds):=r.append hd;have hl:(us++ds).length=ps.length:=by rw[<- r2.length];exact F.len _ _ _ _ h
 refine wpAny_call (codeAny_mono (F.run X.A X.stack s H ⟨us,[]⟩ (us++ds) (vs++Bd) Q E hr I.env0 (hb s us I.CP hl) r2 h) λr s' hq=>?_);cases r with
 | error e=>exact hx pins σ H s e s' I hq
 | ok fl=>
  cases fl with
  | ret u=>exact I.after hq
  | next=>exact False.elim hq
  | brk=>exact False.elim hq
  | cont=>exact False.elim hq
theorem U5(F:uE X.prog X.w X.K X.mg X.base CX k f fd ps sp)(hr:Room k X.A)(hg:Gl X x)(hm:X.mg x=some (.ref f))(hk:W.keepIn X.K (.ref f)=true)(hb:Binds X.K fd ps ds)(hd:Vals Bd ds)(hx:Passes CX X E)
  (ha:PA X (e::es) t) (hdb:(x == ("__debug__":Str))=false:=by decide) (he:starEach (e::es) X.env=(false,eval e X.env)::starEach es X.env:=by rfl) (hpl:(backTo pos (starEach es X.env)).any (·.1)=false:=by rfl):
  PE X (.Call (.Name x p) (e::es) [] pos) (aZ sp Bd E t):=by
 intro pins s σ H Q I h;refine wpAny_Call_Name_kw (yE I hg hm ?_ hdb);refine W.callWith_K (h₀:=X.base) I.ok.mod.kin hk (jW (ha pos pins s σ H _ I h) λus s1 ⟨vs,H1,I1,r,q⟩=>⟨I1.CP,?_⟩) he hpl;exact UJ F hr hb hd hx I1 r q
theorem qN{pl:Sem Bool}(he:PE X o ta)(c:De X.K C)(hm:Meth X.K C m f)(F:uE X.prog X.w X.K X.mg X.base CX k f fd ps sp)(hr:Room k X.A)(hb:Binds X.K fd ps ds)(hd:Vals Bd ds)(hx:Passes CX X E)(ha:PA X (e::es) t)
  (hst:starEach (e::es) X.env=(false,eval e X.env)::starEach es X.env:=by rfl) (hpl:(backTo pos (starEach es X.env)).any (·.1)=false:=by rfl)
  (ht:eval (.Call (.Attribute o m apos) (e::es) [] pos) X.env=(do
   let ov <- eval o X.env
   standAt apos.atName
   let (f,first) <- holding [ov] (getMethod ov m pl)
   callWith pos f first (backTo pos (starEach (e::es) X.env)) (backToKw pos (keywordEach [] X.env))):=by rfl):
  PE X (.Call (.Attribute o m apos) (e::es) [] pos) (jk C m sp Bd E ta t):=by
 intro pins s σ H Q I h;refine W.methodCall_KW (pl:=pl) (jW (he pins s σ H _ I h) λu s1 ⟨x,H1,I1,rx,a,dx,fs,ex,ea,l,q⟩=>?_) ht;subst ex;obtain rfl:u=Value.ref a:=rx;refine O3 I1 ea c hm l ?_;refine W.callWith_K (first:=[.ref a]) (h₀:=X.base) I.ok.mod.kin hm.kp (jW (ha pos pins s1 σ H1 _ I1 q) λus s2 ⟨vs,H2,I2,r,q2⟩=>⟨I2.CP,?_⟩) hst hpl;exact UJ (us:=.ref a::us) (vs:=.ref a::vs) F hr hb hd hx I2 (.cons rfl r) q2
theorem jg{pl:Sem Bool}(he:PE X o ta)(c:De X.K C)(hm:Meth X.K C m f)(F:uE X.prog X.w X.K X.mg X.base CX k f fd ps sp)(hr:Room k X.A)(hb:Binds X.K fd ps ds)(hd:Vals Bd ds)(hx:Passes CX X E)
  (ht:eval (.Call (.Attribute o m apos) [] [] pos) X.env=(do
   let ov <- eval o X.env
   standAt apos.atName
   let (f,first) <- holding [ov] (getMethod ov m pl)
   callWith pos f first (backTo pos (starEach [] X.env)) (backToKw pos (keywordEach [] X.env))):=by rfl):
  PE X (.Call (.Attribute o m apos) [] [] pos) (jk C m sp Bd E ta aJ):=by
 intro pins s σ H Q I h;refine W.methodCall_KW (pl:=pl) (jW (he pins s σ H _ I h) λu s1 ⟨x,H1,I1,rx,a,dx,fs,ex,ea,l,q⟩=>?_) ht;subst ex;obtain rfl:u=Value.ref a:=rx;refine O3 I1 ea c hm l ?_;exact W.callWith_K0 (first:=[.ref a]) I1.CP hm.kp (UJ (us:=[.ref a]) (vs:=[.ref a]) F hr hb hd hx I1 (.cons rfl .nil) q)
structure Mk(K:aC)(C f:Addr):Prop where
 makes:W.makesIn K C=true
 init:W.findIn K (.ref C) "__init__"=some (some (.ref f))
 fn:W.isFn K (.ref f)=true
 kp:W.keepIn K (.ref C)=true
theorem Xx{pins:List (Addr×Obj)}{σ:St}{H:Hp}{s:Shared}{Q:VK}{us:List Value}{vs:List V}(M:Mk X.K C f)(F:uE X.prog X.w X.K X.mg X.base CX k f fd ps sp)(hr:Room (k+1) X.A)(hb:Binds X.K fd ps ds)(hd:Vals Bd ds)
  (hx:Passes CX X E) (I:Inv X pins σ H s) (r:Vals vs us)
  (h:∀x dx,H x=none->H dx=none->dx≠x->sp (.ref x::(vs++Bd)) (upd (upd H dx (.own x)) x (.ins C dx [])) (λv H2=>v=.non/\Q (.ref x) H2) E):
  wpAny (model X.prog X.w) X.A (call (.ref C) us) (EP X pins σ Q) X.xe s:=by
 have hq:=h (s.heap.objs.size+1) s.heap.objs.size (I.hok.fresh (Nat.le_succ _)) (I.hok.fresh (Nat.le_refl _)) (Nat.ne_of_lt (Nat.lt_succ_self _));have I2:=Inv.made (C:=C) I;have r2:Vals (V.ref (s.heap.objs.size+1)::(vs++Bd)) (Value.ref (s.heap.objs.size+1)::(us++ds)):=.cons rfl (r.append hd);have hl:(Value.ref (s.heap.objs.size+1)::us++ds).length=ps.length:=by
  have e:=r2.length;rw[F.len _ _ _ _ hq]at e;exact e.symm
 refine wpAny_call (Zgm (f:=f) I.CP M.makes M.init (beq_iff_eq.mp M.fn) (codeAny_mono (F.run _ X.stack _ _ ⟨Value.ref (s.heap.objs.size+1)::us,[]⟩ (Value.ref (s.heap.objs.size+1)::(us++ds)) _ _ E (hr.make C us [])
  (I2.env0.make C us []) (hb _ (Value.ref (s.heap.objs.size+1)::us) I2.CP hl) r2 hq) λr s' hq'=>?_))
 cases r with
 | error e=>exact hx pins σ _ _ e s' I2 hq'
 | ok fl=>
  cases fl with
  | ret u=>
   obtain⟨v,H',I3,rv,ev,q3⟩:=I2.after hq';subst ev;exact⟨rv,⟨V.ref (s.heap.objs.size+1),H',I3,rfl,q3⟩⟩
  | next=>exact False.elim hq'
  | brk=>exact False.elim hq'
  | cont=>exact False.elim hq'
theorem Fe(M:Mk X.K C f)(F:uE X.prog X.w X.K X.mg X.base CX k f fd ps sp)(hr:Room (k+1) X.A)(hg:Gl X x)(hm:X.mg x=some (.ref C))(hb:Binds X.K fd ps ds)(hd:Vals Bd ds)(hx:Passes CX X E)
  (ha:PA X (e::es) t) (hdb:(x == ("__debug__":Str))=false:=by decide) (he:starEach (e::es) X.env=(false,eval e X.env)::starEach es X.env:=by rfl) (hpl:(backTo pos (starEach es X.env)).any (·.1)=false:=by rfl):
  PE X (.Call (.Name x p) (e::es) [] pos) (Eh C sp Bd E t):=by
 intro pins s σ H Q I h;refine wpAny_Call_Name_kw (yE I hg hm ?_ hdb);refine W.callWith_K (h₀:=X.base) I.ok.mod.kin M.kp (jW (ha pos pins s σ H _ I h) λus s1 ⟨vs,H1,I1,r,q⟩=>⟨I1.CP,?_⟩) he hpl;exact Xx M F hr hb hd hx I1 r q
theorem Zfy(M:Mk X.K C f)(F:uE X.prog X.w X.K X.mg X.base CX k f fd ps sp)(hr:Room (k+1) X.A)(hg:Gl X x)(hm:X.mg x=some (.ref C))(hb:Binds X.K fd ps ds)(hd:Vals Bd ds)(hx:Passes CX X E)
  (hdb:(x == ("__debug__":Str))=false:=by decide):PE X (.Call (.Name x p) [] [] pos) (Eh C sp Bd E aJ):=by
 intro pins s σ H Q I h;refine wpAny_Call_Name_kw (yE I hg hm ?_ hdb);exact W.callWith_K0 I.CP M.kp (Xx (us:=[]) M F hr hb hd hx I .nil h)
end
section
variable {X:Cx}{CX:Xh}{k:Nat}{f C:Addr}{fd:FuncData}{ps ks:List Str}{sp:Sp}{E:XK}{x m:Str}{p pos apos kpos:Pos}{e o:Expr}{es:List Expr}{kws:List Keyword}{te ta:TE}{t tk:TA}{nm:Option Str}
structure Zym(K:aC)(fd:FuncData)(ps ks:List Str)(g:List Value->List Value->List Value)(gV:List V->List V->List V):Prop where
 to:∀(s:Shared) (us ws:List Value),K.In s.heap->(g us ws).length=ps.length->BindsTo s fd ⟨us,ks.zip ws⟩ (ps.zip (g us ws))
 rel:∀{vs:List V}{us:List Value}{zs:List V}{ws:List Value},Vals vs us->Vals zs ws->Vals (gV vs zs) (g us ws)
variable {g:List Value->List Value->List Value}{gV:List V->List V->List V}
end
structure aO(N P:List Str)(sc:Scope):Prop where
 kind:sc.kind=.function
 co:sc.isCoroutine=false
 gen:sc.isGenerator=false
 nd:N.Nodup
 pre:N.take P.length=P
 par:∀x∈P,sc.names.lookup x=some .local\/sc.names.lookup x=some .cell
 Zn7:∀y∈sc.names,y.2≠.free
theorem Tv{kindOf:Str->Option NameKind}{x:Str}:∀{binds:List (Str×Value)}{m:Str->Option Value},(∀v,(x,v)∉binds)->bindL kindOf binds m x=m x
 | [],_,_=>rfl
 | (n,v)::r,m,h=>by
  unfold bindL;rw[Tv λw hw=>h w (List.mem_cons_of_mem _ hw)];split
  ·have:x≠n:=by rintro rfl;exact h v List.mem_cons_self
   simp[this]
  ·rfl
theorem TF{kindOf:Str->Option NameKind}{x:Str}:∀{binds:List (Str×Value)}{m:Str->Option Value},(∀v,(x,v)∉binds)->bindC kindOf binds m x=m x
 | [],_,_=>rfl
 | (n,v)::r,m,h=>by
  unfold bindC;rw[TF λw hw=>h w (List.mem_cons_of_mem _ hw)];split
  ·rfl
  ·have:x≠n:=by rintro rfl;exact h v List.mem_cons_self
   simp[this]
theorem Tw{kindOf:Str->Option NameKind}{x:Str}{v:Value}:∀{P:List Str}{vs:List Value}{i:Nat}{m:Str->Option Value},P.Nodup->P[i]? =some x->vs[i]? =some v->kindOf x=some .local->
  bindL kindOf (P.zip vs) m x=some v
 | [],_,_,_,_,h,_,_=>by simp at h
 | _::_,[],_,_,_,_,h,_=>by simp at h
 | p::P,w::vs,0,m,nd,h1,h2,hk=>by
  simp at h1 h2;subst h1;subst h2;show bindL kindOf ((p,w)::P.zip vs) m p=_;unfold bindL;rw[Tv λv hv=>(List.nodup_cons.mp nd).1 (List.of_mem_zip hv).1,if_pos hk];simp
 | p::P,w::vs,i+1,m,nd,h1,h2,hk=>by
  show bindL kindOf ((p,w)::P.zip vs) m x=_;unfold bindL;exact Tw (i:=i) (List.nodup_cons.mp nd).2 (by simpa using h1) (by simpa using h2) hk
theorem TJ{kindOf:Str->Option NameKind}{x:Str}{v:Value}:∀{P:List Str}{vs:List Value}{i:Nat}{m:Str->Option Value},P.Nodup->P[i]? =some x->vs[i]? =some v->kindOf x≠some .local->
  bindC kindOf (P.zip vs) m x=some v
 | [],_,_,_,_,h,_,_=>by simp at h
 | _::_,[],_,_,_,_,h,_=>by simp at h
 | p::P,w::vs,0,m,nd,h1,h2,hk=>by
  simp at h1 h2;subst h1;subst h2;show bindC kindOf ((p,w)::P.zip vs) m p=_;unfold bindC;rw[TF λv hv=>(List.nodup_cons.mp nd).1 (List.of_mem_zip hv).1,if_neg hk];simp
 | p::P,w::vs,i+1,m,nd,h1,h2,hk=>by
  show bindC kindOf ((p,w)::P.zip vs) m x=_;unfold bindC;exact TJ (i:=i) (List.nodup_cons.mp nd).2 (by simpa using h1) (by simpa using h2) hk
def start(N:List Str)(vs:List V):St:=vs.map some++List.replicate (N.length - vs.length) none
def Wl(CX:Xh)(P:Program)(w:World)(K:aC)(mg:Str->Option Value)(base:Heap)(N:List Str)(qual:Str)(scope:Scope)(f:Addr)(cd:Value)(A:Around)(outer:List Env)(s:Shared)(H:Hp)(E:XK):Cx where
 prog:=P
 w:=w
 K:=K
 mg:=mg
 base:=base
 A:=A.deeper (envOfC qual scope s.heap.objs.size f cd)
 N:=N
 s₀:=s
 H₀:=H
 env:=envOfC qual scope s.heap.objs.size f cd
 outer:=outer
 stack:=envOfC qual scope s.heap.objs.size f cd::outer
 ex:=[]
 calm:=true
 fn:=λ_=>true
 pn:=[]
 xe:=λe s'=>wpAny (model P w) (A.deeper (envOfC qual scope s.heap.objs.size f cd)) (leaving (envOfC qual scope s.heap.objs.size f cd) e) (λ_ s''=>CX outer H s E e s'') (λe' s''=>CX outer H s E e' s'') s'
theorem Zj{sc:Scope}{n:Nat}{x:Str}(h:sc.names.lookup x=some .cell):∃c,(cellsFrom n sc.names []).lookup x=some c:=by
 have q:=W.cellsFrom_some sc.names n [] (.inl h);exact Option.isSome_iff_exists.mp q
theorem Ze6{CX:Xh}{P:Program}{w:World}{K:aC}{mg:Str->Option Value}{base:Heap}{N ps:List Str}{qual:Str}{scope:Scope}{f:Addr}{cd:Value}{A:Around}{outer:List Env}{s s1:Shared}{H:Hp}{E:XK}{us:List Value}{vs:List V}
  (S:aO N ps scope) (hd:A.handled=none) (e0:Zc6 P w K mg base A outer s H) (hl:vs.length=ps.length) (r:Vals vs us)
  (x:InCallC s s.heap.objs.size (bindL (envOfC qual scope s.heap.objs.size f cd).kindOf (ps.zip us) λ_=>none) (cellsFrom (s.heap.objs.size+1) scope.names []) (bindC (envOfC qual scope s.heap.objs.size f cd).kindOf (ps.zip us) λ_=>none) s1):
  Inv (Wl CX P w K mg base N qual scope f cd A outer s H E) [] (start N vs) H s1:=by
 have hpl:ps.length<=N.length:=by have:=congrArg List.length S.pre;rw[List.length_take]at this;omega
 obtain⟨h1,tk,rfl,hk⟩:=x.done;have noA:∀b:Addr,b∉(Wl CX P w K mg base N qual scope f cd A outer s H E).ex:=λb z=>absurd (show b∈([]:List Addr)from z) (by simp);refine⟨⟨e0.mod,S.kind,rfl,rfl,Nat.le_refl _,λy z c h1 h2=>?_,λy hy=>?_,λy c _ h=>?_,λ_=>hd,Around.frames_deeper e0.frames,.inr ⟨rfl,rfl⟩,λb z=>absurd z (noA b),e0.bs,e0.bsz,λb _ _=>noA b,λb z=>absurd z (noA b),e0.DW,e0.frf⟩,
  rfl,e0.bare,Un.kept hk,⟨_,x.toInCall.ns,λi y v h1 h2 h3=>?_⟩,λy c h=>⟨_,x.cell y c h⟩,e0.hok.fresh (Nat.le_refl _),λy c h=>?_,λp hp=>absurd (show p∈([]:List (Addr×Obj))from hp) (by simp),e0.hok.kept hk,?_⟩
 ·exact name_of_addr x.apart (PySem.mem_of_lookup h1) (PySem.mem_of_lookup h2)
 ·have hy:scope.names.lookup y=some .cell\/scope.names.lookup y=some .free:=hy;rcases hy with hy | hy
  ·exact Zj hy
  ·exact absurd rfl (S.Zn7 _ (PySem.mem_of_lookup hy))
 ·exact Nat.le_of_lt (x.above y c (PySem.mem_of_lookup h))
 ·have hi:i<vs.length:=by
   unfold start at h2
   by_cases hi:i<vs.length
   ·exact hi
   ·rw[List.getElem?_append_right (by simpa using hi)]at h2;rw[List.getElem?_replicate]at h2;split at h2<;>cases h2
  have ha:vs[i]? =some v:=by
   unfold start at h2;rw[List.getElem?_append_left (by simpa using hi),dB]at h2;cases e:vs[i]? with
   | none=>rw[e]at h2;cases h2
   | some a=>rw[e]at h2;cases h2;rfl
  obtain⟨u,hu,rv⟩:=r.get ha;have hp:ps[i]? =some y:=by
   rw[<- S.pre,List.getElem?_take_of_lt (by omega)];exact h1
  have ndP:ps.Nodup:=by rw[<- S.pre];exact S.nd.sublist (List.take_sublist _ _)
  refine⟨u,rv,?_⟩;rcases S.par y (List.mem_of_getElem? hp)with k | k
  ·exact .inl ⟨k,Tw ndP hp hu k⟩
  ·obtain⟨c,e⟩:=Zj (n:=s.heap.objs.size+1) k;refine .inr ⟨.inl k,c,e,?_⟩;have q:=x.cell y c e;rw[TJ ndP hp hu (by show scope.names.lookup y≠_;rw[k];decide)]at q;exact q
 ·exact e0.hok.fresh (Nat.le_of_lt (x.above y c (PySem.mem_of_lookup h)))
 ·unfold start;show _=N.length;rw[List.length_append,aU,List.length_replicate];omega
theorem Zm8{CX:Xh}{P:Program}{w:World}{K:aC}{mg:Str->Option Value}{base:Heap}{k:Nat}{f:Addr}{name qual:Str}{params:Arguments}{body:List Stmt}{scope:Scope}{dV kV doc pm cdv ct oc:Value}{an od:Option Addr}
  {osl:Array (Option Value)}{N ps:List Str}{sp:Sp} (lk:K.lookup f=some ⟨oc,od,.func (W.fnOf name qual params body scope dV kV doc pm an cdv ct),osl⟩) (hcd:W.codeIn K cdv qual=true) (S:aO N ps scope)
  (len:∀vs H Q E,sp vs H Q E->vs.length=ps.length)
  (hbody:∀(A:Around) (outer:List Env) (s:Shared) (H:Hp) (vs:List V) (Q:VK) (E:XK),Room k (A.deeper (envOfC qual scope s.heap.objs.size f cdv))->sp vs H Q E->
   ∃t,PSs (Wl CX P w K mg base N qual scope f cdv A outer s H E) body t/\t { nx:=λ_ H'=>Q .non H',rt:=Q } (start N vs) H):
  uE P w K mg base CX (k+1) f (W.fnOf name qual params body scope dV kV doc pm an cdv ct) ps sp:=by
 refine⟨len,λA outer s H args us vs Q E hr e0 hb r hsp=>?_⟩;have hl:=len _ _ _ _ hsp;have KX:K.In s.heap:=e0.mod.kin.keeps λb o e=>(e0.bs b o e).1;have lim:s.heap.NoLimit:=e0.mod.nolimit.keeps λb o e=>(e0.bs b o e).1;have hkind:∀y∈ps.zip us,scope.names.lookup y.1=some .local\/(scope.names.lookup y.1=some .cell/\((cellsFrom (s.heap.objs.size+1) scope.names []).lookup y.1).isSome=true):=λ⟨n,v⟩ hy=>by
  rcases S.par n (List.of_mem_zip hy).1 with q | q
  ·exact .inl q
  ·exact .inr ⟨q,W.cellsFrom_some _ _ _ (.inl q)⟩
 refine codeAny_call_function hr.depth (KX _ _ lk) rfl S.co S.gen rfl (W.codeRec_of KX hcd) (hb _ _ _ _ ?_);refine wpAny_newFunctionEnv_cells S.kind hkind λenv he s1 x=>?_;subst he;refine⟨lim.keeps x.toInCall.keep,codeAny_func ?_⟩;obtain⟨t,ht,hq⟩:=hbody A outer s H vs Q E (hr.deeper _) hsp;have I:Inv (Wl CX P w K mg base N qual scope f cdv A outer s H E) [] (start N vs) H s1:=Ze6 S hr.hd e0 hl r x;refine wpAny_mono (ht [] s1 (start N vs) H _ I hq) (λfl s' hs=>?_) λe s' hs=>hs;have fin:∀{σ':St}{H':Hp}{v:V}{u:Value},Inv (Wl CX P w K mg base N qual scope f cdv A outer s H E) [] σ' H' s'->RelV v u->Q v H'->CE outer P w H s Q u s':=
  λ{σ' H' v u} J rv q=>⟨v,H',J.os,J.bare,J.base,J.hok,rv,q⟩
 cases fl with
 | ret u=>
  obtain⟨v,σ',H',J,rv,q⟩:=hs;exact fin J rv q
 | next=>
  obtain⟨σ',H',J,q⟩:=hs;exact fin (v:=V.non) (u:=Value.none) J rfl q
 | brk=>
  obtain⟨_,_,_,q⟩:=hs;exact False.elim q
 | cont=>
  obtain⟨_,_,_,q⟩:=hs;exact False.elim q
end L2
namespace L2
open PySem PySem.Spec PyProof.Rows
section
variable {X:Cx}{x:Str}{p pos:Pos}{e:Expr}{es:List Expr}{t:TA}{id T:String}{r:List V->Hp->VK->Prop}
def wF(r:List V->Hp->VK->Prop)(t:TA):TE:=λσ H Q=>t σ H λvs H1=>r vs H1 Q
theorem bz(hc:Kr X (.builtin id) r)(hg:Gl X x)(hm:X.mg x=none)(hv:bootBuiltins x=some (.builtin id))(ha:PA X (e::es) t)(hn:x≠"__name__":=by decide)(hdb:(x == ("__debug__":Str))=false:=by decide)
  (he:starEach (e::es) X.env=(false,eval e X.env)::starEach es X.env:=by rfl) (hpl:(backTo pos (starEach es X.env)).any (·.1)=false:=by rfl):PE X (.Call (.Name x p) (e::es) [] pos) (wF r t):=by
 intro pins s σ H Q I h;refine wpAny_Call_Name_kw (Ol I hg hm hv ?_ hn hdb);exact PyProof.Rows.callWith_builtin1 (jW (ha pos pins s σ H _ I h) λus s1 ⟨vs,H1,I1,r1,q1⟩=>hc pins s1 σ H1 vs us Q I1 r1 q1) he hpl
theorem Bq(hc:Kr X (.type T) r)(hg:Gl X x)(hm:X.mg x=none)(hv:bootBuiltins x=some (.type T))(ha:PA X (e::es) t)(hn:x≠"__name__":=by decide)(hdb:(x == ("__debug__":Str))=false:=by decide)
  (he:starEach (e::es) X.env=(false,eval e X.env)::starEach es X.env:=by rfl) (hpl:(backTo pos (starEach es X.env)).any (·.1)=false:=by rfl):PE X (.Call (.Name x p) (e::es) [] pos) (wF r t):=by
 intro pins s σ H Q I h;refine wpAny_Call_Name_kw (Ol I hg hm hv ?_ hn hdb);exact PyProof.Rows.callWith_type1 (jW (ha pos pins s σ H _ I h) λus s1 ⟨vs,H1,I1,r1,q1⟩=>hc pins s1 σ H1 vs us Q I1 r1 q1) he hpl
end
end L2
namespace HT
open PySem PyProof.Rows
section
open PySem.SeqAt
open PySem.AutoSeq1 (wpAny_loadPart')
open PySem.MeetsSeq PySem.MeetsSeq2 PySem.MeetsSeq3
end
section
variable {prog:Program}{w:World}{A:Around}{E:Value->Shared->Prop}{s:Shared}
theorem Zlh{t b:Addr}{vs ws:List Value}{Q:Value->Shared->Prop}(ht:IsTup s.heap t vs.toArray)(hb:IsTup s.heap b ws.toArray)(hv:vs≠[])
  (h1:ws=[]->Q (.ref t) s) (h2:ws≠[]->Q (.ref s.heap.objs.size) { s with heap:=s.heap.push { cls:=.type "tuple",data:=.seq (vs++ws).toArray } })
  (hsz:vs.length+ws.length<=sizeLine):wpAny (model prog w) A (binaryOp .Add (.ref t) (.ref b)) Q E s:=by
 obtain⟨⟨cls,dd,data,sl⟩,ho,hc,n,hd⟩:=id ht;obtain⟨⟨cls2,dd2,data2,sl2⟩,ho2,hc2,n2,hd2⟩:=id hb;simp only at hc hd hc2 hd2;subst hc hd hc2 hd2;have e:vs.toArray++ws.toArray=(vs++ws).toArray:=by simp
 by_cases hw:ws=[]
 ·exact concat_meets ⟨_,ho,rfl⟩ ⟨_,ho2,rfl⟩ noFill_tuple_add seq_tuple_add PySem.F.slot_tuple_add PySem.F.entry_tuple_add (PySem.F.args_tuple_add_2 _ _)
   (tuple_addW1 t b vs.toArray ws.toArray n n2 dd dd2 sl sl2 (by simpa using hv) (by simp[hw])) ⟨ho,ho2,h1 hw⟩
 ·refine concat_meets ⟨_,ho,rfl⟩ ⟨_,ho2,rfl⟩ noFill_tuple_add seq_tuple_add PySem.F.slot_tuple_add PySem.F.entry_tuple_add (PySem.F.args_tuple_add_2 _ _)
   (tuple_addW2 t b vs.toArray ws.toArray n n2 dd dd2 sl sl2 (by simpa using hv) (by simpa using hw) (by rw[List.size_toArray,List.size_toArray];exact hsz)) ⟨ho,ho2,?_⟩
  rw[e];exact h2 hw
def m7(n d:Nat):Option Int->Nat
 | none=>d
 | some v=>if v<0 then(v+(n:Int)).toNat else min v.toNat n
theorem Dq(n d:Nat)(hd:d<=n)(o:Option Int):m7 n d o<=n:=by
 cases o with
 | none=>exact hd
 | some v=>
  show(if v<0 then(v+(n:Int)).toNat else min v.toNat n)<=n
  by_cases hv:v<0
  ·rw[if_pos hv];omega
  ·rw[if_neg hv];exact Nat.min_le_right _ _
end
end HT
namespace L2
open PySem PySem.Spec PyProof.Rows
abbrev TO:=St->Hp->(Option Int->Hp->Prop)->Prop
def PO(X:Cx)(e:Option Expr)(t:TO):Prop:=
 ∀(pins:List (Addr×Obj)) (s:Shared) (σ:St) (H:Hp) (Q:Option Int->Hp->Prop),Inv X pins σ H s->t σ H Q->
  wpAny (model X.prog X.w) X.A (evalPart e X.env) (λu s'=>∃o H',Inv X pins σ H' s'/\IsPart u o/\Q o H') X.xe s
def Eg:TO:=λ_ H Q=>Q none H
def zx(t:TE):TO:=λσ H Q=>t σ H λx H1=>∃i,x=.int i/\Q (some i) H1
section
variable {X:Cx}{e:Expr}{te:TE}{lo hi:Option Expr}{tl th:TO}{pos p2:Pos}
theorem Zcj:PO X none Eg:=by
 intro pins s σ H Q I h;rw[evalPart_none];exact wpAny_pure ⟨none,H,I,.none,h⟩
theorem Bo(h:PE X e te):PO X (some e) (zx te):=by
 intro pins s σ H Q I hw;rw[evalPart_some];refine jW (h pins s σ H _ I hw) λu s1 ⟨x,H1,I1,r1,q1⟩=>?_;obtain⟨i,rfl,q⟩:=q1;obtain⟨t,rfl⟩:=r1;exact⟨some i,H1,I1,.int i t,q⟩
def SlR(X:Cx)(r:V->Option Int->Option Int->Hp->VK->Prop):Prop:=
 ∀(pins:List (Addr×Obj)) (s:Shared) (σ:St) (H:Hp) (x:V) (v vl vu:Value) (lo hi:Option Int) (sl:Addr) (Q:VK),Inv X pins σ H s->RelV x v->s.heap.IsSliceOf sl vl vu .none->IsPart vl lo->IsPart vu hi->r x lo hi H Q->
  ∃T id,typeLookup (.type T) "__getitem__"=pure (some (.builtin id))/\s.TypeIs v T/\wpAny (model X.prog X.w) X.A (getItem v (.ref sl)) (EP X pins σ Q) X.xe s
def tSl(r:V->Option Int->Option Int->Hp->VK->Prop)(te:TE)(tl th:TO):TE:=λσ H Q=>te σ H λx H1=>tl σ H1 λl H2=>th σ H2 λu H3=>r x l u H3 Q
theorem Fb{r:V->Option Int->Option Int->Hp->VK->Prop}(hr:SlR X r)(he:PE X e te)(hl:PO X lo tl)(hu:PO X hi th):PE X (.Subscript e (.Slice lo hi none p2) pos) (tSl r te tl th):=by
 intro pins s σ H Q I h;refine Subscript_ (jW (he pins s σ H _ I h) λv s1 ⟨x,H1,I1,r1,q1⟩=>?_);refine wpAny_Slice (jW (hl pins s1 σ H1 _ I1 q1) λvl s2 ⟨l,H2,I2,pl,q2⟩=>jW (hu pins s2 σ H2 _ I2 q2) λvu s3 ⟨u,H3,I3,pu,q3⟩=>?_);rw[evalPart_none];refine wpAny_pure ?_;have I4:Inv X pins σ H3 { s3 with heap:=s3.heap.push { cls:=.type "slice",data:=.fields #[vl,vu,.none] } }:=I3.kept (t':=s3.toks) λb ob q=>Heap.get?_push_of_some _ q;obtain⟨T,id,hT,ht,hg⟩:=hr pins { s3 with heap:=s3.heap.push { cls:=.type "slice",data:=.fields #[vl,vu,.none] } } σ H3 x v vl vu l u s3.heap.objs.size Q I4 r1 (Heap.IsSliceOf.new ..) pl pu q3;show wpAny (model X.prog X.w) X.A (subscriptTail e (.Slice lo hi none p2) v (.ref s3.heap.objs.size)) (EP X pins σ Q) X.xe { s3 with heap:=s3.heap.push { cls:=.type "slice",data:=.fields #[vl,vu,.none] } };exact tail_any (ops:=[.ref s3.heap.objs.size,v]) ht hT hg (by with_unfolding_all rfl)
def Zf(xs:List V)(lo hi:Option Int):List V:=(xs.drop (HT.m7 xs.length 0 lo)).take (HT.m7 xs.length xs.length hi - HT.m7 xs.length 0 lo)
theorem Ze(xs:List V)(lo hi:Option Int):(Zf xs lo hi).length<=xs.length:=by
 unfold Zf;rw[List.length_take,List.length_drop];omega
def Zlw(K:aC):R2:=λx y H Q=>∃a b xs ys,x=.ref a/\y=.ref b/\qZ K H a xs/\qZ K H b ys/\xs≠[]/\xs.length+ys.length<=sizeLine/\
 (ys=[]->Q (.ref a) H)/\(ys≠[]->∀p,H p=none->Q (.ref p) (upd H p (.tup (xs++ys))))
theorem Vals.Vn{xs:List V}{us:List Value}(r:Vals xs us):us=[]↔xs=[]:=by
 cases r with
 | nil=>simp
 | cons _ _=>simp
theorem Zjt:Cq X (binaryOp .Add) (Zlw X.K):=by
 intro pins s σ H x y v u Q I rx ry h;obtain⟨a,b,xs,ys,rfl,rfl,ha,hb,hx,hz,q1,q2⟩:=h;cases rx;cases ry;obtain⟨its,r1,p1,_⟩:=I.tuple ha;obtain⟨its2,r2,p2,_⟩:=I.tuple hb;refine HT.Zlh p1 p2 (λz=>hx (r1.Vn.mp z)) (λz=>⟨.ref a,H,I,rfl,q1 (r2.Vn.mp z)⟩) (λz=>?_) (by rw[<- r1.length,<- r2.length];exact hz);refine⟨.ref s.heap.objs.size,_,I.laid (t':=s.toks) (o:=.tup (xs++ys)) (λb ob q=>Heap.get?_push_of_some _ q) (Nat.le_refl _) ?_,rfl,q2 (λw=>z (r2.Vn.mpr w)) _ (I.hok.fresh (Nat.le_refl _))⟩;exact⟨by rw[List.length_append];exact hz,_,r1.append r2,IsTup.new _ _⟩
end
end L2
namespace L2
open PySem PySem.Spec PyProof.Rows
def ixN(n:Nat)(i:Int):Option Nat:=if 0<=i then(if i<n then some i.toNat else none)else if -(n:Int)<=i then some (i+n).toNat else none
def atI{α:Type}(xs:List α)(i:Int):Option α:=(ixN xs.length i).bind λj=>xs[j]?
theorem Zct{n:Nat}{i:Int}{j:Nat}(h:ixN n i=some j):seqIndex? i n=some j/\j<n/\-(n:Int)<=i/\i<n:=by
 unfold ixN at h
 by_cases h0:0<=i
 ·rw[if_pos h0]at h
  by_cases h1:i<n
  ·rw[if_pos h1]at h;have e:i.toNat=j:=Option.some.inj h;exact⟨by rw[seqIndex_of h0 h1,e],by omega,by omega,h1⟩
  ·rw[if_neg h1]at h;cases h
 ·rw[if_neg h0]at h
  by_cases h1:-(n:Int)<=i
  ·rw[if_pos h1]at h;have e:(i+n).toNat=j:=Option.some.inj h;exact⟨by rw[seqIndex_neg (by omega) h1,e],by omega,h1,by omega⟩
  ·rw[if_neg h1]at h;cases h
theorem Wu{α:Type}{xs:List α}{i:Int}{v:α}(h:atI xs i=some v):∃j,seqIndex? i xs.length=some j/\xs[j]? =some v/\j<xs.length/\-(xs.length:Int)<=i/\i<xs.length:=by
 unfold atI at h;cases e:ixN xs.length i with
 | none=>rw[e]at h;cases h
 | some j=>
  rw[e]at h;obtain⟨h1,h2,h3,h4⟩:=Zct e;exact⟨j,h1,h,h2,h3,h4⟩
theorem dj{α:Type}{xs:List α}{j:Nat}{v:α}(h:xs[j]? =some v):atI xs (j:Int)=some v:=by
 have hj:j<xs.length:=(cV h).1;have e:ixN xs.length (j:Int)=some j:=by
  unfold ixN;rw[if_pos (by omega),if_pos (by omega)];simp
 unfold atI;rw[e];exact h
def Zlp(b:Expr):Prop:=∀o i,subscripted b false o i=operate [o,i] (getItem o i)
def IxR(X:Cx)(r:R2):Prop:=
 ∀(value slice:Expr) (pins:List (Addr×Obj)) (s:Shared) (σ:St) (H:Hp) (x y:V) (v u:Value) (Q:VK),Inv X pins σ H s->RelV x v->RelV y u->r x y H Q->
  subscripted slice false v u=operate [v,u] (getItem v u)->wpAny (model X.prog X.w) X.A (subscriptTail value slice v u) (EP X pins σ Q) X.xe s
def MtR(X:Cx)(id:String)(r:V->List V->Hp->VK->Prop):Prop:=
 ∀(pins:List (Addr×Obj)) (s:Shared) (σ:St) (H:Hp) (x:V) (xs:List V) (v:Value) (us:List Value) (Q:VK),Inv X pins σ H s->RelV x v->Vals xs us->r x xs H Q->
  wpAny (model X.prog X.w) X.A (call (.builtin id) (v::us)) (EP X pins σ Q) X.xe s
section
variable {X:Cx}{a b:Expr}{ta tb:TE}{pos:Pos}
theorem IxR.or{r r':R2}(h:IxR X r)(h':IxR X r'):IxR X (λx y H Q=>r x y H Q\/r' x y H Q):=by
 intro value slice pins s σ H x y v u Q I rx ry q hs;rcases q with q | q
 ·exact h value slice pins s σ H x y v u Q I rx ry q hs
 ·exact h' value slice pins s σ H x y v u Q I rx ry q hs
theorem cU{r:R2}(hr:IxR X r)(ha:PE X a ta)(hb:PE X b tb)(hs:Zlp b):PE X (.Subscript a b pos) (bO r ta tb):=by
 intro pins s σ H Q I h;exact Subscript_ (Zow ha hb I h λv u s2 x y H2 I2 rx ry q=>hr a b pins s2 σ H2 x y v u Q I2 rx ry q (hs _ _))
def fJ(K:aC):R2:=λx y H Q=>∃p xs i v,x=.ref p/\y=.int i/\cR K H p xs/\atI xs i=some v/\Q v H
def Xz(K:aC):R2:=λx y H Q=>∃p xs i v,x=.ref p/\y=.int i/\qZ K H p xs/\atI xs i=some v/\Q v H
def Zj7:R2:=λx y H Q=>∃z i c,x=.str z/\y=.int i/\z.length<=sizeLine/\atI z.cps.toList i=some c/\Q (.str ⟨#[c]⟩) H
theorem bF:IxR X (fJ X.K):=by
 intro value slice pins s σ H x y v u Q I rx ry h hs;obtain⟨p,xs,i,z,rfl,rfl,hq,he,q⟩:=h;cases rx;obtain⟨t,rfl⟩:=ry;obtain⟨its,r,pl,hz⟩:=I.list hq;obtain⟨j,h1,h2,h3,h4,h5⟩:=Wu he;obtain⟨w,ew,rw'⟩:=r.get h2;have hl:=r.length;have hn:=Jm;have fin:EP X pins σ Q w s:=⟨z,H,I,rw',q⟩
 by_cases h0:0<=i
 ·have hj:i.toNat=j:=by
   rw[seqIndex_of h0 h5]at h1;exact Option.some.inj h1
  exact item_listR pl.isList h0 (by omega) (by rw[hj];simpa using ew) fin hs
 ·have hj:(i+(its.toArray.size:Int)).toNat=j:=by
   rw[seqIndex_neg (by omega) h4]at h1;rw[List.size_toArray,<- hl];exact Option.some.inj h1
  exact subscriptTail_builtinR (x:=w) pl.isList.typeIs slot_list_getitem.lookup
   (wpAny_getItem_list_neg (Q:=λr s'=>r=w/\EP X pins σ Q r s') pl.isList (by omega) (by rw[List.size_toArray]<;>omega) (by omega) (by rw[hj];simpa using ew) ⟨rfl,fin⟩) hs
theorem DP:IxR X (Xz X.K):=by
 intro value slice pins s σ H x y v u Q I rx ry h hs;obtain⟨p,xs,i,z,rfl,rfl,hq,he,q⟩:=h;cases rx;obtain⟨t,rfl⟩:=ry;obtain⟨its,r,pl,hz⟩:=I.tuple hq;obtain⟨j,h1,h2,h3,h4,h5⟩:=Wu he;obtain⟨w,ew,rw'⟩:=r.get h2;have hl:=r.length;have hn:=Jm;have fin:EP X pins σ Q w s:=⟨z,H,I,rw',q⟩;exact subscriptTail_builtinR (x:=w) pl.typeIs slot_tuple_getitem.lookup
  (getItem_tuple (j:=j) (Q:=λr s'=>r=w/\EP X pins σ Q r s') pl (by omega) (by omega) (by rw[List.size_toArray,<- hl];exact h1) (by simpa using ew) ⟨rfl,fin⟩) hs
theorem Zha:IxR X Zj7:=by
 intro value slice pins s σ H x y v u Q I rx ry h hs;obtain⟨z,i,c,rfl,rfl,hz,he,q⟩:=h;obtain⟨t,rfl⟩:=rx;obtain⟨t',rfl⟩:=ry;obtain⟨j,h1,h2,h3,h4,h5⟩:=Wu he;have hl:z.cps.toList.length=z.length:=by simp[Str.length]
 rw[hl]at h1 h4 h5;have hn:=Jm;exact tail_any (typeIs_str s z t) slot_str_getitem.lookup (getItem_str (c:=c) (by
  have e1:decide (i < -(2 ^ 63:Int))=false:=decide_eq_false (by omega);have e2:decide (i≥2 ^ 63)=false:=decide_eq_false (by omega);rw[e1,e2,Bool.or_false]) (by rw[h1];simpa using h2) ⟨.str ⟨#[c]⟩,H,I.tok _,⟨_,rfl⟩,q⟩) hs
def rIx(K:aC):R2:=λx y H Q=>fJ K x y H Q\/Xz K x y H Q\/Zj7 x y H Q
theorem VL:IxR X (rIx X.K):=bF.or (DP.or Zha)
theorem Zav(its:List Value)(n j:Nat)(u:Value):Obj.mapSeq (·.setIfInBounds j u) { cls:=.type "list",data:=.seq its.toArray n }={ cls:=.type "list",data:=.seq (its.set j u).toArray n }:=by
 simp[Obj.mapSeq]
theorem Inv.lst{pins:List (Addr×Obj)}{σ:St}{H:Hp}{s:Shared}{p:Addr}{xs:List V}(I:Inv X pins σ H s)(h:H p=some (.lst xs)):
  ∃(its:List Value) (n:Nat),Vals xs its/\s.heap.get? p=some { cls:=.type "list",data:=.seq its.toArray n }/\xs.length<=sizeLine:=by
 obtain⟨z,its,n,r,e⟩:=I.hok p _ h;exact⟨its,n,r,e,z⟩
theorem Inv.Zne{pins:List (Addr×Obj)}{σ:St}{H:Hp}{s:Shared}{p:Addr}{xs ys:List V}{its its':List Value}{n n':Nat}{f:Obj->Obj}(I:Inv X pins σ H s)(h:H p=some (.lst xs))
  (ho:s.heap.get? p=some { cls:=.type "list",data:=.seq its.toArray n }) (hf:f { cls:=.type "list",data:=.seq its.toArray n }={ cls:=.type "list",data:=.seq its'.toArray n' }) (r:Vals ys its') (hz:ys.length<=sizeLine) (t:Nat):
  Inv X pins σ (upd H p (.lst ys)) { s with heap:=s.heap.update p f,toks:=t }:=by
 have e:(s.heap.update p f).get? p=some { cls:=.type "list",data:=.seq its'.toArray n' }:=by
  rw[Heap.get?_update_self f ho (by rw[hf]<;>rfl),hf]
 refine I.write (x:=p) (e:=p) (by rw[h];trivial) (.inl rfl) (λb u hb q=>(Heap.get?_update_other _ _ (Ne.symm hb)).trans q) ⟨_,e⟩ ?_;exact⟨hz,its',n',r,e⟩
def wI:V->V->V->Hp->(Hp->Prop)->Prop:=λo i v H Q=>∃p xs k j,o=.ref p/\i=.int k/\H p=some (.lst xs)/\ixN xs.length k=some j/\Q (upd H p (.lst (xs.set j v)))
theorem set_list:Zrd X wI:=by
 intro pins s σ H o i v ov iv u Q I ro ri rv h;obtain⟨p,xs,k,j,rfl,rfl,hp,hj,q⟩:=h;cases ro;obtain⟨t,rfl⟩:=ri;obtain⟨its,n,r,ho,hz⟩:=I.lst hp;obtain⟨h1,h2,h3,h4⟩:=Zct hj;have hl:=r.length;have hn:=Jm;have I':Inv X pins σ (upd H p (.lst (xs.set j v))) { s with heap:=s.heap.update p (Obj.mapSeq (·.setIfInBounds j u)) }:=
  I.Zne hp ho (Zav its n j u) (r.set rv j) (by rw[List.length_set];exact hz) s.toks
 by_cases h0:0<=k
 ·have hk:k.toNat=j:=by
   rw[seqIndex_of h0 h4]at h1;exact Option.some.inj h1
  exact W.ki_setAt ho h0 (by omega) (by rw[List.size_toArray,<- hl];exact h4) (by rw[hk];exact⟨_,I',q⟩)
 ·have hk:(k+(its.toArray.size:Int)).toNat=j:=by
   rw[seqIndex_neg (by omega) h3]at h1;rw[List.size_toArray,<- hl];exact Option.some.inj h1
  exact W.ki_setBack ho (by omega) (by rw[List.size_toArray,<- hl];exact h3) (by omega) (by rw[hk];exact⟨_,I',q⟩)
theorem Uk(lo hi:Option Int)(n:Nat):(sliceBounds lo hi none n).1=((HT.m7 n 0 lo:Nat):Int)/\(sliceBounds lo hi none n).2.1=((HT.m7 n n hi:Nat):Int)/\(sliceBounds lo hi none n).2.2=1:=by
 refine⟨?_,?_,rfl⟩
 ·cases lo with
  | none=>simp[sliceBounds,HT.m7]
  | some i=>
   simp only[sliceBounds,HT.m7,Option.getD_none,show(1:Int) > 0 by decide,if_true]
   by_cases h:i<0
   ·simp only[h,if_true]<;>omega
   ·simp only[h,if_false]<;>omega
 ·cases hi with
  | none=>simp[sliceBounds,HT.m7]
  | some i=>
   simp only[sliceBounds,HT.m7,Option.getD_none,show(1:Int) > 0 by decide,if_true]
   by_cases h:i<0
   ·simp only[h,if_true]<;>omega
   ·simp only[h,if_false]<;>omega
theorem Qc(its:List Value)(lo hi:Option Int):slicePick its.toArray lo hi none=((its.drop (HT.m7 its.length 0 lo)).take (HT.m7 its.length its.length hi - HT.m7 its.length 0 lo)).toArray:=by
 obtain⟨h1,h2,h3⟩:=Uk lo hi its.toArray.size;unfold slicePick;rw[h1,h2,h3];simp only[sliceRange_one,pick_run,List.size_toArray]<;>rfl
def Zj6(K:aC):V->Option Int->Option Int->Hp->VK->Prop:=λx lo hi H Q=>∃a xs,x=.ref a/\cR K H a xs/\∀p,H p=none->Q (.ref p) (upd H p (.lst (Zf xs lo hi)))
theorem Zcd:SlR X (Zj6 X.K):=by
 intro pins s σ H x v vl vu lo hi sl Q I rx hs pl pu h;obtain⟨a,xs,rfl,hx,q⟩:=h;cases rx;obtain⟨its,r,ht,hz⟩:=I.list hx;have hlen:=r.length;refine⟨"list",_,slot_list_getitem.lookup,ht.isList.typeIs,?_⟩;refine wpAny_getItem_list_slice ht.isList hs pl pu .none (by simp) ?_ (by rw[List.size_toArray]<;>omega);rw[Qc,<- hlen];refine⟨.ref s.heap.objs.size,_,I.laid (t':=s.toks) (o:=.lst (Zf xs lo hi)) (λb ob q=>Heap.get?_push_of_some _ q) (Nat.le_refl _) ?_,rfl,q _ (I.hok.fresh (Nat.le_refl _))⟩;exact⟨Nat.le_trans (Ze xs lo hi) hz,_,0,(r.drop (HT.m7 xs.length 0 lo)).take (HT.m7 xs.length xs.length hi - HT.m7 xs.length 0 lo),Heap.get?_push_size _ rfl⟩
def uh:V->Bool
 | .non=>true
 | .bl _=>true
 | .int _=>true
 | .str _=>true
 | _=>false
def eqV:V->V->Bool
 | .non,.non=>true
 | .bl a,.bl b=>a == b
 | .bl a,.int b=>(if a then 1 else 0) == b
 | .int a,.bl b=>a == (if b then 1 else 0)
 | .int a,.int b=>a == b
 | .str a,.str b=>a == b
 | _,_=>false
theorem JM{A:Around}{s:Shared}{y x:V}{u v:Value}(ry:RelV y u)(rx:RelV x v)(fy:uh y=true)(fx:uh x=true):SeqAt.EqAt A s u v (eqV y x):=by
 cases y with
 | non=>
  cases ry;cases x with
  | non=>cases rx;exact SeqAt.EqAt.same _
  | bl b=>cases rx;exact SeqAt.EqAt.none_bool b
  | int b=>obtain⟨t,rfl⟩:=rx;exact SeqAt.EqAt.none_int b t
  | str b=>obtain⟨t,rfl⟩:=rx;exact SeqAt.EqAt.none_str b t
  | _=>exact absurd (show false=true from fx) Bool.false_ne_true
 | bl a=>
  cases ry;cases x with
  | non=>cases rx;exact SeqAt.EqAt.bool_none a
  | bl b=>cases rx;exact SeqAt.EqAt.bool_bool a b
  | int b=>obtain⟨t,rfl⟩:=rx;exact SeqAt.EqAt.bool_int a b t
  | str b=>obtain⟨t,rfl⟩:=rx;exact SeqAt.EqAt.bool_str a b t
  | _=>exact absurd (show false=true from fx) Bool.false_ne_true
 | int a=>
  obtain⟨t',rfl⟩:=ry;cases x with
  | non=>cases rx;exact SeqAt.EqAt.int_none a t'
  | bl b=>cases rx;exact SeqAt.EqAt.int_bool a t' b
  | int b=>obtain⟨t,rfl⟩:=rx;exact SeqAt.EqAt.int_int a t' b t
  | str b=>obtain⟨t,rfl⟩:=rx;exact SeqAt.EqAt.int_str a t' b t
  | _=>exact absurd (show false=true from fx) Bool.false_ne_true
 | str a=>
  obtain⟨t',rfl⟩:=ry;cases x with
  | non=>cases rx;exact SeqAt.EqAt.str_none a t'
  | bl b=>cases rx;exact SeqAt.EqAt.str_bool a t' b
  | int b=>obtain⟨t,rfl⟩:=rx;exact SeqAt.EqAt.str_int a t' b t
  | str b=>obtain⟨t,rfl⟩:=rx;exact SeqAt.EqAt.str_str a t' b t
  | _=>exact absurd (show false=true from fx) Bool.false_ne_true
 | _=>exact absurd (show false=true from fy) Bool.false_ne_true
def eqU(x:V)(u:Value):Bool:=match u with
 | .none=>eqV .non x
 | .bool b=>eqV (.bl b) x
 | .int i _=>eqV (.int i) x
 | .str z _=>eqV (.str z) x
 | _=>false
theorem Zi1{x y:V}{u:Value}(r:RelV y u)(f:uh y=true):eqU x u=eqV y x:=by
 cases y with
 | non=>cases r;rfl
 | bl b=>cases r;rfl
 | int i=>obtain⟨t,rfl⟩:=r;rfl
 | str z=>obtain⟨t,rfl⟩:=r;rfl
 | _=>exact absurd (show false=true from f) Bool.false_ne_true
theorem Ww{x:V}:∀{xs:List V}{us:List Value},Vals xs us->xs.all uh=true->us.any (eqU x)=xs.any λy=>eqV y x
 | _,_,.nil,_=>rfl
 | y::xs,u::us,.cons r t,f=>by
  rw[List.all_cons,Bool.and_eq_true]at f;rw[List.any_cons,List.any_cons,Zi1 r f.1,Ww t f.2]
theorem N8{A:Around}{s:Shared}{x:V}{v:Value}(rx:RelV x v)(fx:uh x=true):∀{xs:List V}{us:List Value},Vals xs us->xs.all uh=true->∀u∈us,SeqAt.EqAt A s u v (eqU x u)
 | _,_,.nil,_=>λu hu=>by cases hu
 | y::xs,u::us,.cons r t,f=>λu' hu=>by
  rw[List.all_cons,Bool.and_eq_true]at f;rcases List.mem_cons.mp hu with rfl | hu
  ·rw[Zi1 r f.1];exact JM r rx f.1 fx
  ·exact N8 rx fx t f.2 u' hu
def inV(x:V)(xs:List V):Bool:=xs.any λy=>eqV y x
def rIn(K:aC)(neg:Bool):R2:=λx y H Q=>∃p xs,y=.ref p/\(cR K H p xs\/qZ K H p xs)/\uh x=true/\xs.all uh=true/\Q (.bl (if neg then !inV x xs else inV x xs)) H
theorem Bt:Cq X (compareOp .In) (rIn X.K false):=by
 intro pins s σ H x y v u Q I rx ry h;obtain⟨p,xs,rfl,hq,fx,fs,q⟩:=h;cases ry;rcases hq with hq | hq
 ·obtain⟨its,r,pl,hz⟩:=I.list hq;refine SeqAt.in_listAt (eqU x) pl.isList (λw hw=>N8 rx fx r fs w (by simpa using hw)) ⟨.bl _,H,I,rfl,?_⟩;rw[show its.toArray.any (eqU x)=its.any (eqU x) by simp,Ww r fs];exact q
 ·obtain⟨its,r,pl,hz⟩:=I.tuple hq;refine SeqAt.in_tupleAt (eqU x) pl (λw hw=>N8 rx fx r fs w (by simpa using hw)) ⟨.bl _,H,I,rfl,?_⟩;rw[show its.toArray.any (eqU x)=its.any (eqU x) by simp,Ww r fs];exact q
theorem Wq:Kr X (.builtin "len") (λxs H Q=>∃p ys,xs=[.ref p]/\(cR X.K H p ys\/qZ X.K H p ys)/\Q (.int ys.length) H):=by
 intro pins s σ H xs us Q I r h;obtain⟨p,ys,rfl,hq,q⟩:=h;obtain⟨u,rfl,rx⟩:=vals1 r;cases rx;have hn:=Jm;rcases hq with hq | hq
 ·obtain⟨its,r',pl,hz⟩:=I.list hq;have hlen:=r'.length;exact Calls.call_len_list pl.isList (by simp only[List.size_toArray]<;>omega) ⟨.int ys.length,H,I.tok _,⟨s.toks+1,by rw[List.size_toArray,hlen]⟩,q⟩
 ·obtain⟨its,r',pl,hz⟩:=I.tuple hq;have hlen:=r'.length;exact len_tuple pl (by simp only[List.size_toArray]<;>omega) ⟨.int ys.length,H,I.tok _,⟨s.toks+1,by rw[List.size_toArray,hlen]⟩,q⟩
theorem GR:Kr X (.type "list") (λxs H Q=>∃p ys,xs=[.ref p]/\(cR X.K H p ys\/qZ X.K H p ys)/\∀l,H l=none->Q (.ref l) (upd H l (.lst ys))):=by
 intro pins s σ H xs us Q I r h;obtain⟨p,ys,rfl,hq,q⟩:=h;obtain⟨u,rfl,rx⟩:=vals1 r;cases rx;have fin:∀(its:List Value),Vals ys its->ys.length<=sizeLine->∀(h':Heap) (c':Nat),(∀b o',s.heap.get? b=some o'->h'.get? b=some o')->
   h'.get? s.heap.objs.size=some { cls:=.type "list",dict:=none,data:=.seq its.toArray c',slots:=#[] }->EP X pins σ Q (.ref s.heap.objs.size) { s with heap:=h' }:=λits r' hz h' c' kp e=>
  ⟨.ref s.heap.objs.size,_,I.laid (t':=s.toks) kp (Nat.le_refl _) (show jx X.prog X.w _ h' _ (.lst ys)from⟨hz,its,c',r',e⟩),rfl,q _ (I.hok.fresh (Nat.le_refl _))⟩
 rcases hq with hq | hq
 ·obtain⟨its,r',pl,hz⟩:=I.list hq;have hlen:=r'.length;obtain⟨o,ho,hc,n,hd⟩:=pl.isList;exact call_list_seq p (.inl rfl) ho hc hd (λh' c' kp e=>fin its r' hz h' c' kp e) (by simp only[List.size_toArray]<;>omega)
 ·obtain⟨its,r',pl,hz⟩:=I.tuple hq;have hlen:=r'.length;obtain⟨o,ho,hc,n,hd⟩:=pl;exact call_list_seq p (.inr rfl) ho hc hd (λh' c' kp e=>fin its r' hz h' c' kp e) (by simp only[List.size_toArray]<;>omega)
def tyV(K:aC)(T:String)(x:V)(H:Hp):Prop:=match x with
 | .str _=>T="str"
 | .int _=>T="int"
 | .ref p=>(T="list"/\∃xs,cR K H p xs)\/(T="tuple"/\∃o,K.lookup p=some o/\o.cls=.type "tuple"/\o.dict=none)\/
   (T="dict"/\((∃kvs,H p=some (.dK kvs))\/∃kvs,H p=some (.dT kvs)))\/(T="set"/\∃S n,H p=some (.set S n))
 | _=>False
theorem Zme{pins:List (Addr×Obj)}{σ:St}{H:Hp}{s:Shared}{T:String}{x:V}{v:Value}(I:Inv X pins σ H s)(r:RelV x v)(ty:tyV X.K T x H):
  s.TypeIs v T/\∀a,v=.ref a->∃ob,s.heap.get? a=some ob/\ob.dict=none:=by
 cases x with
 | str z=>
  obtain⟨t,rfl⟩:=r;cases (show T="str" from ty);exact⟨typeIs_str s z t,λ_ e=>nomatch e⟩
 | int i=>
  obtain⟨t,rfl⟩:=r;cases (show T="int" from ty);exact⟨typeIs_int s i t,λ_ e=>nomatch e⟩
 | ref p=>
  cases r;rcases ty with ⟨rfl,xs,hq⟩ | ⟨rfl,o,hk,hc,hd⟩ | ⟨rfl,hk⟩ | ⟨rfl,S,n,hk⟩
  ·obtain⟨its,_,pl,_⟩:=I.list hq;refine⟨pl.isList.typeIs,λa e=>?_⟩;cases e;obtain⟨o,n,e,c,hd,_⟩:=pl;exact⟨o,e,hd⟩
  ·refine⟨⟨o,I.CP p o hk,hc⟩,λa e=>?_⟩;cases e;exact⟨o,I.CP _ o hk,hd⟩
  ·have z:∃o,s.heap.get? p=some o/\o.ExactDict:=by
    rcases hk with ⟨kvs,hk⟩ | ⟨kvs,hk⟩
    ·obtain⟨_,_,_,_,o,_,_,e,ex,_⟩:=I.hok p _ hk;exact⟨o,e,ex⟩
    ·obtain⟨_,_,_,_,o,_,_,e,ex,_⟩:=I.hok p _ hk;exact⟨o,e,ex⟩
   obtain⟨o,e,ex⟩:=z;refine⟨⟨o,e,ex.1⟩,λa e2=>?_⟩;cases e2;exact⟨o,e,ex.2.1⟩
  ·obtain⟨o,_,_,_,e,ex,_⟩:=I.hok p _ hk;refine⟨⟨o,e,ex.1⟩,λa e2=>?_⟩;cases e2;exact⟨o,e,ex.2.1⟩
 | _=>exact False.elim ty
def tBM(K:aC)(T:String)(r:V->List V->Hp->VK->Prop)(to:TE)(t:TA):TE:=λσ H Q=>to σ H λx H1=>tyV K T x H1/\t σ H1 λxs H2=>r x xs H2 Q
variable {o e:Expr}{es:List Expr}{to:TE}{t:TA}{name:Str}{apos cpos:Pos}{T id:String}{r:V->List V->Hp->VK->Prop}
theorem zZ(pa:PlainAttrs T)(slot:Slot T name id)(hty:typeOf (.builtin id)=pure (.type "method_descriptor"))(hm:MtR X id r)(ho:PE X o to)(ha:PA X (e::es) t)
  (hbase:attributeBase o name X.env (eval o X.env)=eval o X.env:=by rfl)
  (hfew:((backTo cpos (starEach (e::es) X.env)).all (λx=>!x.1) && (backToKw cpos (keywordEach [] X.env)).all (λx=>x.1.isSome)
   && decide ((e::es).length+([]:List Keyword).length+(if ([]:List Keyword).isEmpty then 0 else 1)<30))=true:=by rfl)
  (hline:(apos.endLine == cpos.line)=true:=by rfl) (hs:starEach (e::es) X.env=(false,eval e X.env)::starEach es X.env:=by rfl) (hplain:(backTo cpos (starEach es X.env)).any (·.1)=false:=by rfl):
  PE X (.Call (.Attribute o name apos) (e::es) [] cpos) (tBM X.K T r to t):=by
 intro pins s σ H Q I h;refine wpAny_Call_method_late hbase hfew hline rfl (jW (ho pins s σ H _ I h) λv s1 ⟨x,H1,I1,r1,ty,q1⟩=>?_);obtain⟨h1,h2⟩:=Zme I1 r1 ty;refine⟨T,id,pa,slot,hty,h1,h2,?_⟩;have hA:=ha cpos pins s1 σ H1 _ I1 q1;rw[hs]at hA ⊢;refine Calls.callWith_builtin (by show(false || (backTo cpos (starEach es X.env)).any (·.1))=false;rw[hplain]<;>rfl) (Calls.evalArgs_plain ?_);exact jW hA λus s2 ⟨vs,H2,I2,r2,q2⟩=>hm pins s2 σ H2 x vs v us Q I2 r1 r2 q2
end
end L2
namespace L2
open PySem PySem.Spec PyProof.Rows
def MtM(X:Cx)(id:String)(r:V->List V->Hp->VK->Prop):Prop:=
 ∀(pins:List (Addr×Obj)) (s:Shared) (σ:St) (H:Hp) (x:V) (xs:List V) (v:Value) (us:List Value) (Q:VK),Inv X pins σ H s->RelV x v->Vals xs us->r x xs H Q->
  wpAny (model X.prog X.w) X.A (call (.builtin id) (v::us)) (EP X pins σ Q) X.xe s
theorem Vals.one:∀{x:V}{us:List Value},Vals [x] us->∃u,us=[u]/\RelV x u
 | _,_,.cons r .nil=>⟨_,rfl,r⟩
theorem Vals.eraseIdx:∀{xs:List V}{us:List Value} (i:Nat),Vals xs us->Vals (xs.eraseIdx i) (us.eraseIdx i)
 | _,_,_,.nil=>.nil
 | _,_,0,.cons _ t=>t
 | _,_,i+1,.cons r t=>.cons r (Vals.eraseIdx i t)
theorem Vals.rep{xs:List V}{us:List Value}(h:Vals xs us):∀k:Nat,Vals (List.replicate k xs).flatten (List.replicate k us).flatten
 | 0=>.nil
 | k+1=>by
  rw[List.replicate_succ,List.replicate_succ,List.flatten_cons,List.flatten_cons];exact Vals.append h (Vals.rep h k)
theorem S7{α:Type}:∀(l:List α) (i:Nat),(l.eraseIdx i).length<=l.length
 | [],_=>Nat.le_refl _
 | _::_,0=>Nat.le_succ _
 | _::r,i+1=>Nat.succ_le_succ (S7 r i)
theorem foldl_rep(its:List Value):∀(k:Nat) (acc:List Value),
  List.foldl (λx1 x2=>x1++x2) acc.toArray (List.replicate k its.toArray)=(acc++(List.replicate k its).flatten).toArray
 | 0,acc=>by simp
 | k+1,acc=>by
  have e:acc.toArray++its.toArray=(acc++its).toArray:=by simp
  have e2:(acc++its)++(List.replicate k its).flatten=acc++(List.replicate (k+1) its).flatten:=by
   rw[List.replicate_succ,List.flatten_cons,List.append_assoc]
  rw[<- e2,<- foldl_rep its k (acc++its),<- e,List.replicate_succ,List.foldl_cons]
section
variable {X:Cx}{pins:List (Addr×Obj)}{σ:St}{H:Hp}{s:Shared}{l b:Addr}{xs ys zs:List V}
theorem Inv.Znf{its its':List Value}{n:Nat}{f:Array Value->Array Value}{t':Nat}(I:Inv X pins σ H s)(hH:H l=some (.lst xs))
  (e:s.heap.get? l=some { cls:=.type "list",data:=.seq its.toArray n }) (hf:f its.toArray=its'.toArray) (hv:Vals ys its') (hz:ys.length<=sizeLine):
  Inv X pins σ (upd H l (.lst ys)) { s with heap:=s.heap.update l (Obj.mapSeq f),toks:=t' }:=by
 have q:=PySem.IsL.update e f;rw[hf]at q;refine I.write (x:=l) (e:=l) (by rw[hH];exact trivial) (.inl rfl) (λb' u hb hu=>(Heap.get?_update_other s.heap (Obj.mapSeq f) (Ne.symm hb)).trans hu) ⟨_,q⟩ ?_;exact⟨hz,its',_,hv,q⟩
theorem Inv.Zq2{its:List Value}{t':Nat}(I:Inv X pins σ H s)(hv:Vals ys its)(hz:ys.length<=sizeLine):
  Inv X pins σ (upd H s.heap.objs.size (.lst ys)) { s with heap:=s.heap.push { cls:=.type "list",data:=.seq its.toArray },toks:=t' }:=
 I.laid (λ_ _ q=>Heap.get?_push_of_some _ q) (Nat.le_refl _) ⟨hz,its,0,hv,Heap.get?_push_size _ rfl⟩
theorem Inv.fresh(I:Inv X pins σ H s):H s.heap.objs.size=none:=I.hok.fresh (Nat.le_refl _)
theorem Inv.Zaz(I:Inv X pins σ H s)(hH:H l=some (.lst xs)):xs.length<=sizeLine/\∃(its:List Value) (n:Nat),Vals xs its/\xs.length=its.length/\s.heap.get? l=some { cls:=.type "list",data:=.seq its.toArray n }:=by
 obtain⟨z,its,n,r,e⟩:=I.hok l _ hH;exact⟨z,its,n,r,r.length,e⟩
theorem Yh{n:Nat}(h:n<=sizeLine):Builtin.List.listTooLong n=false:=by
 unfold Builtin.List.listTooLong;exact decide_eq_false (by omega)
end
section
variable {X:Cx}
def uJ:V->List V->Hp->VK->Prop:=λx vs H Q=>∃l xs y,x=.ref l/\vs=[y]/\H l=some (.lst xs)/\xs.length<sizeLine/\Q .non (upd H l (.lst (xs++[y])))
theorem qF:MtM X "list.append" uJ:=by
 intro pins s σ H x vs v us Q I rx rv h;obtain⟨l,xs,y,rfl,rfl,hH,hz,q⟩:=h;cases rx;obtain⟨u,rfl,ru⟩:=rv.one;obtain⟨z,its,n,r,hl,e⟩:=I.Zaz hH;refine call_meets F.slot_list_append ⟨_,e,rfl⟩ F.entry_list_append (F.args_list_append_2 _ _) (PySem.list_append l its.toArray n u (by rw[List.size_toArray];omega)) ⟨e,?_⟩;refine⟨.non,_,I.Znf (its':=its++[u]) hH e (by simp) (r.append (.cons ru .nil)) ?_,rfl,q⟩;rw[List.length_append,List.length_singleton];omega
def Lq:V->List V->Hp->VK->Prop:=λx vs H Q=>∃l b xs zs,x=.ref l/\vs=[.ref b]/\H l=some (.lst xs)/\H b=some (.lst zs)/\xs.length+zs.length<=sizeLine/\Q .non (upd H l (.lst (xs++zs)))
theorem Jc:MtM X "list.extend" Lq:=by
 intro pins s σ H x vs v us Q I rx rv h;obtain⟨l,b,xs,zs,rfl,rfl,hH,hB,hz,q⟩:=h;cases rx;obtain⟨u,rfl,ru⟩:=rv.one;cases ru;obtain⟨z,its,n,r,hl,e⟩:=I.Zaz hH;obtain⟨z2,its2,n2,r2,hl2,e2⟩:=I.Zaz hB;have hsz:its.toArray.size+its2.toArray.size<=sizeLine:=by rw[List.size_toArray,List.size_toArray];omega
 have Zhg:¬ (!its.toArray.isEmpty && Builtin.List.listTooLong (its.toArray.size+its2.toArray.size))=true:=by
  rw[Yh hsz,Bool.and_false];exact Bool.false_ne_true
 refine call_meets F.slot_list_extend ⟨_,e,rfl⟩ F.entry_list_extend (F.args_list_extend_2 _ _)
  (AutoSeq1.list_extend_list_list_0 l its.toArray n b its2.toArray n2 Zhg (by rw[List.size_toArray];omega) (by omega)) ⟨e,e2,?_⟩
 refine⟨.non,_,I.Znf (its':=its++its2) hH e (by simp) (r.append r2) ?_,rfl,q⟩;rw[List.length_append];omega
def Zfm:V->List V->Hp->VK->Prop:=λx vs H Q=>∃l xs i k y,x=.ref l/\vs=[.int i]/\H l=some (.lst xs)/\-(2 ^ 63)<=i/\i<2 ^ 63/\seqIndex? i xs.length=some k/\xs[k]? =some y/\Q y (upd H l (.lst (xs.eraseIdx k)))
theorem Zgh:MtM X "list.pop" Zfm:=by
 intro pins s σ H x vs v us Q I rx rv h;obtain⟨l,xs,i,k,y,rfl,rfl,hH,h1,h2,hk,hy,q⟩:=h;cases rx;obtain⟨u,rfl,ru⟩:=rv.one;obtain⟨t,rfl⟩:=ru;obtain⟨z,its,n,r,hl,e⟩:=I.Zaz hH;obtain⟨w,hw,rw'⟩:=r.get hy;refine call_meets F.slot_list_pop ⟨_,e,rfl⟩ F.entry_list_pop (F.args_list_pop_2 _ _)
  (MeetsSeq.list_pop_at l its.toArray n i t k w (fitsIndex_both h1 h2) (by rw[List.size_toArray,<- hl];exact hk) (by rw[<- Array.getElem?_toList];exact hw) (by rw[List.size_toArray];omega)) ⟨e,?_⟩
 refine⟨y,_,I.Znf (its':=its.eraseIdx k) hH e ?_ (r.eraseIdx k) ?_,rw',q⟩
 ·show its.toArray.eraseIdxIfInBounds k=(its.eraseIdx k).toArray;rw[List.eraseIdxIfInBounds_toArray]
 ·have:=S7 xs k;omega
def Zpq:R2:=λx y H Q=>∃l b xs zs,x=.ref l/\y=.ref b/\H l=some (.lst xs)/\H b=some (.lst zs)/\xs.length+zs.length<=sizeLine/\∀p,H p=none->Q (.ref p) (upd H p (.lst (xs++zs)))
theorem Zmz:Cq X (binaryOp .Add) Zpq:=by
 intro pins s σ H x y v u Q I rx ry h;obtain⟨l,b,xs,zs,rfl,rfl,hH,hB,hz,q⟩:=h;cases rx;cases ry;obtain⟨z,its,n,r,hl,e⟩:=I.Zaz hH;obtain⟨z2,its2,n2,r2,hl2,e2⟩:=I.Zaz hB;refine PySem.P.add_list e e2 ?_ (by rw[List.size_toArray,List.size_toArray];omega);have ea:its.toArray++its2.toArray=(its++its2).toArray:=by simp
 rw[ea];exact⟨.ref _,_,I.Zq2 (t':=s.toks) (r.append r2) (by rw[List.length_append];omega),rfl,q _ I.fresh⟩
def Zfl:R2:=λx y H Q=>∃l k xs,x=.ref l/\y=.int k/\H l=some (.lst xs)/\-(2 ^ 63)<=k/\k<2 ^ 63/\xs.length * k.toNat<=sizeLine/\
 ∀p,H p=none->Q (.ref p) (upd H p (.lst (List.replicate k.toNat xs).flatten))
theorem len_rep{α:Type}(xs:List α)(k:Nat):(List.replicate k xs).flatten.length=k * xs.length:=by
 induction k with
 | zero=>simp
 | succ k ih=>rw[List.replicate_succ,List.flatten_cons,List.length_append,ih,Nat.succ_mul,Nat.add_comm]
theorem Zak:Cq X (binaryOp .Mult) Zfl:=by
 intro pins s σ H x y v u Q I rx ry h;obtain⟨l,k,xs,rfl,rfl,hH,h1,h2,hz,q⟩:=h;cases rx;obtain⟨t,rfl⟩:=ry;obtain⟨z,its,n,r,hl,e⟩:=I.Zaz hH;have hlen:its.toArray.size * k.toNat<=sizeLine:=by rw[List.size_toArray,<- hl];exact hz
 have hcap:¬ its.toArray.size * k.toNat > (2 ^ 63 - 1) / 8:=by
  have:(sizeLine:Nat)<=(2 ^ 63 - 1) / 8:=by decide
  omega
 have hfit:¬ (!Builtin.List.listFitsIndex k)=true:=by
  rw[fitsIndex_both h1 h2];exact Bool.false_ne_true
 have Zhg:¬ Builtin.List.listTooLong (its.toArray.size * k.toNat)=true:=by
  rw[Yh hlen];exact Bool.false_ne_true
 have hnew:List.foldl (λx1 x2=>x1++x2) #[] (List.replicate (if its.toArray.isEmpty=true then 0 else k.toNat) its.toArray)=(List.replicate k.toNat its).flatten.toArray:=by
  have f0:∀m:Nat,List.foldl (λx1 x2=>x1++x2) #[] (List.replicate m its.toArray)=(List.replicate m its).flatten.toArray:=λm=>by
   have:=foldl_rep its m [];rw[List.nil_append]at this;exact this
  rw[f0];cases its with
  | nil=>simp
  | cons a r'=>rw[if_neg (by simp)]
 refine wpAny_binaryOp_repeat_ref (T:="list") (U:="int") (by decide) ⟨_,e,rfl⟩ (λs'=>typeIs_int s' k t) noFill_list_mul F.fills_int_mul F.slot_int_rmul repeat_list F.slot_int_index.lookup
  (call_meets F.slot_int_rmul (typeIs_int s k t) F.entry_int_rmul (F.args_int_rmul_2 _ _) (int___rmul___int_list k t l its.toArray n)
   ⟨e,rfl,⟨_,e,rfl⟩,call_meets F.slot_list_mul ⟨_,e,rfl⟩ F.entry_list_mul (F.args_list_mul_2 _ _) (AutoListH.list___mul___list_int_3 l its.toArray n k t hfit hcap Zhg) ⟨e,?_⟩⟩)
 rw[hnew];exact⟨.ref _,_,I.Zq2 (t':=s.toks) (r.rep k.toNat) (by rw[len_rep,Nat.mul_comm];exact hz),rfl,q _ I.fresh⟩
end
section
variable {prog:Program}{w:World}{A:Around}{E:Value->Shared->Prop}{s:Shared}
end
section
variable {X:Cx}
end
end L2
namespace Att
open PySem PySem.W PySem.Calls PyProof.Rows
theorem Ld{P:Params}{h:Heap}:∀(ns:List Int) (vs:List Value),WellAll P h vs (ns.map WData.int)->IntsAre vs ns:=by
 intro ns
 induction ns with
 | nil=>
  intro vs w;rw[List.map_nil]at w;cases w;exact .nil
 | cons n ns ih=>
  intro vs w;rw[List.map_cons]at w;cases w with
  | cons a b=>
   cases a;exact .cons _ _ (ih _ b)
theorem Zdg{l:OpenLaw}{n:Nat}(hn:l.most=some n){P:Params}{h:Heap}{args:List WData}{vals:List Value}
  (hpre:l.row.toRowW.claim.pre args=true) (hwl:WellAll P h vals args):
  ∃a vs ns,vals=[Value.ref a]/\args=[WData.list (ns.map WData.int)]/\h.get? a=some { cls:=.type "list",data:=.seq vs.toArray }/\IntsAre vs ns/\ns.length<=n:=by
 have hsh:WShape.hasAll [] args [.list .int]=true:=(pre_splitW hpre).1;have hc:l.pre.holds [] { args:=args }=true:=(pre_splitW hpre).2;obtain⟨d,r,rfl,h1,h2⟩:=hasAllW_cons hsh;obtain rfl:=hasAllW_nil h2;obtain⟨xs,rfl,h3⟩:=hasW_list h1;obtain⟨ns,rfl⟩:=items_int h3;have hlen:ns.length<=n:=by
  unfold OpenLaw.pre at hc;have h4:(WTm.not (.lt (.lit (.int (n:Int))) (.len (.arg 0)))).holds [] { args:=[.list (ns.map .int)] }=true:=by
   have h4:=(holds_andW hc).1;rw[hn]at h4;exact h4
  have h5:=condW_of h4 (w_not (w_lt w_lit (w_len_list (w_arg rfl))));rw[aU]at h5;refine Nat.le_of_not_lt λq=>?_;have q':(n:Int)<((ns.length:Nat):Int):=by omega
  first
   | (rw[decide_eq_true q']at h5;exact absurd h5 (by decide))
   | (simp at h5;omega)
 cases hwl with
 | cons w1 w2=>
  cases w2;cases w1 with
  | list ho hall=>exact⟨_,_,ns,rfl,rfl,ho,Ld ns _ hall,hlen⟩
theorem Zdm(l:OpenLaw)(args:List WData):l.row.toRowW.claim.post args (.bool true) args=true:=
 postW_of (r:=l.row.toRowW) (X:=(true == true))
  (show WShape.has [] (.bool true) .bool=true by first | rfl | decide | simp[WShape.has,WShape.arms,WShape.armsAll])
  (show(WTm.eq .res (.lit (.bool true))).value [] { args:=args,res:=some (.bool true),after:=args }=some (.bool (true == true))from w_eq_bool (w_res rfl) w_lit) rfl
theorem Zm{l:OpenLaw}{n:Nat}{q:Program}{loose:List Str}{XP:(Str->Option Value)->Heap->Prop}{YP:World->Heap->Prop}{d:DefRec}
  (hn:l.most=some n) (hdf:d.params.defaults=[])
  (call:∀(w:World) (s₀ s₁:Shared) (mg mb:Str->Option Value) (fa:Addr) (o:Obj) (pm cd doc:Value) (a:Addr) (vs:List Value) (ns:List Int),
   Ground q loose [] XP w s₀ mg mb s₁.heap->YP w s₁.heap->
   s₁.heap.get? fa=some o->o.data=.func (docDef d.name d.params d.body d.scope pm cd doc)->s₁.heap.CodeRec cd d.name->mg d.name=some (.ref fa)->
   s₁.heap.get? a=some { cls:=.type "list",data:=.seq vs.toArray }->IntsAre vs ns->ns.length<=n->s₁.gens=#[]->
   codeAny (model l.prog w) callerA (.call (.ref fa) ⟨[.ref a],[]⟩) (λr s'=>r=.ok (.ret (.bool true))/\OldK s₁.heap s'.heap/\s'.os=s₁.os/\AllBare s'.gens) s₁):
  WalkO q loose XP YP l.row.toRowW d [] (λf vs=>PySem.call f vs):=by
 intro w s₀ s₁ mg mb G Y fa o pm cd doc dV kV ho hd hcd hD hmg hg args vals as hpre hlay hrd hwl hlo;obtain rfl:dV=.none:=Dflts.none hD hdf;obtain rfl:kV=.none:=Dflts.noKw hD;obtain⟨a,vs,ns,rfl,rfl,hobj,hints,hlen⟩:=Zdg hn hpre hwl;refine enter_call (codeAny_mono (call w s₀ s₁ mg mb fa o pm cd doc a vs ns G Y ho (fd_plain hd) hcd hmg hobj hints hlen hg) λr s' hq=>?_);obtain⟨rfl,h2,h3,h4⟩:=hq;exact⟨.inl ⟨.bool true,.bool true,[],rfl,λ_=>rfl,.bool true,Zdm l _,λ_=>⟨List.Pairwise.nil,λ_ hm=>(nomatch hm)⟩⟩,h2,h3,h4⟩
section
variable {prog:Program}{w:World}{A:Around}{E:Value->Shared->Prop}{s:Shared}{K:Frag}
end
end Att
namespace L2
open PySem PySem.Spec PyProof.Rows
theorem R5:∀{vs:List Value}{ns:List Int},IntsAre vs ns->Vals (ns.map V.int) vs
 | _,_,.nil=>.nil
 | _,_,.cons n t h=>.cons ⟨t,rfl⟩ (R5 h)
def Only(H:Hp):Prop:=∀b,H b=none\/∃o xs,H b=some (.uC o (.lst xs))
theorem Zh5{P:Program}{w:World}{K:aC}{mg mb:Str->Option Value}{CX:Xh}{k:Nat}{fa a:Addr}{fd:FuncData}{x:Str}{sp:Sp}{s₁:Shared}{vs:List Value}{ns:List Int}
  (KX:K.In s₁.heap) (hns:s₁.heap.Ns mainGlobals mg) (hb:s₁.heap.Ns builtinsNs mb) (hbb:∀x:Str,x≠"__name__"->mb x=bootBuiltins x) (hlim:s₁.heap.NoLimit) (hg:s₁.gens=#[])
  (ha:s₁.heap.get? a=some { cls:=.type "list",data:=.seq vs.toArray }) (hi:IntsAre vs ns) (hl:ns.length<=sizeLine) (hr:Room k callerA)
  (F:∀base:Heap,K.In base->base.Ns mainGlobals mg->uE P w K mg base CX k fa fd [x] sp) (hbind:∀(s:Shared) (u:Value),BindsTo s fd ⟨[u],[]⟩ [(x,u)])
  (hsp:∀H:Hp,Only H->cR K H a (ns.map V.int)->sp [.ref a] H (λv _=>v=.bl true) λ_ _ _=>False)
  (hCX:∀H e s',CX [] H s₁ (λ_ _ _=>False) e s'->False):
  codeAny (model P w) callerA (.call (.ref fa) ⟨[.ref a],[]⟩) (λr s'=>r=.ok (.ret (.bool true))/\OldK s₁.heap s'.heap/\s'.os=s₁.os/\AllBare s'.gens) s₁:=by
 have rv:=R5 hi;have lenV:=hi.length;have core:∀H:Hp,Only H->cR K H a (ns.map V.int)->BR P w H s₁.heap->(∀b,H b≠none->b=a)->(H a≠none->K.lookup a=none)->
   codeAny (model P w) callerA (.call (.ref fa) ⟨[.ref a],[]⟩) (λr s'=>r=.ok (.ret (.bool true))/\OldK s₁.heap s'.heap/\s'.os=s₁.os/\AllBare s'.gens) s₁:=by
  intro H hO hS hok hA hK;have Zd3:∀{b:Addr}{o:Obj},s₁.heap.get? b=some o->H b=none->(V5 s₁.heap H).get? b=some o:=λe n=>Zhh e n;have noA:∀{b:Addr}{o:Obj}{es:Array DictEntry}{ep:Nat},s₁.heap.get? b=some o->o.data=.dict es ep->H b=none:=λ{b o es ep} e d=>by
   cases q:H b with
   | none=>rfl
   | some u=>
    have e':b=a:=hA b (by rw[q];simp);subst e';rw[ha]at e;cases e;have d':Data.seq vs.toArray _=Data.dict es ep:=d;cases d'
  have nsK:∀{b:Addr}{m:Str->Option Value},s₁.heap.Ns b m->(V5 s₁.heap H).Ns b m:=λ{b m} ⟨o,es,ep,e,d,r⟩=>⟨o,es,ep,Zd3 e (noA e d),d,r⟩;have hKb:K.In (V5 s₁.heap H):=λb o e=>Zd3 (KX b o e) (by
   cases q:H b with
   | none=>rfl
   | some u=>
    have e':b=a:=hA b (by rw[q];simp);subst e';rw[hK (by rw[q];simp)]at e;cases e)
  have hM:Mod K mg (V5 s₁.heap H):=⟨hKb,nsK hns,⟨mb,nsK hb,hbb⟩,let ⟨mc,h1,h2⟩:=hlim;⟨mc,nsK h1,h2⟩⟩;have e0:Zc6 P w K mg (V5 s₁.heap H) callerA [] s₁ H:=⟨rfl,hM,λb o e=>Zk2 e,Nat.le_of_eq (Zeb _ _),trivial,λb hb=>absurd (show b∈([]:List Addr)from hb) (by simp),hok,.of_eq hg⟩;refine codeAny_mono ((F _ hKb (nsK hns)).run callerA [] s₁ H ⟨[.ref a],[]⟩ [.ref a] [.ref a] _ _ hr e0 (hbind s₁ (.ref a)) (.cons rfl .nil) (hsp H hO hS)) λr s' h=>?_;cases r with
  | error e=>exact(hCX H e s' h).elim
  | ok fl=>
   cases fl with
   | next=>exact False.elim h
   | brk=>exact False.elim h
   | cont=>exact False.elim h
   | ret u=>
    obtain⟨v,H',os,bare,un,hok',r',q⟩:=h;have q':v=.bl true:=q;subst q';obtain rfl:u=Value.bool true:=r';refine⟨rfl,OldK.of_keep λb o e=>?_,os,bare⟩;cases q:H b with
    | none=>exact un.keep b o e q (by intro z;exact absurd (show b∈([]:List Addr)from z) (by simp)) (by simp)
    | some u=>
     rcases hO b with z | ⟨ob,xs,z⟩
     ·rw[q]at z;cases z
     ·have z2:=un.Jz b ob _ z;obtain⟨e1,_⟩:=hok b _ z;obtain⟨e2,_⟩:=hok' b _ z2;rw[e]at e1;cases e1;exact e2
 cases hk:K.lookup a with
 | some o=>
  have e:=KX a o hk;rw[ha]at e;cases e;refine core (λ_=>none) (λ_=>.inl rfl) (.inr ⟨_,vs.toArray,_,hk,rfl,rfl,rfl,by rw[List.size_toArray,lenV];exact hl,by simpa using rv⟩) (λb u z=>by have z':(none:Option HO)=some u:=z;cases z') (λb z=>absurd rfl z) λz=>absurd rfl z
 | none=>
  refine core (λb=>if b=a then some (.uC { cls:=.type "list",data:=.seq vs.toArray } (.lst (ns.map V.int)))else none) (λb=>?_) (.inl (.inr ⟨{ cls:=.type "list",data:=.seq vs.toArray },if_pos rfl⟩)) (λb u z=>?_) (λb z=>?_) λ_=>hk
  ·by_cases hb:b=a
   ·exact .inr ⟨_,_,if_pos hb⟩
   ·exact .inl (if_neg hb)
  ·by_cases hb:b=a
   ·have z':=(if_pos hb).symm.trans z;cases z';subst hb;exact⟨ha,by rw[aU];exact hl,vs,_,rv,ha⟩
   ·have z':=(if_neg hb).symm.trans z;cases z'
  ·by_cases hb:b=a
   ·exact hb
   ·exact absurd (if_neg hb) z
end L2
namespace L2
open PySem PySem.Spec PyProof.Rows
theorem Zif{l:W.OpenLaw}{n k:Nat}{q:Program}{loose:List Str}{XP:(Str->Option Value)->Heap->Prop}{YP:World->Heap->Prop}{d:DefRec}{K:Params->aC}{CX:World->Xh}{sp:World->Sp}{x:Str}
  (hn:l.most=some n) (hn2:n<=sizeLine) (hdf:d.params.defaults=[]) (hr:Room k callerA)
  (hY:∀(w:World) (h:Heap),YP w h->(K w.params).In h)
  (F:∀(w:World) (mg:Str->Option Value) (fa:Addr) (h:Heap),(K w.params).In h->h.Ns mainGlobals mg->mg d.name=some (.ref fa)->
   ∃fd:FuncData,(∀(s:Shared) (u:Value),BindsTo s fd ⟨[u],[]⟩ [(x,u)])/\
    ∀base:Heap,(K w.params).In base->base.Ns mainGlobals mg->uE l.prog w (K w.params) mg base (CX w) k fa fd [x] (sp w))
  (hsp:∀(w:World) (H:Hp) (a:Addr) (ns:List Int),ns.length<=n->Only H->cR (K w.params) H a (ns.map V.int)->sp w [.ref a] H (λv _=>v=.bl true) λ_ _ _=>False)
  (hCX:∀(w:World) (H:Hp) (s:Shared) (e:Value) (s':Shared),CX w [] H s (λ_ _ _=>False) e s'->False):
  W.WalkO q loose XP YP l.row.toRowW d [] (λf vs=>PySem.call f vs):=by
 refine Att.Zm hn hdf λw s₀ s₁ mg mb fa o pm cd doc a vs ns G Y ho hd hcd hmg hobj hints hlen hg=>?_;have KX:=hY w _ Y;obtain⟨fd,hb,hF⟩:=F w mg fa _ KX G.T.g hmg;exact Zh5 KX G.T.g G.T.b G.T.builtins G.T.nolimit hg hobj hints (Nat.le_trans hlen hn2) hr hF hb (λH hO hS=>hsp w H a ns hlen hO hS) λH e s'=>hCX w H s₁ e s'
end L2
namespace L2
open PySem PySem.Spec PyProof.Rows
def inClass(s:Stmt)(j:Nat):Stmt:=match s with
 | .ClassDef _ _ _ body _ _ _ _ _ _ _=>body.getD j (.Pass ⟨0,0,0,0⟩)
 | _=>.Pass ⟨0,0,0,0⟩
def lJ(s:Stmt):Arguments:=match s with
 | .FunctionDef _ a _ _ _ _ _ _ _ _=>a
 | _=>{ posonlyargs:=[],args:=[],vararg:=none,kwonlyargs:=[],kw_defaults:=[],kwarg:=none,defaults:=[] }
def jL(s:Stmt):List Stmt:=match s with
 | .FunctionDef _ _ b _ _ _ _ _ _ _=>b
 | _=>[]
def aH(s:Stmt):Scope:=match s with
 | .FunctionDef _ _ _ _ _ _ sc _ _ _=>sc
 | _=>{ kind:=.function,names:=[],isGenerator:=false,isCoroutine:=false }
abbrev E0:XK:=λ_ _ _=>False
structure jX(K:aC)(x qual:Str)(st:Stmt)(f:Addr)(fd:FuncData):Prop where
 ex:∃(oc:Value) (od:Option Addr) (kV doc pm:Value) (an:Option Addr) (cdv ct:Value) (osl:Array (Option Value)),
  fd=W.fnOf x qual (lJ st) (jL st) (aH st) .none kV doc pm an cdv ct/\K.lookup f=some ⟨oc,od,.func fd,osl⟩/\W.codeIn K cdv qual=true
 kp:W.keepIn K (.ref f)=true
section
variable {P:Program}{w:World}{K:aC}{mg:Str->Option Value}{base:Heap}
theorem jX.binds{x qual:Str}{st:Stmt}{f:Addr}{fd:FuncData}{ps:List Str}(F:jX K x qual st f fd)
  (h:∀(kV doc pm:Value) (an:Option Addr) (cdv ct:Value) (us:List Value),us.length=ps.length->bindArgs (W.fnOf x qual (lJ st) (jL st) (aH st) .none kV doc pm an cdv ct) ⟨us,[]⟩=pure (ps.zip us)):Binds K fd ps []:=by
 obtain⟨oc,od,kV,doc,pm,an,cdv,ct,osl,rfl,lk,hcd⟩:=F.ex;exact .all (h kV doc pm an cdv ct)
theorem Zhr{x qual:Str}{st:Stmt}{f:Addr}{oc:Value}{od an:Option Addr}{osl:Array (Option Value)}{kV doc pm cdv ct:Value}(l:K.lookup f=some ⟨oc,od,.func (W.fnOf x qual (lJ st) (jL st) (aH st) .none kV doc pm an cdv ct),osl⟩)
  (c:W.codeIn K cdv qual=true) (k:W.keepIn K (.ref f)=true):jX K x qual st f (W.fnOf x qual (lJ st) (jL st) (aH st) .none kV doc pm an cdv ct):=⟨⟨oc,od,kV,doc,pm,an,cdv,ct,osl,rfl,l,c⟩,k⟩
end
theorem Tc{A:Around}{k:Nat}(hr:Room k A):A.units+1<cLine:=Nat.lt_of_le_of_lt (Nat.add_le_add_left (by decide:1<=64) _) hr.units
section
variable {X:Cx}
theorem pv(i:Nat){x:Str}{pos:Pos}(hN:X.N[i]? =some x:=by rfl)(hv:Vis X.env.scope x:=by first | exact Or.inl rfl | exact Or.inr (Or.inl rfl) | exact Or.inr (Or.inr rfl))(hd:(x == ("__debug__":Str))=false:=by decide)
  (hcd:(x == ("__classdict__":Str))=false:=by decide):PE X (.Name x pos) (aj i):=Zfx hN hv hd hcd
end
theorem Zkn{A B:Prop}(h:B):if false=true then A else B:=by
 rw[if_neg Bool.false_ne_true];exact h
theorem Zb8{A B:Prop}(h:A):if true=true then A else B:=by
 rw[if_pos rfl];exact h
theorem Znn{c A B:Prop} [Decidable c](h1:c->A)(h2:¬ c->B):if c then A else B:=by
 by_cases h:c
 ·rw[if_pos h];exact h1 h
 ·rw[if_neg h];exact h2 h
def bC(H H':Hp):Prop:=∀b o,H b=some o->H' b=some o
theorem bC.refl(H:Hp):bC H H:=λ_ _ h=>h
theorem bC.trans{H H1 H2:Hp}(a:bC H H1)(b:bC H1 H2):bC H H2:=λc o h=>b c o (a c o h)
theorem bC.free{H H':Hp}(e:bC H H'){l:Addr}(h:H' l=Option.none):H l=Option.none:=by
 cases q:H l with
 | none=>rfl
 | some o=>
  rw[e l o q]at h;cases h
theorem bC.seq{K:aC}{H H':Hp}{a:Addr}{xs:List V}(e:bC H H')(h:cR K H a xs):cR K H' a xs:=by
 rcases h with (h | ⟨o,h⟩) | h
 ·exact .inl (.inl (e _ _ h))
 ·exact .inl (.inr ⟨o,e _ _ h⟩)
 ·exact .inr h
end L2
namespace L2
open PySem PySem.Spec PyProof.Rows
end L2
namespace L2
open PySem PySem.Spec PyProof.Rows
end L2
namespace L2
open PySem PySem.Spec PyProof.Rows
section
variable {X:Cx}{pins:List (Addr×Obj)}{σ:List (Option V)}{H H':Hp}{s:Shared}{h':Heap}
end
end L2
namespace L2
open PySem PySem.Spec PyProof.Rows
section
variable {X:Cx}
variable {a b:Expr}{ta tb:TE}{pos:Pos}
variable {tA tB':TT}{rest:List Expr}
end
end L2
namespace L2
open PySem PySem.Spec PyProof.Rows
end L2
namespace L2
open PySem PySem.Spec PyProof.Rows
end L2
namespace L2
open PySem PySem.Spec PyProof.Rows
section
variable {X:Cx}{a b c:Expr}{ta tb tc:TE}{pos:Pos}
end
end L2
namespace L2
open PySem PySem.Spec PyProof.Rows
section
variable {prog:Program}{w:World}{A:Around}{E:Value->Shared->Prop}{s:Shared}{K:aC}{x dx C f:Addr}{mA:Str->Option Value}{name:Str}{v:Value}
end
section
variable {X:Cx}{pins:List (Addr×Obj)}{σ:St}{H:Hp}{s:Shared}{a C dx:Addr}{fs:List (Str×V)}{f:Str}{v:V}{A:Around}{E:Value->Shared->Prop}
end
end L2
namespace L2
open PySem PySem.Spec PyProof.Rows
section
variable {X:Cx}{CX:Xh}{k:Nat}{f C:Addr}{fd:FuncData}{ps:List Str}{sp:Sp}{Bd:List V}{ds:List Value}{E:XK}{x m:Str}{p pos apos:Pos}{e o:Expr}{es:List Expr}{ta:TE}{t:TA}
end
end L2
namespace L2
open PySem PySem.Spec PyProof.Rows
section
variable {X:Cx}{x:Str}{p pos:Pos}{e:Expr}{es:List Expr}{t:TA}{id T:String}{r:List V->Hp->VK->Prop}
end
end L2
namespace L2
open PySem PySem.Spec PyProof.Rows
section
variable {κ:Type} [DecidableEq κ]
def nJ(kvs:List (κ×V))(k:κ):Option V:=(kvs.find? λkv=>decide (kv.1=k)).map (·.2)
def putK(kvs:List (κ×V))(k:κ)(v:V):List (κ×V):=
 if (kvs.any λkv=>decide (kv.1=k))=true then kvs.map (λkv=>if kv.1=k then(kv.1,v)else kv)else kvs++[(k,v)]
theorem lU{p:κ×V}{r:List (κ×V)}{k:κ}(e:p.1=k):nJ (p::r) k=some p.2:=by simp[nJ,List.find?_cons,e]
theorem lV{p:κ×V}{r:List (κ×V)}{k:κ}(e:¬ p.1=k):nJ (p::r) k=nJ r k:=by simp[nJ,List.find?_cons,e]
theorem zq(k:κ):∀kvs:List (κ×V),(kvs.any λkv=>decide (kv.1=k))=(nJ kvs k).isSome
 | []=>rfl
 | p::r=>by
  rw[List.any_cons]
  by_cases e:p.1=k
  ·simp only[lU e,decide_eq_true e,Bool.true_or,Option.isSome_some]
  ·rw[lV e,decide_eq_false e,Bool.false_or];exact zq k r
theorem Xi(k j:κ)(y:V):∀kvs:List (κ×V),nJ (kvs.map λkv=>if kv.1=k then(kv.1,y)else kv) j=(nJ kvs j).map λx=>if j=k then y else x
 | []=>rfl
 | p::r=>by
  have ih:=Xi k j y r;rw[List.map_cons]
  by_cases h:p.1=k
  ·rw[if_pos h]
   by_cases e:p.1=j
   ·rw[lU (p:=(p.1,y)) e,lU e,Option.map_some,if_pos (e.symm.trans h)]
   ·rw[lV (p:=(p.1,y)) e,lV e,ih]
  ·rw[if_neg h]
   by_cases e:p.1=j
   ·rw[lU (p:=p) e,lU e,Option.map_some,if_neg (λz=>h (e.trans z))]
   ·rw[lV (p:=p) e,lV e,ih]
theorem R6(k j:κ)(y:V):∀kvs:List (κ×V),nJ kvs k=none->nJ (kvs++[(k,y)]) j=if j=k then some y else nJ kvs j
 | [],_=>by
  by_cases e:k=j
  ·rw[if_pos e.symm];exact lU (p:=(k,y)) e
  ·rw[if_neg (λz=>e z.symm)];exact lV (p:=(k,y)) e
 | p::r,hn=>by
  rw[List.cons_append];have hk:¬ p.1=k:=λz=>by rw[lU z]at hn;cases hn
  rw[lV hk]at hn;have ih:=R6 k j y r hn
  by_cases e:p.1=j
  ·rw[lU e,lU e,if_neg (λz=>hk (e.trans z))]
  ·rw[lV e,lV e,ih]
theorem Zet(kvs:List (κ×V))(k j:κ)(y:V):nJ (putK kvs k y) j=if j=k then some y else nJ kvs j:=by
 unfold putK
 by_cases a:(kvs.any λkv=>decide (kv.1=k))=true
 ·rw[if_pos a,Xi];rw[zq]at a
  by_cases e:j=k
  ·obtain⟨x,hx⟩:=Option.isSome_iff_exists.mp a;rw[if_pos e,e,hx,Option.map_some,if_pos rfl]
  ·rw[if_neg e];cases nJ kvs j with
   | none=>rfl
   | some x=>rw[Option.map_some,if_neg e]
 ·rw[if_neg a];refine R6 k j y kvs ?_;rw[zq]at a;cases q:nJ kvs k with
  | none=>rfl
  | some x=>rw[q]at a;exact(a rfl).elim
theorem J9(kvs:List (κ×V))(k:κ)(v:V):(putK kvs k v).length<=kvs.length+1:=by
 unfold putK;split
 ·rw[aU];omega
 ·rw[List.length_append,List.length_cons,List.length_nil];omega
theorem Zfo{kvs:List (κ×V)}{k:κ}(v:V)(h:nJ kvs k=none):putK kvs k v=kvs++[(k,v)]:=by
 unfold putK;rw[zq,h];exact if_neg (by decide)
theorem Ht.Jt{o:Option V}{u:Option Value}(r:Ht o u):o.isSome=u.isSome:=by
 cases o with
 | none=>cases u with
  | none=>rfl
  | some _=>exact(show False from r).elim
 | some _=>cases u with
  | none=>exact(show False from r).elim
  | some _=>rfl
theorem KV.val{kvs:List (κ×V)}{vs:List (κ×Value)}(r:KV kvs vs)(k:κ):Ht (nJ kvs k) (valueAt vs k):=by
 unfold KV at r
 induction r with
 | nil=>exact True.intro
 | @cons p q ps qs h t ih=>
  obtain⟨h1,h2⟩:=h
  by_cases e:p.1=k
  ·have e':q.1=k:=h1.symm.trans e;have b:valueAt (q::qs) k=some q.2:=by simp[valueAt,List.find?_cons,e']
   rw[lU e,b];exact h2
  ·have e':¬ q.1=k:=λz=>e (h1.trans z);have b:valueAt (q::qs) k=valueAt qs k:=by simp[valueAt,List.find?_cons,e']
   rw[lV e,b];exact ih
theorem KV.any{kvs:List (κ×V)}{vs:List (κ×Value)}(r:KV kvs vs)(k:κ):(kvs.any λkv=>decide (kv.1=k))=vs.any λkv=>decide (kv.1=k):=by
 unfold KV at r
 induction r with
 | nil=>rfl
 | cons h t ih=>rw[List.any_cons,List.any_cons,ih,h.1]
theorem KV.repl{kvs:List (κ×V)}{vs:List (κ×Value)}(r:KV kvs vs)(k:κ){y:V}{u:Value}(ry:RelV y u):
  KV (kvs.map λkv=>if kv.1=k then(kv.1,y)else kv) (vs.map λkv=>if kv.1=k then(kv.1,u)else kv):=by
 unfold KV at r ⊢
 induction r with
 | nil=>exact .nil
 | @cons p q ps qs h t ih=>
  rw[List.map_cons,List.map_cons];refine .cons ?_ ih;obtain⟨h1,h2⟩:=h
  by_cases e:p.1=k
  ·rw[if_pos e,if_pos (h1.symm.trans e)];exact⟨h1,ry⟩
  ·rw[if_neg e,if_neg (λz=>e (h1.trans z))];exact⟨h1,h2⟩
theorem KV.put{kvs:List (κ×V)}{vs:List (κ×Value)}(r:KV kvs vs)(k:κ){y:V}{u:Value}(ry:RelV y u):KV (putK kvs k y) (stored vs k u):=by
 unfold putK stored;rw[r.any k]
 by_cases e:(vs.any λkv=>decide (kv.1=k))=true
 ·rw[if_pos e,if_pos e];exact r.repl k ry
 ·rw[if_neg e,if_neg e];exact Paired.snoc r ⟨rfl,ry⟩
theorem KV.length{kvs:List (κ×V)}{vs:List (κ×Value)}(r:KV kvs vs):kvs.length=vs.length:=Paired.length r
end
theorem Zh9{P:Program}{w:World}{k:Key}{u:Value}(r:RelV (kV k) u):(fB P w).is k u=true:=by
 cases k with
 | inl i=>obtain⟨t,e⟩:=(show ∃t,u=Value.int i t from r);subst e;exact Yt P w i t
 | inr x=>obtain⟨t,e⟩:=(show ∃t,u=Value.str x t from r);subst e;exact Ys P w x t
theorem S9{P:Program}{w:World}:∀{ks:List Key}{us:List Value},Vals (ks.map kV) us->ItemsAre (fB P w) ks us
 | [],_,r=>by rw[List.map_nil]at r;cases r;exact .nil
 | k::ks,_,r=>by
  rw[List.map_cons]at r;cases r with
  | cons h t=>exact .cons (Zh9 h) (S9 t)
abbrev KT(H:Hp):List (List Key×V)->List (List Key×Addr×Value)->Prop:=Paired λp q=>p.1=q.1/\H q.2.1=some (.tup (p.1.map kV))/\RelV p.2 q.2.2
theorem KT.val{H:Hp}{kvs:List (List Key×V)}{xs:List (List Key×Addr×Value)}(r:KT H kvs xs)(k:List Key):Ht (nJ kvs k) ((atKey xs k).map (·.2)):=by
 induction r with
 | nil=>exact True.intro
 | @cons p q ps qs h t ih=>
  obtain⟨h1,_,h2⟩:=h
  by_cases e:p.1=k
  ·have e':q.1=k:=h1.symm.trans e;have b:atKey (q::qs) k=some q.2:=by simp[atKey,List.find?_cons,e']
   rw[lU e,b];exact h2
  ·have e':¬ q.1=k:=λz=>e (h1.trans z);have b:atKey (q::qs) k=atKey qs k:=by simp[atKey,List.find?_cons,e']
   rw[lV e,b];exact ih
theorem KT.repl{H:Hp}{kvs:List (List Key×V)}{xs:List (List Key×Addr×Value)}(r:KT H kvs xs)(k:List Key){y:V}{u:Value}(ry:RelV y u):
  KT H (kvs.map λkv=>if kv.1=k then(kv.1,y)else kv) (xs.map (putAt k u)):=by
 induction r with
 | nil=>exact .nil
 | @cons p q ps qs h t ih=>
  rw[List.map_cons,List.map_cons];refine .cons ?_ ih;obtain⟨h1,h2,h3⟩:=h;unfold putAt
  by_cases e:p.1=k
  ·rw[if_pos e,if_pos (h1.symm.trans e)];exact⟨h1,h2,ry⟩
  ·rw[if_neg e,if_neg (λz=>e (h1.trans z))];exact⟨h1,h2,h3⟩
theorem KT.put{H:Hp}{kvs:List (List Key×V)}{xs:List (List Key×Addr×Value)}(r:KT H kvs xs)(k:List Key){b:Addr}{y:V}{u:Value}(hb:H b=some (.tup (k.map kV)))(ry:RelV y u):
  KT H (putK kvs k y) (storedH xs k b u):=by
 have e:(kvs.any λkv=>decide (kv.1=k))=(atKey xs k).isSome:=by
  rw[zq,(r.val k).Jt,Option.isSome_map]
 unfold putK storedH;rw[e]
 by_cases q:(atKey xs k).isSome=true
 ·rw[if_pos q,if_pos q];exact r.repl k ry
 ·rw[if_neg q,if_neg q];exact Paired.snoc r ⟨rfl,hb,ry⟩
theorem KT.keeps{H H':Hp}{kvs:List (List Key×V)}{xs:List (List Key×Addr×Value)}(r:KT H kvs xs)(ht:∀b ys,H b=some (.tup ys)->H' b=some (.tup ys)):KT H' kvs xs:=
 Paired.Znd r λ_ _ z=>⟨z.1,ht _ _ z.2.1,z.2.2⟩
section
variable {P:Program}{w:World}{H:Hp}{h:Heap}{a:Addr}
theorem Zlv{u:HO}(ok:BR P w H h)(e:Rd H a u):jx P w H h a u:=e.ok ok
theorem O8{kvs:List (Key×V)}(ok:BR P w H h)(e:Rd H a (.dK kvs)):kvs.length<=sizeLine/\(a == sysModules)=false/\∃vs,KV kvs vs/\h.DictOf (fB P w) a vs:=
 show jx P w H h a (.dK kvs)from Zlv ok e
theorem Zma{kvs:List (Key×V)}(ok:BR P w H h)(e:H a=some (.dK kvs)):kvs.length<=sizeLine/\(a == sysModules)=false/\∃vs,KV kvs vs/\h.DictOf (fB P w) a vs:=O8 ok (.inl e)
theorem Zb6{ks:List Key}(ok:BR P w H h)(e:H a=some (.tup (ks.map kV))):(tupleKind (fB P w)).is h ks a:=by
 obtain⟨_,its,r,o,h1,h2,n,h3⟩:=(show jx P w H h a (.tup (ks.map kV))from ok a _ e);exact⟨o,its.toArray,n,h1,h2,h3,by simpa using S9 r⟩
theorem Zi5{kvs:List (List Key×V)}(ok:BR P w H h)(e:Rd H a (.dT kvs)):kvs.length<=sizeLine/\(a == sysModules)=false/\
  ∃xs,KT H kvs xs/\h.DictOfH (tupleKind (fB P w)) a xs:=by
 obtain⟨z,y,xs,r,o,es,ep,h1,h2,h3,h4,h5⟩:=(show jx P w H h a (.dT kvs)from Zlv ok e);refine⟨z,y,xs,r,o,es,ep,h1,h2,h3,h4,λx hx=>?_,h5⟩;have all:∀{l:List (List Key×V)}{m:List (List Key×Addr×Value)},KT H l m->∀x∈m,(tupleKind (fB P w)).is h x.1 x.2.1:=by
  intro l m q
  induction q with
  | nil=>intro x hx;exact nomatch hx
  | @cons p q ps qs hq t ih=>
   intro x hx;rcases List.mem_cons.mp hx with e | hx
   ·subst e;exact Zb6 ok (by rw[<- hq.1];exact hq.2.1)
   ·exact ih x hx
 exact all r x hx
theorem Zr2{kvs:List (List Key×V)}(ok:BR P w H h)(e:H a=some (.dT kvs)):kvs.length<=sizeLine/\(a == sysModules)=false/\
  ∃xs,KT H kvs xs/\h.DictOfH (tupleKind (fB P w)) a xs:=Zi5 ok (.inl e)
end
def Zer(H:Hp)(a:Addr)(y:V)(r:Option V):Prop:=
 (∃kvs k,Rd H a (.dK kvs)/\y=kV k/\r=nJ kvs k)\/∃kvs k b,Rd H a (.dT kvs)/\y=.ref b/\H b=some (.tup (k.map kV))/\r=nJ kvs k
def Zc7(H:Hp)(a:Addr)(y v:V)(H':Hp):Prop:=
 (∃kvs k,H a=some (.dK kvs)/\y=kV k/\kvs.length<sizeLine/\H'=upd H a (.dK (putK kvs k v)))\/
 ∃kvs k b,H a=some (.dT kvs)/\y=.ref b/\H b=some (.tup (k.map kV))/\kvs.length<sizeLine/\H'=upd H a (.dT (putK kvs k v))
theorem Zer.k{H:Hp}{a:Addr}{kvs:List (Key×V)}{k:Key}(e:H a=some (.dK kvs)):Zer H a (kV k) (nJ kvs k):=.inl ⟨kvs,k,.inl e,rfl,rfl⟩
theorem Zc7.k{H:Hp}{a:Addr}{kvs:List (Key×V)}{k:Key}{v:V}(e:H a=some (.dK kvs))(hl:kvs.length<sizeLine):Zc7 H a (kV k) v (upd H a (.dK (putK kvs k v))):=.inl ⟨kvs,k,e,rfl,hl,rfl⟩
section
variable {X:Cx}{pins:List (Addr×Obj)}{σ:St}{H:Hp}{s:Shared}{a:Addr}{y v:V}{u r:Value}{o:Option V}{A:Around}{E:Value->Shared->Prop}
theorem Inv.big(I:Inv X pins σ H s):sysModules<s.heap.objs.size:=by
 have h:mainGlobals<s.heap.objs.size:=(I.mod.glob.keeps I.bk).lt;exact Nat.lt_trans (by decide) h
theorem Zd1{Q:Value->Shared->Prop}(hu:A.units+1<cLine)(I:Inv X pins σ H s)(g:Zer H a y o)(ry:RelV y u)(h:∀s',Inv X pins σ H s'->Q (.bool (!o.isSome)) s'):
  wpAny (model X.prog X.w) A (compareOp .NotIn u (.ref a)) Q E s:=by
 rcases g with ⟨kvs,k,e,ey,l⟩ | ⟨kvs,k,b,e,ey,eb,l⟩
 ·subst ey;obtain⟨z,hd,vs,rel,dd⟩:=O8 I.hok e;refine wpAny_notIn_of (Zh9 ry) hd dd.mapOf ?_;rw[<- (rel.val k).Jt,<- l];exact h _ (I.tok _)
 ·subst ey;cases (show u=Value.ref b from ry);obtain⟨z,hd,xs,rel,dd⟩:=Zi5 I.hok e;refine wpAny_notIn_heap (tupleKind_room_in1 hu) (Zb6 I.hok eb) hd dd ?_;have q:=(rel.val k).Jt;rw[Option.isSome_map]at q;rw[<- q,<- l];exact h _ (I.tok _)
theorem Zd0{h':Heap}{t':Nat}{ob:HO}(I:Inv X pins σ H s)(mu:Mut (H a))(hs:Heap.SameBut a s.heap h')(he:∃q,h'.get? a=some q)(new:jx X.prog X.w (upd H a ob) h' a ob):
  Inv X pins σ (upd H a ob) { s with heap:=h',toks:=t' }:=
 I.write (x:=a) (e:=a) mu (.inl rfl) (λb q hb z=>(hs.2 b hb).trans z) he new
theorem Zos{P:Program}{w:World}{H':Hp}{h':Heap}{kvs:List (Key×V)}{vs:List (Key×Value)}(z:kvs.length<=sizeLine)(hd:(a == sysModules)=false)(rel:KV kvs vs)(dd:h'.DictOf (fB P w) a vs):
  jx P w H' h' a (.dK kvs):=⟨z,hd,vs,rel,dd⟩
theorem Zej{H':Hp}{Q:Unit->Shared->Prop}(hu:A.units+1<cLine)(I:Inv X pins σ H s)(g:Zc7 H a y v H')(ry:RelV y u)(rv:RelV v r)(h:∀s',Inv X pins σ H' s'->Q () s'):
  wpAny (model X.prog X.w) A (setItem (.ref a) u r) Q E s:=by
 rcases g with ⟨kvs,k,e,ey,l,eH⟩ | ⟨kvs,k,b,e,ey,eb,l,eH⟩
 ·subst ey eH;obtain⟨z,hd,vs,rel,dd⟩:=Zma I.hok e;have hz:vs.length<=sizeLine:=by rw[<- rel.length];exact z
  have hl:(putK kvs k v).length<=sizeLine:=by have:=J9 kvs k v;omega
  refine wpAny_setItem_pairs (hsz:=hz) (Zh9 ry) dd λh' dd' hs=>h _ ?_;have he:∃q,h'.get? a=some q:=let ⟨q,_,_,hq,_⟩:=dd';⟨q,hq⟩
  exact Zd0 I (by rw[e];exact True.intro) hs he (Zos hl hd (rel.put k rv) dd')
 ·subst ey eH;cases (show u=Value.ref b from ry);obtain⟨z,hd,xs,rel,dd⟩:=Zr2 I.hok e;have hz:xs.length<=sizeLine:=by rw[<- Paired.length rel];exact z
  have hl:(putK kvs k v).length<=sizeLine:=by have:=J9 kvs k v;omega
  refine wpAny_setItem_heap (hsz:=hz) (tupleKind_room_in1 hu) (Zb6 I.hok eb) dd λh' dd' hs=>h _ ?_;obtain⟨q,es,ep,hq,h2,h3,h4,_,h5⟩:=dd';refine Zd0 I (by rw[e];exact True.intro) hs ⟨q,hq⟩ ⟨hl,hd,_,(rel.put k eb rv).keeps λc ys ec=>?_,q,es,ep,hq,h2,h3,h4,h5⟩;rw[aA (pX ec e (λz=>nomatch z))];exact ec
end
section
variable {X:Cx}{pins:List (Addr×Obj)}{σ:St}{H:Hp}{s:Shared}{a:Addr}{kvs:List (Key×V)}{k:Key}{u:Value}{A:Around}{E:Value->Shared->Prop}
end
def Zre(i:Expr):Prop:=∀ov iv,subscripted i false ov iv=operate [ov,iv] (getItem ov iv)
theorem Zij{prog:Program}{w:World}{A:Around}{E:Value->Shared->Prop}{s:Shared}{env:Env}{value slice:Expr}{pos:Pos}{T id:String}{Q:Value->Shared->Prop}
  (hl:typeLookup (.type T) "__getitem__"=pure (some (.builtin id))) (hs:Zre slice)
  (h:wpAny (model prog w) A (eval value env) (λo s₁=>wpAny (model prog w) A (eval slice env) (λi s₂=>s₂.TypeIs o T/\wpAny (model prog w) A (getItem o i) Q E s₂) E s₁) E s):
  wpAny (model prog w) A (eval (.Subscript value slice pos) env) Q E s:=by
 refine Subscript_ (wpAny_mono h (λo s₁ h₁=>wpAny_mono h₁ (λi s₂ h₂=>?_) λ_ _ x=>x) λ_ _ x=>x);obtain⟨hT,h₂⟩:=h₂;unfold subscriptTail;refine wpAny_bind ?_;rw[getitemInPython_of_ne hT.not_modules];refine wpAny_bind (wpAny_specialOf hT hl ?_);have fin:wpAny (model prog w) A (subscripted slice false o i) (λr s₃=>wpAny (model prog w) A (letTemporaryGo value o r >>= λ_=>pure r) Q E s₃) E s₂:=by
  rw[hs o i];exact wpAny_operating (wpAny_mono h₂ (λr s₃ h₃=>wpAny_bind (wpAny_letTemporaryGo (wpAny_pure h₃))) λ_ _ x=>x)
 first
  | exact wpAny_pure (wpAny_bind fin)
  | exact wpAny_bind (wpAny_pure (wpAny_bind fin))
  | exact wpAny_bind fin
def Lp(ty td:TE):TE:=λσ H Q=>ty σ H λy H1=>td σ H1 λx H2=>∃a o,x=.ref a/\Zer H2 a y o/\Q (.bl (!o.isSome)) H2
def Zce(td ty tv:TE):TS:=λD σ H=>tv σ H λv H1=>td σ H1 λx H2=>ty σ H2 λy H3=>∃a H4,x=.ref a/\Zc7 H3 a y v H4/\D.nx σ H4
section
variable {X:Cx}{o i e value:Expr}{pos pos' tpos:Pos}{td ty tv:TE}
theorem Zdp(hu:X.A.units+1<cLine)(hi:PE X i ty)(ho:PE X o td):PC X .NotIn i o (Lp ty td):=by
 intro pins s σ H Q I h;refine jW (hi pins s σ H _ I h) λiv s1 ⟨y,H1,I1,ry,q1⟩=>jW (ho pins s1 σ H1 _ I1 q1) λu s2 ⟨x,H2,I2,rx,a,ov,ex,g,q2⟩=>?_;subst ex;obtain rfl:u=Value.ref a:=rx;exact Zd1 hu I2 g ry λs3 I3=>⟨.bl (!ov.isSome),H2,I3,rfl,q2⟩
theorem Zci(hu:X.A.units+1<cLine)(ho:PE X o td)(hi:PE X i ty)(hv:PE X value tv)(hs:swapsWith value (some (.Subscript o i pos')) pos.line X.env=pure false):
  PS X (.Assign [.Subscript o i pos'] value pos) (Zce td ty tv):=by
 intro pins s σ H D I h;refine wpAny_Assign_Subscript (jW (hv pins s σ H _ I h) λr s1 ⟨v,H1,I1,rv,q1⟩=>jW (ho pins s1 σ H1 _ I1 q1) λu s2 ⟨x,H2,I2,rx,q2⟩=>jW (hi pins s2 σ H2 _ I2 q2) λiv s3 ⟨y,H3,I3,ry,a,H4,ex,g,q3⟩=>?_) hs;subst ex;obtain rfl:u=Value.ref a:=rx;exact Zej hu I3 g ry rv λs4 I4=>⟨σ,H4,I4,q3⟩
end
theorem Zi6{P:Program}{w:World}{H:Hp}(h:Heap)(hb:sysModules<h.objs.size):jx P w H (h.push { cls:=.type "dict",data:=.dict #[] }) h.objs.size (.dK []):=
 ⟨Nat.zero_le _,beq_eq_false_iff_ne.mpr (Ne.symm (Nat.ne_of_lt hb)),[],.nil,Heap.DictOf.new h⟩
def T5:TE:=λ_ H Q=>∀p,H p=none->Q (.ref p) (upd H p (.dK []))
section
variable {X:Cx}{pos:Pos}
theorem Nu:PE X (.Dict [] [] pos) T5:=λpins s σ H Q I h=>
 wpAny_Dict_empty ⟨.ref s.heap.objs.size,_,I.laid (a:=s.heap.objs.size) (o:=.dK []) (t':=s.toks) (λ_ _ q=>Heap.get?_push_of_some _ q) (Nat.le_refl _) (Zi6 s.heap I.big),rfl,h _ (I.hok.fresh (Nat.le_refl _))⟩
end
structure M1(X:Cx)(o:Expr)(m:Str)(apos:Pos)(e:Expr)(cpos:Pos):Prop where
 base:attributeBase o m X.env (eval o X.env)=eval o X.env
 few:((backTo cpos (starEach [e] X.env)).all (λx=>!x.1) && (backToKw cpos (keywordEach [] X.env)).all (λx=>x.1.isSome)
  && decide (([e]:List Expr).length+([]:List Keyword).length+(if ([]:List Keyword).isEmpty then 0 else 1)<30))=true
 line:(apos.endLine == cpos.line)=true
 trees:backTo cpos (starEach [e] X.env)=[(false,eval e X.env)]
structure M2(X:Cx)(o:Expr)(m:Str)(apos:Pos)(e f:Expr)(cpos:Pos):Prop where
 base:attributeBase o m X.env (eval o X.env)=eval o X.env
 few:((backTo cpos (starEach [e,f] X.env)).all (λx=>!x.1) && (backToKw cpos (keywordEach [] X.env)).all (λx=>x.1.isSome)
  && decide (([e,f]:List Expr).length+([]:List Keyword).length+(if ([]:List Keyword).isEmpty then 0 else 1)<30))=true
 line:(apos.endLine == cpos.line)=true
 trees:backTo cpos (starEach [e,f] X.env)=[(false,eval e X.env),(false,eval f X.env)]
def IsD(H:Hp)(a:Addr):Prop:=(∃kvs,Rd H a (.dK kvs))\/∃kvs,Rd H a (.dT kvs)
theorem Zhb{X:Cx}{pins:List (Addr×Obj)}{σ:St}{H:Hp}{s:Shared}{a:Addr}(I:Inv X pins σ H s)(d:IsD H a):
  s.TypeIs (.ref a) "dict"/\(∀b,Value.ref a=.ref b->∃ob,s.heap.get? b=some ob/\ob.dict=none)/\(a == sysModules)=false:=by
 rcases d with ⟨kvs,e⟩ | ⟨kvs,e⟩
 ·obtain⟨_,hd,vs,_,dd⟩:=O8 I.hok e;refine⟨dd.typeIs,λb q=>?_,hd⟩;cases q;obtain⟨ob,_,_,h1,h2,_⟩:=dd;exact⟨ob,h1,h2.2.1⟩
 ·obtain⟨_,hd,xs,_,dd⟩:=Zi5 I.hok e;refine⟨dd.typeIs,λb q=>?_,hd⟩;cases q;obtain⟨ob,_,_,h1,h2,_⟩:=dd;exact⟨ob,h1,h2.2.1⟩
section
variable {X:Cx}{pins:List (Addr×Obj)}{σ:St}{H:Hp}{s:Shared}{a:Addr}{y d:V}{u r:Value}{o:Option V}{A:Around}{E:Value->Shared->Prop}
end
section
variable {X:Cx}{o e f:Expr}{apos cpos:Pos}{td ty tx:TE}
end
section
variable {X:Cx}{pins:List (Addr×Obj)}{σ:St}{H:Hp}{s:Shared}{a:Addr}{kvs:List (Key×V)}{A:Around}{E:Value->Shared->Prop}
end
section
variable {X:Cx}{pins:List (Addr×Obj)}{σ:St}{H:Hp}{s:Shared}{a:Addr}{y:V}{u:Value}{A:Around}{E:Value->Shared->Prop}
end
end L2
namespace Att
open PySem PySem.W PySem.Calls PyProof.Rows
section
variable {prog:Program}{w:World}{A:Around}{E:Value->Shared->Prop}{s:Shared}{K:Frag}
end
end Att
namespace L2
open PySem PySem.Spec PyProof.Rows
end L2
namespace L2
open PySem PySem.Spec PyProof.Rows
end L2
namespace L2
open PySem PySem.Spec PyProof.Rows
section
variable {X:Cx}
end
section
variable {κ:Type} [DecidableEq κ]
end
end L2
set_option maxHeartbeats 40000000
namespace G
open PySem L2
section
variable {D:Ends}{σ:St}{H H1:Hp}{Q:VK}{t u:TS}{ta tb tc te:TE}{n:St->Hp->Prop}{r:VK}{b c:St->Hp->Prop}
theorem Kf(h:t ⟨u ⟨n,r,b,c⟩,r,b,c⟩ σ H):aM t u ⟨n,r,b,c⟩ σ H:=h
theorem Znw(h:n σ H):bW ⟨n,r,b,c⟩ σ H:=h
theorem Zo8(h:te σ H λ_ H1=>n σ H1):oY te ⟨n,r,b,c⟩ σ H:=h
theorem Zqb(h:te σ H r):bL te ⟨n,r,b,c⟩ σ H:=h
theorem Zo5{c':TT}(h:c' σ H λk H1=>if k=true then t ⟨n,r,b,c⟩ σ H1 else u ⟨n,r,b,c⟩ σ H1):eG c' t u ⟨n,r,b,c⟩ σ H:=h
theorem Zqp{g:TG}(h:te σ H λx H1=>g x σ H1 n):cG te g ⟨n,r,b,c⟩ σ H:=h
theorem i_C{v:V}(h:Q v H):tC v σ H Q:=h
theorem Zs8{f:R2}(h:ta σ H λx H1=>tb σ H1 λy H2=>f x y H2 Q):bO f ta tb σ H Q:=h
def kB(q:Bool->Hp->Prop):VK:=λx H'=>∃k,x=.bl k/\q k H'
theorem i_B{k:Bool}{q:Bool->Hp->Prop}(h:q k H):kB q (.bl k) H:=⟨k,rfl,h⟩
theorem Znr{q:Bool->Hp->Prop}(h:te σ H (kB q)):cB te σ H q:=h
theorem Zqa{q:Bool->Hp->Prop}(h:te σ H (kB q)):tB te σ H q:=h
theorem Zqq{t u:TT}{q:Bool->Hp->Prop}(h:t σ H λk H1=>if k=true then u σ H1 q else q false H1):Dh t u σ H q:=h
theorem Zqc{t u:TT}{q:Bool->Hp->Prop}(h:t σ H λk H1=>if k=true then q true H1 else u σ H1 q):ZQ t u σ H q:=h
theorem Zm4{t:TT}{q:Bool->Hp->Prop}(h:t σ H λk H1=>q (!k) H1):qW t σ H q:=h
theorem Zod(h:ta σ H (kB λk H1=>if k=true then tb σ H1 Q else Q (.bl false) H1)):MF ta tb σ H Q:=h
theorem Znv(h:ta σ H (kB λk H1=>Q (.bl (!k)) H1)):Zca ta σ H Q:=h
theorem Zqj{t:TT}(h:t σ H λk H1=>if k=true then ta σ H1 Q else tb σ H1 Q):tIf t ta tb σ H Q:=h
theorem Zsm{g:Int->Int->V}{i j:Int}(h:Q (g i j) H):qw g (.int i) (.int j) H Q:=⟨i,j,rfl,rfl,h⟩
theorem i_I{C:Int->Int->Prop}{g:Int->Int->V}{i j:Int}(hc:C i j)(h:Q (g i j) H):rI C g (.int i) (.int j) H Q:=⟨i,j,rfl,rfl,hc,h⟩
theorem Zqo{i j:Int}(h:Q (.bl (decide (i=j))) H):Eb (.int i) (.int j) H Q:=⟨rfl,by rw[show decide (V.int i=V.int j)=decide (i=j)from decide_eq_decide.mpr ⟨λe=>V.int.inj e,λe=>by rw[e]⟩];exact h⟩
theorem Zqn{i j:Str}(h:Q (.bl (decide (i=j))) H):Eb (.str i) (.str j) H Q:=⟨rfl,by rw[show decide (V.str i=V.str j)=decide (i=j)from decide_eq_decide.mpr ⟨λe=>V.str.inj e,λe=>by rw[e]⟩];exact h⟩
theorem Zqf{i j:Int}(h:Q (.bl (!decide (i=j))) H):rNe (.int i) (.int j) H Q:=⟨rfl,by rw[show decide (V.int i=V.int j)=decide (i=j)from decide_eq_decide.mpr ⟨λe=>V.int.inj e,λe=>by rw[e]⟩];exact h⟩
theorem Zqe{i j:Str}(h:Q (.bl (!decide (i=j))) H):rNe (.str i) (.str j) H Q:=⟨rfl,by rw[show decide (V.str i=V.str j)=decide (i=j)from decide_eq_decide.mpr ⟨λe=>V.str.inj e,λe=>by rw[e]⟩];exact h⟩
def Dv:R2:=λx y H Q=>y=.non/\Q (.bl (decide (x=.non))) H
def pW:R2:=λx y H Q=>y=.non/\Q (.bl (!decide (x=.non))) H
theorem Zo4(h:Q (.bl true) H):Dv .non .non H Q:=⟨rfl,h⟩
theorem Zo3{i:Int}(h:Q (.bl false) H):Dv (.int i) .non H Q:=⟨rfl,h⟩
theorem Zo2{i:Str}(h:Q (.bl false) H):Dv (.str i) .non H Q:=⟨rfl,h⟩
theorem Zo1{i:Addr}(h:Q (.bl false) H):Dv (.ref i) .non H Q:=⟨rfl,h⟩
theorem Zo0{i:Bool}(h:Q (.bl false) H):Dv (.bl i) .non H Q:=⟨rfl,h⟩
theorem Zkr(h:Q (.bl false) H):pW .non .non H Q:=⟨rfl,h⟩
theorem Zkq{i:Int}(h:Q (.bl true) H):pW (.int i) .non H Q:=⟨rfl,h⟩
theorem Zkp{i:Addr}(h:Q (.bl true) H):pW (.ref i) .non H Q:=⟨rfl,h⟩
theorem Aw{A B:Prop}(h:A):if true=true then A else B:=Zb8 h
theorem oM{A B:Prop}(h:B):if false=true then A else B:=Zkn h
theorem Zkw{A B:Prop}(h:B):if (!true)=true then A else B:=Zkn h
theorem Zkx{A B:Prop}(h:A):if (!false)=true then A else B:=Zb8 h
theorem pU{p A B:Prop} [Decidable p](h1:p->A)(h2:¬ p->B):if decide p=true then A else B:=Znn (λe=>h1 (of_decide_eq_true e)) (λe=>h2 (λq=>e (decide_eq_true q)))
theorem wO{p A B:Prop} [Decidable p](h1:¬ p->A)(h2:p->B):if (!decide p)=true then A else B:=Znn (λe=>h1 (by simpa using e)) (λe=>h2 (by simpa using e))
theorem Zqd{q:List V->Hp->Prop}(h:q [] H):aJ σ H q:=h
theorem Zob{q:List V->Hp->Prop}{t:TA}(h:ta σ H λx H1=>t σ H1 λxs H2=>q (x::xs) H2):ak ta t σ H q:=h
theorem Zqg{t:TA}(h:t σ H λxs H1=>xs.length<=sizeLine/\∀p,H1 p=none->Q (.ref p) (upd H1 p (.lst xs))):mz t σ H Q:=h
theorem Zq8{t:TA}(h:t σ H λxs H1=>xs.length<=sizeLine/\∀p,H1 p=none->Q (.ref p) (upd H1 p (.tup xs))):u9 t σ H Q:=h
theorem Zoc{t:TA}{sp:Sp}{Bd:List V}{E:XK}(h:t σ H λvs H1=>sp (vs++Bd) H1 Q E):aZ sp Bd E t σ H Q:=h
theorem Zsn{t:TA}{f:List V->Hp->VK->Prop}(h:t σ H λvs H1=>f vs H1 Q):wF f t σ H Q:=h
theorem Zny{t:TA}{sp:Sp}{Bd:List V}{E:XK}{C:Addr}(h:t σ H λvs H1=>∀x dx,H1 x=none->H1 dx=none->dx≠x->sp (.ref x::(vs++Bd)) (upd (upd H1 dx (.own x)) x (.ins C dx [])) (λv H2=>v=.non/\Q (.ref x) H2) E):Eh C sp Bd E t σ H Q:=h
def Zq7(K:aC)(f:Str)(Q:VK):VK:=λx H1=>∃a C dx fs v,x=.ref a/\H1 a=some (.ins C dx fs)/\De K C/\bD K C f/\fs.lookup f=some v/\Q v H1
theorem Zqm{K:aC}{f:Str}(h:ta σ H (Zq7 K f Q)):aY K ta f σ H Q:=h
theorem aD{K:aC}{f:Str}{a C dx:Addr}{fs:List (Str×V)}{v:V}(h:H a=some (.ins C dx fs))(hc:De K C)(hn:bD K C f)(hl:fs.lookup f=some v)(q:Q v H):Zq7 K f Q (.ref a) H:=⟨a,C,dx,fs,v,rfl,h,hc,hn,hl,q⟩
theorem Zns{K:aC}{f:Str}{tv:TE}(h:tv σ H λy H1=>ta σ H1 λx H2=>∃a C dx fs,x=.ref a/\H2 a=some (.ins C dx fs)/\De K C/\bD K C f/\fs.length<1000/\n σ (upd H2 a (.ins C dx (cz f y fs)))):gH K ta tv f ⟨n,r,b,c⟩ σ H:=h
theorem Znx{C:Addr}{m:Str}{sp:Sp}{Bd:List V}{E:XK}{t:TA}(h:ta σ H λx H1=>∃a dx fs,x=.ref a/\H1 a=some (.ins C dx fs)/\fs.lookup m=none/\t σ H1 λvs H2=>sp (x::(vs++Bd)) H2 Q E):jk C m sp Bd E ta t σ H Q:=h
theorem Zhd{q:Option Int->Hp->Prop}(h:q none H):Eg σ H q:=h
def kI(q:Int->Hp->Prop):VK:=λx H1=>∃i,x=.int i/\q i H1
theorem Znu{q:Option Int->Hp->Prop}(h:te σ H (kI λi=>q (some i))):zx te σ H q:=h
theorem Zs9{i:Int}{q:Int->Hp->Prop}(h:q i H):kI q (.int i) H:=⟨i,rfl,h⟩
theorem Zs7{f:V->Option Int->Option Int->Hp->VK->Prop}{tl th:TO}(h:te σ H λx H1=>tl σ H1 λl H2=>th σ H2 λu H3=>f x l u H3 Q):tSl f te tl th σ H Q:=h
theorem Zsl{K:aC}{T:String}{f:V->List V->Hp->VK->Prop}{to:TE}{t:TA}(h:to σ H λx H1=>tyV K T x H1/\t σ H1 λxs H2=>f x xs H2 Q):tBM K T f to t σ H Q:=h
theorem Zql{wi:TI}{g:TG}{tb:TS}(h:wi σ H λJ H1=>∃W:Nat->Nat->St->Hp->Prop,(∃m,W 0 m σ H1)/\∀i m σ H,W i m σ H->
 (J.stop i H/\n σ H)\/(J.go i H/\∃N:St->Hp->Prop,(∀ σ' H',N σ' H'->∃m',m'<m/\W (i+1) m' σ' H')/\∀x H',J.ZD i H x H'->g x σ H' λσ2 H2=>tb ⟨N,r,n,N⟩ σ2 H2)):sr wi g tb ⟨n,r,b,c⟩ σ H:=h
theorem Zsc{K:aC}{R:It->Hp->Prop}(h:te σ H λx H1=>∃a,x=.ref a/\(∃xs,cR K H1 a xs)/\R (Itl K a) H1):pK K te σ H R:=h
theorem Zsb{ta:TA}{R:It->Hp->Prop}(h:ta σ H λvs H1=>∃j:Int,vs=[.int j]/\-(2 ^ 62)<=j/\j<2 ^ 62/\R (Itr 0 j.toNat) H1):qY ta σ H R:=h
end
theorem Zs6{v:V}{l:St}{H:Hp}{Q:VK}(h:Q v H):aj 0 (some v::l) H Q:=⟨v,rfl,h⟩
theorem Zs5{x0:Option V}{v:V}{l:St}{H:Hp}{Q:VK}(h:Q v H):aj 1 (x0::some v::l) H Q:=⟨v,rfl,h⟩
theorem Zsk{x0:Option V}{y:Option V}{v:V}{l:St}{H:Hp}{Q:St->Hp->Prop}(h:Q (x0::some v::l) H):aP 1 v (x0::y::l) H Q:=h
theorem Zs4{x0 x1:Option V}{v:V}{l:St}{H:Hp}{Q:VK}(h:Q v H):aj 2 (x0::x1::some v::l) H Q:=⟨v,rfl,h⟩
theorem Zqk{x0 x1:Option V}{y:Option V}{v:V}{l:St}{H:Hp}{Q:St->Hp->Prop}(h:Q (x0::x1::some v::l) H):aP 2 v (x0::x1::y::l) H Q:=h
theorem Zs3{x0 x1 x2:Option V}{v:V}{l:St}{H:Hp}{Q:VK}(h:Q v H):aj 3 (x0::x1::x2::some v::l) H Q:=⟨v,rfl,h⟩
theorem Zsj{x0 x1 x2:Option V}{y:Option V}{v:V}{l:St}{H:Hp}{Q:St->Hp->Prop}(h:Q (x0::x1::x2::some v::l) H):aP 3 v (x0::x1::x2::y::l) H Q:=h
theorem Zs2{x0 x1 x2 x3:Option V}{v:V}{l:St}{H:Hp}{Q:VK}(h:Q v H):aj 4 (x0::x1::x2::x3::some v::l) H Q:=⟨v,rfl,h⟩
theorem Zsi{x0 x1 x2 x3:Option V}{y:Option V}{v:V}{l:St}{H:Hp}{Q:St->Hp->Prop}(h:Q (x0::x1::x2::x3::some v::l) H):aP 4 v (x0::x1::x2::x3::y::l) H Q:=h
theorem Zs1{x0 x1 x2 x3 x4:Option V}{v:V}{l:St}{H:Hp}{Q:VK}(h:Q v H):aj 5 (x0::x1::x2::x3::x4::some v::l) H Q:=⟨v,rfl,h⟩
theorem Zsh{x0 x1 x2 x3 x4:Option V}{y:Option V}{v:V}{l:St}{H:Hp}{Q:St->Hp->Prop}(h:Q (x0::x1::x2::x3::x4::some v::l) H):aP 5 v (x0::x1::x2::x3::x4::y::l) H Q:=h
theorem Zs0{x0 x1 x2 x3 x4 x5:Option V}{v:V}{l:St}{H:Hp}{Q:VK}(h:Q v H):aj 6 (x0::x1::x2::x3::x4::x5::some v::l) H Q:=⟨v,rfl,h⟩
theorem Zsg{x0 x1 x2 x3 x4 x5:Option V}{y:Option V}{v:V}{l:St}{H:Hp}{Q:St->Hp->Prop}(h:Q (x0::x1::x2::x3::x4::x5::some v::l) H):aP 6 v (x0::x1::x2::x3::x4::x5::y::l) H Q:=h
theorem Zrz{x0 x1 x2 x3 x4 x5 x6:Option V}{v:V}{l:St}{H:Hp}{Q:VK}(h:Q v H):aj 7 (x0::x1::x2::x3::x4::x5::x6::some v::l) H Q:=⟨v,rfl,h⟩
theorem Zsf{x0 x1 x2 x3 x4 x5 x6:Option V}{y:Option V}{v:V}{l:St}{H:Hp}{Q:St->Hp->Prop}(h:Q (x0::x1::x2::x3::x4::x5::x6::some v::l) H):aP 7 v (x0::x1::x2::x3::x4::x5::x6::y::l) H Q:=h
theorem Zry{x0 x1 x2 x3 x4 x5 x6 x7:Option V}{v:V}{l:St}{H:Hp}{Q:VK}(h:Q v H):aj 8 (x0::x1::x2::x3::x4::x5::x6::x7::some v::l) H Q:=⟨v,rfl,h⟩
theorem Zo7{x0 x1 x2 x3 x4 x5 x6 x7:Option V}{y:Option V}{v:V}{l:St}{H:Hp}{Q:St->Hp->Prop}(h:Q (x0::x1::x2::x3::x4::x5::x6::x7::some v::l) H):aP 8 v (x0::x1::x2::x3::x4::x5::x6::x7::y::l) H Q:=h
theorem Zrx{x0 x1 x2 x3 x4 x5 x6 x7 x8:Option V}{v:V}{l:St}{H:Hp}{Q:VK}(h:Q v H):aj 9 (x0::x1::x2::x3::x4::x5::x6::x7::x8::some v::l) H Q:=⟨v,rfl,h⟩
theorem Zse{x0 x1 x2 x3 x4 x5 x6 x7 x8:Option V}{y:Option V}{v:V}{l:St}{H:Hp}{Q:St->Hp->Prop}(h:Q (x0::x1::x2::x3::x4::x5::x6::x7::x8::some v::l) H):aP 9 v (x0::x1::x2::x3::x4::x5::x6::x7::x8::y::l) H Q:=h
end G
namespace G
open PySem L2
theorem aL{H:Hp}{p:Addr}(h:H p=none)(o:HO):bC H (upd H p o):=λb u q=>by rw[aA (aB q h)];exact q
theorem nwO{H H1:Hp}{a:Addr}{o:HO}(n:H a=none)(h:upd H a o=H1):bC H H1/\H1 a=some o:=by
 subst h;exact⟨aL n o,ao⟩
def tyN(H:Hp):V->Option String
 | .non=>some "NoneType"
 | .bl _=>some "bool"
 | .int _=>some "int"
 | .str _=>some "str"
 | .ref a=>match H a with
  | some (.lst _)=>some "list"
  | some (.uC _ (.lst _))=>some "list"
  | some (.tup _)=>some "tuple"
  | some (.dK _)=>some "dict"
  | some (.dT _)=>some "dict"
  | _=>none
 | _=>none
def uB(t n:String):Option Bool:=if ["int","bool","str","list","tuple","dict"].contains n then some (t == n || (t == "bool" && n == "int"))else none
def uD:List V->Hp->VK->Prop:=λxs H Q=>∃x n t k,xs=[x,.ty n]/\tyN H x=some t/\uB t n=some k/\Q (.bl k) H
theorem Ke:uB "int" "int"=some true:=by decide +kernel
theorem Gs:uB "int" "bool"=some false:=by decide +kernel
theorem YW:uB "int" "str"=some false:=by decide +kernel
theorem VR:uB "int" "list"=some false:=by decide +kernel
theorem Ra:uB "int" "tuple"=some false:=by decide +kernel
theorem VV:uB "int" "dict"=some false:=by decide +kernel
theorem V3:uB "bool" "int"=some true:=by decide +kernel
theorem Rj:uB "bool" "bool"=some true:=by decide +kernel
theorem V2:uB "bool" "str"=some false:=by decide +kernel
theorem Rh:uB "bool" "list"=some false:=by decide +kernel
theorem Ow:uB "bool" "tuple"=some false:=by decide +kernel
theorem Ri:uB "bool" "dict"=some false:=by decide +kernel
theorem Kd:uB "str" "int"=some false:=by decide +kernel
theorem VP:uB "str" "bool"=some false:=by decide +kernel
theorem Kc:uB "str" "str"=some true:=by decide +kernel
theorem VM:uB "str" "list"=some false:=by decide +kernel
theorem Q7:uB "str" "tuple"=some false:=by decide +kernel
theorem VN:uB "str" "dict"=some false:=by decide +kernel
theorem Jv:uB "NoneType" "int"=some false:=by decide +kernel
theorem Gw:uB "NoneType" "bool"=some false:=by decide +kernel
theorem Ju:uB "NoneType" "str"=some false:=by decide +kernel
theorem Gu:uB "NoneType" "list"=some false:=by decide +kernel
theorem DQ:uB "NoneType" "tuple"=some false:=by decide +kernel
theorem Gv:uB "NoneType" "dict"=some false:=by decide +kernel
theorem Gr:uB "list" "int"=some false:=by decide +kernel
theorem Q9:uB "list" "bool"=some false:=by decide +kernel
theorem Gq:uB "list" "str"=some false:=by decide +kernel
theorem CV:uB "list" "list"=some true:=by decide +kernel
theorem Ar:uB "list" "tuple"=some false:=by decide +kernel
theorem Q8:uB "list" "dict"=some false:=by decide +kernel
theorem CT:uB "tuple" "int"=some false:=by decide +kernel
theorem Ou:uB "tuple" "bool"=some false:=by decide +kernel
theorem CQ:uB "tuple" "str"=some false:=by decide +kernel
theorem Aq:uB "tuple" "list"=some false:=by decide +kernel
theorem yU:uB "tuple" "tuple"=some true:=by decide +kernel
theorem Ot:uB "tuple" "dict"=some false:=by decide +kernel
theorem V1:uB "dict" "int"=some false:=by decide +kernel
theorem Rg:uB "dict" "bool"=some false:=by decide +kernel
theorem V0:uB "dict" "str"=some false:=by decide +kernel
theorem Rb:uB "dict" "list"=some false:=by decide +kernel
theorem Ov:uB "dict" "tuple"=some false:=by decide +kernel
theorem Rc:uB "dict" "dict"=some true:=by decide +kernel
theorem Zbh{i:Int}{H:Hp}{Q:VK}(h:Q (.bl true) H):uD [.int i,.ty "int"] H Q:=⟨_,_,_,_,rfl,rfl,Ke,h⟩
theorem Y0{i:Int}{H:Hp}{Q:VK}(h:Q (.bl false) H):uD [.int i,.ty "bool"] H Q:=⟨_,_,_,_,rfl,rfl,Gs,h⟩
theorem Zbe{i:Str}{H:Hp}{Q:VK}(h:Q (.bl false) H):uD [.str i,.ty "int"] H Q:=⟨_,_,_,_,rfl,rfl,Kd,h⟩
theorem Zbd{i:Str}{H:Hp}{Q:VK}(h:Q (.bl true) H):uD [.str i,.ty "str"] H Q:=⟨_,_,_,_,rfl,rfl,Kc,h⟩
theorem Zbg{a:Addr}{H:Hp}{Q:VK}{xs:List V}(hp:H a=some (.lst xs))(h:Q (.bl false) H):uD [.ref a,.ty "int"] H Q:=⟨_,_,_,_,rfl,(by show(match H a with | some (.lst _)=>some "list" | some (.uC _ (.lst _))=>some "list" | some (.tup _)=>some "tuple" | some (.dK _)=>some "dict" | some (.dT _)=>some "dict" | _=>none)=some "list";rw[hp]),Gr,h⟩
theorem Zbc{a:Addr}{H:Hp}{Q:VK}{xs:List V}(hp:H a=some (.tup xs))(h:Q (.bl false) H):uD [.ref a,.ty "int"] H Q:=⟨_,_,_,_,rfl,(by show(match H a with | some (.lst _)=>some "list" | some (.uC _ (.lst _))=>some "list" | some (.tup _)=>some "tuple" | some (.dK _)=>some "dict" | some (.dT _)=>some "dict" | _=>none)=some "tuple";rw[hp]),CT,h⟩
theorem Zbf{a:Addr}{H:Hp}{Q:VK}{xs:List V}(hp:H a=some (.lst xs))(h:Q (.bl false) H):uD [.ref a,.ty "str"] H Q:=⟨_,_,_,_,rfl,(by show(match H a with | some (.lst _)=>some "list" | some (.uC _ (.lst _))=>some "list" | some (.tup _)=>some "tuple" | some (.dK _)=>some "dict" | some (.dT _)=>some "dict" | _=>none)=some "list";rw[hp]),Gq,h⟩
theorem Zbb{a:Addr}{H:Hp}{Q:VK}{xs:List V}(hp:H a=some (.tup xs))(h:Q (.bl false) H):uD [.ref a,.ty "str"] H Q:=⟨_,_,_,_,rfl,(by show(match H a with | some (.lst _)=>some "list" | some (.uC _ (.lst _))=>some "list" | some (.tup _)=>some "tuple" | some (.dK _)=>some "dict" | some (.dT _)=>some "dict" | _=>none)=some "tuple";rw[hp]),CQ,h⟩
theorem Kh{a:Addr}{H:Hp}{Q:VK}{xs:List V}(hp:H a=some (.lst xs))(h:Q (.bl true) H):uD [.ref a,.ty "list"] H Q:=⟨_,_,_,_,rfl,(by show(match H a with | some (.lst _)=>some "list" | some (.uC _ (.lst _))=>some "list" | some (.tup _)=>some "tuple" | some (.dK _)=>some "dict" | some (.dT _)=>some "dict" | _=>none)=some "list";rw[hp]),CV,h⟩
theorem YZ{a:Addr}{H:Hp}{Q:VK}{xs:List V}(hp:H a=some (.tup xs))(h:Q (.bl false) H):uD [.ref a,.ty "list"] H Q:=⟨_,_,_,_,rfl,(by show(match H a with | some (.lst _)=>some "list" | some (.uC _ (.lst _))=>some "list" | some (.tup _)=>some "tuple" | some (.dK _)=>some "dict" | some (.dT _)=>some "dict" | _=>none)=some "tuple";rw[hp]),Aq,h⟩
theorem V4{a:Addr}{H:Hp}{Q:VK}{xs:List V}(hp:H a=some (.lst xs))(h:Q (.bl false) H):uD [.ref a,.ty "tuple"] H Q:=⟨_,_,_,_,rfl,(by show(match H a with | some (.lst _)=>some "list" | some (.uC _ (.lst _))=>some "list" | some (.tup _)=>some "tuple" | some (.dK _)=>some "dict" | some (.dT _)=>some "dict" | _=>none)=some "list";rw[hp]),Ar,h⟩
theorem Gx{a:Addr}{H:Hp}{Q:VK}{xs:List V}(hp:H a=some (.tup xs))(h:Q (.bl true) H):uD [.ref a,.ty "tuple"] H Q:=⟨_,_,_,_,rfl,(by show(match H a with | some (.lst _)=>some "list" | some (.uC _ (.lst _))=>some "list" | some (.tup _)=>some "tuple" | some (.dK _)=>some "dict" | some (.dT _)=>some "dict" | _=>none)=some "tuple";rw[hp]),yU,h⟩
def jV(K:aC):List V->Hp->VK->Prop:=λxs H Q=>∃p ys,xs=[.ref p]/\(cR K H p ys\/qZ K H p ys)/\Q (.int ys.length) H
theorem iI{K:aC}{a:Addr}{H:Hp}{Q:VK}{xs:List V}(hp:cR K H a xs)(h:Q (.int xs.length) H):jV K [.ref a] H Q:=⟨a,xs,rfl,.inl hp,h⟩
theorem dz{K:aC}{a:Addr}{H:Hp}{Q:VK}{xs:List V}{i:Int}{v:V}(hp:cR K H a xs)(hi:atI xs i=some v)(h:Q v H):fJ K (.ref a) (.int i) H Q:=⟨a,xs,i,v,rfl,rfl,hp,hi,h⟩
section
variable {K:aC}{a:Addr}{xs:List V}{g:TG}{tb:TS}{σ:St}{H:Hp}{n:St->Hp->Prop}{r:VK}
theorem forL(xs:List V)(Pv:Nat->St->Hp->Prop)(h0:Pv 0 σ H)(hl:∀i σ H,i<=xs.length->Pv i σ H->cR K H a xs)
  (hs:∀i x σ H,xs[i]? =some x->Pv i σ H->g x σ H λσ2 H2=>tb ⟨Pv (i+1),r,n,Pv (i+1)⟩ σ2 H2) (hd:∀ σ H,Pv xs.length σ H->n σ H):
  ∃W:Nat->Nat->St->Hp->Prop,(∃m,W 0 m σ H)/\∀i m σ H,W i m σ H->
   ((Itl K a).stop i H/\n σ H)\/((Itl K a).go i H/\∃N:St->Hp->Prop,(∀ σ' H',N σ' H'->∃m',m'<m/\W (i+1) m' σ' H')/\∀x H',(Itl K a).ZD i H x H'->g x σ H' λσ2 H2=>tb ⟨N,r,n,N⟩ σ2 H2):=
 Zhu (D:=⟨n,r,λ_ _=>False,λ_ _=>False⟩) Pv h0 hl hs hd
theorem forR{lo:Int}{k:Nat}(Pv:Nat->St->Hp->Prop)(h0:Pv 0 σ H)
  (hs:∀i σ H,i<k->Pv i σ H->g (.int (lo+i)) σ H λσ2 H2=>tb ⟨Pv (i+1),r,n,Pv (i+1)⟩ σ2 H2) (hd:∀ σ H,Pv k σ H->n σ H):
  ∃W:Nat->Nat->St->Hp->Prop,(∃m,W 0 m σ H)/\∀i m σ H,W i m σ H->
   ((Itr lo k).stop i H/\n σ H)\/((Itr lo k).go i H/\∃N:St->Hp->Prop,(∀ σ' H',N σ' H'->∃m',m'<m/\W (i+1) m' σ' H')/\∀x H',(Itr lo k).ZD i H x H'->g x σ H' λσ2 H2=>tb ⟨N,r,n,N⟩ σ2 H2):=
 Zeg (D:=⟨n,r,λ_ _=>False,λ_ _=>False⟩) Pv h0 hs hd
end
theorem dU{n:Nat}(h:n<=1000000):n<=sizeLine:=Nat.le_trans h (by decide)
end G
namespace G
open PySem L2
def Sv:R2:=λx y H Q=>∃i j,x=.str i/\y=.str j/\i.length+j.length<=sizeLine/\Q (.str (i++j)) H
theorem OJ{i j:Str}{H:Hp}{Q:VK}(hz:i.length+j.length<=sizeLine)(h:Q (.str (i++j)) H):Sv (.str i) (.str j) H Q:=⟨i,j,rfl,rfl,hz,h⟩
theorem Zqh{z:Str}{i:Int}{c:Nat}{H:Hp}{Q:VK}(hz:z.length<=sizeLine)(hi:atI z.cps.toList i=some c)(h:Q (.str ⟨#[c]⟩) H):Zj7 (.str z) (.int i) H Q:=⟨z,i,c,rfl,rfl,hz,hi,h⟩
def Wn(z:Str)(lo hi:Option Int):Str:=⟨((z.cps.toList.drop (HT.m7 z.length 0 lo)).take (HT.m7 z.length z.length hi - HT.m7 z.length 0 lo)).toArray⟩
theorem Zg(z:Str)(lo hi:Option Int):(Wn z lo hi).length<=z.length:=by
 show(List.toArray _).size<=z.cps.size;rw[List.size_toArray,List.length_take,List.length_drop,Array.length_toList];omega
def Zfj:V->Option Int->Option Int->Hp->VK->Prop:=λx lo hi H Q=>∃z,x=.str z/\z.length<=sizeLine/\Q (.str (Wn z lo hi)) H
theorem Zm3{z:Str}{lo hi:Option Int}{H:Hp}{Q:VK}(hz:z.length<=sizeLine)(h:Q (.str (Wn z lo hi)) H):Zfj (.str z) lo hi H Q:=⟨z,rfl,hz,h⟩
theorem str_len(z:Str):z.cps.toList.length=z.length:=Array.length_toList
def pick(σ:St)(j:Nat):Option V:=match σ[j]? with
 | some v=>v
 | none=>none
def ZR(wi:TI)(caps:List Nat)(tc:TT)(te:TE):TE:=λσ H Q=>wi σ H λJ H1=>∃W:Nat->Nat->List V->Hp->Prop,(∃m,W 0 m [] H1)/\∀i m ys H,W i m ys H->
 (J.stop i H/\∀p,H p=none->Q (.ref p) (upd H p (.lst ys)))\/
 (J.go i H/\ys.length<sizeLine/\∀x H',J.ZD i H x H'->tc (some x::caps.map (pick σ)) H' λk H2=>if k=true then te (some x::caps.map (pick σ)) H2 (λy H3=>∃m',m'<m/\W (i+1) m' (ys++[y]) H3)else ∃m',m'<m/\W (i+1) m' ys H2)
def tK:TT:=λ_ H Q=>Q true H
theorem Jy{σ:St}{H:Hp}{Q:Bool->Hp->Prop}(h:Q true H):tK σ H Q:=h
end G
namespace G
open PySem L2
def Zdj(z:Str)(n:Int):Str:=⟨(List.replicate n.toNat z.cps.toList).flatten.toArray⟩
def Zfk:R2:=λx y H Q=>∃z k,x=.str z/\y=.int k/\0<=k/\k<=1000/\z.length<=1000/\∀t:Str,t.length<=1000000->t=Zdj z k->Q (.str t) H
theorem Znt{z:Str}{k:Int}{H:Hp}{Q:VK}(h0:0<=k)(h1:k<=1000)(h2:z.length<=1000)(h:∀t:Str,t.length<=1000000->t=Zdj z k->Q (.str t) H):Zfk (.str z) (.int k) H Q:=⟨z,k,rfl,rfl,h0,h1,h2,h⟩
end G
namespace G
open PySem L2
structure EqD(K:aC)(C:Addr):Prop where
 eq:W.findIn K (.ref C) "__eq__"=some (some (.builtin "object.__eq__"))
 ob:W.mroIn K C (.type "object")=some true
end G
namespace G
open PySem L2
def ZP(C:Addr)(E:XK)(ta:TA):TS:=λ_ σ H=>ta σ H λvs H1=>vs.length<=100/\E (.ref C) none H1
section
variable {σ:St}{H:Hp}{Q:VK}{n:St->Hp->Prop}{r:VK}{b c:St->Hp->Prop}{te:TE}{t:TA}
theorem Zko{C:Addr}{E:XK}(h:t σ H λvs H1=>vs.length<=100/\E (.ref C) none H1):ZP C E t ⟨n,r,b,c⟩ σ H:=h
end
theorem Zo6{to ti:TE}{ts:Zlo}{x:V}{σ:St}{H:Hp}{Q:St->Hp->Prop}(h:to σ H λo H1=>ti σ H1 λi H2=>ts o i x H2 λH3=>Q σ H3):Gz to ti ts x σ H Q:=h
def Wr(K:aC):List V->Hp->VK->Prop:=λxs H Q=>∃(p:Addr) (ys:List V),xs=[.ref p]/\cR K H p ys/\∀l,H l=none->Q (.ref l) (upd H l (.lst ys))
theorem Zcu{K:aC}{H:Hp}{Q:VK}{p:Addr}{ys:List V}(h1:cR K H p ys)(h:∀l,H l=none->Q (.ref l) (upd H l (.lst ys))):Wr K [.ref p] H Q:=⟨p,ys,rfl,h1,h⟩
def OkN(K:aC)(H:Hp)(xs:List V):Prop:=∀y∈xs,y=.non\/∃a C dx fs,y=.ref a/\H a=some (.ins C dx fs)/\De K C/\EqD K C
def Zmu(K:aC)(neg:Bool):R2:=λx y H Q=>∃p xs,x=.non/\y=.ref p/\cR K H p xs/\OkN K H xs/\Q (.bl (if neg then !decide (V.non∈xs)else decide (V.non∈xs))) H
theorem Zhc{K:aC}{H:Hp}{Q:VK}{p:Addr}{xs:List V}(h1:cR K H p xs)(h2:OkN K H xs)(h:Q (.bl (!decide (V.non∈xs))) H):Zmu K true .non (.ref p) H Q:=⟨p,xs,rfl,rfl,h1,h2,h⟩
def Zcg(K:aC):V->List V->Hp->VK->Prop:=λx vs H Q=>∃p xs,x=.ref p/\vs=[.non]/\cR K H p xs/\OkN K H xs/\V.non∈xs/\Q (.int (xs.idxOf V.non)) H
theorem JB(ns:List Int):(ns.map V.int).all uh=true:=by
 rw[List.all_eq_true];intro x hx;obtain⟨i,_,rfl⟩:=List.mem_map.mp hx;rfl
def Fm(S:List Addr)(H H':Hp):Prop:=∀b o,H b=some o->b∉S->H' b=some o
theorem Fm.same{H H':Hp}(a:Fm [] H H'):bC H H':=λc o h=>a c o h (λz=>nomatch z)
theorem Zba{x:V}{H:Hp}{Q:VK}(h:Q (.bl (!decide (x=.non))) H):pW x .non H Q:=⟨rfl,h⟩
def LCg(J:It)(caps:List Nat)(tc:TT)(te:TE)(σ:St)(H:Hp)(Q:VK):Prop:=∃W:Nat->Nat->List V->Hp->Prop,(∃m,W 0 m [] H)/\∀i m ys H,W i m ys H->
 (J.stop i H/\∀p,H p=none->Q (.ref p) (upd H p (.lst ys)))\/
 (J.go i H/\ys.length<sizeLine/\∀x H',J.ZD i H x H'->tc (some x::caps.map (pick σ)) H' λk H2=>if k=true then te (some x::caps.map (pick σ)) H2 (λy H3=>∃m',m'<m/\W (i+1) m' (ys++[y]) H3)else ∃m',m'<m/\W (i+1) m' ys H2)
theorem Av{wi:TI}{caps:List Nat}{tc:TT}{te:TE}{σ:St}{H:Hp}{Q:VK}(h:wi σ H λJ H1=>LCg J caps tc te σ H1 Q):ZR wi caps tc te σ H Q:=h
theorem Zh3{J:It}{caps:List Nat}{tc:TT}{te:TE}{σ:St}{H:Hp}{Q:VK}(k:Nat)(hz:k<=1000000)(g:Nat->Option V)
  (hstop:J.stop k H) (hgo:∀i,i<k->J.go i H) (hy:∀i x H',i<k->J.ZD i H x H'->H'=H/\(∀q:Bool->Hp->Prop,q (g i).isSome H->tc (some x::caps.map (pick σ)) H q)/\∀(y:V) (q:VK),g i=some y->q y H->te (some x::caps.map (pick σ)) H q)
  (q:∀p,H p=none->Q (.ref p) (upd H p (.lst ((List.range k).filterMap g)))):
  LCg J caps tc te σ H Q:=by
 refine⟨λi m ys H'=>H'=H/\i<=k/\m=k - i/\ys=(List.range i).filterMap g,⟨k,rfl,Nat.zero_le _,rfl,rfl⟩,?_⟩;rintro i m ys _ ⟨rfl,hi,rfl,rfl⟩
 by_cases hk:i=k
 ·subst hk;exact .inl ⟨hstop,q⟩
 ·have hlt:i<k:=by omega
  refine .inr ⟨hgo i hlt,?_,λx H' y=>?_⟩
  ·refine Nat.lt_of_le_of_lt (Nat.le_trans (List.length_filterMap_le _ _) ?_) (show 1000000<sizeLine by decide);rw[List.length_range];omega
  ·obtain⟨rfl,h1,h2⟩:=hy i x H' hlt y;refine h1 _ ?_;have er:List.filterMap g (List.range (i+1))=List.filterMap g (List.range i)++(match g i with | some y=>[y] | none=>[]):=by
    rw[List.range_succ,List.filterMap_append];cases e:g i with
    | none=>rw[List.filterMap_cons_none e];rfl
    | some y=>rw[List.filterMap_cons_some e];rfl
   cases e:g i with
   | none=>
    rw[e]at er;dsimp only[Option.isSome];refine Zkn ⟨k - (i+1),by omega,rfl,by omega,rfl,?_⟩;rw[er,List.append_nil]
   | some y=>
    rw[e]at er;dsimp only[Option.isSome];refine Zb8 (h2 y _ e ⟨k - (i+1),by omega,rfl,by omega,rfl,?_⟩);rw[er]
theorem V9(l:List Nat)(p:Nat->Bool)(f:Nat->V):l.filterMap (λi=>if p i=true then some (f i)else none)=(l.filter p).map f:=by
 induction l with
 | nil=>rfl
 | cons a l ih=>
  by_cases h:p a=true
  ·rw[List.filterMap_cons_some (by rw[if_pos h]),List.filter_cons_of_pos h,List.map_cons,ih]
  ·rw[List.filterMap_cons_none (by rw[if_neg h]),List.filter_cons_of_neg h,ih]
theorem Yw{caps:List Nat}{tc:TT}{te:TE}{σ:St}{H:Hp}{Q:VK}{n:Nat}{z:Int}(ez:z.toNat=n)(p:Nat->Bool)(f:Nat->V)(hz:n<=1000000)
  (htc:∀i,i<n->∀q:Bool->Hp->Prop,q (p i) H->tc (some (.int i)::caps.map (pick σ)) H q)
  (hte:∀i,i<n->p i=true->∀q:VK,q (f i) H->te (some (.int i)::caps.map (pick σ)) H q)
  (q:∀l,H l=none->Q (.ref l) (upd H l (.lst (((List.range n).filter p).map f)))):
  LCg (Itr 0 z.toNat) caps tc te σ H Q:=by
 subst ez;refine Zh3 z.toNat hz (λi=>if p i=true then some (f i)else none) (Nat.le_refl _) (λi hi=>hi) (λi x H' hi y=>?_) ?_
 ·obtain⟨e1,e2⟩:=y;have ex:x=.int i:=by rw[e2];simp
  refine⟨e1,λq hq=>?_,λy q hy hq=>?_⟩
  ·rw[ex];refine htc i hi q ?_;cases e:p i with
   | true=>rw[e]at hq;exact hq
   | false=>rw[e]at hq;exact hq
  ·rw[ex];cases e:p i with
   | true=>
    rw[e]at hy;have ey:f i=y:=by simpa using hy
    exact hte i hi e q (by rw[ey];exact hq)
   | false=>rw[e]at hy;simp at hy
 ·rw[V9];exact q
theorem Gk{K:aC}{a:Addr}{xs:List V}{caps:List Nat}{tc:TT}{te:TE}{σ:St}{H:Hp}{Q:VK}(hs:cR K H a xs)(g:Nat->Option V)(hz:xs.length<=1000000)
  (hy:∀i x,xs[i]? =some x->(∀q:Bool->Hp->Prop,q (g i).isSome H->tc (some x::caps.map (pick σ)) H q)/\∀(y:V) (q:VK),g i=some y->q y H->te (some x::caps.map (pick σ)) H q)
  (q:∀p,H p=none->Q (.ref p) (upd H p (.lst ((List.range xs.length).filterMap g)))):
  LCg (Itl K a) caps tc te σ H Q:=by
 refine Zh3 xs.length hz g ⟨xs,hs,Nat.le_refl _⟩ (λi hi=>⟨xs,xs[i],hs,cJ hi⟩) (λi x H' hi y=>?_) q;obtain⟨e1,e2⟩:=y;exact⟨e1,hy i x (e2 xs hs)⟩
theorem yF{n i:Nat}(h:i<n):ixN n (i:Int)=some i:=by
 unfold ixN;rw[if_pos (by omega),if_pos (by omega)];simp
theorem Zkm{n:Nat}{i:Int}(h0:0<=i)(h:i.toNat<n):ixN n i=some i.toNat:=by
 have e:i=((i.toNat:Nat):Int):=by omega
 have:=yF h;rw[<- e]at this;exact this
theorem fQ{α:Type}{xs:List α}{i:Int}{v:α}(h0:0<=i)(h:xs[i.toNat]? =some v):atI xs i=some v:=by
 have e:i=((i.toNat:Nat):Int):=by omega
 have:=dj h;rw[<- e]at this;exact this
end G
namespace G
open PySem L2
inductive Al{α β:Type}(P:α->β->Prop):List α->List β->Prop
 | nil:Al P [] []
 | cons {x:α}{y:β}{xs:List α}{ys:List β}:P x y->Al P xs ys->Al P (x::xs) (y::ys)
section
variable {α β:Type}{P P':α->β->Prop}{xs:List α}{ys:List β}
theorem Al.length(h:Al P xs ys):xs.length=ys.length:=by
 induction h with
 | nil=>rfl
 | cons _ _ ih=>rw[List.length_cons,List.length_cons,ih]
theorem Al.mono(h:Al P xs ys)(f:∀x y,P x y->P' x y):Al P' xs ys:=by
 induction h with
 | nil=>exact .nil
 | cons p _ ih=>exact .cons (f _ _ p) ih
theorem Al.get(h:Al P xs ys):∀{i:Nat}{y:β},ys[i]? =some y->∃x,xs[i]? =some x/\P x y:=by
 induction h with
 | nil=>intro i y e;simp at e
 | cons p _ ih=>
  intro i y e;cases i with
  | zero=>simp at e;subst e;exact⟨_,rfl,p⟩
  | succ i=>
   obtain⟨x,e1,e2⟩:=ih (i:=i) (y:=y) (by simpa using e);exact⟨x,by simpa using e1,e2⟩
end
end G
namespace G
open PySem L2
abbrev Tg:=Addr->Nat×Nat
def WT(H:Hp)(T:Tg):Prop:=∀b,H b=none->T b=(0,0)
structure fj(s:Nat)(H H':Hp)(T T':Tg):Prop where
 kp:∀b o,H b=some o->(T b).1≠s->H' b=some o
 al:∀b o,H b=some o->∃o',H' b=some o'
 tg:∀b o,H b=some o->T' b=T b
 wt:WT H' T'
def fG(T:Tg)(a:Addr)(v:Nat×Nat):Tg:=λx=>if x=a then v else T x
theorem eX{T:Tg}{a:Addr}{v:Nat×Nat}:fG T a v a=v:=by unfold fG;rw[if_pos rfl]
theorem iW{T:Tg}{a b:Addr}{v:Nat×Nat}(h:b≠a):fG T a v b=T b:=by unfold fG;rw[if_neg h]
theorem WT.same{H H':Hp}{T:Tg}(w:WT H T)(s:bC H H'):WT H' T:=λb h=>w b (s.free h)
theorem fj.refl{s:Nat}{H:Hp}{T:Tg}(w:WT H T):fj s H H T T:=⟨λ_ _ h _=>h,λ_ o h=>⟨o,h⟩,λ_ _ _=>rfl,w⟩
theorem fj.same{s:Nat}{H H':Hp}{T:Tg}(w:WT H T)(e:bC H H'):fj s H H' T T:=⟨λb o h _=>e b o h,λb o h=>⟨o,e b o h⟩,λ_ _ _=>rfl,w.same e⟩
theorem fj.trans{s:Nat}{H H1 H2:Hp}{T T1 T2:Tg}(a:fj s H H1 T T1)(b:fj s H1 H2 T1 T2):fj s H H2 T T2 where
 kp:=λx o h n=>b.kp x o (a.kp x o h n) (by rw[a.tg x o h];exact n)
 al:=λx o h=>by
  obtain⟨o1,h1⟩:=a.al x o h;exact b.al x o1 h1
 tg:=λx o h=>by
  obtain⟨o1,h1⟩:=a.al x o h;rw[b.tg x o1 h1,a.tg x o h]
 wt:=b.wt
theorem fj.upd{s:Nat}{H:Hp}{T:Tg}{a:Addr}{o o':HO}(w:WT H T)(ha:H a=some o)(ht:(T a).1=s):fj s H (L2.upd H a o') T T where
 kp:=λx u h n=>by
  have:x≠a:=λe=>n (by rw[e];exact ht);rw[aA this];exact h
 al:=λx u h=>by
  by_cases e:x=a
  ·exact⟨o',by rw[e,ao]⟩
  ·exact⟨u,by rw[aA e];exact h⟩
 tg:=λ_ _ _=>rfl
 wt:=λb h=>w b (by
  by_cases e:b=a
  ·rw[e,ao]at h;cases h
  ·rw[aA e]at h;exact h)
theorem uc{T:Tg}{a b:Addr}{x y:Nat×Nat}(ha:T a=x)(hb:T b=y)(h:x≠y):a≠b:=λe=>h (by rw[<- ha,<- hb,e])
end G
namespace G
open PySem L2
theorem Zh4{J:It}{caps:List Nat}{tc:TT}{te:TE}{σ:St}{H:Hp}{Q:VK}(k:Nat)(hz:k<=1000000)(R:Nat->V->Hp->Prop)(mono:∀i y H1 H2,R i y H1->bC H1 H2->R i y H2)
  (hstop:∀H',bC H H'->J.stop k H') (hgo:∀i H',i<k->bC H H'->J.go i H')
  (hy:∀i x H1 H',i<k->bC H H1->J.ZD i H1 x H'->H'=H1/\(∀q:Bool->Hp->Prop,q true H1->tc (some x::caps.map (pick σ)) H1 q)/\∀q:VK,(∀y H2,bC H1 H2->R i y H2->q y H2)->te (some x::caps.map (pick σ)) H1 q)
  (q:∀ys H',bC H H'->ys.length=k->(∀(i:Nat) y,ys[i]? =some y->R i y H')->∀p,H' p=none->Q (.ref p) (upd H' p (.lst ys))):
  LCg J caps tc te σ H Q:=by
 refine⟨λi m ys H'=>bC H H'/\i<=k/\m=k - i/\ys.length=i/\∀(j:Nat) y,ys[j]? =some y->R j y H',⟨k,bC.refl _,Nat.zero_le _,rfl,rfl,λj y e=>by simp at e⟩,?_⟩;rintro i m ys H1 ⟨s1,hi,rfl,hl,hr⟩
 by_cases hk:i=k
 ·subst hk;exact .inl ⟨hstop H1 s1,q ys H1 s1 hl hr⟩
 ·have hlt:i<k:=by omega
  refine .inr ⟨hgo i H1 hlt s1,Nat.lt_of_le_of_lt (show ys.length<=1000000 by omega) (show 1000000<sizeLine by decide),λx H' y=>?_⟩;obtain⟨rfl,h1,h2⟩:=hy i x H1 H' hlt s1 y;refine h1 _ (Zb8 (h2 _ λy H2 s2 r=>⟨k - (i+1),by omega,s1.trans s2,by omega,rfl,by rw[List.length_append,hl];rfl,λj z e=>?_⟩))
  by_cases hj:j<ys.length
  ·rw[List.getElem?_append_left hj]at e;exact mono j z _ _ (hr j z e) s2
  ·have hj':=(cV e).1;rw[List.length_append,List.length_singleton]at hj';have ej:j=ys.length:=by omega
   subst ej;rw[List.getElem?_append_right (Nat.le_refl _),Nat.sub_self]at e;cases e;rw[hl];exact r
theorem Zkc{caps:List Nat}{tc:TT}{te:TE}{σ:St}{H:Hp}{Q:VK}{n:Nat}{z:Int}(ez:z.toNat=n)(hz:n<=1000000)(R:Nat->V->Hp->Prop)(mono:∀i y H1 H2,R i y H1->bC H1 H2->R i y H2)
  (htc:∀i H1,∀q:Bool->Hp->Prop,q true H1->tc (some (.int i)::caps.map (pick σ)) H1 q)
  (hte:∀(i:Nat) H1,i<n->bC H H1->∀q:VK,(∀y H2,bC H1 H2->R i y H2->q y H2)->te (some (.int i)::caps.map (pick σ)) H1 q)
  (q:∀ys H',bC H H'->ys.length=n->(∀(i:Nat) y,ys[i]? =some y->R i y H')->∀p,H' p=none->Q (.ref p) (upd H' p (.lst ys))):LCg (Itr 0 z.toNat) caps tc te σ H Q:=by
 subst ez;refine Zh4 z.toNat hz R mono (λ_ _=>Nat.le_refl _) (λi _ hi _=>hi) (λi x H1 H' hi s1 y=>?_) q;obtain⟨e1,e2⟩:=y;have ex:x=.int i:=by rw[e2];simp
 subst ex;exact⟨e1,htc i H1,λq hq=>hte i H1 hi s1 q hq⟩
theorem Zkd{J:It}{caps:List Nat}{tc:TT}{te:TE}{σ:St}{H:Hp}{Q:VK}(k:Nat)(hz:k<=1000000)(R:Nat->Addr->Hp->Prop)(mono:∀i y H1 H2,R i y H1->bC H1 H2->R i y H2)(al:∀i y H1,R i y H1->∃o,H1 y=some o)
  (hstop:∀H',bC H H'->J.stop k H') (hgo:∀i H',i<k->bC H H'->J.go i H')
  (hy:∀i x H1 H',i<k->bC H H1->J.ZD i H1 x H'->H'=H1/\(∀q:Bool->Hp->Prop,q true H1->tc (some x::caps.map (pick σ)) H1 q)/\∀q:VK,(∀r H2,bC H1 H2->H1 r=none->R i r H2->q (.ref r) H2)->te (some x::caps.map (pick σ)) H1 q)
  (q:∀(rs:List Addr) H',bC H H'->rs.length=k->rs.Nodup->(∀r∈rs,H r=none)->(∀(i:Nat) r,rs[i]? =some r->R i r H')->∀p,H' p=none->Q (.ref p) (upd H' p (.lst (rs.map V.ref)))):
  LCg J caps tc te σ H Q:=by
 refine⟨λi m ys H'=>∃rs:List Addr,ys=rs.map V.ref/\bC H H'/\i<=k/\m=k - i/\rs.length=i/\rs.Nodup/\(∀r∈rs,H r=none)/\∀(j:Nat) r,rs[j]? =some r->R j r H',⟨k,[],rfl,bC.refl _,Nat.zero_le _,rfl,rfl,List.nodup_nil,λr hr=>(nomatch hr),λj y e=>by simp at e⟩,?_⟩;rintro i m _ H1 ⟨rs,rfl,s1,hi,rfl,hl,nd,nn,hr⟩
 by_cases hk:i=k
 ·subst hk;exact .inl ⟨hstop H1 s1,q rs H1 s1 hl nd nn hr⟩
 ·have hlt:i<k:=by omega
  refine .inr ⟨hgo i H1 hlt s1,Nat.lt_of_le_of_lt (show(rs.map V.ref).length<=1000000 by rw[aU];omega) (show 1000000<sizeLine by decide),λx H' y=>?_⟩;obtain⟨rfl,h1,h2⟩:=hy i x H1 H' hlt s1 y;refine h1 _ (Zb8 (h2 _ λr H2 s2 nr rr=>⟨k - (i+1),by omega,rs++[r],by rw[List.map_append];rfl,s1.trans s2,by omega,rfl,by rw[List.length_append,hl];rfl,?_,λz hz=>?_,λj z e=>?_⟩))
  ·rw[List.nodup_append];refine⟨nd,by simp,λa ha b hb e=>?_⟩;rw[List.mem_singleton.mp hb]at e;subst e;obtain⟨j,hj,ej⟩:=List.getElem_of_mem ha;obtain⟨o,ho⟩:=al j a _ (hr j a (by rw[cJ hj,ej]));rw[nr]at ho;cases ho
  ·rcases List.mem_append.mp hz with hz | hz
   ·exact nn z hz
   ·rw[List.mem_singleton.mp hz];exact s1.free nr
  ·by_cases hj:j<rs.length
   ·rw[List.getElem?_append_left hj]at e;exact mono j z _ _ (hr j z e) s2
   ·have hj':=(cV e).1;rw[List.length_append,List.length_singleton]at hj';have ej:j=rs.length:=by omega
    subst ej;rw[List.getElem?_append_right (Nat.le_refl _),Nat.sub_self]at e;cases e;rw[hl];exact rr
theorem Yx{K:aC}{a:Addr}{xs:List V}{caps:List Nat}{tc:TT}{te:TE}{σ:St}{H:Hp}{Q:VK}(hs:cR K H a xs)(hz:xs.length<=1000000)(R:Nat->Addr->Hp->Prop)(mono:∀i y H1 H2,R i y H1->bC H1 H2->R i y H2)(al:∀i y H1,R i y H1->∃o,H1 y=some o)
  (htc:∀x H1,∀q:Bool->Hp->Prop,q true H1->tc (some x::caps.map (pick σ)) H1 q)
  (hte:∀(i:Nat) x H1,xs[i]? =some x->bC H H1->∀q:VK,(∀r H2,bC H1 H2->H1 r=none->R i r H2->q (.ref r) H2)->te (some x::caps.map (pick σ)) H1 q)
  (q:∀(rs:List Addr) H',bC H H'->rs.length=xs.length->rs.Nodup->(∀r∈rs,H r=none)->(∀(i:Nat) r,rs[i]? =some r->R i r H')->∀p,H' p=none->Q (.ref p) (upd H' p (.lst (rs.map V.ref)))):LCg (Itl K a) caps tc te σ H Q:=by
 refine Zkd xs.length hz R mono al (λH' s=>⟨xs,s.seq hs,Nat.le_refl _⟩) (λi H' hi s=>⟨xs,xs[i],s.seq hs,cJ hi⟩) (λi x H1 H' hi s1 y=>?_) q;obtain⟨e1,e2⟩:=y;exact⟨e1,htc x H1,λq hq=>hte i x H1 (e2 xs (s1.seq hs)) s1 q hq⟩
end G
namespace G
open PySem L2 PySem.Spec PyProof.Rows
theorem boot_isinstance:bootBuiltins "isinstance"=some (.builtin "isinstance"):=by decide +kernel
theorem boot_len:bootBuiltins "len"=some (.builtin "len"):=by decide +kernel
theorem boot_int:bootBuiltins "int"=some (.type "int"):=by decide +kernel
theorem boot_str:bootBuiltins "str"=some (.type "str"):=by decide +kernel
theorem boot_bool:bootBuiltins "bool"=some (.type "bool"):=by decide +kernel
theorem boot_list:bootBuiltins "list"=some (.type "list"):=by decide +kernel
theorem boot_tuple:bootBuiltins "tuple"=some (.type "tuple"):=by decide +kernel
structure Zp9(K:aC)(x qual:Str)(st:Stmt)(f:Addr)(fd:FuncData):Prop where
 ex:∃(oc:Value) (od:Option Addr) (dV kV doc pm:Value) (an:Option Addr) (cdv ct:Value) (osl:Array (Option Value)),
  fd=W.fnOf x qual (lJ st) (jL st) (aH st) dV kV doc pm an cdv ct/\K.lookup f=some ⟨oc,od,.func fd,osl⟩/\W.codeIn K cdv qual=true
 kp:W.keepIn K (.ref f)=true
section
variable {P:Program}{w:World}{K:aC}{mg:Str->Option Value}{base:Heap}
theorem Zl8{x qual:Str}{st:Stmt}{f:Addr}{oc dV:Value}{od an:Option Addr}{osl:Array (Option Value)}{kV doc pm cdv ct:Value}(l:K.lookup f=some ⟨oc,od,.func (W.fnOf x qual (lJ st) (jL st) (aH st) dV kV doc pm an cdv ct),osl⟩)
  (c:W.codeIn K cdv qual=true) (k:W.keepIn K (.ref f)=true):Zp9 K x qual st f (W.fnOf x qual (lJ st) (jL st) (aH st) dV kV doc pm an cdv ct):=⟨⟨oc,od,dV,kV,doc,pm,an,cdv,ct,osl,rfl,l,c⟩,k⟩
theorem Zbx{f td:Addr}{oc tc:Value}{od to_:Option Addr}{osl ts:Array (Option Value)}{fd:FuncData}{items:Array Value}{tn:Nat}{ps:List Str}{ds:List Value}(_:K.lookup f=some ⟨oc,od,.func fd,osl⟩)(t:K.lookup td=some ⟨tc,to_,.seq items tn,ts⟩)
  (h:∀us:List Value,us.length+ds.length=ps.length->∃k,bindArgs fd ⟨us,[]⟩=seqItems? (.ref td) >>= k/\k (some items)=pure (ps.zip (us++ds))) (hd:fd.defaults=.ref td:=by rfl):Binds K fd ps ds:=by
 intro s us KX hl;obtain⟨k,h1,h2⟩:=h us (by rw[List.length_append]at hl;exact hl);exact BindsTo.of_defaults hd (KX _ _ t) rfl (by rw[h1,hd]) h2
end
section
variable {X:Cx}
theorem pC:Cq X (compareOp .Is) Dv:=Zmy
theorem kE:Cq X (compareOp .IsNot) pW:=Zjs
theorem cF:Kr X (.builtin "len") (jV X.K):=Wq
def kk(t n:String):Option Bool:=if (Value.type t == Value.type n)=true then some true else if W.kitMeta n=true then(fastBuiltinMro t).map (·.contains (.type n))else none
theorem Znh(K:aC)(t n:String):W.kitOne K (.type t) (.type n)=kk t n:=rfl
theorem Zb4:kk "int" "int"=some true:=by decide +kernel
theorem YJ:kk "int" "bool"=some false:=by decide +kernel
theorem Zb3:kk "int" "str"=some false:=by decide +kernel
theorem YG:kk "int" "list"=some false:=by decide +kernel
theorem Vz:kk "int" "tuple"=some false:=by decide +kernel
theorem YH:kk "int" "dict"=some false:=by decide +kernel
theorem YQ:kk "bool" "int"=some true:=by decide +kernel
theorem VJ:kk "bool" "bool"=some true:=by decide +kernel
theorem YM:kk "bool" "str"=some false:=by decide +kernel
theorem VG:kk "bool" "list"=some false:=by decide +kernel
theorem Q5:kk "bool" "tuple"=some false:=by decide +kernel
theorem VH:kk "bool" "dict"=some false:=by decide +kernel
theorem Zb2:kk "str" "int"=some false:=by decide +kernel
theorem YC:kk "str" "bool"=some false:=by decide +kernel
theorem Zb1:kk "str" "str"=some true:=by decide +kernel
theorem Yz:kk "str" "list"=some false:=by decide +kernel
theorem Vv:kk "str" "tuple"=some false:=by decide +kernel
theorem YB:kk "str" "dict"=some false:=by decide +kernel
theorem Lb:kk "NoneType" "int"=some false:=by decide +kernel
theorem Jq:kk "NoneType" "bool"=some false:=by decide +kernel
theorem La:kk "NoneType" "str"=some false:=by decide +kernel
theorem Jo:kk "NoneType" "list"=some false:=by decide +kernel
theorem Gm:kk "NoneType" "tuple"=some false:=by decide +kernel
theorem Jp:kk "NoneType" "dict"=some false:=by decide +kernel
theorem YF:kk "list" "int"=some false:=by decide +kernel
theorem Vy:kk "list" "bool"=some false:=by decide +kernel
theorem YD:kk "list" "str"=some false:=by decide +kernel
theorem Vw:kk "list" "list"=some true:=by decide +kernel
theorem Q3:kk "list" "tuple"=some false:=by decide +kernel
theorem Vx:kk "list" "dict"=some false:=by decide +kernel
theorem Vu:kk "tuple" "int"=some false:=by decide +kernel
theorem QZ:kk "tuple" "bool"=some false:=by decide +kernel
theorem Vt:kk "tuple" "str"=some false:=by decide +kernel
theorem QW:kk "tuple" "list"=some false:=by decide +kernel
theorem Om:kk "tuple" "tuple"=some true:=by decide +kernel
theorem QX:kk "tuple" "dict"=some false:=by decide +kernel
theorem YL:kk "dict" "int"=some false:=by decide +kernel
theorem VF:kk "dict" "bool"=some false:=by decide +kernel
theorem YK:kk "dict" "str"=some false:=by decide +kernel
theorem VB:kk "dict" "list"=some false:=by decide +kernel
theorem Q4:kk "dict" "tuple"=some false:=by decide +kernel
theorem VD:kk "dict" "dict"=some true:=by decide +kernel
theorem Zmf{H:Hp}{x:V}{t:String}(e:tyN H x=some t):t="int"\/t="bool"\/t="str"\/t="NoneType"\/t="list"\/t="tuple"\/t="dict":=by
 unfold tyN at e;split at e<;>(first | (cases e;simp) | (split at e<;>(first | (cases e;simp) | cases e)) | cases e)
theorem Zno{t n:String}{k:Bool}(e:uB t n=some k):n="int"\/n="bool"\/n="str"\/n="list"\/n="tuple"\/n="dict":=by
 unfold uB at e
 by_cases h:(["int","bool","str","list","tuple","dict"].contains n)=true
 ·simpa using h
 ·rw[if_neg h]at e;cases e
theorem Zq3{H:Hp}{x:V}{t n:String}{k:Bool}(ht:tyN H x=some t)(e:uB t n=some k):kk t n=some k:=by
 rcases Zmf ht with rfl | rfl | rfl | rfl | rfl | rfl | rfl<;>rcases Zno e with rfl | rfl | rfl | rfl | rfl | rfl
 ·rw[Ke]at e;rw[Zb4];exact e
 ·rw[Gs]at e;rw[YJ];exact e
 ·rw[YW]at e;rw[Zb3];exact e
 ·rw[VR]at e;rw[YG];exact e
 ·rw[Ra]at e;rw[Vz];exact e
 ·rw[VV]at e;rw[YH];exact e
 ·rw[V3]at e;rw[YQ];exact e
 ·rw[Rj]at e;rw[VJ];exact e
 ·rw[V2]at e;rw[YM];exact e
 ·rw[Rh]at e;rw[VG];exact e
 ·rw[Ow]at e;rw[Q5];exact e
 ·rw[Ri]at e;rw[VH];exact e
 ·rw[Kd]at e;rw[Zb2];exact e
 ·rw[VP]at e;rw[YC];exact e
 ·rw[Kc]at e;rw[Zb1];exact e
 ·rw[VM]at e;rw[Yz];exact e
 ·rw[Q7]at e;rw[Vv];exact e
 ·rw[VN]at e;rw[YB];exact e
 ·rw[Jv]at e;rw[Lb];exact e
 ·rw[Gw]at e;rw[Jq];exact e
 ·rw[Ju]at e;rw[La];exact e
 ·rw[Gu]at e;rw[Jo];exact e
 ·rw[DQ]at e;rw[Gm];exact e
 ·rw[Gv]at e;rw[Jp];exact e
 ·rw[Gr]at e;rw[YF];exact e
 ·rw[Q9]at e;rw[Vy];exact e
 ·rw[Gq]at e;rw[YD];exact e
 ·rw[CV]at e;rw[Vw];exact e
 ·rw[Ar]at e;rw[Q3];exact e
 ·rw[Q8]at e;rw[Vx];exact e
 ·rw[CT]at e;rw[Vu];exact e
 ·rw[Ou]at e;rw[QZ];exact e
 ·rw[CQ]at e;rw[Vt];exact e
 ·rw[Aq]at e;rw[QW];exact e
 ·rw[yU]at e;rw[Om];exact e
 ·rw[Ot]at e;rw[QX];exact e
 ·rw[V1]at e;rw[YL];exact e
 ·rw[Rg]at e;rw[VF];exact e
 ·rw[V0]at e;rw[YK];exact e
 ·rw[Rb]at e;rw[VB];exact e
 ·rw[Ov]at e;rw[Q4];exact e
 ·rw[Rc]at e;rw[VD];exact e
theorem tyOf{K:aC}{H:Hp}{x:V}{t:String}(e:tyN H x=some t):JP K H x (.type t):=by
 cases x with
 | non=>cases e;exact .non
 | bl y=>cases e;exact .bl y
 | int y=>cases e;exact .int y
 | str y=>cases e;exact .str y
 | byt y=>cases e
 | flt y=>cases e
 | ty y=>cases e
 | ref a=>
  have e':(match H a with | some (.lst _)=>some "list" | some (.uC _ (.lst _))=>some "list" | some (.tup _)=>some "tuple" | some (.dK _)=>some "dict" | some (.dT _)=>some "dict" | _=>none)=some t:=e;split at e'
  ·rename_i h;cases e';exact .lst h
  ·rename_i h;cases e';exact .uC h
  ·rename_i h;cases e';exact .tup h
  ·rename_i h;cases e';exact .dK h
  ·rename_i h;cases e';exact .dT h
  ·cases e'
theorem gJ:Kr X (.builtin "isinstance") uD:=by
 intro pins s σ H xs us Q I r h;obtain⟨x,n,t,k,rfl,ht,hk,q⟩:=h;obtain⟨u,w',rfl,rx,rn⟩:=vals2 r;have rn':w'=Value.type n:=rn;subst rn';exact Ze3 (t:=.type t) (b:=k) I rx (tyOf ht) ((Znh _ _ _).trans (Zq3 ht hk)) λtk=>⟨.bl k,H,I.tok _,rfl,q⟩
end
end G
namespace G
open PySem L2 PySem.Spec PyProof.Rows
section
variable {X:Cx}
theorem GQ(n:Nat)(o:Option Int)(d:Nat)(v:Int)(h:o=some v):max (0:Int) (min (if v<0 then v+n else v) n)=((HT.m7 n d o:Nat):Int):=by
 subst h;show _=(((if v<0 then(v+(n:Int)).toNat else min v.toNat n:Nat)):Int);split<;>omega
theorem Sq(lo hi:Option Int)(n:Nat):Builtin.Str.strSliceIndices lo hi 1 n=Builtin.Str.strSliceIndices (some ((HT.m7 n 0 lo:Nat):Int)) (some ((HT.m7 n n hi:Nat):Int)) 1 n:=by
 have a1:=HT.Dq n 0 (Nat.zero_le _) lo;have a2:=HT.Dq n n (Nat.le_refl _) hi;have e1:max (0:Int) (min (if ((HT.m7 n 0 lo:Nat):Int)<0 then((HT.m7 n 0 lo:Nat):Int)+n else((HT.m7 n 0 lo:Nat):Int)) n)=((HT.m7 n 0 lo:Nat):Int):=by
  rw[if_neg (by omega)];omega
 have e2:max (0:Int) (min (if ((HT.m7 n n hi:Nat):Int)<0 then((HT.m7 n n hi:Nat):Int)+n else((HT.m7 n n hi:Nat):Int)) n)=((HT.m7 n n hi:Nat):Int):=by
  rw[if_neg (by omega)];omega
 simp only[Builtin.Str.strSliceIndices,show((1:Int) > 0)=True from by simp,if_true];rw[e1,e2];cases lo with
 | none=>
  cases hi with
  | none=>rfl
  | some j=>dsimp only;rw[GQ n (some j) n j rfl];rfl
 | some i=>
  cases hi with
  | none=>dsimp only;rw[GQ n (some i) 0 i rfl];rfl
  | some j=>dsimp only;rw[GQ n (some j) n j rfl,GQ n (some i) 0 i rfl]
theorem Zdf(z:Str)(lo hi:Option Int):(Builtin.Str.strSliceIndices lo hi 1 z.length).filterMap (z.cps[·]?)=(z.cps.toList.drop (HT.m7 z.length 0 lo)).take (HT.m7 z.length z.length hi - HT.m7 z.length 0 lo):=by
 rw[Sq]
 by_cases h:HT.m7 z.length 0 lo<=HT.m7 z.length z.length hi
 ·exact StrLaws.sliced_plain z h (HT.Dq _ _ (Nat.le_refl _) _)
 ·have e:HT.m7 z.length z.length hi - HT.m7 z.length 0 lo=0:=by omega
  rw[e,List.take_zero];have e2:Builtin.Str.strSliceIndices (some ((HT.m7 z.length 0 lo:Nat):Int)) (some ((HT.m7 z.length z.length hi:Nat):Int)) 1 z.length=[]:=by
   have a1:=HT.Dq z.length 0 (Nat.zero_le _) lo;have a2:=HT.Dq z.length z.length (Nat.le_refl _) hi;simp only[Builtin.Str.strSliceIndices,sliceRange,show((1:Int) > 0)=True from by simp,if_true];rw[if_neg (by omega:¬ ((HT.m7 z.length 0 lo:Nat):Int)<0),if_neg (by omega:¬ ((HT.m7 z.length z.length hi:Nat):Int)<0),if_neg (by omega)];rfl
  rw[e2];rfl
theorem part_of{v:Value}{o:Option Int}(p:IsPart v o):∃q:Option (Int×Tok),v=partValue q/\q.map (·.1)=o:=by
 cases p with
 | none=>exact⟨none,rfl,rfl⟩
 | int i t=>exact⟨some (i,t),rfl,rfl⟩
theorem Zf8:SlR X Zfj:=by
 intro pins s σ H x v vl vu lo hi sl Q I rx hs pl pu h;obtain⟨z,rfl,hz,q⟩:=h;obtain⟨t,rfl⟩:=rx;obtain⟨ql,rfl,el⟩:=part_of pl;obtain⟨qu,rfl,eu⟩:=part_of pu;refine⟨"str",_,F.slot_str_getitem.lookup,typeIs_str _ _ _,?_⟩;refine wpAny_getItem_str_slice (l:=ql) (u:=qu) (st:=none) hs rfl ?_;have ep:(slicePicked z ql qu none).filterMap (z.cps[·]?)=(z.cps.toList.drop (HT.m7 z.length 0 lo)).take (HT.m7 z.length z.length hi - HT.m7 z.length 0 lo):=by
  unfold slicePicked;rw[el,eu];exact Zdf z lo hi
 have em:(⟨((slicePicked z ql qu none).filterMap (z.cps[·]?)).toArray⟩:Str)=Wn z lo hi:=by
  rw[ep];rfl
 unfold sliceMade;split
 ·rename_i hw
  have hl:(slicePicked z ql qu none).length=z.length:=by
   rw[Bool.and_eq_true]at hw;exact beq_iff_eq.mp hw.2
  have hc:Wn z lo hi=z:=by
   have h1:(slicePicked z ql qu none)=Builtin.Str.strSliceIndices (some ((HT.m7 z.length 0 lo:Nat):Int)) (some ((HT.m7 z.length z.length hi:Nat):Int)) 1 z.length:=by
    unfold slicePicked;rw[el,eu];exact Sq lo hi z.length
   have a2:=HT.Dq z.length z.length (Nat.le_refl _) hi;have a1:=HT.Dq z.length 0 (Nat.zero_le _) lo;have hz0:HT.m7 z.length 0 lo<=HT.m7 z.length z.length hi\/z.length=0:=by
    by_cases hle:HT.m7 z.length 0 lo<=HT.m7 z.length z.length hi
    ·exact .inl hle
    ·right
     rw[h1]at hl;have e2:Builtin.Str.strSliceIndices (some ((HT.m7 z.length 0 lo:Nat):Int)) (some ((HT.m7 z.length z.length hi:Nat):Int)) 1 z.length=[]:=by
      simp only[Builtin.Str.strSliceIndices,sliceRange,show((1:Int) > 0)=True from by simp,if_true];rw[if_neg (by omega:¬ ((HT.m7 z.length 0 lo:Nat):Int)<0),if_neg (by omega:¬ ((HT.m7 z.length z.length hi:Nat):Int)<0),if_neg (by omega)];rfl
     rw[e2]at hl;exact hl.symm
   unfold Wn;rcases hz0 with hle | h0
   ·rw[h1,StrLaws.strSliceIndices_plain hle a2,aU,List.length_range]at hl;have b1:HT.m7 z.length 0 lo=0:=by omega
    have b2:HT.m7 z.length z.length hi=z.length:=by omega
    rw[b1,b2,List.drop_zero,Nat.sub_zero,<- str_len,List.take_length]
    all_goals rfl
   ·have hcz:z.cps=#[]:=Array.eq_empty_of_size_eq_zero h0;obtain⟨zc⟩:=z;dsimp only at hcz;subst hcz;simp
  rw[hc]at q;exact⟨.str z,H,I,⟨_,rfl⟩,q⟩
 ·show Str.length _<=sizeLine/\_;rw[em];exact⟨Nat.le_trans (Zg z lo hi) hz,.str (Wn z lo hi),H,I.tok _,⟨_,rfl⟩,q⟩
def GC(mg:Str->Option Value)(x:Str)(v:V):Prop:=∃u,mg x=some u/\RelV v u
theorem GC.pe{x:Str}{v:V}{pos:Pos}(h:GC X.mg x v)(hg:Gl X x)(hd:(x == ("__debug__":Str))=false:=by decide):PE X (.Name x pos) (tC v):=by
 obtain⟨u,hm,r⟩:=h;exact Zjq hg hm r hd
end
end G
namespace G
open PySem L2 PySem.Spec PyProof.Rows
section
variable {X:Cx}
theorem Zk8(z:Str)(k:Int):Txt.mul z k=Zdj z k:=by
 unfold Txt.mul Zdj;have fl:∀(n:Nat) (acc:List Nat),List.foldl (λx1 x2=>x1++x2) acc.toArray (List.replicate n z.cps)=(acc++(List.replicate n z.cps.toList).flatten).toArray:=by
  intro n
  induction n with
  | zero=>intro acc;simp
  | succ n ih=>
   intro acc;rw[List.replicate_succ,List.replicate_succ,List.foldl_cons,List.flatten_cons];have e:acc.toArray++z.cps=(acc++z.cps.toList).toArray:=by simp
   rw[e,ih,List.append_assoc]
 split
 ·rename_i h
  have e:k.toNat=0:=by omega
  rw[e];rfl
 ·rename_i h
  split
  ·rename_i h2
   rw[Bool.or_eq_true]at h2;rcases h2 with h2 | h2
   ·have e:k.toNat=1:=by have:=beq_iff_eq.mp h2;omega
    rw[e];simp
   ·have e:z.cps=#[]:=Array.eq_empty_of_size_eq_zero (beq_iff_eq.mp h2);obtain⟨zc⟩:=z;dsimp only at e;subst e;have:∀n:Nat,(List.replicate n ([]:List Nat)).flatten=[]:=λn=>by
     induction n with
     | zero=>rfl
     | succ n ih=>rw[List.replicate_succ,List.flatten_cons,ih];rfl
    simp[this]
  ·have:=fl k.toNat [];simp only[List.nil_append]at this;show(⟨List.foldl (λx1 x2=>x1++x2) #[] (List.replicate k.toNat z.cps)⟩:Str)=_;rw[this]
theorem Zfh(z:Str)(k:Int):(Zdj z k).length=k.toNat * z.length:=by
 show(List.toArray _).size=_;rw[List.size_toArray];have:∀n:Nat,(List.replicate n z.cps.toList).flatten.length=n * z.length:=λn=>by
  induction n with
  | zero=>simp
  | succ n ih=>rw[List.replicate_succ,List.flatten_cons,List.length_append,ih,str_len,Nat.succ_mul,Nat.add_comm]
 exact this _
theorem Zjr:Cq X (binaryOp .Mult) Zfk:=by
 intro pins s σ H x y v u Q I rx ry h;obtain⟨z,k,rfl,rfl,h0,h1,h2,q⟩:=h;obtain⟨t,rfl⟩:=rx;obtain⟨t',rfl⟩:=ry;have hb:k.toNat * z.length<=1000000:=Nat.le_trans (Nat.mul_le_mul (show k.toNat<=1000 by omega) h2) (by decide);refine SB.mul ⟨?_,λh3 _=>?_,λh3 _=>?_⟩ λt'' kk=>?_
 ·simp;omega
 ·intro z1;have:(z.length:Int)<=1000:=by omega
  have e:(1000:Int)<(2 ^ 63 - 1) / k:=by
   have hk:0<k:=by omega
   rw[Int.lt_iff_add_one_le,Int.le_ediv_iff_mul_le hk];omega
  omega
 ·unfold Builtin.Str.tooLong;have:z.length * k.toNat<=1000000:=by rw[Nat.mul_comm];exact hb
  simp;exact Nat.le_trans this (by decide)
 ·rw[Zk8];exact⟨.str (Zdj z k),H,I.tok _,⟨_,rfl⟩,q _ (by rw[Zfh];exact hb) rfl⟩
end
end G
namespace G
open PySem L2
end G
namespace G
open PySem L2 PySem.Spec PyProof.Rows
section
variable {X:Cx}{pins:List (Addr×Obj)}{σ:L2.St}{H:Hp}{s:Shared}{acc:Addr}{ys:List V}{its:List Value}{n:Nat}
theorem adopt(I:Inv X pins σ H s)(hf:tD X pins H acc)(ho:s.heap.get? acc=some { cls:=.type "list",data:=.seq its.toArray n })(hv:Vals ys its)(hz:ys.length<=sizeLine):Inv X pins σ (upd H acc (.lst ys)) s:=by
 obtain⟨f0,f1,f2,f3,f4,f5⟩:=hf;have ne:∀b u,H b=some u->b≠acc:=λb u e=>aB e f0;refine I.step (h':=s.heap) (g':=s.gens) (t':=s.toks) (d':=s.drawn) (ch:=[acc]) (λb hb=>?_) (λ_ _ _ _ _ e _=>e) (λb o _ _ _ e _=>⟨o.slots,e⟩) (λb o hb e h0=>?_) (λb o _ e=>⟨o,e⟩)
  (λb xs e=>by rw[aA (ne b _ e)];exact e) (λb o u e=>by rw[aA (ne b _ e)];exact e) (λb ps e=>⟨#[],by rw[aA (ne b _ e),e];simp⟩) (λm hm=>hm) (λb u e=>?_) I.bare
 ·have e:b=acc:=by simpa using hb
  subst e;exact⟨f3,f1,f4,f5⟩
 ·have e:b≠acc:=by simpa using hb
  rw[aA e];exact h0
 ·by_cases hb:b=acc
  ·subst hb;rw[ao]at e;cases e;exact⟨hz,its,n,hv,ho⟩
  ·rw[aA hb]at e;exact(I.hok b u e).stay (λ_ _ _ q=>q) (λc q=>by rw[aA (ne c _ q)];exact q) λc xs q=>by rw[aA (ne c _ q)];exact q
theorem disown(I:Inv X pins σ (upd H acc (.lst ys)) s)(hf:tD X pins H acc):Inv X pins σ H s:=by
 obtain⟨f0,f1,f2,f3,f4,f5⟩:=hf;have back:∀b u,upd H acc (.lst ys) b=some u->u≠.lst ys->H b=some u:=λb u e hne=>by
  by_cases hb:b=acc
  ·subst hb;rw[ao]at e;cases e;exact absurd rfl hne
  ·rw[aA hb]at e;exact e
 refine I.step (h':=s.heap) (g':=s.gens) (t':=s.toks) (d':=s.drawn) (ch:=[acc]) (λb hb=>?_) (λ_ _ _ _ _ e _=>e) (λb o _ _ _ e _=>⟨o.slots,e⟩) (λb o hb e h0=>?_) (λb o _ e=>⟨o,e⟩)
  (λb xs e=>back b _ e (λz=>nomatch z)) (λb o u e=>back b _ e (λz=>nomatch z)) (λb ps e=>⟨#[],by rw[back b _ e (λz=>nomatch z)];simp⟩) (λm hm=>hm) (λb u e=>?_) I.bare
 ·have e:b=acc:=by simpa using hb
  subst e;exact⟨f3,f1,f4,f5⟩
 ·have e:b≠acc:=by simpa using hb
  rw[aA e]at h0;exact h0
 ·have hb:b≠acc:=aB e f0;have e':upd H acc (.lst ys) b=some u:=by rw[aA hb];exact e
  exact(I.hok b u e').stay (λ_ _ _ q=>q) (λc q=>back c _ q (λz=>nomatch z)) λc xs q=>back c _ q (λz=>nomatch z)
end
def PF(X:Cx)(ifs:List Expr)(t:TT):Prop:=
 ∀(pins:List (Addr×Obj)) (s:Shared) (σ:L2.St) (H:Hp) (Q:Bool->Hp->Prop),Inv X pins σ H s->t σ H Q->
  wpAny (model X.prog X.w) X.A (forIn ifs true λc r=>if r=true then do let ok <- isTrue c X.env (eval c X.env);pure (ForInStep.yield ok)else pure (ForInStep.yield r)) (TP X pins σ Q) X.xe s
theorem zY{X:Cx}:PF X [] tK:=λ_ _ _ H _ I h=>wpAny_tests_nil ⟨H,I,h⟩
theorem Il{X:Cx}{c:Expr}{t:TT}(h:PT X c t):PF X [c] t:=λpins s σ H Q I q=>wpAny_tests_one (h pins s σ H Q I q)
def JN(X:Cx)(scope:Scope)(cl:List (Str×Addr))(N:List Str)(C:Addr)(s:Shared)(H:Hp)(ex:List Addr)(pn:List (Addr×Obj)):Cx:=
 { X with N:=N,s₀:=s,H₀:=H,env:=compEnvC scope cl C X.env,outer:=X.stack,ex:=ex,fn:=λ_=>false,pn:=pn,xe:=λ_ _=>False }
def AllIn(cells:List (Str×Addr)):List (Str×Addr)->Prop
 | []=>True
 | p::r=>cells.lookup p.1=some p.2/\AllIn cells r
theorem AllIn.get{cells:List (Str×Addr)}:∀{cl:List (Str×Addr)},AllIn cells cl->∀{x:Str}{c:Addr},cl.lookup x=some c->cells.lookup x=some c
 | [],_,x,c,h=>by cases h
 | (y,d)::r,a,x,c,h=>by
  cases e:(x == y)with
  | true=>
   rw[List.lookup_cons,e]at h;have e':x=y:=beq_iff_eq.mp e;subst e';cases h;exact a.1
  | false=>
   rw[List.lookup_cons,e]at h;exact AllIn.get a.2 h
def zf(X:Cx):List Str->List Nat->Prop
 | [],[]=>True
 | y::r,j::js=>X.N[j]? =some y/\X.env.kindOf y=some .cell/\zf X r js
 | _,_=>False
theorem zf.len{X:Cx}:∀{ns:List Str}{js:List Nat},zf X ns js->ns.length=js.length
 | [],[],_=>rfl
 | [],_::_,h=>h.elim
 | _::_,[],h=>h.elim
 | _::r,_::js,h=>by rw[List.length_cons,List.length_cons,zf.len h.2.2]
theorem zf.get{X:Cx}{σ:L2.St}:∀{ns:List Str}{js:List Nat},zf X ns js->∀{i:Nat}{x:Str}{v:V},ns[i]? =some x->(js.map (pick σ))[i]? =some (some v)->∃j:Nat,X.N[j]? =some x/\X.env.kindOf x=some .cell/\σ[j]? =some (some v)
 | [],_,_,i,x,v,h,_=>by simp at h
 | _::_,[],h,_,_,_,_,_=>h.elim
 | y::r,j::js,h,0,x,v,h1,h2=>by
  simp at h1 h2;subst h1;refine⟨j,h.1,h.2.1,?_⟩;unfold pick at h2;split at h2
  ·rename_i e;rw[e,h2]
  ·cases h2
 | y::r,j::js,h,i+1,x,v,h1,h2=>zf.get (i:=i) h.2.2 (by simpa using h1) (by simpa using h2)
theorem Zgz{x n:Str}{k:NameKind}{r:List (Str×NameKind)}(h:(x == n)=false):List.lookup x ((n,k)::r)=List.lookup x r:=by rw[List.lookup_cons,h]
theorem Zh0{x n:Str}{k:NameKind}{r:List (Str×NameKind)}(h:(x == n)=true):List.lookup x ((n,k)::r)=some k:=by rw[List.lookup_cons,h]
def Nm(env:Env)(x:Str)(k:NameKind):NameKind:=if (k == NameKind.free && env.scope.kind == .function && env.kindOf x == some .cell)=true then .cell else k
theorem ug{env:Env}{x:Str}:∀{names:List (Str×NameKind)},
  (names.map λ(n,k)=>if (k == NameKind.free && env.scope.kind == .function && env.kindOf n == some .cell)then(n,NameKind.cell)else(n,k)).lookup x=(names.lookup x).map (Nm env x)
 | []=>rfl
 | (n,k')::r=>by
  have ih:=@ug env x r;show List.lookup x ((if (k' == NameKind.free && env.scope.kind == .function && env.kindOf n == some .cell)=true then(n,NameKind.cell)else(n,k'))::r.map λ(n,k)=>if (k == NameKind.free && env.scope.kind == .function && env.kindOf n == some .cell)then(n,NameKind.cell)else(n,k))=_;cases hx:x == n with
  | true=>
   have e:=beq_iff_eq.mp hx;subst e;rw[Zh0 (k:=k') hx]
   by_cases hc:(k' == NameKind.free && env.scope.kind == .function && env.kindOf x == some .cell)=true
   ·rw[if_pos hc,Zh0 hx];show some NameKind.cell=some (Nm env x k');unfold Nm;rw[if_pos hc]
   ·rw[if_neg hc,Zh0 hx];show some k'=some (Nm env x k');unfold Nm;rw[if_neg hc]
  | false=>
   rw[Zgz (k:=k') (r:=r) hx]
   by_cases hc:(k' == NameKind.free && env.scope.kind == .function && env.kindOf n == some .cell)=true
   ·rw[if_pos hc,Zgz hx];exact ih
   ·rw[if_neg hc,Zgz hx];exact ih
theorem lookup_all{names:List (Str×NameKind)}{p:Str×NameKind->Bool}:∀{x:Str}{k:NameKind},names.all p=true->names.lookup x=some k->p (x,k)=true:=by
 induction names with
 | nil=>intro x k _ h;simp at h
 | cons y r ih=>
  intro x k ha h;obtain⟨n,k'⟩:=y;rw[List.all_cons,Bool.and_eq_true]at ha;cases hx:x == n with
  | true=>
   rw[List.lookup_cons,hx]at h;have e1:x=n:=beq_iff_eq.mp hx;have e2:k'=k:=Option.some.inj h;rw[e1,<- e2];exact ha.1
  | false=>
   rw[List.lookup_cons,hx]at h;exact ih ha.2 h
theorem Zh{prog:Program}{w:World}{A:Around}{R:Result->Shared->Prop}{s:Shared}{elt target iter:Expr}{ifs:List Expr}{scope:Scope}{pos:Pos}{it acc:Value}{env:Env}(I:Nat->Shared->Prop)
  (turn:∀n s,I n s->wpAny (model prog w) A (pyNext it) (λr s₁=>match r with
   | none=>R (.ok .next) s₁
   | some v=>wpAny (model prog w) A (letOwnedTupleGo target it v) (λ_ s₁'=>wpAny (model prog w) A (assign target env v) (λ_ s₂=>
     wpAny (model prog w) A (forIn ifs true λc r=>if r=true then do let ok <- isTrue c env (eval c env);pure (ForInStep.yield ok)else pure (ForInStep.yield r)) (λok s₃=>
      if ok=true then wpAny (model prog w) A (eval elt env) (λx s₄=>
       wpAny (model prog w) A (call (.builtin "list.append") [acc,x]) (λ_ s₅=>∃m,m<n/\I m s₅) (λ_ _=>False) s₄) (λ_ _=>False) s₃
      else ∃m,m<n/\I m s₃) (λ_ _=>False) s₂) (λ_ _=>False) s₁') (λ_ _=>False) s₁) (λ_ _=>False) s)
  (n:Nat) (h:I n s):
  codeAny (model prog w) A (.compLoop (.ListComp elt [⟨target,iter,ifs,0⟩] scope pos) 0 it acc env) R s:=by
 refine codeAny_loop rfl I (λn s hI=>?_) n h;show wpAny _ A ((compTurn (.ListComp elt [⟨target,iter,ifs,0⟩] scope pos) 0 it acc env).onRaise (λx=>do noteFrame x env;theTreesLotGoes x)) _ _ s;refine wpAny_noted ?_;rw[compTurn_list];refine wpAny_bind (wpAny_standAt (wpAny_bind (wpAny_mono (turn n s hI) (λr s₁ h₁=>?_) λ_ _ h'=>h'.elim)));cases r with
 | none=>exact wpAny_pure h₁
 | some v=>
  refine wpAny_bind (wpAny_mono h₁ (λ_ s₁' h₁'=>?_) λ_ _ h'=>h'.elim);refine wpAny_bind (wpAny_mono h₁' (λ_ s₂ h₂=>wpAny_bind (wpAny_mono h₂ (λok s₃ h₃=>?_) λ_ _ h'=>h'.elim)) λ_ _ h'=>h'.elim);cases ok with
  | false=>exact wpAny_pure ⟨rfl,h₃⟩
  | true=>
   exact wpAny_bind (wpAny_bind (wpAny_mono h₃ (λx s₄ h₄=>wpAny_bind (wpAny_mono h₄ (λ_ s₅ h₅=>wpAny_pure (wpAny_pure ⟨rfl,h₅⟩)) λ_ _ h'=>h'.elim)) λ_ _ h'=>h'.elim))
theorem Zcr{X:Cx}{elt iter tg:Expr}{pos:Pos}{ifs:List Expr}{scope:Scope}{cl:List (Str×Addr)}{wi:TI}{tc:TT}{te:TE}{cns:List Str}{ns:List Str}{gt:TG}{R:It->L2.St->Hp->VK->Prop}{use:Option (Value->Sem Unit)}{Q0:Value->Shared->Prop}{pins:List (Addr×Obj)}{s:Shared}{σ:L2.St}{H:Hp}{Q:VK}(caps:List Nat)
  (hR:∀J σ H Q,R J σ H Q->∃W:Nat->Nat->List V->Hp->Prop,(∃m,W 0 m [] H)/\∀i m ys H,W i m ys H->
   (J.stop i H/\∀p,H p=none->Q (.ref p) (upd H p (.lst ys)))\/
   (J.go i H/\ys.length<sizeLine/\∀x H',J.ZD i H x H'->∀vs:L2.St,vs.length=ns.length->∃us:L2.St,us.length=ns.length/\gt x (vs++caps.map (pick σ)) H' (λσ2 H2=>σ2=us++caps.map (pick σ)/\H2=H')/\tc (us++caps.map (pick σ)) H' λk H2=>if k=true then te (us++caps.map (pick σ)) H2 (λy H3=>∃m',m'<m/\W (i+1) m' (ys++[y]) H3)else ∃m',m'<m/\W (i+1) m' ys H2))
  (hi:PI X tg iter wi) (hg:∀C s H ex pn,PG (JN X scope cl (ns++cns) C s H ex pn) tg gt)
  (hf:∀C s H ex pn,PF (JN X scope cl (ns++cns) C s H ex pn) ifs tc) (he:∀C s H ex pn,PE (JN X scope cl (ns++cns) C s H ex pn) elt te) (hc:X.calm=true)
  (hclos:closureFor scope X.env=pure cl) (hcl:AllIn X.env.cells cl) (hcap:zf X cns caps)
  (hkind:scope.kind=.function) (hcell:(scope.names.all λp=>p.2 != .cell)=true) (hfree:(scope.names.all λp=>p.2 != .free || (cl.lookup p.1).isSome)=true)
  (hcf:(cns.all λy=>scope.names.lookup y == some .free)=true) (hnames:∀y∈scope.names,y.2=.local->scope.names.lookup y.1=some .local)
  (hs:∀v,foldedSetIterable iter X.env v=pure v)
  (I:Inv X pins σ H s) (h:wi σ H λJ H1=>R J σ H1 Q)
  (hend:∀(acc C:Addr) (s6:Shared) (m:Str->Option Value) r0,s6.heap.Ns C m->(∀{Hf:Hp},Hf C=none->tD X pins Hf C)->(∀h',Heap.SameBut C s6.heap h'->EP X pins σ (λv Hf=>Q v Hf/\Hf C=none) (.ref acc) { s6 with heap:=h' })->compPost (model X.prog X.w) X.A X.xe use Q0 (.ref acc) C (.ok r0) s6):
  wpAny (model X.prog X.w) X.A (comprehension (.ListComp elt [⟨tg,iter,ifs,0⟩] scope pos) scope X.env (firstIterPos [⟨tg,iter,ifs,0⟩] pos) (newList []) (firstAsync [⟨tg,iter,ifs,0⟩]) (firstIter [⟨tg,iter,ifs,0⟩] X.env) use) Q0 X.xe s:=by
 refine wpAny_comprehension_free rfl hs hclos hkind hnames (jW (hi pins s σ H _ I h) λxv s1 h1=>jW h1 λitv s2 h2=>?_);obtain⟨it,fp,tn,J,H2,rfl,I2,T,st2,f2,hr⟩:=h2;obtain⟨W,⟨m0,w0⟩,turn⟩:=hR _ _ _ _ hr;have hne:∀y∈scope.names,y.2≠.cell:=λy hy e=>by
  have:=List.all_eq_true.mp hcell y hy;rw[e]at this;simp at this
 refine wpAny_newObj_type (wpAny_newFunctionEnv hne (by intro y hy;simp at hy) (λh₁ hns₁ hsb₁=>?_) hkind);dsimp only at hns₁ hsb₁ ⊢;generalize hacc:s2.heap.objs.size=acc;generalize hH3:s2.heap.push { cls:=.type "list",dict:=none,data:=.seq ([]:List Value).toArray }=h3 at hns₁ hsb₁ ⊢;have hC:h3.objs.size=acc+1:=by rw[<- hH3,Heap.size_push,hacc]
 have YT:∀b o,s2.heap.get? b=some o->h3.get? b=some o:=λb o e=>hH3 ▸ Heap.get?_push_of_some _ e;have k34:∀b o,h3.get? b=some o->h₁.get? b=some o:=λb o e=>hsb₁.extBut b o (Nat.ne_of_lt (Heap.lt_size e)) (Heap.get?_push_of_some _ e);have Zrq:h3.get? acc=some { cls:=.type "list",dict:=none,data:=.seq ([]:List Value).toArray }:=by
  rw[<- hH3,<- hacc];exact Heap.get?_push_size _ rfl
 have I3:Inv X pins σ H2 { s2 with heap:=h3 }:=I2.kept (t':=s2.toks) YT;have Zon:tD X pins H2 acc:=I2.Zbn (Nat.le_of_eq hacc) (I2.hok.fresh (Nat.le_of_eq hacc));have fpl:∀b∈fp,b<acc:=λb hb=>by
  obtain⟨o,e,_⟩:=T.obj _ _ st2 b hb;rw[<- hacc];exact Heap.lt_size e
 have Zei:∀b∈acc::fp,tD X pins H2 b:=λb hb=>(List.mem_cons.mp hb).elim (λe=>e ▸ Zon) (f2 b);have exC:∀b∈acc::fp,b≠h3.objs.size:=λb hb=>by
  rcases List.mem_cons.mp hb with e | hb
  ·rw[hC,e];exact Nat.ne_of_lt (Nat.lt_succ_self _)
  ·rw[hC];exact Nat.ne_of_lt (Nat.lt_succ_of_lt (fpl b hb))
 have ZW:∀b∈acc::fp,b∉frs X.stack:=λb hb hm=>by
  obtain⟨_,g1,g2,_⟩:=Zei b hb;exact(List.mem_cons.mp (I2.MP b hm)).elim g1 g2
 let Y:Cx:=JN X scope cl (ns++cns) h3.objs.size { s2 with heap:=h3 } H2 (acc::fp) (X.pn++pins)
 have cellsOf:∀y c,cl.lookup y=some c->X.env.cells.lookup y=some c:=λy c e=>hcl.get e;have Zcs:∀y k,Y.env.kindOf y=some k->(k=.cell\/k=.free)->∃c,cl.lookup y=some c:=λy k e hk=>by
  have e0:(scope.names.lookup y).map (Nm X.env y)=some k:=ug.symm.trans e;obtain⟨k0,e1,e2⟩:=Option.map_eq_some_iff.mp e0;have e3:=lookup_all hfree e1;have e4:=lookup_all hcell e1
  by_cases hf:k0=.free
  ·subst hf;rw[Bool.or_eq_true]at e3;rcases e3 with e3 | e3
   ·exact absurd rfl (bne_iff_ne.mp e3)
   ·exact Option.isSome_iff_exists.mp e3
  ·exfalso
   have e5:Nm X.env y k0=k0:=by
    unfold Nm;rw[if_neg];intro z;rw[Bool.and_eq_true,Bool.and_eq_true]at z;exact hf (beq_iff_eq.mp z.1.1)
   rw[e5]at e2;subst e2;rcases hk with rfl | rfl
   ·simp at e4
   ·exact hf rfl
 have okY:Y.Ok:={
  mod:=I2.ok.mod
  kind:=hkind
  glob:=I2.ok.glob
  blt:=I2.ok.blt
  above:=Nat.le_refl _
  inj:=λa b c e1 e2=>I2.ok.inj a b c (cellsOf _ _ e1) (cellsOf _ _ e2)
  has:=λy hy=>hy.elim (λe=>Zcs y _ e (.inl rfl)) (λe=>Zcs y _ e (.inr rfl))
  cab:=λy c e=>nomatch e
  hd:=I2.ok.hd
  frames:=I2.ok.frames
  stk:=.inl rfl
  exf:=λb hb=>⟨exC b hb,λy c e=>(Zei b hb).2.2.2.2.1 y c (cellsOf _ _ e)⟩
  bs:=λb o e=>⟨YT b o (I2.bs b o e).1,(I2.bs b o e).2⟩
  bsz:=by
   show X.base.objs.size<=h3.objs.size;rw[hC,<- hacc];exact Nat.le_succ_of_le (Nat.le_trans I2.ok.bsz I2.sz)
  Zdv:=λb o e hb=>by
   rcases(Zei b hb).2.2.2.1 with z | z
   ·exact I2.ok.Zdv b o e z
   ·exact absurd (Nat.lt_of_lt_of_le (Heap.lt_size e) (Nat.le_trans I2.ok.bsz z)) (Nat.lt_irrefl _)
  Zi0:=ZW
  DW:=I3.stack
  frf:=I3.Zcb }
 have Zrv:(List.replicate ns.length none++caps.map (pick σ):L2.St).length=(ns++cns).length:=by rw[List.length_append,List.length_append,List.length_replicate,aU,hcap.len]
 have I4:Inv Y [] (List.replicate ns.length none++caps.map (pick σ)) H2 { s2 with heap:=h₁,toks:=s2.toks+([]:List (Str×Value)).length }:={
  ok:=okY
  os:=rfl
  bare:=I2.bare
  base:=Un.kept k34
  loc:=by
   refine⟨_,hns₁,λi y v e1 e2 e3=>?_⟩
   by_cases hlt:i<ns.length
   ·have e2:(List.replicate ns.length none++caps.map (pick σ):L2.St)[i]? =some (some v):=e2;rw[List.getElem?_append_left (by rw[List.length_replicate];exact hlt),List.getElem?_replicate,if_pos hlt]at e2;cases e2
   ·have e1':cns[i - ns.length]? =some y:=by
     have e1':(ns++cns)[i]? =some y:=e1;rw[List.getElem?_append_right (by omega)]at e1';exact e1'
    have e2':(caps.map (pick σ):L2.St)[i - ns.length]? =some (some v):=by
     have e2:(List.replicate ns.length none++caps.map (pick σ):L2.St)[i]? =some (some v):=e2;rw[List.getElem?_append_right (by rw[List.length_replicate];omega),List.length_replicate]at e2;exact e2
    obtain⟨j,j1,j2,j3⟩:=hcap.get (σ:=σ) (i:=i - ns.length) (x:=y) (v:=v) e1' e2';obtain⟨m,hn,hl⟩:=I2.loc;obtain⟨u,r,l⟩:=hl j y v j1 j3 (.inr (.inl j2));rcases l with ⟨l,_⟩ | ⟨_,c,l1,l2⟩
    ·rw[j2]at l;cases l
    ·refine⟨u,r,.inr ?_⟩;rcases e3 with e3 | e3 | e3
     ·exfalso
      have hm:y∈cns:=List.mem_of_getElem? e1';have hl:scope.names.lookup y=some .free:=beq_iff_eq.mp (List.all_eq_true.mp hcf y hm);have e0:(scope.names.lookup y).map (Nm X.env y)=some .local:=ug.symm.trans e3;rw[hl]at e0;have e5:Nm X.env y .free=.local:=Option.some.inj e0;unfold Nm at e5;split at e5<;>cases e5
     ·obtain⟨c',hc'⟩:=Zcs y _ e3 (.inl rfl);have:=cellsOf _ _ hc';rw[l1]at this;cases this;exact⟨.inl e3,c,hc',l2.keeps λb o e=>k34 _ _ (YT _ _ e)⟩
     ·obtain⟨c',hc'⟩:=Zcs y _ e3 (.inr rfl);have:=cellsOf _ _ hc';rw[l1]at this;cases this;exact⟨.inr e3,c,hc',l2.keeps λb o e=>k34 _ _ (YT _ _ e)⟩
  cell:=λy c e=>by
   obtain⟨v,z⟩:=I2.cell y c (cellsOf _ _ e);exact⟨v,z.keeps λb o e=>k34 _ _ (YT _ _ e)⟩
  free:=I2.hok.fresh (by rw[hacc];show acc<=h3.objs.size;rw[hC];exact Nat.le_succ _)
  Ba:=λy c e=>I2.Ba y c (cellsOf _ _ e)
  pin:=λp hp=>by
   have hp2:p∈(X.pn++pins)++[]:=hp;have hp':p∈X.pn++pins:=by rw[List.append_nil]at hp2;exact hp2
   obtain⟨p1,p2,p3,p4,p5⟩:=I2.pin p hp';refine⟨k34 _ _ (YT _ _ p1),p2,?_,λhm=>(List.mem_cons.mp (I2.MP _ hm)).elim p3 p4,p5⟩;exact Nat.ne_of_lt (by show p.1<h3.objs.size;exact Heap.lt_size (YT _ _ p1))
  hok:=I2.hok.kept λb u e=>k34 _ _ (YT _ _ e)
  len:=Zrv }
 have fpY:∀{H':Hp}{pl:List (Addr×Obj)}{b:Addr},b∈acc::fp->H' b=none->(∀p∈pl,p.1≠b)->tD Y pl H' b:=λ{H' pl b} hb hn hp=>
  ⟨hn,exC b hb,ZW b hb,.inl hb,λy c e=>(Zei b hb).2.2.2.2.1 y c (cellsOf _ _ e),λp hm=>(List.mem_append.mp hm).elim (λz=>(Zei b hb).2.2.2.2.2 p z) (hp p)⟩
 have fin:∀{σ':L2.St}{H':Hp}{s':Shared}{ys:List V}{its:List Value}{kk:Nat}{pl:List (Addr×Obj)},Inv Y pl σ' H' s'->H' acc=none->Vals ys its->ys.length<=sizeLine->
   s'.heap.get? acc=some { cls:=.type "list",data:=.seq its.toArray kk }->(∀p,H' p=none->Q (.ref p) (upd H' p (.lst ys)))->
   ∀h',Heap.SameBut h3.objs.size s'.heap h'->EP X pins σ (λv Hf=>Q v Hf/\Hf h3.objs.size=none) (.ref acc) { s' with heap:=h' }:=λ{σ' H' s' ys its kk pl} J ha hv hz ho hq h' hs'=>by
  have Zqy:acc≠h3.objs.size:=exC acc (List.mem_cons_self);have YS:∀b o,b≠h3.objs.size->s'.heap.get? b=some o->h'.get? b=some o:=λb o hb e=>hs'.extBut b o hb e;have ltC:∀b o,s2.heap.get? b=some o->b≠h3.objs.size:=λb o e=>Nat.ne_of_lt (Heap.lt_size (YT b o e));have Zbk:H' h3.objs.size=none:=J.free;have un:Un (frs X.stack) (acc::fp) H2 H' s2.heap h':={
   keep:=λb o e n hb hx=>YS b o (ltC b o e) (J.base.keep b o (YT b o e) n hb hx)
   slot:=λb o e n hb hx=>by
    obtain⟨sl,q⟩:=J.base.slot b o (YT b o e) n hb hx;exact⟨sl,YS b _ (ltC b o e) q⟩
   free:=λb o e n hx=>J.base.free b o (YT b o e) n hx
   there:=λb o e hx=>by
    obtain⟨o',q⟩:=J.base.there b o (YT b o e) hx;exact⟨o',YS b o' (ltC b o e) q⟩
   tups:=J.base.tups
   Jz:=J.base.Jz
   Ku:=J.base.Ku }
  have hok:BR X.prog X.w H' h':=λb u e=>by
   refine(J.hok b u e).stay (λc v hc q=>YS c v ?_ q) (λ_ q=>q) λ_ _ q=>q;rintro rfl;rcases hc with rfl | hc
   ·rw[Zbk]at e;cases e
   ·rw[Zbk]at hc;cases hc
  have I5:Inv X pins σ H' { s' with heap:=h' }:=I2.call' (ch:=acc::fp) J.os un hok J.bare λb hb=>by
   obtain⟨g0,g1,g2,g3,g4,g5⟩:=Zei b hb;exact⟨g3,g1,g4,g5⟩
  refine⟨.ref acc,_,adopt (acc:=acc) I5 ?_ (YS _ _ Zqy ho) hv hz,rfl,hq acc ha,by rw[aA Zqy.symm];exact Zbk⟩;obtain⟨g0,g1,g2,g3,g4,g5⟩:=Zon;exact⟨ha,g1,g2,g3,g4,g5⟩
 have loop:codeAny (model X.prog X.w) X.A (.compLoop (.ListComp elt [⟨tg,iter,ifs,0⟩] scope pos) 0 (.ref it) (.ref acc) Y.env) (compPost (model X.prog X.w) X.A X.xe use Q0 (.ref acc) h3.objs.size)
   { s2 with heap:=h₁,toks:=s2.toks+([]:List (Str×Value)).length }:=by
  refine Zh (λn s'=>∃(i:Nat) (v:L2.St) (ys:List V) (its:List Value) (kk:Nat) (H':Hp),v.length=ns.length/\Inv Y [] (v++caps.map (pick σ)) H' s'/\tn i s'.heap/\(∀b∈fp,H' b=none)/\H' acc=none/\Vals ys its/\ys.length<=sizeLine/\
   s'.heap.get? acc=some { cls:=.type "list",data:=.seq its.toArray kk }/\W i n ys H') ?_ m0 ⟨0,List.replicate ns.length none,[],[],0,H2,List.length_replicate,I4,T.keep _ _ _ st2 (λb _ o e=>k34 _ _ (YT _ _ e)),λb hb=>(f2 b hb).1,Zon.1,.nil,Nat.zero_le _,k34 _ _ Zrq,w0⟩
  rintro n s5 ⟨i,v,ys,its,kk,H5,lv,I5,st5,fr5,ha5,hv5,hz5,ho5,w5⟩;have Zpu:Inv Y [(acc,{ cls:=.type "list",data:=.seq its.toArray kk })] (v++caps.map (pick σ)) H5 s5:=I5.Bp λp hp=>by
   have e:p=(acc,{ cls:=.type "list",data:=.seq its.toArray kk }):=by simpa using hp
   subst e;exact⟨ho5,ha5,exC acc List.mem_cons_self,ZW acc List.mem_cons_self,λv=>by intro z;cases z⟩
  have fpA:∀{H':Hp},(∀b∈fp,H' b=none)->∀b∈fp,tD Y [(acc,{ cls:=.type "list",data:=.seq its.toArray kk })] H' b:=λhn b hb=>fpY (List.mem_cons_of_mem _ hb) (hn b hb) λp hp=>by
   have e:p=(acc,{ cls:=.type "list",data:=.seq its.toArray kk }):=by simpa using hp
   subst e;exact(Nat.ne_of_lt (fpl b hb)).symm
  rcases turn i n ys H5 w5 with ⟨stop,qn⟩ | ⟨go,hlt,step⟩
  ·refine jW (T.done Y rfl rfl rfl hc i _ s5 _ H5 (λ_ _=>False) Zpu (fpA fr5) st5 stop) λr s6 ⟨hr,I6⟩=>?_;subst hr;obtain⟨m,hm,_⟩:=I6.loc;have ho6:=(I6.pin (acc,{ cls:=.type "list",data:=.seq its.toArray kk }) (List.mem_append_right _ List.mem_cons_self)).1;exact hend acc h3.objs.size s6 m _ hm (λhf=>I2.Zbn (by rw[hC,hacc];exact Nat.le_succ _) hf) (fin I6 ha5 hv5 hz5 ho6 qn)
  ·refine jW (T.item Y rfl rfl rfl hc i _ s5 _ H5 (λ_ _=>False) Zpu (fpA fr5) st5 go) λr s6 ⟨u,hr,h6⟩=>?_;subst hr;refine jW h6 λ_ s7 ⟨z,H7,I7,r7,y7,st7,fr7⟩=>?_;have I7':=I7.pinned (fpA fr7) (T.obj _ _ st7);obtain⟨us,lu,hgt,step⟩:=step z H7 y7 v lv;have pg:PG Y tg gt:=hg _ _ _ _ _;refine jW (pg _ s7 _ H7 z u (λσ2 H2'=>σ2=us++caps.map (pick σ)/\H2'=H7) I7' r7 hgt) λ_ s8 ⟨σ8,H8,I8,e8,e8'⟩=>?_;subst e8 e8';refine jW (hf _ _ _ _ _ _ s8 _ H8 _ I8 step) λok s9 ⟨H9,I9,q9⟩=>?_;have stat:∀{H':Hp}{s':Shared}{σ':L2.St},Inv Y ([(acc,{ cls:=.type "list",data:=.seq its.toArray kk })]++Dw fp s7.heap) σ' H' s'->tn (i+1) s'.heap/\(∀b∈fp,H' b=none)/\H' acc=none/\s'.heap.get? acc=some { cls:=.type "list",data:=.seq its.toArray kk }:=λ{H' s' σ'} J=>by
    have pa:=J.pin (acc,{ cls:=.type "list",data:=.seq its.toArray kk }) (List.mem_append_right _ (List.mem_append_left _ List.mem_cons_self));refine⟨T.keep _ _ _ st7 λb hb o e=>(J.pin (b,o) (List.mem_append_right _ (List.mem_append_right _ (ud hb e)))).1,λb hb=>?_,pa.2.1,pa.1⟩;obtain⟨o,e,d⟩:=T.obj _ _ st7 b hb;exact(J.pin (b,o) (List.mem_append_right _ (List.mem_append_right _ (ud hb e)))).2.1
   have Zly:∀{H':Hp}{s':Shared}{σ':L2.St}{pl:List (Addr×Obj)},Inv Y pl σ' H' s'->Inv Y [] σ' H' s':=λJ=>J.Bp λp hp=>nomatch hp;cases ok with
   | false=>
    obtain⟨m',hm,w9⟩:=q9;obtain⟨t1,t2,t3,t4⟩:=stat I9;exact⟨m',hm,i+1,us,ys,its,kk,H9,lu,Zly I9,t1,t2,t3,hv5,hz5,t4,w9⟩
   | true=>
    show wpAny _ _ (eval elt Y.env) _ _ s9;refine jW (he _ _ _ _ _ _ s9 _ H9 _ I9 q9) λy s10 ⟨yv,H10,I10,r10,m',hm,w10⟩=>?_;obtain⟨t1,t2,t3,t4⟩:=stat I10;have Zyn:Inv Y (Dw fp s7.heap) (us++caps.map (pick σ)) H10 s10:=I10.Bp λp hp=>I10.pin p (List.mem_append_right _ (List.mem_append_right _ hp));have fA:tD Y (Dw fp s7.heap) H10 acc:=fpY List.mem_cons_self t3 λp hp=>Nat.ne_of_lt (fpl _ (Sy hp).1);have Ja:=adopt Zyn fA t4 hv5 hz5;refine jW (qF (X:=Y) _ s10 _ _ (.ref acc) [yv] (.ref acc) [y] (λ_ H'=>H'=upd (upd H10 acc (.lst ys)) acc (.lst (ys++[yv]))) Ja rfl (.cons r10 .nil) ⟨acc,ys,yv,rfl,rfl,ao,hlt,rfl⟩) λ_ s11 ⟨_,H11,I11,_,e11⟩=>?_;rw[eU]at e11;subst e11;obtain⟨Zso,its',kk',Zsp,Zst⟩:=I11.hok acc _ ao;have Jd:=disown I11 fA;have Zrm:tn (i+1) s11.heap:=T.keep _ _ _ st7 λb hb o e=>(Jd.pin (b,o) (List.mem_append_right _ (ud hb e))).1;exact⟨m',hm,i+1,us,ys++[yv],its',kk',H10,lu,Zly Jd,Zrm,t2,t3,Zsp,Zso,Zst,w10⟩
 exact codeAny_compStart_list loop (T.self X.A 0 _ _ _ (T.keep _ _ _ st2 (λb _ o e=>k34 _ _ (YT _ _ e))) loop)
theorem Zfz{X:Cx}{elt iter tg:Expr}{pos:Pos}{ifs:List Expr}{scope:Scope}{cl:List (Str×Addr)}{wi:TI}{tc:TT}{te:TE}{cns:List Str}{ns:List Str}{gt:TG}{R:It->L2.St->Hp->VK->Prop}(caps:List Nat)
  (hR:∀J σ H Q,R J σ H Q->∃W:Nat->Nat->List V->Hp->Prop,(∃m,W 0 m [] H)/\∀i m ys H,W i m ys H->
   (J.stop i H/\∀p,H p=none->Q (.ref p) (upd H p (.lst ys)))\/
   (J.go i H/\ys.length<sizeLine/\∀x H',J.ZD i H x H'->∀vs:L2.St,vs.length=ns.length->∃us:L2.St,us.length=ns.length/\gt x (vs++caps.map (pick σ)) H' (λσ2 H2=>σ2=us++caps.map (pick σ)/\H2=H')/\tc (us++caps.map (pick σ)) H' λk H2=>if k=true then te (us++caps.map (pick σ)) H2 (λy H3=>∃m',m'<m/\W (i+1) m' (ys++[y]) H3)else ∃m',m'<m/\W (i+1) m' ys H2))
  (hi:PI X tg iter wi) (hg:∀C s H ex pn,PG (JN X scope cl (ns++cns) C s H ex pn) tg gt)
  (hf:∀C s H ex pn,PF (JN X scope cl (ns++cns) C s H ex pn) ifs tc) (he:∀C s H ex pn,PE (JN X scope cl (ns++cns) C s H ex pn) elt te) (hc:X.calm=true)
  (hclos:closureFor scope X.env=pure cl) (hcl:AllIn X.env.cells cl) (hcap:zf X cns caps)
  (hkind:scope.kind=.function) (hcell:(scope.names.all λp=>p.2 != .cell)=true) (hfree:(scope.names.all λp=>p.2 != .free || (cl.lookup p.1).isSome)=true)
  (hcf:(cns.all λy=>scope.names.lookup y == some .free)=true) (hnames:∀y∈scope.names,y.2=.local->scope.names.lookup y.1=some .local)
  (hs:∀v,foldedSetIterable iter X.env v=pure v):
  PE X (.ListComp elt [⟨tg,iter,ifs,0⟩] scope pos) (λσ H Q=>wi σ H λJ H1=>R J σ H1 Q):=by
 intro pins s σ H Q I h;rw[eval_ListComp];refine Zcr caps hR hi hg hf he hc hclos hcl hcap hkind hcell hfree hcf hnames hs I h λacc C s6 m r0 hm fC fin=>⟨m,hm,λh' hs'=>?_⟩;obtain⟨v,Hf,If,rf,qf,_⟩:=fin h' hs';exact⟨v,Hf,If,rf,qf⟩
theorem Ff{X:Cx}{elt iter:Expr}{x:Str}{px pos:Pos}{ifs:List Expr}{scope:Scope}{cl:List (Str×Addr)}{wi:TI}{tc:TT}{te:TE}{cns:List Str}(caps:List Nat)
  (hi:PI X (.Name x px) iter wi)
  (hf:∀C s H ex pn,PF (JN X scope cl (x::cns) C s H ex pn) ifs tc) (he:∀C s H ex pn,PE (JN X scope cl (x::cns) C s H ex pn) elt te) (hc:X.calm=true)
  (hclos:closureFor scope X.env=pure cl) (hcl:AllIn X.env.cells cl) (hcap:zf X cns caps)
  (hkind:scope.kind=.function) (hcell:(scope.names.all λp=>p.2 != .cell)=true) (hfree:(scope.names.all λp=>p.2 != .free || (cl.lookup p.1).isSome)=true)
  (hcf:(cns.all λy=>scope.names.lookup y == some .free)=true) (hnames:∀y∈scope.names,y.2=.local->scope.names.lookup y.1=some .local) (hx:scope.names.lookup x=some .local) (hnd:(x::cns).Nodup)
  (hs:∀v,foldedSetIterable iter X.env v=pure v:=by intro _;rfl):
  PE X (.ListComp elt [⟨.Name x px,iter,ifs,0⟩] scope pos) (ZR wi caps tc te):=by
 refine Zfz (ns:=[x]) (gt:=aP 0) caps (λJ σ H Q h=>?_) hi (λC s H ex pn=>dR hnd rfl (.inl (lookup_relabel_local hx)) (.inr (lookup_relabel_local hx))) hf he hc hclos hcl hcap hkind hcell hfree hcf hnames hs;obtain⟨W,w0,turn⟩:=h;refine⟨W,w0,λi m ys H hw=>(turn i m ys H hw).imp id λ⟨g,l,st⟩=>⟨g,l,λz H' y vs hv=>?_⟩⟩
 match vs,hv with
 | [v],_=>exact⟨[some z],rfl,⟨rfl,rfl⟩,st z H' y⟩
end G
namespace G
open PySem L2 PySem.Spec PyProof.Rows
theorem SJ{P:Program}{w:World}{H:Hp}{h:Heap}{a:Addr}{o:HO}(x:jx P w H h a o):∃ob,h.get? a=some ob:=by
 induction o with
 | lst xs=>obtain⟨_,_,_,_,e⟩:=x;exact⟨_,e⟩
 | tup xs=>obtain⟨_,_,_,ob,e,_⟩:=x;exact⟨ob,e⟩
 | dK kvs=>obtain⟨_,_,_,_,ob,_,_,e,_⟩:=x;exact⟨ob,e⟩
 | dT kvs=>obtain⟨_,_,_,_,ob,_,_,e,_⟩:=x;exact⟨ob,e⟩
 | set S n=>obtain⟨ob,_,_,_,e,_⟩:=x;exact⟨ob,e⟩
 | ins C dx fs=>obtain⟨_,_,_,e,_⟩:=x;exact⟨_,e⟩
 | own y=>exact x
 | xd fs=>obtain⟨_,⟨ob,_,_,e,_⟩,_⟩:=x;exact⟨ob,e⟩
 | rng lo hi=>obtain⟨_,_,_,e⟩:=x;exact⟨_,e⟩
 | uC ob u ih=>exact⟨_,x.1⟩
 | Bl ps=>exact⟨_,x⟩
 | met f y=>exact⟨_,x⟩
 | ext φ=>obtain⟨_,e,_⟩:=x;exact e
theorem Zig{P:Program}{w:World}{fs:List Addr}{H0 H1:Hp}{h0 h1 h2:Heap}(u:Un fs [] H0 H1 h0 h1)(ok:BR P w H1 h1)(fr:∀b∈fs,H1 b=none)
  (kp:∀b o,h1.get? b=some o->((∃v,h0.get? b=some v)\/∃v,H1 b=some v)->b∉fs->h2.get? b=some o) (sl:∀b o,h1.get? b=some o->b∈fs->∃z,h2.get? b=some { o with slots:=z }):
  Un fs [] H0 H1 h0 h2/\BR P w H1 h2:=by
 refine⟨⟨λb o e n hb hx=>kp b o (u.keep b o e n hb hx) (.inl ⟨o,e⟩) hb,λb o e n hb hx=>?_,u.free,λb o e hx=>?_,u.tups,u.Jz,u.Ku⟩,λa o e=>?_⟩
 ·obtain⟨z,e1⟩:=u.slot b o e n hb hx;obtain⟨z2,e2⟩:=sl b _ e1 hb;exact⟨z2,e2⟩
 ·obtain⟨o',e1⟩:=u.there b o e hx
  by_cases hb:b∈fs
  ·obtain⟨z,e2⟩:=sl b _ e1 hb;exact⟨_,e2⟩
  ·exact⟨o',kp b o' e1 (.inl ⟨o,e⟩) hb⟩
 ·refine(ok a o e).stay (λb v hb q=>?_) (λ_ q=>q) λ_ _ q=>q;have hs:∃v,H1 b=some v:=by
   rcases hb with z | z
   ·exact⟨o,by rw[z];exact e⟩
   ·exact⟨_,z⟩
  refine kp b v q (.inr hs) λz=>?_;obtain⟨v',e'⟩:=hs;rw[fr b z]at e';cases e'
def CXe(P:Program)(w:World):Xh:=λouter H s E e s'=>
 ∃(ea:Addr) (cls a0:Value) (B:Heap) (H':Hp),e=.ref ea/\s'.os=s.os/\AllBare s'.gens/\Un (frs outer) [] H H' s.heap s'.heap/\BR P w H' s'.heap/\Heap.FlyingW B outer ea cls a0 s'.heap/\
  (∀b o,s'.heap.get? b=some o->((∃v,s.heap.get? b=some v)\/∃v,H' b=some v)->b∉frs outer->B.get? b=some o)/\E cls none H'
theorem eF{P:Program}{w:World}{X:Cx}:Passes (CXe P w) X E0:=λ_ _ _ _ _ _ _ h=>by
 obtain⟨_,_,_,_,_,_,_,_,_,_,_,_,z⟩:=h;exact z.elim
section
variable {P:Program}{w:World}{K:aC}{mg:Str->Option Value}{base:Heap}{N:List Str}{qual:Str}{scope:Scope}{f:Addr}{cd:Value}{A:Around}{outer:List Env}{s:Shared}{H:Hp}{E:XK}
theorem Zmt{pins:List (Addr×Obj)}{σ:L2.St}{H1:Hp}{s1:Shared}{C e:Addr}{vs:List Value}{h1:Heap}(I:Inv (Wl (CXe P w) P w K mg base N qual scope f cd A outer s H E) pins σ H1 s1)
  (hx:Heap.MadeExcOf s1.heap h1 e (.ref C) vs) (hE:E (.ref C) none H1):(Wl (CXe P w) P w K mg base N qual scope f cd A outer s H E).xe (.ref e) { s1 with heap:=h1 }:=by
 have L0:∀b o,s.heap.get? b=some o->b≠(envOfC qual scope s.heap.objs.size f cd).locals:=λb o e=>Nat.ne_of_lt (Nat.lt_of_lt_of_le (Heap.lt_size e) I.ok.above);have nin:∀b,((∃v,s.heap.get? b=some v)\/∃v,H1 b=some v)->b∉frs outer->b∉frs (envOfC qual scope s.heap.objs.size f cd::outer):=λb hb hn hm=>by
  rcases List.mem_cons.mp (I.MP b hm)with z | z
  ·rcases hb with ⟨v,e⟩ | ⟨v,e⟩
   ·exact L0 b v e z
   ·rw[z]at e;have:=I.free;rw[e]at this;cases this
  ·exact hn z
 have fh:s1.heap.FunFrames (W.hideAll s1.heap (frs (envOfC qual scope s.heap.objs.size f cd::outer))) (envOfC qual scope s.heap.objs.size f cd::outer):=
  W.funFrames_hide I.stack λenv he b hb=>List.mem_filterMap.mpr ⟨env,he,hb⟩
 refine wpAny_leaves_madeW (s:={ s1 with heap:=h1 }) I.ok.frames rfl (λb o q=>W.of_hideAll _ q) fh hx λh' t fl _ _ sm=>?_;have inB:∀b o,s1.heap.get? b=some o->((∃v,s.heap.get? b=some v)\/∃v,H1 b=some v)->b∉frs outer->(W.hideAll s1.heap (frs (envOfC qual scope s.heap.objs.size f cd::outer))).get? b=some o:=
  λb o e hb hn=>W.hideAll_get _ e (nin b hb hn)
 have dat:∀b o,s1.heap.get? b=some o->b∈frs outer->∀vs,o.data≠.fields vs:=λb o e hb=>by
  obtain⟨_,o',ho',hd⟩:=I.DW.mem hb;rw[e]at ho';cases ho';exact hd
 have U:=Zig (P:=P) (w:=w) (h2:=h') I.base I.hok (λb hb=>by
   obtain⟨_,o,ho,_⟩:=I.ok.DW.mem hb;exact I.base.free b o ho (I.ok.frf b hb) (λz=>nomatch z)) (λb o e hb hn=>fl.1 _ _ (inB b o e hb hn)) λb o e hb=>sm b o (hx.keeps b o e) (dat b o e hb)
 refine⟨e,.ref C,.ref t,_,H1,rfl,I.os,I.bare,U.1,U.2,fl,λb o q hb hn=>?_,hE⟩;have there:∃v,s1.heap.get? b=some v:=by
  rcases hb with ⟨v,z⟩ | ⟨v,z⟩
  ·exact I.base.there b v z (λz=>nomatch z)
  ·exact SJ (I.hok b v z)
 obtain⟨v,z⟩:=there;have q2:=inB b v z hb hn;have:=fl.1 _ _ q2;rw[q]at this;cases this;exact q2
end
abbrev Zrh(K:aC)(C:Addr):Prop:=W.excIn K C [.type "ValueError",.type "Exception",.type "BaseException",.type "object"] "ValueError.__new__"=true
theorem Zle{K:aC}{h:Heap}{C:Addr}{ms:List Value}{ni:String}(X:K.In h)(q:W.excIn K C ms ni=true):
  ∃tl N nm ql bs hd sn sub ab col dd j0 j1 j2 j3 j5 mN,h.get? C=some (excClassObj nm ql C N bs tl hd sn sub ab col dd j0 j1 j2 j3 j5 ni)/\h.Ns N mN/\mN "__init__"=none/\OwnTail h ms tl:=by
 unfold W.excIn at q;split at q
 ·rename_i dd Zyj slots hob
  split at q
  ·rename_i C2 tl j0 j1 j2 j3 n2 j5 em es
   simp only[Bool.and_eq_true,beq_iff_eq,Bool.not_eq_true']at q;obtain⟨⟨⟨⟨⟨e1,e2⟩,e3⟩,e4⟩,e5⟩,e6⟩:=q;subst e1 e2;obtain⟨c1,c2,c3,c4,c5,c6,c7,c8,c9,c10,c11⟩:=Zyj;dsimp only at em e3 e5 e6;subst em e3;have Zop:slots=#[j0,j1,j2,j3,some (.builtin n2),j5]:=by
    obtain⟨ls⟩:=slots;simp only at es;rw[es]
   subst Zop;refine⟨tl,c4,c1,c5,c2,c6,c7,c8,c9,c10,dd,j0,j1,j2,j3,j5,h.nsMap c4,X _ _ hob,?_,W.nsMap_none_of_in X e5 e6,W.tail_of_in X e4⟩;exact .of_isNs (W.isNs_of_in X e5)
  ·cases q
 ·cases q
section
variable {X:Cx}{x:Str}{C:Addr}{np cpos pos:Pos}{e:Expr}{es:List Expr}{ta:TA}{E:XK}
theorem Zfr(hc:X.calm=true)(hg:Gl X x)(hm:X.mg x=some (.ref C))(hx:Zrh X.K C)(ha:PA X (e::es) ta)
  (hE:∀(pins:List (Addr×Obj)) (σ:L2.St) (H:Hp) (s:Shared) (ea:Addr) (vs:List Value) (h1:Heap),Inv X pins σ H s->Heap.MadeExcOf s.heap h1 ea (.ref C) vs->E (.ref C) none H->X.xe (.ref ea) { s with heap:=h1 })
  (hs:starEach (e::es) X.env=(false,eval e X.env)::starEach es X.env:=by rfl) (hpl:(backTo cpos (starEach es X.env)).any (·.1)=false:=by rfl) (hd:(x == ("__debug__":Str))=false:=by decide):
  PS X (.Raise (some (.Call (.Name x np) (e::es) [] cpos)) none pos) (ZP C E ta):=by
 intro pins s σ H D I h;obtain⟨tl,N,nm,ql,bs,hdd,sn,sub,ab,col,dd,j0,j1,j2,j3,j5,mN,hC,hN,hni,T⟩:=Zle I.ok.mod.kin hx;refine wpAny_Raise_call_subT (C:=C) (nm:=nm) (q:=ql) (N:=N) (bs:=bs) (bm:=tl) (hdct:=hdd) (sn:=sn) (sub:=sub) (ab:=ab) (col:=col) (dd:=dd) (k0:=j0) (k1:=j1) (k2:=j2) (k3:=j3) (k5:=j5) PySem.F.excBase_ValueError (mN:=mN)
  (T.hasType PySem.F.excBase_ValueError.hasBase) (I.ok.hd hc) ?_ hni (yE I hg hm ⟨rfl,?_⟩ hd)
 ·rw[hs];show(false || (backTo cpos (starEach es X.env)).any (·.1))=false;rw[hpl];rfl
 ·have q:=ha cpos pins s σ H _ I h;rw[hs]at q ⊢;refine Calls.evalArgs_plain (jW q λus s1 ⟨vs,H1,I1,r,l1,hE1⟩=>⟨rfl,?_,I1.bk _ _ hC,hN.keeps I1.bk,T.keeps I1.bk,λh1 ea hmade=>hE pins σ H1 s1 ea _ h1 I1 hmade hE1⟩);rw[<- r.length];exact Nat.le_trans l1 (by decide)
end
end G
namespace G
open PySem L2 PySem.Spec PyProof.Rows
section
variable {X:Cx}{CX:Xh}{k:Nat}{f C:Addr}{fd:FuncData}{ps:List Str}{sp:Sp}{Bd:List V}{ds:List Value}{E:L2.St->XK}{x m:Str}{p pos apos:Pos}{e o:Expr}{es:List Expr}{ta:TE}{t:TA}
end
section
variable {X:Cx}{pins:List (Addr×Obj)}{σ:L2.St}{H:Hp}{s:Shared}
end
section
variable {X:Cx}{x:Str}{C:Addr}{np pos hpos:Pos}{body suite:List Stmt}{b₀:Stmt}{Mt:Value->Prop}{tb:(L2.St->XK)->TS}{th:TS}
end
end G
namespace G
open PySem L2 PySem.Spec PyProof.Rows
section
variable {P:Program}{w:World}{K:aC}{mg:Str->Option Value}{base:Heap}{x qual:Str}{st:Stmt}{f:Addr}{fd:FuncData}{N ps:List Str}{k:Nat}{sp:Sp}
theorem mG(F:jX K x qual st f fd)(S:aO N ps (aH st))(len:∀vs H Q E,sp vs H Q E->vs.length=ps.length)
  (hbody:∀(cdv:Value) (A:Around) (outer:List Env) (s:Shared) (H:Hp) (vs:List V) (Q:VK) (E:XK),Room k (A.deeper (envOfC qual (aH st) s.heap.objs.size f cdv))->sp vs H Q E->
   ∃t,PSs (Wl (CXe P w) P w K mg base N qual (aH st) f cdv A outer s H E).nox (jL st) t/\t { nx:=λ_ H'=>Q .non H',rt:=Q } (start N vs) H):uE P w K mg base (CXe P w) (k+1) f fd ps sp:=by
 obtain⟨oc,od,kV,doc,pm,an,cdv,ct,osl,rfl,lk,hcd⟩:=F.ex;refine Zm8 lk hcd S len λA outer s H vs Q E hr hsp=>?_;obtain⟨t,h,q⟩:=hbody cdv A outer s H vs Q E hr hsp;exact⟨t,h.nox,q⟩
theorem Zr1(F:Zp9 K x qual st f fd)(S:aO N ps (aH st))(len:∀vs H Q E,sp vs H Q E->vs.length=ps.length)
  (hbody:∀(cdv:Value) (A:Around) (outer:List Env) (s:Shared) (H:Hp) (vs:List V) (Q:VK) (E:XK),Room k (A.deeper (envOfC qual (aH st) s.heap.objs.size f cdv))->sp vs H Q E->
   ∃t,PSs (Wl (CXe P w) P w K mg base N qual (aH st) f cdv A outer s H E) (jL st) t/\t { nx:=λ_ H'=>Q .non H',rt:=Q } (start N vs) H):uE P w K mg base (CXe P w) (k+1) f fd ps sp:=by
 obtain⟨oc,od,dV,kV,doc,pm,an,cdv,ct,osl,rfl,lk,hcd⟩:=F.ex;exact Zm8 lk hcd S len λA outer s H vs Q E hr hsp=>hbody cdv A outer s H vs Q E hr hsp
end
end G
namespace G
open PySem L2 PySem.Spec PyProof.Rows
structure Zyy(K:aC)(C:Addr):Prop where
 ga:W.findIn K (.ref C) "__getattribute__"=some (some (.builtin "BaseException.__getattribute__"))
 no:W.findIn K (.ref C) "__getattr__"=some none
 cl:W.findIn K (.ref C) "__class__"=some (some (.builtin "object.__class__"))
 so:W.mroIn K C (.type "object")=some true
 sb:W.mroIn K C (.type "BaseException")=some true
 is:W.hasDictIn K C=true
section
variable {prog:Program}{w:World}{A:Around}{E:Value->Shared->Prop}{h:Heap}{g:Array GenState}{d:Drawn}{t:Nat}{os:OsState}{a:Addr}{o:Obj}{C:Addr}{K:aC}
end
section
variable {X:Cx}
theorem Ph:Kr X (.type "list") (Wr X.K):=by
 intro pins s σ H xs us Q I r h;obtain⟨p,ys,rfl,hs,q⟩:=h;exact GR pins s σ H [.ref p] us Q I r ⟨p,ys,rfl,.inl hs,q⟩
end
end G
namespace G
open PySem L2 PySem.Spec PyProof.Rows
theorem Zgb:fastBuiltinMro "NoneType"=some [.type "NoneType",.type "object"]:=by decide +kernel
section
variable {K:aC}{A:Around}{a C:Addr}{o:Obj}
theorem Zoq{M:Model}{E:Value->Shared->Prop}{s:Shared}{Q:Unit->Shared->Prop}(LI:W.Looks M s.heap (isInstance (.ref a) (.type "object")) true)(hq:Q () s):wpAny M A (checkBuiltinCall "object.__eq__" ⟨[.ref a,.none],[]⟩) Q E s:=by
 have ha:=PySem.F.cmpArgs_eq (.ref a) .none;simp only[checkBuiltinCall,PySem.F.cmpKind_eq,PySem.F.cmpSplit_eq];refine wpAny_bind (LI.here ?_);simp only[Bool.not_true,Bool.false_eq_true,if_false];cases hsig:Manifest.signature? "object.__eq__" with
 | none=>exact wpAny_pure hq
 | some sig=>
  simp only[argsOk,hsig]at ha;have h2:Bind.checkArgs "object.__eq__" sig ⟨[.ref a,.none],[]⟩=pure ():=ha;show wpAny M A (Bind.checkArgs "object.__eq__" sig ⟨[.ref a,.none],[]⟩) Q E _;rw[h2];exact wpAny_pure hq
theorem Zlg{prog:Program}{w:World}{E:Value->Shared->Prop}{s:Shared}{Q:Value->Shared->Prop}(LI:W.Looks (model prog w) s.heap (isInstance (.ref a) (.type "object")) true)(hq:Q .notImplemented s):
  wpAny (model prog w) A (call (.builtin "object.__eq__") [.ref a,.none]) Q E s:=by
 refine wpAny_call (codeAny_call_builtin PySem.F.cmp_object.eq.plain PySem.F.cmpEntry_eq (Zoq LI ?_));obtain⟨h,g,d,t,os⟩:=s;unfold Builtin.«object.__eq__»
 repeat (first | with_reducible refine wpAny_bind (m:=isSame (.ref a) .none) (wpAny_pure ?_) | wp_step)
 exact hq
theorem Zmg{prog:Program}{w:World}{E:Value->Shared->Prop}{s:Shared}{Q:Option Value->Shared->Prop}(X:K.In s.heap)(hx:s.heap.get? a=some o)(hc:o.cls=.ref C)(hE:EqD K C)(hq:Q none s):
  wpAny (model prog w) A (tryCompare (.ref a) "__eq__" .none) Q E s:=by
 have LT:W.Looks (model prog w) s.heap (typeOf (.ref a)) (.ref C):=hc ▸ (W.Looks.ld hx).andThen .now;have LI:W.Looks (model prog w) s.heap (isInstance (.ref a) (.type "object")) true:=LT.andThen (W.looks_mroIn X hE.ob);have LS:W.Looks (model prog w) s.heap (specialOf (.ref a) "__eq__") (some (.builtin "object.__eq__")):=LT.andThen (W.looks_findIn X hE.eq);simp only[tryCompare];refine wpAny_bind ?_;simp only[callSpecialIfBound?,bindSpecialIfBound?];refine wpAny_holding (wpAny_bind (wpAny_bind (LS.here ?_)));simp only[PySem.F.cmp_object.eq.bind];have fin:wpAny (model prog w) A (call (.builtin "object.__eq__") ([.ref a]++[.none]) >>= λv=>pure (some v)) (λr s'=>wpAny (model prog w) A (match r with | some .notImplemented | none=>pure none | some v=>pure (some v)) Q E s') E s:=
  wpAny_bind (Zlg LI (wpAny_pure (wpAny_pure hq)))
 refine wpAny_bind (wpAny_askSetting (wpAny_ite ?_));split
 ·exact wpAny_bind (wpAny_pure (wpAny_pure fin))
 ·exact wpAny_tryCatch (wpAny_bind (wpAny_pure (wpAny_pure fin)))
theorem Zj5{s:Shared}(X:K.In s.heap)(hx:s.heap.get? a=some o)(hc:o.cls=.ref C)(hE:EqD K C)(hu:A.units<cLine):SeqAt.RcAt A s (.ref a) .none false:=λprog w E Q h=>by
 have LT:W.Looks (model prog w) s.heap (typeOf (.ref a)) (.ref C):=hc ▸ (W.Looks.ld hx).andThen .now;have hi:cmpInfo CmpOp.Eq=("==",("__eq__":Str),("__eq__":Str)):=rfl;have ho:oneThing? .Eq (.ref a) .none=none:=rfl;simp only[richCompare,hi,ho]
 try with_reducible refine wpAny_holding ?_
 refine wpAny_bind (wpAny_cRoomFor_or (.inr hu) ?_);refine wpAny_bind (LT.here (wpAny_bind (m:=typeOf .none) (wpAny_pure ?_)));have hne:(Value.ref C != Value.type "NoneType")=true:=by simp
 simp only[hne,if_true];have hs:isSubtype (.type "NoneType") (.ref C)=pure false:=by
  rw[isSubtype_type,Zgb];rfl
 refine wpAny_bind (wpAny_of_eq hs ?_);simp only[Bool.false_eq_true,if_false,Bool.not_false,if_true];refine wpAny_bind (m:=tryCompare (.ref a) _ .none) (Zmg X hx hc hE ?_);refine wpAny_bind (m:=tryCompare .none _ (.ref a)) (wpAny_tryCompare_declines (T:="NoneType") rfl PySem.F.slot_NoneType_eq_refl (call_gives PySem.F.slot_NoneType_eq_refl rfl PySem.F.entry_NoneType_eq (PySem.F.args_NoneType_eq_2 _ _) (SeqAt.NoneType___eq___none_ref_0 a) ⟨rfl,?_⟩));exact wpAny_bind (wpAny_rule (wpAny_bind (wpAny_of_eq (rfl:isSame (.ref a) .none=pure false) (wpAny_pure h))))
theorem Zlf{s:Shared}(X:K.In s.heap)(hx:s.heap.get? a=some o)(hc:o.cls=.ref C)(hE:EqD K C)(hu:A.units<cLine):SeqAt.EqAt A s (.ref a) .none false:=λprog w E Q h=>by
 unfold eqBool;refine wpAny_holding ?_;refine wpAny_ite_split (λhab=>absurd (eq_of_beq hab) nofun) (λ_=>?_);exact wpAny_bind (Zj5 X hx hc hE hu prog w E _ (wpAny_truthy_bool h))
end
section
variable {X:Cx}
def Aj(u:Value):Bool:=match u with
 | .none=>true
 | _=>false
theorem Yl{H:Hp}{y:V}{u:Value}(r:RelV y u)(h:y=.non\/∃a C dx fs,y=.ref a/\H a=some (.ins C dx fs)/\De X.K C/\EqD X.K C):Aj u=decide (y=.non):=by
 rcases h with rfl | ⟨a,_,_,_,rfl,_⟩
 ·obtain rfl:u=Value.none:=r;rfl
 ·obtain rfl:u=Value.ref a:=r;rfl
theorem Zgd{pins:List (Addr×Obj)}{σ:L2.St}{H:Hp}{s:Shared}{A:Around}{y:V}{u:Value}(I:Inv X pins σ H s)(hu:A.units<cLine)(r:RelV y u)(h:y=.non\/∃a C dx fs,y=.ref a/\H a=some (.ins C dx fs)/\De X.K C/\EqD X.K C):SeqAt.EqAt A s u .none (Aj u):=by
 rcases h with rfl | ⟨a,C,dx,fs,rfl,ha,hc,he⟩
 ·obtain rfl:u=Value.none:=r;exact SeqAt.EqAt.same .none
 ·obtain rfl:u=Value.ref a:=r;obtain⟨_,_,_,e,_⟩:=(show jx X.prog X.w H s.heap a (.ins C dx fs)from I.hok a _ ha);exact Zlf I.CP e rfl he hu
theorem Yk{H:Hp}:∀{xs:List V}{us:List Value},Vals xs us->OkN X.K H xs->us.any Aj=decide (V.non∈xs)
 | _,_,.nil,_=>rfl
 | y::xs,u::us,.cons r t,h=>by
  rw[List.any_cons,Yk t λz hz=>h z (List.mem_cons_of_mem _ hz),Yl r (h y List.mem_cons_self),Bool.eq_iff_iff];simp only[Bool.or_eq_true,decide_eq_true_eq,List.mem_cons];constructor
  ·rintro(z | z)
   ·exact .inl z.symm
   ·exact .inr z
  ·rintro(z | z)
   ·exact .inl z.symm
   ·exact .inr z
theorem Yi{H:Hp}{pins:List (Addr×Obj)}{σ:L2.St}{s:Shared}{A:Around}{xs:List V}{us:List Value}(I:Inv X pins σ H s)(hu:A.units<cLine)(r:Vals xs us)(h:OkN X.K H xs):∀u∈us,SeqAt.EqAt A s u .none (Aj u):=by
 intro u hm;obtain⟨i,hi,rfl⟩:=List.getElem_of_mem hm;have hl:=r.length;have hx:xs[i]? =some xs[i]:=cJ (by omega);obtain⟨u',e,ru⟩:=r.get hx;rw[cJ hi]at e;cases e;exact Zgd I hu ru (h _ (List.getElem_mem (by omega)))
theorem Zdq(hu:X.A.units+1<cLine):Cq X (compareOp .NotIn) (Zmu X.K true):=by
 intro pins s σ H x y v u Q I rx ry h;obtain⟨p,xs,rfl,rfl,hs,hk,q⟩:=h;obtain rfl:v=Value.none:=rx;cases ry;obtain⟨us,r,pl,_⟩:=I.list hs;refine SeqAt.notIn_listAt Aj pl.isList (λw hw=>Yi I (by show X.A.units+1<cLine;exact hu) r hk w (by simpa using hw)) ⟨.bl _,H,I,rfl,?_⟩;rw[show us.toArray.any Aj=us.any Aj by simp,Yk r hk];exact q
theorem Yj{H:Hp}{xs:List V}{us:List Value}(r:Vals xs us)(h:OkN X.K H xs)(j:Nat)(hj:j<us.length)(hj':j<xs.length):Aj us[j]=decide (xs[j]=V.non):=by
 obtain⟨u',e,ru⟩:=r.get (cJ hj');rw[cJ hj]at e;cases e;exact Yl ru (h _ (List.getElem_mem hj'))
theorem Zdw(hu:X.A.units+1<cLine):MtR X "list.index" (Zcg X.K):=by
 intro pins s σ H x xs v us Q I rx rs h;obtain⟨p,ys,rfl,rfl,hs,hk,hn,q⟩:=h;obtain rfl:v=Value.ref p:=rx;obtain⟨u,rfl,ru⟩:=Vals.one rs;obtain rfl:u=Value.none:=ru;obtain⟨ws,r,pl,hz⟩:=I.list hs;obtain⟨⟨cls,dd,data,sl⟩,ho,hc,n,hd⟩:=pl.isList;simp only at hc hd;subst hc hd;have hl:=r.length;have hj:ys.idxOf V.non<ys.length:=List.idxOf_lt_length_iff.mpr hn;have hz2:ys.length<2 ^ 62:=Nat.lt_of_le_of_lt hz (by decide);refine call_meets PySem.F.slot_list_index ⟨_,ho,rfl⟩ PySem.F.entry_list_index (PySem.F.args_list_index_2 _ _)
  (SeqAt.list_indexAt p ws.toArray n dd sl .none Aj (ys.idxOf V.non) (by simpa[hl]using hj) (by omega) ?_ ?_) ⟨ho,λy hy=>Yi I (by show X.A.units+1<cLine;exact hu) r hk y (by simpa using hy),⟨.int _,H,I.tok _,⟨_,rfl⟩,q⟩⟩
 ·show Aj ws[ys.idxOf V.non]=true;rw[Yj r hk _ (by omega) hj,decide_eq_true_eq];exact List.getElem_idxOf hj
 ·intro j hjs hlt;show Aj ws[j]=false;rw[Yj r hk j (by simpa using hjs) (by omega),decide_eq_false_iff_not];intro e;have:=List.not_of_lt_findIdx (p:=(· == V.non)) (xs:=ys) hlt;simp[e]at this
end
end G
namespace G
open PySem L2
def Zdk:R2:=λx y H Q=>∃b,y=.bl b/\Q (.bl (decide (x=.bl b))) H
theorem Zqi{x:V}{b:Bool}{H:Hp}{Q:VK}(h:Q (.bl (decide (x=.bl b))) H):Zdk x (.bl b) H Q:=⟨b,rfl,h⟩
def Mz(C:Addr):TE:=λ_ H Q=>∀x dx,H x=none->H dx=none->dx≠x->Q (.ref x) (upd (upd H dx (.own x)) x (.ins C dx []))
theorem Zks{C:Addr}{σ:St}{H:Hp}{Q:VK}(h:∀x dx,H x=none->H dx=none->dx≠x->Q (.ref x) (upd (upd H dx (.own x)) x (.ins C dx []))):Mz C σ H Q:=h
def Dg(t u:TE):TE:=λσ H Q=>t σ H Q\/u σ H Q
theorem Kg{t u:TE}{σ:St}{H:Hp}{Q:VK}(h:t σ H Q):Dg t u σ H Q:=.inl h
theorem yV{t u:TE}{σ:St}{H:Hp}{Q:VK}(h:u σ H Q):Dg t u σ H Q:=.inr h
end G
namespace G
open PySem L2 PySem.Spec PyProof.Rows
section
variable {X:Cx}
theorem Ad:Cq X (compareOp .Is) Zdk:=by
 intro pins s σ H x y v u Q I rx ry h;obtain⟨b,rfl,q⟩:=h;cases ry;cases x with
 | bl c=>
  cases rx;refine wpAny_is_plain rfl (dZ I q ?_);cases b<;>cases c<;>rfl
 | non=>cases rx;exact wpAny_is_plain rfl (dZ I q rfl)
 | ref a=>cases rx;exact wpAny_is_plain rfl (dZ I q rfl)
 | ty a=>cases rx;exact wpAny_is_plain rfl (dZ I q rfl)
 | _=>obtain⟨t,rfl⟩:=rx;exact wpAny_is_plain rfl (dZ I q rfl)
theorem qO{e:Expr}{t u:TE}(h1:PE X e t)(h2:PE X e u):PE X e (Dg t u):=by
 intro pins s σ H Q I h;rcases h with h | h
 ·exact h1 pins s σ H Q I h
 ·exact h2 pins s σ H Q I h
structure Mk0(K:aC)(C:Addr):Prop where
 makes:W.makesIn K C=true
 init:W.findIn K (.ref C) "__init__"=some (some (.builtin "object.__init__"))
 kp:W.keepIn K (.ref C)=true
theorem Za6{C:Addr}{pins:List (Addr×Obj)}{σ:L2.St}{H:Hp}{s:Shared}{Q:VK}(M:Mk0 X.K C)(I:Inv X pins σ H s)
  (h:∀x dx,H x=none->H dx=none->dx≠x->Q (.ref x) (upd (upd H dx (.own x)) x (.ins C dx []))):wpAny (model X.prog X.w) X.A (call (.ref C) []) (EP X pins σ Q) X.xe s:=by
 have hq:=h (s.heap.objs.size+1) s.heap.objs.size (I.hok.fresh (Nat.le_succ _)) (I.hok.fresh (Nat.le_refl _)) (Nat.ne_of_lt (Nat.lt_succ_self _));have I2:=Inv.made (C:=C) I;have Y:=W.makes_of (M:=model X.prog X.w) I.CP M.makes;refine wpAny_call (Zdx I.CP M.makes M.init (λself=>W.Looks.of_pure (W.oi_bind self)) ?_);have e2:((s.heap.push W.emptyDict).push (W.instObj C s.heap.objs.size)).get? (s.heap.objs.size+1)=some (W.instObj C s.heap.objs.size):=by
  have:=Heap.get?_push_size (s.heap.push W.emptyDict) (o:=W.instObj C s.heap.objs.size) rfl;rw[Heap.size_push]at this;exact this
 have t1:W.Looks (model X.prog X.w) ((s.heap.push W.emptyDict).push (W.instObj C s.heap.objs.size)) (typeOf (.ref (s.heap.objs.size+1))) (.ref C):=(W.Looks.ld e2).andThen .now;have t2:W.Looks (model X.prog X.w) ((s.heap.push W.emptyDict).push (W.instObj C s.heap.objs.size)) (isInstance (.ref (s.heap.objs.size+1)) (.type "object")) true:=t1.andThen (Y.top.keeps λb o e=>Heap.get?_push_of_some _ (Heap.get?_push_of_some _ e));refine codeAny_call_builtin W.oi_plain W.entry_oi (@W.check_slot (model X.prog X.w) _ _ _ "object.__init__" "object" "__init__" (.ref (s.heap.objs.size+1)) [] [] _ W.oi_kind W.oi_split t2 (W.oi_args (.ref (s.heap.objs.size+1))) ?_);rw[W.oi_run];exact wpAny_pure (And.intro rfl ⟨V.ref (s.heap.objs.size+1),_,I2,rfl,hq⟩)
theorem Io{C:Addr}{x:Str}{p pos:Pos}(M:Mk0 X.K C)(hg:Gl X x)(hm:X.mg x=some (.ref C))(hdb:(x == ("__debug__":Str))=false:=by decide):PE X (.Call (.Name x p) [] [] pos) (Mz C):=by
 intro pins s σ H Q I h;refine wpAny_Call_Name_kw (yE I hg hm ?_ hdb);exact W.callWith_K0 I.CP M.kp (Za6 M I h)
structure Zyx(K:aC)(C:Addr):Prop where
 pg:W.plainGet K C "__class__"=true
 hd:W.hasDictIn K C=true
 cl:W.findIn K (.ref C) "__class__"=some (some (.builtin "object.__class__"))
 sp:W.specialIn K (.builtin "object.__class__") "__get__"=some (some (.builtin "getset_descriptor.__get__"))
 tk:W.takesIn K (.builtin "object.__class__")=some true
 so:W.mroIn K C (.type "object")=some true
end
end G
namespace G
open PySem L2
theorem Zhv{P:Program}{w:World}{K:aC}{mg:Str->Option Value}{base:Heap}{CX:Xh}{k:Nat}{f:Addr}{fd:FuncData}{ps:List Str}{sp:Sp}(h:∀vs H Q E,sp vs H Q E->False):uE P w K mg base CX k f fd ps sp:=
 ⟨λvs H Q E z=>(h vs H Q E z).elim,λ_ _ _ H _ _ vs Q E _ _ _ _ z=>(h vs H Q E z).elim⟩
end G
namespace G
open PySem L2 PySem.Spec PyProof.Rows
end G
namespace G
open PySem L2 PySem.Spec PyProof.Rows
def Zq(w:World):List DictEntry->List (Str×Addr)->Prop
 | [],[]=>True
 | e::es,p::t=>e.hash=hashStr w p.1/\(∃tk,e.key=.str p.1 tk)/\e.val=.ref p.2/\Zq w es t
 | _,_=>False
def Tab(K:aC)(w:World)(mg:Str->Option Value)(nm:Str)(Bl:List (Str×Addr)):Prop:=
 ∃dd o es ep,mg nm=some (.ref dd)/\K.lookup dd=some o/\o.ExactDict/\o.data=.dict es ep/\Zq w es.toList Bl
theorem Zq.keys{prog:Program}{w:World}:∀{es:List DictEntry}{Bl:List (Str×Addr)},Zq w es Bl->∀e∈es,∃k,(strKind prog w).is k e.key=true/\e.hash=(strKind prog w).hash k
 | [],_,_=>λe he=>absurd he List.not_mem_nil
 | e::es,[],h=>h.elim
 | e::es,p::t,h=>λx hx=>by
  obtain⟨h1,⟨tk,h2⟩,_,h4⟩:=h;rcases List.mem_cons.mp hx with rfl | hx
  ·refine⟨p.1,?_,h1⟩;rw[h2];show Value.isStrOf p.1 (.str p.1 tk)=true;simp[Value.isStrOf]
  ·exact Zq.keys h4 x hx
theorem Zq.find{w:World}:∀{es:List DictEntry}{Bl:List (Str×Addr)}{k:Str}{f:Addr},Zq w es Bl->Bl.lookup k=some f->(es.find? λe=>Value.isStrOf k e.key).map (·.val)=some (.ref f)
 | [],[],_,_,_,h=>by cases h
 | [],_::_,_,_,h,_=>h.elim
 | _::_,[],_,_,h,_=>h.elim
 | e::es,p::t,k,f,h,hl=>by
  obtain⟨_,⟨tk,h2⟩,h3,h4⟩:=h;rw[List.find?_cons,h2]
  by_cases hk:k=p.1
  ·subst hk;have e1:Value.isStrOf p.1 (.str p.1 tk)=true:=by simp[Value.isStrOf]
   rw[e1];have e2:List.lookup p.1 (p::t)=some p.2:=by
    obtain⟨a,b⟩:=p;simp[List.lookup]
   rw[e2]at hl;cases hl;show some e.val=_;rw[h3]
  ·have e1:Value.isStrOf k (.str p.1 tk)=false:=by
    simp only[Value.isStrOf,beq_eq_false_iff_ne,ne_eq];exact λz=>hk z.symm
   rw[e1];have e2:List.lookup k (p::t)=List.lookup k t:=by
    obtain⟨a,b⟩:=p;simp only[List.lookup];rw[beq_eq_false_iff_ne.mpr hk]
   rw[e2]at hl;exact Zq.find h4 hl
def Zmk(Bl:List (Str×Addr))(ti:TE):TE:=λσ H Q=>ti σ H λy H1=>∃k f,y=.str k/\Bl.lookup k=some f/\Q (.ref f) H1
theorem Zq9{Bl:List (Str×Addr)}{ti:TE}{σ:L2.St}{H:Hp}{Q:VK}(h:ti σ H λy H1=>∃k f,y=.str k/\Bl.lookup k=some f/\Q (.ref f) H1):Zmk Bl ti σ H Q:=h
theorem Zmw{X:Cx}{nm:Str}{Bl:List (Str×Addr)}{i:Expr}{ti:TE}{p pos:Pos}(T:Tab X.K X.w X.mg nm Bl)(hg:Gl X nm)(hi:PE X i ti)(hs:Zre i)(hd:(nm == ("__debug__":Str))=false:=by decide):
  PE X (.Subscript (.Name nm p) i pos) (Zmk Bl ti):=by
 intro pins s σ H Q I h;obtain⟨dd,o,es,ep,hm,hk,ho,hda,te⟩:=T;refine Zij PySem.F.slot_dict_getitem.lookup hs (yE I hg hm ?_ hd);refine jW (hi pins s σ H _ I h) λiv s2 ⟨y,H2,I2,ry,k,f,ey,l,q2⟩=>?_;subst ey;have hh:=I2.CP dd o hk;refine⟨⟨o,hh,ho.1⟩,?_⟩;obtain⟨tk,rfl⟩:∃tk,iv=.str k tk:=ry;refine wpAny_getItem_of (knd:=strKind X.prog X.w) (k:=k) (f:=λk=>findBy Value.isStrOf es k) (by show Value.isStrOf k (.str k tk)=true;simp[Value.isStrOf]) ⟨o,es,ep,hh,ho,hda,λe he=>te.keys e (by simpa using he),λ_=>rfl⟩ (v:=.ref f) ?_ ⟨.ref f,H2,I2.tok _,rfl,q2⟩;show Option.map (λx=>x.val) (Array.find? (λe=>Value.isStrOf k e.key) es)=_;rw[<- Array.find?_toList];exact te.find l
def FnT(P:Program)(w:World)(K:aC)(mg:Str->Option Value)(base:Heap)(CX:Xh)(k:Nat)(ps:List Str)(L:List (Addr×Sp)):Prop:=
 ∀f sp,(f,sp)∈L->∃k' fd,k'<=k/\uE P w K mg base CX k' f fd ps sp/\W.keepIn K (.ref f)=true/\L2.Binds K fd ps []
theorem FnT.nil{P:Program}{w:World}{K:aC}{mg:Str->Option Value}{base:Heap}{CX:Xh}{k:Nat}{ps:List Str}:FnT P w K mg base CX k ps []:=λ_ _ h=>absurd h List.not_mem_nil
theorem FnT.cons{P:Program}{w:World}{K:aC}{mg:Str->Option Value}{base:Heap}{CX:Xh}{k k':Nat}{ps:List Str}{L:List (Addr×Sp)}{f:Addr}{fd:FuncData}{sp:Sp}(hk:k'<=k)(F:uE P w K mg base CX k' f fd ps sp)(hb:L2.Binds K fd ps [])(hp:W.keepIn K (.ref f)=true)(t:FnT P w K mg base CX k ps L):FnT P w K mg base CX k ps ((f,sp)::L):=λg sp' h=>by
 rcases List.mem_cons.mp h with e | h
 ·cases e;exact⟨k',fd,hk,F,hp,hb⟩
 ·exact t g sp' h
def ZV(i:Nat)(L:List (Addr×Sp))(E:XK)(t:TA):TE:=λσ H Q=>∃f sp,σ[i]? =some (some (.ref f))/\(f,sp)∈L/\t σ H λvs H1=>sp vs H1 Q E
theorem Mh{i:Nat}{L:List (Addr×Sp)}{E:XK}{t:TA}{σ:L2.St}{H:Hp}{Q:VK}{f:Addr}(sp:Sp)(hf:σ[i]? =some (some (.ref f)))(hm:(f,sp)∈L)(h:t σ H λvs H1=>sp vs H1 Q E):ZV i L E t σ H Q:=⟨f,sp,hf,hm,h⟩
theorem Zg1{X:Cx}{CX:Xh}{k i:Nat}{ps:List Str}{L:List (Addr×Sp)}{x:Str}{E:XK}{e:Expr}{es:List Expr}{t:TA}{p pos:Pos}(F:FnT X.prog X.w X.K X.mg X.base CX k ps L)(hr:Room k X.A)(hN:X.N[i]? =some x)(hv:Vis X.env.scope x)(hx:Passes CX X E)
  (ha:PA X (e::es) t) (hd:(x == ("__debug__":Str))=false:=by decide) (hcd:(x == ("__classdict__":Str))=false:=by decide) (he:starEach (e::es) X.env=(false,eval e X.env)::starEach es X.env:=by rfl) (hpl:(backTo pos (starEach es X.env)).any (·.1)=false:=by rfl):
  PE X (.Call (.Name x p) (e::es) [] pos) (ZV i L E t):=by
 intro pins s σ H Q I h;obtain⟨f,sp,ef,hm,h⟩:=h;obtain⟨k',fd,hk,FO,hp,hb⟩:=F f sp hm;refine wpAny_Call_Name_kw (jW (Zfx hN hv hd hcd pins s σ H (λv H'=>v=.ref f/\H'=H) I ⟨_,ef,rfl,rfl⟩) λu s1 ⟨v,H1,I1,r,e1,e2⟩=>?_);subst e1 e2;obtain rfl:u=Value.ref f:=r;refine W.callWith_K (h₀:=X.base) I1.ok.mod.kin hp (jW (ha pos pins s1 σ H1 _ I1 h) λus s2 ⟨vs,H2,I2,r2,q2⟩=>⟨I2.CP,?_⟩) he hpl;refine UJ (Bd:=[]) FO (hr.mono hk) hb .nil hx I2 r2 ?_;rw[List.append_nil];exact q2
section
variable {σ:L2.St}{H:Hp}{Q:VK}{td ty tv:TE}{n bk ct:L2.St->Hp->Prop}{r:VK}
theorem Zhe(h:ty σ H λy H1=>td σ H1 λx H2=>∃a o,x=.ref a/\Zer H2 a y o/\Q (.bl (!o.isSome)) H2):Lp ty td σ H Q:=h
theorem Zo9(h:tv σ H λv H1=>td σ H1 λx H2=>ty σ H2 λy H3=>∃a H4,x=.ref a/\Zc7 H3 a y v H4/\n σ H4):Zce td ty tv ⟨n,r,bk,ct⟩ σ H:=h
end
end G
namespace G
open PySem L2 PySem.Spec PyProof.Rows
def Zlq(K:aC)(J:It)(caps:List Nat)(tc:TT)(te:TE)(σ:L2.St)(H1:Hp)(Q:VK):Prop:=∃W:Nat->Nat->List V->Hp->Prop,(∃m,W 0 m [] H1)/\∀i m ys H,W i m ys H->
 (J.stop i H/\∀p,H p=none->Q (.ref p) (upd H p (.lst ys)))\/
 (J.go i H/\ys.length<sizeLine/\∀x H',J.ZD i H x H'->∃a u v,x=.ref a/\qZ K H' a [u,v]/\tc (some u::some v::caps.map (pick σ)) H' λk H2=>if k=true then te (some u::some v::caps.map (pick σ)) H2 (λy H3=>∃m',m'<m/\W (i+1) m' (ys++[y]) H3)else ∃m',m'<m/\W (i+1) m' ys H2)
def Zf1(K:aC)(wi:TI)(caps:List Nat)(tc:TT)(te:TE):TE:=λσ H Q=>wi σ H λJ H1=>Zlq K J caps tc te σ H1 Q
theorem Znz{K:aC}{wi:TI}{caps:List Nat}{tc:TT}{te:TE}{σ:L2.St}{H:Hp}{Q:VK}(h:wi σ H λJ H1=>Zlq K J caps tc te σ H1 Q):Zf1 K wi caps tc te σ H Q:=h
def Zrj(K:aC)(te:TE):TE:=λσ H Q=>∃a u v r,σ=some (.ref a)::r/\qZ K H a [u,v]/\te (some u::some v::r) H Q
theorem Zcq{K:aC}{J:It}{caps:List Nat}{te:TE}{σ:L2.St}{H:Hp}{Q:VK}(h:LCg J caps tK (Zrj K te) σ H Q):Zlq K J caps tK te σ H Q:=by
 obtain⟨W,w0,step⟩:=h;refine⟨W,w0,λi m ys H hw=>?_⟩;rcases step i m ys H hw with z | ⟨g,l,st⟩
 ·exact .inl z
 ·refine .inr ⟨g,l,λx H' y=>?_⟩;have h1:=st x H' y;simp only[tK,↓reduceIte]at h1;obtain⟨a,u,v,r,e,hs,q⟩:=h1;cases e;refine⟨a,u,v,rfl,hs,?_⟩;simp only[tK,↓reduceIte];exact q
theorem Zaf{X:Cx}{elt iter:Expr}{x y:Str}{px py pt pos:Pos}{kt:Nat}{ifs:List Expr}{scope:Scope}{cl:List (Str×Addr)}{wi:TI}{tc:TT}{te:TE}{cns:List Str}(caps:List Nat)
  (hi:PI X (.Tuple [.Name x px,.Name y py] kt pt) iter wi)
  (hf:∀C s H ex pn,PF (JN X scope cl (x::y::cns) C s H ex pn) ifs tc) (he:∀C s H ex pn,PE (JN X scope cl (x::y::cns) C s H ex pn) elt te) (hc:X.calm=true)
  (hclos:closureFor scope X.env=pure cl) (hcl:AllIn X.env.cells cl) (hcap:zf X cns caps)
  (hkind:scope.kind=.function) (hcell:(scope.names.all λp=>p.2 != .cell)=true) (hfree:(scope.names.all λp=>p.2 != .free || (cl.lookup p.1).isSome)=true)
  (hcf:(cns.all λy=>scope.names.lookup y == some .free)=true) (hnames:∀y∈scope.names,y.2=.local->scope.names.lookup y.1=some .local) (hx:scope.names.lookup x=some .local) (hy:scope.names.lookup y=some .local) (hnd:(x::y::cns).Nodup)
  (hs:∀v,foldedSetIterable iter X.env v=pure v:=by intro _;rfl):
  PE X (.ListComp elt [⟨.Tuple [.Name x px,.Name y py] kt pt,iter,ifs,0⟩] scope pos) (Zf1 X.K wi caps tc te):=by
 refine Zfz (ns:=[x,y]) (gt:=Zee X.K 2 (yW (aP 0) (yW (aP 1) Zef))) caps (λJ σ H Q h=>?_) hi (λC s H ex pn=>Nt hc (mO (dR hnd rfl (.inl (lookup_relabel_local hx)) (.inr (lookup_relabel_local hx))) (mO (dR hnd rfl (.inl (lookup_relabel_local hy)) (.inr (lookup_relabel_local hy))) EY))) hf he hc hclos hcl hcap hkind hcell hfree hcf hnames hs;obtain⟨W,w0,turn⟩:=h;refine⟨W,w0,λi m ys H hw=>(turn i m ys H hw).imp id λ⟨g,l,st⟩=>⟨g,l,λz H' y vs hv=>?_⟩⟩;obtain⟨ta,u1,u2,ez,hst,st⟩:=st z H' y
 match vs,hv with
 | [v,v'],_=>exact⟨[some u1,some u2],rfl,⟨ta,_,ez,hst,rfl,_,_,rfl,_,_,rfl,rfl,rfl,rfl⟩,st⟩
end G
namespace G
open PySem L2 PySem.Spec PyProof.Rows
theorem XH{X:Cx}{iz:Nat}{z:Str}{pz Zps:Pos}{elt iter:Expr}{x:Str}{px pos:Pos}{ifs:List Expr}{scope:Scope}{cl:List (Str×Addr)}{wi:TI}{tc:TT}{te:TE}{cns:List Str}(caps:List Nat)
  (hi:PI X (.Name x px) iter wi)
  (hf:∀C s H ex pn,PF (JN X scope cl (x::cns) C s H ex pn) ifs tc) (he:∀C s H ex pn,PE (JN X scope cl (x::cns) C s H ex pn) elt te) (hc:X.calm=true)
  (hclos:closureFor scope X.env=pure cl) (hcl:AllIn X.env.cells cl) (hcap:zf X cns caps)
  (hkind:scope.kind=.function) (hcell:(scope.names.all λp=>p.2 != .cell)=true) (hfree:(scope.names.all λp=>p.2 != .free || (cl.lookup p.1).isSome)=true)
  (hcf:(cns.all λy=>scope.names.lookup y == some .free)=true) (hnames:∀y∈scope.names,y.2=.local->scope.names.lookup y.1=some .local) (hx:scope.names.lookup x=some .local) (hnd:(x::cns).Nodup)
  (hN:X.N.Nodup) (hiz:X.N[iz]? =some z) (hz:Loc X.env.scope z) (hfz:X.fn z=true\/X.env.scope.names.lookup z=some .local)
  (hsw:swapsWithSole [.Name z pz] (.ListComp elt [⟨.Name x px,iter,ifs,0⟩] scope pos) Zps.line X.env=pure true) (hs:∀v,foldedSetIterable iter X.env v=pure v:=by intro _;rfl):
  PS X (.Assign [.Name z pz] (.ListComp elt [⟨.Name x px,iter,ifs,0⟩] scope pos) Zps) (cG (ZR wi caps tc te) (aP iz)):=by
 intro pins s σ H D I h;generalize hQ:(λv H1=>aP iz v σ H1 D.nx)=Q;have h:ZR wi caps tc te σ H Q:=hQ ▸ h;rw[exec_Assign_arm];refine wpAny_bind (wpAny_standAt ?_);rw[hsw];refine wpAny_bind (wpAny_pure ?_);rw[if_pos rfl];refine wpAny_bind ?_;rw[evalThenUse]
 suffices key:wpAny (model X.prog X.w) X.A (comprehension (.ListComp elt [⟨.Name x px,iter,ifs,0⟩] scope pos) scope X.env (firstIterPos [⟨.Name x px,iter,ifs,0⟩] pos) (newList []) (firstAsync [⟨.Name x px,iter,ifs,0⟩]) (firstIter [⟨.Name x px,iter,ifs,0⟩] X.env) (some λv=>assignAll v ((assignEach [.Name z pz] X.env).map (·.2)))) (λ_ s'=>SP X pins D .next s') X.xe s from
  wpAny_bind (wpAny_mono key (λ_ s' h=>wpAny_pure (wpAny_pure h)) λ_ _ h=>h)
 refine Zcr (ns:=[x]) (gt:=aP 0) (R:=λJ σ H Q=>LCg J caps tc te σ H Q) caps (λJ σ H Q h=>?_) hi (λC s H ex pn=>dR hnd rfl (.inl (lookup_relabel_local hx)) (.inr (lookup_relabel_local hx))) hf he hc hclos hcl hcap hkind hcell hfree hcf hnames hs I h λacc C s6 m r0 hm fCC fin=>?_
 ·obtain⟨W,w0,turn⟩:=h;refine⟨W,w0,λi m ys H hw=>(turn i m ys H hw).imp id λ⟨g,l,st⟩=>⟨g,l,λz H' y vs hv=>?_⟩⟩
  match vs,hv with
  | [v],_=>exact⟨[some z],rfl,⟨rfl,rfl⟩,st z H' y⟩
 obtain⟨v,Hf,If,rf,qf,hfC⟩:=fin s6.heap (Heap.SameBut.refl _ _);have fC:tD X pins Hf C:=fCC hfC;obtain⟨oC,esC,epC,gC,dC,kC,nC⟩:=hm;have Ip:Inv X (pins++[(C,oC)]) σ Hf s6:=Inv.Bp If λp hp=>by
  rcases List.mem_append.mp hp with hp | hp
  ·exact If.pin p (List.mem_append_right _ hp)
  ·rw[List.mem_singleton.mp hp];exact⟨gC,fC.1,fC.2.1,fC.2.2.1,λv z=>by rw[dC]at z;cases z⟩
 show wpAny _ _ (assign (.Name z pz) X.env (.ref acc)) _ _ _;refine wpAny_assign_Name (MN Ip hN hiz hz rf (λs7 I7=>?_) hfz);have g7:=(I7.pin (C,oC) (List.mem_append_right _ (List.mem_append_right _ List.mem_cons_self))).1;refine⟨m,⟨oC,esC,epC,g7,dC,kC,nC⟩,λh' hs'=>?_⟩;have I8:=I7.Ed;have qf:D.nx (σ.set iz (some v)) Hf:=by rw[<- hQ]at qf;exact qf
 have kb:∀b o,b≠C->s7.heap.get? b=some o->h'.get? b=some o:=λb o hb e=>hs'.extBut b o hb e;refine⟨_,Hf,I8.step (ch:=[C]) (λb hb=>?_) (λb o _ _ hb e _=>kb b o (λz=>hb (by rw[z];exact List.mem_cons_self)) e) (λb o _ _ hb e _=>⟨o.slots,kb b o (λz=>hb (by rw[z];exact List.mem_cons_self)) e⟩) (λ_ _ _ _ h=>h) (λb o hb e=>⟨o,kb b o (λz=>hb (by rw[z];exact List.mem_cons_self)) e⟩) (λ_ _ h=>h) (λ_ _ _ h=>h) (λ_ ps h=>⟨#[],by simpa using h⟩) (λm' hm'=>?_) (λb u e=>?_) I8.bare,qf⟩
 ·rw[List.mem_singleton.mp hb];exact⟨fC.2.2.2.1,fC.2.1,fC.2.2.2.2.1,fC.2.2.2.2.2⟩
 ·obtain⟨o',e1,e2,e3,e4,e5⟩:=hm';exact⟨o',e1,e2,kb _ _ fC.2.1.symm e3,e4,e5⟩
 ·refine(I8.hok b u e).stay (λc w' hc q=>kb c w' ?_ q) (λ_ q=>q) λ_ _ q=>q;rintro rfl;rcases hc with rfl | hc
  ·rw[hfC]at e;cases e
  ·rw[hfC]at hc;cases hc
end G
namespace G
open PySem L2 PySem.Spec PyProof.Rows
end G
namespace G
open PySem L2
def Ite(K:aC)(a:Addr):It:=
 ⟨λi H=>∃xs x,cR K H a xs/\xs[i]? =some x,λi H x H'=>∃t v,x=.ref t/\H t=none/\H'=upd H t (.tup [.int i,v])/\∀xs,cR K H a xs->xs[i]? =some v,λi H=>∃xs,cR K H a xs/\xs.length<=i⟩
def Y4(K:aC)(ta:TA):TI:=λσ H R=>ta σ H λvs H1=>∃a,vs=[.ref a]/\(∃xs,cR K H1 a xs)/\R (Ite K a) H1
theorem Zsd{K:aC}{ta:TA}{σ:L2.St}{H:Hp}{R:It->Hp->Prop}(h:ta σ H λvs H1=>∃a,vs=[.ref a]/\(∃xs,cR K H1 a xs)/\R (Ite K a) H1):Y4 K ta σ H R:=h
def Js(v d:Addr):HO:=.ext λh=>h.IsItemsView v d
def ZS(td:TE):TE:=λσ H Q=>td σ H λx H1=>∃a kvs,x=.ref a/\Rd H1 a (.dK kvs)/\∀v,H1 v=none->Q (.ref v) (upd H1 v (Js v a))
theorem Zkv{td:TE}{σ:L2.St}{H:Hp}{Q:VK}(h:td σ H λx H1=>∃a kvs,x=.ref a/\Rd H1 a (.dK kvs)/\∀v,H1 v=none->Q (.ref v) (upd H1 v (Js v a))):ZS td σ H Q:=h
def Zr(H:Hp):List Addr->List (Key×V)->Prop
 | [],[]=>True
 | t::ts,kv::kvs=>H t=some (.tup [kV kv.1,kv.2])/\Zr H ts kvs
 | _,_=>False
def Zbv:List V->Hp->VK->Prop:=λxs H Q=>∃v a kvs,xs=[.ref v]/\H v=some (Js v a)/\Rd H a (.dK kvs)/\∀l ts H',H l=none->bC H H'->H' l=some (.lst (ts.map V.ref))->Zr H' ts kvs->Q (.ref l) H'
theorem Zku{H:Hp}{Q:VK}{v a:Addr}{kvs:List (Key×V)}(h1:H v=some (Js v a))(h2:Rd H a (.dK kvs))(h:∀l ts H',H l=none->bC H H'->H' l=some (.lst (ts.map V.ref))->Zr H' ts kvs->Q (.ref l) H'):Zbv [.ref v] H Q:=⟨v,a,kvs,rfl,h1,h2,h⟩
def Zl5(kvs:List (Key×V)):V->Option Bool
 | .int i=>some (nJ kvs (.inl i)).isSome
 | .str x=>some (nJ kvs (.inr x)).isSome
 | .non=>some false
 | _=>none
def Zf2(neg:Bool)(ty td:TE):TE:=λσ H Q=>ty σ H λy H1=>td σ H1 λx H2=>∃a kvs b,x=.ref a/\Rd H2 a (.dK kvs)/\Zl5 kvs y=some b/\Q (.bl (if neg then !b else b)) H2
theorem Zoa{neg:Bool}{ty td:TE}{σ:L2.St}{H:Hp}{Q:VK}(h:ty σ H λy H1=>td σ H1 λx H2=>∃a kvs b,x=.ref a/\Rd H2 a (.dK kvs)/\Zl5 kvs y=some b/\Q (.bl (if neg then !b else b)) H2):Zf2 neg ty td σ H Q:=h
section
variable {K:aC}{a:Addr}{g:TG}{tb:TS}{σ:L2.St}{H:Hp}{n:L2.St->Hp->Prop}{r:VK}
theorem Zr0(xs:List V)(Pv:Nat->L2.St->Hp->Prop)(h0:Pv 0 σ H)(hl:∀i σ H,i<=xs.length->Pv i σ H->cR K H a xs)
  (hs:∀i x t σ H,xs[i]? =some x->Pv i σ H->H t=none->g (.ref t) σ (upd H t (.tup [.int i,x])) λσ2 H2=>tb ⟨Pv (i+1),r,n,Pv (i+1)⟩ σ2 H2) (hd:∀ σ H,Pv xs.length σ H->n σ H):
  ∃W:Nat->Nat->L2.St->Hp->Prop,(∃m,W 0 m σ H)/\∀i m σ H,W i m σ H->
   ((Ite K a).stop i H/\n σ H)\/((Ite K a).go i H/\∃N:L2.St->Hp->Prop,(∀ σ' H',N σ' H'->∃m',m'<m/\W (i+1) m' σ' H')/\∀x H',(Ite K a).ZD i H x H'->g x σ H' λσ2 H2=>tb ⟨N,r,n,N⟩ σ2 H2):=by
 refine⟨λi m σ H=>i<=xs.length/\m=xs.length - i/\Pv i σ H,⟨xs.length,Nat.zero_le _,rfl,h0⟩,?_⟩;rintro i m σ H ⟨hi,rfl,p⟩;have hq:=hl i σ H hi p
 by_cases hk:i=xs.length
 ·subst hk;exact .inl ⟨⟨xs,hq,Nat.le_refl _⟩,hd σ H p⟩
 ·have hlt:i<xs.length:=by omega
  have hx:xs[i]? =some xs[i]:=cJ hlt;refine .inr ⟨⟨xs,_,hq,hx⟩,Pv (i+1),λσ' H' p'=>⟨xs.length - (i+1),by omega,by omega,rfl,p'⟩,?_⟩;rintro x H' ⟨t,v,rfl,ht,rfl,hv⟩;exact hs i v t σ H (hv xs hq) p ht
theorem Zkf{caps:List Nat}{tc:TT}{te:TE}{Q:VK}{xs:List V}(hs:cR K H a xs)(hz:xs.length<=1000000)(W:Nat->List V->Hp->Prop)(h0:W 0 [] H)(hst:∀i ys H1,W i ys H1->bC H H1/\ys.length<=i)
  (step:∀i x ys H1 t (C:List V->Hp->Prop),(∀zs H3,W (i+1) zs H3->C zs H3)->xs[i]? =some x->W i ys H1->H1 t=none->tc (some (.int i)::some x::caps.map (pick σ)) (upd H1 t (.tup [.int i,x])) λk H2=>if k=true then te (some (.int i)::some x::caps.map (pick σ)) H2 (λy H3=>C (ys++[y]) H3)else C ys H2)
  (q:∀ys H1,W xs.length ys H1->∀p,H1 p=none->Q (.ref p) (upd H1 p (.lst ys))):Zlq K (Ite K a) caps tc te σ H Q:=by
 refine⟨λi m ys H1=>i<=xs.length/\m=xs.length - i/\W i ys H1,⟨xs.length,Nat.zero_le _,rfl,h0⟩,?_⟩;rintro i m ys H1 ⟨hi,rfl,w⟩;obtain⟨sm,hl⟩:=hst i ys H1 w;have hq:cR K H1 a xs:=sm.seq hs
 by_cases hk:i=xs.length
 ·subst hk;exact .inl ⟨⟨xs,hq,Nat.le_refl _⟩,q ys H1 w⟩
 ·have hlt:i<xs.length:=by omega
  refine .inr ⟨⟨xs,_,hq,cJ hlt⟩,Nat.lt_of_le_of_lt (show ys.length<=1000000 by omega) (show 1000000<sizeLine by decide),?_⟩;rintro x H' ⟨t,v,rfl,ht,rfl,hv⟩;exact⟨t,_,_,rfl,qZ.of ao,step i v ys H1 t (λzs H3=>∃m',m'<xs.length - i/\i+1<=xs.length/\m'=xs.length - (i+1)/\W (i+1) zs H3) (λzs H3 w'=>⟨xs.length - (i+1),by omega,by omega,rfl,w'⟩) (hv xs hq) w ht⟩
end
end G
namespace G
open PySem L2 PySem.Spec PyProof.Rows
theorem Ze4{X:Cx}{pins:List (Addr×Obj)}{σ:L2.St}{H:Hp}{s:Shared}{h':Heap}{t':Nat}{e it:Addr}(I:Inv X pins σ H s)(k:∀b u,b≠e->b≠it->s.heap.get? b=some u->h'.get? b=some u)(fe:tD X pins H e)(fi:tD X pins H it):
  Inv X pins σ H { s with heap:=h',toks:=t' }:=by
 have ne:∀b u,H b=some u->b≠e:=λb u q z=>by rw[z,fe.1]at q;cases q
 have ni:∀b u,H b=some u->b≠it:=λb u q z=>by rw[z,fi.1]at q;cases q
 have nm:∀b,b∉[e,it]->b≠e/\b≠it:=λb hb=>⟨λz=>hb (by simp[z]),λz=>hb (by simp[z])⟩;refine I.step (g':=s.gens) (d':=s.drawn) (ch:=[e,it]) (λb hb=>?_) (λb o _ _ hc q _=>k b o (nm b hc).1 (nm b hc).2 q) (λb o _ _ hc q _=>⟨o.slots,k b o (nm b hc).1 (nm b hc).2 q⟩) (λ_ _ _ _ n=>n)
  (λb o hc q=>⟨o,k b o (nm b hc).1 (nm b hc).2 q⟩) (λ_ _ q=>q) (λ_ _ _ q=>q) (λb ps q=>⟨#[],by rw[q];simp⟩) (λm hm=>?_) (λb u q=>?_) I.bare
 ·rcases List.mem_cons.mp hb with z | z
  ·rw[z];exact⟨fe.2.2.2.1,fe.2.1,fe.2.2.2.2.1,fe.2.2.2.2.2⟩
  ·have z':b=it:=by simpa using z
   rw[z'];exact⟨fi.2.2.2.1,fi.2.1,fi.2.2.2.2.1,fi.2.2.2.2.2⟩
 ·obtain⟨o,es,ep,ho,r⟩:=hm;exact⟨o,es,ep,k _ o (Ne.symm fe.2.1) (Ne.symm fi.2.1) ho,r⟩
 ·refine(I.hok b u q).stay (λc v hc z=>?_) (λ_ z=>z) λ_ _ z=>z;rcases hc with y | y
  ·rw[y]at z ⊢;exact k b v (ne b u q) (ni b u q) z
  ·exact k c v (ne c _ y) (ni c _ y) z
theorem Oz{X:Cx}{pins:List (Addr×Obj)}{σ:L2.St}{H:Hp}{s:Shared}{h':Heap}{t':Nat}{e it a:Addr}{o:HO}(I:Inv X pins σ H s)(k:∀b u,b≠e->b≠it->s.heap.get? b=some u->h'.get? b=some u)(fe:tD X pins H e)(fi:tD X pins H it)
  (ha:s.heap.objs.size<=a) (new:jx X.prog X.w (upd H a o) h' a o):Inv X pins σ (upd H a o) { s with heap:=h',toks:=t' }:=by
 have hn:=I.hok.fresh ha;have ne:∀b u,H b=some u->b≠e:=λb u q z=>by rw[z,fe.1]at q;cases q
 have ni:∀b u,H b=some u->b≠it:=λb u q z=>by rw[z,fi.1]at q;cases q
 have nm:∀b,b∉[e,it]->b≠e/\b≠it:=λb hb=>⟨λz=>hb (by simp[z]),λz=>hb (by simp[z])⟩;have na:∀b u,s.heap.get? b=some u->b≠a:=λb u q=>Nat.ne_of_lt (Nat.lt_of_lt_of_le (Heap.lt_size q) ha);refine I.step (g':=s.gens) (d':=s.drawn) (ch:=[e,it]) (λb hb=>?_) (λb o _ _ hc q _=>k b o (nm b hc).1 (nm b hc).2 q) (λb o _ _ hc q _=>⟨o.slots,k b o (nm b hc).1 (nm b hc).2 q⟩) (λb u _ q n=>(aA (na b u q)).trans n)
  (λb o hc q=>⟨o,k b o (nm b hc).1 (nm b hc).2 q⟩) (λb xs q=>(aA (aB q hn)).trans q) (λb o xs q=>(aA (aB q hn)).trans q) (λb ps q=>⟨#[],by rw[aA (aB q hn),q];simp⟩) (λm hm=>?_) (λb u q=>?_) I.bare
 ·rcases List.mem_cons.mp hb with z | z
  ·rw[z];exact⟨fe.2.2.2.1,fe.2.1,fe.2.2.2.2.1,fe.2.2.2.2.2⟩
  ·have z':b=it:=by simpa using z
   rw[z'];exact⟨fi.2.2.2.1,fi.2.1,fi.2.2.2.2.1,fi.2.2.2.2.2⟩
 ·obtain⟨o,es,ep,ho,r⟩:=hm;exact⟨o,es,ep,k _ o (Ne.symm fe.2.1) (Ne.symm fi.2.1) ho,r⟩
 ·by_cases hb:b=a
  ·subst hb;rw[ao]at q;cases q;exact new
  ·rw[aA hb]at q;refine(I.hok b u q).stay (λc v hc z=>?_) (λc z=>by rw[aA (aB z hn)];exact z) λc xs z=>by rw[aA (aB z hn)];exact z
   rcases hc with y | y
   ·rw[y]at z ⊢;exact k b v (ne b u q) (ni b u q) z
   ·exact k c v (ne c _ y) (ni c _ y) z
theorem Zdb{P:Program}{w:World}{K:aC}{elts:List Expr}{x1:Nat}{pt:Pos}(a e it:Addr)(hne:e≠it):
    Turn P w K (.Tuple elts x1 pt) (Ite K a) [e,it] e (λi h=>(∃old,IsEnum h e it ((i:Nat):Int) old)/\h.IsListIter it a i) where
  mem:=by simp
  obj:=λi h st b hb=>by
    obtain⟨⟨old,he⟩,o,ho,c,d⟩:=st;rcases List.mem_cons.mp hb with z | z
    · rw[z];exact⟨_,he,λv z=>by cases z⟩
    · have z':b=it:=by simpa using z
      rw[z'];exact⟨o,ho,λv z=>by rw[d]at z;cases z⟩
  keep:=λi h h' st k=>⟨let ⟨old,he⟩:=st.1;⟨old,k e (by simp) _ he⟩,st.2.at λo q=>k it (by simp) o q⟩
  item:=by
    intro X hP hw hK hc i pins s σ H E I hf st hg;subst hP hw hK;obtain⟨xs,x,hq,hx⟩:=hg;obtain⟨its,rv,p,hz⟩:=I.list hq;obtain⟨u,hu,ru⟩:=rv.get hx;obtain⟨⟨old,he⟩,hit⟩:=st;have fe:=hf e (by simp);have fi:=hf it (by simp);have hes:e<s.heap.objs.size:=Heap.lt_size he;have his:it<s.heap.objs.size:=by obtain⟨o,q,_⟩:=hit;exact Heap.lt_size q
    refine wpAny_pyNext_enum_item he hit p.isList (x:=u) (by simpa using hu) hne λh1 ho1 hit1 ht1 hz1 hk1=>?_;refine⟨_,rfl,wpAny_letOwnedTupleGo_enum (s:={ s with heap:=h1,toks:=s.toks+1 }) ho1 λh2 he2 hs2=>?_⟩
    replace hs2:Heap.SameBut e h1 h2:=hs2
    have hn:H s.heap.objs.size=none:=I.hok.fresh (Nat.le_refl _);have I2:Inv X pins σ (upd H s.heap.objs.size (.tup [.int ((i:Nat):Int),x])) { s with heap:=h2,toks:=s.toks+1 }:=by
      refine Oz I (λb v hb hb' q=>hs2.extBut b v hb (hk1 b v hb hb' q)) fe fi (Nat.le_refl _) ?_;refine⟨by show 2<=sizeLine;decide,[.int ((i:Nat):Int) s.toks,u],.cons ⟨_,rfl⟩ (.cons ru .nil),⟨_,hs2.extBut _ _ (Nat.ne_of_gt hes) ht1,rfl,_,rfl⟩⟩
    refine⟨.ref s.heap.objs.size,_,I2,rfl,⟨_,x,rfl,hn,rfl,λys hy=>by rw[I.Yv hy hq];exact hx⟩,⟨⟨u,?_⟩,hit1.extBut hs2.extBut (Ne.symm hne)⟩,λb hb=>?_⟩
    · have e1:(((i+1:Nat)):Int)=(i:Int)+1:=by omega
      show IsEnum h2 e it (((i+1:Nat)):Int) u;rw[e1];exact he2
    · rcases List.mem_cons.mp hb with z | z
      · rw[z,aA (Nat.ne_of_lt hes)];exact fe.1
      · have z':b=it:=by simpa using z
        rw[z',aA (Nat.ne_of_lt his)];exact fi.1
  done:=by
    intro X hP hw hK hc i pins s σ H E I hf st hg;subst hP hw hK;obtain⟨xs,hq,hx⟩:=hg;obtain⟨its,rv,p,hz⟩:=I.list hq;obtain⟨⟨old,he⟩,hit⟩:=st;have hl:=rv.length;exact wpAny_pyNext_enum_end (I.ok.hd hc) he hit p.isList (by simp;omega) λh' hx'=>⟨rfl,Ze4 (t':=s.toks) I (λb o _ hb' q=>hx' b o hb' q) (hf e (by simp)) (hf it (by simp))⟩
  self:=λA i s Q E st h=>let ⟨_,he⟩:=st.1;wpAny_pyIter_enum he h
theorem U4{X:Cx}{elts:List Expr}{x1:Nat}{pt:Pos}{l:Expr}{ta:TA}{p pos:Pos}(hg:Gl X "enumerate")(hm:X.mg "enumerate"=none)(ha:PA X [l] ta)(hs:starEach [l] X.env=[(false,eval l X.env)]:=by rfl):
  PI X (.Tuple elts x1 pt) (.Call (.Name "enumerate" p) [l] [] pos) (Y4 X.K ta):=by
 intro pins s σ H R I h;refine Call_ (Ol I hg hm boot_enumerate (PyProof.Rows.callWith_type1 (jW (ha pos pins s σ H _ I h) λus s1 ⟨vs,H1,I1,r1,q1⟩=>?_) hs rfl));obtain⟨a,e,⟨xs,hq⟩,q⟩:=q1;subst e;cases r1 with
 | cons r rr=>
  cases rr;obtain rfl:_=Value.ref a:=r;obtain⟨its,rv,pl,hz⟩:=I1.list hq;refine call_enumerate_list pl.isList λh' he hit hsz hk=>?_;have I2:Inv X pins σ H1 { s1 with heap:=h' }:=I1.kept (t':=s1.toks) hk
  refine wpAny_pyIter_enum (s:={ s1 with heap:=h' }) he ?_;have hf:∀b,s1.heap.objs.size<=b->tD X pins H1 b:=λb hb=>I1.Zbn hb (I1.hok.fresh hb);refine⟨_,[s1.heap.objs.size+1,s1.heap.objs.size],_,_,H1,rfl,I2,Zdb a _ _ (Nat.succ_ne_self _),⟨⟨_,he⟩,hit⟩,λb hb=>?_,q⟩;rcases List.mem_cons.mp hb with z | z
  ·rw[z];exact hf _ (Nat.le_succ _)
  ·have z':b=s1.heap.objs.size:=by simpa using z
   rw[z'];exact hf _ (Nat.le_refl _)
end G
namespace G
open PySem L2 PySem.Spec PyProof.Rows
theorem Ze5{X:Cx}{pins:List (Addr×Obj)}{σ:L2.St}{H:Hp}{s:Shared}{a:Addr}{o:HO}(I:Inv X pins σ H s)(f:tD X pins H a)(new:jx X.prog X.w (upd H a o) s.heap a o):Inv X pins σ (upd H a o) s:=by
 have hn:=f.1;have r:Inv X pins σ (upd H a o) { s with heap:=s.heap,gens:=s.gens,drawn:=s.drawn,toks:=s.toks }:=by
  refine I.step (g':=s.gens) (t':=s.toks) (d':=s.drawn) (ch:=[a]) (λb hb=>?_) (λb u _ _ _ q _=>q) (λb u _ _ _ q _=>⟨u.slots,q⟩) (λb u hc q n=>(aA (λz=>hc (by simp[z]))).trans n) (λb u _ q=>⟨u,q⟩)
   (λb xs q=>(aA (aB q hn)).trans q) (λb u xs q=>(aA (aB q hn)).trans q) (λb ps q=>⟨#[],by rw[aA (aB q hn),q];simp⟩) (λm hm=>hm) (λb u q=>?_) I.bare
  ·have z:b=a:=by simpa using hb
   rw[z];exact⟨f.2.2.2.1,f.2.1,f.2.2.2.2.1,f.2.2.2.2.2⟩
  ·by_cases hb:b=a
   ·subst hb;rw[ao]at q;cases q;exact new
   ·rw[aA hb]at q;exact(I.hok b u q).stay (λc v _ z=>z) (λc z=>by rw[aA (aB z hn)];exact z) λc xs z=>by rw[aA (aB z hn)];exact z
 exact r
theorem Zbm{X:Cx}{pins:List (Addr×Obj)}{H:Hp}{a b:Addr}{o:HO}(f:tD X pins H b)(h:b≠a):tD X pins (upd H a o) b:=⟨(aA h).trans f.1,f.2⟩
theorem Zq5{P:Program}{w:World}{k:Key}{u:Value}(h:(fB P w).is k u=true):RelV (kV k) u:=by
 rcases fD h with ⟨i,t,rfl,rfl⟩ | ⟨x,t,rfl,rfl⟩
 ·exact⟨t,rfl⟩
 ·exact⟨t,rfl⟩
theorem Zg0{X:Cx}{o:Expr}{td:TE}{apos cpos:Pos}(ho:PE X o td)(hbase:attributeBase o "items" X.env (eval o X.env)=eval o X.env:=by rfl)(hline:(apos.endLine == cpos.line)=true:=by rfl):
  PE X (.Call (.Attribute o "items" apos) [] [] cpos) (ZS td):=by
 intro pins s σ H Q I h;refine wpAny_Call_method0_late hbase hline (jW (ho pins s σ H _ I h) λu s1 ⟨x,H1,I1,rx,a,kvs,ex,rd,q⟩=>?_);subst ex;obtain rfl:u=Value.ref a:=rx;obtain⟨t1,t2,hd⟩:=Zhb I1 (.inl ⟨kvs,rd⟩);obtain⟨z,_,vs,rel,dd⟩:=O8 I1.hok rd;refine⟨"dict","dict.items",PySem.F.plainAttrs_dict,PySem.F.slot_dict_items,PySem.F.type_dict_items,t1,t2,Calls.callWith_builtin rfl (PySem.evalArgs_none ?_)⟩;refine call_meetsIn PySem.F.slot_dict_items t1 PySem.F.entry_dict_items (PySem.F.args_dict_items_1 _) (meets_dict_items (fB X.prog X.w) a hd) ⟨⟨vs,dd⟩,?_⟩;have hn:=I1.hok.fresh (Nat.le_refl _);refine⟨.ref s1.heap.objs.size,_,I1.laid (t':=s1.toks) (λb u e=>Heap.get?_push_of_some _ e) (Nat.le_refl _) ?_,rfl,q _ hn⟩;exact⟨⟨_,Heap.get?_push_size _ rfl,rfl,rfl⟩,⟨_,Heap.get?_push_size _ rfl⟩,λh1 h2 ⟨o,ho,r⟩ k=>⟨o,k o ho,r⟩⟩
theorem JZ{X:Cx}{pins:List (Addr×Obj)}{σ:L2.St}{s:Shared}:∀(as:List Addr) (kvs:List (Key×V)) (vs:List (Key×Value)) (H:Hp),Inv X pins σ H s->as.Nodup->(∀a∈as,tD X pins H a)->as.length=kvs.length->KV kvs vs->
  (∀(j:Nat) (a:Addr),as[j]? =some a->∃key k x,vs[j]? =some (k,x)/\(fB X.prog X.w).is k key=true/\s.heap.get? a=some { cls:=.type "tuple",data:=.seq #[key,x] })->
  ∃H',Inv X pins σ H' s/\bC H H'/\Zr H' as kvs
 | [],[],_,H,I,_,_,_,_,_=>⟨H,I,λ_ _ h=>h,trivial⟩
 | [],_::_,_,_,_,_,_,hl,_,_=>by simp at hl
 | _::_,[],_,_,_,_,_,hl,_,_=>by simp at hl
 | a::as,kv::kvs,vs,H,I,nd,fp,hl,r,pr=>by
  cases r with
  | cons rv rs=>
   rename_i q ws
   obtain⟨key,k,x,e,hk,hg⟩:=pr 0 a rfl;have e':q=(k,x):=by simpa using e
   subst e';obtain⟨rk,rx⟩:=rv;have fa:=fp a (by simp);have na:a∉as:=(List.nodup_cons.mp nd).1;have rk':kv.1=k:=rk;have I1:Inv X pins σ (L2.upd H a (.tup [kV kv.1,kv.2])) s:=Ze5 I fa ⟨by show 2<=sizeLine;decide,[key,x],.cons (by rw[rk'];exact Zq5 hk) (.cons rx .nil),⟨_,hg,rfl,_,rfl⟩⟩;obtain⟨H',I',sm,ps⟩:=JZ as kvs ws _ I1 (List.nodup_cons.mp nd).2 (λb hb=>Zbm (fp b (by simp[hb])) λz=>na (z ▸ hb)) (by simpa using hl) rs (λj b hb=>by simpa using pr (j+1) b (by simpa using hb));refine⟨H',I',λb o hb=>sm b o ?_,sm _ _ ao,ps⟩;rw[aA (aB hb fa.1)];exact hb
theorem Su:∀as:List Addr,Vals (as.map V.ref) (as.map Value.ref)
 | []=>.nil
 | _::as=>.cons rfl (Su as)
theorem Zbu{X:Cx}(hc:X.calm=true):Kr X (.type "list") Zbv:=by
 intro pins s σ H xs us Q I r h;obtain⟨v,a,kvs,rfl,hv,rd,q⟩:=h;obtain⟨u,rfl,ru⟩:=Vals.one r;obtain rfl:u=Value.ref v:=ru;have hvw:s.heap.IsItemsView v a:=(show jx X.prog X.w H s.heap v (Js v a)from I.hok v _ hv).1;obtain⟨z,hd,vs,rel,dd⟩:=O8 I.hok rd;obtain⟨ep,hm⟩:=dd.dictAt;have hl:=rel.length;refine W.kdx_call (I.ok.hd hc) hvw hm (by rw[<- hl];exact z) λh' tk acc c as hk hS hal hG hacc=>?_;have hn:=I.hok.fresh (Nat.le_refl s.heap.objs.size);have I1:Inv X pins σ (upd H s.heap.objs.size (.lst (as.map V.ref))) { s with heap:=h',toks:=tk }:=by
  refine I.laid hk (Nat.le_refl _) ⟨by rw[aU,hal,<- hl];exact z,acc.toList,c,by rw[hacc];exact Su as,by rw[Array.toArray_toList];exact hS⟩
 have nd:as.Nodup:=hG.rise.imp λh=>Nat.ne_of_lt h;obtain⟨H',I',sm,ps⟩:=JZ as kvs vs _ I1 nd (λb hb=>Zbm (I.Zbn (Nat.le_of_lt (hG.above b hb)) (I.hok.fresh (Nat.le_of_lt (hG.above b hb)))) (Nat.ne_of_gt (hG.above b hb))) (by rw[hal,hl]) rel (λj b hb=>hG.pairs j b hb);refine⟨.ref s.heap.objs.size,H',I',rfl,q _ as H' hn (λb o hb=>sm b o ?_) (sm _ _ ao) ps⟩;rw[aA (aB hb hn)];exact hb
theorem Zhs{X:Cx}{pins:List (Addr×Obj)}{σ:L2.St}{H:Hp}{s:Shared}{a:Addr}{o:Obj}{kvs:List (Key×V)}(I:Inv X pins σ H s)(h:H a=some (.dK kvs))(ho:s.heap.get? a=some o):Inv X pins σ (upd H a (.uC o (.dK kvs))) s:=by
 have ne:∀b u,H b=some u->u≠.dK kvs->b≠a:=λb u q n z=>n (by rw[z,h]at q;exact(Option.some.inj q).symm);have r:Inv X pins σ (upd H a (.uC o (.dK kvs))) { s with heap:=s.heap,gens:=s.gens,drawn:=s.drawn,toks:=s.toks }:=by
  refine I.step (g':=s.gens) (t':=s.toks) (d':=s.drawn) (ch:=[]) (λb hb=>nomatch hb) (λb u _ _ _ q _=>q) (λb u _ _ _ q _=>⟨u.slots,q⟩) (λb u hc q n=>(aA (λz=>by rw[z,h]at n;cases n)).trans n) (λb u _ q=>⟨u,q⟩)
   (λb xs q=>(aA (ne b _ q (λz=>by cases z))).trans q) (λb u xs q=>(aA (ne b _ q (λz=>by cases z))).trans q) (λb ps q=>⟨#[],by rw[aA (ne b _ q (λz=>by cases z)),q];simp⟩) (λm hm=>hm) (λb u q=>?_) I.bare
  have hs:∀c u,H c=some u->u≠.dK kvs->upd H a (.uC o (.dK kvs)) c=some u:=λc u z n=>by rw[aA (ne c u z n)];exact z
  by_cases hb:b=a
  ·subst hb;rw[ao]at q;cases q;exact⟨ho,(I.hok b _ h).stay (λc v _ z=>z) (λc z=>hs c _ z (λy=>by cases y)) λc xs z=>hs c _ z (λy=>by cases y)⟩
  ·rw[aA hb]at q;exact(I.hok b u q).stay (λc v _ z=>z) (λc z=>hs c _ z (λy=>by cases y)) λc xs z=>hs c _ z (λy=>by cases y)
 exact r
def Znm:Option Key->Value->Bool
 | none,.none=>true
 | none,_=>false
 | some k,v=>Gp k v
theorem lG{k:Option Key}{v:Value}(h:Znm k v=true):(k=none/\v=.none)\/∃j,k=some j/\Gp j v=true:=by
 cases k with
 | none=>cases v<;>first | exact .inl ⟨rfl,rfl⟩ | cases h
 | some j=>exact .inr ⟨j,rfl,h⟩
theorem Oq{j:Key}(h:Gp j Value.none=true):False:=by
 rcases fD h with ⟨i,t,_,e⟩ | ⟨x,t,_,e⟩<;>cases e
def Znc(P:Program)(w:World):PySem.KeyKind P w (Option Key) where
  is:=Znm
  hash:=λk=>match k with | none=>reduceHash 0xFCA86420 | some k=>Zq4 w k
  inj:=λv a b ha hb=>by
    rcases lG ha with ⟨rfl,rfl⟩ | ⟨i,rfl,h1⟩
    · rcases lG hb with ⟨rfl,_⟩ | ⟨j,rfl,h2⟩
      · rfl
      · exact(Oq h2).elim
    · rcases lG hb with ⟨rfl,rfl⟩ | ⟨j,rfl,h2⟩
      · exact(Oq h1).elim
      · rw[(fB P w).inj v i j h1 h2]
  byValue:=λk v h=>by
    rcases lG h with ⟨rfl,rfl⟩ | ⟨i,rfl,h1⟩
    · rfl
    · exact(fB P w).byValue i v h1
  pyHash:=λ{A E s k v Q} hv h=>by
    rcases lG hv with ⟨rfl,rfl⟩ | ⟨i,rfl,h1⟩
    · exact W.pyHash_slot (T:="NoneType") rfl F.slot_NoneType_hash F.entry_NoneType_hash (F.args_NoneType_hash_1 _) (beq_builtin_none _) (.inl rfl) (wpAny_bind (wpAny_pure (wpAny_bind (wpAny_mkInt (wpAny_pure ⟨_,_,rfl,h⟩)))))
    · exact(fB P w).pyHash h1 h
  eqBool:=λ{A E s a b u v Q} hu hv h=>by
    rcases lG hu with ⟨rfl,rfl⟩ | ⟨i,rfl,h1⟩
    · rcases lG hv with ⟨rfl,rfl⟩ | ⟨j,rfl,h2⟩
      · exact JM (A:=A) (s:=s) (y:=.non) (x:=.non) rfl rfl rfl rfl P w E Q h
      · rcases fD h2 with ⟨n,t,rfl,rfl⟩ | ⟨x,t,rfl,rfl⟩
        · exact JM (A:=A) (s:=s) (y:=.non) (x:=.int n) rfl ⟨t,rfl⟩ rfl rfl P w E Q h
        · exact JM (A:=A) (s:=s) (y:=.non) (x:=.str x) rfl ⟨t,rfl⟩ rfl rfl P w E Q h
    · rcases lG hv with ⟨rfl,rfl⟩ | ⟨j,rfl,h2⟩
      · rcases fD h1 with ⟨n,t,rfl,rfl⟩ | ⟨x,t,rfl,rfl⟩
        · exact JM (A:=A) (s:=s) (y:=.int n) (x:=.non) ⟨t,rfl⟩ rfl rfl rfl P w E Q h
        · exact JM (A:=A) (s:=s) (y:=.str x) (x:=.non) ⟨t,rfl⟩ rfl rfl rfl P w E Q h
      · refine(fB P w).eqBool h1 h2 ?_
        have e:decide (i=j)=decide (some i=some j):=by
          by_cases z:i=j
          · subst z;simp
          · rw[decide_eq_false z,decide_eq_false (λy=>z (Option.some.inj y))]
        rw[e];exact h
  «strs»:=λk x t v h=>by
    rcases lG h with ⟨_,e⟩ | ⟨i,rfl,h1⟩
    · cases e
    · exact(fB P w).strs i x t v h1
theorem Zgc{P:Program}{w:World}{h:Heap}{a:Addr}{vs:List (Key×Value)}(dd:h.DictOf (fB P w) a vs):∃f,h.MapOf (Znc P w) a f/\f none=none:=by
 obtain⟨o,es,ep,ho,hc,hd,hk,hp,hn⟩:=dd;refine⟨λk=>findBy (Znc P w).is es k,⟨o,es,ep,ho,hc,hd,λe he=>?_,λ_=>rfl⟩,?_⟩
 ·obtain⟨k,h1,h2⟩:=hk e he;exact⟨some k,h1,h2⟩
 ·show Option.map (λx=>x.val) (Array.find? (λe=>Znm none e.key) es)=none;rw[Option.map_eq_none_iff,Array.find?_eq_none];intro e he;obtain⟨k,h1,_⟩:=hk e he;rcases fD h1 with ⟨n,t,_,z⟩ | ⟨x,t,_,z⟩<;>rw[z]<;>exact λy=>nomatch y
section
variable {X:Cx}{i o:Expr}{ty td:TE}
theorem Zbj{kvs:List (Key×V)}{y:V}{b:Bool}(h:Zl5 kvs y=some b):(∃k,y=kV k/\b=(nJ kvs k).isSome)\/(y=.non/\b=false):=by
 cases y<;>simp only[Zl5,Option.some.injEq]at h<;>first | cases h
 ·exact .inr ⟨rfl,rfl⟩
 ·exact .inl ⟨.inl _,rfl,rfl⟩
 ·exact .inl ⟨.inr _,rfl,rfl⟩
theorem Zag(hu:X.A.units+1<cLine)(hi:PE X i ty)(ho:PE X o td):PC X .NotIn i o (Zf2 true ty td):=by
 intro pins s σ H Q I h;refine jW (hi pins s σ H _ I h) λiv s1 ⟨y,H1,I1,ry,h1⟩=>?_;refine jW (ho pins s1 σ H1 _ I1 h1) λov s2 ⟨x,H2,I2,rx,a,kvs,b,ex,rd,hb,q⟩=>?_;subst ex;obtain rfl:ov=Value.ref a:=rx;rcases Zbj hb with ⟨k,rfl,rfl⟩ | ⟨rfl,rfl⟩
 ·exact Zd1 hu I2 (.inl ⟨kvs,k,rd,rfl,rfl⟩) ry λs' I'=>⟨.bl _,H2,I',rfl,q⟩
 ·obtain rfl:iv=Value.none:=ry;obtain⟨z,hd,vs,rel,dd⟩:=O8 I2.hok rd;obtain⟨f,hm,hf⟩:=Zgc dd;refine wpAny_notIn_of (knd:=Znc X.prog X.w) (k:=none) rfl hd hm ?_;rw[hf];exact⟨.bl _,H2,I2.tok _,rfl,q⟩
end
end G
namespace G
open PySem L2 PySem.Spec PyProof.Rows
section
variable {X:Cx}
end
end G
namespace G
open PySem L2 PySem.Spec PyProof.Rows
end G
namespace G
open PySem L2 PySem.Spec PyProof.Rows
section
variable {X:Cx}{x1 x2 x3 x4:Str}{C1 C2 C3 C4:Addr}{pos np1 np2 np3 np4 hp1 hp2 hp3 hp4:Pos}{body su1 su2 su3 su4:List Stmt}{b1 b2 b3 b4:Stmt}{M1 M2 M3 M4:Value->Prop}{tb:(L2.St->XK)->TS}{t1 t2 t3 t4:TS}
end
end G
namespace G
open PySem L2 PySem.Spec PyProof.Rows
end G
namespace G
open PySem L2
end G
namespace G
open PySem L2 PySem.Spec PyProof.Rows
def JX(v d:Addr):HO:=.ext λh=>h.IsValuesView v d
def Zez(td:TE):TE:=λσ H Q=>td σ H λx H1=>∃a kvs,x=.ref a/\Rd H1 a (.dK kvs)/\∀v,H1 v=none->Q (.ref v) (upd H1 v (JX v a))
theorem Znp{td:TE}{σ:L2.St}{H:Hp}{Q:VK}(h:td σ H λx H1=>∃a kvs,x=.ref a/\Rd H1 a (.dK kvs)/\∀v,H1 v=none->Q (.ref v) (upd H1 v (JX v a))):Zez td σ H Q:=h
theorem Zdo{X:Cx}{o:Expr}{td:TE}{apos cpos:Pos}(ho:PE X o td)(hbase:attributeBase o "values" X.env (eval o X.env)=eval o X.env:=by rfl)(hline:(apos.endLine == cpos.line)=true:=by rfl):
  PE X (.Call (.Attribute o "values" apos) [] [] cpos) (Zez td):=by
 intro pins s σ H Q I h;refine wpAny_Call_method0_late hbase hline (jW (ho pins s σ H _ I h) λu s1 ⟨x,H1,I1,rx,a,kvs,ex,rd,q⟩=>?_);subst ex;obtain rfl:u=Value.ref a:=rx;obtain⟨t1,t2,hd⟩:=Zhb I1 (.inl ⟨kvs,rd⟩);obtain⟨z,_,vs,rel,dd⟩:=O8 I1.hok rd;refine⟨"dict","dict.values",PySem.F.plainAttrs_dict,PySem.F.slot_dict_values,PySem.F.type_dict_values,t1,t2,Calls.callWith_builtin rfl (PySem.evalArgs_none ?_)⟩;refine call_meetsIn PySem.F.slot_dict_values t1 PySem.F.entry_dict_values (PySem.F.args_dict_values_1 _) (meets_dict_values (fB X.prog X.w) a hd) ⟨⟨vs,dd⟩,?_⟩;have hn:=I1.hok.fresh (Nat.le_refl _);refine⟨.ref s1.heap.objs.size,_,I1.laid (t':=s1.toks) (λb u e=>Heap.get?_push_of_some _ e) (Nat.le_refl _) ?_,rfl,q _ hn⟩;exact⟨⟨_,Heap.get?_push_size _ rfl,rfl,rfl⟩,⟨_,Heap.get?_push_size _ rfl⟩,λh1 h2 ⟨o,ho,r⟩ k=>⟨o,k o ho,r⟩⟩
def Itv(a:Addr)(o:Obj)(kvs:List (Key×V)):It:=
 ⟨λi H=>H a=some (.uC o (.dK kvs))/\i<kvs.length,λi H x H'=>H'=H/\∃kv,kvs[i]? =some kv/\x=kv.2,λi H=>H a=some (.uC o (.dK kvs))/\kvs.length<=i⟩
def Zhf(te:TE):TI:=λσ H R=>te σ H λx H1=>∃v a kvs,x=.ref v/\H1 v=some (JX v a)/\H1 a=some (.dK kvs)/\∀o,R (Itv a o kvs) (upd H1 a (.uC o (.dK kvs)))
theorem Zsa{te:TE}{σ:L2.St}{H:Hp}{R:It->Hp->Prop}(h:te σ H λx H1=>∃v a kvs,x=.ref v/\H1 v=some (JX v a)/\H1 a=some (.dK kvs)/\∀o,R (Itv a o kvs) (upd H1 a (.uC o (.dK kvs)))):Zhf te σ H R:=h
theorem Sx{α β:Type}{R:α->β->Prop}:∀{xs:List α}{ys:List β},Paired R xs ys->∀(i:Nat) x y,xs[i]? =some x->ys[i]? =some y->R x y
 | _,_,.nil,_,_,_,h,_=>by simp at h
 | _,_,.cons r rs,0,_,_,h1,h2=>by
  cases h1;cases h2;exact r
 | _,_,.cons r rs,i+1,_,_,h1,h2=>Sx rs i _ _ (by simpa using h1) (by simpa using h2)
theorem Zd9{P:Program}{w:World}{K:aC}{tg:Expr}(a it:Addr)(o:Obj)(kvs:List (Key×V))(ep:Nat)(hep:∃es,o.data=.dict es ep):Turn P w K tg (Itv a o kvs) [it] it (λi h=>h.IsValIter it a i kvs.length ep) where
  mem:=by simp
  obj:=λi h st b hb=>by
    have e:b=it:=by simpa using hb
    subst e;obtain⟨o,e,c,d⟩:=st;exact⟨o,e,λv z=>by rw[d]at z;cases z⟩
  keep:=λi h h' st k=>by
    obtain⟨o,e,r⟩:=st;exact⟨o,k it (by simp) o e,r⟩
  item:=by
    intro X hP hw hK hc i pins s σ H E I hf st hg;subst hP hw hK;obtain⟨hz,hi⟩:=hg;obtain⟨ho,z,hd,vs,rel,dd⟩:s.heap.get? a=some o/\kvs.length<=sizeLine/\(a == sysModules)=false/\∃vs,KV kvs vs/\s.heap.DictOf (fB X.prog X.w) a vs:=I.hok a _ hz;obtain⟨ep',hm⟩:=dd.dictAt;obtain⟨es,hes⟩:=hep;have he:ep'=ep:=by
      obtain⟨o',es',ho',_,hd',_⟩:=id hm;rw[ho]at ho';cases ho';rw[hes]at hd';injection hd' with _ e;exact e.symm
    subst he;have hl:=rel.length;have hv:vs[i]? =some vs[i]:=cJ (by omega);have hv2:kvs[i]? =some kvs[i]:=cJ hi;have hk:RelV kvs[i].2 vs[i].2:=(Sx rel i _ _ hv2 hv).2;obtain⟨f0,f1,f2,f3,f4,f5⟩:=hf it (by simp);rw[hl]at st;refine wpAny_pyNext_values_item st hm (k:=vs[i].1) (v:=vs[i].2) (by rw[hv]) λh' st' sb=>?_;have I1:Inv X pins σ H { s with heap:=h' }:=I.turned (t':=s.toks) (λb o hb e=>(sb.2 b hb).trans e) f0 f1 f3 f4 f5;obtain⟨oi,e,c,d⟩:=id st';exact⟨_,rfl,Zhp (s:={ s with heap:=h' }) e c d (by decide) ⟨kvs[i].2,H,I1,hk,⟨rfl,_,hv2,rfl⟩,by rw[hl];exact st',λb hb=>(hf b hb).1⟩⟩
  done:=by
    intro X hP hw hK hc i pins s σ H E I hf st hg;subst hP hw hK;obtain⟨hz,hi⟩:=hg;obtain⟨ho,z,hd,vs,rel,dd⟩:s.heap.get? a=some o/\kvs.length<=sizeLine/\(a == sysModules)=false/\∃vs,KV kvs vs/\s.heap.DictOf (fB X.prog X.w) a vs:=I.hok a _ hz;obtain⟨ep',hm⟩:=dd.dictAt;obtain⟨es,hes⟩:=hep;have he:ep'=ep:=by
      obtain⟨o',es',ho',_,hd',_⟩:=id hm;rw[ho]at ho';cases ho';rw[hes]at hd';injection hd' with _ e;exact e.symm
    subst he;have hl:=rel.length;obtain⟨f0,f1,f2,f3,f4,f5⟩:=hf it (by simp);rw[hl]at st;exact wpAny_pyNext_values_end (I.ok.hd hc) st hm (by rw[List.getElem?_eq_none];omega) λh' eb=>⟨rfl,I.turned (t':=s.toks) (λb o hb e=>eb b o hb e) f0 f1 f3 f4 f5⟩
  self:=λ_ _ _ _ _ st h=>wpAny_pyIter_valiter st h
theorem Zji{X:Cx}{tg:Expr}{e:Expr}{te:TE}(he:PE X e te):PI X tg e (Zhf te):=by
 intro pins s σ H R I h;refine jW (he pins s σ H _ I h) λu s1 ⟨x,H1,I1,r1,q1⟩=>?_;obtain⟨v,a,kvs,e,hv,hq,q⟩:=q1;subst e;obtain rfl:u=Value.ref v:=r1;have Zqr:s1.heap.IsValuesView v a:=(I1.hok v _ hv).1;obtain⟨z,hs,vs,rel,dd⟩:=Zma I1.hok hq;obtain⟨ep,hm⟩:=dd.dictAt;obtain⟨o,es,ho,_,hes,_⟩:=id hm;refine wpAny_pyIter_values Zqr hm ?_;have I2:=Zhs I1 hq ho;have hne:s1.heap.objs.size≠a:=Nat.ne_of_gt (Heap.lt_size ho);refine⟨s1.heap.objs.size,[s1.heap.objs.size],_,_,_,rfl,I2.kept (t':=s1.toks) λb o e=>Heap.get?_push_of_some _ e,Zd9 a _ o kvs ep ⟨es,hes⟩,?_,λb hb=>?_,q o⟩
 ·rw[rel.length];exact⟨_,Heap.get?_push_size _ rfl,rfl,rfl⟩
 ·have e:b=s1.heap.objs.size:=by simpa using hb
  subst e;exact Zbm (I1.Zbn (Nat.le_refl _) (I1.hok.fresh (Nat.le_refl _))) hne
theorem Zdc{X:Cx}{pins:List (Addr×Obj)}{σ:L2.St}{H:Hp}{s:Shared}{a:Addr}{o:Obj}{kvs:List (Key×V)}(I:Inv X pins σ H s)(h:H a=some (.uC o (.dK kvs)))(hn:∀o' u,X.H₀ a≠some (.uC o' u)):Inv X pins σ (upd H a (.dK kvs)) s:=by
 have ne:∀b u,H b=some u->u≠.uC o (.dK kvs)->b≠a:=λb u q n z=>n (by rw[z,h]at q;exact(Option.some.inj q).symm);have n0:∀b,H b=none->upd H a (.dK kvs) b=none:=λb q=>(aA (λz=>by rw[z,h]at q;cases q)).trans q;have hs:∀c u,H c=some u->u≠.uC o (.dK kvs)->upd H a (.dK kvs) c=some u:=λc u z n=>by rw[aA (ne c u z n)];exact z
 obtain⟨i1,i2,i3,i4,i5,i6,i7,i8,i9,i10,i11⟩:=I;refine⟨i1,i2,i3,⟨i4.keep,i4.slot,λb ob e n hx=>n0 b (i4.free b ob e n hx),i4.there,λb xs e=>hs b _ (i4.tups b xs e) (λz=>by cases z),λb ob u e=>(aA (a:=a) (b:=b) (λz=>hn ob u (by rw[<- z];exact e))).trans (i4.Jz b ob u e),λb ps e=>?_⟩,i5,i6,n0 _ i7,λx c e=>n0 _ (i8 x c e),λp hp=>?_,λb u q=>?_,i11⟩
 ·obtain⟨more,q⟩:=i4.Ku b ps e;exact⟨more,hs b _ q (λz=>by cases z)⟩
 ·obtain⟨p1,p2,p3⟩:=i9 p hp;exact⟨p1,n0 _ p2,p3⟩
 ·by_cases hb:b=a
  ·subst hb;rw[ao]at q;cases q;exact(i10 b _ h).2.stay (λc v _ z=>z) (λc z=>hs c _ z (λy=>by cases y)) λc xs z=>hs c _ z (λy=>by cases y)
  ·rw[aA hb]at q;exact(i10 b u q).stay (λc v _ z=>z) (λc z=>hs c _ z (λy=>by cases y)) λc xs z=>hs c _ z (λy=>by cases y)
def Zf0(H0:Hp)(te:TE):TE:=λσ H Q=>te σ H λx H1=>∃a o kvs,H1 a=some (.uC o (.dK kvs))/\(∀o' u,H0 a≠some (.uC o' u))/\Q x (upd H1 a (.dK kvs))
theorem Znq{H0:Hp}{te:TE}{σ:L2.St}{H:Hp}{Q:VK}(h:te σ H λx H1=>∃a o kvs,H1 a=some (.uC o (.dK kvs))/\(∀o' u,H0 a≠some (.uC o' u))/\Q x (upd H1 a (.dK kvs))):Zf0 H0 te σ H Q:=h
theorem Zjp{X:Cx}{e:Expr}{te:TE}(he:PE X e te):PE X e (Zf0 X.H₀ te):=by
 intro pins s σ H Q I h;refine jW (he pins s σ H _ I h) λu s1 ⟨x,H1,I1,r1,a,o,kvs,ha,hn,q⟩=>?_;exact⟨x,_,Zdc I1 ha hn,r1,q⟩
end G
namespace G
open PySem L2 PySem.Spec PyProof.Rows
def Zmj(K:aC)(te:TE):TT:=λσ H Q=>te σ H λx H'=>∃k,Zib K x H' k/\Q k H'
theorem Zm2{K:aC}{te:TE}{σ:L2.St}{H:Hp}{Q:Bool->Hp->Prop}(h:te σ H λx H'=>∃k,Zib K x H' k/\Q k H'):Zmj K te σ H Q:=h
theorem Zpg{K:aC}{H:Hp}{a:Addr}{xs:List V}{P:Bool->Prop}(h:cR K H a xs)(q:P (!xs.isEmpty)):∃k,Zib K (.ref a) H k/\P k:=⟨_,.inl ⟨xs,h,rfl⟩,q⟩
def Zi9(K:aC):List V->Hp->VK->Prop:=λxs H Q=>∃p ys,xs=[.ref p]/\(cR K H p ys\/qZ K H p ys)/\∀l,H l=none->Q (.ref l) (upd H l (.lst ys))
theorem Zkt{K:aC}{H:Hp}{Q:VK}{p:Addr}{ys:List V}(h1:qZ K H p ys)(h:∀l,H l=none->Q (.ref l) (upd H l (.lst ys))):Zi9 K [.ref p] H Q:=⟨p,ys,rfl,.inr h1,h⟩
section
variable {X:Cx}
end
end G
local macro_rules | `(tactic| walk_at "g2")=>`(tactic| with_reducible first | refine G.Znw ?_ | refine G.Zo8 ?_ | refine G.Zqb ?_ | refine G.Zo5 ?_ | refine G.Zqp ?_ | refine G.i_C ?_ | refine G.Zs8 ?_ | refine G.i_B ?_ | refine G.Znr ?_ | refine G.Zqa ?_ | refine G.Zqq ?_ | refine G.Zqc ?_ | refine G.Zm4 ?_ | refine G.Zod ?_ | refine G.Znv ?_ | refine G.Zqj ?_ | refine G.Zsm ?_ | refine G.Zqo ?_ | refine G.Zqn ?_ | refine G.Zqf ?_ | refine G.Zqe ?_ | refine G.Zo4 ?_ | refine G.Zo3 ?_ | refine G.Zo2 ?_ | refine G.Zo1 ?_ | refine G.Zo0 ?_ | refine G.Zkr ?_ | refine G.Zkq ?_ | refine G.Zkp ?_ | refine G.Aw ?_ | refine G.oM ?_ | refine G.Zkw ?_ | refine G.Zkx ?_ | refine G.Zqd ?_ | refine G.Zob ?_ | refine G.Zqg ?_ | refine G.Zq8 ?_ | refine G.Zoc ?_ | refine G.Zsn ?_ | refine G.Zny ?_ | refine G.Zqm ?_ | refine G.Zns ?_ | refine G.Znx ?_ | refine G.Zhd ?_ | refine G.Znu ?_ | refine G.Zs9 ?_ | refine G.Zs7 ?_ | refine G.Zsl ?_ | refine G.Zql ?_ | refine G.Zsc ?_ | refine G.Zsb ?_ | refine G.Zs6 ?_ | refine G.Zs5 ?_ | refine G.Zs4 ?_ | refine G.Zs3 ?_ | refine G.Zs2 ?_ | refine G.Zs1 ?_ | refine G.Zs0 ?_ | refine G.Zrz ?_ | refine G.Zry ?_ | refine G.Zrx ?_ | refine G.Zsk ?_ | refine G.Zqk ?_ | refine G.Zsj ?_ | refine G.Zsi ?_ | refine G.Zsh ?_ | refine G.Zsg ?_ | refine G.Zsf ?_ | refine G.Zo7 ?_ | refine G.Zse ?_ | refine G.Jy ?_ | refine G.Zko ?_ | refine G.Zo6 ?_ | refine G.Zqi ?_ | refine G.Zks ?_ | refine G.Zq9 ?_ | refine G.Zhe ?_ | refine G.Zo9 ?_ | refine G.Znz ?_ | refine G.Zbh ?_ | refine G.Y0 ?_ | refine G.Zbe ?_ | refine G.Zbd ?_ | refine G.Znp ?_ | refine G.Zsa ?_ | refine G.Znq ?_ | refine G.Zm2 ?_ | refine G.Zsd ?_ | refine G.Zkv ?_ | refine G.Zoa ?_)
local macro_rules | `(tactic| walk_at "g1")=>`(tactic| first | (with_reducible refine G.Kf ?_) | walk_at "g2")
local macro_rules | `(tactic| walk_at "ne")=>`(tactic| first | assumption | (exact Ne.symm (by assumption)) | exact L2.aB (by assumption) (by assumption) | exact Ne.symm (L2.aB (by assumption) (by assumption)) | exact Nat.ne_of_lt (by assumption))
local macro_rules | `(tactic| walk_at "hp")=>`(tactic| first | assumption | exact L2.ao | (refine Eq.trans (L2.aA ?hne) ?_;(case hne=>walk_at "ne");walk_at "hp"))
local macro_rules | `(tactic| walk_at"d")=>`(tactic| first | omega | decide | (show (_:Int)<_;decide) | exact ⟨by decide,by decide⟩ | exact ⟨by decide,by decide,by decide⟩ | (unfold L2.ZC;omega) | exact .inl (by unfold L2.ZC;omega))
local macro_rules | `(tactic| walk_at"e")=>`(tactic| repeat (first | walk_at "g1" | ((with_reducible refine G.i_I ?hc ?_);(case hc=>walk_at"d"))))
local macro_rules | `(tactic| walk_at"s")=>`(tactic| repeat (first | walk_at "g2" | ((with_reducible refine G.i_I ?hc ?_);(case hc=>walk_at"d"))))
local macro_rules | `(tactic| walk_at"c")=>`(tactic| simp only [List.map_cons,List.map_nil,G.pick,List.getElem?_cons_zero,List.getElem?_cons_succ])
namespace K14
open PySem L2 G
def oR(birth:Int)(bulk:Int)(tone:Int)(load:Int)(fa:Addr):List (Str×V):=[("birth",.int birth),("bulk",.int bulk),("tone",.int tone),("load",.int load),("fields",.ref fa)]
theorem iT{birth:Int}{bulk:Int}{tone:Int}{load:Int}{fa:Addr}:List.lookup ("birth":Str) (oR birth bulk tone load fa)=some (.int birth:V):=rfl
theorem Dd{birth:Int}{bulk:Int}{tone:Int}{load:Int}{fa:Addr}:List.lookup ("bulk":Str) (oR birth bulk tone load fa)=some (.int bulk:V):=rfl
theorem RJ{birth:Int}{bulk:Int}{tone:Int}{load:Int}{fa:Addr}:List.lookup ("tone":Str) (oR birth bulk tone load fa)=some (.int tone:V):=rfl
theorem RK{birth:Int}{bulk:Int}{tone:Int}{load:Int}{fa:Addr}:List.lookup ("load":Str) (oR birth bulk tone load fa)=some (.int load:V):=rfl
theorem oE{birth:Int}{bulk:Int}{tone:Int}{load:Int}{fa:Addr}:List.lookup ("fields":Str) (oR birth bulk tone load fa)=some (.ref fa:V):=rfl
theorem Pb{birth:Int}{bulk:Int}{tone:Int}{load:Int}{fa:Addr}(y:Int):cz "tone" (.int y) (oR birth bulk tone load fa)=oR birth bulk y load fa:=rfl
theorem Zi8{birth:Int}{bulk:Int}{tone:Int}{load:Int}{fa:Addr}:(cz "fields" (.ref fa) (cz "load" (.int load) (cz "tone" (.int tone) (cz "bulk" (.int bulk) (cz "birth" (.int birth) [])))))=oR birth bulk tone load fa:=rfl
theorem ur{birth:Int}{bulk:Int}{tone:Int}{load:Int}{fa:Addr}:List.lookup ("units":Str) (oR birth bulk tone load fa)=none:=rfl
def jD(room:Int)(ca:Addr)(used:Int)(born:Int):List (Str×V):=[("room",.int room),("cells",.ref ca),("used",.int used),("born",.int born)]
theorem Ro{room:Int}{ca:Addr}{used:Int}{born:Int}:List.lookup ("room":Str) (jD room ca used born)=some (.int room:V):=rfl
theorem bN{room:Int}{ca:Addr}{used:Int}{born:Int}:List.lookup ("cells":Str) (jD room ca used born)=some (.ref ca:V):=rfl
theorem vX{room:Int}{ca:Addr}{used:Int}{born:Int}:List.lookup ("used":Str) (jD room ca used born)=some (.int used:V):=rfl
theorem Rp{room:Int}{ca:Addr}{used:Int}{born:Int}:List.lookup ("born":Str) (jD room ca used born)=some (.int born:V):=rfl
theorem Ay{room:Int}{ca:Addr}{used:Int}{born:Int}(y:Int):cz "used" (.int y) (jD room ca used born)=jD room ca y born:=rfl
theorem O2{room:Int}{ca:Addr}{used:Int}{born:Int}(y:Int):cz "born" (.int y) (jD room ca used born)=jD room ca used y:=rfl
theorem Zhk{room:Int}{ca:Addr}{used:Int}{born:Int}:(cz "born" (.int born) (cz "used" (.int used) (cz "cells" (.ref ca) (cz "room" (.int room) []))))=jD room ca used born:=rfl
theorem Rm{room:Int}{ca:Addr}{used:Int}{born:Int}:List.lookup ("make":Str) (jD room ca used born)=none:=rfl
theorem V6{room:Int}{ca:Addr}{used:Int}{born:Int}:List.lookup ("lay":Str) (jD room ca used born)=none:=rfl
theorem CW{room:Int}{ca:Addr}{used:Int}{born:Int}:List.lookup ("back":Str) (jD room ca used born)=none:=rfl
theorem Rn{room:Int}{ca:Addr}{used:Int}{born:Int}:List.lookup ("free":Str) (jD room ca used born)=none:=rfl
theorem Az{room:Int}{ca:Addr}{used:Int}{born:Int}:List.lookup ("there":Str) (jD room ca used born)=none:=rfl
def Gn(lk:Addr)(tl:Int):List (Str×V):=[("looking",.ref lk),("tells",.int tl)]
theorem gR{lk:Addr}{tl:Int}:List.lookup ("looking":Str) (Gn lk tl)=some (.ref lk:V):=rfl
theorem mV{lk:Addr}{tl:Int}:List.lookup ("tells":Str) (Gn lk tl)=some (.int tl:V):=rfl
theorem Zh6{lk:Addr}{tl:Int}:(cz "tells" (.int tl) (cz "looking" (.ref lk) []))=Gn lk tl:=rfl
theorem Oo{lk:Addr}{tl:Int}:List.lookup ("words":Str) (Gn lk tl)=none:=rfl
def Y5(nm:Str)(sa:Addr):List (Str×V):=[("name",.str nm),("slots",.ref sa)]
theorem pL{nm:Str}{sa:Addr}:List.lookup ("slots":Str) (Y5 nm sa)=some (.ref sa:V):=rfl
theorem Zhn{nm:Str}{sa:Addr}:(cz "slots" (.ref sa) (cz "name" (.str nm) []))=Y5 nm sa:=rfl
def zp(hp:Addr)(ki:Addr)(hl:Addr)(nm:Addr)(sw:Addr):List (Str×V):=[("heap",.ref hp),("kind",.ref ki),("hands",.ref hl),("names",.ref nm),("sweeper",.ref sw)]
theorem bZ{hp:Addr}{ki:Addr}{hl:Addr}{nm:Addr}{sw:Addr}:List.lookup ("heap":Str) (zp hp ki hl nm sw)=some (.ref hp:V):=rfl
theorem oW{hp:Addr}{ki:Addr}{hl:Addr}{nm:Addr}{sw:Addr}:List.lookup ("kind":Str) (zp hp ki hl nm sw)=some (.ref ki:V):=rfl
theorem eO{hp:Addr}{ki:Addr}{hl:Addr}{nm:Addr}{sw:Addr}:List.lookup ("hands":Str) (zp hp ki hl nm sw)=some (.ref hl:V):=rfl
theorem Ks{hp:Addr}{ki:Addr}{hl:Addr}{nm:Addr}{sw:Addr}:List.lookup ("names":Str) (zp hp ki hl nm sw)=some (.ref nm:V):=rfl
theorem aW{hp:Addr}{ki:Addr}{hl:Addr}{nm:Addr}{sw:Addr}:List.lookup ("sweeper":Str) (zp hp ki hl nm sw)=some (.ref sw:V):=rfl
theorem Zd7{hp:Addr}{ki:Addr}{hl:Addr}{nm:Addr}{sw:Addr}:(cz "sweeper" (.ref sw) (cz "names" (.ref nm) (cz "hands" (.ref hl) (cz "kind" (.ref ki) (cz "heap" (.ref hp) [])))))=zp hp ki hl nm sw:=rfl
def cg(se:Int)(ph:Str)(gr:Addr)(lo:Int)(tu:Int)(at_:Int)(st:Int)(wa:Int)(ls:Int)(pa:Int)(lx:V):List (Str×V):=[("sense",.int se),("phase",.str ph),("grey",.ref gr),("looked",.int lo),("turn",.int tu),("at",.int at_),("stop",.int st),("walks",.int wa),("looks",.int ls),("passes",.int pa),("loss",lx)]
theorem lW{se:Int}{ph:Str}{gr:Addr}{lo:Int}{tu:Int}{at_:Int}{st:Int}{wa:Int}{ls:Int}{pa:Int}{lx:V}:List.lookup ("sense":Str) (cg se ph gr lo tu at_ st wa ls pa lx)=some (.int se:V):=rfl
theorem je{se:Int}{ph:Str}{gr:Addr}{lo:Int}{tu:Int}{at_:Int}{st:Int}{wa:Int}{ls:Int}{pa:Int}{lx:V}:List.lookup ("phase":Str) (cg se ph gr lo tu at_ st wa ls pa lx)=some (.str ph:V):=rfl
theorem kh{se:Int}{ph:Str}{gr:Addr}{lo:Int}{tu:Int}{at_:Int}{st:Int}{wa:Int}{ls:Int}{pa:Int}{lx:V}:List.lookup ("grey":Str) (cg se ph gr lo tu at_ st wa ls pa lx)=some (.ref gr:V):=rfl
theorem gM{se:Int}{ph:Str}{gr:Addr}{lo:Int}{tu:Int}{at_:Int}{st:Int}{wa:Int}{ls:Int}{pa:Int}{lx:V}:List.lookup ("looked":Str) (cg se ph gr lo tu at_ st wa ls pa lx)=some (.int lo:V):=rfl
theorem oZ{se:Int}{ph:Str}{gr:Addr}{lo:Int}{tu:Int}{at_:Int}{st:Int}{wa:Int}{ls:Int}{pa:Int}{lx:V}:List.lookup ("turn":Str) (cg se ph gr lo tu at_ st wa ls pa lx)=some (.int tu:V):=rfl
theorem Ei{se:Int}{ph:Str}{gr:Addr}{lo:Int}{tu:Int}{at_:Int}{st:Int}{wa:Int}{ls:Int}{pa:Int}{lx:V}:List.lookup ("at":Str) (cg se ph gr lo tu at_ st wa ls pa lx)=some (.int at_:V):=rfl
theorem MJ{se:Int}{ph:Str}{gr:Addr}{lo:Int}{tu:Int}{at_:Int}{st:Int}{wa:Int}{ls:Int}{pa:Int}{lx:V}:List.lookup ("stop":Str) (cg se ph gr lo tu at_ st wa ls pa lx)=some (.int st:V):=rfl
theorem rD{se:Int}{ph:Str}{gr:Addr}{lo:Int}{tu:Int}{at_:Int}{st:Int}{wa:Int}{ls:Int}{pa:Int}{lx:V}:List.lookup ("walks":Str) (cg se ph gr lo tu at_ st wa ls pa lx)=some (.int wa:V):=rfl
theorem nU{se:Int}{ph:Str}{gr:Addr}{lo:Int}{tu:Int}{at_:Int}{st:Int}{wa:Int}{ls:Int}{pa:Int}{lx:V}:List.lookup ("looks":Str) (cg se ph gr lo tu at_ st wa ls pa lx)=some (.int ls:V):=rfl
theorem pZ{se:Int}{ph:Str}{gr:Addr}{lo:Int}{tu:Int}{at_:Int}{st:Int}{wa:Int}{ls:Int}{pa:Int}{lx:V}:List.lookup ("passes":Str) (cg se ph gr lo tu at_ st wa ls pa lx)=some (.int pa:V):=rfl
theorem MK{se:Int}{ph:Str}{gr:Addr}{lo:Int}{tu:Int}{at_:Int}{st:Int}{wa:Int}{ls:Int}{pa:Int}{lx:V}:List.lookup ("loss":Str) (cg se ph gr lo tu at_ st wa ls pa lx)=some (lx:V):=rfl
theorem HH{se:Int}{ph:Str}{gr:Addr}{lo:Int}{tu:Int}{at_:Int}{st:Int}{wa:Int}{ls:Int}{pa:Int}{lx:V}(y:Int):cz "sense" (.int y) (cg se ph gr lo tu at_ st wa ls pa lx)=cg y ph gr lo tu at_ st wa ls pa lx:=rfl
theorem m6{se:Int}{ph:Str}{gr:Addr}{lo:Int}{tu:Int}{at_:Int}{st:Int}{wa:Int}{ls:Int}{pa:Int}{lx:V}(y:Str):cz "phase" (.str y) (cg se ph gr lo tu at_ st wa ls pa lx)=cg se y gr lo tu at_ st wa ls pa lx:=rfl
theorem Kz{se:Int}{ph:Str}{gr:Addr}{lo:Int}{tu:Int}{at_:Int}{st:Int}{wa:Int}{ls:Int}{pa:Int}{lx:V}(y:Addr):cz "grey" (.ref y) (cg se ph gr lo tu at_ st wa ls pa lx)=cg se ph y lo tu at_ st wa ls pa lx:=rfl
theorem uG{se:Int}{ph:Str}{gr:Addr}{lo:Int}{tu:Int}{at_:Int}{st:Int}{wa:Int}{ls:Int}{pa:Int}{lx:V}(y:Int):cz "looked" (.int y) (cg se ph gr lo tu at_ st wa ls pa lx)=cg se ph gr y tu at_ st wa ls pa lx:=rfl
theorem Kv{se:Int}{ph:Str}{gr:Addr}{lo:Int}{tu:Int}{at_:Int}{st:Int}{wa:Int}{ls:Int}{pa:Int}{lx:V}(y:Int):cz "turn" (.int y) (cg se ph gr lo tu at_ st wa ls pa lx)=cg se ph gr lo y at_ st wa ls pa lx:=rfl
theorem Cu{se:Int}{ph:Str}{gr:Addr}{lo:Int}{tu:Int}{at_:Int}{st:Int}{wa:Int}{ls:Int}{pa:Int}{lx:V}(y:Int):cz "at" (.int y) (cg se ph gr lo tu at_ st wa ls pa lx)=cg se ph gr lo tu y st wa ls pa lx:=rfl
theorem Kw{se:Int}{ph:Str}{gr:Addr}{lo:Int}{tu:Int}{at_:Int}{st:Int}{wa:Int}{ls:Int}{pa:Int}{lx:V}(y:Int):cz "stop" (.int y) (cg se ph gr lo tu at_ st wa ls pa lx)=cg se ph gr lo tu at_ y wa ls pa lx:=rfl
theorem wG{se:Int}{ph:Str}{gr:Addr}{lo:Int}{tu:Int}{at_:Int}{st:Int}{wa:Int}{ls:Int}{pa:Int}{lx:V}(y:Int):cz "walks" (.int y) (cg se ph gr lo tu at_ st wa ls pa lx)=cg se ph gr lo tu at_ st y ls pa lx:=rfl
theorem pY{se:Int}{ph:Str}{gr:Addr}{lo:Int}{tu:Int}{at_:Int}{st:Int}{wa:Int}{ls:Int}{pa:Int}{lx:V}(y:Int):cz "looks" (.int y) (cg se ph gr lo tu at_ st wa ls pa lx)=cg se ph gr lo tu at_ st wa y pa lx:=rfl
theorem uF{se:Int}{ph:Str}{gr:Addr}{lo:Int}{tu:Int}{at_:Int}{st:Int}{wa:Int}{ls:Int}{pa:Int}{lx:V}(y:Int):cz "passes" (.int y) (cg se ph gr lo tu at_ st wa ls pa lx)=cg se ph gr lo tu at_ st wa ls y lx:=rfl
theorem Ky{se:Int}{ph:Str}{gr:Addr}{lo:Int}{tu:Int}{at_:Int}{st:Int}{wa:Int}{ls:Int}{pa:Int}{lx:V}(y:V):cz "loss" (y) (cg se ph gr lo tu at_ st wa ls pa lx)=cg se ph gr lo tu at_ st wa ls pa y:=rfl
theorem Zdd{se:Int}{ph:Str}{gr:Addr}{lo:Int}{tu:Int}{at_:Int}{st:Int}{wa:Int}{ls:Int}{pa:Int}{lx:V}:(cz "loss" (lx) (cz "passes" (.int pa) (cz "looks" (.int ls) (cz "walks" (.int wa) (cz "stop" (.int st) (cz "at" (.int at_) (cz "turn" (.int tu) (cz "looked" (.int lo) (cz "grey" (.ref gr) (cz "phase" (.str ph) (cz "sense" (.int se) [])))))))))))=cg se ph gr lo tu at_ st wa ls pa lx:=rfl
def qt(K:aC):TS:=
 (aM (gH K (aj 0) (aj 1) "birth")
   (aM (gH K (aj 0) (aj 3) "bulk")
   (aM (gH K (aj 0) (aj 4) "tone")
   (aM (gH K (aj 0) (tC (.int 0)) "load")
   (gH K (aj 0) (bO (Zfl) (mz (ak (tC .non) aJ)) (aj 2)) "fields")))))
def vM(K:aC):TS:=
 (bL (bO (qw λi j=>.int (i+j)) (bO (qw λi j=>.int (i+j)) (tC (.int 1)) (wF (G.jV K) (ak (aY K (aj 0) "fields") aJ))) (aY K (aj 0) "bulk")))
def qm(K:aC):TS:=
 (aM (gH K (aj 0) (aj 1) "room")
   (aM (gH K (aj 0) (mz aJ) "cells")
   (aM (gH K (aj 0) (tC (.int 0)) "used")
   (gH K (aj 0) (tC (.int 0)) "born"))))
def ye(K:aC)(bw lR aQ:Addr)(HS qL Ui Xo:Sp)(E:XK):TS:=
 (aM (cG (Eh bw HS [] E0 (ak (bO (qw λi j=>.int (i+j)) (aY K (aj 0) "born") (tC (.int 1))) (ak (aj 1) (ak (aj 2) (ak (aj 3) aJ))))) (aP 4))
   (aM (eG (cB (bO (qw λi j=>.bl (decide (j<i))) (jk bw "units" qL [] E0 (aj 4) aJ) (jk aQ "free" Ui [] E0 (aj 0) aJ))) (G.ZP lR E (ak (tC (.str "the room does not suffice")) aJ)) bW)
   (aM (gH K (aj 0) (aY K (aj 4) "birth") "born")
   (aM (gH K (aj 0) (bO (qw λi j=>.int (i+j)) (aY K (aj 0) "used") (jk bw "units" qL [] E0 (aj 4) aJ)) "used")
   (bL (jk aQ "lay" Xo [] E0 (aj 0) (ak (aj 4) aJ)))))))
def zX(K:aC):TS:=
 (aM (eG (cB (bO (G.Zmu K true) (tC .non) (aY K (aj 0) "cells"))) (aM (oY (tBM K "list" uJ (aY K (aj 0) "cells") (ak (aj 1) aJ)))
   (bL (bO (qw λi j=>.int (i - j)) (wF (G.jV K) (ak (aY K (aj 0) "cells") aJ)) (tC (.int 1))))) bW)
   (aM (cG (tBM K "list" (G.Zcg K) (aY K (aj 0) "cells") (ak (tC .non) aJ)) (aP 2))
   (aM (cG (aj 1) (Gz (aY K (aj 0) "cells") (aj 2) wI))
   (bL (aj 2)))))
def yh(K:aC)(bw:Addr)(qL:Sp):TS:=
 (aM (cG (bO (fJ K) (aY K (aj 0) "cells") (aj 1)) (aP 2))
   (aM (gH K (aj 0) (bO (qw λi j=>.int (i - j)) (aY K (aj 0) "used") (jk bw "units" qL [] E0 (aj 2) aJ)) "used")
   (aM (cG (tC .non) (Gz (aY K (aj 0) "cells") (aj 1) wI))
   (bL (aY K (aj 2) "birth")))))
def yf(K:aC):TS:=
 (bL (bO (qw λi j=>.int (i - j)) (aY K (aj 0) "room") (aY K (aj 0) "used")))
def vK(K:aC):TS:=
 (bL (G.ZR (qY (ak (wF (G.jV K) (ak (aY K (aj 0) "cells") aJ)) aJ)) [0] (cB (bO (G.pW) (bO (fJ K) (aY K (aj 1) "cells") (aj 0)) (tC .non))) (aj 0)))
def Du(K:aC):TS:=
 (aM (eG ((ZQ (cB (bO (G.Dv) (aj 1) (tC .non))) (ZQ (cB (bO (qw λi j=>.bl (decide (i<j))) (aj 1) (tC (.int 0)))) (cB (bO (qw λi j=>.bl (decide (j<=i))) (aj 1) (wF (G.jV K) (ak (aY K (aj 0) "cells") aJ))))))) (bL (tC .non)) bW)
   (bL (bO (fJ K) (aY K (aj 0) "cells") (aj 1))))
def zU(K:aC)(lF:Sp):TS:=
 (aM (cG (aZ lF [] E0 (ak (aj 0) (ak (aj 1) aJ))) (aP 2))
   (aM (eG (cB (bO (G.Dv) (aj 2) (tC .non))) (bL (tC .non)) bW)
   (bL (aY K (aj 2) "birth"))))
def qp(K:aC):TS:=
 (aM (gH K (aj 0) (aj 1) "name")
   (gH K (aj 0) (bO (Zfl) (mz (ak (tC .non) aJ)) (aj 2)) "slots"))
def nF(K:aC):TS:=
 (aM (gH K (aj 0) (tC (.int 0)) "sense")
   (aM (gH K (aj 0) (tC (.str "rest")) "phase")
   (aM (gH K (aj 0) (mz aJ) "grey")
   (aM (gH K (aj 0) (tC (.int 0)) "looked")
   (aM (gH K (aj 0) (tC (.int 0)) "turn")
   (aM (gH K (aj 0) (tC (.int 0)) "at")
   (aM (gH K (aj 0) (tC (.int 0)) "stop")
   (aM (gH K (aj 0) (tC (.int 0)) "walks")
   (aM (gH K (aj 0) (tC (.int 0)) "looks")
   (aM (gH K (aj 0) (tC (.int 0)) "passes")
   (gH K (aj 0) (tC .non) "loss")))))))))))
def o8(K:aC)(jU aQ bA:Addr)(HR HQ BV:Sp):TS:=
 (aM (gH K (aj 0) (Eh aQ HQ [] E0 (ak (aj 1) aJ)) "heap")
   (aM (gH K (aj 0) (aj 2) "kind")
   (aM (gH K (aj 0) (G.Zf1 K (pK K (aj 3)) [] G.tK (Eh jU HR [] E0 (ak (aj 0) (ak (aj 1) aJ)))) "hands")
   (aM (gH K (aj 0) (T5) "names")
   (gH K (aj 0) (Eh bA BV [] E0 aJ) "sweeper")))))
def U0(K:aC):TS:=
 (bL (G.ZR (pK K (aY K (aj 0) "hands")) [] G.tK (wF (G.Wr K) (ak (aY K (aj 0) "slots") aJ))))
def xW(K:aC)(Xm:Sp):TS:=
 (bL (G.ZR (pK K (aj 1)) [0] G.tK (aZ Xm [] E0 (ak (aj 1) (ak (aj 0) aJ)))))
def xU(K:aC):TS:=
 (bL (bO (Eb) (bO (qw λi j=>.int (Builtin.bitAnd i j)) (bO (rI (λ_ j=>0<=j) λi j=>.int (i / 2 ^ j.toNat)) (aY K (aY K (aj 0) "sweeper") "looked") (aj 1)) (tC (.int 1))) (tC (.int 1))))
def xV(K:aC):TS:=
 (bL (bO (Eb) (aY K (aj 1) "tone") (aY K (aY K (aj 0) "sweeper") "sense")))
def vz(K:aC):TS:=
 (bL (bO (rIn K false) (aY K (aY K (aj 0) "sweeper") "phase") (u9 (ak (tC (.str "walk")) (ak (tC (.str "lost")) aJ)))))
def Ds(K:aC)(eV:Sp):TS:=
 (aM (cG (aY K (aj 0) "sweeper") (aP 2))
   (aM (cG (aZ eV [] E0 (ak (aj 0) (ak (bO (fJ K) (aY K (aY K (aj 0) "heap") "cells") (aj 1)) aJ))) (aP 3))
   (aM (eG (cB (bO (Eb) (aY K (aj 2) "phase") (tC (.str "rest")))) (bL (tC (.str "kept"))) bW)
   (aM (eG (cB (bO (Eb) (aY K (aj 2) "phase") (tC (.str "give")))) (bL (tIf (tB (aj 3)) (tC (.str "kept")) (tC (.str "doomed")))) bW)
   (aM (eG (qW (tB (aj 3))) (bL (tC (.str "pale"))) bW)
   (bL (tIf (cB (bO (rIn K false) (aj 1) (aY K (aj 2) "grey"))) (tC (.str "grey")) (tC (.str "dark")))))))))
def vm(K:aC)(aQ:Addr)(vf T7:Sp):TS:=
 (bL (G.ZR (pK K (jk aQ "there" vf [] E0 (aY K (aj 0) "heap") aJ)) [0] G.tK (aZ T7 [] E0 (ak (aj 1) (ak (aj 0) aJ)))))
def xR(K:aC)(wZ Di:Sp):TS:=
 (aM (cG (bO (fJ K) (aY K (aY K (aj 0) "heap") "cells") (aj 1)) (aP 2))
   (aM (cG (aZ wZ [] E0 (ak (aY K (aj 0) "heap") (ak (aY K (aj 2) "fields") aJ))) (aP 3))
   (bL (u9 (ak (aj 1) (ak (aY K (aj 2) "birth") (ak (aY K (aj 2) "bulk") (ak (aY K (aj 2) "load") (ak (aj 3) (ak (aZ Di [] E0 (ak (aj 0) (ak (aj 1) aJ))) aJ))))))))))
def Nq(K:aC)(dW cX fc:Addr)(En rY:Sp):TS:=
 (aM (cG (aY K (aj 0) "sweeper") (aP 1))
   (aM (gH K (aj 1) (bO (qw λi j=>.int (i - j)) (tC (.int 1)) (aY K (aj 1) "sense")) "sense")
   (aM (gH K (aj 1) (bO (qw λi j=>.int (i+j)) (aY K (aj 1) "turn") (tC (.int 1))) "turn")
   (aM (gH K (aj 1) (tC (.str "walk")) "phase")
   (aM (gH K (aj 1) (mz aJ) "grey")
   (aM (gH K (aj 1) (G.Dg (jk cX "at_begin" En [] E0 (aY K (aY K (aj 0) "kind") "looking") (ak (wF (G.jV K) (ak (aY K (aj 0) "hands") aJ)) aJ)) (G.Dg (jk dW "at_begin" rY [] E0 (aY K (aY K (aj 0) "kind") "looking") (ak (wF (G.jV K) (ak (aY K (aj 0) "hands") aJ)) aJ)) (jk fc "at_begin" rY [] E0 (aY K (aY K (aj 0) "kind") "looking") (ak (wF (G.jV K) (ak (aY K (aj 0) "hands") aJ)) aJ)))) "looked")
   (aM (gH K (aj 1) (tC (.int 0)) "walks")
   (aM (gH K (aj 1) (tC (.int 0)) "looks")
   (gH K (aj 1) (tC (.int 0)) "passes")))))))))
def UW(K:aC)(lF eV:Sp):TS:=
 (aM (cG (aY K (aj 0) "sweeper") (aP 2))
   (aM (cG (aZ lF [] E0 (ak (aY K (aj 0) "heap") (ak (aj 1) aJ))) (aP 3))
   (aM (eG ((ZQ (cB (bO (rNe) (aY K (aj 2) "phase") (tC (.str "walk")))) (ZQ (cB (bO (G.Dv) (aj 3) (tC .non))) (tB (aZ eV [] E0 (ak (aj 0) (ak (aj 3) aJ))))))) (bL (tC .non)) bW)
   (aM (gH K (aj 3) (aY K (aj 2) "sense") "tone")
   (aM (oY (tBM K "list" uJ (aY K (aj 2) "grey") (ak (aj 1) aJ)))
   (bL (aY K (aj 3) "birth")))))))
def zR(K:aC)(Ua:Sp):TS:=
 (aM (cG (mz aJ) (aP 2))
   (aM (sr (pK K (aj 1)) (aP 3)
   (aM (cG (aZ Ua [] E0 (ak (aj 0) (ak (aj 3) aJ))) (aP 4))
   (eG (cB (bO (G.pW) (aj 4) (tC .non))) (oY (tBM K "list" uJ (aj 2) (ak (aj 4) aJ))) bW)))
   (bL (aj 2))))
def U3(K:aC)(lF eV:Sp):TS:=
 (aM (cG (aZ lF [] E0 (ak (aY K (aj 0) "heap") (ak (aj 1) aJ))) (aP 3))
   (aM (eG ((ZQ (cB (bO (G.Dv) (aj 3) (tC .non))) (cB (bO (rNe) (aY K (aj 3) "birth") (aj 2))))) (bL (tC (.bl true))) bW)
   (bL ((MF (bO (Eb) (aY K (aY K (aj 0) "sweeper") "phase") (tC (.str "give"))) (Zca (aZ eV [] E0 (ak (aj 0) (ak (aj 3) aJ)))))))))
def Np(K:aC)(Ziq Z0:Sp)(H0:Hp):TS:=
 (bL (bO (Zpq) (aZ Ziq [] E0 (ak (aj 0) aJ)) (mz (ak (G.Zf0 H0 (G.Zf1 K (G.Zhf (G.Zez (aY K (aj 0) "names"))) [0] G.tK (aZ Z0 [] E0 (ak (aj 2) (ak (aj 0) (ak (aj 1) aJ)))))) aJ))))
def Dr(K:aC)(Zir eV PB:Sp):TS:=
 (aM (eG (tB (aZ Zir [] E0 (ak (aj 0) (ak (aj 1) (ak (aj 2) aJ))))) (bL (tC .non)) bW)
   (aM (eG ((Dh (tB (aZ PB [] E0 (ak (aj 0) aJ))) (qW (tB (aZ eV [] E0 (ak (aj 0) (ak (bO (fJ K) (aY K (aY K (aj 0) "heap") "cells") (aj 1)) aJ))))))) (bL (tC .non)) bW)
   (bL (aj 1))))
def Ik:TS:=
 (bL (bO (qw λi j=>.int (i - j)) (bO (rI Zc8 λi j=>.int (i * 2 ^ j.toNat)) (tC (.int 1)) (aj 0)) (tC (.int 1))))
def nG:TS:=
 (bL (tC (.int 0)))
def mL:TS:=
 (bL (tC (.int 0)))
def qi:TS:=
 (bL (tC (.bl true)))
def vL:TS:=
 (bL (tC (.str "first")))
def pq(HJ:Sp):TS:=
 (bL (aZ HJ [] E0 (ak (aj 1) aJ)))
def yj:TS:=
 (bL (tC (.str "each")))
def pA:TS:=
 (aM (sr (qY (ak (aj 2) aJ)) (aP 3)
   (eG (cB (bO (Eb) (bO (qw λi j=>.int (Builtin.bitAnd i j)) (bO (rI (λ_ j=>0<=j) λi j=>.int (i / 2 ^ j.toNat)) (aj 1) (aj 3)) (tC (.int 1))) (tC (.int 0)))) (bL (bO (rI Zc8 λi j=>.int (i * 2 ^ j.toNat)) (tC (.int 1)) (aj 3))) bW))
   (bL (tC (.int 0))))
def yd:TS:=
 (bL (tC (.str "last")))
def o9(HJ:Sp):TS:=
 (bL (aZ HJ [] E0 (ak (aj 2) aJ)))
def vI:TS:=
 (bL (tC (.bl false)))
def qj(K:aC):TS:=
 (aM (gH K (aj 0) (aj 1) "looking")
   (gH K (aj 0) (aj 2) "tells"))
def vJ(K:aC)(dW cX fc:Addr)(Uj Qa Ug:Sp):TS:=
 (aM (cG (G.Dg (jk cX "word" Qa [] E0 (aY K (aj 0) "looking") aJ) (G.Dg (jk dW "word" Uj [] E0 (aY K (aj 0) "looking") aJ) (jk fc "word" Ug [] E0 (aY K (aj 0) "looking") aJ))) (aP 1))
   (aM (eG (cB (bO (rNe) (bO (qw λi j=>.int (Builtin.bitAnd i j)) (aY K (aj 0) "tells") (tC (.int 1))) (tC (.int 0)))) (cG (bO (G.Sv) (aj 1) (tC (.str " old"))) (aP 1)) bW)
   (aM (eG (cB (bO (rNe) (bO (qw λi j=>.int (Builtin.bitAnd i j)) (aY K (aj 0) "tells") (tC (.int 2))) (tC (.int 0)))) (cG (bO (G.Sv) (aj 1) (tC (.str " new"))) (aP 1)) bW)
   (bL (aj 1)))))
def Dt(K:aC)(dW cX ji fc:Addr)(HN P0:Sp):TS:=
 (aM (sr (pK K (mz (ak (G.Mz cX) (ak (G.Mz dW) (ak (G.Mz fc) aJ))))) (aP 1)
   (sr (qY (ak (tC (.int 4)) aJ)) (aP 2)
   (aM (cG (Eh ji HN [] E0 (ak (aj 1) (ak (aj 2) aJ))) (aP 3))
   (eG (cB (bO (Eb) (jk ji "words" P0 [] E0 (aj 3) aJ) (aj 0))) (bL (aj 3)) bW))))
   (bL (tC .non)))
def xT(K:aC)(Sh:Sp):TS:=
 (aM (cG (mz aJ) (aP 2))
   (aM (sr (G.Y4 K (ak (aj 1) aJ)) (Zee K 2 (yW (aP 3) (yW (aP 4) Zef)))
   (oY (tBM K "list" Lq (aj 2) (ak (aZ Sh [] E0 (ak (aj 0) (ak (aj 4) (ak (u9 (ak (aj 3) aJ)) aJ)))) aJ))))
   (aM (cG (T5) (aP 5))
   (aM (cG (tC (.int 0)) (aP 6))
   (aM (Zey (cB (bO (qw λi j=>.bl (decide (i<j))) (aj 6) (wF (G.jV K) (ak (aj 2) aJ)))) (aM (cG (bO (Xz K) (bO (fJ K) (aj 2) (aj 6)) (tC (.int 0))) (aP 7))
   (aM (cG (bO (Xz K) (bO (fJ K) (aj 2) (aj 6)) (tC (.int 1))) (aP 8))
   (aM (cG (bO (qw λi j=>.int (i+j)) (aj 6) (tC (.int 1))) (aP 6))
   (eG (tB (G.Zf2 true (aj 7) (aj 5))) (aM (Zce (aj 5) (aj 7) (aj 8))
   (oY (tBM K "list" Lq (aj 2) (ak (aZ Sh [] E0 (ak (aj 0) (ak (aY K (bO (fJ K) (aY K (aj 0) "cells") (aj 7)) "fields") (ak (aj 8) aJ)))) aJ)))) bW)))))
   (bL (wF (G.Zbv) (ak (G.ZS (aj 5)) aJ))))))))
def Bm(K:aC)(lF:Sp):TS:=
 (bL (G.Zf1 K (G.Y4 K (ak (aj 1) aJ)) [0,2] (cB (bO (G.pW) (aZ lF [] E0 (ak (aj 2) (ak (aj 1) aJ))) (tC .non))) (u9 (ak (aj 1) (ak (bO (Zlw K) (aj 3) (u9 (ak (aj 0) aJ))) aJ)))))
def vq(K:aC)(zy:Sp):TS:=
 (aM (cG (mz aJ) (aP 2))
   (aM (sr (G.Y4 K (ak (aY K (aj 0) "hands") aJ)) (Zee K 2 (yW (aP 3) (yW (aP 4) Zef)))
   (eG (cB (bO (Eb) (bO (qw λi j=>.int (Builtin.bitAnd i j)) (bO (rI (λ_ j=>0<=j) λi j=>.int (i / 2 ^ j.toNat)) (aj 1) (aj 3)) (tC (.int 1))) (tC (.int 1)))) (oY (tBM K "list" Lq (aj 2) (ak (aZ zy [] E0 (ak (aj 0) (ak (aY K (aj 4) "slots") aJ))) aJ))) bW))
   (bL (aj 2))))
def rN(K:aC)(M7 nM:Sp):TS:=
 (aM (oY (aZ M7 [] E0 (ak (aj 0) aJ)))
   (aM (cG (aZ nM [] E0 (ak (aj 0) (ak (aY K (aY K (aj 0) "sweeper") "looked") aJ))) (aP 1))
   (bL (u9 (ak (tC (.str "begin")) (ak (aY K (aY K (aj 0) "sweeper") "turn") (ak (aj 1) aJ)))))))
def rK(K:aC)(M6 Zin:Sp):TS:=
 (aM (eG (G.Zmj K (aY K (aY K (aj 0) "sweeper") "grey")) (bL (aZ Zin [] E0 (ak (aj 0) aJ))) bW)
   (bL (aZ M6 [] E0 (ak (aj 0) aJ))))
def UL(K:aC)(zy:Sp):TS:=
 (aM (cG (aY K (aj 0) "sweeper") (aP 1))
   (aM (cG (bO (fJ K) (aY K (aY K (aj 0) "heap") "cells") (tBM K "list" Zfm (aY K (aj 1) "grey") (ak (tC (.int 0)) aJ))) (aP 2))
   (aM (gH K (aj 1) (bO (qw λi j=>.int (i+j)) (aY K (aj 1) "walks") (tC (.int 1))) "walks")
   (bL (u9 (ak (tC (.str "walk")) (ak (aY K (aj 2) "birth") (ak (aZ zy [] E0 (ak (aj 0) (ak (aY K (aj 2) "fields") aJ))) aJ))))))))
def nD(K:aC)(dW cX fc:Addr)(qK jt Z3 nM:Sp):TS:=
 (aM (cG (aZ nM [] E0 (ak (aj 0) (ak (aj 3) aJ))) (aP 4))
   (aM (eG ((ZQ (cB (bO (Eb) (aj 3) (tC (.int 0)))) (qW ((ZQ (tB (G.Dg (jk cX "stays" jt [] E0 (aj 2) aJ) (G.Dg (jk dW "stays" jt [] E0 (aj 2) aJ) (jk fc "stays" qK [] E0 (aj 2) aJ)))) (G.Zmj K (aj 4))))))) (bL (aZ Z3 [] E0 (ak (aj 0) aJ))) bW)
   (aM (gH K (aj 1) (bO (qw λi j=>.int (i+j)) (aY K (aj 1) "looks") (tC (.int 1))) "looks")
   (aM (eG (tB (G.Dg (jk cX "stays" jt [] E0 (aj 2) aJ) (G.Dg (jk dW "stays" jt [] E0 (aj 2) aJ) (jk fc "stays" qK [] E0 (aj 2) aJ)))) (gH K (aj 1) (bO (qw λi j=>.int (Builtin.bitOr i j)) (aY K (aj 1) "looked") (aj 3)) "looked") bW)
   (bL (u9 (ak (tC (.str "look")) (ak (aj 3) (ak (aj 4) aJ)))))))))
def tU(K:aC)(dW cX fc:Addr)(Eo Em qK zA jt Z3 nM:Sp):TS:=
 (aM (cG (aY K (aj 0) "sweeper") (aP 1))
   (aM (cG (aY K (aY K (aj 0) "kind") "looking") (aP 2))
   (aM (cG (G.Dg (jk cX "next_look" zA [] E0 (aj 2) (ak (aY K (aj 1) "looked") (ak (wF (G.jV K) (ak (aY K (aj 0) "hands") aJ)) aJ))) (G.Dg (jk dW "next_look" Eo [] E0 (aj 2) (ak (aY K (aj 1) "looked") (ak (wF (G.jV K) (ak (aY K (aj 0) "hands") aJ)) aJ))) (jk fc "next_look" Em [] E0 (aj 2) (ak (aY K (aj 1) "looked") (ak (wF (G.jV K) (ak (aY K (aj 0) "hands") aJ)) aJ))))) (aP 3))
   (nD K dW cX fc qK jt Z3 nM))))
def Zab(K:aC)(wZ PJ Xl vd:Sp):TS:=
 (aM (cG (aY K (aj 0) "sweeper") (aP 1))
   (aM (gH K (aj 1) (wF (G.jV K) (ak (aY K (aY K (aj 0) "heap") "cells") aJ)) "stop")
   (aM (gH K (aj 1) (tC (.int 0)) "at")
   (aM (cG (aZ PJ [] E0 (ak (aj 0) aJ)) (aP 2))
   (aM (eG (cB (bO (G.pW) (aj 2) (tC .non))) (aM (gH K (aj 1) (tC (.str "lost")) "phase")
   (aM (gH K (aj 1) (aj 2) "loss")
   (bL (aZ vd [] E0 (ak (aj 2) aJ))))) bW)
   (aM (gH K (aj 1) (tC (.str "give")) "phase")
   (aM (cG (aZ wZ [] E0 (ak (aY K (aj 0) "heap") (ak (aZ Xl [] E0 (ak (aj 0) aJ)) aJ))) (aP 3))
   (bL (u9 (ak (tC (.str "cut")) (ak (wF (G.jV K) (ak (aj 3) aJ)) (ak (aj 3) aJ))))))))))))
def vA(K:aC)(eV Z1 Zf7:Sp):TS:=
 (aM (sr (pK K (aZ Z1 [] E0 (ak (aY K (aj 0) "heap") (ak (aZ Zf7 [] E0 (ak (aj 0) aJ)) aJ)))) (Zee K 2 (yW (aP 1) (yW (aP 2) Zef)))
   (aM (cG (bO (fJ K) (aY K (aY K (aj 0) "heap") "cells") (aj 1)) (aP 3))
   (eG (qW (tB (aZ eV [] E0 (ak (aj 0) (ak (aj 3) aJ))))) (bL (u9 (ak (tC (.str "lost")) (ak (aY K (aj 3) "birth") (ak (wF (G.Zi9 K) (ak (aj 2) aJ)) aJ))))) bW)))
   (bL (tC .non)))
def zT(K:aC)(aQ:Addr)(vf eV:Sp):TS:=
 (aM (cG (aY K (aj 0) "heap") (aP 1))
   (bL (G.ZR (pK K (jk aQ "there" vf [] E0 (aj 1) aJ)) [0,1] (qW (tB (aZ eV [] E0 (ak (aj 1) (ak (bO (fJ K) (aY K (aj 2) "cells") (aj 0)) aJ))))) (aj 0))))
def vo(K:aC):TS:=
 (bL (u9 (ak (bO (Xz K) (aj 0) (tC (.int 0))) (ak (bO (Xz K) (aj 0) (tC (.int 1))) (ak (wF (G.Wr K) (ak (bO (Xz K) (aj 0) (tC (.int 2))) aJ)) aJ)))))
def rM(K:aC)(Zmn Pz:Sp):TS:=
 (aM (eG (cB (bO (qw λi j=>.bl (decide (i<j))) (aY K (aY K (aj 0) "sweeper") "at") (aY K (aY K (aj 0) "sweeper") "stop"))) (bL (aZ Pz [] E0 (ak (aj 0) aJ))) bW)
   (bL (aZ Zmn [] E0 (ak (aj 0) aJ))))
def vp(K:aC)(aQ:Addr)(xg lF eV:Sp):TS:=
 (aM (cG (aY K (aj 0) "sweeper") (aP 1))
   (aM (cG (aY K (aj 1) "at") (aP 2))
   (aM (gH K (aj 1) (bO (qw λi j=>.int (i+j)) (aj 2) (tC (.int 1))) "at")
   (aM (gH K (aj 1) (bO (qw λi j=>.int (i+j)) (aY K (aj 1) "passes") (tC (.int 1))) "passes")
   (aM (cG (aZ lF [] E0 (ak (aY K (aj 0) "heap") (ak (aj 2) aJ))) (aP 3))
   (aM (eG ((ZQ (cB (bO (G.Dv) (aj 3) (tC .non))) (tB (aZ eV [] E0 (ak (aj 0) (ak (aj 3) aJ)))))) (bL (u9 (ak (tC (.str "pass")) (ak (aj 2) (ak (mz aJ) aJ))))) bW)
   (bL (u9 (ak (tC (.str "back")) (ak (jk aQ "back" xg [] E0 (aY K (aj 0) "heap") (ak (aj 2) aJ)) (ak (mz (ak (aj 2) aJ)) aJ)))))))))))
def Zaa(K:aC):TS:=
 (aM (cG (aY K (aj 0) "sweeper") (aP 1))
   (aM (gH K (aj 1) (tC (.str "rest")) "phase")
   (bL (u9 (ak (tC (.str "end")) (ak (aY K (aj 1) "turn") (ak (mz (ak (aY K (aj 1) "walks") (ak (aY K (aj 1) "looks") (ak (aY K (aj 1) "passes") aJ)))) aJ)))))))
def o5(K:aC)(vd:Sp):TS:=
 (bL (aZ vd [] E0 (ak (aY K (aY K (aj 0) "sweeper") "loss") aJ)))
def UT(K:aC)(cQ cP cM bQ:Addr)(KQ KN KJ Ek:Sp):TS:=
 (aM (cG (G.Zmk [("rest",cQ),("walk",cM),("give",cP),("lost",bQ)] (aY K (aY K (aj 0) "sweeper") "phase")) (aP 1))
   (bL (G.ZV 1 [(cQ,KQ),(cM,KJ),(cP,KN),(bQ,Ek)] E0 (ak (aj 0) aJ))))
def zV:TS:=
 (aM (cG (bO (rI (λ_ j=>0<j) λi j=>.int (i % j)) (bO (qw λi j=>.int (i+j)) (bO (rI ZC λi j=>.int (i * j)) (aj 0) (aj 1)) (tC (.int 12345))) (tC (.int 2147483647))) (aP 2))
   (bL (bO (rI Zc9 λi j=>.int (i / j)) (bO (rI (λ_ j=>0<j) λi j=>.int (i % j)) (bO (rI ZC λi j=>.int (i * j)) (aj 2) (aj 2)) (tC (.int 2147483629))) (tC (.int 3)))))
def rP(K:aC):TS:=
 (aM (eG (cB (bO (qw λi j=>.bl (decide (i<j))) (aj 1) (wF (G.jV K) (ak (aj 0) aJ)))) (bL (bO (fJ K) (aj 0) (aj 1))) bW)
   (bL (tC (.int 0))))
def jG(K:aC)(cZ:Sp):TS:=
 (aM (eG (cB (bO (G.Dv) (aj 1) (tC .non))) (bL (bO (G.Dv) (aj 0) (tC .non))) bW)
   (aM (eG (cB (bO (G.Zdk) (aj 1) (tC (.bl true)))) (bL (bO (G.Zdk) (aj 0) (tC (.bl true)))) bW)
   (aM (eG (cB (bO (G.Zdk) (aj 1) (tC (.bl false)))) (bL (bO (G.Zdk) (aj 0) (tC (.bl false)))) bW)
   (aM (eG (tB (wF (G.uD) (ak (aj 1) (ak (tC (.ty "int")) aJ)))) (bL ((MF (wF (G.uD) (ak (aj 0) (ak (tC (.ty "int")) aJ))) (MF (Zca (wF (G.uD) (ak (aj 0) (ak (tC (.ty "bool")) aJ)))) (bO (Eb) (aj 0) (aj 1)))))) bW)
   (aM (eG (tB (wF (G.uD) (ak (aj 1) (ak (tC (.ty "str")) aJ)))) (bL ((MF (wF (G.uD) (ak (aj 0) (ak (tC (.ty "str")) aJ))) (bO (Eb) (aj 0) (aj 1))))) bW)
   (aM (eG ((Dh (tB (wF (G.uD) (ak (aj 1) (ak (tC (.ty "list")) aJ)))) (qW (tB (wF (G.uD) (ak (aj 0) (ak (tC (.ty "list")) aJ))))))) (bL (tC (.bl false))) bW)
   (aM (eG ((Dh (tB (wF (G.uD) (ak (aj 1) (ak (tC (.ty "tuple")) aJ)))) (qW (tB (wF (G.uD) (ak (aj 0) (ak (tC (.ty "tuple")) aJ))))))) (bL (tC (.bl false))) bW)
   (aM (eG (cB (bO (rNe) (wF (G.jV K) (ak (aj 0) aJ)) (wF (G.jV K) (ak (aj 1) aJ)))) (bL (tC (.bl false))) bW)
   (aM (sr (qY (ak (wF (G.jV K) (ak (aj 1) aJ)) aJ)) (aP 2)
   (eG (qW (tB (aZ cZ [] E0 (ak (bO (rIx K) (aj 0) (aj 2)) (ak (bO (rIx K) (aj 1) (aj 2)) aJ))))) (bL (tC (.bl false))) bW))
   (bL (tC (.bl true))))))))))))
def zW:TS:=
 (aM (cG (tC (.int 0)) (aP 1))
   (aM (cG (tC (.int 1)) (aP 2))
   (aM (sr (qY (ak (aj 0) aJ)) (aP 3)
   (aM (cG (bO (qw λi j=>.int (i+j)) (aj 1) (aj 2)) (aP 1))
   (cG (bO (qw λi j=>.int (i+j)) (aj 2) (aj 2)) (aP 2))))
   (bL (aj 1)))))
def xZ(K:aC)(iG:Sp):TS:=
 (aM (cG (bO (fJ K) (mz (ak (tC (.str "first")) (ak (tC (.str "each")) (ak (tC (.str "last")) aJ)))) (bO (rI (λ_ j=>0<j) λi j=>.int (i % j)) (aZ iG [] E0 (ak (aj 0) (ak (tC (.int 48271)) aJ))) (tC (.int 3)))) (aP 1))
   (bL (bO (G.Sv) (aj 1) (bO (fJ K) (mz (ak (tC (.str "")) (ak (tC (.str " old")) (ak (tC (.str " new")) (ak (tC (.str " old new")) aJ))))) (bO (rI (λ_ j=>0<j) λi j=>.int (i % j)) (aZ iG [] E0 (ak (aj 0) (ak (tC (.int 69621)) aJ))) (tC (.int 4)))))))
def vH(K:aC)(Xn cZ Ub:Sp):TS:=
 (aM (cG (aY K (aj 0) "sweeper") (aP 4))
   (aM (cG (tC (.int 0)) (aP 5))
   (aM (eG (cB (bO (Eb) (tSl (G.Zfj) (aj 1) Eg (zx (tC (.int 5)))) (tC (.str "first")))) (cG (aZ Xn [] E0 (ak (aj 3) aJ)) (aP 5)) bW)
   (aM (cG (mz (ak (aY K (aj 4) "sense") (ak (aY K (aj 4) "turn") (ak (aY K (aj 4) "phase") (ak (aY K (aj 4) "grey") (ak (aY K (aj 4) "looked") aJ)))))) (aP 6))
   (aM (eG (qW (tB (aZ cZ [] E0 (ak (aj 6) (ak (mz (ak (bO (rI (λ_ j=>0<j) λi j=>.int (i % j)) (aj 2) (tC (.int 2))) (ak (aj 2) (ak (tC (.str "walk")) (ak (mz aJ) (ak (aj 5) aJ)))))) aJ))))) (bL (tC (.bl false))) bW)
   (aM (sr (qY (ak (aj 3) aJ)) (aP 7)
   (eG (qW (tB (aZ cZ [] E0 (ak (aZ Ub [] E0 (ak (aj 0) (ak (aj 7) aJ))) (ak (bO (Eb) (tSl (G.Zfj) (aj 1) Eg (zx (tC (.int 5)))) (tC (.str "first"))) aJ))))) (bL (tC (.bl false))) bW))
   (bL (aZ cZ [] E0 (ak (mz (ak (aY K (aj 4) "walks") (ak (aY K (aj 4) "looks") (ak (aY K (aj 4) "passes") aJ)))) (ak (mz (ak (tC (.int 0)) (ak (tC (.int 0)) (ak (tC (.int 0)) aJ)))) aJ))))))))))
def vD(K:aC)(cZ Di Py:Sp):TS:=
 (aM (cG (mz aJ) (aP 3))
   (aM (sr (qY (ak (wF (G.jV K) (ak (aj 1) aJ)) aJ)) (aP 4)
   (eG (cB (bO (G.pW) (bO (fJ K) (aj 1) (aj 4)) (tC .non))) (aM (cG (bO (fJ K) (aj 1) (aj 4)) (aP 5))
   (aM (cG (bO (fJ K) (aj 5) (tC (.int 3))) (aP 6))
   (aM (eG (cB (bO (Eb) (aj 2) (tC (.int 0)))) (cG (tC (.str "kept")) (aP 6)) bW)
   (aM (eG (qW (tB (aZ cZ [] E0 (ak (aZ Di [] E0 (ak (aj 0) (ak (aj 4) aJ))) (ak (aj 6) aJ))))) (bL (tC (.bl false))) bW)
   (oY (tBM K "list" uJ (aj 3) (ak (u9 (ak (aj 4) (ak (bO (fJ K) (aj 5) (tC (.int 0))) (ak (bO (fJ K) (aj 5) (tC (.int 1))) (ak (tC (.int 0)) (ak (bO (Zfl) (mz (ak (tC .non) aJ)) (bO (fJ K) (aj 5) (tC (.int 2)))) (ak (aj 6) aJ))))))) aJ))))))) bW))
   (bL (aZ cZ [] E0 (ak (aZ Py [] E0 (ak (aj 0) aJ)) (ak (aj 3) aJ))))))
def vG(K:aC):TS:=
 (aM (sr (qY (ak (wF (G.jV K) (ak (aj 0) aJ)) aJ)) (aP 1)
   (eG (cB (bO (G.Dv) (bO (fJ K) (aj 0) (aj 1)) (tC .non))) (bL (aj 1)) bW))
   (aM (oY (tBM K "list" uJ (aj 0) (ak (tC .non) aJ)))
   (bL (bO (qw λi j=>.int (i - j)) (wF (G.jV K) (ak (aj 0) aJ)) (tC (.int 1))))))
def xY(K:aC)(aQ:Addr)(Uh PN iG cZ:Sp):TS:=
 (aM (cG (bO (rI (λ_ j=>0<j) λi j=>.int (i % j)) (aZ iG [] E0 (ak (aj 3) (ak (tC (.int 16807)) aJ))) (tC (.int 4))) (aP 5))
   (aM (cG (bO (rI (λ_ j=>0<j) λi j=>.int (i % j)) (bO (rI (λ_ j=>0<j) λi j=>.int (i % j)) (bO (rI ZC λi j=>.int (i * j)) (aj 3) (tC (.int 39373))) (tC (.int 1000000000039))) (bO (qw λi j=>.int (i+j)) (bO (rI Zc8 λi j=>.int (i ^ j.toNat)) (tC (.int 10)) (tC (.int 12))) (tC (.int 1)))) (aP 6))
   (aM (cG (jk aQ "make" Uh [] E0 (aY K (aj 0) "heap") (ak (aj 5) (ak (aj 6) (ak (aY K (aY K (aj 0) "sweeper") "sense") aJ)))) (aP 7))
   (aM (cG (aZ PN [] E0 (ak (aj 1) aJ)) (aP 8))
   (aM (cG (bO (qw λi j=>.int (i+j)) (bO (fJ K) (aj 2) (tC (.int 0))) (tC (.int 1))) (Gz (aj 2) (tC (.int 0)) wI))
   (aM (cG (mz (ak (bO (fJ K) (aj 2) (tC (.int 0))) (ak (aj 6) (ak (aj 5) (ak (aj 4) aJ))))) (Gz (aj 1) (aj 8) wI))
   (bL (aZ cZ [] E0 (ak (aj 7) (ak (aj 8) aJ))))))))))
def vC(K:aC)(cZ Ua:Sp):TS:=
 (aM (cG (tC .non) (aP 5))
   (aM (eG ((Dh (cB (bO (qw λi j=>.bl (decide (j<i))) (aj 3) (tC (.int 0)))) (Dh (cB (bO (G.pW) (aj 4) (tC .non))) (Dh (cB (bO (G.pW) (bO (fJ K) (aj 1) (aj 4)) (tC .non))) (cB (bO (Eb) (bO (fJ K) (bO (fJ K) (aj 1) (aj 4)) (tC (.int 3))) (tC (.str "pale")))))))) (aM (cG (bO (fJ K) (bO (fJ K) (aj 1) (aj 4)) (tC (.int 0))) (aP 5))
   (aM (cG (tC (.str "grey")) (Gz (bO (fJ K) (aj 1) (aj 4)) (tC (.int 3)) wI))
   (oY (tBM K "list" uJ (aj 2) (ak (aj 4) aJ))))) bW)
   (bL ((MF (aZ cZ [] E0 (ak (aZ Ua [] E0 (ak (aj 0) (ak (aj 4) aJ))) (ak (aj 5) aJ))) (aZ cZ [] E0 (ak (aY K (aY K (aj 0) "sweeper") "grey") (ak (aj 2) aJ))))))))
def xX(K:aC)(aQ:Addr)(xg w6 iG PL cZ:Sp):TS:=
 (aM (cG (bO (rI (λ_ j=>0<j) λi j=>.int (i % j)) (aZ iG [] E0 (ak (aj 5) (ak (tC (.int 48271)) aJ))) (tC (.int 8))) (aP 6))
   (aM (eG ((ZQ (cB (bO (Eb) (aj 6) (tC (.int 0)))) (cB (bO (Eb) (wF (G.jV K) (ak (aj 1) aJ)) (tC (.int 0)))))) (bL (aZ w6 [] E0 (ak (aj 0) (ak (aj 1) (ak (aj 4) (ak (aj 5) (ak (tC (.str "dark")) aJ))))))) bW)
   (aM (cG (bO (rI (λ_ j=>0<j) λi j=>.int (i % j)) (aZ iG [] E0 (ak (aj 5) (ak (tC (.int 69621)) aJ))) (wF (G.jV K) (ak (aj 1) aJ))) (aP 7))
   (aM (eG (cB (bO (Eb) (aj 6) (tC (.int 1)))) (cG (tC .non) (aP 7)) bW)
   (aM (eG ((Dh (cB (bO (Eb) (aj 6) (tC (.int 2)))) (Dh (cB (bO (G.pW) (bO (fJ K) (aj 1) (aj 7)) (tC .non))) (cB (bO (rNe) (bO (fJ K) (bO (fJ K) (aj 1) (aj 7)) (tC (.int 3))) (tC (.str "grey"))))))) (aM (cG (bO (fJ K) (bO (fJ K) (aj 1) (aj 7)) (tC (.int 0))) (aP 8))
   (aM (cG (tC .non) (Gz (aj 1) (aj 7) wI))
   (bL (aZ cZ [] E0 (ak (jk aQ "back" xg [] E0 (aY K (aj 0) "heap") (ak (aj 7) aJ)) (ak (aj 8) aJ)))))) bW)
   (bL (aZ PL [] E0 (ak (aj 0) (ak (aj 1) (ak (aj 2) (ak (aj 3) (ak (aj 7) aJ))))))))))))
def yc(K:aC)(iG:Sp):TS:=
 (aM (cG (T5) (aP 4))
   (aM (sr (qY (ak (wF (G.jV K) (ak (aj 1) aJ)) aJ)) (aP 5)
   (eG ((Dh (cB (bO (G.pW) (bO (fJ K) (aj 1) (aj 5)) (tC .non))) (Dh (cB (bO (qw λi j=>.bl (decide (i<j))) (bO (rI Zc9 λi j=>.int (i / j)) (aj 5) (aj 2)) (tC (.int 3)))) (cB (bO (qw λi j=>.bl (decide (j<i))) (bO (rI (λ_ j=>0<j) λi j=>.int (i % j)) (aZ iG [] E0 (ak (aj 3) (ak (bO (qw λi j=>.int (i+j)) (tC (.int 7001)) (aj 5)) aJ))) (tC (.int 3))) (tC (.int 0))))))) (aM (cG (aY K (bO (fJ K) (aY K (aj 0) "hands") (bO (rI (λ_ j=>0<j) λi j=>.int (i % j)) (aj 5) (aj 2))) "slots") (aP 6))
   (aM (cG (aj 5) (Gz (aj 6) (bO (rI Zc9 λi j=>.int (i / j)) (aj 5) (aj 2)) wI))
   (Zce (aj 4) (aj 5) (tC (.bl true))))) bW))
   (bL (aj 4))))
def o7(K:aC):TS:=
 (sr (pK K (aj 0)) (aP 3)
   (eG ((Dh (cB (bO (G.pW) (aj 3) (tC .non))) (cB (bO (rIn K false) (bO (fJ K) (aj 3) (tC (.int 0))) (aj 1))))) (cG (aj 2) (Gz (aj 3) (tC (.int 3)) wI)) bW))
def rO(K:aC)(cZ fZ:Sp):TS:=
 (aM (cG (aj 2) (Zee K 3 (yW (aP 3) (yW (aP 4) (yW (aP 5) Zef)))))
   (aM (cG (G.ZR (qY (ak (wF (G.jV K) (ak (aj 0) aJ)) aJ)) [0] (cB (bO (G.pW) (bO (fJ K) (aj 1) (aj 0)) (tC .non))) (aj 0)) (aP 7))
   (aM (eG (cB (bO (Eb) (aj 3) (tC (.str "begin")))) (oY (aZ fZ [] E0 (ak (aj 0) (ak (G.ZR (pK K (aj 7)) [0] G.tK (bO (fJ K) (bO (fJ K) (aj 1) (aj 0)) (tC (.int 0)))) (ak (tC (.str "pale")) aJ))))) bW)
   (aM (eG (cB (bO (rIn K false) (aj 3) (u9 (ak (tC (.str "begin")) (ak (tC (.str "look")) (ak (tC (.str "walk")) aJ)))))) (oY (aZ fZ [] E0 (ak (aj 0) (ak (aj 5) (ak (tC (.str "grey")) aJ))))) bW)
   (aM (eG (cB (bO (Eb) (aj 3) (tC (.str "walk")))) (oY (aZ fZ [] E0 (ak (aj 0) (ak (mz (ak (aj 4) aJ)) (ak (tC (.str "dark")) aJ))))) bW)
   (aM (eG (cB (bO (Eb) (aj 3) (tC (.str "cut")))) (aM (oY (aZ fZ [] E0 (ak (aj 0) (ak (G.ZR (pK K (aj 7)) [0] G.tK (bO (fJ K) (bO (fJ K) (aj 1) (aj 0)) (tC (.int 0)))) (ak (tC (.str "kept")) aJ)))))
   (aM (cG (G.ZR (pK K (aj 7)) [0,1] (tB (Lp (aj 0) (aj 2))) (bO (fJ K) (bO (fJ K) (aj 1) (aj 0)) (tC (.int 0)))) (aP 8))
   (aM (oY (aZ fZ [] E0 (ak (aj 0) (ak (aj 8) (ak (tC (.str "doomed")) aJ)))))
   (bL (aZ cZ [] E0 (ak (aj 2) (ak (u9 (ak (tC (.str "cut")) (ak (wF (G.jV K) (ak (aj 8) aJ)) (ak (aj 8) aJ)))) aJ))))))) bW)
   (aM (eG (cB (bO (Eb) (aj 3) (tC (.str "back")))) (aM (cG (bO (fJ K) (aj 5) (tC (.int 0))) (aP 6))
   (aM (eG ((ZQ (cB (bO (G.Dv) (bO (fJ K) (aj 0) (aj 6)) (tC .non))) (ZQ (cB (bO (rNe) (bO (fJ K) (bO (fJ K) (aj 0) (aj 6)) (tC (.int 0))) (aj 4))) (cB (bO (rNe) (bO (fJ K) (bO (fJ K) (aj 0) (aj 6)) (tC (.int 3))) (tC (.str "doomed"))))))) (bL (tC (.bl false))) bW)
   (cG (tC .non) (Gz (aj 0) (aj 6) wI)))) bW)
   (bL (bO (rNe) (aj 3) (tC (.str "lost")))))))))))
def vB(K:aC)(qJ KR Zio:Sp):TS:=
 (aM (sr (qY (ak (tC (.int 99)) aJ)) (aP 3)
   (aM (cG (aZ Zio [] E0 (ak (aj 0) aJ)) (aP 4))
   (aM (eG ((ZQ (qW (tB (aZ KR [] E0 (ak (aj 1) (ak (aj 2) (ak (aj 4) aJ)))))) (qW (tB (aZ qJ [] E0 (ak (aj 0) (ak (aj 1) (ak (tC (.int 1)) aJ)))))))) (bL (tC (.bl false))) bW)
   (eG (cB (bO (Eb) (bO (Xz K) (aj 4) (tC (.int 0))) (tC (.str "end")))) (bL (tC (.bl true))) bW))))
   (bL (tC (.bl false))))
def tV(K:aC)(Ue PK fZ:Sp):TS:=
 (aM (sr (qY (ak (bO (rI (λ_ j=>0<j) λi j=>.int (i % j)) (bO (rI Zc9 λi j=>.int (i / j)) (aj 3) (tC (.int 40))) (tC (.int 3))) aJ)) (aP 4)
   (aM (eG (qW (tB (aZ PK [] E0 (ak (aj 0) (ak (aj 1) (ak (aZ Ue [] E0 (ak (aj 0) (ak (aj 1) (ak (aj 2) (ak (bO (qw λi j=>.int (i+j)) (aj 3) (aj 4)) aJ))))) aJ)))))) (bL (tC (.bl false))) bW)
   (sr (pK K (aY K (aj 0) "hands")) (aP 5)
   (aM (cG (aY K (aj 5) "slots") (aP 6))
   (sr (qY (ak (wF (G.jV K) (ak (aj 6) aJ)) aJ)) (aP 7)
   (cG (tC .non) (Gz (aj 6) (aj 7) wI)))))))
   (aM (oY (aZ fZ [] E0 (ak (aj 1) (ak (G.ZR (pK K (aj 1)) [] (cB (bO (G.pW) (aj 0) (tC .non))) (bO (fJ K) (aj 0) (tC (.int 0)))) (ak (tC (.str "pale")) aJ)))))
   (bL (tC (.bl true)))))
def Za9(K:aC)(eZ:Addr)(El PX lX Ud w6 qJ iG M8 Uc M7 Z2:Sp):TS:=
 (aM (cG (aZ Ud [] E0 (ak (aZ lX [] E0 (ak (aj 0) (ak (tC (.int 0)) aJ))) aJ)) (aP 1))
   (aM (cG (bO (qw λi j=>.int (i+j)) (tC (.int 1)) (bO (rI (λ_ j=>0<j) λi j=>.int (i % j)) (aZ lX [] E0 (ak (aj 0) (ak (tC (.int 1)) aJ))) (tC (.int 5)))) (aP 2))
   (aM (cG (bO (rI (λ_ j=>0<j) λi j=>.int (i % j)) (bO (rI Zc9 λi j=>.int (i / j)) (aZ lX [] E0 (ak (aj 0) (ak (tC (.int 1)) aJ))) (tC (.int 5))) (tC (.int 8))) (aP 3))
   (aM (cG (Eh eZ El [] E0 (ak (bO (rI Zc8 λi j=>.int (i ^ j.toNat)) (tC (.int 10)) (tC (.int 15))) (ak (aZ Z2 [] E0 (ak (aj 1) aJ)) (ak (G.ZR (qY (ak (aj 2) aJ)) [] G.tK (u9 (ak (bO (G.Zfk) (bO (Zj7) (tC (.str "ab")) (bO (rI (λ_ j=>0<j) λi j=>.int (i % j)) (aj 0) (tC (.int 2)))) (bO (qw λi j=>.int (i+j)) (aj 0) (tC (.int 1)))) (ak (tC (.int 3)) aJ)))) aJ)))) (aP 4))
   (aM (cG (mz aJ) (aP 5))
   (aM (cG (mz (ak (tC (.int 0)) aJ)) (aP 6))
   (aM (sr (pK K (tSl (Zj6 K) (aj 0) (zx (tC (.int 2))) (zx (tC (.int 14))))) (aP 7)
   (eG (qW (tB (aZ w6 [] E0 (ak (aj 4) (ak (aj 5) (ak (aj 6) (ak (aj 7) (ak (tC (.str "pale")) aJ)))))))) (bL (tC (.bl false))) bW))
   (aM (eG (qW (tB (aZ M8 [] E0 (ak (aj 4) (ak (aj 5) (ak (aj 2) (ak (aZ lX [] E0 (ak (aj 0) (ak (tC (.int 1)) aJ))) aJ))))))) (bL (tC (.bl false))) bW)
   (aM (cG (tC (.int 0)) (aP 8))
   (aM (eG (cB (bO (qw λi j=>.bl (decide (j<i))) (aj 3) (tC (.int 1)))) (aM (cG (bO (qw λi j=>.int (i+j)) (tC (.int 1)) (bO (rI (λ_ j=>0<j) λi j=>.int (i % j)) (bO (rI Zc9 λi j=>.int (i / j)) (aZ lX [] E0 (ak (aj 0) (ak (tC (.int 1)) aJ))) (tC (.int 40))) (tC (.int 3)))) (aP 8))
   (eG ((ZQ (cB (bO (G.pW) (aZ M7 [] E0 (ak (aj 4) aJ)) (tC .non))) (qW (tB (aZ PX [] E0 (ak (aj 4) (ak (aj 1) (ak (aj 8) (ak (aj 2) aJ))))))))) (bL (tC (.bl false))) bW)) bW)
   (aM (cG (mz aJ) (aP 9))
   (aM (sr (pK K (tSl (Zj6 K) (aj 0) (zx (tC (.int 14))) (zx (tC (.int 63))))) (aP 7)
   (aM (eG (qW (tB (aZ Uc [] E0 (ak (aj 4) (ak (aj 5) (ak (aj 9) (ak (aj 8) (ak (aj 6) (ak (aj 7) aJ))))))))) (bL (tC (.bl false))) bW)
   (eG ((Dh (cB (bO (Eb) (bO (rI (λ_ j=>0<j) λi j=>.int (i % j)) (aZ iG [] E0 (ak (aj 7) (ak (tC (.int 39373)) aJ))) (tC (.int 3))) (tC (.int 0)))) (qW (tB (aZ qJ [] E0 (ak (aj 4) (ak (aj 5) (ak (aj 8) aJ)))))))) (bL (tC (.bl false))) bW)))
   (bL (aZ qJ [] E0 (ak (aj 4) (ak (aj 5) (ak (aj 8) aJ)))))))))))))))))
structure TxC(K:aC)(bw aQ:Addr):Prop where
 d9:De K bw
 d7:bD K bw "birth"
 lC:bD K bw "bulk"
 lB:bD K bw "tone"
 mR:bD K bw "load"
 fW:bD K bw "fields"
 cC:De K aQ
 mQ:bD K aQ "room"
 bJ:bD K aQ "cells"
 iH:bD K aQ "used"
 lA:bD K aQ "born"
 Mj:EqD K bw
structure wX(CC:Addr)(H:Hp)(p fa:Addr)(birth bulk tone load:Int)(fl:List V):Prop where
 o:∃dx,H p=some (.ins CC dx (oR birth bulk tone load fa))
 f:H fa=some (.lst fl)
theorem wX.same{CC:Addr}{H H':Hp}{p fa:Addr}{birth bulk tone load:Int}{fl:List V}(h:wX CC H p fa birth bulk tone load fl)(s:bC H H'):wX CC H' p fa birth bulk tone load fl:=by
 obtain⟨⟨dx,h1⟩,h2⟩:=h;exact⟨⟨dx,s _ _ h1⟩,s _ _ h2⟩
structure HpO(CH:Addr)(H:Hp)(hp ca:Addr)(room used born:Int)(cs:List V):Prop where
 o:∃dx,H hp=some (.ins CH dx (jD room ca used born))
 c:H ca=some (.lst cs)
theorem Pg{a b c d e f g:Int}{x y:Addr}:oR a b c d x≠jD e y f g:=λz=>by
 have:=congrArg List.length z;cases this
def u6(CC:Addr):Sp:=λvs H Q E=>∃p birth many bulk tone,vs=[.ref p,.int birth,.int many,.int bulk,.int tone]/\∃dx,H p=some (.ins CC dx [])/\0<=many/\many<=1000/\
 ∀fa H',H fa=none->H' p=some (.ins CC dx (oR birth bulk tone 0 fa))->H' fa=some (.lst (List.replicate many.toNat V.non))->(∀b o,H b=some o->b≠p->H' b=some o)->Q .non H'
def lN(CC:Addr):Sp:=λvs H Q E=>∃p,vs=[.ref p]/\∃fa birth bulk tone load fl,wX CC H p fa birth bulk tone load fl/\Q (.int (1+fl.length+bulk)) H
def uX(CH:Addr):Sp:=λvs H Q E=>∃p room,vs=[.ref p,.int room]/\∃dx,H p=some (.ins CH dx [])/\
 ∀ca H',H ca=none->H' p=some (.ins CH dx (jD room ca 0 0))->H' ca=some (.lst [])->(∀b o,H b=some o->b≠p->H' b=some o)->Q .non H'
def uY(CH:Addr):Sp:=λvs H Q E=>∃hp,vs=[.ref hp]/\∃ca room used born cs,HpO CH H hp ca room used born cs/\Q (.int (room - used)) H
def XJ(cs:List V):List Int:=((List.range cs.length).filter λi=>!decide (cs[i]? =some V.non)).map λ(i:Nat)=>(i:Int)
def lM(CH:Addr):Sp:=λvs H Q E=>∃hp,vs=[.ref hp]/\∃ca room used born cs,HpO CH H hp ca room used born cs/\cs.length<=1000/\∀l,H l=none->Q (.ref l) (upd H l (.lst ((XJ cs).map V.int)))
def putN(cs:List V)(v:V):List V:=if V.non∈cs then cs.set (cs.idxOf V.non) v else cs++[v]
def yO(K:aC)(CH:Addr):Sp:=λvs H Q E=>∃hp v,vs=[.ref hp,v]/\∃ca room used born cs,HpO CH H hp ca room used born cs/\OkN K H cs/\cs.length<=1000/\Q (.int (cs.idxOf V.non)) (upd H ca (.lst (putN cs v)))
def lE(CC CH:Addr):Sp:=λvs H Q E=>∃hp i,vs=[.ref hp,.int i]/\∃ca dx room used born cs p fa birth bulk tone load fl,0<=i/\H hp=some (.ins CH dx (jD room ca used born))/\H ca=some (.lst cs)/\cs[i.toNat]? =some (.ref p)/\wX CC H p fa birth bulk tone load fl/\
 Q (.int birth) (upd (upd H hp (.ins CH dx (jD room ca (used - (1+fl.length+bulk)) born))) ca (.lst (cs.set i.toNat V.non)))
def rA(K:aC)(CC CH CF:Addr):Sp:=λvs H Q E=>∃hp many bulk tone,vs=[.ref hp,.int many,.int bulk,.int tone]/\∃ca dx room used born cs,H hp=some (.ins CH dx (jD room ca used born))/\H ca=some (.lst cs)/\OkN K H cs/\cs.length<=1000/\0<=many/\many<=1000/\
 (room - used<1+many+bulk->∀H',bC H H'->E (.ref CF) none H')/\
 (1+many+bulk<=room - used->∀p fa H',H p=none->H fa=none->Fm [hp,ca] H H'->H' hp=some (.ins CH dx (jD room ca (used+(1+many+bulk)) (born+1)))->H' ca=some (.lst (putN cs (.ref p)))->
  wX CC H' p fa (born+1) bulk tone 0 (List.replicate many.toNat V.non)->Q (.int (cs.idxOf V.non)) H')
section
variable {K:aC}{bw aQ lR:Addr}{H:Hp}{Q:VK}{E:XK}{n:St->Hp->Prop}{bk ct:St->Hp->Prop}
theorem R4{p:Addr}(T:TxC K bw aQ)(q:∃fa birth bulk tone load fl,wX bw H p fa birth bulk tone load fl/\Q (.int (1+fl.length+bulk)) H):vM K ⟨n,Q,bk,ct⟩ [some (.ref p)] H:=by
 obtain⟨fa,birth,bulk,tone,load,fl,⟨⟨dx,h1⟩,h2⟩,h⟩:=q;unfold vM;walk_at"e";refine aD h1 T.d9 T.fW oE ?_;walk_at"e";refine iI (cR.of h2) ?_;walk_at"e";refine aD h1 T.d9 T.lC Dd ?_;walk_at"e";exact h
theorem JW{p:Addr}{birth many bulk tone:Int}(T:TxC K bw aQ)(q:∃dx,H p=some (.ins bw dx [])/\0<=many/\many<=1000/\
 ∀fa H',H fa=none->H' p=some (.ins bw dx (oR birth bulk tone 0 fa))->H' fa=some (.lst (List.replicate many.toNat V.non))->(∀b o,H b=some o->b≠p->H' b=some o)->Q .non H'):
  qt K ⟨λ_ H'=>Q .non H',Q,bk,ct⟩ [some (.ref p),some (.int birth),some (.int many),some (.int bulk),some (.int tone)] H:=by
 obtain⟨dx,hp,h0,h1,h⟩:=q;unfold qt;walk_at"e";refine⟨p,bw,dx,[],rfl,hp,T.d9,T.d7,by decide,?_⟩;walk_at"e";refine⟨p,bw,dx,_,rfl,ao,T.d9,T.lC,by show 1<1000;decide,?_⟩;rw[eU];walk_at"e";refine⟨p,bw,dx,_,rfl,ao,T.d9,T.lB,by show 2<1000;decide,?_⟩;rw[eU];walk_at"e";refine⟨p,bw,dx,_,rfl,ao,T.d9,T.mR,by show 3<1000;decide,?_⟩;rw[eU];walk_at"e";refine⟨by decide,λl0 hl0=>?_⟩;walk_at"e";refine⟨l0,many,_,rfl,rfl,ao,by omega,by omega,?_,λfa hfa=>?_⟩
 ·show 1 * many.toNat<=sizeLine;exact dU (by omega)
 have npl:p≠l0:=aB ao hl0;have npf:p≠fa:=aB ((aA npl).trans ao) hfa;walk_at"e";refine⟨p,bw,dx,_,rfl,(aA npf).trans ((aA npl).trans ao),T.d9,T.fW,by show 4<1000;decide,?_⟩;have nfa:H fa=none:=by
  have e:=hfa;have n1:fa≠l0:=λz=>by rw[z,ao]at e;cases e
  rw[aA n1,aA npf.symm]at e;exact e
 refine h fa _ nfa (ao.trans (congrArg (λl=>some (HO.ins bw dx l)) Zi8)) ?_ λb o hb hne=>?_
 ·rw[aA npf.symm,ao];have e:(List.replicate many.toNat [V.non]).flatten=List.replicate many.toNat V.non:=by
   generalize many.toNat=k
   induction k with
   | zero=>rfl
   | succ k ih=>rw[List.replicate_succ,List.replicate_succ,List.flatten_cons,ih];rfl
  rw[e]
 ·have e1:upd H p (HO.ins bw dx (cz "load" (V.int 0) (cz "tone" (V.int tone) (cz "bulk" (V.int bulk) (cz "birth" (V.int birth) []))))) b=some o:=(aA hne).trans hb;have n1:b≠l0:=aB e1 hl0;have n2:b≠fa:=aB ((aA n1).trans e1) hfa;rw[aA hne,aA n2,aA n1];exact e1
theorem JS{p:Addr}{room:Int}(T:TxC K bw aQ)(q:∃dx,H p=some (.ins aQ dx [])/\
 ∀ca H',H ca=none->H' p=some (.ins aQ dx (jD room ca 0 0))->H' ca=some (.lst [])->(∀b o,H b=some o->b≠p->H' b=some o)->Q .non H'):
  qm K ⟨λ_ H'=>Q .non H',Q,bk,ct⟩ [some (.ref p),some (.int room)] H:=by
 obtain⟨dx,hp,h⟩:=q;unfold qm;walk_at"e";refine⟨p,aQ,dx,[],rfl,hp,T.cC,T.mQ,by decide,?_⟩;walk_at"e";refine⟨by decide,λca hca=>?_⟩;walk_at"e";have npc:p≠ca:=aB ao hca;refine⟨p,aQ,dx,_,rfl,(aA npc).trans ao,T.cC,T.bJ,by show 1<1000;decide,?_⟩;walk_at"e";refine⟨p,aQ,dx,_,rfl,ao,T.cC,T.iH,by show 2<1000;decide,?_⟩;rw[eU];walk_at"e";refine⟨p,aQ,dx,_,rfl,ao,T.cC,T.lA,by show 3<1000;decide,?_⟩;rw[eU];have nca:H ca=none:=by
  have e:=hca;rw[aA npc.symm]at e;exact e
 refine h ca _ nca (ao.trans (congrArg (λl=>some (HO.ins aQ dx l)) Zhk)) ?_ λb o hb hne=>?_
 ·rw[aA npc.symm,ao]
 ·rw[aA hne,aA (aB ((aA hne).trans hb) hca),aA hne];exact hb
theorem W4{hp:Addr}(T:TxC K bw aQ)(q:∃ca room used born cs,HpO aQ H hp ca room used born cs/\Q (.int (room - used)) H):yf K ⟨n,Q,bk,ct⟩ [some (.ref hp)] H:=by
 obtain⟨ca,room,used,born,cs,⟨⟨dx,h1⟩,h2⟩,h⟩:=q;unfold yf;walk_at"e";refine aD h1 T.cC T.mQ Ro ?_;walk_at"e";refine aD h1 T.cC T.iH vX ?_;walk_at"e";exact h
theorem RX{hp:Addr}(T:TxC K bw aQ)(q:∃ca room used born cs,HpO aQ H hp ca room used born cs/\cs.length<=1000/\∀l,H l=none->Q (.ref l) (upd H l (.lst ((XJ cs).map V.int)))):vK K ⟨n,Q,bk,ct⟩ [some (.ref hp)] H:=by
 obtain⟨ca,room,used,born,cs,⟨⟨dx,h1⟩,h2⟩,hl,h⟩:=q;unfold vK;walk_at"e";refine Av ?_;walk_at"e";refine aD h1 T.cC T.bJ bN ?_;walk_at"e";refine iI (cR.of h2) ?_;walk_at"e";refine⟨_,rfl,by omega,by omega,?_⟩;refine Yw (n:=cs.length) (by omega) (p:=λi=>!decide (cs[i]? =some V.non)) (f:=λi=>.int i) (by omega) ?_ ?_ ?_
 ·intro i hi k hk;walk_at"c";walk_at"e";refine aD h1 T.cC T.bJ bN ?_;walk_at"e";refine dz (cR.of h2) (dj (cJ hi)) ?_;walk_at"e";refine Zba ?_;rw[cJ hi]at hk;walk_at"e";simpa using hk
 ·intro i hi _ k hk;walk_at"c";walk_at"e";exact hk
 ·have e:((XJ cs).map V.int)=((List.range cs.length).filter λi=>!decide (cs[i]? =some V.non)).map λ(i:Nat)=>V.int i:=by
   unfold XJ;rw[List.map_map];rfl
  rw[<- e];exact h
theorem Zt{hp:Addr}{v:V}(T:TxC K bw aQ)(q:∃ca room used born cs,HpO aQ H hp ca room used born cs/\OkN K H cs/\cs.length<=1000/\Q (.int (cs.idxOf V.non)) (upd H ca (.lst (putN cs v)))):zX K ⟨n,Q,bk,ct⟩ [some (.ref hp),some v,none] H:=by
 obtain⟨ca,room,used,born,cs,⟨⟨dx,h1⟩,h2⟩,ho,hl,h⟩:=q;unfold zX;walk_at"e";refine aD h1 T.cC T.bJ bN ?_;walk_at"e";refine Zhc (cR.of h2) ho ?_;walk_at"e";refine wO (λhn=>?_) (λhn=>?_)
 ·walk_at"e";refine aD h1 T.cC T.bJ bN ?_;refine⟨.inl ⟨rfl,_,cR.of h2⟩,?_⟩;walk_at"e";refine⟨ca,cs,v,rfl,rfl,h2,Nat.lt_of_le_of_lt hl (by decide),?_⟩;walk_at"e";have hne:hp≠ca:=pX h1 h2 (λz=>by cases z);refine aD ((aA hne).trans h1) T.cC T.bJ bN ?_;walk_at"e";refine iI (cR.of ao) ?_;walk_at"e";have e1:(((cs++[v]).length:Int) - 1)=(cs.idxOf V.non:Nat):=by
   rw[List.length_append,List.idxOf_eq_length hn];simp
  have e2:putN cs v=cs++[v]:=by unfold putN;rw[if_neg hn]
  rw[e1,<- e2];exact h
 ·walk_at"e";refine aD h1 T.cC T.bJ bN ?_;refine⟨.inl ⟨rfl,_,cR.of h2⟩,?_⟩;walk_at"e";refine⟨ca,cs,rfl,rfl,cR.of h2,ho,hn,?_⟩;walk_at"e";refine aD h1 T.cC T.bJ bN ?_;walk_at"e";have hi:cs.idxOf V.non<cs.length:=List.idxOf_lt_length_iff.mpr hn;refine⟨ca,cs,_,_,rfl,rfl,h2,yF hi,?_⟩;have e2:putN cs v=cs.set (cs.idxOf V.non) v:=by unfold putN;rw[if_pos hn]
  rw[<- e2];walk_at"e";exact h
theorem W5{hp:Addr}{i:Int}(T:TxC K bw aQ)(q:∃ca dx room used born cs p fa birth bulk tone load fl,0<=i/\H hp=some (.ins aQ dx (jD room ca used born))/\H ca=some (.lst cs)/\cs[i.toNat]? =some (.ref p)/\wX bw H p fa birth bulk tone load fl/\
 Q (.int birth) (upd (upd H hp (.ins aQ dx (jD room ca (used - (1+fl.length+bulk)) born))) ca (.lst (cs.set i.toNat V.non)))):yh K bw (lN bw) ⟨n,Q,bk,ct⟩ [some (.ref hp),some (.int i),none] H:=by
 obtain⟨ca,dx,room,used,born,cs,p,fa,birth,bulk,tone,load,fl,h0,h1,h2,hi,co,h⟩:=q;obtain⟨⟨dp,c1⟩,c2⟩:=id co;unfold yh;walk_at"e";refine aD h1 T.cC T.bJ bN ?_;walk_at"e";refine dz (cR.of h2) (fQ h0 hi) ?_;walk_at"e";refine aD h1 T.cC T.iH vX ?_;walk_at"e";refine⟨p,dp,_,rfl,c1,ur,?_⟩;walk_at"e";refine⟨p,rfl,fa,birth,bulk,tone,load,fl,co,?_⟩;walk_at"e";refine⟨hp,aQ,dx,_,rfl,h1,T.cC,T.iH,by show 4<1000;decide,?_⟩;rw[Ay];have hne:hp≠ca:=pX h1 h2 (λz=>by cases z);walk_at"e";refine aD ao T.cC T.bJ bN ?_;walk_at"e";have hlt:i.toNat<cs.length:=(cV hi).1;refine⟨ca,cs,_,_,rfl,rfl,(aA hne.symm).trans h2,Zkm h0 hlt,?_⟩;walk_at"e";refine aD (C:=bw) (a:=p) (dx:=dp) (fs:=oR birth bulk tone load fa) ?_ T.d9 T.d7 iT ?_
 ·have n1:p≠ca:=pX c1 h2 (λz=>by cases z);have n2:p≠hp:=pX c1 h1 (λz=>by injection z with _ _ z;exact Pg z);rw[aA n1,aA n2];exact c1
 exact h
theorem W3{hp:Addr}{many bulk tone:Int}(T:TxC K bw aQ)(q:∃ca dx room used born cs,H hp=some (.ins aQ dx (jD room ca used born))/\H ca=some (.lst cs)/\OkN K H cs/\cs.length<=1000/\0<=many/\many<=1000/\
 (room - used<1+many+bulk->∀H',bC H H'->E (.ref lR) none H')/\
 (1+many+bulk<=room - used->∀p fa H',H p=none->H fa=none->Fm [hp,ca] H H'->H' hp=some (.ins aQ dx (jD room ca (used+(1+many+bulk)) (born+1)))->H' ca=some (.lst (putN cs (.ref p)))->
  wX bw H' p fa (born+1) bulk tone 0 (List.replicate many.toNat V.non)->Q (.int (cs.idxOf V.non)) H')):
  ye K bw lR aQ (u6 bw) (lN bw) (uY aQ) (yO K aQ) E ⟨n,Q,bk,ct⟩ [some (.ref hp),some (.int many),some (.int bulk),some (.int tone),none] H:=by
 obtain⟨ca,dx,room,used,born,cs,h1,h2,ho,hl,m0,m1,hE,hQ⟩:=q;have hne:hp≠ca:=pX h1 h2 (λz=>by cases z);unfold ye;walk_at"e";refine aD h1 T.cC T.lA Rp ?_;walk_at"e";intro p dp np ndp ned;refine⟨p,_,many,_,_,rfl,dp,ao,m0,m1,λfa H1 nfa c1 c2 f3=>⟨rfl,?_⟩⟩;have Zna:H fa=none:=by
  have e:=nfa
  by_cases z1:fa=p
  ·rw[z1,ao]at e;cases e
  ·rw[aA z1]at e
   by_cases z2:fa=dp
   ·rw[z2,ao]at e;cases e
   ·rw[aA z2]at e;exact e
 have sm:bC H H1:=λb o hb=>by
  refine f3 b o ?_ (aB hb np);rw[aA (aB hb np),aA (aB hb ndp)];exact hb
 have co:wX bw H1 p fa (born+1) bulk tone 0 (List.replicate many.toNat V.non):=⟨⟨dp,c1⟩,c2⟩;have el:((List.replicate many.toNat V.non).length:Int)=many:=by rw[List.length_replicate];omega
 walk_at"e";refine⟨p,dp,_,rfl,c1,ur,?_⟩;walk_at"e";refine⟨p,rfl,fa,_,_,_,_,_,co,?_⟩;walk_at"e";refine⟨hp,dx,_,rfl,sm _ _ h1,Rn,?_⟩;walk_at"e";refine⟨hp,rfl,ca,room,used,born,cs,⟨⟨dx,sm _ _ h1⟩,sm _ _ h2⟩,?_⟩;walk_at"e";rw[el];refine pU (λhf=>?_) (λhf=>?_)
 ·walk_at"e";exact⟨by decide,hE hf H1 sm⟩
 ·walk_at"e";refine aD c1 T.d9 T.d7 iT ?_;walk_at"e";refine⟨hp,aQ,dx,_,rfl,sm _ _ h1,T.cC,T.lA,by show 4<1000;decide,?_⟩;rw[O2];walk_at"e";refine aD ao T.cC T.iH vX ?_;walk_at"e";have n1:p≠hp:=(aB h1 np).symm;have n2:fa≠hp:=(aB h1 Zna).symm;have n3:p≠ca:=(aB h2 np).symm;have n4:fa≠ca:=(aB h2 Zna).symm;refine⟨p,dp,_,rfl,(aA n1).trans c1,ur,?_⟩;walk_at"e";refine⟨p,rfl,fa,_,_,_,_,_,⟨⟨dp,(aA n1).trans c1⟩,(aA n2).trans c2⟩,?_⟩;walk_at"e";rw[el];refine⟨hp,aQ,dx,_,rfl,ao,T.cC,T.iH,by show 4<1000;decide,?_⟩;rw[Ay,eU];walk_at"e";refine⟨hp,dx,_,rfl,ao,V6,?_⟩;walk_at"e";refine⟨hp,.ref p,rfl,ca,room,_,_,cs,⟨⟨dx,ao⟩,(aA hne.symm).trans (sm _ _ h2)⟩,?_,hl,?_⟩
  ·intro y hy;rcases ho y hy with e | ⟨a,C,d,fs,e,ha,hc,he⟩
   ·exact .inl e
   ·refine .inr ?_
    by_cases z:a=hp
    ·rw[z]at ha e;rw[h1]at ha;cases ha;exact⟨hp,_,_,_,e,ao,hc,he⟩
    ·exact⟨a,C,d,fs,e,(aA z).trans (sm _ _ ha),hc,he⟩
  ·refine hQ (by omega) p fa _ np Zna ?_ ((aA hne).trans ao) ao ⟨⟨dp,?_⟩,?_⟩
   ·intro b o hb hn;have b1:b≠hp:=λz=>hn (by rw[z];exact List.mem_cons_self);have b2:b≠ca:=λz=>hn (by rw[z];exact List.mem_cons_of_mem _ List.mem_cons_self);rw[aA b2,aA b1];exact sm _ _ hb
   ·rw[aA n3,aA n1];exact c1
   ·rw[aA n4,aA n2];exact c2
end
structure Ce where
 birth:Int
 bulk:Int
 tone:Int
 load:Int
 fl:List (Option Int)
 deriving DecidableEq
structure Sw where
 sense:Int
 phase:Str
 grey:List Int
 looked:Int
 turn:Int
 at':Int
 stop:Int
 walks:Int
 looks:Int
 passes:Int
 loss:V
structure Wm where
 room:Int
 used:Int
 born:Int
 cells:List (Option Ce)
 hands:List (Str×List (Option Int))
 names:List (Str×(Int×Int))
 w:Int
 tells:Int
 sw:Sw
structure Wa where
 wo:Addr
 hp:Addr
 ca:Addr
 ki:Addr
 lk:Addr
 hl:Addr
 nm:Addr
 sw:Addr
 gr:Addr
 hs:List (Addr×Addr)
 cs:List (Option (Addr×Addr))
 ns:List Addr
def oV:Option Int->V
 | none=>.non
 | some i=>.int i
def pV:Option (Addr×Addr)->V
 | none=>.non
 | some p=>.ref p.1
structure yR(s:Nat)(t0:Nat->Prop)(H H':Hp)(T T':Tg):Prop where
 kp:∀b o,H b=some o->(T b).1=s->¬ t0 (T b).2->H' b=some o
 tg:∀b o,H b=some o->T' b=T b
section
variable {CHd CC:Addr}{H H':Hp}{T T':Tg}{s j i:Nat}{t0:Nat->Prop}
theorem yR.at{a:Addr}{o:HO}{m:Nat}(f:yR s t0 H H' T T')(ht:T a=(s,m))(n:¬ t0 m)(h:H a=some o):H' a=some o:=f.kp a o h (by rw[ht]) (by rw[ht];exact n)
theorem yR.tag{a:Addr}{o:HO}{x:Nat×Nat}(f:yR s t0 H H' T T')(h:H a=some o)(ht:T a=x):T' a=x:=(f.tg a o h).trans ht
theorem yR.Jb{a:Addr}{o:HO}{m:Nat}(ht:T a=(s,m)):yR s (·=m) H (upd H a o) T T:=⟨λb u h e n=>by
  have:b≠a:=λz=>n (by rw[z,ht]);rw[aA this];exact h,λ_ _ _=>rfl⟩
theorem yR.of_same(e:bC H H'):yR s (λ_=>False) H H' T T:=⟨λb o h _ _=>e b o h,λ_ _ _=>rfl⟩
theorem yR.Zg9{s':Nat}(e:fj s' H H' T T')(n:s≠s'):yR s (λ_=>False) H H' T T':=⟨λb o h z _=>e.kp b o h (by rw[z];exact n),e.tg⟩
structure HdO(CHd:Addr)(H:Hp)(T:Tg)(s j:Nat)(p:Addr×Addr)(m:Str×List (Option Int)):Prop where
 t1:T p.1=(s,20+2 * j)
 t2:T p.2=(s,21+2 * j)
 o1:∃dx,H p.1=some (.ins CHd dx (Y5 m.1 p.2))
 o2:H p.2=some (.lst (m.2.map oV))
theorem HdO.mv{p:Addr×Addr}{m:Str×List (Option Int)}(h:HdO CHd H T s j p m)(f:yR s t0 H H' T T')(n1:¬ t0 (20+2 * j))(n2:¬ t0 (21+2 * j)):HdO CHd H' T' s j p m:=by
 obtain⟨a1,a2,⟨dx,b1⟩,b2⟩:=h;exact⟨f.tag b1 a1,f.tag b2 a2,⟨dx,f.at a1 n1 b1⟩,f.at a2 n2 b2⟩
structure CeO(CC:Addr)(H:Hp)(T:Tg)(s i:Nat)(p:Addr×Addr)(c:Ce):Prop where
 t1:T p.1=(s,100+2 * i)
 t2:T p.2=(s,101+2 * i)
 o1:∃dx,H p.1=some (.ins CC dx (oR c.birth c.bulk c.tone c.load p.2))
 o2:H p.2=some (.lst (c.fl.map oV))
theorem CeO.mv{p:Addr×Addr}{c:Ce}(h:CeO CC H T s i p c)(f:yR s t0 H H' T T')(n1:¬ t0 (100+2 * i))(n2:¬ t0 (101+2 * i)):CeO CC H' T' s i p c:=by
 obtain⟨a1,a2,⟨dx,b1⟩,b2⟩:=h;exact⟨f.tag b1 a1,f.tag b2 a2,⟨dx,f.at a1 n1 b1⟩,f.at a2 n2 b2⟩
def CeP(CC:Addr)(H:Hp)(T:Tg)(s i:Nat):Option (Addr×Addr)->Option Ce->Prop
 | none,none=>True
 | some p,some c=>CeO CC H T s i p c
 | _,_=>False
theorem CeP.mv{p:Option (Addr×Addr)}{c:Option Ce}(h:CeP CC H T s i p c)(f:yR s t0 H H' T T')(n1:¬ t0 (100+2 * i))(n2:¬ t0 (101+2 * i)):CeP CC H' T' s i p c:=by
 cases p with
 | none=>cases c with
  | none=>trivial
  | some c=>exact h.elim
 | some p=>cases c with
  | none=>exact h.elim
  | some c=>exact CeO.mv h f n1 n2
end
def NmO(H:Hp)(T:Tg)(t:Addr)(m:Str×(Int×Int)):Prop:=T t=(0,0)/\H t=some (.tup [.int m.2.1,.int m.2.2])
structure Cs where
 W:Addr
 H:Addr
 C:Addr
 K:Addr
 D:Addr
 S:Addr
 F:Addr
 E:Addr
 L:Addr
structure WB(X:Cs)(H:Hp)(T:Tg)(s:Nat)(A:Wa)(w tells:Int):Prop where
 tw:T A.wo=(s,0)
 tk:T A.ki=(0,0)
 tl:T A.lk=(0,0)
 tn:T A.hl=(s,5)
 ow:∃dx,H A.wo=some (.ins X.W dx (zp A.hp A.ki A.hl A.nm A.sw))
 ok:∃dx,H A.ki=some (.ins X.K dx (Gn A.lk tells))
 ol:∃dx,(w=0/\H A.lk=some (.ins X.F dx []))\/(w=1/\H A.lk=some (.ins X.E dx []))\/(w=2/\H A.lk=some (.ins X.L dx []))
 on:H A.hl=some (.lst (A.hs.map λp=>V.ref p.1))
structure WH(X:Cs)(H:Hp)(T:Tg)(s:Nat)(A:Wa)(room used born:Int):Prop where
 th:T A.hp=(s,1)
 tc:T A.ca=(s,2)
 oh:∃dx,H A.hp=some (.ins X.H dx (jD room A.ca used born))
 oc:H A.ca=some (.lst (A.cs.map pV))
def nmK(M:List (Str×(Int×Int)))(ns:List Addr):List ((Int ⊕ Str)×V):=List.zipWith (λ(m:Str×(Int×Int)) (t:Addr)=>(Sum.inr m.1,V.ref t)) M ns
structure WN(H:Hp)(T:Tg)(s:Nat)(A:Wa)(names:List (Str×(Int×Int))):Prop where
 tm:T A.nm=(s,6)
 om:H A.nm=some (.dK (nmK names A.ns))
 nms:Al (NmO H T) A.ns names
structure WS(X:Cs)(H:Hp)(T:Tg)(s:Nat)(A:Wa)(S:Sw):Prop where
 ts:T A.sw=(s,7)
 tg:T A.gr=(s,8)
 os:∃dx,H A.sw=some (.ins X.S dx (cg S.sense S.phase A.gr S.looked S.turn S.at' S.stop S.walks S.looks S.passes S.loss))
 og:H A.gr=some (.lst (S.grey.map V.int))
structure WD(X:Cs)(H:Hp)(T:Tg)(s:Nat)(hs:List (Addr×Addr))(hands:List (Str×List (Option Int))):Prop where
 lh:hs.length=hands.length
 l5:hs.length<=30
 hd:∀(j:Nat) p m,hs[j]? =some p->hands[j]? =some m->HdO X.D H T s j p m
structure WC(X:Cs)(H:Hp)(T:Tg)(s:Nat)(cs:List (Option (Addr×Addr)))(cells:List (Option Ce)):Prop where
 lc:cs.length=cells.length
 ce:∀(i:Nat) p c,cs[i]? =some p->cells[i]? =some c->CeP X.C H T s i p c
structure WJ(X:Cs)(H:Hp)(T:Tg)(s:Nat)(A:Wa)(M:Wm):Prop where
 jb:WB X H T s A M.w M.tells
 jh:WH X H T s A M.room M.used M.born
 jn:WN H T s A M.names
 js:WS X H T s A M.sw
 jd:WD X H T s A.hs M.hands
 jc:WC X H T s A.cs M.cells
section
variable {X:Cs}{H H':Hp}{T T':Tg}{s:Nat}{t0:Nat->Prop}{A:Wa}{M:Wm}
theorem WB.mv{w tells:Int}(j:WB X H T s A w tells)(f:yR s t0 H H' T T')(f0:∀b o,H b=some o->T b=(0,0)->H' b=some o)(n0:¬ t0 0)(n5:¬ t0 5):WB X H' T' s A w tells:=by
 obtain⟨tw,tk,tl,tn,⟨d1,ow⟩,⟨d3,ok⟩,⟨d4,ol⟩,on⟩:=j;have hlk:∃o,H A.lk=some o:=by
  rcases ol with ⟨_,e⟩ | ⟨_,e⟩ | ⟨_,e⟩
  ·exact⟨_,e⟩
  ·exact⟨_,e⟩
  ·exact⟨_,e⟩
 obtain⟨olk,elk⟩:=hlk;refine⟨f.tag ow tw,f.tag ok tk,f.tag elk tl,f.tag on tn,⟨d1,f.at tw n0 ow⟩,⟨d3,f0 _ _ ok tk⟩,⟨d4,?_⟩,f.at tn n5 on⟩;rcases ol with ⟨z,e⟩ | ⟨z,e⟩ | ⟨z,e⟩
 ·exact .inl ⟨z,f0 _ _ e tl⟩
 ·exact .inr (.inl ⟨z,f0 _ _ e tl⟩)
 ·exact .inr (.inr ⟨z,f0 _ _ e tl⟩)
theorem WH.mv{room used born:Int}(j:WH X H T s A room used born)(f:yR s t0 H H' T T')(n1:¬ t0 1)(n2:¬ t0 2):WH X H' T' s A room used born:=by
 obtain⟨th,tc,⟨d,oh⟩,oc⟩:=j;exact⟨f.tag oh th,f.tag oc tc,⟨d,f.at th n1 oh⟩,f.at tc n2 oc⟩
theorem WN.mv{names:List (Str×(Int×Int))}(j:WN H T s A names)(f:yR s t0 H H' T T')(f0:∀b o,H b=some o->T b=(0,0)->H' b=some o)(n6:¬ t0 6):WN H' T' s A names:=by
 obtain⟨tm,om,nms⟩:=j;exact⟨f.tag om tm,f.at tm n6 om,nms.mono λt m ⟨z1,z2⟩=>⟨f.tag z2 z1,f0 _ _ z2 z1⟩⟩
theorem WS.mv{S:Sw}(j:WS X H T s A S)(f:yR s t0 H H' T T')(n7:¬ t0 7)(n8:¬ t0 8):WS X H' T' s A S:=by
 obtain⟨ts,tg,⟨d,os⟩,og⟩:=j;exact⟨f.tag os ts,f.tag og tg,⟨d,f.at ts n7 os⟩,f.at tg n8 og⟩
theorem WD.mv{hs:List (Addr×Addr)}{hands:List (Str×List (Option Int))}(j:WD X H T s hs hands)(f:yR s t0 H H' T T')(n:∀k,20<=k->k<100->¬ t0 k):WD X H' T' s hs hands:=by
 obtain⟨lh,l5,hd⟩:=j;refine⟨lh,l5,λj p m e1 e2=>?_⟩;have hl:j<hs.length:=(cV e1).1;exact(hd j p m e1 e2).mv f (n _ (by omega) (by omega)) (n _ (by omega) (by omega))
theorem WC.mv{cs:List (Option (Addr×Addr))}{cells:List (Option Ce)}(j:WC X H T s cs cells)(f:yR s t0 H H' T T')(n:∀k,100<=k->¬ t0 k):WC X H' T' s cs cells:=by
 obtain⟨lc,ce⟩:=j;exact⟨lc,λi p c e1 e2=>(ce i p c e1 e2).mv f (n _ (by omega)) (n _ (by omega))⟩
theorem WJ.mv(j:WJ X H T s A M)(f:yR s (λ_=>False) H H' T T')(f0:∀b o,H b=some o->T b=(0,0)->H' b=some o):WJ X H' T' s A M:=
 ⟨j.jb.mv f f0 id id,j.jh.mv f id id,j.jn.mv f f0 id,j.js.mv f id id,j.jd.mv f λ_ _ _=>id,j.jc.mv f λ_ _=>id⟩
theorem WJ.same(j:WJ X H T s A M)(e:bC H H'):WJ X H' T s A M:=j.mv (yR.of_same e) λb o h _=>e b o h
theorem WJ.other{s':Nat}(j:WJ X H T s A M)(e:fj s' H H' T T')(n:s≠s')(n0:s'≠0):WJ X H' T' s A M:=j.mv (yR.Zg9 e n) λb o h t=>e.kp b o h (by rw[t];exact λz=>n0 z.symm)
theorem uo{a:Addr}{o':HO}{m:Nat}(h0:s≠0)(ta:T a=(s,m)):∀b o,H b=some o->T b=(0,0)->upd H a o' b=some o:=λb o e t=>by
 rw[aA (uc t ta (λz=>h0 (congrArg Prod.fst z).symm))];exact e
theorem WJ.slot(j:WJ X H T s A M)(w:WT H T)(h0:s≠0){h k:Nat}{p:Addr×Addr}{m:Str×List (Option Int)}{x:Option Int}(hp:A.hs[h]? =some p)(hm:M.hands[h]? =some m):
  fj s H (upd H p.2 (.lst ((m.2.map oV).set k (oV x)))) T T/\WJ X (upd H p.2 (.lst ((m.2.map oV).set k (oV x)))) T s A { M with hands:=M.hands.set h (m.1,m.2.set k x) }:=by
 have hl:=j.jd.l5;have hh:h<A.hs.length:=(cV hp).1;have hh':h<M.hands.length:=(cV hm).1;have d:=j.jd.hd h p m hp hm;refine⟨fj.upd w d.o2 (by rw[d.t2]),?_⟩;have f:yR s (·=21+2 * h) H (upd H p.2 (.lst ((m.2.map oV).set k (oV x)))) T T:=yR.Jb d.t2;have b2:upd H p.2 (.lst ((m.2.map oV).set k (oV x))) p.2=some (.lst ((m.2.set k x).map oV)):=by rw[ao,List.map_set]
 refine⟨j.jb.mv f (uo h0 d.t2) (by omega) (by omega),j.jh.mv f (by omega) (by omega),j.jn.mv f (uo h0 d.t2) (by omega),j.js.mv f (by omega) (by omega),⟨by rw[List.length_set];exact j.jd.lh,hl,λj' p' m' e1 e2=>?_⟩,j.jc.mv f λ_ _=>by omega⟩
 by_cases hj:j'=h
 ·subst hj;dsimp only at e2;rw[List.getElem?_set_self hh']at e2;rw[hp]at e1;cases e1;cases e2;obtain⟨dd,o1⟩:=d.o1;exact⟨d.t1,d.t2,⟨dd,f.at d.t1 (by omega) o1⟩,b2⟩
 ·dsimp only at e2;rw[List.getElem?_set_ne (λz=>hj z.symm)]at e2;exact(j.jd.hd j' p' m' e1 e2).mv f (by omega) (by omega)
theorem WC.at(j:WC X H T s A.cs M.cells){i:Nat}{c:Ce}(h:M.cells[i]? =some (some c)):∃p,A.cs[i]? =some (some p)/\CeO X.C H T s i p c:=by
 have hl:i<A.cs.length:=by rw[j.lc];exact(cV h).1
 have e:=j.ce i _ _ (cJ hl) h;cases hg:A.cs[i]with
 | none=>rw[hg]at e;exact e.elim
 | some g=>rw[hg]at e;exact⟨g,by rw[cJ hl,hg],e⟩
theorem WC.at0(j:WC X H T s A.cs M.cells){i:Nat}(h:M.cells[i]? =some none):A.cs[i]? =some none:=by
 have hl:i<A.cs.length:=by rw[j.lc];exact(cV h).1
 have e:=j.ce i _ _ (cJ hl) h;cases hg:A.cs[i]with
 | none=>rw[cJ hl,hg]
 | some g=>rw[hg]at e;exact e.elim
theorem WC.chg(j:WC X H T s A.cs M.cells){i:Nat}{p:Addr×Addr}{c':Ce}(f:yR s t0 H H' T T')(hp:A.cs[i]? =some (some p))(n:∀k,100<=k->k≠100+2 * i->k≠101+2 * i->¬ t0 k)(e:CeO X.C H' T' s i p c'):
  WC X H' T' s A.cs (M.cells.set i (some c')):=by
 have hl:i<A.cs.length:=(cV hp).1;refine⟨by rw[List.length_set];exact j.lc,λk g c e1 e2=>?_⟩
 by_cases hk:k=i
 ·subst hk;rw[List.getElem?_set_self (by rw[<- j.lc];exact hl)]at e2;rw[hp]at e1;cases e1;cases e2;exact e
 ·rw[List.getElem?_set_ne (λz=>hk z.symm)]at e2;exact(j.ce k g c e1 e2).mv f (n _ (by omega) (by omega) (by omega)) (n _ (by omega) (by omega) (by omega))
theorem WJ.cell(j:WJ X H T s A M)(w:WT H T)(h0:s≠0){i:Nat}{p:Addr×Addr}{c:Ce}{dx:Addr}{tone load:Int}(hp:A.cs[i]? =some (some p))(e:CeO X.C H T s i p c):
  fj s H (upd H p.1 (.ins X.C dx (oR c.birth c.bulk tone load p.2))) T T/\WJ X (upd H p.1 (.ins X.C dx (oR c.birth c.bulk tone load p.2))) T s A { M with cells:=M.cells.set i (some { c with tone:=tone,load:=load }) }:=by
 obtain⟨dd,o1⟩:=e.o1;refine⟨fj.upd w o1 (by rw[e.t1]),?_⟩;have f:yR s (·=100+2 * i) H (upd H p.1 (.ins X.C dx (oR c.birth c.bulk tone load p.2))) T T:=yR.Jb e.t1;exact⟨j.jb.mv f (uo h0 e.t1) (by omega) (by omega),j.jh.mv f (by omega) (by omega),j.jn.mv f (uo h0 e.t1) (by omega),j.js.mv f (by omega) (by omega),j.jd.mv f λ_ _ _=>by omega,
  j.jc.chg f hp (λk _ n1 _ z=>n1 z) ⟨e.t1,e.t2,⟨dx,ao⟩,f.at e.t2 (by omega) e.o2⟩⟩
theorem WJ.sweep(j:WJ X H T s A M)(w:WT H T)(h0:s≠0){dx:Addr}(S:Sw)(e9:S.grey=M.sw.grey):
  fj s H (upd H A.sw (.ins X.S dx (cg S.sense S.phase A.gr S.looked S.turn S.at' S.stop S.walks S.looks S.passes S.loss))) T T/\
  WJ X (upd H A.sw (.ins X.S dx (cg S.sense S.phase A.gr S.looked S.turn S.at' S.stop S.walks S.looks S.passes S.loss))) T s A { M with sw:=S }:=by
 obtain⟨ts,tg,⟨dd,os⟩,og⟩:=j.js;refine⟨fj.upd w os (by rw[ts]),?_⟩;have f:yR s (·=7) H (upd H A.sw (.ins X.S dx (cg S.sense S.phase A.gr S.looked S.turn S.at' S.stop S.walks S.looks S.passes S.loss))) T T:=yR.Jb ts;exact⟨j.jb.mv f (uo h0 ts) (by omega) (by omega),j.jh.mv f (by omega) (by omega),j.jn.mv f (uo h0 ts) (by omega),⟨ts,tg,⟨dx,ao⟩,by rw[e9];exact f.at tg (by omega) og⟩,j.jd.mv f λ_ _ _=>by omega,j.jc.mv f λ_ _=>by omega⟩
theorem WJ.Zm5(j:WJ X H T s A M)(w:WT H T)(h0:s≠0){g:List Int}:fj s H (upd H A.gr (.lst (g.map V.int))) T T/\WJ X (upd H A.gr (.lst (g.map V.int))) T s A { M with sw:={ M.sw with grey:=g } }:=by
 obtain⟨ts,tg,⟨dd,os⟩,og⟩:=j.js;refine⟨fj.upd w og (by rw[tg]),?_⟩;have f:yR s (·=8) H (upd H A.gr (.lst (g.map V.int))) T T:=yR.Jb tg;exact⟨j.jb.mv f (uo h0 tg) (by omega) (by omega),j.jh.mv f (by omega) (by omega),j.jn.mv f (uo h0 tg) (by omega),⟨ts,tg,⟨dd,f.at ts (by omega) os⟩,ao⟩,j.jd.mv f λ_ _ _=>by omega,j.jc.mv f λ_ _=>by omega⟩
theorem WJ.back(j:WJ X H T s A M)(w:WT H T)(h0:s≠0){i:Nat}{dx:Addr}{used':Int}(hi:i<A.cs.length)(H':Hp)(kp:∀b o,H b=some o->b≠A.hp->b≠A.ca->H' b=some o)(a1:H' A.hp=some (.ins X.H dx (jD M.room A.ca used' M.born)))(a2:H' A.ca=some (.lst ((A.cs.map pV).set i V.non))):
  fj s H H' T T/\WJ X H' T s { A with cs:=A.cs.set i none } { M with used:=used',cells:=M.cells.set i none }:=by
 obtain⟨th,tc,⟨dd,oh⟩,oc⟩:=j.jh;have al:∀b o,H b=some o->∃o',H' b=some o':=λb o h=>by
  by_cases z1:b=A.hp
  ·exact⟨_,by rw[z1];exact a1⟩
  ·by_cases z2:b=A.ca
   ·exact⟨_,by rw[z2];exact a2⟩
   ·exact⟨o,kp b o h z1 z2⟩
 have f:yR s (λk=>k=1\/k=2) H H' T T:=⟨λb o h e n=>kp b o h (λz=>n (.inl (by rw[z,th]))) (λz=>n (.inr (by rw[z,tc]))),λ_ _ _=>rfl⟩;have f0:∀b o,H b=some o->T b=(0,0)->H' b=some o:=λb o h t=>kp b o h (uc t th (λz=>h0 (congrArg Prod.fst z).symm)) (uc t tc (λz=>h0 (congrArg Prod.fst z).symm));refine⟨⟨λb o h n=>kp b o h (λz=>n (by rw[z,th])) (λz=>n (by rw[z,tc])),al,λ_ _ _=>rfl,λb h=>w b ?_⟩,?_⟩
 ·cases z:H b with
  | none=>rfl
  | some o=>obtain⟨o',z'⟩:=al b o z;rw[h]at z';cases z'
 ·refine⟨?_,⟨th,tc,⟨dx,a1⟩,by rw[List.map_set];exact a2⟩,?_,?_,j.jd.mv f λ_ _ _=>by omega,⟨by rw[List.length_set,List.length_set];exact j.jc.lc,λk g c e1 e2=>?_⟩⟩
  ·obtain⟨b1,b2,b3,b4,b5,b6,b7,b8⟩:=j.jb.mv f f0 (by omega) (by omega);exact⟨b1,b2,b3,b4,b5,b6,b7,b8⟩
  ·obtain⟨b1,b2,b3⟩:=j.jn.mv f f0 (by omega);exact⟨b1,b2,b3⟩
  ·obtain⟨b1,b2,b3,b4⟩:=j.js.mv f (by omega) (by omega);exact⟨b1,b2,b3,b4⟩
  ·by_cases hk:k=i
   ·subst hk;dsimp only at e1 e2;rw[List.getElem?_set_self hi]at e1;rw[List.getElem?_set_self (by rw[<- j.jc.lc];exact hi)]at e2;cases e1;cases e2
    trivial
   ·dsimp only at e1 e2;rw[List.getElem?_set_ne (λz=>hk z.symm)]at e1 e2;exact(j.jc.ce k g c e1 e2).mv f (by omega) (by omega)
end
def dX{α:Type}:List (Option α)->Nat
 | []=>0
 | none::_=>0
 | some _::l=>dX l+1
def lY{α:Type}(l:List (Option α))(x:α):List (Option α):=if dX l<l.length then l.set (dX l) (some x)else l++[some x]
theorem Mi{α:Type}(l:List (Option α)):dX l<=l.length:=by
 induction l with
 | nil=>exact Nat.le_refl _
 | cons a l ih=>cases a with
  | none=>exact Nat.zero_le _
  | some a=>exact Nat.succ_le_succ ih
theorem Zcv{α:Type}{l:List (Option α)}(h:dX l<l.length):l[dX l]? =some none:=by
 induction l with
 | nil=>exact absurd h (Nat.lt_irrefl _)
 | cons a l ih=>cases a with
  | none=>rfl
  | some a=>exact ih (Nat.lt_of_succ_lt_succ h)
theorem Y7{α:Type}{f:Option α->V}(hf:∀x,f x=V.non↔x=none)(l:List (Option α)):(l.map f).idxOf V.non=dX l/\(V.non∈l.map f↔dX l<l.length):=by
 induction l with
 | nil=>exact⟨rfl,⟨λz=>(nomatch z),λz=>absurd z (Nat.lt_irrefl _)⟩⟩
 | cons a l ih=>
  rw[List.map_cons,List.idxOf_cons];cases a with
  | none=>
   have e:f none=V.non:=(hf none).mpr rfl;rw[e];exact⟨rfl,⟨λ_=>Nat.zero_lt_succ _,λ_=>List.mem_cons_self⟩⟩
  | some a=>
   have e:f (some a)≠V.non:=λz=>by cases (hf (some a)).mp z
   have b:(f (some a) == V.non)=false:=beq_eq_false_iff_ne.mpr e;rw[b];refine⟨congrArg (· + 1) ih.1,?_⟩;show _↔dX l+1<l.length+1;rw[List.mem_cons,ih.2];constructor
   ·rintro(z | z)
    ·exact absurd z.symm e
    ·omega
   ·intro z;exact .inr (by omega)
theorem Zfn{α:Type}{f:Option α->V}(hf:∀x,f x=V.non↔x=none)(l:List (Option α))(x:α):putN (l.map f) (f (some x))=(lY l x).map f:=by
 obtain⟨e1,e2⟩:=Y7 hf l;unfold putN lY
 by_cases z:dX l<l.length
 ·rw[if_pos z,if_pos (e2.mpr z),List.map_set];exact congrArg (λk=>(l.map f).set k (f (some x))) e1
 ·rw[if_neg z,if_neg (λw=>z (e2.mp w)),List.map_append];rfl
theorem Zg2(p:Option (Addr×Addr)):pV p=V.non↔p=none:=by cases p<;>simp[pV]
theorem Lr{α:Type}(l:List (Option α))(x:α):(lY l x)[dX l]? =some (some x):=by
 unfold lY
 by_cases z:dX l<l.length
 ·rw[if_pos z,List.getElem?_set_self z]
 ·have e:dX l=l.length:=Nat.le_antisymm (Mi l) (by omega);rw[if_neg z,e,List.getElem?_append_right (Nat.le_refl _),Nat.sub_self];rfl
theorem Zch{α:Type}{l:List (Option α)}{x:α}{i:Nat}{y:Option α}(hi:i≠dX l)(h:(lY l x)[i]? =some y):l[i]? =some y:=by
 unfold lY at h
 by_cases z:dX l<l.length
 ·rw[if_pos z,List.getElem?_set_ne (λw=>hi w.symm)]at h;exact h
 ·rw[if_neg z]at h;have e:dX l=l.length:=Nat.le_antisymm (Mi l) (by omega);have hl:=(cV h).1;rw[List.length_append,List.length_singleton]at hl;rw[List.getElem?_append_left (by omega)]at h;exact h
theorem XC{α β:Type}{l:List (Option α)}{m:List (Option β)}{x:α}{y:β}(hl:l.length=m.length)(hf:dX l=dX m):(lY l x).length=(lY m y).length:=by
 unfold lY
 by_cases z:dX l<l.length
 ·rw[if_pos z,if_pos (by omega),List.length_set,List.length_set];exact hl
 ·rw[if_neg z,if_neg (by omega),List.length_append,List.length_append,hl];rfl
theorem Zja{α:Type}(l:List (Option α))(x:α):(lY l x).length<=l.length+1:=by
 unfold lY
 by_cases z:dX l<l.length
 ·rw[if_pos z,List.length_set];omega
 ·rw[if_neg z,List.length_append];exact Nat.le_refl _
theorem V8{α β:Type}:∀(l:List (Option α)) (m:List (Option β)),l.length=m.length->(∀(i:Nat) x y,l[i]? =some x->m[i]? =some y->(x=none↔y=none))->dX l=dX m:=by
 intro l
 induction l with
 | nil=>
  intro m hl _;cases m with
  | nil=>rfl
  | cons b m=>simp at hl
 | cons a l ih=>
  intro m hl h;cases m with
  | nil=>simp at hl
  | cons b m=>
   have ih':=ih m (by simpa using hl) λi x y h1 h2=>h (i+1) x y (by simpa using h1) (by simpa using h2);have e:=h 0 a b rfl rfl;cases a with
   | none=>rw[e.mp rfl];rfl
   | some a=>cases b with
    | none=>exact absurd (e.mpr rfl) (λz=>by cases z)
    | some b=>exact congrArg (· + 1) ih'
section
variable {X:Cs}{H H':Hp}{T T':Tg}{s:Nat}{A:Wa}{M:Wm}
theorem WC.fst(j:WC X H T s A.cs M.cells):dX A.cs=dX M.cells:=V8 _ _ j.lc λi p c e1 e2=>by
 have e:=j.ce i p c e1 e2;cases p with
 | none=>cases c with
  | none=>exact⟨λ_=>rfl,λ_=>rfl⟩
  | some c=>exact e.elim
 | some p=>cases c with
  | none=>exact e.elim
  | some c=>exact⟨λz=>(by cases z),λz=>(by cases z)⟩
theorem WJ.put(j:WJ X H T s A M)(w:WT H T)(h0:s≠0){dx:Addr}{used':Int}{p fa:Addr}{c:Ce}(kp:∀b o,H b=some o->b≠A.hp->b≠A.ca->H' b=some o)(a1:H' A.hp=some (.ins X.H dx (jD M.room A.ca used' (M.born+1))))(a2:H' A.ca=some (.lst (putN (A.cs.map pV) (.ref p))))
  (n1:H p=none) (n2:H fa=none) (m1:p≠fa) (o1:∃dx,H' p=some (.ins X.C dx (oR c.birth c.bulk c.tone c.load fa))) (o2:H' fa=some (.lst (c.fl.map oV))):
  ∃T',fj s H H' T T'/\WJ X H' T' s { A with cs:=lY A.cs (p,fa) } { M with used:=used',born:=M.born+1,cells:=lY M.cells c }:=by
 obtain⟨th,tc,⟨dd,oh⟩,oc⟩:=j.jh;have i1:=j.jc.fst
 let k:=dX A.cs
 let T':Tg:=fG (fG T p (s,100+2 * k)) fa (s,101+2 * k)
 have told:∀b o,H b=some o->T' b=T b:=λb o h=>by
  show fG _ _ _ b=_;rw[iW (aB h n2),iW (aB h n1)]
 have t1:T' p=(s,100+2 * k):=by show fG _ _ _ p=_;rw[iW m1,eX]
 have t2:T' fa=(s,101+2 * k):=by show fG _ _ _ fa=_;rw[eX]
 have al:∀b o,H b=some o->∃o',H' b=some o':=λb o h=>by
  by_cases z1:b=A.hp
  ·exact⟨_,by rw[z1];exact a1⟩
  ·by_cases z2:b=A.ca
   ·exact⟨_,by rw[z2];exact a2⟩
   ·exact⟨o,kp b o h z1 z2⟩
 have f:yR s (λk=>k=1\/k=2) H H' T T':=⟨λb o h e n=>kp b o h (λz=>n (.inl (by rw[z,th]))) (λz=>n (.inr (by rw[z,tc]))),told⟩;have f0:∀b o,H b=some o->T b=(0,0)->H' b=some o:=λb o h t=>kp b o h (uc t th (λz=>h0 (congrArg Prod.fst z).symm)) (uc t tc (λz=>h0 (congrArg Prod.fst z).symm));refine⟨T',⟨λb o h nn=>kp b o h (λz=>nn (by rw[z,th])) (λz=>nn (by rw[z,tc])),al,told,λb h=>?_⟩,?_⟩
 ·have b1:b≠p:=λe=>by obtain⟨d,z⟩:=o1;rw[e,z]at h;cases h
  have b2:b≠fa:=λe=>by rw[e,o2]at h;cases h
  have hb:H b=none:=by
   cases z:H b with
   | none=>rfl
   | some o=>obtain⟨o',z'⟩:=al b o z;rw[h]at z';cases z'
  show fG _ _ _ b=_;rw[iW b2,iW b1];exact w b hb
 ·refine⟨?_,⟨f.tag oh th,f.tag oc tc,⟨dx,a1⟩,?_⟩,?_,?_,j.jd.mv f λ_ _ _=>by omega,⟨XC j.jc.lc i1,λi g cc e1 e2=>?_⟩⟩
  ·obtain⟨b1,b2,b3,b4,b5,b6,b7,b8⟩:=j.jb.mv f f0 (by omega) (by omega);exact⟨b1,b2,b3,b4,b5,b6,b7,b8⟩
  ·show H' A.ca=some (.lst ((lY A.cs (p,fa)).map pV));rw[<- Zfn Zg2];exact a2
  ·obtain⟨b1,b2,b3⟩:=j.jn.mv f f0 (by omega);exact⟨b1,b2,b3⟩
  ·obtain⟨b1,b2,b3,b4⟩:=j.js.mv f (by omega) (by omega);exact⟨b1,b2,b3,b4⟩
  ·dsimp only at e1 e2
   by_cases hk:i=dX A.cs
   ·subst hk;rw[Lr]at e1;rw[i1,Lr]at e2;cases e1;cases e2;exact⟨t1,t2,o1,o2⟩
   ·exact(j.jc.ce i g cc (Zch hk e1) (Zch (by rw[<- i1];exact hk) e2)).mv f (by omega) (by omega)
end
def cellAt(M:Wm)(x:Int):Option Ce:=if 0<=x then(M.cells[x.toNat]?).join else none
def GZ(M:Wm):Option Int->Option Int
 | none=>none
 | some x=>(cellAt M x).map (·.birth)
def p6(M:Wm)(h k:Nat):Option Int:=((M.hands[h]?).bind λm=>m.2[k]?).join
def setSlot(M:Wm)(h k:Nat)(x:Option Int):Wm:={ M with hands:=M.hands.modify h λm=>(m.1,m.2.set k x) }
def setCell(M:Wm)(i:Int)(c:Ce):Wm:={ M with cells:=M.cells.set i.toNat (some c) }
def bI(M:Wm):Option Int->Option Int×Wm
 | none=>(none,M)
 | some i=>match cellAt M i with
  | none=>(none,M)
  | some c=>if M.sw.phase="walk"/\c.tone≠M.sw.sense then(some c.birth,{ setCell M i { c with tone:=M.sw.sense }with sw:={ M.sw with grey:=M.sw.grey++[i] } })else(none,M)
def wN(M:Wm)(h:Nat):Bool:=decide (M.sw.looked / 2 ^ h % 2=1)
def Gy(M:Wm)(place birth:Int):Bool:=match cellAt M place with
 | none=>true
 | some c=>if c.birth=birth then decide (M.sw.phase="give"/\c.tone≠M.sw.sense)else true
def Zpr(l:List (Str×(Int×Int)))(k:Str)(v:Int×Int):List (Str×(Int×Int)):=if (l.any λm=>decide (m.1=k))=true then l.map (λm=>if m.1=k then(m.1,v)else m)else l++[(k,v)]
def Zqz(l:List (Str×(Int×Int)))(k:Str):Option (Int×Int):=(l.find? λm=>decide (m.1=k)).map (·.2)
inductive Rf where
 | full | empty | Zcl | Zn5
 deriving DecidableEq
structure Ev where
 word:Str
 thing:Option Int
 notes:List Int
inductive Zpa where
 | make (h s:Nat) (many bulk:Int)
 | get (h s t f:Nat)
 | put (h t f s:Nat)
 | copy (h s t:Nat)
 | drop (h s:Nat)
 | give (h s g t:Nat)
 | write (h t:Nat) (load:Int)
 | read (h t:Nat)
 | name (h t:Nat) (word:Str)
 | seek (h s:Nat) (word:Str)
def old?(M:Wm):Bool:=decide (M.tells % 2=1)
def Zq0(M:Wm):Bool:=decide (M.tells / 2 % 2=1)
def Vl:Option Int->List Int
 | none=>[]
 | some b=>[b]
def aN(M:Wm):List (Option Int)->List Int×Wm
 | []=>([],M)
 | x::l=>(Vl (bI M x).1++(aN (bI M x).2 l).1,(aN (bI M x).2 l).2)
def doM(M:Wm):Zpa->Except Rf (Ev×Wm)
 | .make h s many bulk=>
  if M.used+(1+many+bulk)<=M.room then
   .ok (⟨"made",some (M.born+1),[]⟩,setSlot { M with used:=M.used+(1+many+bulk),born:=M.born+1,cells:=lY M.cells ⟨M.born+1,bulk,M.sw.sense,0,List.replicate many.toNat none⟩ } h s (some (dX M.cells)))
  else .error .full
 | .get h s t f=>match p6 M h t with
  | none=>.error .empty
  | some x=>match cellAt M x with
   | none=>.error .empty
   | some c=>match c.fl[f]? with
    | none=>.error .Zcl
    | some v=>.ok (⟨"got",GZ M v,[]⟩,setSlot M h s v)
 | .put h t f s=>match p6 M h t with
  | none=>.error .empty
  | some x=>match cellAt M x with
   | none=>.error .empty
   | some c=>match c.fl[f]? with
    | none=>.error .Zcl
    | some v=>
     let M1:=setCell M x { c with fl:=c.fl.set f (p6 M h s) }
     let r:=aN M1 ((if old? M=true then [v]else [])++if (Zq0 M && !wN M h)=true then [p6 M h s]else [])
     .ok (⟨"put",GZ M v,r.1⟩,r.2)
 | .copy h s t=>.ok (⟨"copied",GZ M (p6 M h t),[]⟩,setSlot M h s (p6 M h t))
 | .drop h s=>.ok (⟨"dropped",GZ M (p6 M h s),[]⟩,setSlot M h s none)
 | .give h s g t=>
  let r:=aN (setSlot M g t (p6 M h s)) (if (Zq0 M && !wN M h)=true then [p6 M h s]else [])
  .ok (⟨"given",GZ M (p6 M h s),r.1⟩,r.2)
 | .write h t load=>match p6 M h t with
  | none=>.error .empty
  | some x=>match cellAt M x with
   | none=>.error .empty
   | some c=>.ok (⟨"wrote",some c.load,[]⟩,setCell M x { c with load:=load })
 | .read h t=>match p6 M h t with
  | none=>.error .empty
  | some x=>match cellAt M x with
   | none=>.error .empty
   | some c=>.ok (⟨"read",some c.load,[]⟩,M)
 | .name h t word=>match p6 M h t with
  | none=>.error .empty
  | some x=>match cellAt M x with
   | none=>.error .empty
   | some c=>.ok (⟨"named",some c.birth,[]⟩,{ M with names:=Zpr M.names word (x,c.birth) })
 | .seek h s word=>match Zqz M.names word with
  | none=>.error .Zn5
  | some (p,b)=>
   if Gy M p b=true then .ok (⟨"sought",none,[]⟩,setSlot M h s none)
   else
    let r:=aN (setSlot M h s (some p)) [some p]
    .ok (⟨"sought",some b,r.1⟩,r.2)
def dV:Zpa->List V
 | .make h s many bulk=>[.str "make",.int h,.int s,.int many,.int bulk]
 | .get h s t f=>[.str "get",.int h,.int s,.int t,.int f]
 | .put h t f s=>[.str "put",.int h,.int t,.int f,.int s]
 | .copy h s t=>[.str "copy",.int h,.int s,.int t]
 | .drop h s=>[.str "drop",.int h,.int s]
 | .give h s g t=>[.str "give",.int h,.int s,.int g,.int t]
 | .write h t load=>[.str "write",.int h,.int t,.int load]
 | .read h t=>[.str "read",.int h,.int t]
 | .name h t word=>[.str "name",.int h,.int t,.str word]
 | .seek h s word=>[.str "seek",.int h,.int s,.str word]
structure Ok(M:Wm):Prop where
 sl:∀m∈M.hands,∀x,some x∈m.2->∃c,cellAt M x=some c
 fl:∀c,some c∈M.cells->∀x,some x∈c.fl->∃d,cellAt M x=some d
 tn:∀c,some c∈M.cells->c.tone=0\/c.tone=1
def EvO(H:Hp)(a:Addr)(e:Ev):Prop:=∃l,H a=some (.tup [.str e.word,oV e.thing,.ref l])/\H l=some (.lst (e.notes.map V.int))
def EvN(H0 H:Hp)(a:Addr)(e:Ev):Prop:=∃l,H0 l=none/\H a=some (.tup [.str e.word,oV e.thing,.ref l])/\H l=some (.lst (e.notes.map V.int))
theorem Zdl{α:Type}{l:List (Option α)}{x a:α}{i:Nat}(h:l[i]? =some (some a)):(lY l x)[i]? =some (some a):=by
 have hl:=(cV h).1;unfold lY
 by_cases z:dX l<l.length
 ·have hi:i≠dX l:=λe=>by rw[e,Zcv z]at h;cases h
  rw[if_pos z,List.getElem?_set_ne (λw=>hi w.symm)];exact h
 ·rw[if_neg z,List.getElem?_append_left hl];exact h
theorem cj{M:Wm}{x:Int}{c:Ce}:cellAt M x=some c↔0<=x/\M.cells[x.toNat]? =some (some c):=by
 unfold cellAt
 by_cases z:0<=x
 ·rw[if_pos z];cases e:M.cells[x.toNat]? with
  | none=>simp
  | some y=>cases y with
   | none=>simp
   | some d=>simp[z]
 ·rw[if_neg z];simp[z]
theorem uv{M:Wm}{x:Int}{c:Ce}(h:cellAt M x=some c):some c∈M.cells:=List.mem_of_getElem? (cj.mp h).2
theorem Zbt{M:Wm}{x u b:Int}{c d:Ce}(h:cellAt M x=some d):cellAt { M with used:=u,born:=b,cells:=lY M.cells c } x=some d:=by
 obtain⟨h0,h1⟩:=cj.mp h;exact cj.mpr ⟨h0,Zdl h1⟩
theorem Zgj{α:Type}{l:List (Option α)}{x:α}{y:Option α}(h:y∈lY l x):y∈l\/y=some x:=by
 unfold lY at h
 by_cases z:dX l<l.length
 ·rw[if_pos z]at h;rcases List.mem_or_eq_of_mem_set h with h | h
  ·exact .inl h
  ·exact .inr h
 ·rw[if_neg z]at h;rcases List.mem_append.mp h with h | h
  ·exact .inl h
  ·exact .inr (List.mem_singleton.mp h)
theorem nO{M:Wm}{h k:Nat}{x:Option Int}{m:Str×List (Option Int)}(hm:M.hands[h]? =some m):(setSlot M h k x).hands=M.hands.set h (m.1,m.2.set k x):=by
 show M.hands.modify h _=_;apply List.ext_getElem?;intro i;rw[List.getElem?_modify]
 by_cases e:h=i
 ·subst e;rw[List.getElem?_set_self (cV hm).1,hm];simp
 ·rw[List.getElem?_set_ne e];simp[e]
theorem NT{M:Wm}(h:M.sw.phase≠"walk")(x:Option Int):bI M x=(none,M):=by
 cases x with
 | none=>rfl
 | some x=>
  unfold bI;dsimp only;cases cellAt M x with
  | none=>rfl
  | some c=>
   dsimp only;rw[if_neg (λz=>h z.1)]
structure qU(K:aC)(X:Cs):Prop where
 c:TxC K X.C X.H
 cW:De K X.W
 Xg:bD K X.W "heap"
 nWk:bD K X.W "kind"
 nWd:bD K X.W "hands"
 nWn:bD K X.W "names"
 N7:bD K X.W "sweeper"
 cD:De K X.D
 nDn:bD K X.D "name"
 nDs:bD K X.D "slots"
 cK:De K X.K
 nKl:bD K X.K "looking"
 nKt:bD K X.K "tells"
 cS:De K X.S
 n1:bD K X.S "sense"
 n2:bD K X.S "phase"
 n3:bD K X.S "grey"
 n4:bD K X.S "looked"
 n5:bD K X.S "turn"
 n6:bD K X.S "at"
 n7:bD K X.S "stop"
 n8:bD K X.S "walks"
 n9:bD K X.S "looks"
 n10:bD K X.S "passes"
 n11:bD K X.S "loss"
structure WM(X:Cs)(H:Hp)(T:Tg)(s:Nat)(A:Wa)(M:Wm):Prop where
 jb:WB X H T s A M.w M.tells
 jh:WH X H T s A M.room M.used M.born
 js:WS X H T s A M.sw
 jd:WD X H T s A.hs M.hands
 jc:WC X H T s A.cs M.cells
theorem WJ.w0{X:Cs}{H:Hp}{T:Tg}{s:Nat}{A:Wa}{M:Wm}(j:WJ X H T s A M):WM X H T s A M:=⟨j.jb,j.jh,j.js,j.jd,j.jc⟩
theorem WJ.names{X:Cs}{H:Hp}{T:Tg}{s:Nat}{A:Wa}{M:Wm}{o:HO}(j:WJ X H T s A M)(h0:s≠0):WM X (upd H A.nm o) T s A M:=by
 have f:yR s (·=6) H (upd H A.nm o) T T:=yR.Jb j.jn.tm;exact⟨j.jb.mv f (uo h0 j.jn.tm) (by omega) (by omega),j.jh.mv f (by omega) (by omega),j.js.mv f (by omega) (by omega),j.jd.mv f λ_ _ _=>by omega,j.jc.mv f λ_ _=>by omega⟩
theorem WM.same{X:Cs}{H H':Hp}{T:Tg}{s:Nat}{A:Wa}{M:Wm}(j:WM X H T s A M)(e:bC H H'):WM X H' T s A M:=by
 have f:yR s (λ_=>False) H H' T T:=yR.of_same e;exact⟨j.jb.mv f (λb o h _=>e b o h) id id,j.jh.mv f id id,j.js.mv f id id,j.jd.mv f λ_ _ _=>id,j.jc.mv f λ_ _=>id⟩
def atO(cs:List V):V->V
 | .int i=>if 0<=i then(cs[i.toNat]?).getD .non else .non
 | _=>.non
def fH(CH:Addr):Sp:=λvs H Q E=>∃hp pl,vs=[.ref hp,pl]/\(pl=.non\/∃i,pl=.int i)/\∃ca room used born cs,HpO CH H hp ca room used born cs/\Q (atO cs pl) H
def cO(M:Wm)(x:Option Int):Option Ce:=x.bind (cellAt M)
def yM(X:Cs):Sp:=λvs H Q E=>∃hp pl,vs=[.ref hp,pl]/\∃x,pl=oV x/\∃T s A M,WJ X H T s A M/\A.hp=hp/\Q (oV (GZ M x)) H
def cL(X:Cs):Sp:=λvs H Q E=>∃wo p,vs=[.ref wo,.ref p]/\∃T s A M i q c,WM X H T s A M/\A.wo=wo/\CeO X.C H T s i q c/\q.1=p/\Q (.bl (decide (c.tone=M.sw.sense))) H
def rz(X:Cs):Sp:=λvs H Q E=>∃wo h,vs=[.ref wo,.int h]/\∃T s A M k,WJ X H T s A M/\A.wo=wo/\h=((k:Nat):Int)/\Q (.bl (wN M k)) H
def yK(X:Cs):Sp:=λvs H Q E=>∃wo pl,vs=[.ref wo,pl]/\∃x,pl=oV x/\∃T s A M,WT H T/\s≠0/\WJ X H T s A M/\A.wo=wo/\(M.sw.phase="walk"->M.sw.grey.length<=20000)/\
 ∀H',fj s H H' T T->WJ X H' T s A (bI M x).2->Q (oV (bI M x).1) H'
def PlO(H:Hp)(T:Tg)(A:Wa)(M:Wm)(pl:Addr)(xs:List (Option Int)):Prop:=(H pl=some (.lst (xs.map oV))/\T pl=(0,0))\/(∃(k:Nat) (p:Addr×Addr) (m:Str×List (Option Int)),A.hs[k]? =some p/\M.hands[k]? =some m/\pl=p.2/\xs=m.2)\/(∃(k:Nat) (p:Addr×Addr) (c:Ce),A.cs[k]? =some (some p)/\M.cells[k]? =some (some c)/\pl=p.2/\xs=c.fl)
theorem PlO.get{X:Cs}{H:Hp}{T:Tg}{s:Nat}{A:Wa}{M:Wm}{pl:Addr}{xs:List (Option Int)}(h:PlO H T A M pl xs)(j:WJ X H T s A M):H pl=some (.lst (xs.map oV)):=by
 rcases h with ⟨h,_⟩ | ⟨k,p,m,h1,h2,rfl,rfl⟩ | ⟨k,p,c,h1,h2,rfl,rfl⟩
 ·exact h
 ·exact(j.jd.hd k p m h1 h2).o2
 ·have e:=j.jc.ce k _ _ h1 h2;exact(show CeO X.C H T s k p c from e).o2
def oN(X:Cs):Sp:=λvs H Q E=>∃wo pl,vs=[.ref wo,.ref pl]/\∃xs T s A M,WT H T/\s≠0/\WJ X H T s A M/\A.wo=wo/\PlO H T A M pl xs/\xs.length<=100/\(M.sw.phase="walk"->M.sw.grey.length<=10000)/\
 ∀H' T' l,fj s H H' T T'->WJ X H' T' s A (aN M xs).2->H' l=some (.lst ((aN M xs).1.map V.int))->H l=none->Q (.ref l) H'
def WX(X:Cs):Sp:=λvs H Q E=>∃wo p b,vs=[.ref wo,.int p,.int b]/\∃T s A M,WM X H T s A M/\A.wo=wo/\Q (.bl (Gy M p b)) H
theorem Ah(x:Option Int):oV x=.non\/∃i,oV x=.int i:=by cases x with
 | none=>exact .inl rfl
 | some i=>exact .inr ⟨i,rfl⟩
section
variable {X:Cs}{H H':Hp}{T T':Tg}{s:Nat}{A:Wa}{M:Wm}
theorem WM.hpO(j:WM X H T s A M):HpO X.H H A.hp A.ca M.room M.used M.born (A.cs.map pV):=⟨j.jh.oh,j.jh.oc⟩
theorem WM.look(j:WM X H T s A M)(x:Option Int):(cO M x=none/\atO (A.cs.map pV) (oV x)=.non)\/∃i c p,x=some i/\0<=i/\cellAt M i=some c/\M.cells[i.toNat]? =some (some c)/\A.cs[i.toNat]? =some (some p)/\atO (A.cs.map pV) (oV x)=.ref p.1/\CeO X.C H T s i.toNat p c:=by
 cases x with
 | none=>exact .inl ⟨rfl,rfl⟩
 | some i=>
  show(cellAt M i=none/\atO _ (.int i)=_)\/_
  by_cases h0:0<=i
  ·cases hc:M.cells[i.toNat]? with
   | none=>
    have hl:A.cs[i.toNat]? =none:=by
     rw[List.getElem?_eq_none_iff]at hc ⊢;rw[j.jc.lc];exact hc
    refine .inl ⟨by unfold cellAt;rw[if_pos h0,hc];rfl,?_⟩;show(if 0<=i then _ else _)=_;rw[if_pos h0,dB,hl];rfl
   | some y=>cases y with
    | none=>
     refine .inl ⟨by unfold cellAt;rw[if_pos h0,hc];rfl,?_⟩;show(if 0<=i then _ else _)=_;rw[if_pos h0,dB,j.jc.at0 hc];rfl
    | some c=>
     obtain⟨p,hp,e⟩:=j.jc.at hc;refine .inr ⟨i,c,p,rfl,h0,by unfold cellAt;rw[if_pos h0,hc];rfl,hc,hp,?_,e⟩;show(if 0<=i then _ else _)=_;rw[if_pos h0,dB,hp];rfl
  ·refine .inl ⟨by unfold cellAt;rw[if_neg h0],?_⟩;show(if 0<=i then _ else _)=_;rw[if_neg h0]
theorem WJ.hpO(j:WJ X H T s A M):HpO X.H H A.hp A.ca M.room M.used M.born (A.cs.map pV):=j.w0.hpO
theorem WJ.look(j:WJ X H T s A M)(x:Option Int):(cO M x=none/\atO (A.cs.map pV) (oV x)=.non)\/∃i c p,x=some i/\0<=i/\cellAt M i=some c/\M.cells[i.toNat]? =some (some c)/\A.cs[i.toNat]? =some (some p)/\atO (A.cs.map pV) (oV x)=.ref p.1/\CeO X.C H T s i.toNat p c:=j.w0.look x
theorem WJ.hand(j:WJ X H T s A M){k:Nat}{p:Addr×Addr}(hp:A.hs[k]? =some p):∃m,M.hands[k]? =some m/\HdO X.D H T s k p m:=by
 have hl:k<M.hands.length:=by rw[<- j.jd.lh];exact(cV hp).1
 exact⟨_,cJ hl,j.jd.hd k p _ hp (cJ hl)⟩
theorem WJ.fresh(j:WJ X H T s A M){l:Addr}{o:HO}{v:Nat×Nat}(h:H l=none):WJ X (upd H l o) (fG T l v) s A M:=
 j.mv (H':=upd H l o) (T':=fG T l v) ⟨λb u e _ _=>by rw[aA (aB e h)];exact e,λb u e=>iW (aB e h)⟩ λb u e _=>by rw[aA (aB e h)];exact e
end
section
variable {K:aC}{X:Cs}{H:Hp}{Q:VK}{E:XK}{n:St->Hp->Prop}{bk ct:St->Hp->Prop}
theorem Zbs{hp:Addr}{pl:V}(T:qU K X)(q:(pl=.non\/∃i,pl=.int i)/\∃ca room used born cs,HpO X.H H hp ca room used born cs/\Q (atO cs pl) H):Du K ⟨n,Q,bk,ct⟩ [some (.ref hp),some pl] H:=by
 obtain⟨hpl,ca,room,used,born,cs,⟨⟨dx,h1⟩,h2⟩,q⟩:=q;unfold Du;rcases hpl with rfl | ⟨i,rfl⟩
 ·walk_at"e";exact q
 ·walk_at"e";refine pU (λz=>?_) (λz=>?_)
  ·walk_at"e";rw[show atO cs (.int i)=.non from if_neg (by omega)]at q;exact q
  ·rw[show atO cs (.int i)=(cs[i.toNat]?).getD .non from if_pos (by omega)]at q;walk_at"e";refine aD h1 T.c.cC T.c.bJ bN ?_;walk_at"e";refine iI (cR.of h2) ?_;walk_at"e";refine pU (λy=>?_) (λy=>?_)
   ·walk_at"e";rw[List.getElem?_eq_none_iff.mpr (by omega)]at q;exact q
   ·walk_at"e";refine aD h1 T.c.cC T.c.bJ bN ?_;walk_at"e";have hl:i.toNat<cs.length:=by omega
    refine dz (cR.of h2) (fQ (by omega) (cJ hl)) ?_;rw[cJ hl]at q;exact q
theorem Zk{hp:Addr}{pl:V}(T:qU K X)(q:∃x,pl=oV x/\∃T s A M,WJ X H T s A M/\A.hp=hp/\Q (oV (GZ M x)) H):zU K (fH X.H) ⟨n,Q,bk,ct⟩ [some (.ref hp),some pl,none] H:=by
 obtain⟨x,rfl,Tg,s,A,M,j,rfl,q⟩:=q;unfold zU;walk_at"e";refine⟨_,_,rfl,Ah x,_,_,_,_,_,j.hpO,?_⟩;rcases j.look x with ⟨e1,e2⟩ | ⟨i,c,p,rfl,h0,ec,_,_,e2,⟨t1,t2,⟨dx,o1⟩,o2⟩⟩
 ·rw[e2];have:GZ M x=none:=by
   cases x with
   | none=>rfl
   | some i=>show(cellAt M i).map _=none;rw[show cellAt M i=none from e1];rfl
  rw[this]at q;walk_at"e";exact q
 ·rw[e2];have:GZ M (some i)=some c.birth:=by show(cellAt M i).map _=_;rw[ec];rfl
  rw[this]at q;walk_at"e";refine aD o1 T.c.d9 T.c.d7 iT ?_;exact q
theorem V7{wo p:Addr}(T:qU K X)(q:∃T s A M i q c,WM X H T s A M/\A.wo=wo/\CeO X.C H T s i q c/\q.1=p/\Q (.bl (decide (c.tone=M.sw.sense))) H):xV K ⟨n,Q,bk,ct⟩ [some (.ref wo),some (.ref p)] H:=by
 obtain⟨Tg,s,A,M,i,r,c,j,rfl,⟨t1,t2,⟨dx,o1⟩,o2⟩,rfl,q⟩:=q;obtain⟨d1,ow⟩:=j.jb.ow;obtain⟨d2,os⟩:=j.js.os;unfold xV;walk_at"e";refine aD o1 T.c.d9 T.c.lB RJ ?_;walk_at"e";refine aD ow T.cW T.N7 aW ?_;walk_at"e";refine aD os T.cS T.n1 lW ?_;walk_at"e";exact q
end
theorem Zov{y:Int}:Builtin.bitAnd y 1=y % 2:=by
 unfold Builtin.bitAnd
 by_cases h:0<=y
 ·rw[decide_eq_true h,decide_eq_true (show(0:Int)<=1 by decide)];show((y.toNat &&& 1:Nat):Int)=_;rw[Nat.and_one_is_mod];omega
 ·rw[decide_eq_false h,decide_eq_true (show(0:Int)<=1 by decide)];show(1:Int) - ((1 &&& (Builtin.bitNot y).toNat:Nat):Int)=_;rw[Nat.and_comm,Nat.and_one_is_mod];unfold Builtin.bitNot;omega
section
variable {K:aC}{X:Cs}{H:Hp}{Q:VK}{E:XK}{n:St->Hp->Prop}{bk ct:St->Hp->Prop}{CE CF CN:Addr}
theorem Vs{wo:Addr}{h:Int}(T:qU K X)(q:∃T s A M k,WJ X H T s A M/\A.wo=wo/\h=((k:Nat):Int)/\Q (.bl (wN M k)) H):xU K ⟨n,Q,bk,ct⟩ [some (.ref wo),some (.int h)] H:=by
 obtain⟨Tg,s,A,M,k,j,rfl,rfl,q⟩:=q;obtain⟨d1,ow⟩:=j.jb.ow;obtain⟨d2,os⟩:=j.js.os;unfold xU;walk_at"e";refine aD ow T.cW T.N7 aW ?_;walk_at"e";refine aD os T.cS T.n4 gM ?_;walk_at"e";rw[Zov,Int.toNat_natCast];exact q
theorem Zl7{wo:Addr}{pl b:Int}(T:qU K X)(q:∃T s A M,WM X H T s A M/\A.wo=wo/\Q (.bl (Gy M pl b)) H):U3 K (fH X.H) (cL X) ⟨n,Q,bk,ct⟩ [some (.ref wo),some (.int pl),some (.int b),none] H:=by
 obtain⟨Tg,s,A,M,j,rfl,q⟩:=q;obtain⟨d1,ow⟩:=j.jb.ow;obtain⟨d2,os⟩:=j.js.os;unfold U3;walk_at"e";refine aD ow T.cW T.Xg bZ ?_;walk_at"e";refine⟨_,_,rfl,Ah (some pl),_,_,_,_,_,j.hpO,?_⟩;unfold Gy at q;rcases j.look (some pl)with ⟨e1,e2⟩ | ⟨i,c,p,ei,h0,ec,_,hp,e2,ce⟩
 ·rw[show atO (A.cs.map pV) (.int pl)=.non from e2];rw[show cellAt M pl=none from e1]at q;walk_at"e";exact q
 ·cases ei;rw[show atO (A.cs.map pV) (.int pl)=.ref p.1 from e2];rw[ec]at q;dsimp only at q;obtain⟨t1,t2,⟨dx,o1⟩,o2⟩:=id ce;walk_at"e";refine aD o1 T.c.d9 T.c.d7 iT ?_;walk_at"e";refine wO (λz=>?_) (λz=>?_)
  ·rw[if_neg z]at q;walk_at"e";exact q
  ·rw[if_pos z]at q;walk_at"e";refine aD ow T.cW T.N7 aW ?_;walk_at"e";refine aD os T.cS T.n2 je ?_;walk_at"e";refine pU (λy=>?_) (λy=>?_)
   ·walk_at"e";refine⟨_,_,rfl,Tg,s,A,M,_,p,c,j,rfl,ce,rfl,?_⟩;walk_at"e";have:decide (M.sw.phase="give"/\c.tone≠M.sw.sense)=!decide (c.tone=M.sw.sense):=by simp[y]
    rw[this]at q;exact q
   ·have:decide (M.sw.phase="give"/\c.tone≠M.sw.sense)=false:=decide_eq_false λw=>y w.1;rw[this]at q;exact q
theorem Zk5{wo:Addr}{pl:V}(T:qU K X)(q:∃x,pl=oV x/\∃T s A M,WT H T/\s≠0/\WJ X H T s A M/\A.wo=wo/\(M.sw.phase="walk"->M.sw.grey.length<=20000)/\
 ∀H',fj s H H' T T->WJ X H' T s A (bI M x).2->Q (oV (bI M x).1) H'):UW K (fH X.H) (cL X) ⟨n,Q,bk,ct⟩ [some (.ref wo),some pl,none,none] H:=by
 obtain⟨x,rfl,Tg,s,A,M,w,s0,j,rfl,hg,q⟩:=q;obtain⟨d1,ow⟩:=j.jb.ow;obtain⟨d2,os⟩:=j.js.os;unfold UW;walk_at"e";refine aD ow T.cW T.N7 aW ?_;walk_at"e";refine aD ow T.cW T.Xg bZ ?_;walk_at"e";refine⟨_,_,rfl,Ah x,_,_,_,_,_,j.hpO,?_⟩;walk_at"e";refine aD os T.cS T.n2 je ?_;walk_at"e";have stay:bI M x=(none,M)->Q .non H:=λe=>by
  have:=q H (fj.refl w);rw[e]at this;exact this j
 refine wO (λz=>?_) (λz=>?_)
 ·walk_at"e";exact stay (NT z x)
 ·rcases j.look x with ⟨e1,e2⟩ | ⟨i,c,p,rfl,h0,ec,hc,hp,e2,ce⟩
  ·rw[e2];walk_at"e";refine stay ?_;cases x with
   | none=>rfl
   | some i=>unfold bI;dsimp only;rw[show cellAt M i=none from e1]
  ·rw[e2];obtain⟨t1,t2,⟨dx,o1⟩,o2⟩:=id ce;walk_at"e";refine⟨_,_,rfl,Tg,s,A,M,_,p,c,j.w0,rfl,ce,rfl,?_⟩
   by_cases y:c.tone=M.sw.sense
   ·rw[decide_eq_true y];walk_at"e";refine stay ?_;unfold bI;dsimp only;rw[ec];dsimp only;rw[if_neg λw=>w.2 y]
   ·rw[decide_eq_false y];have en:bI M (some i)=(some c.birth,{ setCell M i { c with tone:=M.sw.sense }with sw:={ M.sw with grey:=M.sw.grey++[i] } }):=by
     unfold bI;dsimp only;rw[ec];dsimp only;rw[if_pos ⟨z,y⟩]
    rw[en]at q;walk_at"e";refine aD os T.cS T.n1 lW ?_;walk_at"e";refine⟨p.1,X.C,dx,_,rfl,o1,T.c.d9,T.c.lB,by show 5<1000;decide,?_⟩;rw[Pb];obtain⟨st1,j1⟩:=j.cell w s0 (dx:=dx) (tone:=M.sw.sense) (load:=c.load) hp ce;generalize upd H p.1 (.ins X.C dx (oR c.birth c.bulk M.sw.sense c.load p.2))=H1 at st1 j1 ⊢;obtain⟨d3,os1⟩:=j1.js.os;obtain⟨p1,hp1,ce1⟩:=j1.jc.at (i:=i.toNat) (c:={ c with tone:=M.sw.sense,load:=c.load }) (by rw[List.getElem?_set_self (cV hc).1]);rw[hp]at hp1;cases hp1;walk_at"e";refine aD os1 T.cS T.n3 kh ?_;walk_at"e";have hgl:=hg z;refine⟨.inl ⟨rfl,_,cR.of j1.js.og⟩,?_⟩;walk_at"e";refine⟨_,_,_,rfl,rfl,j1.js.og,?_,?_⟩
    ·rw[aU];exact Nat.lt_of_le_of_lt hgl (by decide)
    obtain⟨st2,j2⟩:=j1.Zm5 st1.wt s0 (g:=M.sw.grey++[i]);have eg:(M.sw.grey.map V.int++[V.int i])=(M.sw.grey++[i]).map V.int:=by rw[List.map_append];rfl
    show bL _ _ _ (upd H1 A.gr (.lst (M.sw.grey.map V.int++[oV (some i)])));rw[show(M.sw.grey.map V.int++[oV (some i)])=(M.sw.grey++[i]).map V.int from eg];generalize upd H1 A.gr (.lst ((M.sw.grey++[i]).map V.int))=H2 at st2 j2 ⊢;obtain⟨p2,hp2,ce2⟩:=j2.jc.at (i:=i.toNat) (c:={ c with tone:=M.sw.sense,load:=c.load }) (by show(M.cells.set _ _)[_]? =_;rw[List.getElem?_set_self (cV hc).1]);rw[hp]at hp2;cases hp2;obtain⟨_,_,⟨dx2,o3⟩,_⟩:=ce2;walk_at"e";refine aD o3 T.c.d9 T.c.d7 iT ?_;exact q H2 (st1.trans st2) j2
theorem fj.new{s:Nat}{H Hx:Hp}{T Tx:Tg}{l:Addr}{o o0:HO}(e:fj s H Hx T Tx)(hl:H l=none)(hx:Hx l=some o0):fj s H (upd Hx l o) T Tx where
 kp:=λb u h z=>by rw[aA (aB h hl)];exact e.kp b u h z
 al:=λb u h=>by rw[aA (aB h hl)];exact e.al b u h
 tg:=e.tg
 wt:=λb h=>e.wt b (by
  by_cases z:b=l
  ·rw[z,ao]at h;cases h
  ·rw[aA z]at h;exact h)
theorem fj.fresh{s:Nat}{H:Hp}{T:Tg}{l:Addr}{o:HO}{v:Nat×Nat}(w:WT H T)(hl:H l=none):fj s H (upd H l o) T (fG T l v) where
 kp:=λb u h z=>by rw[aA (aB h hl)];exact h
 al:=λb u h=>⟨u,by rw[aA (aB h hl)];exact h⟩
 tg:=λb u h=>iW (aB h hl)
 wt:=λb h=>by
  by_cases z:b=l
  ·rw[z,ao]at h;cases h
  ·rw[aA z]at h;rw[iW z];exact w b h
theorem Zas{M:Wm}{x:Option Int}:(bI M x).2.sw.phase=M.sw.phase/\(bI M x).2.sw.grey.length<=M.sw.grey.length+1/\(bI M x).2.tells=M.tells/\(bI M x).2.names=M.names:=by
 cases x with
 | none=>exact⟨rfl,Nat.le_succ _,rfl,rfl⟩
 | some i=>
  unfold bI;dsimp only;cases cellAt M i with
  | none=>exact⟨rfl,Nat.le_succ _,rfl,rfl⟩
  | some c=>
   dsimp only
   by_cases z:M.sw.phase="walk"/\c.tone≠M.sw.sense
   ·rw[if_pos z];exact⟨rfl,by show(M.sw.grey++[i]).length<=_;rw[List.length_append];exact Nat.le_refl _,rfl,rfl⟩
   ·rw[if_neg z];exact⟨rfl,Nat.le_succ _,rfl,rfl⟩
theorem J0{M:Wm}{x:Option Int}:(bI M x).2.hands=M.hands:=by
 cases x with
 | none=>rfl
 | some i=>
  unfold bI;dsimp only;cases cellAt M i with
  | none=>rfl
  | some c=>
   dsimp only;split<;>rfl
theorem Zat{M:Wm}{x:Option Int}{k:Nat}{c:Ce}(h:M.cells[k]? =some (some c)):∃c',(bI M x).2.cells[k]? =some (some c')/\c'.fl=c.fl/\c'.birth=c.birth/\c'.bulk=c.bulk/\c'.load=c.load:=by
 cases x with
 | none=>exact⟨c,h,rfl,rfl,rfl,rfl⟩
 | some i=>
  unfold bI;dsimp only;cases hc:cellAt M i with
  | none=>exact⟨c,h,rfl,rfl,rfl,rfl⟩
  | some d=>
   dsimp only;split
   ·show ∃c',(M.cells.set i.toNat _)[k]? =_/\_
    by_cases z:i.toNat=k
    ·subst z;obtain⟨_,hd⟩:=cj.mp hc;rw[h]at hd;cases hd;exact⟨_,List.getElem?_set_self (cV h).1,rfl,rfl,rfl,rfl⟩
    ·rw[List.getElem?_set_ne z];exact⟨c,h,rfl,rfl,rfl,rfl⟩
   ·exact⟨c,h,rfl,rfl,rfl,rfl⟩
theorem jO:∀{l:List (Option Int)}{M:Wm}{x:Option Int},aN M (l++[x])=((aN M l).1++Vl (bI (aN M l).2 x).1,(bI (aN M l).2 x).2)
 | [],M,x=>by
  show(Vl (bI M x).1++[],(bI M x).2)=([]++Vl (bI M x).1,(bI M x).2);rw[List.append_nil,List.nil_append]
 | y::l,M,x=>by
  show(Vl (bI M y).1++(aN (bI M y).2 (l++[x])).1,(aN (bI M y).2 (l++[x])).2)=_;rw[jO];show _=((Vl (bI M y).1++(aN (bI M y).2 l).1)++_,_);rw[List.append_assoc];rfl
theorem uN:∀{l:List (Option Int)}{M:Wm},(aN M l).2.sw.phase=M.sw.phase/\(aN M l).2.sw.grey.length<=M.sw.grey.length+l.length
 | [],M=>⟨rfl,Nat.le_refl _⟩
 | y::l,M=>by
  obtain⟨a,b,_⟩:=Zas (M:=M) (x:=y);obtain⟨c,d⟩:=uN (l:=l) (M:=(bI M y).2);refine⟨c.trans a,?_⟩;show(aN (bI M y).2 l).2.sw.grey.length<=_;rw[List.length_cons];omega
theorem yw:∀{l:List (Option Int)}{M:Wm},(aN M l).1.length<=l.length
 | [],M=>Nat.le_refl _
 | y::l,M=>by
  have:=yw (l:=l) (M:=(bI M y).2);show(Vl (bI M y).1++(aN (bI M y).2 l).1).length<=_;rw[List.length_append,List.length_cons];have:(Vl (bI M y).1).length<=1:=by cases (bI M y).1<;>simp[Vl]
  omega
theorem Yd{wo pl:Addr}(T:qU K X)(q:∃xs T s A M,WT H T/\s≠0/\WJ X H T s A M/\A.wo=wo/\PlO H T A M pl xs/\xs.length<=100/\(M.sw.phase="walk"->M.sw.grey.length<=10000)/\
 ∀H' T' l,fj s H H' T T'->WJ X H' T' s A (aN M xs).2->H' l=some (.lst ((aN M xs).1.map V.int))->H l=none->Q (.ref l) H'):zR K (yK X) ⟨n,Q,bk,ct⟩ [some (.ref wo),some (.ref pl),none,none,none] H:=by
 obtain⟨xs,Tg,s,A,M,w,s0,j,rfl,plo,hx,hg,q⟩:=q;have opl:=plo.get j;unfold zR;walk_at"e";refine⟨dU (by simp),λl hl=>?_⟩;have npl:pl≠l:=aB opl hl;have st1:fj s H (upd H l (.lst [])) Tg (fG Tg l (s+1,0)):=fj.fresh w hl;have j1:WJ X (upd H l (.lst [])) (fG Tg l (s+1,0)) s A M:=j.fresh hl;have g1:upd H l (.lst []) l=some (.lst []):=ao;have tl:fG Tg l (s+1,0) l=(s+1,0):=eX;have po1:PlO (upd H l (.lst [])) (fG Tg l (s+1,0)) A M pl xs:=by
  rcases plo with ⟨h1,h2⟩ | h
  ·exact .inl ⟨(aA npl).trans h1,(iW npl).trans h2⟩
  ·exact .inr h
 have op1:upd H l (.lst []) pl=some (.lst (xs.map oV)):=(aA npl).trans opl;generalize upd H l (.lst [])=H1 at st1 j1 g1 op1 po1 ⊢;generalize fG Tg l (s+1,0)=T1 at st1 j1 tl po1;walk_at"e";refine⟨pl,rfl,⟨_,cR.of op1⟩,forL (xs.map oV) (λi σ Hx=>∃v3 v4,σ=[some (.ref A.wo),some (.ref pl),some (.ref l),v3,v4]/\fj s H Hx Tg T1/\WJ X Hx T1 s A (aN M (xs.take i)).2/\Hx l=some (.lst ((aN M (xs.take i)).1.map V.int))/\PlO Hx T1 A (aN M (xs.take i)).2 pl xs) ⟨_,_,rfl,st1,j1,g1,po1⟩ (λ_ _ _ _ ⟨_,_,_,_,j,_,e⟩=>cR.of (e.get j)) ?_ ?_⟩
 ·rintro i x σ Hx hi ⟨v3,v4,rfl,st2,j2,g2,op2⟩;obtain⟨y,hy,rfl⟩:∃y,xs[i]? =some y/\oV y=x:=by
   rw[dB]at hi;obtain⟨y,a,b⟩:=Option.map_eq_some_iff.mp hi;exact⟨y,a,b⟩
  have il:=(cV hy).1;have et:xs.take (i+1)=xs.take i++[y]:=by
   rw[List.take_add_one,hy];rfl
  obtain⟨gp,gl⟩:=uN (l:=xs.take i) (M:=M);have nl:=yw (l:=xs.take i) (M:=M);have tk:(xs.take i).length<=100:=by rw[List.length_take];omega
  walk_at"e";refine⟨_,_,rfl,y,rfl,T1,s,A,_,st2.wt,s0,j2,rfl,λz=>?_,λHy sty jy=>?_⟩
  ·have:=hg (gp.symm.trans z);omega
  have gy:Hy l=some (.lst ((aN M (xs.take i)).1.map V.int)):=sty.kp _ _ g2 (by rw[tl];show s+1≠s;omega);have oy:PlO Hy T1 A (bI (aN M (xs.take i)).2 y).2 pl xs:=by
   rcases op2 with ⟨h1,h2⟩ | ⟨k,p,m,h1,h2,h3,h4⟩ | ⟨k,p,c,h1,h2,h3,h4⟩
   ·exact .inl ⟨sty.kp _ _ h1 (by rw[h2];exact λz=>s0 z.symm),h2⟩
   ·exact .inr (.inl ⟨k,p,m,h1,by rw[J0];exact h2,h3,h4⟩)
   ·obtain⟨c',e1,e2,_⟩:=Zat (x:=y) h2;exact .inr (.inr ⟨k,p,c',h1,e1,h3,by rw[e2];exact h4⟩)
  have stt:=st2.trans sty;walk_at"e";cases hn:(bI (aN M (xs.take i)).2 y).1 with
  | none=>
   dsimp only[oV];walk_at"e";refine⟨_,_,rfl,stt,?_,?_,by rw[et,jO];exact oy⟩
   ·rw[et,jO];exact jy
   ·rw[et,jO];show Hy l=some (.lst (((aN M (xs.take i)).1++Vl (bI (aN M (xs.take i)).2 y).1).map V.int));rw[hn];show Hy l=some (.lst (((aN M (xs.take i)).1++[]).map V.int));rw[List.append_nil];exact gy
  | some b=>
   dsimp only[oV];walk_at"e";refine⟨.inl ⟨rfl,_,cR.of gy⟩,?_⟩;walk_at"e";refine⟨_,_,_,rfl,rfl,gy,?_,?_⟩
   ·rw[aU];exact Nat.lt_of_le_of_lt (show _<=100 by omega) (by decide)
   walk_at"e";refine⟨_,_,rfl,fj.new stt hl gy,?_,?_,?_⟩
   ·rw[et,jO];exact jy.other (s':=s+1) (fj.upd sty.wt gy (by rw[tl])) (by omega) (by omega)
   ·rw[et,jO,ao];show some (HO.lst _)=some (HO.lst (((aN M (xs.take i)).1++Vl (bI (aN M (xs.take i)).2 y).1).map V.int));rw[hn,List.map_append];rfl
   ·rw[et,jO];rcases oy with ⟨h1,h2⟩ | h
    ·exact .inl ⟨by rw[aA npl];exact h1,h2⟩
    ·exact .inr h
 ·rintro σ Hx ⟨v3,v4,rfl,st2,j2,g2,op2⟩;walk_at"e";rw[show(xs.map oV).length=xs.length from aU _,List.take_length]at j2 g2;exact q Hx T1 l st2 j2 g2 hl
end
section
variable {X:Cs}{H Hx:Hp}{T Tx:Tg}{s:Nat}{A Ax:Wa}{M M':Wm}{d:Zpa}{e:Ev}{wo:Addr}{Q:VK}
theorem fj.free{s:Nat}{H Hx:Hp}{T Tx:Tg}{l:Addr}(e:fj s H Hx T Tx)(h:Hx l=none):H l=none:=by
 cases z:H l with
 | none=>rfl
 | some o=>obtain⟨o',z'⟩:=e.al l o z;rw[h]at z';cases z'
theorem ev1{l a:Addr}(hl0:H l=none)(hQ:∀e M',doM M d=.ok (e,M')->∀H' T' A' a,fj s H H' T T'->WJ X H' T' s A' M'->A'.wo=wo->EvN H H' a e->Q (.ref a) H')(he:doM M d=.ok (e,M'))(st:fj s H Hx T Tx)(j:WJ X Hx Tx s Ax M')(aw:Ax.wo=wo)(hl:Hx l=some (.lst (e.notes.map V.int)))(ha:Hx a=none):
  Q (.ref a) (upd Hx a (.tup [.str e.word,oV e.thing,.ref l])):=by
 have s2:=aL ha (.tup [.str e.word,oV e.thing,.ref l]);exact hQ e M' he _ Tx Ax a (st.trans (fj.same st.wt s2)) (j.same s2) aw ⟨l,hl0,ao,s2 _ _ hl⟩
end
section
variable {K:aC}{X:Cs}{H:Hp}{Q:VK}{E:XK}{n:St->Hp->Prop}{bk ct:St->Hp->Prop}{rf:Rf->Addr}
end
section
variable {X:Cs}{H H':Hp}{T T':Tg}{s:Nat}{A:Wa}{M:Wm}
theorem Zn8{ns:List Addr}{names:List (Str×(Int×Int))}(h:Al (NmO H T) ns names):(nmK names ns).length=names.length:=by
 induction h with
 | nil=>rfl
 | @cons a m ns names h1 _ ih=>show(_::nmK names ns).length=_;rw[List.length_cons,List.length_cons,ih]
end
section
variable {K:aC}{X:Cs}{H:Hp}{Q:VK}{E:XK}{n:St->Hp->Prop}{bk ct:St->Hp->Prop}{rf:Rf->Addr}{CE CF CN:Addr}
end
section
variable {K:aC}{X:Cs}{H:Hp}{Q:VK}{E:XK}{n:St->Hp->Prop}{bk ct:St->Hp->Prop}{rf:Rf->Addr}{f1 f2 f3 f4 f5 f6 f7 f8 f9 f10:Addr}
end
def mY(X:Cs):Sp:=λvs H Q E=>∃hp sl,vs=[.ref hp,.ref sl]/\∃T s A M,∃xs:List (Option Int),WJ X H T s A M/\A.hp=hp/\H sl=some (.lst (xs.map oV))/\xs.length<=1000/\∀l,H l=none->Q (.ref l) (upd H l (.lst ((xs.map (GZ M)).map oV)))
section
variable {K:aC}{X:Cs}{H:Hp}{Q:VK}{E:XK}{n:St->Hp->Prop}{bk ct:St->Hp->Prop}
theorem Ws{hp sl:Addr}(T:qU K X)(q:∃T s A M,∃xs:List (Option Int),WJ X H T s A M/\A.hp=hp/\H sl=some (.lst (xs.map oV))/\xs.length<=1000/\∀l,H l=none->Q (.ref l) (upd H l (.lst ((xs.map (GZ M)).map oV)))):
  xW K (yM X) ⟨n,Q,bk,ct⟩ [some (.ref hp),some (.ref sl)] H:=by
 obtain⟨Tg,s,A,M,xs,j,rfl,o,hx,q⟩:=q;unfold xW;walk_at"e";refine Av ?_;walk_at"e";refine⟨_,rfl,⟨_,cR.of o⟩,?_⟩;refine Gk (cR.of o) (λi=>(xs[i]?).map λx=>oV (GZ M x)) (by rw[aU];omega) (λi x hx=>?_) ?_
 ·rw[dB]at hx;obtain⟨y,hy,rfl⟩:=Option.map_eq_some_iff.mp hx;refine⟨λq hq=>?_,λz q hz hq=>?_⟩
  ·rw[hy]at hq;exact Jy hq
  ·rw[hy]at hz;cases hz;walk_at"c";walk_at"e";exact⟨_,_,rfl,y,rfl,Tg,s,A,M,j,rfl,hq⟩
 ·intro p hp;have:(List.range (xs.map oV).length).filterMap (λi=>(xs[i]?).map λx=>oV (GZ M x))=(xs.map (GZ M)).map oV:=by
   rw[aU,List.map_map];clear q o hx
   induction xs with
   | nil=>rfl
   | cons a l ih=>
    rw[List.length_cons,List.range_succ_eq_map,List.filterMap_cons];simp only[List.getElem?_cons_zero,Option.map_some,List.map_cons,List.filterMap_map];congr 1
  rw[this];exact q p hp
end
def uZ(CD:Addr):Sp:=λvs H Q E=>∃p nm many,vs=[.ref p,.str nm,.int many]/\∃dx,H p=some (.ins CD dx [])/\0<=many/\many<=1000/\
 ∀sa H',H sa=none->H' p=some (.ins CD dx (Y5 nm sa))->H' sa=some (.lst (List.replicate many.toNat V.non))->(∀b o,H b=some o->b≠p->H' b=some o)->Q .non H'
def pQ(CS:Addr):Sp:=λvs H Q E=>∃p,vs=[.ref p]/\∃dx,H p=some (.ins CS dx [])/\
 ∀gr H',H gr=none->H' p=some (.ins CS dx (cg 0 "rest" gr 0 0 0 0 0 0 0 .non))->H' gr=some (.lst [])->(∀b o,H b=some o->b≠p->H' b=some o)->Q .non H'
section
variable {K:aC}{X:Cs}{H:Hp}{Q:VK}{E:XK}{n:St->Hp->Prop}{bk ct:St->Hp->Prop}
theorem JT{p:Addr}{nm:Str}{many:Int}(T:qU K X)(q:∃dx,H p=some (.ins X.D dx [])/\0<=many/\many<=1000/\
 ∀sa H',H sa=none->H' p=some (.ins X.D dx (Y5 nm sa))->H' sa=some (.lst (List.replicate many.toNat V.non))->(∀b o,H b=some o->b≠p->H' b=some o)->Q .non H'):
  qp K ⟨λ_ H'=>Q .non H',Q,bk,ct⟩ [some (.ref p),some (.str nm),some (.int many)] H:=by
 obtain⟨dx,hp,h0,h1,h⟩:=q;unfold qp;walk_at"e";refine⟨p,X.D,dx,[],rfl,hp,T.cD,T.nDn,by decide,?_⟩;walk_at"e";refine⟨by decide,λl0 hl0=>?_⟩;walk_at"e";refine⟨l0,many,_,rfl,rfl,ao,by omega,by omega,?_,λfa hfa=>?_⟩
 ·show 1 * many.toNat<=sizeLine;exact dU (by omega)
 have npl:p≠l0:=aB ao hl0;have npf:p≠fa:=aB (by rw[aA npl];exact ao) hfa;have Zqw:H fa=none:=by
  by_cases z:fa=l0
  ·rw[z,ao]at hfa;cases hfa
  ·rw[aA z,aA (λe=>npf e.symm)]at hfa;exact hfa
 have Zsu:H l0=none:=by rw[aA (λe=>npl e.symm)]at hl0;exact hl0
 walk_at"e";refine⟨p,X.D,dx,_,rfl,by rw[aA npf,aA npl];exact ao,T.cD,T.nDs,by show 1<1000;decide,?_⟩;refine h fa _ Zqw ?_ ?_ λb o hb nb=>?_
 ·rw[ao,Zhn]
 ·rw[aA npf.symm,ao];congr 2;generalize many.toNat=k
  induction k with
  | zero=>rfl
  | succ k ih=>rw[List.replicate_succ,List.replicate_succ,List.flatten_cons,ih];rfl
 ·rw[aA nb,aA (aB hb Zqw),aA (aB hb Zsu),aA nb];exact hb
theorem Cp{p:Addr}(T:qU K X)(q:∃dx,H p=some (.ins X.S dx [])/\
 ∀gr H',H gr=none->H' p=some (.ins X.S dx (cg 0 "rest" gr 0 0 0 0 0 0 0 .non))->H' gr=some (.lst [])->(∀b o,H b=some o->b≠p->H' b=some o)->Q .non H'):
  nF K ⟨λ_ H'=>Q .non H',Q,bk,ct⟩ [some (.ref p)] H:=by
 obtain⟨dx,hp,h⟩:=q;unfold nF;walk_at"e";refine⟨p,X.S,dx,[],rfl,hp,T.cS,T.n1,by decide,?_⟩;walk_at"e";refine⟨p,X.S,dx,_,rfl,ao,T.cS,T.n2,by show 1<1000;decide,?_⟩;rw[eU];walk_at"e";refine⟨by decide,λgr hgr=>?_⟩;have npg:p≠gr:=aB ao hgr;have Zhj:H gr=none:=by rw[aA npg.symm]at hgr;exact hgr
 walk_at"e";refine⟨p,X.S,dx,_,rfl,by rw[aA npg];exact ao,T.cS,T.n3,by show 2<1000;decide,?_⟩;walk_at"e";refine⟨p,X.S,dx,_,rfl,ao,T.cS,T.n4,by show 3<1000;decide,?_⟩;rw[eU];walk_at"e";refine⟨p,X.S,dx,_,rfl,ao,T.cS,T.n5,by show 4<1000;decide,?_⟩;rw[eU];walk_at"e";refine⟨p,X.S,dx,_,rfl,ao,T.cS,T.n6,by show 5<1000;decide,?_⟩;rw[eU];walk_at"e";refine⟨p,X.S,dx,_,rfl,ao,T.cS,T.n7,by show 6<1000;decide,?_⟩;rw[eU];walk_at"e";refine⟨p,X.S,dx,_,rfl,ao,T.cS,T.n8,by show 7<1000;decide,?_⟩;rw[eU];walk_at"e";refine⟨p,X.S,dx,_,rfl,ao,T.cS,T.n9,by show 8<1000;decide,?_⟩;rw[eU];walk_at"e";refine⟨p,X.S,dx,_,rfl,ao,T.cS,T.n10,by show 9<1000;decide,?_⟩;rw[eU];walk_at"e";refine⟨p,X.S,dx,_,rfl,ao,T.cS,T.n11,by show 10<1000;decide,?_⟩;rw[eU];refine h gr _ Zhj ?_ ?_ λb o hb nb=>?_
 ·rw[ao,Zdd]
 ·rw[aA npg.symm,ao]
 ·rw[aA nb,aA (aB hb Zhj),aA nb];exact hb
end
def wd(w:Int):Str:=if w=0 then "first" else if w=1 then "each" else "last"
def tlS(t:Int):Str:=if t=0 then "" else if t=1 then " old" else if t=2 then " new" else " old new"
def words(w t:Int):Str:=wd w++tlS t
theorem Zd8{w t w' t':Int}(w0:0<=w)(w1:w<3)(t0:0<=t)(t1:t<4)(a0:0<=w')(a1:w'<3)(b0:0<=t')(b1:t'<4)(e:words w t=words w' t'):w=w'/\t=t':=by
 have key:∀a∈[(0:Int),1,2],∀b∈[(0:Int),1,2,3],∀a'∈[(0:Int),1,2],∀b'∈[(0:Int),1,2,3],words a b=words a' b'->a=a'/\b=b':=by decide +kernel
 exact key w (by simp;omega) t (by simp;omega) w' (by simp;omega) t' (by simp;omega) e
theorem Zes(w:Int):(wd w).length<=5:=by
 unfold wd
 by_cases h:w=0
 ·rw[if_pos h];decide
 ·rw[if_neg h]
  by_cases h:w=1
  ·rw[if_pos h];decide
  ·rw[if_neg h];decide
structure KdO(X:Cs)(H:Hp)(ki lk:Addr)(w t:Int):Prop where
 ok:∃dx,H ki=some (.ins X.K dx (Gn lk t))
 ol:∃dx,(w=0/\H lk=some (.ins X.F dx []))\/(w=1/\H lk=some (.ins X.E dx []))\/(w=2/\H lk=some (.ins X.L dx []))
theorem KdO.same{X:Cs}{H H':Hp}{ki lk:Addr}{w t:Int}(k:KdO X H ki lk w t)(s:bC H H'):KdO X H' ki lk w t:=by
 obtain⟨⟨d1,a⟩,⟨d2,b⟩⟩:=k;refine⟨⟨d1,s _ _ a⟩,⟨d2,?_⟩⟩;rcases b with ⟨z,e⟩ | ⟨z,e⟩ | ⟨z,e⟩
 ·exact .inl ⟨z,s _ _ e⟩
 ·exact .inr (.inl ⟨z,s _ _ e⟩)
 ·exact .inr (.inr ⟨z,s _ _ e⟩)
def BP(X:Cs):Sp:=λvs H Q E=>∃z,vs=[.str z]/\∃w t,0<=w/\w<3/\0<=t/\t<4/\z=words w t/\∀ki lk H',bC H H'->H ki=none->H lk=none->KdO X H' ki lk w t->Q (.ref ki) H'
def Yp(room:Int)(hands:List (Str×Int))(w t:Int):Wm:=⟨room,0,0,[],hands.map λm=>(m.1,List.replicate m.2.toNat none),[],w,t,⟨0,"rest",[],0,0,0,0,0,0,0,.non⟩⟩
def sX(X:Cs):Sp:=λvs H Q E=>∃p room ki hl0,vs=[.ref p,.int room,.ref ki,.ref hl0]/\∃dx T s lk w t ts hands,H p=some (.ins X.W dx [])/\WT H T/\s≠0/\KdO X H ki lk w t/\T ki=(0,0)/\T lk=(0,0)/\ki≠p/\lk≠p/\H hl0=some (.lst (ts.map V.ref))/\
 Al (λ(t:Addr) (m:Str×Int)=>H t=some (.tup [.str m.1,.int m.2])/\0<=m.2/\m.2<=1000) ts hands/\hands.length<=30/\
 ∀H' T' A,(∀b o,H b=some o->b≠p->H' b=some o)->(∀b o,H b=some o->b≠p->T' b=T b)->WT H' T'->A.wo=p->WJ X H' T' s A (Yp room hands w t)->Q .non H'
def uW(CK:Addr):Sp:=λvs H Q E=>∃p l t,vs=[.ref p,.ref l,.int t]/\∃dx,H p=some (.ins CK dx [])/\∀H',H' p=some (.ins CK dx (Gn l t))->(∀b o,H b=some o->b≠p->H' b=some o)->Q .non H'
def jf(v:V):Sp:=λvs H Q E=>∃a,vs=[.ref a]/\Q v H
def Mm(X:Cs):Sp:=λvs H Q E=>∃ki,vs=[.ref ki]/\∃lk w t,KdO X H ki lk w t/\0<=t/\t<4/\∀H',bC H H'->Q (.str (words w t)) H'
section
variable {K:aC}{X:Cs}{H:Hp}{Q:VK}{E:XK}{n:St->Hp->Prop}{bk ct:St->Hp->Prop}
theorem R3{a:Addr}(T:qU K X)(q:Q (.str "first") H):vL ⟨n,Q,bk,ct⟩ [some (.ref a)] H:=by
 unfold vL;walk_at"e";exact q
theorem Xf{a:Addr}(T:qU K X)(q:Q (.str "each") H):yj ⟨n,Q,bk,ct⟩ [some (.ref a)] H:=by
 unfold yj;walk_at"e";exact q
theorem W0{a:Addr}(T:qU K X)(q:Q (.str "last") H):yd ⟨n,Q,bk,ct⟩ [some (.ref a)] H:=by
 unfold yd;walk_at"e";exact q
theorem JR{p l:Addr}{t:Int}(T:qU K X)(q:∃dx,H p=some (.ins X.K dx [])/\∀H',H' p=some (.ins X.K dx (Gn l t))->(∀b o,H b=some o->b≠p->H' b=some o)->Q .non H'):
  qj K ⟨λ_ H'=>Q .non H',Q,bk,ct⟩ [some (.ref p),some (.ref l),some (.int t)] H:=by
 obtain⟨dx,hp,h⟩:=q;unfold qj;walk_at"e";refine⟨p,X.K,dx,[],rfl,hp,T.cK,T.nKl,by decide,?_⟩;walk_at"e";refine⟨p,X.K,dx,_,rfl,ao,T.cK,T.nKt,by show 1<1000;decide,?_⟩;rw[eU];refine h _ ?_ λb o hb nb=>?_
 ·rw[ao,Zh6]
 ·rw[aA nb];exact hb
theorem w0{w:Int}(hw:w=0\/w=1\/w=2):words w 0=wd w:=by rcases hw with rfl | rfl | rfl<;>decide +kernel
theorem w3{w:Int}(hw:w=0\/w=1\/w=2):words w 3=(wd w++" old")++" new":=by rcases hw with rfl | rfl | rfl<;>decide +kernel
theorem w3l{w:Int}(hw:w=0\/w=1\/w=2):(wd w++" old":Str).length<=20:=by rcases hw with rfl | rfl | rfl<;>decide +kernel
theorem Mx{p lk:Addr}{dx:Addr}{w t:Int}(hw:w=0\/w=1\/w=2)(T:qU K X)(hp:H p=some (.ins X.K dx (Gn lk t)))(t0:0<=t)(t1:t<4)(q:Q (.str (words w t)) H):
  (aM (eG (cB (bO (rNe) (bO (qw λi j=>.int (Builtin.bitAnd i j)) (aY K (aj 0) "tells") (tC (.int 1))) (tC (.int 0)))) (cG (bO (G.Sv) (aj 1) (tC (.str " old"))) (aP 1)) bW)
   (aM (eG (cB (bO (rNe) (bO (qw λi j=>.int (Builtin.bitAnd i j)) (aY K (aj 0) "tells") (tC (.int 2))) (tC (.int 0)))) (cG (bO (G.Sv) (aj 1) (tC (.str " new"))) (aP 1)) bW)
   (bL (aj 1)))) ⟨n,Q,bk,ct⟩ [some (.ref p),some (.str (wd w))] H:=by
 have lw:=Zes w;have ht:t=0\/t=1\/t=2\/t=3:=by omega
 walk_at"e";refine aD hp T.cK T.nKt mV ?_;walk_at"e";rcases ht with rfl | rfl | rfl | rfl
 ·refine wO (λz=>absurd (by decide) z) (λ_=>?_);walk_at"e";refine aD hp T.cK T.nKt mV ?_;walk_at"e";refine wO (λz=>absurd (by decide) z) (λ_=>?_);walk_at"e";rw[w0 hw]at q;exact q
 ·refine wO (λ_=>?_) (λz=>absurd z (by decide));walk_at"e";refine OJ (dU (by have:(" old":Str).length=4:=rfl;omega)) ?_;walk_at"e";refine aD hp T.cK T.nKt mV ?_;walk_at"e";refine wO (λz=>absurd (by decide) z) (λ_=>?_);walk_at"e";exact q
 ·refine wO (λz=>absurd (by decide) z) (λ_=>?_);walk_at"e";refine aD hp T.cK T.nKt mV ?_;walk_at"e";refine wO (λ_=>?_) (λz=>absurd z (by decide));walk_at"e";refine OJ (dU (by have:(" new":Str).length=4:=rfl;omega)) ?_;walk_at"e";exact q
 ·refine wO (λ_=>?_) (λz=>absurd z (by decide));walk_at"e";refine OJ (dU (by have:(" old":Str).length=4:=rfl;omega)) ?_;walk_at"e";refine aD hp T.cK T.nKt mV ?_;walk_at"e";refine wO (λ_=>?_) (λz=>absurd z (by decide));walk_at"e";refine OJ (dU (by have:(" new":Str).length=4:=rfl;have:=w3l hw;omega)) ?_;walk_at"e";rw[w3 hw]at q;exact q
theorem RW{p:Addr}(T:qU K X)(q:∃lk w t,KdO X H p lk w t/\0<=t/\t<4/\∀H',bC H H'->Q (.str (words w t)) H'):
  vJ K X.E X.F X.L (jf (.str "each")) (jf (.str "first")) (jf (.str "last")) ⟨n,Q,bk,ct⟩ [some (.ref p),none] H:=by
 obtain⟨lk,w,t,⟨⟨dx,hp⟩,⟨dl,ol⟩⟩,t0,t1,h⟩:=q;have h:=h H (bC.refl _);unfold vJ;refine Kf ?_;walk_at"s";rcases ol with ⟨rfl,o⟩ | ⟨rfl,o⟩ | ⟨rfl,o⟩
 ·refine Kg ?_;walk_at"e";refine aD hp T.cK T.nKl gR ?_;walk_at"s";refine⟨lk,dl,_,rfl,o,rfl,?_⟩;walk_at"s";refine⟨lk,rfl,?_⟩;walk_at"s";exact Mx (w:=0) (by decide) T hp t0 t1 h
 ·refine yV (Kg ?_);walk_at"e";refine aD hp T.cK T.nKl gR ?_;walk_at"s";refine⟨lk,dl,_,rfl,o,rfl,?_⟩;walk_at"s";refine⟨lk,rfl,?_⟩;walk_at"s";exact Mx (w:=1) (by decide) T hp t0 t1 h
 ·refine yV (yV ?_);walk_at"e";refine aD hp T.cK T.nKl gR ?_;walk_at"s";refine⟨lk,dl,_,rfl,o,rfl,?_⟩;walk_at"s";refine⟨lk,rfl,?_⟩;walk_at"s";exact Mx (w:=2) (by decide) T hp t0 t1 h
theorem Zb5{z:Str}(T:qU K X)(q:∃w t,0<=w/\w<3/\0<=t/\t<4/\z=words w t/\∀ki lk H',bC H H'->H ki=none->H lk=none->KdO X H' ki lk w t->Q (.ref ki) H'):
  Dt K X.E X.F X.K X.L (uW X.K) (Mm X) ⟨n,Q,bk,ct⟩ [some (.str z),none,none,none] H:=by
 obtain⟨wq,tq,wq0,wq1,tq0,tq1,ez,hq⟩:=q;unfold Dt;walk_at"e";intro af df n1 m1 e1;have s1:bC H (upd (upd H df (.own af)) af (.ins X.F df [])):=λb o hb=>by rw[aA (aB hb n1),aA (aB hb m1)];exact hb
 have o1:upd (upd H df (.own af)) af (.ins X.F df []) af=some (.ins X.F df []):=ao;generalize upd (upd H df (.own af)) af (.ins X.F df [])=H1 at s1 o1 ⊢;walk_at"e";intro ae de n2 m2 e2;have s2:bC H1 (upd (upd H1 de (.own ae)) ae (.ins X.E de [])):=λb o hb=>by rw[aA (aB hb n2),aA (aB hb m2)];exact hb
 have o2:upd (upd H1 de (.own ae)) ae (.ins X.E de []) ae=some (.ins X.E de []):=ao;generalize upd (upd H1 de (.own ae)) ae (.ins X.E de [])=H2 at s2 o2 ⊢;walk_at"e";intro al dl n3 m3 e3;have s3:bC H2 (upd (upd H2 dl (.own al)) al (.ins X.L dl [])):=λb o hb=>by rw[aA (aB hb n3),aA (aB hb m3)];exact hb
 have o3:upd (upd H2 dl (.own al)) al (.ins X.L dl []) al=some (.ins X.L dl []):=ao;generalize upd (upd H2 dl (.own al)) al (.ins X.L dl [])=H3 at s3 o3 ⊢;walk_at"e";refine⟨dU (by simp),λlp hlp=>?_⟩;generalize zz:upd H3 lp _=H4;obtain⟨s4,g4⟩:=nwO hlp zz;have of4:=s4 _ _ (s3 _ _ (s2 _ _ o1));have oe4:=s4 _ _ (s3 _ _ o2);have ol4:=s4 _ _ o3;have s04:=s1.trans (s2.trans (s3.trans s4));have lko:∀{i:Nat}{x:V},([.ref af,.ref ae,.ref al]:List V)[i]? =some x->i<3/\∃lk,x=.ref lk/\H lk=none/\∃dx,((i:Int)=0/\H4 lk=some (.ins X.F dx []))\/((i:Int)=1/\H4 lk=some (.ins X.E dx []))\/((i:Int)=2/\H4 lk=some (.ins X.L dx [])):=by
  intro i x hx
  match i,hx with
  | 0,hx=>cases hx;exact⟨by omega,af,rfl,n1,df,.inl ⟨rfl,of4⟩⟩
  | 1,hx=>cases hx;exact⟨by omega,ae,rfl,s1.free n2,de,.inr (.inl ⟨rfl,oe4⟩)⟩
  | 2,hx=>cases hx;exact⟨by omega,al,rfl,(s1.trans s2).free n3,dl,.inr (.inr ⟨rfl,ol4⟩)⟩
  | k+3,hx=>cases hx
 clear s1 s2 s3 s4 of4 oe4 ol4;refine⟨lp,rfl,⟨_,cR.of g4⟩,forL [.ref af,.ref ae,.ref al] (λi σ Hx=>∃v1 v2 v3,σ=[some (.str z),v1,v2,v3]/\bC H4 Hx/\∀(w:Nat) (t:Int),w<i->0<=t->t<4->z≠words w t) ⟨_,_,_,rfl,bC.refl _,λw t hw=>absurd hw (Nat.not_lt_zero _)⟩ (λ_ _ _ _ ⟨_,_,_,_,s,_⟩=>cR.of (s _ _ g4)) ?_ ?_⟩
 ·rintro i x σ H5 hi ⟨v1,v2,v3,rfl,s5,hn⟩;obtain⟨hi3,lk,rfl,nlk,dlk,ol⟩:=lko hi;walk_at"e";refine⟨4,rfl,by omega,by omega,?_⟩;refine forR (λk σ Hx=>∃v2 v3,σ=[some (.str z),some (.ref lk),v2,v3]/\bC H4 Hx/\∀(t:Int),0<=t->t<k->z≠words i t) ⟨_,_,rfl,s5,λt h0 h1=>absurd h1 (by omega)⟩ ?_ ?_
  ·rintro k σ H6 hk ⟨v2,v3,rfl,s6,hn2⟩;have hk4:k<4:=hk;have e0:(0:Int)+(k:Int)=k:=by omega
   rw[e0];walk_at"e";intro p dx np ndx ned;refine⟨p,lk,k,rfl,dx,ao,λH7 k1 k2=>⟨rfl,?_⟩⟩;have s7:bC H6 H7:=λb o hb=>by
    refine k2 b o ?_ (aB hb np);rw[aA (aB hb np),aA (aB hb ndx)];exact hb
   have kd:KdO X H7 p lk i k:=⟨⟨dx,k1⟩,⟨dlk,by
    rcases ol with ⟨e,o⟩ | ⟨e,o⟩ | ⟨e,o⟩
    ·exact .inl ⟨e,s7 _ _ (s6 _ _ o)⟩
    ·exact .inr (.inl ⟨e,s7 _ _ (s6 _ _ o)⟩)
    ·exact .inr (.inr ⟨e,s7 _ _ (s6 _ _ o)⟩)⟩⟩
   walk_at"e";refine⟨p,dx,_,rfl,k1,Oo,?_⟩;walk_at"e";refine⟨p,rfl,lk,i,k,kd,by omega,by omega,λH8 s8=>?_⟩;walk_at"e";refine pU (λe=>?_) (λe=>?_)
   ·walk_at"e";obtain⟨rfl,rfl⟩:=Zd8 wq0 wq1 tq0 tq1 (by omega) (by omega) (by omega) (by omega) (ez.symm.trans e.symm);refine hq p lk _ (s04.trans (s6.trans (s7.trans s8))) ((s04.trans s6).free np) nlk ⟨⟨dx,s8 _ _ k1⟩,?_⟩;obtain⟨_,⟨d,od⟩⟩:=kd;refine⟨d,?_⟩;rcases od with ⟨e,o⟩ | ⟨e,o⟩ | ⟨e,o⟩
    ·exact .inl ⟨e,s8 _ _ o⟩
    ·exact .inr (.inl ⟨e,s8 _ _ o⟩)
    ·exact .inr (.inr ⟨e,s8 _ _ o⟩)
   ·walk_at"e";refine⟨_,_,rfl,s6.trans (s7.trans s8),λt t0 t1=>?_⟩
    by_cases ht:t=k
    ·rw[ht];exact λw=>e w.symm
    ·exact hn2 t t0 (by omega)
  ·rintro σ H3 ⟨v2,v3,rfl,s3,hn2⟩;refine⟨_,_,_,rfl,s3,λw t hw t0 t1=>?_⟩
   by_cases hwi:w=i
   ·rw[hwi];exact hn2 t t0 t1
   ·exact hn w t (by omega) t0 t1
 ·rintro σ H2 ⟨v1,v2,v3,rfl,s2,hn⟩
  exfalso
  have:=hn wq.toNat tq (by show wq.toNat<3;omega) tq0 tq1;have e:((wq.toNat:Nat):Int)=wq:=by omega
  rw[e]at this;exact this ez
end
structure Ex(p:Addr)(H H':Hp)(T T':Tg):Prop where
 kp:∀b o,H b=some o->b≠p->H' b=some o
 al:∀b o,H b=some o->∃o',H' b=some o'
 tg:∀b o,H b=some o->T' b=T b
 wt:WT H' T'
section
variable {p:Addr}{H H1 H2 H':Hp}{T T1 T2 T':Tg}
theorem Ex.trans(a:Ex p H H1 T T1)(b:Ex p H1 H2 T1 T2):Ex p H H2 T T2 where
 kp:=λx o h n=>b.kp x o (a.kp x o h n) n
 al:=λx o h=>by obtain⟨o1,h1⟩:=a.al x o h;exact b.al x o1 h1
 tg:=λx o h=>by obtain⟨o1,h1⟩:=a.al x o h;rw[b.tg x o1 h1,a.tg x o h]
 wt:=b.wt
theorem Zpb(w:WT H T)(al:∀b o,H b=some o->∃o',H' b=some o'):WT H' T:=λb h=>w b (by
 cases z:H b with
 | none=>rfl
 | some o=>obtain⟨o',e⟩:=al b o z;rw[h]at e;cases e)
theorem HF{a:Addr}{o:HO}{v:Nat×Nat}(w:WT H T)(h:H a=some o):WT H (fG T a v):=λb hb=>by
 rw[iW (λe=>by rw[e,h]at hb;cases hb)];exact w b hb
theorem Ex.Zeu{o o0:HO}(w:WT H T)(h:H p=some o0):Ex p H (upd H p o) T T where
 kp:=λx u hx n=>by rw[aA n];exact hx
 al:=λx u hx=>by
  by_cases e:x=p
  ·exact⟨o,by rw[e,ao]⟩
  ·exact⟨u,by rw[aA e];exact hx⟩
 tg:=λ_ _ _=>rfl
 wt:=Zpb w λx u hx=>by
  by_cases e:x=p
  ·exact⟨o,by rw[e,ao]⟩
  ·exact⟨u,by rw[aA e];exact hx⟩
theorem Ex.news{vs:List (Addr×(Nat×Nat))}(w:WT H T)(s:bC H H')(hn:∀v∈vs,H v.1=none/\∃o,H' v.1=some o):Ex p H H' T (vs.foldr (λv t=>fG t v.1 v.2) T):=by
 have tg:∀b o,H b=some o->(vs.foldr (λv t=>fG t v.1 v.2) T) b=T b:=by
  intro b o hb
  induction vs with
  | nil=>rfl
  | cons v vs ih=>
   show fG _ v.1 v.2 b=_;rw[iW (aB hb (hn v List.mem_cons_self).1)];exact ih λu hu=>hn u (List.mem_cons_of_mem _ hu)
 refine⟨λb o hb _=>s _ _ hb,λb o hb=>⟨o,s _ _ hb⟩,tg,?_⟩;clear tg
 induction vs with
 | nil=>exact w.same s
 | cons v vs ih=>
  obtain⟨o,ho⟩:=(hn v List.mem_cons_self).2;exact HF (ih λu hu=>hn u (List.mem_cons_of_mem _ hu)) ho
end
section
variable {K:aC}{X:Cs}{H:Hp}{Q:VK}{E:XK}{n:St->Hp->Prop}{bk ct:St->Hp->Prop}
theorem Hj{p ki hl0:Addr}{room:Int}(T:qU K X)(q:∃dx T s lk w t,∃ts:List Addr,∃hands,H p=some (.ins X.W dx [])/\WT H T/\s≠0/\KdO X H ki lk w t/\T ki=(0,0)/\T lk=(0,0)/\ki≠p/\lk≠p/\H hl0=some (.lst (ts.map V.ref))/\
 Al (λ(t:Addr) (m:Str×Int)=>H t=some (.tup [.str m.1,.int m.2])/\0<=m.2/\m.2<=1000) ts hands/\hands.length<=30/\
 ∀H' T' A,(∀b o,H b=some o->b≠p->H' b=some o)->(∀b o,H b=some o->b≠p->T' b=T b)->WT H' T'->A.wo=p->WJ X H' T' s A (Yp room hands w t)->Q .non H'):
  o8 K X.D X.H X.S (uZ X.D) (uX X.H) (pQ X.S) ⟨λ_ H'=>Q .non H',Q,bk,ct⟩ [some (.ref p),some (.int room),some (.ref ki),some (.ref hl0)] H:=by
 obtain⟨dx,T0,s,lk,w,t,ts,hands,hp,wt0,s0,kd,tki,tlk,nki,nlk,oh0,al,hn,hQ⟩:=q;have x0:WT H (fG T0 p (s,0)):=HF wt0 hp;have tp:fG T0 p (s,0) p=(s,0):=eX;have to0:∀b o,H b=some o->b≠p->fG T0 p (s,0) b=T0 b:=λb _ _ hb=>iW hb;generalize hT:fG T0 p (s,0)=Ta at x0 tp to0;unfold o8;walk_at"e";intro hq dh nh ndh neh;refine⟨hq,room,rfl,dh,ao,λca H1 nca a1 a2 k1=>⟨rfl,?_⟩⟩;have Znb:H ca=none:=by
  by_cases z:ca=hq
  ·rw[z,ao]at nca;cases nca
  ·rw[aA z]at nca
   by_cases y:ca=dh
   ·rw[y,ao]at nca;cases nca
   ·rw[aA y]at nca;exact nca
 have sm1:bC H H1:=λb o hb=>k1 b o (by rw[aA (aB hb nh),aA (aB hb ndh)];exact hb) (aB hb nh);have e1:Ex p H H1 Ta _:=Ex.news (vs:=[(hq,(s,1)),(ca,(s,2))]) x0 sm1 (by
  intro v hv;simp only[List.mem_cons,List.not_mem_nil,or_false]at hv;rcases hv with rfl | rfl
  ·exact⟨nh,_,a1⟩
  ·exact⟨Znb,_,a2⟩)
 have nhc:hq≠ca:=pX a1 a2 (λz=>by cases z);have th1:([(hq,(s,1)),(ca,(s,2))].foldr (λv t=>fG t v.1 v.2) Ta) hq=(s,1):=eX;have tc1:([(hq,(s,1)),(ca,(s,2))].foldr (λv t=>fG t v.1 v.2) Ta) ca=(s,2):=(iW nhc.symm).trans eX;generalize ([(hq,(s,1)),(ca,(s,2))]:List (Addr×(Nat×Nat))).foldr (λv t=>fG t v.1 v.2) Ta=Tb at e1 th1 tc1;have hp1:=sm1 _ _ hp;have nph:hq≠p:=λz=>by rw[z,hp]at nh;cases nh
 have npc:ca≠p:=λz=>by rw[z,hp]at Znb;cases Znb
 clear k1 nca;walk_at"e";refine⟨p,X.W,dx,[],rfl,hp1,T.cW,T.Xg,by decide,?_⟩;have e2:=e1.trans (Ex.Zeu (o:=.ins X.W dx (cz "heap" (.ref hq) [])) e1.wt hp1);have g2:upd H1 p (.ins X.W dx (cz "heap" (.ref hq) [])) p=some (.ins X.W dx (cz "heap" (.ref hq) [])):=ao;have a1:=(aA (o:=.ins X.W dx (cz "heap" (.ref hq) [])) nph).trans a1;have a2:=(aA (o:=.ins X.W dx (cz "heap" (.ref hq) [])) npc).trans a2;generalize upd H1 p (.ins X.W dx (cz "heap" (.ref hq) []))=H2 at e2 g2 a1 a2 ⊢;walk_at"e";refine⟨p,X.W,dx,_,rfl,g2,T.cW,T.nWk,by show 1<1000;decide,?_⟩;have e3:=e2.trans (Ex.Zeu (o:=.ins X.W dx (cz "kind" (.ref ki) (cz "heap" (.ref hq) []))) e2.wt g2);have g3:upd H2 p (.ins X.W dx (cz "kind" (.ref ki) (cz "heap" (.ref hq) []))) p=some (.ins X.W dx (cz "kind" (.ref ki) (cz "heap" (.ref hq) []))):=ao;have a1:=(aA (o:=.ins X.W dx (cz "kind" (.ref ki) (cz "heap" (.ref hq) []))) nph).trans a1;have a2:=(aA (o:=.ins X.W dx (cz "kind" (.ref ki) (cz "heap" (.ref hq) []))) npc).trans a2;generalize upd H2 p (.ins X.W dx (cz "kind" (.ref ki) (cz "heap" (.ref hq) [])))=H3 at e3 g3 a1 a2 ⊢;generalize hF3:(cz "kind" (.ref ki) (cz "heap" (.ref hq) []))=F3 at g3 ⊢;have lF3:F3.length=2:=by rw[<- hF3];rfl
 have oh3:H3 hl0=some (.lst (ts.map V.ref)):=e3.kp _ _ oh0 (λz=>by rw[z,hp]at oh0;cases oh0);have ltl:ts.length=hands.length:=al.length;have Zri:∀(i:Nat) a,ts[i]? =some a->∃m,hands[i]? =some m/\H3 a=some (.tup [.str m.1,.int m.2])/\0<=m.2/\m.2<=1000:=λi a ha=>by
  have hl:i<hands.length:=by rw[<- ltl];exact(cV ha).1
  obtain⟨a',ha',z1,z2,z3⟩:=al.get (cJ hl);rw[ha]at ha';cases ha';exact⟨_,cJ hl,e3.kp _ _ z1 (λz=>by rw[z,hp]at z1;cases z1),z2,z3⟩
 have lo:=e3.wt;walk_at"e";refine⟨_,rfl,⟨_,cR.of oh3⟩,Zcq ?_⟩;refine⟨λi m ys Hx=>i<=ts.length/\m=ts.length - i/\∃(hs:List (Addr×Addr)) (Tx:Tg),ys=hs.map (λq=>V.ref q.1)/\hs.length=i/\bC H3 Hx/\Ex p H3 Hx Tb Tx/\∀(j:Nat) q m,hs[j]? =some q->hands[j]? =some m->HdO X.D Hx Tx s j q (m.1,List.replicate m.2.toNat none)/\q.1≠p/\q.2≠p,
  ⟨ts.length,Nat.zero_le _,rfl,[],Tb,rfl,rfl,bC.refl _,⟨λ_ _ h _=>h,λ_ o h=>⟨o,h⟩,λ_ _ _=>rfl,lo⟩,λj q m e=>by simp at e⟩,?_⟩
 rintro i m ys Hx ⟨hi,rfl,hs,Tx,rfl,hl,sx,ex,hds⟩
 by_cases hk:i=ts.length
 ·refine .inl ⟨⟨_,cR.of (sx _ _ oh3),by rw[aU];omega⟩,λhla nhl=>?_⟩;have Zyv:H3 hla=none:=sx.free nhl;have s4:=aL nhl (.lst (hs.map λq=>V.ref q.1));have e4:Ex p Hx _ Tx _:=Ex.news (p:=p) (vs:=[(hla,(s,5))]) ex.wt s4 (by
   intro v hv;rw[List.mem_singleton.mp hv];exact⟨nhl,_,ao⟩)
  have t4:([(hla,(s,5))].foldr (λv t=>fG t v.1 v.2) Tx) hla=(s,5):=eX;have o4:upd Hx hla (.lst (hs.map λq=>V.ref q.1)) hla=some (.lst (hs.map λq=>V.ref q.1)):=ao;have hpx:=sx _ _ g3;have nhp:hla≠p:=λz=>by rw[z,hpx]at nhl;cases nhl
  have hp4:=s4 _ _ hpx;generalize upd Hx hla (.lst (hs.map λq=>V.ref q.1))=H4 at s4 e4 o4 hp4 ⊢;generalize ([(hla,(s,5))]:List (Addr×(Nat×Nat))).foldr (λv t=>fG t v.1 v.2) Tx=T4 at e4 t4;walk_at"e";refine⟨p,X.W,dx,_,rfl,hp4,T.cW,T.nWd,by rw[lF3];decide,?_⟩;have e5:=Ex.Zeu (p:=p) (o:=.ins X.W dx (cz "hands" (.ref hla) F3)) e4.wt hp4;have hp5:upd H4 p (.ins X.W dx (cz "hands" (.ref hla) F3)) p=some (.ins X.W dx (cz "hands" (.ref hla) F3)):=ao;generalize upd H4 p (.ins X.W dx (cz "hands" (.ref hla) F3))=H5 at e5 hp5 ⊢;walk_at"e";intro nm hnm;have nnp:nm≠p:=λz=>by rw[z,hp5]at hnm;cases hnm
  have s6:=aL hnm (.dK []);have e6:Ex p H5 _ T4 _:=Ex.news (p:=p) (vs:=[(nm,(s,6))]) e5.wt s6 (by
   intro v hv;rw[List.mem_singleton.mp hv];exact⟨hnm,_,ao⟩)
  have t6:([(nm,(s,6))].foldr (λv t=>fG t v.1 v.2) T4) nm=(s,6):=eX;have o6:upd H5 nm (.dK []) nm=some (.dK []):=ao;have hp6:=s6 _ _ hp5;generalize upd H5 nm (.dK [])=H6 at s6 e6 o6 hp6 ⊢;generalize ([(nm,(s,6))]:List (Addr×(Nat×Nat))).foldr (λv t=>fG t v.1 v.2) T4=T6 at e6 t6;walk_at"e";refine⟨p,X.W,dx,_,rfl,hp6,T.cW,T.nWn,by rw[<- hF3];show 3<1000;decide,?_⟩;have e7:=Ex.Zeu (p:=p) (o:=.ins X.W dx (cz "names" (.ref nm) (cz "hands" (.ref hla) F3))) e6.wt hp6;have hp7:upd H6 p (.ins X.W dx (cz "names" (.ref nm) (cz "hands" (.ref hla) F3))) p=some (.ins X.W dx (cz "names" (.ref nm) (cz "hands" (.ref hla) F3))):=ao;generalize upd H6 p (.ins X.W dx (cz "names" (.ref nm) (cz "hands" (.ref hla) F3)))=H7 at e7 hp7 ⊢;walk_at"e";intro sw ds nsw nds nes;refine⟨sw,rfl,ds,ao,λgr H8 ngr b1 b2 k8=>⟨rfl,?_⟩⟩;have Zn9:H7 gr=none:=by
   by_cases z:gr=sw
   ·rw[z,ao]at ngr;cases ngr
   ·rw[aA z]at ngr
    by_cases y:gr=ds
    ·rw[y,ao]at ngr;cases ngr
    ·rw[aA y]at ngr;exact ngr
  have s8:bC H7 H8:=λb o hb=>k8 b o (by rw[aA (aB hb nsw),aA (aB hb nds)];exact hb) (aB hb nsw);have e8:Ex p H7 H8 T6 _:=Ex.news (p:=p) (vs:=[(sw,(s,7)),(gr,(s,8))]) e7.wt s8 (by
   intro v hv;simp only[List.mem_cons,List.not_mem_nil,or_false]at hv;rcases hv with rfl | rfl
   ·exact⟨nsw,_,b1⟩
   ·exact⟨Zn9,_,b2⟩)
  have nsg:sw≠gr:=pX b1 b2 (λz=>by cases z);have ts8:([(sw,(s,7)),(gr,(s,8))].foldr (λv t=>fG t v.1 v.2) T6) sw=(s,7):=eX;have tg8:([(sw,(s,7)),(gr,(s,8))].foldr (λv t=>fG t v.1 v.2) T6) gr=(s,8):=(iW nsg.symm).trans eX;generalize ([(sw,(s,7)),(gr,(s,8))]:List (Addr×(Nat×Nat))).foldr (λv t=>fG t v.1 v.2) T6=T8 at e8 ts8 tg8;have hp8:=s8 _ _ hp7;have nsp:sw≠p:=λz=>by rw[z,hp7]at nsw;cases nsw
  have ngp:gr≠p:=λz=>by rw[z,hp7]at Zn9;cases Zn9
  clear k8 ngr;walk_at"e";refine⟨p,X.W,dx,_,rfl,hp8,T.cW,T.N7,by rw[<- hF3];show 4<1000;decide,?_⟩;have e9:=Ex.Zeu (p:=p) (o:=.ins X.W dx (cz "sweeper" (.ref sw) (cz "names" (.ref nm) (cz "hands" (.ref hla) F3)))) e8.wt hp8;have hp9:upd H8 p (.ins X.W dx (cz "sweeper" (.ref sw) (cz "names" (.ref nm) (cz "hands" (.ref hla) F3)))) p=some (.ins X.W dx (zp hq ki hla nm sw)):=by
   rw[ao,<- hF3,Zd7]
  generalize upd H8 p (.ins X.W dx (cz "sweeper" (.ref sw) (cz "names" (.ref nm) (cz "hands" (.ref hla) F3))))=H9 at e9 hp9 ⊢;have f89:=e9;have f69:=e7.trans (e8.trans e9);have f49:=e5.trans (e6.trans f69);have fx9:=e4.trans f49;have f39:=ex.trans fx9;have f09:=e3.trans f39;obtain⟨⟨dk,ok⟩,⟨dl,ol⟩⟩:=kd;have hlk:∃o,H lk=some o:=by
   rcases ol with ⟨_,z⟩ | ⟨_,z⟩ | ⟨_,z⟩
   ·exact⟨_,z⟩
   ·exact⟨_,z⟩
   ·exact⟨_,z⟩
  obtain⟨olk,elk⟩:=hlk;refine hQ H9 T8 ⟨p,hq,ca,ki,lk,hla,nm,sw,gr,hs,[],[]⟩ f09.kp (λb o hb nb=>(f09.tg b o hb).trans (to0 b o hb nb)) f09.wt rfl ⟨⟨(f09.tg _ _ hp).trans tp,(f09.tg _ _ ok).trans ((to0 _ _ ok nki).trans tki),(f09.tg _ _ elk).trans ((to0 _ _ elk nlk).trans tlk),(f49.tg _ _ o4).trans t4,⟨dx,hp9⟩,⟨dk,f09.kp _ _ ok nki⟩,⟨dl,?_⟩,f49.kp _ _ o4 nhp⟩,
   ⟨(f39.tg _ _ a1).trans th1,(f39.tg _ _ a2).trans tc1,⟨dh,f39.kp _ _ a1 nph⟩,f39.kp _ _ a2 npc⟩,⟨(f69.tg _ _ o6).trans t6,f69.kp _ _ o6 nnp,.nil⟩,
   ⟨(f89.tg _ _ b1).trans ts8,(f89.tg _ _ b2).trans tg8,⟨ds,f89.kp _ _ b1 nsp⟩,f89.kp _ _ b2 ngp⟩,⟨?_,by show hs.length<=30;rw[hl,hk,ltl];exact hn,?_⟩,⟨rfl,λi q c z=>by simp at z⟩⟩
  ·rcases ol with ⟨z,y⟩ | ⟨z,y⟩ | ⟨z,y⟩
   ·exact .inl ⟨z,f09.kp _ _ y nlk⟩
   ·exact .inr (.inl ⟨z,f09.kp _ _ y nlk⟩)
   ·exact .inr (.inr ⟨z,f09.kp _ _ y nlk⟩)
  ·show hs.length=(hands.map _).length;rw[aU,hl,hk,ltl]
  ·intro j q m z1 z2;have z2:(hands.map λm=>(m.1,List.replicate m.2.toNat none))[j]? =some m:=z2;rw[dB]at z2;obtain⟨m0,y1,rfl⟩:=Option.map_eq_some_iff.mp z2;obtain⟨⟨u1,u2,⟨du,u3⟩,u4⟩,v1,v2⟩:=hds j q m0 z1 y1;exact⟨(fx9.tg _ _ u3).trans u1,(fx9.tg _ _ u4).trans u2,⟨du,fx9.kp _ _ u3 v1⟩,fx9.kp _ _ u4 v2⟩
 ·have hlt:i<ts.length:=by omega
  refine .inr ⟨⟨_,_,cR.of (sx _ _ oh3),by rw[dB,cJ hlt];rfl⟩,?_,λx H' y=>?_⟩
  ·rw[aU,hl];exact Nat.lt_of_lt_of_le hlt (dU (by omega))
  obtain⟨y1,y2⟩:=y;subst y1;have ey:=y2 _ (cR.of (sx _ _ oh3));rw[dB,cJ hlt]at ey;have ey:x=.ref ts[i]:=(Option.some.inj ey).symm;subst ey;obtain⟨m,hm,ot,m0,m1⟩:=Zri i _ (cJ hlt);refine Jy (Zb8 ⟨ts[i],.str m.1,.int m.2,_,rfl,qZ.of (sx _ _ ot),?_⟩);walk_at"c";walk_at"e";intro q1 dq nq ndq neq;refine⟨q1,m.1,m.2,rfl,dq,ao,m0,m1,λsa Hy nsa b1 b2 k=>⟨rfl,?_⟩⟩;have Zn4:H' sa=none:=by
   by_cases z:sa=q1
   ·rw[z,ao]at nsa;cases nsa
   ·rw[aA z]at nsa
    by_cases y:sa=dq
    ·rw[y,ao]at nsa;cases nsa
    ·rw[aA y]at nsa;exact nsa
  have sy:bC H' Hy:=λb o hb=>k b o (by rw[aA (aB hb nq),aA (aB hb ndq)];exact hb) (aB hb nq);have ey:Ex p H' Hy Tx _:=Ex.news (p:=p) (vs:=[(q1,(s,20+2 * i)),(sa,(s,21+2 * i))]) ex.wt sy (by
   intro v hv;simp only[List.mem_cons,List.not_mem_nil,or_false]at hv;rcases hv with rfl | rfl
   ·exact⟨nq,_,b1⟩
   ·exact⟨Zn4,_,b2⟩)
  have nqs:q1≠sa:=pX b1 b2 (λz=>by cases z);have hpx:=sx _ _ g3;refine⟨ts.length - (i+1),by omega,by omega,rfl,hs++[(q1,sa)],_,by rw[List.map_append];rfl,by rw[List.length_append,hl];rfl,sx.trans sy,ex.trans ey,λj q m' z1 z2=>?_⟩
  by_cases hj:j<hs.length
  ·rw[List.getElem?_append_left hj]at z1;obtain⟨⟨u1,u2,⟨du,u3⟩,u4⟩,v1,v2⟩:=hds j q m' z1 z2;exact⟨⟨(ey.tg _ _ u3).trans u1,(ey.tg _ _ u4).trans u2,⟨du,sy _ _ u3⟩,sy _ _ u4⟩,v1,v2⟩
  ·have hj':=(cV z1).1;rw[List.length_append,List.length_singleton]at hj';have ej:j=hs.length:=by omega
   subst ej;rw[List.getElem?_append_right (Nat.le_refl _),Nat.sub_self]at z1;cases z1;rw[hl]at z2 ⊢;rw[hm]at z2;cases z2;exact⟨⟨eX,(iW nqs.symm).trans eX,⟨dq,b1⟩,by rw[b2,List.map_replicate];rfl⟩,(λz=>by rw[show q1=p from z,hpx]at nq;cases nq),(λz=>by rw[show sa=p from z,hpx]at Zn4;cases Zn4)⟩
end
theorem Zpe{w:Int}(h0:0<=w)(h1:w<3):atI [V.str "first",.str "each",.str "last"] w=some (.str (wd w)):=by
 have:w=0\/w=1\/w=2:=by omega
 rcases this with rfl | rfl | rfl<;>rfl
theorem Zph{w:Int}(h0:0<=w)(h1:w<4):atI [V.str "",.str " old",.str " new",.str " old new"] w=some (.str (tlS w)):=by
 have:w=0\/w=1\/w=2\/w=3:=by omega
 rcases this with rfl | rfl | rfl | rfl<;>rfl
theorem Zii(w:Int):(tlS w).length<=8:=by
 unfold tlS
 by_cases h:w=0
 ·rw[if_pos h];decide
 ·rw[if_neg h]
  by_cases h:w=1
  ·rw[if_pos h];decide
  ·rw[if_neg h]
   by_cases h:w=2
   ·rw[if_pos h];decide
   ·rw[if_neg h];decide
def Zq1(c f:Int):Int:=(c * f+12345) % 2147483647 * ((c * f+12345) % 2147483647) % 2147483629 / 3
def q8:Sp:=λvs H Q E=>∃c f,vs=[.int c,.int f]/\0<=f/\f<2 ^ 31/\∀z:Int,0<=z->z=Zq1 c f->Q (.int z) H
def Mq:Sp:=λvs H Q E=>∃c,vs=[.int c]/\∀w t H',0<=w->w<3->0<=t->t<4->bC H H'->Q (.str (words w t)) H'
section
variable {K:aC}{H:Hp}{Q:VK}{E:XK}{n:St->Hp->Prop}{bk ct:St->Hp->Prop}
theorem Zn{c f:Int}(q:0<=f/\f<2 ^ 31/\∀z:Int,0<=z->z=Zq1 c f->Q (.int z) H):zV ⟨n,Q,bk,ct⟩ [some (.int c),some (.int f),none] H:=by
 obtain⟨h0,h1,h⟩:=q;unfold zV;walk_at"e";refine h _ ?_ rfl;generalize (c * f+12345) % 2147483647=d;have:=Int.emod_nonneg (d * d) (show(2147483629:Int)≠0 by decide);generalize d * d % 2147483629=e at this ⊢;omega
theorem WK{c:Int}(q:∀w t H',0<=w->w<3->0<=t->t<4->bC H H'->Q (.str (words w t)) H'):xZ K q8 ⟨n,Q,bk,ct⟩ [some (.int c),none] H:=by
 unfold xZ;walk_at"e";refine⟨dU (by simp),λl1 h1=>?_⟩;generalize zz:upd H l1 _=H1;obtain⟨s1,g1⟩:=nwO h1 zz;walk_at"e";refine⟨_,_,rfl,by decide,by decide,λz hz _=>?_⟩;walk_at"e";have z0:0<=z % 3:=by omega
 have z1:z % 3<3:=by omega
 generalize z % 3=w at z0 z1 ⊢;refine dz (cR.of g1) (Zpe z0 z1) ?_;walk_at"e";refine⟨dU (by simp),λl2 h2=>?_⟩;generalize zz:upd H1 l2 _=H2;obtain⟨s2,g2⟩:=nwO h2 zz;walk_at"e";refine⟨_,_,rfl,by decide,by decide,λy hy _=>?_⟩;walk_at"e";have y0:0<=y % 4:=by omega
 have y1:y % 4<4:=by omega
 generalize y % 4=t at y0 y1 ⊢;refine dz (cR.of g2) (Zph y0 y1) ?_;walk_at"e";have a1:=Zes w;have a2:=Zii t;refine OJ (dU (by omega)) ?_;exact q w t H2 z0 z1 y0 y1 (s1.trans s2)
end
def ie(M:Wm)(i:Int)(c:Ce):Str:=if M.sw.phase="rest" then "kept" else if M.sw.phase="give" then(if c.tone=M.sw.sense then "kept" else "doomed")else if c.tone=M.sw.sense then(if i∈M.sw.grey then "grey" else "dark")else "pale"
def oX(M:Wm):List (Int×Ce):=(List.range M.cells.length).filterMap λ(i:Nat)=>((M.cells[i]?).join).map λc=>((i:Int),c)
def oU(X:Cs):Sp:=λvs H Q E=>∃wo i,vs=[.ref wo,.int i]/\∃T s A M c,WJ X H T s A M/\A.wo=wo/\0<=i/\M.cells[i.toNat]? =some (some c)/\Q (.str (ie M i c)) H
def TcO(M:Wm)(H:Hp)(p:Addr×Addr)(t:Int×Ce):Prop:=H p.1=some (.tup [.int t.1,.int t.2.birth,.int t.2.bulk,.int t.2.load,.ref p.2,.str (ie M t.1 t.2)])/\H p.2=some (.lst ((t.2.fl.map (GZ M)).map oV))
def uU(X:Cs):Sp:=λvs H Q E=>∃wo i,vs=[.ref wo,.int i]/\∃T s A M c,WJ X H T s A M/\A.wo=wo/\0<=i/\M.cells[i.toNat]? =some (some c)/\c.fl.length<=1000/\∀a l H',bC H H'->H a=none->H l=none->TcO M H' (a,l) (i,c)->Q (.ref a) H'
def WQ(X:Cs):Sp:=λvs H Q E=>∃wo,vs=[.ref wo]/\∃T s A M,WJ X H T s A M/\A.wo=wo/\M.cells.length<=1000/\(∀c,some c∈M.cells->c.fl.length<=1000)/\
 ∀(l:Addr) (ls:List Addr) H',bC H H'->H' l=some (.lst (ls.map V.ref))->ls.length=(oX M).length->(∀(j:Nat) r t,ls[j]? =some r->(oX M)[j]? =some t->∃f,TcO M H' (r,f) t/\H f=none/\H r=none)->H l=none->Q (.ref l) H'
theorem Zfu{X:Cs}{H:Hp}{T:Tg}{s:Nat}{A:Wa}{M:Wm}(j:WJ X H T s A M):XJ (A.cs.map pV)=(oX M).map (·.1):=by
 have key:∀i,i<M.cells.length->(decide ((A.cs.map pV)[i]? =some V.non)=true↔(M.cells[i]?).join=none):=λi hi=>by
  rw[decide_eq_true_iff,dB];cases hc:M.cells[i]? with
  | none=>rw[List.getElem?_eq_none_iff]at hc;omega
  | some y=>cases y with
   | none=>rw[j.jc.at0 hc];simp[pV]
   | some c=>
    obtain⟨p,hp,_⟩:=j.jc.at hc;rw[hp];simp[pV]
 unfold XJ oX;rw[aU,j.jc.lc];generalize hn:M.cells.length=n at key;clear hn
 induction n with
 | zero=>rfl
 | succ n ih=>
  rw[List.range_succ,List.filter_append,List.map_append,List.filterMap_append,List.map_append,ih λi hi=>key i (by omega)];congr 1;have k:=key n (by omega);cases hc:(M.cells[n]?).join with
  | none=>
   have:decide ((A.cs.map pV)[n]? =some V.non)=true:=k.mpr hc;simp only[List.filter_cons,this,Bool.not_true,List.filter_nil,List.filterMap_cons,hc,Option.map_none,List.filterMap_nil];rfl
  | some c=>
   have:decide ((A.cs.map pV)[n]? =some V.non)=false:=by
    cases hd:decide ((A.cs.map pV)[n]? =some V.non)with
    | false=>rfl
    | true=>rw[k.mp hd]at hc;cases hc
   simp only[List.filter_cons,this,Bool.not_false,List.filter_nil,List.filterMap_cons,hc,Option.map_some,List.filterMap_nil];rfl
theorem Zih{M:Wm}{j:Nat}{t:Int×Ce}(h:(oX M)[j]? =some t):0<=t.1/\M.cells[t.1.toNat]? =some (some t.2):=by
 have hm:=List.mem_of_getElem? h;unfold oX at hm;obtain⟨i,hi,e⟩:=List.mem_filterMap.mp hm;obtain⟨c,hc,rfl⟩:=Option.map_eq_some_iff.mp e;refine⟨by show(0:Int)<=(i:Nat);omega,?_⟩;show M.cells[((i:Nat):Int).toNat]? =some (some c);rw[Int.toNat_natCast];cases hx:M.cells[i]? with
 | none=>rw[hx]at hc;cases hc
 | some y=>rw[hx]at hc;rw[show y=some c from hc]
section
variable {K:aC}{X:Cs}{H:Hp}{Q:VK}{E:XK}{n:St->Hp->Prop}{bk ct:St->Hp->Prop}
theorem YX{i:Int}{l:List Int}:inV (.int i) (l.map V.int)=decide (i∈l):=by
 unfold inV
 induction l with
 | nil=>rfl
 | cons a l ih=>
  rw[List.map_cons,List.any_cons,ih]
  by_cases e:i=a
  ·subst e;simp[eqV]
  ·have e':¬ a=i:=λz=>e z.symm;simp[eqV,e,e']
theorem Zau{wo:Addr}{i:Int}(T:qU K X)(q:∃T s A M c,WJ X H T s A M/\A.wo=wo/\0<=i/\M.cells[i.toNat]? =some (some c)/\Q (.str (ie M i c)) H):Ds K (cL X) ⟨n,Q,bk,ct⟩ [some (.ref wo),some (.int i),none,none] H:=by
 obtain⟨Tg,s,A,M,c,j,rfl,h0,hc,q⟩:=q;obtain⟨d1,ow⟩:=j.jb.ow;obtain⟨d2,os⟩:=j.js.os;obtain⟨th,tc,⟨d3,oh⟩,oc⟩:=j.jh;obtain⟨p,hp,ce⟩:=j.jc.at hc;unfold Ds;walk_at"e";refine aD ow T.cW T.N7 aW ?_;walk_at"e";refine aD ow T.cW T.Xg bZ ?_;refine aD oh T.c.cC T.c.bJ bN ?_;walk_at"e";refine dz (cR.of oc) (fQ (v:=.ref p.1) h0 (by rw[dB,hp];rfl)) ?_;walk_at"e";refine⟨_,_,rfl,Tg,s,A,M,_,p,c,j.w0,rfl,ce,rfl,?_⟩;walk_at"e";refine aD os T.cS T.n2 je ?_;walk_at"e";unfold ie at q;refine pU (λz=>?_) (λz=>?_)
 ·rw[if_pos z]at q;walk_at"e";exact q
 ·rw[if_neg z]at q;walk_at"e";refine aD os T.cS T.n2 je ?_;walk_at"e";refine pU (λy=>?_) (λy=>?_)
  ·rw[if_pos y]at q;walk_at"e";refine pU (λx=>?_) (λx=>?_)
   ·rw[if_pos x]at q;walk_at"e";exact q
   ·rw[if_neg x]at q;walk_at"e";exact q
  ·rw[if_neg y]at q;walk_at"e";refine wO (λx=>?_) (λx=>?_)
   ·rw[if_neg x]at q;walk_at"e";exact q
   ·rw[if_pos x]at q;walk_at"e";refine aD os T.cS T.n3 kh ?_;refine⟨_,_,rfl,.inl (cR.of j.js.og),rfl,?_,?_⟩
    ·rw[List.all_map,List.all_eq_true];intro a _;rfl
    rw[if_neg (by decide),YX];walk_at"e";refine pU (λy=>?_) (λy=>?_)
    ·rw[if_pos y]at q;walk_at"e";exact q
    ·rw[if_neg y]at q;walk_at"e";exact q
theorem TX{wo:Addr}{i:Int}(T:qU K X)(q:∃T s A M c,WJ X H T s A M/\A.wo=wo/\0<=i/\M.cells[i.toNat]? =some (some c)/\c.fl.length<=1000/\∀a l H',bC H H'->H a=none->H l=none->TcO M H' (a,l) (i,c)->Q (.ref a) H'):
  xR K (mY X) (oU X) ⟨n,Q,bk,ct⟩ [some (.ref wo),some (.int i),none,none] H:=by
 obtain⟨Tg,s,A,M,c,j,rfl,h0,hc,hl,q⟩:=q;obtain⟨d1,ow⟩:=j.jb.ow;obtain⟨th,tc,⟨d3,oh⟩,oc⟩:=j.jh;obtain⟨p,hp,ce⟩:=j.jc.at hc;obtain⟨t1,t2,⟨dx,o1⟩,o2⟩:=id ce;unfold xR;walk_at"e";refine aD ow T.cW T.Xg bZ ?_;refine aD oh T.c.cC T.c.bJ bN ?_;walk_at"e";refine dz (cR.of oc) (fQ (v:=.ref p.1) h0 (by rw[dB,hp];rfl)) ?_;walk_at"e";refine aD ow T.cW T.Xg bZ ?_;walk_at"e";refine aD o1 T.c.d9 T.c.fW oE ?_;walk_at"e";refine⟨_,_,rfl,Tg,s,A,M,c.fl,j,rfl,o2,hl,λl nl=>?_⟩;generalize zz:upd H l _=H1;obtain⟨s1,g1⟩:=nwO nl zz;walk_at"e";refine aD (s1 _ _ o1) T.c.d9 T.c.d7 iT ?_;walk_at"e";refine aD (s1 _ _ o1) T.c.d9 T.c.lC Dd ?_;walk_at"e";refine aD (s1 _ _ o1) T.c.d9 T.c.mR RK ?_;walk_at"e";refine⟨_,_,rfl,Tg,s,A,M,c,j.same s1,rfl,h0,hc,?_⟩;walk_at"e";refine⟨dU (by simp),λa na=>?_⟩;have s2:=aL na (.tup [.int i,.int c.birth,.int c.bulk,.int c.load,.ref l,.str (ie M i c)]);exact q a l _ (s1.trans s2) (s1.free na) nl ⟨ao,s2 _ _ g1⟩
theorem Pu{wo:Addr}(T:qU K X)(q:∃T s A M,WJ X H T s A M/\A.wo=wo/\M.cells.length<=1000/\(∀c,some c∈M.cells->c.fl.length<=1000)/\
 ∀(l:Addr) (ls:List Addr) H',bC H H'->H' l=some (.lst (ls.map V.ref))->ls.length=(oX M).length->(∀(j:Nat) r t,ls[j]? =some r->(oX M)[j]? =some t->∃f,TcO M H' (r,f) t/\H f=none/\H r=none)->H l=none->Q (.ref l) H'):
  vm K X.H (lM X.H) (uU X) ⟨n,Q,bk,ct⟩ [some (.ref wo)] H:=by
 obtain⟨Tg,s,A,M,j,rfl,hc,hf,q⟩:=q;obtain⟨d1,ow⟩:=j.jb.ow;obtain⟨th,tc,⟨d3,oh⟩,oc⟩:=j.jh;have hl:(oX M).length<=1000:=by
  have:=List.length_filterMap_le (λ(i:Nat)=>((M.cells[i]?).join).map λc=>((i:Int),c)) (List.range M.cells.length);rw[List.length_range]at this;exact Nat.le_trans this hc
 unfold vm;walk_at"e";refine Av ?_;walk_at"e";refine aD ow T.cW T.Xg bZ ?_;refine⟨A.hp,d3,_,rfl,oh,Az,?_⟩;walk_at"e";refine⟨_,rfl,_,_,_,_,_,j.hpO,by rw[aU,j.jc.lc];exact hc,λl0 nl0=>?_⟩;rw[Zfu j];generalize zz:upd H l0 _=H1;obtain⟨s1,g1⟩:=nwO nl0 zz;refine⟨_,rfl,⟨_,cR.of g1⟩,?_⟩;refine Yx (cR.of g1) (by rw[aU,aU];omega) (λi r Hx=>∃t f,(oX M)[i]? =some t/\TcO M Hx (r,f) t/\H f=none) (λ_ _ _ _ ⟨t,f,e,⟨z1,z2⟩,z3⟩ s=>⟨t,f,e,⟨s _ _ z1,s _ _ z2⟩,z3⟩) (λ_ _ _ ⟨_,_,_,⟨z,_⟩,_⟩=>⟨_,z⟩) (λx H1 q hq=>Jy hq) (λi x H2 hi s2 q' hq=>?_) ?_
 ·rw[dB,dB]at hi;cases ht:(oX M)[i]? with
  | none=>rw[ht]at hi;cases hi
  | some t=>
   rw[ht]at hi;cases hi;obtain⟨t0,tc'⟩:=Zih ht;walk_at"c";walk_at"e";refine⟨_,_,rfl,Tg,s,A,M,t.2,j.same (s1.trans s2),rfl,t0,tc',hf _ (List.mem_of_getElem? tc'),λa l H3 s3 na nl tco=>?_⟩;exact hq a H3 s3 na ⟨t,l,ht,tco,(s1.trans s2).free nl⟩
 ·intro rs H' s2 hl2 _ nn hr p hp;have s3:=aL hp (.lst (rs.map V.ref));refine q p rs _ (s1.trans (s2.trans s3)) ao (by rw[hl2,aU,aU]) (λk r t e1 e2=>?_) (s1.free (s2.free hp));obtain⟨t',f,e3,⟨z1,z2⟩,z3⟩:=hr k r e1;rw[e2]at e3;cases e3;exact⟨f,⟨s3 _ _ z1,s3 _ _ z2⟩,z3,s1.free (nn r (List.mem_of_getElem? e1))⟩
end
section
variable {K:aC}{X:Cs}{H:Hp}{Q:VK}{E:XK}{T:Tg}{s:Nat}{A:Wa}{M:Wm}
theorem WJ.okN(Tx:qU K X)(j:WJ X H T s A M):OkN K H (A.cs.map pV):=by
 intro y hy;obtain⟨o,ho,rfl⟩:=List.mem_map.mp hy;cases o with
 | none=>exact .inl rfl
 | some g=>
  obtain⟨i,hi,ei⟩:=List.getElem_of_mem ho;have e:=j.jc.ce i _ _ (cJ hi) (cJ (by rw[<- j.jc.lc];exact hi));rw[ei]at e;cases hcc:M.cells[i]'(by rw[<- j.jc.lc];exact hi)with
  | none=>rw[hcc]at e;exact e.elim
  | some c=>
   rw[hcc]at e;obtain⟨_,_,⟨dx,o1⟩,_⟩:=(show CeO X.C H T s i g c from e);exact .inr ⟨g.1,X.C,dx,_,rfl,o1,Tx.c.d9,Tx.c.Mj⟩
theorem Zec{CF:Addr}{many bulk tone:Int}(Tx:qU K X)(j:WJ X H T s A M)(w:WT H T)(h0:s≠0)(hc:M.cells.length<=900)(m0:0<=many)(m1:many<=1000)(fit:M.used+(1+many+bulk)<=M.room)
  (k:∀H' T' A',fj s H H' T T'->WJ X H' T' s A' { M with used:=M.used+(1+many+bulk),born:=M.born+1,cells:=lY M.cells ⟨M.born+1,bulk,tone,0,List.replicate many.toNat none⟩ }->A'.wo=A.wo->Q (.int (dX M.cells:Nat)) H'):
  rA K X.C X.H CF [.ref A.hp,.int many,.int bulk,.int tone] H Q E:=by
 obtain⟨th,tc,⟨d3,oh⟩,oc⟩:=j.jh;have hcs:A.cs.length<=900:=by rw[j.jc.lc];exact hc
 refine⟨_,_,_,_,rfl,A.ca,d3,_,_,_,_,oh,oc,j.okN Tx,by rw[aU];omega,m0,m1,λhf H' sm=>absurd hf (by omega),λhf pc fa H1 npc nfa fm a1 a2 co=>?_⟩;obtain⟨⟨dp,c1⟩,c2⟩:=co;have npf:pc≠fa:=pX c1 c2 (λz=>by cases z);obtain⟨T1,st1,j1⟩:=j.put w h0 (H':=H1) (dx:=d3) (used':=M.used+(1+many+bulk)) (p:=pc) (fa:=fa) (c:=⟨M.born+1,bulk,tone,0,List.replicate many.toNat none⟩)
  (λb o hb n1 n2=>fm b o hb (by simp[n1,n2])) a1 a2 npc nfa npf ⟨dp,c1⟩ (by rw[c2,List.map_replicate];rfl)
 have ei:((A.cs.map pV).idxOf V.non:Int)=(dX M.cells:Nat):=by rw[(Y7 Zg2 A.cs).1,j.jc.fst]
 rw[ei];exact k H1 T1 _ st1 j1 rfl
theorem Tj{i:Nat}{c:Ce}(j:WJ X H T s A M)(w:WT H T)(h0:s≠0)(hc:M.cells[i]? =some (some c))
  (k:∀H' A',fj s H H' T T->WJ X H' T s A' { M with used:=M.used - (1+c.fl.length+c.bulk),cells:=M.cells.set i none }->A'.wo=A.wo/\A'.sw=A.sw->Q (.int c.birth) H'):
  lE X.C X.H [.ref A.hp,.int i] H Q E:=by
 obtain⟨th,tc,⟨dh,oh⟩,oc⟩:=j.jh;obtain⟨pc,hpc,ce⟩:=j.jc.at hc;obtain⟨_,_,⟨dc,o1⟩,ofl⟩:=id ce;have hl:=(cV hc).1;refine⟨A.hp,i,rfl,A.ca,dh,M.room,M.used,M.born,A.cs.map pV,pc.1,pc.2,c.birth,c.bulk,c.tone,c.load,c.fl.map oV,by omega,oh,oc,by rw[Int.toNat_natCast,dB,hpc];rfl,⟨⟨dc,o1⟩,ofl⟩,?_⟩;rw[Int.toNat_natCast,aU];have nhc:A.hp≠A.ca:=pX oh oc (λz=>by cases z);obtain⟨st5,j5⟩:=j.back w h0 (i:=i) (used':=M.used - (1+c.fl.length+c.bulk)) (by rw[j.jc.lc];exact hl) (upd (upd H A.hp (.ins X.H dh (jD M.room A.ca (M.used - (1+c.fl.length+c.bulk)) M.born))) A.ca (.lst ((A.cs.map pV).set i V.non)))
  (λb o hb n1 n2=>by rw[aA n2,aA n1];exact hb) (by rw[aA nhc];exact ao) ao
 exact k _ _ st5 j5 ⟨rfl,rfl⟩
end
def heldOf(M:Wm):List (List (Option Int)):=M.hands.map (·.2)
def WW(X:Cs):Sp:=λvs H Q E=>∃wo,vs=[.ref wo]/\∃T s A M,WJ X H T s A M/\A.wo=wo/\M.hands.length<=1000/\∀(l:Addr) (ls:List Addr) H',bC H H'->H l=none->H' l=some (.lst (ls.map V.ref))->ls.length=(heldOf M).length->ls.Nodup->(∀r∈ls,H r=none)->l∉ls->(∀(j:Nat) r x,ls[j]? =some r->(heldOf M)[j]? =some x->H' r=some (.lst (x.map oV)))->Q (.ref l) H'
section
variable {K:aC}{X:Cs}{H:Hp}{Q:VK}{E:XK}{n:St->Hp->Prop}{bk ct:St->Hp->Prop}
theorem Zky{wo:Addr}(T:qU K X)(q:∃T s A M,WJ X H T s A M/\A.wo=wo/\M.hands.length<=1000/\∀(l:Addr) (ls:List Addr) H',bC H H'->H l=none->H' l=some (.lst (ls.map V.ref))->ls.length=(heldOf M).length->ls.Nodup->(∀r∈ls,H r=none)->l∉ls->(∀(j:Nat) r x,ls[j]? =some r->(heldOf M)[j]? =some x->H' r=some (.lst (x.map oV)))->Q (.ref l) H'):
  U0 K ⟨n,Q,bk,ct⟩ [some (.ref wo)] H:=by
 obtain⟨Tg,s,A,M,j,rfl,hl,q⟩:=q;obtain⟨dx,ow⟩:=j.jb.ow;unfold U0;walk_at"e";refine Av ?_;walk_at"e";refine aD ow T.cW T.nWd eO ?_;have l5:=j.jd.l5;refine⟨_,rfl,⟨_,cR.of j.jb.on⟩,?_⟩;refine Yx (cR.of j.jb.on) (by rw[aU];omega) (λi r Hx=>∃x,(heldOf M)[i]? =some x/\Hx r=some (.lst (x.map oV))) (λ_ _ _ _ ⟨x,e,z⟩ s=>⟨x,e,s _ _ z⟩) (λ_ _ _ ⟨_,_,z⟩=>⟨_,z⟩) (λx H1 q hq=>Jy hq) (λi x H1 hi s1 q' hq=>?_) ?_
 ·rw[dB]at hi;obtain⟨p,hp,rfl⟩:=Option.map_eq_some_iff.mp hi;have j1:=j.same s1;obtain⟨m,hm,hd⟩:=j1.hand hp;obtain⟨dx,o1⟩:=hd.o1;walk_at"c";walk_at"e";refine aD o1 T.cD T.nDs pL ?_;walk_at"e";refine Zcu (cR.of hd.o2) λl hl=>?_;exact hq l _ (aL hl _) hl ⟨_,by unfold heldOf;rw[dB,hm];rfl,ao⟩
 ·intro rs H' s1 hl nd nn hr p hp;have s2:=aL hp (.lst (rs.map V.ref));refine q p rs _ (s1.trans s2) (s1.free hp) ao ?_ nd nn (λz=>?_) λj' r x e1 e2=>?_
  ·rw[hl,aU];unfold heldOf;rw[aU,j.jd.lh]
  ·obtain⟨k,hk,e⟩:=List.getElem_of_mem z;obtain⟨_,_,e4⟩:=hr k p (by rw[cJ hk,e]);rw[hp]at e4;cases e4
  ·obtain⟨y,e3,z⟩:=hr j' r e1;rw[e2]at e3;cases e3;exact s2 _ _ z
end
def Sm(H:Hp):Nat->V->V->Prop
 | 0,x,y=>x=y/\uh x=true
 | d+1,x,y=>(x=y/\uh x=true)\/∃a b xs ys,x=.ref a/\y=.ref b/\((H a=some (.lst xs)/\H b=some (.lst ys))\/(H a=some (.tup xs)/\H b=some (.tup ys)))/\xs.length<=1000000/\G.Al (Sm H d) xs ys
def fM(d:Nat):Sp:=λvs H Q E=>∃x y,vs=[x,y]/\Sm H d x y/\Q (.bl true) H
def WR:Sp:=λvs H Q E=>∃x y:V,vs=[x,y]/\False
section
variable {K:aC}{H:Hp}{Q:VK}{n:St->Hp->Prop}{bk ct:St->Hp->Prop}
theorem Ss{sp:Sp}{x:V}(hf:uh x=true)(q:Q (.bl true) H):jG K sp ⟨n,Q,bk,ct⟩ [some x,some x,none] H:=by
 unfold jG;cases x with
 | non=>
  walk_at"e";exact q
 | bl b=>
  walk_at"e";cases b with
  | true=>
   refine Aw ?_;walk_at"e";exact q
  | false=>
   refine oM ?_;walk_at"e";refine Aw ?_;walk_at"e";exact q
 | int i=>
  walk_at"e";refine oM ?_;walk_at"e";refine oM ?_;walk_at"e";rw[decide_eq_true rfl];exact q
 | str z=>
  walk_at"e";refine oM ?_;walk_at"e";refine oM ?_;walk_at"e";rw[decide_eq_true rfl];exact q
 | _=>exact absurd (show false=true from hf) Bool.false_ne_true
theorem Zfb{sp:Sp}{a b:Addr}{xs ys:List V}(hl:xs.length=ys.length)(Zyo:xs.length<=1000000)(hab:(H a=some (.lst xs)/\H b=some (.lst ys))\/(H a=some (.tup xs)/\H b=some (.tup ys)))
  (hs:∀(i:Nat) (x y:V),xs[i]? =some x->ys[i]? =some y->∀Q' E',Q' (.bl true) H->sp [x,y] H Q' E') (q:Q (.bl true) H):jG K sp ⟨n,Q,bk,ct⟩ [some (.ref a),some (.ref b),none] H:=by
 unfold jG;walk_at"e";refine oM ?_;walk_at"e";refine oM ?_;walk_at"e";have lp:∀(T:TE),True:=λ_=>trivial;rcases hab with ⟨ha,hb⟩ | ⟨ha,hb⟩
 ·refine Zbg hb ?_;walk_at"e";refine Zbf hb ?_;walk_at"e";refine Kh hb ?_;walk_at"e";refine Kh ha ?_;walk_at"e";refine V4 hb ?_;walk_at"e";refine iI (cR.of ha) ?_;walk_at"e";refine iI (cR.of hb) ?_;walk_at"e";rw[hl];refine wO (λz=>absurd rfl z) (λ_=>?_);walk_at"e";refine iI (cR.of hb) ?_;walk_at"e";refine⟨_,rfl,by omega,by omega,?_⟩;refine forR (λ_ σ Hx=>∃v,σ=[some (.ref a),some (.ref b),v]/\Hx=H) ⟨_,rfl,rfl⟩ ?_ ?_
  ·rintro i σ Hx hi ⟨v,rfl,rfl⟩;have e0:(0:Int)+(i:Int)=i:=by omega
   rw[e0];have hy:i<ys.length:=by omega
   have hx:i<xs.length:=by omega
   walk_at"e";refine .inl (dz (cR.of ha) (dj (cJ hx)) ?_);walk_at"e";refine .inl (dz (cR.of hb) (dj (cJ hy)) ?_);walk_at"e";refine hs i _ _ (cJ hx) (cJ hy) _ _ ?_;walk_at"e";exact⟨_,rfl,rfl⟩
  ·rintro σ Hx ⟨v,rfl,rfl⟩;walk_at"e";exact q
 ·refine Zbc hb ?_;walk_at"e";refine Zbb hb ?_;walk_at"e";refine YZ hb ?_;walk_at"e";refine Gx hb ?_;walk_at"e";refine Gx ha ?_;walk_at"e";refine⟨a,xs,rfl,.inr (qZ.of ha),?_⟩;walk_at"e";refine⟨b,ys,rfl,.inr (qZ.of hb),?_⟩;walk_at"e";rw[hl];refine wO (λz=>absurd rfl z) (λ_=>?_);walk_at"e";refine⟨b,ys,rfl,.inr (qZ.of hb),?_⟩;walk_at"e";refine⟨_,rfl,by omega,by omega,?_⟩;refine forR (λ_ σ Hx=>∃v,σ=[some (.ref a),some (.ref b),v]/\Hx=H) ⟨_,rfl,rfl⟩ ?_ ?_
  ·rintro i σ Hx hi ⟨v,rfl,rfl⟩;have e0:(0:Int)+(i:Int)=i:=by omega
   rw[e0];have hy:i<ys.length:=by omega
   have hx:i<xs.length:=by omega
   walk_at"e";refine .inr (.inl ⟨a,xs,i,_,rfl,rfl,qZ.of ha,dj (cJ hx),?_⟩);walk_at"e";refine .inr (.inl ⟨b,ys,i,_,rfl,rfl,qZ.of hb,dj (cJ hy),?_⟩);walk_at"e";refine hs i _ _ (cJ hx) (cJ hy) _ _ ?_;walk_at"e";exact⟨_,rfl,rfl⟩
  ·rintro σ Hx ⟨v,rfl,rfl⟩;walk_at"e";exact q
theorem RL{x y:V}(q:Sm H 0 x y/\Q (.bl true) H):jG K WR ⟨n,Q,bk,ct⟩ [some x,some y,none] H:=by
 obtain⟨⟨rfl,hf⟩,q⟩:=q;exact Ss hf q
theorem Wy{d:Nat}{x y:V}(q:Sm H (d+1) x y/\Q (.bl true) H):jG K (fM d) ⟨n,Q,bk,ct⟩ [some x,some y,none] H:=by
 obtain⟨h | ⟨a,b,xs,ys,rfl,rfl,hab,hz,al⟩,q⟩:=q
 ·obtain⟨rfl,hf⟩:=h;exact Ss hf q
 ·refine Zfb al.length hz hab (λi x y e1 e2 Q' E' hq=>?_) q;obtain⟨x',e3,hs⟩:=al.get e2;rw[e1]at e3;cases e3;exact⟨x,y,rfl,hs,hq⟩
end
structure Rw(H:Hp)(T:Tg)(lr:Addr)(rs:List Addr)(rows:List (List (Option Int))):Prop where
 tl:T lr=(2,0)
 ol:H lr=some (.lst (rs.map V.ref))
 ln:rs.length=rows.length
 at_:∀(j:Nat) r x,rs[j]? =some r->rows[j]? =some x->T r=(2,1+j)/\H r=some (.lst (x.map oV))
section
variable {H H':Hp}{T T':Tg}{lr:Addr}{rs:List Addr}{rows:List (List (Option Int))}
end
theorem Zl9(x:Option Int):uh (oV x)=true:=by cases x<;>rfl
theorem jF{H:Hp}{d:Nat}{x:V}(h:uh x=true):Sm H d x x:=by
 cases d with
 | zero=>exact⟨rfl,h⟩
 | succ d=>exact .inl ⟨rfl,h⟩
theorem Ep{H:Hp}{d:Nat}:∀{xs:List V},xs.all uh=true->Al (Sm H d) xs xs
 | [],_=>.nil
 | x::xs,h=>by
  rw[List.all_cons,Bool.and_eq_true]at h;exact .cons (jF h.1) (Ep h.2)
theorem Zmc{α β:Type}{P:α->β->Prop}:∀{xs:List α}{ys:List β},xs.length=ys.length->(∀(i:Nat) x y,xs[i]? =some x->ys[i]? =some y->P x y)->Al P xs ys
 | [],[],_,_=>.nil
 | [],_::_,h,_=>by simp at h
 | _::_,[],h,_=>by simp at h
 | x::xs,y::ys,h,p=>.cons (p 0 x y rfl rfl) (Zmc (by simpa using h) λi a b h1 h2=>p (i+1) a b (by simpa using h1) (by simpa using h2))
theorem Zpn{H:Hp}{a b:Addr}{e:Ev}(h1:EvO H a e)(h2:EvO H b e)(hl:e.notes.length<=1000):Sm H 3 (.ref a) (.ref b):=by
 obtain⟨l1,a1,a2⟩:=h1;obtain⟨l2,b1,b2⟩:=h2;refine .inr ⟨a,b,_,_,rfl,rfl,.inr ⟨a1,b1⟩,by simp,.cons (jF rfl) (.cons (jF (Zl9 _)) (.cons (.inr ⟨l1,l2,_,_,rfl,rfl,.inl ⟨a2,b2⟩,by rw[aU];omega,Ep (JB _)⟩) .nil))⟩
def bM(w:Int)(h:Nat):Int:=if w=0 then 2 ^ h - 1 else 0
def gW(M:Wm):Wm:={ M with sw:={ M.sw with sense:=1 - M.sw.sense,phase:="walk",grey:=[],looked:=bM M.w M.hands.length,turn:=M.sw.turn+1,walks:=0,looks:=0,passes:=0 } }
def uw:Sp:=λvs H Q E=>∃h,vs=[.int h]/\0<=h/\h<=30/\Q (.int (2 ^ h.toNat - 1)) H
def mZ(k:Nat):Sp:=λvs H Q E=>∃a h,vs=[.ref a,.int h]/\0<=h/\h<=30/\Q (.int (if k=0 then 2 ^ h.toNat - 1 else 0)) H
def yN(X:Cs):Sp:=λvs H Q E=>∃wo,vs=[.ref wo]/\∃T s A M,WT H T/\s≠0/\WJ X H T s A M/\A.wo=wo/\∀H' T' A',fj s H H' T T'->WJ X H' T' s A' (gW M)->A'.wo=wo/\A'.sw=A.sw->Q .non H'
section
variable {X:Cs}{H H':Hp}{T T':Tg}{s:Nat}{A:Wa}{M:Wm}
theorem WJ.Zk7(j:WJ X H T s A M)(w:WT H T)(h0:s≠0){dx l:Addr}(S:Sw)(hl:H l=none)(e9:S.grey=[]):
  fj s H (upd (upd H l (.lst [])) A.sw (.ins X.S dx (cg S.sense S.phase l S.looked S.turn S.at' S.stop S.walks S.looks S.passes S.loss))) T (fG T l (s,8))/\
  WJ X (upd (upd H l (.lst [])) A.sw (.ins X.S dx (cg S.sense S.phase l S.looked S.turn S.at' S.stop S.walks S.looks S.passes S.loss))) (fG T l (s,8)) s { A with gr:=l } { M with sw:=S }:=by
 obtain⟨ts,tg,⟨dd,os⟩,og⟩:=id j.js;have nls:l≠A.sw:=(aB os hl).symm;have w1:WT (upd H l (.lst [])) (fG T l (s,8)):=HF (w.same (aL hl _)) ao;have st1:fj s H (upd H l (.lst [])) T (fG T l (s,8)):=⟨λb o h _=>(aL hl _) _ _ h,λb o h=>⟨o,(aL hl _) _ _ h⟩,λb o h=>iW (aB h hl),w1⟩;have j1:WJ X (upd H l (.lst [])) (fG T l (s,8)) s A M:=j.fresh hl;obtain⟨ts1,tg1,⟨dd1,os1⟩,og1⟩:=id j1.js;refine⟨st1.trans (fj.upd w1 os1 (by rw[ts1])),?_⟩;have f:yR s (·=7) (upd H l (.lst [])) (upd (upd H l (.lst [])) A.sw (.ins X.S dx (cg S.sense S.phase l S.looked S.turn S.at' S.stop S.walks S.looks S.passes S.loss))) (fG T l (s,8)) (fG T l (s,8)):=yR.Jb ts1;have b1:=j1.jb.mv f (uo h0 ts1) (by omega) (by omega);have b2:=j1.jh.mv f (by omega) (by omega);have b3:=j1.jn.mv f (uo h0 ts1) (by omega);have b5:=j1.jd.mv f λ_ _ _=>by omega
 have b6:=j1.jc.mv f λ_ _=>by omega
 obtain⟨x1,x2,x3,x4,x5,x6,x7,x8⟩:=b1;obtain⟨y1,y2,y3,y4⟩:=b2;obtain⟨z1,z2,z3⟩:=b3;exact⟨⟨x1,x2,x3,x4,x5,x6,x7,x8⟩,⟨y1,y2,y3,y4⟩,⟨z1,z2,z3⟩,⟨ts1,eX,⟨dx,ao⟩,by rw[aA nls,ao,e9];rfl⟩,b5,b6⟩
end
section
variable {K:aC}{X:Cs}{H:Hp}{Q:VK}{E:XK}{n:St->Hp->Prop}{bk ct:St->Hp->Prop}
theorem Zmb{j:Int}(h0:0<=j)(h1:j<=1000):Zc8 1 j:=⟨h0,by omega,by decide⟩
theorem Zem{h:Int}(q:0<=h/\h<=30/\Q (.int (2 ^ h.toNat - 1)) H):Ik ⟨n,Q,bk,ct⟩ [some (.int h)] H:=by
 obtain⟨h0,h1,q⟩:=q;unfold Ik;walk_at"e";refine⟨_,_,rfl,rfl,Zmb h0 (by omega),?_⟩;walk_at"e";rw[Int.one_mul];exact q
theorem Cr{a:Addr}{h:Int}(q:0<=h/\h<=30/\Q (.int (if (1:Nat)=0 then 2 ^ h.toNat - 1 else 0)) H):nG ⟨n,Q,bk,ct⟩ [some (.ref a),some (.int h)] H:=by
 unfold nG;walk_at"e";exact q.2.2
theorem HB{a:Addr}{h:Int}(q:0<=h/\h<=30/\Q (.int (if (0:Nat)=0 then 2 ^ h.toNat - 1 else 0)) H):pq uw ⟨n,Q,bk,ct⟩ [some (.ref a),some (.int h)] H:=by
 obtain⟨h0,h1,q⟩:=q;unfold pq;walk_at"e";exact⟨h,rfl,h0,h1,q⟩
theorem Zia{wo:Addr}(Tx:qU K X)(q:∃T s A M,WT H T/\s≠0/\WJ X H T s A M/\A.wo=wo/\∀H' T' A',fj s H H' T T'->WJ X H' T' s A' (gW M)->A'.wo=wo/\A'.sw=A.sw->Q .non H'):
  Nq K X.E X.F X.L (mZ 0) (mZ 1) ⟨λ_ H'=>Q .non H',Q,bk,ct⟩ [some (.ref wo),none] H:=by
 obtain⟨T,s,A,M,w,h0,j,rfl,q⟩:=q;obtain⟨dw,ow⟩:=j.jb.ow;obtain⟨ds,os⟩:=j.js.os;obtain⟨dk,ok⟩:=j.jb.ok;obtain⟨dl,ol⟩:=j.jb.ol;have on:=j.jb.on;have lh:=j.jd.lh;have l5:=j.jd.l5;unfold Nq;walk_at"e";refine aD ow Tx.cW Tx.N7 aW ?_;walk_at"e";refine aD os Tx.cS Tx.n1 lW ?_;walk_at"e";refine⟨A.sw,X.S,ds,_,rfl,os,Tx.cS,Tx.n1,by show 11<1000;decide,?_⟩;rw[HH];walk_at"e";refine aD ao Tx.cS Tx.n5 oZ ?_;walk_at"e";refine⟨A.sw,X.S,ds,_,rfl,ao,Tx.cS,Tx.n5,by show 11<1000;decide,?_⟩;rw[Kv,eU];walk_at"e";refine⟨A.sw,X.S,ds,_,rfl,ao,Tx.cS,Tx.n2,by show 11<1000;decide,?_⟩;rw[m6,eU];walk_at"e";refine⟨by decide,λgr hgr=>?_⟩;have nsg:A.sw≠gr:=aB ao hgr;have Zhj:H gr=none:=by rw[aA nsg.symm]at hgr;exact hgr
 walk_at"e";refine⟨A.sw,X.S,ds,_,rfl,by rw[aA nsg];exact ao,Tx.cS,Tx.n3,by show 11<1000;decide,?_⟩;rw[Kz];have sw2:∀(a b:HO) (o:HO),upd (upd (upd H A.sw a) gr o) A.sw b=upd (upd H gr o) A.sw b:=λa b o=>by
  funext x
  by_cases z:x=A.sw
  ·rw[z,ao,ao]
  ·rw[aA z,aA z]
   by_cases y:x=gr
   ·rw[y,ao,ao]
   ·rw[aA y,aA y,aA z]
 rw[sw2];have fin:∀{lo:Int}{σ:St},σ=[some (.ref A.wo),some (.ref A.sw)]->lo=bM M.w M.hands.length->∀(H3:Hp),H3=upd (upd H gr (.lst [])) A.sw (.ins X.S ds (cg (1 - M.sw.sense) "walk" gr M.sw.looked (M.sw.turn+1) M.sw.at' M.sw.stop M.sw.walks M.sw.looks M.sw.passes M.sw.loss))->
   (∃a C dx fs,V.ref A.sw=.ref a/\H3 a=some (.ins C dx fs)/\De K C/\bD K C "looked"/\fs.length<1000/\(aM (gH K (aj 1) (tC (.int 0)) "walks") (aM (gH K (aj 1) (tC (.int 0)) "looks") (gH K (aj 1) (tC (.int 0)) "passes"))) ⟨λ_ H'=>Q .non H',Q,bk,ct⟩ σ (upd H3 a (.ins C dx (cz "looked" (.int lo) fs)))):=by
  rintro lo σ rfl elo H3 rfl;refine⟨A.sw,X.S,ds,_,rfl,ao,Tx.cS,Tx.n4,by show 11<1000;decide,?_⟩;rw[uG,eU];walk_at"e";refine⟨A.sw,X.S,ds,_,rfl,ao,Tx.cS,Tx.n8,by show 11<1000;decide,?_⟩;rw[wG,eU];walk_at"e";refine⟨A.sw,X.S,ds,_,rfl,ao,Tx.cS,Tx.n9,by show 11<1000;decide,?_⟩;rw[pY,eU];walk_at"e";refine⟨A.sw,X.S,ds,_,rfl,ao,Tx.cS,Tx.n10,by show 11<1000;decide,?_⟩;rw[uF,eU];obtain⟨st,j'⟩:=j.Zk7 w h0 (dx:=ds) (l:=gr) { M.sw with sense:=1 - M.sw.sense,phase:="walk",grey:=[],looked:=bM M.w M.hands.length,turn:=M.sw.turn+1,walks:=0,looks:=0,passes:=0 } Zhj rfl;subst elo;exact q _ _ _ st j' ⟨rfl,rfl⟩
 have kp:∀b o,H b=some o->b≠A.sw->upd (upd H gr (.lst [])) A.sw (.ins X.S ds (cg (1 - M.sw.sense) "walk" gr M.sw.looked (M.sw.turn+1) M.sw.at' M.sw.stop M.sw.walks M.sw.looks M.sw.passes M.sw.loss)) b=some o:=λb o hb nb=>by
  rw[aA nb,aA (aB hb Zhj)];exact hb
 have dS:∀{a:Addr}{C d:Addr}{fs:List (Str×V)},H a=some (.ins C d fs)->fs.length<11->a≠A.sw:=λe hl z=>by
  rw[z,os]at e;have:=Option.some.inj e
  injection this with _ _ e3
  rw[<- e3]at hl;exact absurd hl (by show ¬ 11<11;decide)
 have ow3:=kp _ _ ow (dS ow (by show 5<11;decide));have ok3:=kp _ _ ok (dS ok (by show 2<11;decide));have on3:=kp _ _ on (pX on os (λz=>by cases z));generalize hH3:upd (upd H gr (.lst [])) A.sw (.ins X.S ds (cg (1 - M.sw.sense) "walk" gr M.sw.looked (M.sw.turn+1) M.sw.at' M.sw.stop M.sw.walks M.sw.looks M.sw.passes M.sw.loss))=H3 at kp ow3 ok3 on3 ⊢;have Zb0:((A.hs.map λp=>V.ref p.1).length:Int)=(M.hands.length:Int):=by rw[aU,lh]
 refine Kf ?_;walk_at"s";rcases ol with ⟨ew,o⟩ | ⟨ew,o⟩ | ⟨ew,o⟩
 ·have o3:=kp _ _ o (dS o (by show 0<11;decide));refine Kg ?_;walk_at"s";refine aD ow3 Tx.cW Tx.nWk oW ?_;refine aD ok3 Tx.cK Tx.nKl gR ?_;walk_at"s";refine⟨A.lk,dl,_,rfl,o3,rfl,?_⟩;walk_at"s";refine aD ow3 Tx.cW Tx.nWd eO ?_;walk_at"s";refine iI (cR.of on3) ?_;rw[Zb0];walk_at"s";refine⟨A.lk,_,rfl,by omega,by omega,?_⟩;walk_at"s";exact fin rfl (by unfold bM;rw[if_pos ew,if_pos rfl,Int.toNat_natCast]) _ hH3.symm
 ·have o3:=kp _ _ o (dS o (by show 0<11;decide));refine yV (Kg ?_);walk_at"s";refine aD ow3 Tx.cW Tx.nWk oW ?_;refine aD ok3 Tx.cK Tx.nKl gR ?_;walk_at"s";refine⟨A.lk,dl,_,rfl,o3,rfl,?_⟩;walk_at"s";refine aD ow3 Tx.cW Tx.nWd eO ?_;walk_at"s";refine iI (cR.of on3) ?_;rw[Zb0];walk_at"s";refine⟨A.lk,_,rfl,by omega,by omega,?_⟩;walk_at"s";exact fin rfl (by unfold bM;rw[if_neg (show ¬ (1:Nat)=0 by decide),if_neg (by omega)]) _ hH3.symm
 ·have o3:=kp _ _ o (dS o (by show 0<11;decide));refine yV (yV ?_);walk_at"s";refine aD ow3 Tx.cW Tx.nWk oW ?_;refine aD ok3 Tx.cK Tx.nKl gR ?_;walk_at"s";refine⟨A.lk,dl,_,rfl,o3,rfl,?_⟩;walk_at"s";refine aD ow3 Tx.cW Tx.nWd eO ?_;walk_at"s";refine iI (cR.of on3) ?_;rw[Zb0];walk_at"s";refine⟨A.lk,_,rfl,by omega,by omega,?_⟩;walk_at"s";exact fin rfl (by unfold bM;rw[if_neg (show ¬ (1:Nat)=0 by decide),if_neg (by omega)]) _ hH3.symm
end
def My(M:Wm):Bool:=decide (M.sw.phase="walk"\/M.sw.phase="lost")
def Nk(M:Wm)(p b:Int):Option Int:=if Gy M p b=true then none else match cellAt M p with
 | none=>none
 | some c=>if My M=true/\¬ c.tone=M.sw.sense then none else some p
def sV(X:Cs):Sp:=λvs H Q E=>∃wo,vs=[.ref wo]/\∃T s A M,WM X H T s A M/\A.wo=wo/\∀H',bC H H'->Q (.bl (My M)) H'
def BK(X:Cs):Sp:=λvs H Q E=>∃wo p b,vs=[.ref wo,.int p,.int b]/\∃T s A M,WM X H T s A M/\A.wo=wo/\∀H',bC H H'->Q (oV (Nk M p b)) H'
section
variable {K:aC}{X:Cs}{H:Hp}{Q:VK}{E:XK}{n:St->Hp->Prop}{bk ct:St->Hp->Prop}
theorem Q6{wo:Addr}(T:qU K X)(q:∃T s A M,WM X H T s A M/\A.wo=wo/\∀H',bC H H'->Q (.bl (My M)) H'):vz K ⟨n,Q,bk,ct⟩ [some (.ref wo)] H:=by
 obtain⟨Tg,s,A,M,j,rfl,q⟩:=q;obtain⟨d1,ow⟩:=j.jb.ow;obtain⟨d2,os⟩:=j.js.os;unfold vz;walk_at"e";refine aD ow T.cW T.N7 aW ?_;walk_at"e";refine aD os T.cS T.n2 je ?_;walk_at"e";refine⟨dU (by simp),λtp ntp=>?_⟩;generalize zz:upd H tp _=H1;obtain⟨s1,g1⟩:=nwO ntp zz;refine⟨tp,_,rfl,.inr (qZ.of g1),rfl,rfl,?_⟩;have q:=q H1 s1;rw[show My M=(if false=true then !inV (V.str M.sw.phase) [V.str "walk",.str "lost"]else inV (V.str M.sw.phase) [V.str "walk",.str "lost"])from by
  rw[if_neg Bool.false_ne_true];unfold My inV
  by_cases h1:M.sw.phase="walk"
  ·simp[h1,eqV]
  ·by_cases h2:M.sw.phase="lost"
   ·simp[h2,eqV]
   ·have e1:¬ ("walk":Str)=M.sw.phase:=λz=>h1 z.symm;have e2:¬ ("lost":Str)=M.sw.phase:=λz=>h2 z.symm;simp[h1,h2,e1,e2,eqV]]at q
 exact q
theorem Za7{wo:Addr}{p b:Int}(T:qU K X)(q:∃T s A M,WM X H T s A M/\A.wo=wo/\∀H',bC H H'->Q (oV (Nk M p b)) H'):Dr K (WX X) (cL X) (sV X) ⟨n,Q,bk,ct⟩ [some (.ref wo),some (.int p),some (.int b)] H:=by
 obtain⟨Tg,s,A,M,j,rfl,q⟩:=q;unfold Dr;walk_at"e";refine⟨_,_,_,rfl,Tg,s,A,M,j,rfl,?_⟩;have hgo:∀c,cellAt M p=some c->Gy M p b=false->Nk M p b=if My M=true/\¬ c.tone=M.sw.sense then none else some p:=λc hc hg=>by
  unfold Nk;rw[hg,if_neg Bool.false_ne_true,hc]
 cases hg:Gy M p b with
 | true=>
  walk_at"e";have:=q H (bC.refl _);rw[show Nk M p b=none from if_pos hg]at this;exact this
 | false=>
  walk_at"e";refine⟨_,rfl,Tg,s,A,M,j,rfl,λH1 s1=>?_⟩;obtain⟨c,hc⟩:∃c,cellAt M p=some c:=by
   cases e:cellAt M p with
   | none=>
    have:Gy M p b=true:=by unfold Gy;rw[e]
    rw[this]at hg;cases hg
   | some c=>exact⟨c,rfl⟩
  have q:=q H1 s1;rw[hgo c hc hg]at q;have j1:=j.same s1;cases hw:My M with
  | false=>
   walk_at"e";rw[if_neg (λz=>by rw[hw]at z;cases z.1)]at q;exact q
  | true=>
   walk_at"e";obtain⟨d1,ow⟩:=j1.jb.ow;obtain⟨dh,oh⟩:=j1.jh.oh;rcases j1.look (some p)with ⟨e1,_⟩ | ⟨i,c',pp,ei,h0,ec,hci,hp,_,ce⟩
   ·have e1:cellAt M p=none:=e1;rw[hc]at e1;cases e1
   cases ei;rw[hc]at ec;cases ec;refine aD ow T.cW T.Xg bZ ?_;walk_at"e";refine aD oh T.c.cC T.c.bJ bN ?_;walk_at"e";refine dz (cR.of j1.jh.oc) (fQ (v:=.ref pp.1) h0 (by rw[dB,hp];rfl)) ?_;walk_at"e";refine⟨_,_,rfl,Tg,s,A,M,_,pp,c,j1,rfl,ce,rfl,?_⟩;walk_at"e"
   by_cases ht:c.tone=M.sw.sense
   ·rw[if_neg (λz=>z.2 ht)]at q;refine wO (λz=>absurd ht z) (λ_=>?_);walk_at"e";exact q
   ·rw[if_pos ⟨hw,ht⟩]at q;refine wO (λ_=>?_) (λz=>absurd z ht);walk_at"e";exact q
end
def qX(M:Wm):List (Option Int):=M.names.map λm=>Nk M m.2.1 m.2.2
def iY(M:Wm):List (List (Option Int)):=heldOf M++[qX M]
def Mp(X:Cs):Sp:=λvs H Q E=>∃wo,vs=[.ref wo]/\∃T s A M,s≠0/\WJ X H T s A M/\A.wo=wo/\M.hands.length<=1000/\M.names.length<=1000/\∀(l:Addr) (ls:List Addr) H',bC H H'->H l=none->H' l=some (.lst (ls.map V.ref))->ls.length=(iY M).length->(∀r∈ls,H r=none)->l∉ls->(∀(j:Nat) r x,ls[j]? =some r->(iY M)[j]? =some x->H' r=some (.lst (x.map oV)))->Q (.ref l) H'
section
variable {K:aC}{X:Cs}{H:Hp}{Q:VK}{E:XK}{n:St->Hp->Prop}{bk ct:St->Hp->Prop}
theorem Zpz{T:Tg}{ns:List Addr}{names:List (Str×(Int×Int))}(h:Al (NmO H T) ns names):∀{i:Nat}{kv:L2.Key×V},(nmK names ns)[i]? =some kv->∃t m,names[i]? =some m/\kv.2=.ref t/\H t=some (.tup [.int m.2.1,.int m.2.2])/\T t=(0,0):=by
 induction h with
 | nil=>intro i kv e;simp[nmK]at e
 | cons h0 h ih=>
  intro i kv e;cases i with
  | zero=>cases e;exact⟨_,_,rfl,rfl,h0.2,h0.1⟩
  | succ i=>exact ih (i:=i) (kv:=kv) (by simpa[nmK]using e)
theorem Zfg{wo:Addr}(T:qU K X)(q:∃T s A M,s≠0/\WJ X H T s A M/\A.wo=wo/\M.hands.length<=1000/\M.names.length<=1000/\∀(l:Addr) (ls:List Addr) H',bC H H'->H l=none->H' l=some (.lst (ls.map V.ref))->ls.length=(iY M).length->(∀r∈ls,H r=none)->l∉ls->(∀(j:Nat) r x,ls[j]? =some r->(iY M)[j]? =some x->H' r=some (.lst (x.map oV)))->Q (.ref l) H'):
  Np K (WW X) (BK X) H ⟨n,Q,bk,ct⟩ [some (.ref wo)] H:=by
 obtain⟨Tg,s,A,M,h0,j,rfl,hh,hn,q⟩:=q;unfold Np;walk_at"e";refine⟨_,rfl,Tg,s,A,M,j,rfl,hh,λl1 ls1 H1 s1 nl1 ol1 hl1 nd1 nn1 Zyu g1=>?_⟩;have j1:=j.same s1;obtain⟨dw,ow⟩:=j1.jb.ow;have om:=j1.jn.om;walk_at"e";refine aD ow T.cW T.nWn Ks ?_;refine⟨_,_,rfl,.inl om,λvv nvv=>?_⟩;generalize zz:upd H1 vv _=H2;obtain⟨s2,g2⟩:=nwO nvv zz;have j2:=j1.same s2;have om2:=j2.jn.om;refine⟨_,_,_,rfl,g2,om2,λo=>?_⟩;have lnm:(nmK M.names A.ns).length=M.names.length:=Zn8 j2.jn.nms;have w3:=j2.names (o:=.uC o (.dK (nmK M.names A.ns))) h0;have Zk6:∀b u,H2 b=some u->b≠A.nm->upd H2 A.nm (.uC o (.dK (nmK M.names A.ns))) b=some u:=λb u hb nb=>by rw[aA nb];exact hb
 have g3:upd H2 A.nm (.uC o (.dK (nmK M.names A.ns))) A.nm=some (.uC o (.dK (nmK M.names A.ns))):=ao;generalize upd H2 A.nm (.uC o (.dK (nmK M.names A.ns)))=H3 at w3 Zk6 g3 ⊢;have nmn:∀t xs,H2 t=some (.tup xs)->t≠A.nm:=λt xs z=>pX z om2 (λy=>by cases y);refine Zcq ?_;refine Zh4 M.names.length (by omega) (λi y _=>∃m,M.names[i]? =some m/\y=oV (Nk M m.2.1 m.2.2)) (λ_ _ _ _ h _=>h) (λH' s=>⟨s _ _ g3,by omega⟩) (λi H' hi s=>⟨s _ _ g3,by omega⟩) (λi x H4 H5 hi s4 y=>?_) ?_
 ·obtain⟨rfl,kv,ekv,rfl⟩:=y;obtain⟨t,m,em,et,ot,tt⟩:=Zpz j2.jn.nms ekv;refine⟨rfl,λq hq=>Jy hq,λq hq=>?_⟩;have ot4:=s4 _ _ (Zk6 _ _ ot (nmn _ _ ot));refine⟨t,_,_,_,by rw[et],qZ.of ot4,?_⟩;walk_at"c";walk_at"e";exact⟨_,_,_,rfl,Tg,s,A,M,w3.same s4,rfl,λH6 s6=>hq _ _ s6 ⟨m,em,rfl⟩⟩
 ·intro ys H4 s4 ly hy p np;have ey:ys=(qX M).map oV:=by
   refine List.ext_getElem? λi=>?_
   by_cases hi:i<ys.length
   ·obtain⟨m,e1,e2⟩:=hy i ys[i] (cJ hi);rw[cJ hi,e2];unfold qX;rw[dB,dB,e1];rfl
   ·rw[List.getElem?_eq_none (by omega),List.getElem?_eq_none];unfold qX;rw[aU,aU];omega
  subst ey;have g5:=s4 _ _ g3;have npn:p≠A.nm:=λz=>by rw[z,g5]at np;cases np
  refine⟨A.nm,o,_,by rw[aA npn.symm];exact g5,(λo' u z=>by rw[j.jn.om]at z;cases z),?_⟩;generalize hH5:upd (upd H4 p (.lst ((qX M).map oV))) A.nm (.dK (nmK M.names A.ns))=H5;have s25:bC H2 H5:=λb u hb=>by
   rw[<- hH5]
   by_cases z:b=A.nm
   ·subst z;rw[ao];rw[om2]at hb;exact hb
   ·have h3:=Zk6 b u hb z;rw[aA z,aA (aB (s4 _ _ h3) np)];exact s4 _ _ h3
  have np2:H2 p=none:=by
   cases z:H2 p with
   | none=>rfl
   | some u=>
    have:=s4 _ _ (Zk6 p u z npn);rw[np]at this;cases this
  have op5:H5 p=some (.lst ((qX M).map oV)):=by rw[<- hH5,aA npn];exact ao
  clear hH5;have s05:=s1.trans (s2.trans s25);have s15:=s2.trans s25;walk_at"e";refine⟨dU (by simp),λl2 nl2=>?_⟩;generalize zz:upd H5 l2 _=H6;obtain⟨s6,g6⟩:=nwO nl2 zz;refine⟨l1,l2,_,_,rfl,rfl,s6 _ _ (s15 _ _ ol1),g6,?_,λl3 nl3=>?_⟩
  ·rw[aU];have:(heldOf M).length=M.hands.length:=by unfold heldOf;rw[aU]
   exact dU (by simp;omega)
  have s7:=aL nl3 (.lst (ls1.map V.ref++[.ref p]));have s07:=s05.trans (s6.trans s7);have e7:ls1.map V.ref++[V.ref p]=(ls1++[p]).map V.ref:=by rw[List.map_append];rfl
  rw[e7]at s7 s07 ⊢;have fp:H p=none:=s1.free (s2.free np2);refine q l3 (ls1++[p]) _ s07 (s05.free (s6.free nl3)) ao ?_ (λr hr=>?_) (λhr=>?_) λk r x e1 e2=>?_
  ·unfold iY;rw[List.length_append,List.length_append,hl1];rfl
  ·rcases List.mem_append.mp hr with hr | hr
   ·exact nn1 r hr
   ·rw[List.mem_singleton.mp hr];exact fp
  ·rcases List.mem_append.mp hr with hr | hr
   ·obtain⟨k,hk,e⟩:=List.getElem_of_mem hr;have:=g1 k l3 (heldOf M)[k] (by rw[cJ hk,e]) (cJ (by omega));rw[s6 _ _ (s15 _ _ this)]at nl3;cases nl3
   ·rw[List.mem_singleton.mp hr,s6 _ _ op5]at nl3;cases nl3
  ·unfold iY at e2
   by_cases hk:k<ls1.length
   ·rw[List.getElem?_append_left hk]at e1;rw[List.getElem?_append_left (by omega)]at e2;exact s7 _ _ (s6 _ _ (s15 _ _ (g1 k r x e1 e2)))
   ·have hk2:=(cV e1).1;rw[List.length_append,List.length_singleton]at hk2;have ek:k=ls1.length:=by omega
    rw[List.getElem?_append_right (by omega)]at e1 e2;rw[ek,Nat.sub_self]at e1;rw[ek,hl1,Nat.sub_self]at e2;cases e1;cases e2;exact s7 _ _ (s6 _ _ op5)
end
namespace KB
abbrev Fd:=List (Option (List (Option Int)))
def Tp(F:Fd)(p:Int):Option (List (Option Int)):=if 0<=p then(F[p.toNat]?).join else none
def nxt(F:Fd)(pl:Option Int)(f:Int):Option Int:=match pl with
 | none=>none
 | some p=>match Tp F p with
  | none=>none
  | some fl=>if 0<=f then(fl[f.toNat]?).join else none
abbrev Rw:=List (List (Option Int))
def slt(R:Rw)(r s:Int):Option Int:=((R[r.toNat]?).bind λx=>x[s.toNat]?).join
def X4(F:Fd)(w:List Int)(x:Option Int×Nat):Option (Int×List Int):=match x.1 with
 | none=>none
 | some q=>if (Tp F q).isSome then some (q,w++[(x.2:Int)])else none
def onw(F:Fd)(w:List Int)(n:Nat)(ps:List (Option Int)):List (Int×List Int):=(ps.zipIdx n).filterMap (X4 F w)
def q0(F:Fd)(n:Nat)(R:Rw):List (Int×List Int):=(R.zipIdx n).flatMap λx=>onw F [(x.2:Int)] 0 x.1
structure Good(F:Fd)(R:Rw)(p:Int)(w:List Int):Prop where
 ex:∃r s fs row,w=r::s::fs/\0<=r/\0<=s/\R[r.toNat]? =some row/\s.toNat<row.length/\(∀f∈fs,0<=f)/\fs.foldl (nxt F) (slt R r s)=some p
 there:(Tp F p).isSome=true
theorem Bw{F:Fd}{w:List Int}{n:Nat}{ps:List (Option Int)}{q:Int}{v:List Int}(h:(q,v)∈onw F w n ps):∃k,ps[k]? =some (some q)/\v=w++[((n+k:Nat):Int)]/\(Tp F q).isSome=true:=by
 obtain⟨⟨x,m⟩,hm,e⟩:=List.mem_filterMap.mp h;obtain⟨hk1,hk2⟩:=List.mem_zipIdx_iff_le_and_getElem?_sub.mp hm;unfold X4 at e;cases x with
 | none=>cases e
 | some q'=>
  simp only at e;split at e
  ·rename_i hs
   cases e;refine⟨m - n,hk2,?_,hs⟩;have:n+(m - n)=m:=by have:=hk1;simp only at this;omega
   rw[this]
  ·cases e
theorem Zho{F:Fd}{R:Rw}{p q:Int}{w v:List Int}{fl:List (Option Int)}(g:Good F R p w)(hf:Tp F p=some fl)(h:(q,v)∈onw F w 0 fl):Good F R q v:=by
 obtain⟨k,hk,rfl,hs⟩:=Bw h;obtain⟨⟨r,s,fs,row,rfl,h1,h2,h3,h4,h5,h6⟩,_⟩:=g;refine⟨⟨r,s,fs++[((0+k:Nat):Int)],row,rfl,h1,h2,h3,h4,λf hf=>?_,?_⟩,hs⟩
 ·rcases List.mem_append.mp hf with z | z
  ·exact h5 f z
  ·have:f=((0+k:Nat):Int):=by simpa using z
   omega
 ·rw[List.foldl_append,h6];show nxt F (some p) _=some q;unfold nxt;simp only[hf];rw[if_pos (by omega)];have:(((0+k:Nat):Int)).toNat=k:=by omega
  rw[this,hk];rfl
theorem Zl6{F:Fd}{R:Rw}{q:Int}{v:List Int}(h:(q,v)∈q0 F 0 R):Good F R q v:=by
 obtain⟨⟨row,n⟩,hm,h⟩:=List.mem_flatMap.mp h;have hr:R[n]? =some row:=List.mem_zipIdx_iff_getElem?.mp hm;obtain⟨k,hk,rfl,hs⟩:=Bw h;refine⟨⟨(n:Int),((0+k:Nat):Int),[],row,rfl,by omega,by omega,by simpa using hr,?_,(λf hf=>by cases hf),?_⟩,hs⟩
 ·have:k<row.length:=(cV hk).1;omega
 ·show slt R _ _=some q;unfold slt;have e1:((n:Int)).toNat=n:=by omega
  have e2:(((0+k:Nat):Int)).toNat=k:=by omega
  rw[e1,e2,hr];simp only[Option.bind_some,hk,Option.join_some]
inductive Ms(F:Fd)(R:Rw):List (Int×List Int)->Nat->List (Int×List Int)->Prop
 | start:Ms F R (q0 F 0 R) 0 []
 | old {q k l p w}:Ms F R q k l->q[k]? =some (p,w)->p∈l.map (·.1)->Ms F R q (k+1) l
 | new {q k l p w fl}:Ms F R q k l->q[k]? =some (p,w)->p∉l.map (·.1)->Tp F p=some fl->Ms F R (q++onw F w 0 fl) (k+1) (l++[(p,w)])
theorem Ms.good{F:Fd}{R:Rw}{q l:List (Int×List Int)}{k:Nat}(b:Ms F R q k l):(∀x∈q,Good F R x.1 x.2)/\∀x∈l,Good F R x.1 x.2:=by
 induction b with
 | start=>exact⟨λx hx=>Zl6 hx,λx hx=>nomatch hx⟩
 | old _ _ _ ih=>exact ih
 | new b hq hn hf ih=>
  have g:=ih.1 _ (List.mem_of_getElem? hq);refine⟨λx hx=>?_,λx hx=>?_⟩
  ·rcases List.mem_append.mp hx with z | z
   ·exact ih.1 x z
   ·exact Zho g hf z
  ·rcases List.mem_append.mp hx with z | z
   ·exact ih.2 x z
   ·have z':=List.mem_singleton.mp z;rw[z'];exact g
def wgt:Option (List (Option Int))->Nat
 | none=>0
 | some fl=>fl.length
def ZM(F:Fd)(l:List (Int×List Int)):Nat:=((F.zipIdx).map λx=>if (x.2:Int)∈l.map (·.1)then 0 else wgt x.1).sum
theorem Zf3{α:Type}(f g:α->Nat):∀(xs:List α),(∀x∈xs,g x<=f x)->(xs.map g).sum<=(xs.map f).sum
 | [],_=>Nat.le_refl _
 | x::xs,h=>by
  have h1:=h x (by simp);have h2:=Zf3 f g xs λy hy=>h y (by simp[hy]);simp only[List.map_cons,List.sum_cons];omega
theorem Xk{α:Type}(f g:α->Nat)(d:Nat):∀(xs:List α) (a:α),a∈xs->(∀x∈xs,g x<=f x)->g a+d<=f a->(xs.map g).sum+d<=(xs.map f).sum
 | [],_,h,_,_=>nomatch h
 | x::xs,a,ha,h,hd=>by
  have h1:=h x (by simp);have h2:=Zf3 f g xs λy hy=>h y (by simp[hy]);simp only[List.map_cons,List.sum_cons];rcases List.mem_cons.mp ha with z | z
  ·subst z;omega
  ·have h3:=Xk f g d xs a z (λy hy=>h y (by simp[hy])) hd;omega
theorem Lx{F:Fd}{w:List Int}{n:Nat}{ps:List (Option Int)}:(onw F w n ps).length<=ps.length:=by
 unfold onw;have:=List.length_filterMap_le (X4 F w) (ps.zipIdx n);rw[List.length_zipIdx]at this;exact this
theorem Zev{F:Fd}{l:List (Int×List Int)}{p:Int}{w:List Int}{fl:List (Option Int)}(hn:p∉l.map (·.1))(hf:Tp F p=some fl):ZM F (l++[(p,w)])+fl.length<=ZM F l:=by
 unfold Tp at hf;split at hf
 ·rename_i h0
  have hp:F[p.toNat]? =some (some fl):=by
   cases e:F[p.toNat]? with
   | none=>rw[e]at hf;cases hf
   | some x=>rw[e]at hf;simp only[Option.join_some]at hf;rw[hf]
  unfold ZM;refine Xk _ _ fl.length _ (some fl,p.toNat) (List.mem_zipIdx_iff_getElem?.mpr hp) (λx _=>?_) ?_
  ·simp only[List.map_append,List.map_cons,List.map_nil,List.mem_append]
   by_cases h1:(x.2:Int)∈l.map (·.1)
   ·simp only[h1,true_or,↓reduceIte,Nat.le_refl]
   ·simp only[h1,false_or];split
    ·exact Nat.zero_le _
    ·exact Nat.le_refl _
  ·have e:((p.toNat:Nat):Int)=p:=by omega
   simp only[List.map_append,List.map_cons,List.map_nil,List.mem_append,e];rw[if_pos (.inr (by simp)),if_neg hn];show 0+fl.length<=wgt (some fl);show 0+fl.length<=fl.length;omega
 ·cases hf
def total(F:Fd)(R:Rw):Nat:=(q0 F 0 R).length+ZM F []
theorem Ms.bound{F:Fd}{R:Rw}{q l:List (Int×List Int)}{k:Nat}(b:Ms F R q k l):q.length+ZM F l<=total F R:=by
 induction b with
 | start=>exact Nat.le_refl _
 | old _ _ _ ih=>exact ih
 | new b hq hn hf ih=>
  have h2:=@Lx F;rw[List.length_append];refine Nat.le_trans ?_ ih
  rename_i w fl
  have h3:=h2 (w:=w) (n:=0) (ps:=fl);have h4:=Zev (w:=w) hn hf;omega
end KB
def Zlk(cs:List V)(i:Int):V:=if 0<=i then(cs[i.toNat]?).getD .non else .non
def CO(CC:Addr)(H:Hp)(cs:List V)(i:Nat):Option (List (Option Int))->Prop
 | none=>cs[i]? =some .non
 | some fl=>∃p fa b u t l,cs[i]? =some (.ref p)/\wX CC H p fa b u t l (fl.map oV)
structure HV(CC CH:Addr)(H:Hp)(hp:Addr)(F:KB.Fd):Prop where
 ex:∃ca room used born cs,HpO CH H hp ca room used born cs/\cs.length=F.length/\∀(i:Nat) x,F[i]? =some x->CO CC H cs i x
theorem HpO.same{CH:Addr}{H H':Hp}{hp ca:Addr}{room used born:Int}{cs:List V}(h:HpO CH H hp ca room used born cs)(s:bC H H'):HpO CH H' hp ca room used born cs:=by
 obtain⟨⟨dx,h1⟩,h2⟩:=h;exact⟨⟨dx,s _ _ h1⟩,s _ _ h2⟩
theorem CO.same{CC:Addr}{H H':Hp}{cs:List V}{i:Nat}{x:Option (List (Option Int))}(h:CO CC H cs i x)(s:bC H H'):CO CC H' cs i x:=by
 cases x with
 | none=>exact h
 | some fl=>
  obtain⟨p,fa,b,u,t,l,e,c⟩:=h;exact⟨p,fa,b,u,t,l,e,c.same s⟩
theorem HV.same{CC CH:Addr}{H H':Hp}{hp:Addr}{F:KB.Fd}(h:HV CC CH H hp F)(s:bC H H'):HV CC CH H' hp F:=by
 obtain⟨ca,room,used,born,cs,o,l,e⟩:=h;exact⟨ca,room,used,born,cs,o.same s,l,λi x hx=>(e i x hx).same s⟩
theorem Zhz{CC:Addr}{H:Hp}{cs:List V}{F:KB.Fd}(hl:cs.length=F.length)(e:∀(i:Nat) x,F[i]? =some x->CO CC H cs i x)(i:Int):
  (KB.Tp F i=none/\Zlk cs i=.non)\/∃fl p fa b u t l,KB.Tp F i=some fl/\Zlk cs i=.ref p/\cs[i.toNat]? =some (.ref p)/\0<=i/\wX CC H p fa b u t l (fl.map oV):=by
 unfold KB.Tp Zlk
 by_cases h0:0<=i
 ·simp only[h0,↓reduceIte];cases hf:F[i.toNat]? with
  | none=>
   have:cs[i.toNat]? =none:=by rw[List.getElem?_eq_none_iff]at hf ⊢;omega
   exact .inl ⟨rfl,by rw[this];rfl⟩
  | some x=>
   have c:=e _ _ hf;cases x with
   | none=>exact .inl ⟨rfl,by rw[show cs[i.toNat]? =some V.non from c];rfl⟩
   | some fl=>
    obtain⟨p,fa,b,u,t,l,e1,c1⟩:=c;exact .inr ⟨fl,p,fa,b,u,t,l,rfl,by rw[e1];rfl,e1,trivial,c1⟩
 ·simp only[h0,↓reduceIte];exact .inl ⟨trivial,trivial⟩
def Ec(H:Hp):List Addr->List (Int×List Int)->Prop
 | [],[]=>True
 | t::ts,x::qs=>(∃a,H t=some (.tup [.int x.1,.ref a])/\H a=some (.tup (x.2.map V.int)))/\Ec H ts qs
 | _,_=>False
theorem Ec.same{H H':Hp}(s:bC H H'):∀{ts:List Addr}{qs:List (Int×List Int)},Ec H ts qs->Ec H' ts qs
 | [],[],_=>trivial
 | [],_::_,h=>h.elim
 | _::_,[],h=>h.elim
 | _::_,_::_,⟨⟨a,h1,h2⟩,h3⟩=>⟨⟨a,s _ _ h1,s _ _ h2⟩,Ec.same s h3⟩
theorem Ec.app{H:Hp}:∀{ts us:List Addr}{qs rs:List (Int×List Int)},Ec H ts qs->Ec H us rs->Ec H (ts++us) (qs++rs)
 | [],_,[],_,_,h=>h
 | [],_,_::_,_,h,_=>h.elim
 | _::_,_,[],_,h,_=>h.elim
 | _::_,_,_::_,_,⟨h1,h3⟩,h=>⟨h1,Ec.app h3 h⟩
theorem Ec.len{H:Hp}:∀{ts:List Addr}{qs:List (Int×List Int)},Ec H ts qs->ts.length=qs.length
 | [],[],_=>rfl
 | [],_::_,h=>h.elim
 | _::_,[],h=>h.elim
 | _::_,_::_,⟨_,h3⟩=>by rw[List.length_cons,List.length_cons,Ec.len h3]
theorem Ec.at{H:Hp}:∀{ts:List Addr}{qs:List (Int×List Int)}{i:Nat}{x:Int×List Int},Ec H ts qs->qs[i]? =some x->∃t a,ts[i]? =some t/\H t=some (.tup [.int x.1,.ref a])/\H a=some (.tup (x.2.map V.int))
 | [],[],_,_,_,e=>by simp at e
 | [],_::_,_,_,h,_=>h.elim
 | _::_,[],_,_,h,_=>h.elim
 | t::_,_::_,0,_,⟨⟨a,h1,h2⟩,_⟩,e=>by cases e;exact⟨t,a,rfl,h1,h2⟩
 | _::_,_::_,i+1,_,⟨_,h3⟩,e=>Ec.at (i:=i) h3 e
def Bf(K:aC)(CC CH:Addr):Sp:=λvs H Q E=>∃hp a wt F ps w,vs=[.ref hp,.ref a,.ref wt]/\HV CC CH H hp F/\cR K H a (ps.map oV)/\qZ K H wt (w.map V.int)/\w≠[]/\w.length<=100000/\ps.length<=1000/\
 ∀l ts H',H l=none->bC H H'->H' l=some (.lst (ts.map V.ref))->Ec H' ts (KB.onw F w 0 ps)->Q (.ref l) H'
def DY(K:aC)(H:Hp):List Addr->KB.Rw->Prop
 | [],[]=>True
 | a::as,r::R=>cR K H a (r.map oV)/\DY K H as R
 | _,_=>False
theorem DY.same{K:aC}{H H':Hp}(s:bC H H'):∀{as:List Addr}{R:KB.Rw},DY K H as R->DY K H' as R
 | [],[],_=>trivial
 | [],_::_,h=>h.elim
 | _::_,[],h=>h.elim
 | _::_,_::_,⟨h1,h3⟩=>⟨s.seq h1,DY.same s h3⟩
theorem DY.len{K:aC}{H:Hp}:∀{as:List Addr}{R:KB.Rw},DY K H as R->as.length=R.length
 | [],[],_=>rfl
 | [],_::_,h=>h.elim
 | _::_,[],h=>h.elim
 | _::_,_::_,⟨_,h3⟩=>by rw[List.length_cons,List.length_cons,DY.len h3]
theorem DY.at{K:aC}{H:Hp}:∀{as:List Addr}{R:KB.Rw}{i:Nat}{a:Addr},DY K H as R->as[i]? =some a->∃r,R[i]? =some r/\cR K H a (r.map oV)
 | [],[],_,_,_,e=>by simp at e
 | [],_::_,_,_,h,_=>h.elim
 | _::_,[],_,_,h,_=>h.elim
 | _::_,r::_,0,_,⟨h1,_⟩,e=>by cases e;exact⟨r,rfl,h1⟩
 | _::_,_::_,i+1,_,⟨_,h3⟩,e=>DY.at (i:=i) h3 e
structure Few(F:KB.Fd)(R:KB.Rw):Prop where
 f:F.length<=1000
 g:∀p fl,KB.Tp F p=some fl->fl.length<=1000
 r:R.length<=1000
 s:∀x∈R,x.length<=1000
 t:KB.total F R<=90000
def BL(K:aC)(CC CH:Addr):Sp:=λvs H Q E=>∃hp ra F rs R,vs=[.ref hp,.ref ra]/\HV CC CH H hp F/\cR K H ra (rs.map V.ref)/\DY K H rs R/\Few F R/\
 ∀l ts q qs H',KB.Ms F R q q.length qs->H l=none->bC H H'->H' l=some (.lst (ts.map V.ref))->Ec H' ts qs->Q (.ref l) H'
theorem Zr7{CC CH hp:Addr}{H:Hp}{Q:VK}{E:XK}{pl:Option Int}{F:KB.Fd}(v:HV CC CH H hp F)(q1:pl.bind (KB.Tp F)=none->Q .non H)(q2:∀fl p fa b u t l,pl.bind (KB.Tp F)=some fl->wX CC H p fa b u t l (fl.map oV)->Q (.ref p) H):fH CH [.ref hp,oV pl] H Q E:=by
 obtain⟨ca,room,used,born,cs,o,hl,he⟩:=v;refine⟨hp,oV pl,rfl,Ah pl,ca,room,used,born,cs,o,?_⟩;cases pl with
 | none=>exact q1 rfl
 | some i=>
  show Q (Zlk cs i) H;rcases Zhz hl he i with ⟨e1,e2⟩ | ⟨fl,p,fa,b,u,t,l,e1,e2,_,_,c⟩
  ·rw[e2];exact q1 e1
  ·rw[e2];exact q2 fl p fa b u t l e1 c
theorem X3(F:KB.Fd)(w:List Int)(n:Nat)(ps:List (Option Int))(x:Option Int):KB.onw F w n (ps++[x])=KB.onw F w n ps++(KB.X4 F w (x,n+ps.length)).toList:=by
 unfold KB.onw;rw[List.zipIdx_append,List.filterMap_append];congr 1
theorem take_snoc{α:Type}{xs:List α}{i:Nat}{x:α}(h:xs[i]? =some x):xs.take (i+1)=xs.take i++[x]:=by
 rw[List.take_add_one,h];rfl
theorem kj{H:Hp}{a:Addr}{o:HO}(h:H a=none):bC H (upd H a o):=λb u q=>by rw[aA (aB q h)];exact q
section
variable {K:aC}{bw aQ lR:Addr}{H:Hp}{Q:VK}{E:XK}{n:St->Hp->Prop}{bk ct:St->Hp->Prop}
theorem Zam{hp a wt:Addr}{F:KB.Fd}{ps:List (Option Int)}{w:List Int}(v:HV bw aQ H hp F)(ha:cR K H a (ps.map oV))(hw:qZ K H wt (w.map V.int))(hne:w≠[])(hwl:w.length<=100000)(hpl:ps.length<=1000)
  (Zmo:∀{H':Hp},bC H H'->qZ K H' wt (w.map V.int))
  (q:∀l ts H',H l=none->bC H H'->H' l=some (.lst (ts.map V.ref))->Ec H' ts (KB.onw F w 0 ps)->Q (.ref l) H'):
  Bm K (fH aQ) ⟨n,Q,bk,ct⟩ [some (.ref hp),some (.ref a),some (.ref wt)] H:=by
 unfold Bm;walk_at"e";refine⟨a,rfl,⟨_,ha⟩,Zkf ha (by rw[aU];omega) (λi ys H1=>bC H H1/\i<=ps.length/\∃ts,ys=ts.map V.ref/\Ec H1 ts (KB.onw F w 0 (ps.take i))) ⟨bC.refl _,Nat.zero_le _,[],rfl,trivial⟩ ?_ ?_ ?_⟩
 ·rintro i ys H1 ⟨sm,hi,ts,rfl,qa⟩;refine⟨sm,?_⟩;rw[aU,qa.len];refine Nat.le_trans KB.Lx ?_;rw[List.length_take];omega
 ·rintro i x ys H1 t C hC hx ⟨sm,hi,ts,rfl,qa⟩ ht;walk_at"c";rw[dB]at hx;obtain⟨y,hy,rfl⟩:=Option.map_eq_some_iff.mp hx;have hil:i<ps.length:=(cV hy).1;have hn0:0+(ps.take i).length=i:=by rw[List.length_take];omega
  have s1:bC H1 (upd H1 t (.tup [.int i,oV y])):=kj ht;have sm1:=sm.trans s1;walk_at"e";refine Zr7 (v.same sm1) (λe=>?_) (λfl p fa b u t' l e c=>?_)
  ·refine Zba ?_;walk_at"e";refine Zkn (hC _ _ ⟨sm1,hil,ts,rfl,?_⟩);rw[take_snoc hy,X3,hn0];have e1:KB.X4 F w (y,i)=none:=by
    unfold KB.X4;cases y with
    | none=>rfl
    | some q'=>simp only;rw[show KB.Tp F q'=none from e];rfl
   rw[e1];simp only[Option.toList_none,List.append_nil];exact qa.same s1
  ·refine Zba ?_;walk_at"e";refine Zb8 ?_;obtain⟨q',rfl⟩:∃q',y=some q':=by
    cases y with
    | none=>cases e
    | some q'=>exact⟨q',rfl⟩
   have e':KB.Tp F q'=some fl:=e;walk_at"e";refine⟨(by show 1<=sizeLine;decide),λt2 ht2=>?_⟩;have s2:=s1.trans (kj (o:=.tup [.int i]) ht2);refine⟨wt,t2,w.map V.int,[.int i],rfl,rfl,Zmo (sm.trans s2),qZ.of ao,by simpa using hne,by rw[aU];exact dU (by simp only[List.length_cons,List.length_nil];omega),(λz=>nomatch z),(λ_ t3 ht3=>?_)⟩;have s3:=s2.trans (kj (o:=.tup (w.map V.int++[.int i])) ht3);walk_at"e";refine⟨(by show 2<=sizeLine;decide),λt4 ht4=>?_⟩;have s4:=s3.trans (kj (o:=.tup [oV (some q'),.ref t3]) ht4);have n34:t3≠t4:=aB ao ht4;have h3:upd (upd (upd (upd H1 t (.tup [.int i,oV (some q')])) t2 (.tup [.int i])) t3 (.tup (w.map V.int++[.int i]))) t4 (.tup [oV (some q'),.ref t3]) t3=some (.tup (w.map V.int++[.int i])):=by
    rw[aA n34,ao]
   walk_at"e";refine hC _ _ ⟨sm.trans s4,hil,ts++[t4],by simp,?_⟩;rw[take_snoc hy,X3,hn0];have e1:KB.X4 F w (some q',i)=some (q',w++[(i:Int)]):=by
    unfold KB.X4;simp only[e',Option.isSome_some,↓reduceIte]
   rw[e1];refine(qa.same s4).app ⟨⟨t3,ao,?_⟩,trivial⟩;rw[h3,List.map_append];rfl
 ·rintro ys H1 ⟨sm,_,ts,rfl,qa⟩ l hl;walk_at"e";rw[aU,List.take_length]at qa;exact q l ts _ (sm.free hl) (sm.trans (kj hl)) ao (qa.same (kj hl))
end
theorem Zmo{K:aC}{H H':Hp}{a:Addr}{xs:List V}(e:bC H H')(h:qZ K H a xs):qZ K H' a xs:=by
 rcases h with (h | ⟨o,h⟩) | h
 ·exact .inl (.inl (e _ _ h))
 ·exact .inl (.inr ⟨o,e _ _ h⟩)
 ·exact .inr h
def TK(H H':Hp):Prop:=∀b xs,H b=some (.tup xs)->H' b=some (.tup xs)
theorem TK.same{H H':Hp}(s:bC H H'):TK H H':=λb _ h=>s b _ h
theorem TK.upd{H:Hp}{a:Addr}{o:HO}(h:∀xs,H a≠some (.tup xs)):TK H (L2.upd H a o):=λb xs q=>by
 have n:b≠a:=λz=>h xs (by rw[<- z];exact q);rw[aA n];exact q
theorem TK.trans{H H1 H2:Hp}(a:TK H H1)(b:TK H1 H2):TK H H2:=λc xs h=>b c xs (a c xs h)
theorem Ec.tk{H H':Hp}(s:TK H H'):∀{ts:List Addr}{qs:List (Int×List Int)},Ec H ts qs->Ec H' ts qs
 | [],[],_=>trivial
 | [],_::_,h=>h.elim
 | _::_,[],h=>h.elim
 | _::_,_::_,⟨⟨a,h1,h2⟩,h3⟩=>⟨⟨a,s _ _ h1,s _ _ h2⟩,Ec.tk s h3⟩
def TQ(H:Hp):List (Key×V)->List (Int×List Int)->Prop
 | [],[]=>True
 | kv::kvs,x::qs=>(kv.1=Sum.inl x.1/\∃a,kv.2=.ref a/\H a=some (.tup (x.2.map V.int)))/\TQ H kvs qs
 | _,_=>False
theorem TQ.tk{H H':Hp}(s:TK H H'):∀{kvs:List (Key×V)}{qs:List (Int×List Int)},TQ H kvs qs->TQ H' kvs qs
 | [],[],_=>trivial
 | [],_::_,h=>h.elim
 | _::_,[],h=>h.elim
 | _::_,_::_,⟨⟨h0,a,h1,h2⟩,h3⟩=>⟨⟨h0,a,h1,s _ _ h2⟩,TQ.tk s h3⟩
theorem TQ.app{H:Hp}:∀{ks ls:List (Key×V)}{qs rs:List (Int×List Int)},TQ H ks qs->TQ H ls rs->TQ H (ks++ls) (qs++rs)
 | [],_,[],_,_,h=>h
 | [],_,_::_,_,h,_=>h.elim
 | _::_,_,[],_,h,_=>h.elim
 | _::_,_,_::_,_,⟨h1,h3⟩,h=>⟨h1,TQ.app h3 h⟩
theorem TQ.len{H:Hp}:∀{ts:List (Key×V)}{qs:List (Int×List Int)},TQ H ts qs->ts.length=qs.length
 | [],[],_=>rfl
 | [],_::_,h=>h.elim
 | _::_,[],h=>h.elim
 | _::_,_::_,⟨_,h3⟩=>by rw[List.length_cons,List.length_cons,TQ.len h3]
theorem TQ.val{H:Hp}(p:Int):∀{kvs:List (Key×V)}{qs:List (Int×List Int)},TQ H kvs qs->(nJ kvs (Sum.inl p)).isSome=decide (p∈qs.map (·.1))
 | [],[],_=>by simp[nJ]
 | [],_::_,h=>h.elim
 | _::_,[],h=>h.elim
 | kv::kvs,x::qs,⟨⟨h0,_⟩,h3⟩=>by
  by_cases e:x.1=p
  ·rw[lU (by rw[h0,e])];simp[e]
  ·rw[lV (by rw[h0];exact λz=>e (Sum.inl.inj z)),TQ.val p h3];simp only[List.map_cons,List.mem_cons];have e':¬ p=x.1:=λz=>e z.symm;simp only[e',false_or]
theorem TQ.prs{H:Hp}:∀{ts:List Addr}{kvs:List (Key×V)}{qs:List (Int×List Int)},TQ H kvs qs->Zr H ts kvs->Ec H ts qs
 | [],[],[],_,_=>trivial
 | _,[],_::_,h,_=>h.elim
 | _,_::_,[],h,_=>h.elim
 | [],_::_,_::_,_,h=>h.elim
 | _::_,[],[],_,h=>h.elim
 | t::ts,kv::kvs,x::qs,⟨⟨h0,a,h1,h2⟩,h3⟩,⟨p1,p2⟩=>⟨⟨a,by rw[p1,h0,h1];rfl,h2⟩,TQ.prs h3 p2⟩
theorem Zj9(F:KB.Fd)(R:KB.Rw)(i:Nat)(r:List (Option Int))(h:R[i]? =some r):KB.q0 F 0 (R.take (i+1))=KB.q0 F 0 (R.take i)++KB.onw F [(i:Int)] 0 r:=by
 unfold KB.q0;rw[take_snoc h,List.zipIdx_append,List.flatMap_append];have hl:(R.take i).length=i:=by
  have:=(cV h).1;rw[List.length_take];omega
 rw[hl];simp only[List.zipIdx_cons,List.zipIdx_nil,List.flatMap_cons,List.flatMap_nil,List.append_nil,Nat.zero_add]
structure RS(K:aC)(CC CH:Addr)(H0 H:Hp)(ql d:Addr)(F:KB.Fd)(R:KB.Rw)(q qs:List (Int×List Int))(k:Nat):Prop where
 sm:bC H0 H
 nq:H0 ql=none
 b:KB.Ms F R q k qs
 hk:k<=q.length
 oq:∃ts,H ql=some (.lst (ts.map V.ref))/\Ec H ts q
 od:∃kvs,H d=some (.dK kvs)/\TQ H kvs qs
 nd:H0 d=none
theorem Zgy{H:Hp}{a:Addr}{xs:List V}{o:HO}(h:H a=some (.lst xs)):TK H (upd H a o):=TK.upd λys z=>by rw[h]at z;cases z
theorem Zr3{H:Hp}{a:Addr}{xs:List (Key×V)}{o:HO}(h:H a=some (.dK xs)):TK H (upd H a o):=TK.upd λys z=>by rw[h]at z;cases z
theorem Nf{H0 H:Hp}{a:Addr}{o:HO}(s:bC H0 H)(h:H0 a=none):bC H0 (upd H a o):=λb u q=>by rw[aA (aB q h)];exact s b u q
theorem Zls{F:KB.Fd}{R:KB.Rw}{q l:List (Int×List Int)}{k:Nat}(b:KB.Ms F R q k l):l.length<=k:=by
 induction b with
 | start=>exact Nat.le_refl _
 | old _ _ _ ih=>omega
 | new _ _ _ _ ih=>rw[List.length_append];simp only[List.length_cons,List.length_nil];omega
theorem Zid{F:KB.Fd}{R:KB.Rw}{q l:List (Int×List Int)}{k:Nat}(b:KB.Ms F R q k l):∀x∈q,x.2.length<=k+2:=by
 induction b with
 | start=>
  intro x hx;obtain⟨⟨row,n⟩,hm,h⟩:=List.mem_flatMap.mp hx;obtain⟨j,_,e,_⟩:=KB.Bw (q:=x.1) (v:=x.2) h;rw[e];simp
 | old _ _ _ ih=>intro x hx;have:=ih x hx;omega
 | new b hq _ _ ih=>
  intro x hx;rcases List.mem_append.mp hx with z | z
  ·have:=ih x z;omega
  ·obtain⟨j,_,e,_⟩:=KB.Bw (q:=x.1) (v:=x.2) z;have:=ih _ (List.mem_of_getElem? hq);rw[e,List.length_append];simp only[List.length_cons,List.length_nil];simp only at this;omega
theorem Zmv(F:KB.Fd):∀(R S:KB.Rw) (n:Nat),(KB.q0 F n R).length<=(KB.q0 F n (R++S)).length:=λR S n=>by
 unfold KB.q0;rw[List.zipIdx_append,List.flatMap_append,List.length_append];omega
theorem Zj8(F:KB.Fd)(R:KB.Rw)(i:Nat):(KB.q0 F 0 (R.take i)).length<=KB.total F R:=by
 have:=Zmv F (R.take i) (R.drop i) 0;rw[List.take_append_drop]at this;unfold KB.total;omega
section
variable {K:aC}{bw aQ lR:Addr}{H:Hp}{Q:VK}{E:XK}{n:St->Hp->Prop}{bk ct:St->Hp->Prop}
theorem Xy{hp ra:Addr}{F:KB.Fd}{rs:List Addr}{R:KB.Rw}{v2 v3 v4 v5 v6 v7 v8:Option V}(T:TxC K bw aQ)(v:HV bw aQ H hp F)(hr:cR K H ra (rs.map V.ref))(rw':DY K H rs R)(fw:Few F R)
  (q:∀l ts q qs H',KB.Ms F R q q.length qs->H l=none->bC H H'->H' l=some (.lst (ts.map V.ref))->Ec H' ts qs->Q (.ref l) H'):
  xT K (Bf K bw aQ) ⟨n,Q,bk,ct⟩ [some (.ref hp),some (.ref ra),v2,v3,v4,v5,v6,v7,v8] H:=by
 have hrl:=rw'.len;have f1:=fw.r;unfold xT;walk_at"e";refine⟨(by show 0<=sizeLine;decide),λql hql=>?_⟩;walk_at"e";refine⟨ra,rfl,⟨_,(kj hql).seq hr⟩,Zr0 (rs.map V.ref) (λi σ Hx=>i<=rs.length/\bC H Hx/\(∃ts,Hx ql=some (.lst (ts.map V.ref))/\Ec Hx ts (KB.q0 F 0 (R.take i)))/\∃x y,σ=[some (.ref hp),some (.ref ra),some (.ref ql),x,y,v5,v6,v7,v8])
  ⟨Nat.zero_le _,kj hql,⟨[],ao,trivial⟩,_,_,rfl⟩ (λi σ Hx _ ⟨_,sm,_⟩=>sm.seq hr) ?_ ?_⟩
 ·rintro i x t σ Hx hx ⟨hi,sm,⟨ts,hts,qa⟩,y,z,rfl⟩ ht;rw[dB]at hx;obtain⟨r,er,rfl⟩:=Option.map_eq_some_iff.mp hx;obtain⟨row,eR,hrow⟩:=rw'.at er;have hil:i<rs.length:=(cV er).1;have s1:=kj (o:=.tup [.int i,.ref r]) ht;refine⟨t,_,rfl,qZ.of ao,rfl,.int i,_,rfl,?_⟩;walk_at"e";refine⟨.ref r,_,rfl,?_⟩;walk_at"e";refine⟨rfl,?_⟩;walk_at"e";refine⟨.inl ⟨rfl,_,cR.of (s1 _ _ hts)⟩,?_⟩;walk_at"e";refine⟨(by show 1<=sizeLine;decide),λt2 ht2=>?_⟩;have s2:=s1.trans (kj (o:=.tup [.int i]) ht2);walk_at"e";refine⟨hp,r,t2,F,row,[(i:Int)],rfl,v.same (sm.trans s2),(sm.trans s2).seq hrow,qZ.of ao,(λz=>nomatch z),(by show 1<=100000;decide),fw.s _ (List.mem_of_getElem? eR),λl us H' hl s3 hl' qa'=>?_⟩;have s4:=s2.trans s3;have hq':H' ql=some (.lst (ts.map V.ref)):=s4 _ _ hts;walk_at"e";have hlen:ts.length<=100000:=by
   rw[qa.len];exact Nat.le_trans (Nat.le_trans (Zj8 F R i) fw.t) (by decide)
  have hlen2:us.length<=1000:=by
   rw[qa'.len];exact Nat.le_trans KB.Lx (fw.s _ (List.mem_of_getElem? eR))
  refine⟨ql,l,_,_,rfl,rfl,hq',hl',by rw[aU,aU];exact dU (by omega),?_⟩;walk_at"e";refine⟨hil,Nf (sm.trans s4) hql,⟨ts++us,by rw[ao,List.map_append],?_⟩,_,_,rfl⟩;rw[Zj9 F R i row eR];exact((qa.same s4).app qa').tk (Zgy hq')
 ·rintro σ Hx ⟨hi,sm,⟨ts,hts,qa⟩,y,z,rfl⟩;rw[aU,hrl,List.take_length]at qa;walk_at"e";intro d hd;walk_at"e";have ndq:d≠ql:=λe=>by rw[e,hts]at hd;cases hd
  refine⟨λm σ Hx=>∃q qs k x y v7 v8,m=KB.total F R - k/\σ=[some (.ref hp),some (.ref ra),some (.ref ql),x,y,some (.ref d),some (.int (k:Nat)),v7,v8]/\RS K bw aQ H Hx ql d F R q qs k,⟨_,KB.q0 F 0 R,[],0,_,_,_,_,rfl,rfl,?_⟩,?_⟩
  ·exact⟨sm.trans (kj hd),hql,.start,Nat.zero_le _,⟨ts,by rw[aA ndq.symm];exact hts,qa.same (kj hd)⟩,⟨[],ao,trivial⟩,sm.free hd⟩
  ·rintro m σ Hy ⟨q',qs,k,x,y,v7,v8,rfl,rfl,rs'⟩;obtain⟨sm',nq,b,hk,⟨ts,hts,qa⟩,⟨kvs,hkv,la⟩,nd⟩:=rs';have hlq:=qa.len;walk_at"e";refine iI (cR.of hts) ?_;walk_at"e";have hb:=b.bound;refine pU (λz=>?_) (λz=>?_)
   ·rw[aU]at z;have hkq:k<q'.length:=by omega
    have hq:q'[k]? =some q'[k]:=cJ hkq;obtain⟨t,a,et,ht,hat⟩:=qa.at hq;generalize hx:q'[k]=pw at hq ht hat;obtain⟨p,w⟩:=pw;refine⟨λσ' H'=>∃q2 qs2 x y v7 v8,σ'=[some (.ref hp),some (.ref ra),some (.ref ql),x,y,some (.ref d),some (.int ((k:Int)+1)),v7,v8]/\RS K bw aQ H H' ql d F R q2 qs2 (k+1),?_,?_⟩
    ·rintro σ' H' ⟨q2,qs2,x,y,v7,v8,rfl,r2⟩;exact⟨KB.total F R - (k+1),by omega,q2,qs2,k+1,x,y,v7,v8,rfl,by rw[show((k+1:Nat):Int)=(k:Int)+1 from by omega],r2⟩
    have hix:atI (ts.map V.ref) ((k:Nat):Int)=some (.ref t):=dj (by rw[dB,et];rfl);walk_at"e";refine dz (cR.of hts) hix ?_;walk_at"e";refine⟨t,_,0,.int p,rfl,rfl,qZ.of ht,fQ (by decide) rfl,?_⟩;walk_at"e";refine dz (cR.of hts) hix ?_;walk_at"e";refine⟨t,_,1,.ref a,rfl,rfl,qZ.of ht,fQ (by decide) rfl,?_⟩;walk_at"e";refine⟨d,kvs,_,rfl,.inl hkv,rfl,?_⟩;walk_at"e";have gd:=b.good.1 _ (List.mem_of_getElem? hq);refine Znn (λy=>?_) (λy=>?_)
    ·have hno:nJ kvs (Sum.inl p)=none:=by
      cases e:nJ kvs (Sum.inl p)with
      | none=>rfl
      | some _=>rw[e]at y;simp at y
     have hnp:p∉qs.map (·.1):=by
      have:=la.val p;rw[hno]at this;simpa using this
     obtain⟨fl,hfl⟩:∃fl,KB.Tp F p=some fl:=Option.isSome_iff_exists.mp gd.there;walk_at"e";refine⟨d,_,rfl,Zc7.k (k:=Sum.inl p) hkv ?_,?_⟩
     ·have h2:=la.len;have h3:=Zls b;have h4:=fw.t;exact Nat.lt_of_le_of_lt (show kvs.length<=1000000 by omega) (show 1000000<sizeLine by decide)
     rw[Zfo _ hno];have nd':ql≠d:=pX hts hkv (λz=>by cases z);have s1:bC H (upd Hy d (.dK (kvs++[(Sum.inl p,.ref a)]))):=Nf sm' nd;have k1:TK Hy (upd Hy d (.dK (kvs++[(Sum.inl p,.ref a)]))):=Zr3 hkv;have q1:upd Hy d (.dK (kvs++[(Sum.inl p,.ref a)])) ql=some (.lst (ts.map V.ref)):=(aA nd').trans hts;walk_at"e";refine⟨.inl ⟨rfl,_,cR.of q1⟩,?_⟩;walk_at"e";obtain⟨ca,room,used,born,cs,ho,hl,he⟩:=(v.same s1).ex;have ho':=ho;obtain⟨⟨dx,o1⟩,o2⟩:=ho';refine aD o1 T.cC T.bJ bN ?_;walk_at"e";rcases Zhz hl he p with ⟨e1,_⟩ | ⟨fl',p',fa,b',u,t',l,e1,_,e3,e4,c⟩
     ·rw[hfl]at e1;cases e1
     rw[hfl]at e1;cases e1;refine dz (cR.of o2) (fQ e4 e3) ?_;obtain⟨⟨dc,c1⟩,c2⟩:=c;refine aD c1 T.d9 T.fW oE ?_;walk_at"e";have hw:=Zid b _ (List.mem_of_getElem? hq);have hgt:=fw.t;refine⟨hp,fa,a,F,fl,w,rfl,v.same s1,cR.of c2,qZ.of (k1 _ _ hat),?_,?_,fw.g p fl hfl,λl2 us H2 hl2 s2 hl2' qa2=>?_⟩
     ·obtain⟨r0,s0,fs0,_,e0,_⟩:=gd.ex;intro z;rw[show w=(p,w).2 from rfl,e0]at z;cases z
     ·simp only at hw;omega
     have hq2:H2 ql=some (.lst (ts.map V.ref)):=s2 _ _ q1;have hd2:H2 d=some (.dK (kvs++[(Sum.inl p,.ref a)])):=s2 _ _ ao;have k2:=k1.trans (TK.same s2);have k3:TK H2 (upd H2 ql (.lst (ts.map V.ref++us.map V.ref))):=Zgy hq2;have b2:=KB.Ms.new b hq hnp hfl;have hb2:=b2.bound;rw[List.length_append,<- qa2.len,<- hlq]at hb2;walk_at"e";refine⟨ql,l2,_,_,rfl,rfl,hq2,hl2',by rw[aU,aU];exact dU (by omega),?_⟩;walk_at"e";refine⟨_,_,_,_,_,_,rfl,⟨Nf (s1.trans s2) nq,nq,b2,by rw[List.length_append];omega,⟨ts++us,by rw[ao,List.map_append],(((qa.tk k2).app qa2).tk k3)⟩,⟨_,by rw[aA nd'.symm];exact hd2,((la.tk k2).app ?_).tk k3⟩,nd⟩⟩;exact⟨⟨rfl,a,rfl,k2 _ _ hat⟩,trivial⟩
    ·have hin:p∈qs.map (·.1):=by
      have:=la.val p;cases e:nJ kvs (Sum.inl p)with
      | none=>rw[e]at y;simp at y
      | some _=>rw[e]at this;simpa using this.symm
     walk_at"e";exact⟨_,_,_,_,_,_,rfl,⟨sm',nq,.old b hq hin,by omega,⟨ts,hts,qa⟩,⟨kvs,hkv,la⟩,nd⟩⟩
   ·rw[aU]at z;have hkq:k=q'.length:=by omega
    subst hkq;walk_at"e";refine⟨d,kvs,rfl,.inl hkv,λvw hvw=>?_⟩;walk_at"e";have s1:=kj (o:=Js vw d) hvw;refine Zku ao (.inl (s1 _ _ hkv)) λl us H2 hl s2 hl2 pa=>?_;walk_at"e";exact q l us q' qs H2 b ((sm'.trans s1).free hl) ((sm'.trans s1).trans s2) hl2 ((la.tk (TK.same (s1.trans s2))).prs pa)
end
def fdOf(M:Wm):KB.Fd:=M.cells.map λo=>o.map (·.fl)
theorem WM.hv{X:Cs}{H:Hp}{T:Tg}{s:Nat}{A:Wa}{M:Wm}(j:WM X H T s A M):HV X.C X.H H A.hp (fdOf M):=by
 have hl:=j.jc.lc;refine⟨A.ca,M.room,M.used,M.born,A.cs.map pV,j.hpO,by unfold fdOf;rw[aU,aU];exact hl,λi x hx=>?_⟩;unfold fdOf at hx;rw[dB]at hx;obtain⟨o,ho,rfl⟩:=Option.map_eq_some_iff.mp hx;cases o with
 | none=>
  show(A.cs.map pV)[i]? =some .non;rw[dB,j.jc.at0 ho];rfl
 | some c=>
  obtain⟨p,hp,ce⟩:=j.jc.at ho;obtain⟨_,_,o1,o2⟩:=ce;exact⟨p.1,p.2,c.birth,c.bulk,c.tone,c.load,by rw[dB,hp];rfl,⟨o1,o2⟩⟩
theorem Zbr{M:Wm}(x:Int):KB.Tp (fdOf M) x=(cellAt M x).map (·.fl):=by
 unfold KB.Tp fdOf cellAt
 by_cases h:0<=x
 ·rw[if_pos h,if_pos h,dB];cases M.cells[x.toNat]? with
  | none=>rfl
  | some o=>cases o<;>rfl
 ·rw[if_neg h,if_neg h];rfl
section
variable {K:aC}{X:Cs}{H:Hp}{Q:VK}{E:XK}{n:St->Hp->Prop}{bk ct:St->Hp->Prop}
theorem Zdr{hp a wt:Addr}{F:KB.Fd}{ps:List (Option Int)}{w:List Int}(q:HV X.C X.H H hp F/\cR K H a (ps.map oV)/\qZ K H wt (w.map V.int)/\w≠[]/\w.length<=100000/\ps.length<=1000/\∀l ts H',H l=none->bC H H'->H' l=some (.lst (ts.map V.ref))->Ec H' ts (KB.onw F w 0 ps)->Q (.ref l) H'):
  Bm K (fH X.H) ⟨n,Q,bk,ct⟩ [some (.ref hp),some (.ref a),some (.ref wt)] H:=by
 obtain⟨v,h1,h2,h3,h4,h5,q⟩:=q;exact Zam v h1 h2 h3 h4 h5 (λe=>Zmo e h2) q
theorem Za8{hp ra:Addr}{F:KB.Fd}{rs:List Addr}{R:KB.Rw}(T:qU K X)(q:HV X.C X.H H hp F/\cR K H ra (rs.map V.ref)/\DY K H rs R/\Few F R/\∀l ts q qs H',KB.Ms F R q q.length qs->H l=none->bC H H'->H' l=some (.lst (ts.map V.ref))->Ec H' ts qs->Q (.ref l) H'):
  xT K (Bf K X.C X.H) ⟨n,Q,bk,ct⟩ [some (.ref hp),some (.ref ra),none,none,none,none,none,none,none] H:=by
 obtain⟨v,h1,h2,h3,q⟩:=q;exact Xy T.c v h1 h2 h3 q
end
theorem toN{x:Int}(h:0<=x):∃k:Nat,x=k:=⟨x.toNat,by omega⟩
def gK(bits:Int):List (Str×List (Option Int))->Nat->Wm->List Int×Wm
 | [],_,M=>([],M)
 | m::l,k,M=>if bits / 2 ^ k % 2=1 then((aN M m.2).1++(gK bits l (k+1) (aN M m.2).2).1,(gK bits l (k+1) (aN M m.2).2).2)else gK bits l (k+1) M
def lsE(x:Int):Nat->Nat->Int
 | _,0=>0
 | i,n+1=>if x / 2 ^ i % 2=0 then 2 ^ i else lsE x (i+1) n
def uO(k:Nat)(lo:Int)(n:Nat):Int:=if k=0 then 0 else if k=1 then lsE lo 0 n else 2 ^ n - 1
theorem N5(bits:Int)(m:Str×List (Option Int)):∀(l:List (Str×List (Option Int))) (k:Nat) (M:Wm),gK bits (l++[m]) k M=if bits / 2 ^ (k+l.length) % 2=1 then((gK bits l k M).1++(aN (gK bits l k M).2 m.2).1,(aN (gK bits l k M).2 m.2).2)else gK bits l k M
 | [],k,M=>by
  show(if bits / 2 ^ k % 2=1 then((aN M m.2).1++[],(aN M m.2).2)else([],M))=_;rw[List.append_nil];rfl
 | a::l,k,M=>by
  have e:k+(a::l).length=k+1+l.length:=by rw[List.length_cons];omega
  rw[e,List.cons_append];show(if bits / 2 ^ k % 2=1 then((aN M a.2).1++(gK bits (l++[m]) (k+1) (aN M a.2).2).1,(gK bits (l++[m]) (k+1) (aN M a.2).2).2)else gK bits (l++[m]) (k+1) M)=_;show _=if bits / 2 ^ (k+1+l.length) % 2=1 then(((if bits / 2 ^ k % 2=1 then((aN M a.2).1++(gK bits l (k+1) (aN M a.2).2).1,(gK bits l (k+1) (aN M a.2).2).2)else gK bits l (k+1) M)).1++(aN (if bits / 2 ^ k % 2=1 then((aN M a.2).1++(gK bits l (k+1) (aN M a.2).2).1,(gK bits l (k+1) (aN M a.2).2).2)else gK bits l (k+1) M).2 m.2).1,(aN (if bits / 2 ^ k % 2=1 then((aN M a.2).1++(gK bits l (k+1) (aN M a.2).2).1,(gK bits l (k+1) (aN M a.2).2).2)else gK bits l (k+1) M).2 m.2).2)else(if bits / 2 ^ k % 2=1 then((aN M a.2).1++(gK bits l (k+1) (aN M a.2).2).1,(gK bits l (k+1) (aN M a.2).2).2)else gK bits l (k+1) M)
  by_cases h:bits / 2 ^ k % 2=1
  ·simp only[if_pos h];rw[N5 bits m l (k+1)]
   by_cases h2:bits / 2 ^ (k+1+l.length) % 2=1
   ·simp only[if_pos h2,List.append_assoc]
   ·simp only[if_neg h2]
  ·simp only[if_neg h];rw[N5 bits m l (k+1)]
theorem Fz:∀{l:List (Option Int)}{M:Wm},(aN M l).2.hands=M.hands
 | [],_=>rfl
 | x::l,M=>by
  show(aN (bI M x).2 l).2.hands=_;rw[Fz,J0]
theorem pD(bits:Int)(B:Nat):∀(l:List (Str×List (Option Int))) (k:Nat) (M:Wm),(∀m∈l,m.2.length<=B)->(gK bits l k M).2.sw.phase=M.sw.phase/\(gK bits l k M).2.sw.grey.length<=M.sw.grey.length+l.length * B/\(gK bits l k M).1.length<=l.length * B/\(gK bits l k M).2.hands=M.hands
 | [],_,_,_=>by simp[gK]
 | m::l,k,M,h=>by
  have hm:=h m (by simp);have e:(m::l).length * B=l.length * B+B:=by rw[List.length_cons,Nat.succ_mul]
  unfold gK
  by_cases z:bits / 2 ^ k % 2=1
  ·rw[if_pos z];obtain⟨a1,a2,a3,a4⟩:=pD bits B l (k+1) (aN M m.2).2 λx hx=>h x (by simp[hx]);obtain⟨b1,b2⟩:=uN (l:=m.2) (M:=M);have b3:=yw (l:=m.2) (M:=M);exact⟨a1.trans b1,by show(gK bits l (k+1) (aN M m.2).2).2.sw.grey.length<=_;omega,by show((aN M m.2).1++_).length<=_;rw[List.length_append];omega,a4.trans Fz⟩
  ·rw[if_neg z];obtain⟨a1,a2,a3,a4⟩:=pD bits B l (k+1) M λx hx=>h x (by simp[hx]);exact⟨a1,by omega,by omega,a4⟩
structure ZG(M M':Wm):Prop where
 rm:M'.room=M.room
 us:M'.used=M.used
 bn:M'.born=M.born
 hd:M'.hands=M.hands
 nm:M'.names=M.names
 ww:M'.w=M.w
 tl:M'.tells=M.tells
 sw:∃g,M'.sw={ M.sw with grey:=g }
 ce:M'.cells.map (λo=>o.map λc=>{ c with tone:=0 })=M.cells.map (λo=>o.map λc=>{ c with tone:=0 })
theorem ZG.refl(M:Wm):ZG M M:=⟨rfl,rfl,rfl,rfl,rfl,rfl,rfl,⟨_,rfl⟩,rfl⟩
theorem ZG.trans{M M1 M2:Wm}(a:ZG M M1)(b:ZG M1 M2):ZG M M2:=by
 obtain⟨a1,a2,a3,a4,a5,a6,a7,⟨g,a8⟩,a9⟩:=a;obtain⟨b1,b2,b3,b4,b5,b6,b7,⟨g',b8⟩,b9⟩:=b;exact⟨b1.trans a1,b2.trans a2,b3.trans a3,b4.trans a4,b5.trans a5,b6.trans a6,b7.trans a7,⟨g',by rw[b8,a8]⟩,b9.trans a9⟩
theorem Ye(M:Wm)(x:Option Int):ZG M (bI M x).2:=by
 cases x with
 | none=>exact ZG.refl M
 | some i=>
  unfold bI;dsimp only;cases hc:cellAt M i with
  | none=>exact ZG.refl M
  | some c=>
   dsimp only;split
   ·obtain⟨h0,h1⟩:=cj.mp hc;refine⟨rfl,rfl,rfl,rfl,rfl,rfl,rfl,⟨_,rfl⟩,?_⟩;show(M.cells.set i.toNat _).map _=_;rw[List.map_set];refine List.ext_getElem? λk=>?_
    by_cases z:i.toNat=k
    ·subst z;rw[List.getElem?_set_self (by rw[aU];exact(cV h1).1),dB,h1];rfl
    ·rw[List.getElem?_set_ne z]
   ·exact ZG.refl M
theorem wK:∀(l:List (Option Int)) (M:Wm),ZG M (aN M l).2
 | [],M=>ZG.refl M
 | x::l,M=>(Ye M x).trans (wK l _)
theorem vQ(bits:Int):∀(l:List (Str×List (Option Int))) (k:Nat) (M:Wm),ZG M (gK bits l k M).2
 | [],_,M=>ZG.refl M
 | m::l,k,M=>by
  unfold gK;split
  ·exact(wK m.2 M).trans (vQ bits l (k+1) _)
  ·exact vQ bits l (k+1) M
theorem Zgf(bits:Int)(l:List (Str×List (Option Int)))(k:Nat)(M:Wm):(gK bits l k M).2.sw.turn=M.sw.turn/\(gK bits l k M).2.sw.looked=M.sw.looked/\(gK bits l k M).2.sw.looks=M.sw.looks:=by
 obtain⟨g,e⟩:=(vQ bits l k M).sw;rw[e];exact⟨rfl,rfl,rfl⟩
theorem Zdu{M:Wm}{x:Option Int}(h:(bI M x).1=none):(bI M x).2=M:=by
 cases x with
 | none=>rfl
 | some i=>
  unfold bI at h ⊢;dsimp only at h ⊢;cases hc:cellAt M i with
  | none=>rfl
  | some c=>
   rw[hc]at h;dsimp only at h ⊢;split
   ·rename_i z
    rw[if_pos z]at h;cases h
   ·rfl
theorem NP:∀{l:List (Option Int)}{M:Wm},(aN M l).1=[]->(aN M l).2=M
 | [],_,_=>rfl
 | x::l,M,h=>by
  have h:Vl (bI M x).1++(aN (bI M x).2 l).1=[]:=h;obtain⟨h1,h2⟩:=List.append_eq_nil_iff.mp h;have h3:(bI M x).1=none:=by
   cases e:(bI M x).1 with
   | none=>rfl
   | some b=>rw[e]at h1;cases h1
  show(aN (bI M x).2 l).2=M;rw[NP h2,Zdu h3]
theorem Vo(bits:Int):∀{l:List (Str×List (Option Int))}{k:Nat}{M:Wm},(gK bits l k M).1=[]->(gK bits l k M).2=M
 | [],_,_,_=>rfl
 | m::l,k,M,h=>by
  unfold gK at h ⊢;split
  ·rename_i z
   rw[if_pos z]at h;obtain⟨h1,h2⟩:=List.append_eq_nil_iff.mp h;show(gK bits l (k+1) (aN M m.2).2).2=M;rw[Vo bits h2,NP h1]
  ·rename_i z
   rw[if_neg z]at h;exact Vo bits h
theorem Yo:∀(l:List (Str×List (Option Int))) (k:Nat) (M:Wm),gK 0 l k M=([],M)
 | [],_,_=>rfl
 | m::l,k,M=>by
  unfold gK;rw[if_neg (by simp),Yo l (k+1) M]
def jM(X:Cs):Sp:=λvs H Q E=>∃wo bits,vs=[.ref wo,.int bits]/\∃T s A M,WT H T/\s≠0/\WJ X H T s A M/\A.wo=wo/\(∀m∈M.hands,m.2.length<=100)/\(M.sw.phase="walk"->M.sw.grey.length<=5000)/\
 ∀H' T' l,fj s H H' T T'->WJ X H' T' s A (gK bits M.hands 0 M).2->H' l=some (.lst ((gK bits M.hands 0 M).1.map V.int))->H l=none->Q (.ref l) H'
def gF(k:Nat):Sp:=λvs H Q E=>∃a lo h,vs=[.ref a,.int lo,.int h]/\0<=h/\h<=30/\Q (.int (uO k lo h.toNat)) H
section
variable {K:aC}{X:Cs}{H:Hp}{Q:VK}{E:XK}{n:St->Hp->Prop}{bk ct:St->Hp->Prop}
theorem JQ{a:Addr}(q:Q (.bl true) H):qi ⟨n,Q,bk,ct⟩ [some (.ref a)] H:=by
 unfold qi;walk_at"e";exact q
theorem RV{a:Addr}(q:Q (.bl false) H):vI ⟨n,Q,bk,ct⟩ [some (.ref a)] H:=by
 unfold vI;walk_at"e";exact q
theorem Bh{a:Addr}{lo h:Int}(q:0<=h/\h<=30/\Q (.int (uO 0 lo h.toNat)) H):mL ⟨n,Q,bk,ct⟩ [some (.ref a),some (.int lo),some (.int h)] H:=by
 unfold mL;walk_at"e";exact q.2.2
theorem Hu{a:Addr}{lo h:Int}(q:0<=h/\h<=30/\Q (.int (uO 2 lo h.toNat)) H):o9 uw ⟨n,Q,bk,ct⟩ [some (.ref a),some (.int lo),some (.int h)] H:=by
 obtain⟨h0,h1,q⟩:=q;unfold o9;walk_at"e";exact⟨h,rfl,h0,h1,q⟩
theorem HD{a:Addr}{lo h:Int}(q:0<=h/\h<=30/\Q (.int (uO 1 lo h.toNat)) H):pA ⟨n,Q,bk,ct⟩ [some (.ref a),some (.int lo),some (.int h),none] H:=by
 obtain⟨h0,h1,q⟩:=q;have q:Q (.int (lsE lo 0 h.toNat)) H:=q;unfold pA;walk_at"e";refine⟨h,rfl,by omega,by omega,?_⟩;refine forR (λi σ Hx=>∃v,σ=[some (.ref a),some (.int lo),some (.int h),v]/\Hx=H/\(i<=h.toNat->lsE lo 0 h.toNat=lsE lo i (h.toNat - i))) ⟨none,rfl,rfl,λ_=>rfl⟩ ?_ ?_
 ·rintro i σ Hx hi ⟨v,rfl,rfl,el⟩;have el:=el (by omega);have es:h.toNat - i=(h.toNat - (i+1))+1:=by omega
  rw[es]at el;have ei:lsE lo i (h.toNat - (i+1)+1)=if lo / 2 ^ i % 2=0 then 2 ^ i else lsE lo (i+1) (h.toNat - (i+1)):=rfl
  rw[ei]at el;have en:((0:Int)+(i:Int)).toNat=i:=by omega
  walk_at"e";rw[en,Zov];refine pU (λz=>?_) (λz=>?_)
  ·rw[if_pos z]at el;walk_at"e";refine i_I (Zmb (by omega) (by omega)) ?_;rw[en,Int.one_mul,<- el];exact q
  ·rw[if_neg z]at el;walk_at"e";exact⟨_,rfl,rfl,λ_=>el⟩
 ·rintro σ Hx ⟨v,rfl,rfl,el⟩;have el:=el (Nat.le_refl _);rw[Nat.sub_self]at el;have el:lsE lo 0 h.toNat=0:=el;walk_at"e";rw[el]at q;exact q
theorem QV{wo:Addr}{bits:Int}(Tx:qU K X)(q:∃T s A M,WT H T/\s≠0/\WJ X H T s A M/\A.wo=wo/\(∀m∈M.hands,m.2.length<=100)/\(M.sw.phase="walk"->M.sw.grey.length<=5000)/\
 ∀H' T' l,fj s H H' T T'->WJ X H' T' s A (gK bits M.hands 0 M).2->H' l=some (.lst ((gK bits M.hands 0 M).1.map V.int))->H l=none->Q (.ref l) H'):
  vq K (oN X) ⟨n,Q,bk,ct⟩ [some (.ref wo),some (.int bits),none,none,none] H:=by
 obtain⟨T,s,A,M,w,s0,j,rfl,hs,hg,q⟩:=q;have lh:=j.jd.lh;have l5:=j.jd.l5;unfold vq;walk_at"e";refine⟨dU (by simp),λl hl=>?_⟩;have st1:fj s H (upd H l (.lst [])) T (fG T l (s+1,1)):=fj.fresh w hl;have j1:WJ X (upd H l (.lst [])) (fG T l (s+1,1)) s A M:=j.fresh hl;have g1:upd H l (.lst []) l=some (.lst []):=ao;have tl:fG T l (s+1,1) l=(s+1,1):=eX;generalize upd H l (.lst [])=H1 at st1 j1 g1 ⊢;generalize fG T l (s+1,1)=T1 at st1 j1 tl;obtain⟨dw,ow⟩:=j1.jb.ow;walk_at"e";refine aD ow Tx.cW Tx.nWd eO ?_;walk_at"e";refine⟨A.hl,rfl,⟨_,cR.of j1.jb.on⟩,Zr0 (A.hs.map λp=>V.ref p.1) (λi σ Hx=>∃T' v3 v4,σ=[some (.ref A.wo),some (.int bits),some (.ref l),v3,v4]/\fj s H Hx T T'/\T' l=(s+1,1)/\WJ X Hx T' s A (gK bits (M.hands.take i) 0 M).2/\Hx l=some (.lst ((gK bits (M.hands.take i) 0 M).1.map V.int))) ⟨T1,_,_,rfl,st1,tl,j1,g1⟩ (λ_ _ _ _ ⟨_,_,_,_,_,_,z,_⟩=>cR.of z.jb.on) ?_ ?_⟩
 ·rintro i x t σ Hx hx ⟨T2,v3,v4,rfl,st2,tl2,j2,g2⟩ ht;rw[dB]at hx;obtain⟨p,hp,rfl⟩:=Option.map_eq_some_iff.mp hx;have hil:i<A.hs.length:=(cV hp).1;obtain⟨m,hm⟩:∃m,M.hands[i]? =some m:=⟨_,cJ (by omega)⟩;have etk:M.hands.take (i+1)=M.hands.take i++[m]:=by rw[List.take_add_one,hm];rfl
  have ltk:(M.hands.take i).length=i:=by rw[List.length_take];omega
  obtain⟨n1,n2,n3,n4⟩:=pD bits 100 (M.hands.take i) 0 M λx hx=>hs x (List.mem_of_mem_take hx);have sn:=N5 bits m (M.hands.take i) 0 M;rw[<- etk,Nat.zero_add,ltk]at sn;generalize zz:upd Hx t _=H3;obtain⟨s1,g1'⟩:=nwO ht zz;have j3:=j2.same s1;have st3:=st2.trans (fj.same (s:=s) st2.wt s1);have g3:=s1 _ _ g2;refine⟨t,_,rfl,qZ.of g1',rfl,.int i,_,rfl,?_⟩;walk_at"e";refine⟨.ref p.1,_,rfl,?_⟩;walk_at"e";refine⟨rfl,?_⟩;walk_at"e";rw[Zov,Int.toNat_natCast];refine pU (λz=>?_) (λz=>?_)
  ·rw[if_pos z]at sn;walk_at"e";refine⟨.inl ⟨rfl,_,cR.of g3⟩,?_⟩;have hm3:(gK bits (M.hands.take i) 0 M).2.hands[i]? =some m:=by rw[n4];exact hm
   have hd:=j3.jd.hd i p m hp hm3;obtain⟨dx,o1⟩:=hd.o1;have Zqu:=hs m (List.mem_of_getElem? hm);have hB:(M.hands.take i).length * 100<=3000:=by rw[ltk];omega
   walk_at"e";refine aD o1 Tx.cD Tx.nDs pL ?_;walk_at"e";refine⟨_,_,rfl,m.2,T2,s,A,_,st3.wt,s0,j3,rfl,.inr (.inl ⟨i,p,m,hp,hm3,rfl,rfl⟩),Zqu,λy=>?_,λH4 T4 l4 st4 j4 g4 nl4=>?_⟩
   ·have:=hg (n1.symm.trans y);omega
   have g5:H4 l=some (.lst ((gK bits (M.hands.take i) 0 M).1.map V.int)):=st4.kp _ _ g3 (by rw[tl2];show s+1≠s;omega);have nl:=yw (l:=m.2) (M:=(gK bits (M.hands.take i) 0 M).2);walk_at"e";refine⟨l,l4,_,_,rfl,rfl,g5,g4,by rw[aU,aU];exact dU (by omega),?_⟩;walk_at"e";have tl4:T4 l=(s+1,1):=(st4.tg _ _ g3).trans tl2;refine⟨T4,_,_,rfl,fj.new (st3.trans st4) hl g5,tl4,?_,?_⟩
   ·rw[sn];exact j4.other (s':=s+1) (fj.upd st4.wt g5 (by rw[tl4])) (by omega) (by omega)
   ·rw[sn,ao,List.map_append]
  ·rw[if_neg z]at sn;walk_at"e";exact⟨T2,_,_,rfl,st3,tl2,by rw[sn];exact j3,by rw[sn];exact g3⟩
 ·rintro σ Hx ⟨T2,v3,v4,rfl,st2,tl2,j2,g2⟩;walk_at"e";rw[aU,lh,List.take_length]at j2 g2;exact q Hx T2 l st2 j2 g2 hl
end
structure Zc0(M:Wm):Prop where
 cl:M.cells.length<=900
 hl:∀m∈M.hands,m.2.length<=100
 fl:∀c,some c∈M.cells->c.fl.length<=50
 nl:M.names.length<=900
 gl:M.sw.phase="walk"->M.sw.grey.length<=900
 gc:M.sw.phase="walk"->∀x∈M.sw.grey,∃c,cellAt M x=some c
 ph:M.sw.phase="rest"\/M.sw.phase="walk"\/M.sw.phase="give"\/M.sw.phase="lost"
 a0:0<=M.sw.at'
def Zic(H:Hp)(T:Tg)(M:Wm)(b:Int)(w:List Int):Prop:=∃a wl,M.sw.loss=.ref a/\T a=(0,0)/\H a=some (.tup [.str "lost",.int b,.ref wl])/\T wl=(0,0)/\H wl=some (.lst (w.map V.int))
def tX(M:Wm)(i:Nat):Option Ce:=((M.cells[i]?).join).bind λc=>if c.tone=M.sw.sense then none else some c
def rQ(M:Wm):List Int:=(List.range M.cells.length).filterMap λi=>(tX M i).map λ_=>(i:Int)
def oH(M:Wm):List Int:=(List.range M.cells.length).filterMap λi=>(tX M i).map (·.birth)
def iV(M:Wm):Wm:={ M with sw:={ M.sw with stop:=M.cells.length,at':=0 } }
def bH(M:Wm):Int:=uO M.w.toNat M.sw.looked M.hands.length
def uq(M:Wm):Prop:=bH M=0\/(M.w=2/\(gK (bH M) M.hands 0 M).1=[])
inductive nT(lb:Int)(lw:List Int)(M:Wm):Ev->Wm->Prop
 | begin:M.sw.phase="rest"->nT lb lw M ⟨"begin",some (M.sw.turn+1),(gK (bM M.w M.hands.length) M.hands 0 (gW M)).1⟩ (gK (bM M.w M.hands.length) M.hands 0 (gW M)).2
 | walk (x:Int) (g:List Int) (c:Ce):M.sw.phase="walk"->M.sw.grey=x::g->cellAt M x=some c->nT lb lw M ⟨"walk",some c.birth,(aN { M with sw:={ M.sw with grey:=g,walks:=M.sw.walks+1 } } c.fl).1⟩ (aN { M with sw:={ M.sw with grey:=g,walks:=M.sw.walks+1 } } c.fl).2
 | look (N:Wm):M.sw.phase="walk"->M.sw.grey=[]->¬ uq M->N=(gK (bH M) M.hands 0 M).2->nT lb lw M ⟨"look",some (bH M),(gK (bH M) M.hands 0 M).1⟩ { N with sw:={ N.sw with looks:=N.sw.looks+1,looked:=if M.w=2 then N.sw.looked else Builtin.bitOr N.sw.looked (bH M) } }
 | cut (q qs:List (Int×List Int)):M.sw.phase="walk"->M.sw.grey=[]->uq M->KB.Ms (fdOf M) (iY M) q q.length qs->(∀x∈qs,∀c,cellAt M x.1=some c->c.tone=M.sw.sense)->nT lb lw M ⟨"cut",some (oH M).length,oH M⟩ { iV M with sw:={ (iV M).sw with phase:="give" } }
 | lost (q qs:List (Int×List Int)) (i:Nat) (x:Int×List Int) (c:Ce) (v:V):M.sw.phase="walk"->M.sw.grey=[]->uq M->KB.Ms (fdOf M) (iY M) q q.length qs->qs[i]? =some x->(∀(k:Nat) y d,k<i->qs[k]? =some y->cellAt M y.1=some d->d.tone=M.sw.sense)->cellAt M x.1=some c->c.tone≠M.sw.sense->nT lb lw M ⟨"lost",some c.birth,x.2⟩ { iV M with sw:={ (iV M).sw with phase:="lost",loss:=v } }
 | pass:M.sw.phase="give"->M.sw.at'<M.sw.stop->(∀c,cellAt M M.sw.at'=some c->c.tone=M.sw.sense)->nT lb lw M ⟨"pass",some M.sw.at',[]⟩ { M with sw:={ M.sw with at':=M.sw.at'+1,passes:=M.sw.passes+1 } }
 | back (c:Ce):M.sw.phase="give"->M.sw.at'<M.sw.stop->cellAt M M.sw.at'=some c->c.tone≠M.sw.sense->nT lb lw M ⟨"back",some c.birth,[M.sw.at']⟩ { M with used:=M.used - (1+c.fl.length+c.bulk),cells:=M.cells.set M.sw.at'.toNat none,sw:={ M.sw with at':=M.sw.at'+1,passes:=M.sw.passes+1 } }
 | fin:M.sw.phase="give"->¬ M.sw.at'<M.sw.stop->nT lb lw M ⟨"end",some M.sw.turn,[M.sw.walks,M.sw.looks,M.sw.passes]⟩ { M with sw:={ M.sw with phase:="rest" } }
 | again:M.sw.phase="lost"->nT lb lw M ⟨"lost",some lb,lw⟩ M
def Be(X:Cs)(P:Wm->Prop)(wo:Addr)(H:Hp)(Q:VK):Prop:=∃T s A M lb lw,WT H T/\s≠0/\WJ X H T s A M/\A.wo=wo/\Zc0 M/\P M/\(M.sw.phase="lost"->Zic H T M lb lw)/\
 ∀e M',nT lb lw M e M'->∀H' T' A' a,fj s H H' T T'->WJ X H' T' s A' M'->A'.wo=wo/\A'.sw=A.sw->EvN H H' a e->(M'.sw.phase="lost"->∃b,e.thing=some b/\Zic H' T' M' b e.notes)->Q (.ref a) H'
def bT(X:Cs)(P:Wm->Prop):Sp:=λvs H Q E=>∃wo,vs=[.ref wo]/\Be X P wo H Q
def XN(M:Wm):Prop:=M.sw.phase="walk"/\M.sw.grey≠[]
def XS(M:Wm):Prop:=M.sw.phase="walk"/\M.sw.grey=[]
def Zai(M:Wm):Prop:=M.sw.phase="walk"/\M.sw.grey=[]/\uq M
def XR(M:Wm):Prop:=M.sw.phase="give"/\M.sw.at'<M.sw.stop
def pEnd(M:Wm):Prop:=M.sw.phase="give"/\¬ M.sw.at'<M.sw.stop
def Ls(z:Str)(M:Wm):Prop:=M.sw.phase=z
def Zg3(_:Wm):Prop:=True
def lK(K:aC):Sp:=λvs H Q E=>∃ev,vs=[.ref ev]/\∃z b l,∃ns:List Int,H ev=some (.tup [.str z,.int b,.ref l])/\H l=some (.lst (ns.map V.int))/\∀a l' H',bC H H'->H l'=none->H' a=some (.tup [.str z,.int b,.ref l'])->H' l'=some (.lst (ns.map V.int))->Q (.ref a) H'
def yL(X:Cs):Sp:=λvs H Q E=>∃wo,vs=[.ref wo]/\∃T s A M,WJ X H T s A M/\A.wo=wo/\M.cells.length<=900/\∀l H',bC H H'->H l=none->H' l=some (.lst ((rQ M).map V.int))->Q (.ref l) H'
section
variable {K:aC}{X:Cs}{H:Hp}{Q:VK}{E:XK}{n:St->Hp->Prop}{bk ct:St->Hp->Prop}
theorem Px{ev:Addr}(q:∃z b l,∃ns:List Int,H ev=some (.tup [.str z,.int b,.ref l])/\H l=some (.lst (ns.map V.int))/\∀a l' H',bC H H'->H l'=none->H' a=some (.tup [.str z,.int b,.ref l'])->H' l'=some (.lst (ns.map V.int))->Q (.ref a) H'):
  vo K ⟨n,Q,bk,ct⟩ [some (.ref ev)] H:=by
 obtain⟨z,b,l,ns,o1,o2,q⟩:=q;unfold vo;walk_at"e";refine⟨ev,_,0,_,rfl,rfl,qZ.of o1,rfl,?_⟩;walk_at"e";refine⟨ev,_,1,_,rfl,rfl,qZ.of o1,rfl,?_⟩;walk_at"e";refine⟨ev,_,2,_,rfl,rfl,qZ.of o1,rfl,?_⟩;walk_at"e";refine Zcu (cR.of o2) λl' nl'=>?_;generalize zz:upd H l' _=H1;obtain⟨s1,g1⟩:=nwO nl' zz;walk_at"e";refine⟨dU (by simp),λa na=>?_⟩;have s2:=aL na (.tup [.str z,.int b,.ref l']);exact q a l' _ (s1.trans s2) nl' ao (s2 _ _ g1)
theorem nQ{α β:Type}{f g:α->Option β}:∀{l:List α},(∀x∈l,f x=g x)->l.filterMap f=l.filterMap g
 | [],_=>rfl
 | x::l,h=>by
  rw[List.filterMap_cons,List.filterMap_cons,h x (by simp),nQ λy hy=>h y (by simp[hy])]
theorem wH{α β:Type}(f:α->Option β):∀(xs:List α),(List.range xs.length).filterMap (λi=>(xs[i]?).bind f)=xs.filterMap f
 | []=>rfl
 | x::xs=>by
  rw[List.length_cons,List.range_succ_eq_map,List.filterMap_cons];simp only[List.getElem?_cons_zero,Option.bind_some,List.filterMap_map,List.filterMap_cons];have e:((λi=>((x::xs)[i]?).bind f) ∘ Nat.succ)=λi=>(xs[i]?).bind f:=by
   funext i
   simp
  rw[e,wH f xs]
theorem Zdn{A:Wa}{M:Wm}{T:Tg}{s:Nat}(j:WJ X H T s A M)(f:V->Option V)(hf:∀(i:Nat) (c:Ce),M.cells[i]? =some (some c)->f (.int i)=(tX M i).map λ_=>V.int i):((XJ (A.cs.map pV)).map V.int).filterMap f=(rQ M).map V.int:=by
 unfold XJ rQ;rw[List.filterMap_map,List.filterMap_map,List.filterMap_filter,List.map_filterMap,aU,j.jc.lc];refine nQ λi hi=>?_;have hil:=List.mem_range.mp hi;have e:(A.cs.map pV)[i]? =some V.non↔M.cells[i]? =some none:=by
  constructor
  ·intro z;cases hc:M.cells[i]with
   | none=>rw[cJ hil,hc]
   | some c=>
    obtain⟨p,hp,_⟩:=j.jc.at (i:=i) (c:=c) (by rw[cJ hil,hc]);rw[dB,hp]at z;cases z
  ·intro z;rw[dB,j.jc.at0 z];rfl
 by_cases z:M.cells[i]? =some none
 ·rw[if_neg (by simp[e.mpr z])];unfold tX;rw[z];rfl
 ·have hne:¬ (A.cs.map pV)[i]? =some V.non:=λy=>z (e.mp y);rw[if_pos (by simp only[hne,decide_false,Bool.not_false])];cases hc:M.cells[i]with
  | none=>exact absurd (by rw[cJ hil,hc]) z
  | some c=>
   show f (.int (i:Int))=_;rw[hf i c (by rw[cJ hil,hc]),Option.map_map];rfl
theorem Y6{wo:Addr}(Tx:qU K X)(q:∃T s A M,WJ X H T s A M/\A.wo=wo/\M.cells.length<=900/\∀l H',bC H H'->H l=none->H' l=some (.lst ((rQ M).map V.int))->Q (.ref l) H'):
  zT K X.H (lM X.H) (cL X) ⟨n,Q,bk,ct⟩ [some (.ref wo),none] H:=by
 obtain⟨T,s,A,M,j,rfl,hc,q⟩:=q;obtain⟨dw,ow⟩:=j.jb.ow;obtain⟨dh,oh⟩:=j.jh.oh;unfold zT;walk_at"e";refine aD ow Tx.cW Tx.Xg bZ ?_;walk_at"e";refine Av ?_;walk_at"e";refine⟨A.hp,dh,_,rfl,oh,Az,?_⟩;walk_at"e";refine⟨_,rfl,A.ca,M.room,M.used,M.born,_,j.hpO,by rw[aU,j.jc.lc];omega,λlt nlt=>?_⟩;generalize zz:upd H lt _=H1;obtain⟨s1,g1⟩:=nwO nlt zz;have j1:=j.same s1;have lp:(XJ (A.cs.map pV)).length<=900:=by
  unfold XJ;rw[aU];refine Nat.le_trans (List.length_filter_le _ _) ?_;rw[List.length_range,aU,j.jc.lc];exact hc
 refine⟨lt,rfl,⟨_,cR.of g1⟩,?_⟩
 let f:V->Option V:=λv=>match v with
  | .int p=>(tX M p.toNat).map λ_=>V.int p
  | _=>none
 refine Gk (cR.of g1) (λi=>(((XJ (A.cs.map pV)).map V.int)[i]?).bind f) (by rw[aU];omega) (λi x hi=>?_) ?_
 ·rw[dB]at hi;obtain⟨p,hp,rfl⟩:=Option.map_eq_some_iff.mp hi;have hm:=List.mem_of_getElem? hp;unfold XJ at hm;obtain⟨k,hk,rfl⟩:=List.mem_map.mp hm;obtain⟨hk1,hk2⟩:=List.mem_filter.mp hk;have hkl:k<M.cells.length:=by
   have:=List.mem_range.mp hk1;rw[aU,j.jc.lc]at this;exact this
  obtain⟨c,hcc⟩:∃c,M.cells[k]? =some (some c):=by
   cases h3:M.cells[k]with
   | none=>
    exfalso
    have:(A.cs.map pV)[k]? =some V.non:=by rw[dB,j.jc.at0 (i:=k) (by rw[cJ hkl,h3])];rfl
    simp[this]at hk2
   | some c=>exact⟨c,by rw[cJ hkl,h3]⟩
  obtain⟨pp,hpp,ce⟩:=j1.jc.at hcc;have ef:(((XJ (A.cs.map pV)).map V.int)[i]?).bind f=(tX M k).map λ_=>V.int (k:Int):=by
   rw[dB,hp];show(tX M (Int.toNat k)).map _=_;rw[Int.toNat_natCast]
  have ep:(tX M k)=if c.tone=M.sw.sense then none else some c:=by unfold tX;rw[hcc];rfl
  obtain⟨dh1,oh1⟩:=j1.jh.oh;refine⟨λq hq=>?_,λy q hy hq=>?_⟩
  ·rw[ef,ep]at hq;walk_at"c";walk_at"e";refine aD oh1 Tx.c.cC Tx.c.bJ bN ?_;walk_at"e";refine dz (cR.of j1.jh.oc) (dj (v:=.ref pp.1) (by rw[dB,hpp];rfl)) ?_;walk_at"e";refine⟨_,_,rfl,T,s,A,M,_,pp,c,j1.w0,rfl,ce,rfl,?_⟩;walk_at"e"
   by_cases z:c.tone=M.sw.sense
   ·rw[if_pos z]at hq;rw[decide_eq_true z];exact hq
   ·rw[if_neg z]at hq;rw[decide_eq_false z];exact hq
  ·rw[ef]at hy;obtain⟨_,_,rfl⟩:=Option.map_eq_some_iff.mp hy;walk_at"c";walk_at"e";exact hq
 ·intro p np;rw[wH f,Zdn j f (λi c hc=>by show(tX M (Int.toNat i)).map _=_;rw[Int.toNat_natCast])];exact q p _ (s1.trans (aL np _)) (s1.free np) ao
theorem KH{wo:Addr}(Tx:qU K X)(q:Be X (Ls "rest") wo H Q):rN K (yN X) (jM X) ⟨n,Q,bk,ct⟩ [some (.ref wo),none] H:=by
 obtain⟨T,s,A,M,lb,lw,w,s0,j,rfl,ok,ph,lo,q⟩:=q;unfold rN;walk_at"e";refine⟨_,rfl,T,s,A,M,w,s0,j,rfl,λH1 T1 A1 st1 j1 aw1=>?_⟩;obtain⟨dw,ow⟩:=j1.jb.ow;obtain⟨ds,os⟩:=j1.js.os;rw[aw1.1]at ow;walk_at"e";refine aD ow Tx.cW Tx.N7 aW ?_;walk_at"e";refine aD os Tx.cS Tx.n4 gM ?_;walk_at"e";refine⟨_,_,rfl,T1,s,A1,_,st1.wt,s0,j1,aw1.1,ok.hl,λ_=>Nat.zero_le _,λH2 T2 l st2 j2 g2 nl2=>?_⟩;have j2:WJ X H2 T2 s A1 (gK (bM M.w M.hands.length) M.hands 0 (gW M)).2:=j2;have g2:H2 l=some (.lst ((gK (bM M.w M.hands.length) M.hands 0 (gW M)).1.map V.int)):=g2;obtain⟨dw2,ow2⟩:=j2.jb.ow;obtain⟨ds2,os2⟩:=j2.js.os;rw[aw1.1]at ow2;have hnt:=Zgf (bM M.w M.hands.length) M.hands 0 (gW M);walk_at"e";refine aD ow2 Tx.cW Tx.N7 aW ?_;walk_at"e";refine aD os2 Tx.cS Tx.n5 oZ ?_;walk_at"e";refine⟨dU (by simp),λa na=>?_⟩;rw[hnt.1];have s3:=aL na (.tup [.str "begin",.int (M.sw.turn+1),.ref l]);refine q _ _ (.begin ph) _ T2 A1 a (st1.trans (st2.trans (fj.same st2.wt s3))) (j2.same s3) aw1 ⟨l,fj.free st1 nl2,ao,s3 _ _ g2⟩ λz=>?_;have:=(pD (bM M.w M.hands.length) 100 M.hands 0 (gW M) ok.hl).1;rw[this]at z;exact absurd z (show ¬ ("walk":Str)="lost" by decide)
end
def sW(X:Cs):Sp:=λvs H Q E=>∃wo,vs=[.ref wo]/\∃T s A M,WT H T/\s≠0/\WJ X H T s A M/\A.wo=wo/\Zc0 M/\
 (∀q qs H',KB.Ms (fdOf M) (iY M) q q.length qs->(∀x∈qs,∀c,cellAt M x.1=some c->c.tone=M.sw.sense)->bC H H'->Q .non H')/\
 (∀q qs (i:Nat) x c a wl H',KB.Ms (fdOf M) (iY M) q q.length qs->qs[i]? =some x->(∀(k:Nat) y d,k<i->qs[k]? =some y->cellAt M y.1=some d->d.tone=M.sw.sense)->cellAt M x.1=some c->c.tone≠M.sw.sense->bC H H'->H a=none->H wl=none->H' a=some (.tup [.str "lost",.int c.birth,.ref wl])->H' wl=some (.lst (x.2.map V.int))->Q (.ref a) H')
section
variable {K:aC}{X:Cs}{H:Hp}{Q:VK}{E:XK}{n:St->Hp->Prop}{bk ct:St->Hp->Prop}
theorem Zf4{α:Type}(f:α->Nat)(B:Nat):∀(xs:List α),(∀x∈xs,f x<=B)->(xs.map f).sum<=xs.length * B
 | [],_=>by simp
 | x::xs,h=>by
  have h1:=h x (by simp);have h2:=Zf4 f B xs λy hy=>h y (by simp[hy]);rw[List.map_cons,List.sum_cons,List.length_cons,Nat.succ_mul];omega
theorem Zm9{α β:Type}(f:α->List β)(B:Nat):∀(xs:List α),(∀x∈xs,(f x).length<=B)->(xs.flatMap f).length<=xs.length * B
 | [],_=>by simp
 | x::xs,h=>by
  have h1:=h x (by simp);have h2:=Zm9 f B xs λy hy=>h y (by simp[hy]);rw[List.flatMap_cons,List.length_append,List.length_cons,Nat.succ_mul];omega
theorem Zok{M:Wm}{T:Tg}{s:Nat}{A:Wa}(j:WJ X H T s A M)(ok:Zc0 M):Few (fdOf M) (iY M):=by
 have l5:=j.jd.l5;have lh:=j.jd.lh;have hl:(heldOf M).length=M.hands.length:=by unfold heldOf;rw[aU]
 have hr:(iY M).length<=31:=by unfold iY;rw[List.length_append,hl,<- lh];simp;omega
 have hrow:∀x∈iY M,x.length<=900:=λx hx=>by
  unfold iY at hx;rcases List.mem_append.mp hx with hx | hx
  ·obtain⟨m,hm,rfl⟩:=List.mem_map.mp hx;exact Nat.le_trans (ok.hl m hm) (by decide)
  ·rw[List.mem_singleton.mp hx];unfold qX;rw[aU];exact ok.nl
 have hf:(fdOf M).length=M.cells.length:=by unfold fdOf;rw[aU]
 have hcl:=ok.cl;have hfl:∀(i:Nat) x,(fdOf M)[i]? =some x->KB.wgt x<=50:=λi x hx=>by
  unfold fdOf at hx;rw[dB]at hx;obtain⟨o,ho,rfl⟩:=Option.map_eq_some_iff.mp hx;cases o with
  | none=>exact Nat.zero_le _
  | some c=>exact ok.fl c (List.mem_of_getElem? ho)
 refine⟨by omega,λp fl hp=>?_,by omega,λx hx=>by have:=hrow x hx;omega,?_⟩
 ·rw[Zbr]at hp;obtain⟨c,hc,rfl⟩:=Option.map_eq_some_iff.mp hp;have:=ok.fl c (uv hc);omega
 ·unfold KB.total;have h1:(KB.q0 (fdOf M) 0 (iY M)).length<=31 * 900:=by
   unfold KB.q0;refine Nat.le_trans (Zm9 _ 900 _ λx hx=>?_) (by rw[List.length_zipIdx];exact Nat.mul_le_mul_right _ hr);refine Nat.le_trans KB.Lx (hrow x.1 ?_);obtain⟨_,h2⟩:=List.mem_zipIdx_iff_le_and_getElem?_sub.mp hx;exact List.mem_of_getElem? h2
  have h2:KB.ZM (fdOf M) []<=900 * 50:=by
   unfold KB.ZM;refine Nat.le_trans (Zf4 _ 50 _ λx hx=>?_) (by rw[List.length_zipIdx,hf];exact Nat.mul_le_mul_right _ hcl);obtain⟨_,h2⟩:=List.mem_zipIdx_iff_le_and_getElem?_sub.mp hx;simp only[List.map_nil,List.not_mem_nil,↓reduceIte];exact hfl _ _ h2
  omega
theorem Zcf{M:Wm}:∀{rows:List (List (Option Int))}{ls:List Addr},ls.length=rows.length->(∀(j:Nat) r x,ls[j]? =some r->rows[j]? =some x->H r=some (.lst (x.map oV)))->DY K H ls rows
 | [],[],_,_=>trivial
 | [],_::_,h,_=>by simp at h
 | _::_,[],h,_=>by simp at h
 | x::rows,r::ls,h,g=>⟨cR.of (g 0 r x rfl rfl),Zcf (M:=M) (by simpa using h) λj r x e1 e2=>g (j+1) r x (by simpa using e1) (by simpa using e2)⟩
theorem Rq{wo:Addr}(Tx:qU K X)(q:∃T s A M,WT H T/\s≠0/\WJ X H T s A M/\A.wo=wo/\Zc0 M/\
 (∀q qs H',KB.Ms (fdOf M) (iY M) q q.length qs->(∀x∈qs,∀c,cellAt M x.1=some c->c.tone=M.sw.sense)->bC H H'->Q .non H')/\
 (∀q qs (i:Nat) x c a wl H',KB.Ms (fdOf M) (iY M) q q.length qs->qs[i]? =some x->(∀(k:Nat) y d,k<i->qs[k]? =some y->cellAt M y.1=some d->d.tone=M.sw.sense)->cellAt M x.1=some c->c.tone≠M.sw.sense->bC H H'->H a=none->H wl=none->H' a=some (.tup [.str "lost",.int c.birth,.ref wl])->H' wl=some (.lst (x.2.map V.int))->Q (.ref a) H')):
  vA K (cL X) (BL K X.C X.H) (Mp X) ⟨n,Q,bk,ct⟩ [some (.ref wo),none,none,none] H:=by
 obtain⟨T,s,A,M,w,s0,j,rfl,ok,q1,q2⟩:=q;obtain⟨dw,ow⟩:=j.jb.ow;have l5:=j.jd.l5;have lh:=j.jd.lh;have nl:=ok.nl;unfold vA;walk_at"e";refine aD ow Tx.cW Tx.Xg bZ ?_;walk_at"e";refine⟨_,rfl,T,s,A,M,s0,j,rfl,by omega,by omega,λra rs H1 s1 nra ora lrs nrs nrl g1=>?_⟩;walk_at"e";refine⟨A.hp,ra,fdOf M,rs,iY M,rfl,(j.same s1).w0.hv,cR.of ora,Zcf (M:=M) lrs g1,Zok j ok,λl ts q qs H2 bf nl2 s2 ol qa=>?_⟩;have s02:=s1.trans s2;have j2:=j.same s02;have good:=bf.good.2;have hlq:=qa.len;obtain⟨dw2,ow2⟩:=j2.jb.ow;obtain⟨dh2,oh2⟩:=j2.jh.oh;refine⟨l,rfl,⟨_,cR.of ol⟩,forL (ts.map V.ref) (λi σ Hx=>∃v1 v2 v3,σ=[some (.ref A.wo),v1,v2,v3]/\Hx=H2/\∀(k:Nat) y d,k<i->qs[k]? =some y->cellAt M y.1=some d->d.tone=M.sw.sense) ⟨_,_,_,rfl,rfl,λk y d hk=>absurd hk (Nat.not_lt_zero _)⟩ (λ_ _ _ _ ⟨_,_,_,_,z,_⟩=>by rw[z];exact cR.of ol) ?_ ?_⟩
 ·rintro i x σ Hx hi ⟨v1,v2,v3,rfl,rfl,hno⟩;rw[dB]at hi;obtain⟨t,ht,rfl⟩:=Option.map_eq_some_iff.mp hi;have hil:i<qs.length:=by rw[<- hlq];exact(cV ht).1
  obtain⟨t',wa,et,ot,owa⟩:=qa.at (cJ hil);rw[ht]at et;cases et;have hx:qs[i]? =some qs[i]:=cJ hil;generalize qs[i]=x at hx ot owa;obtain⟨fl,hfl⟩:=Option.isSome_iff_exists.mp (good x (List.mem_of_getElem? hx)).there;rw[Zbr]at hfl;obtain⟨c,hc,_⟩:=Option.map_eq_some_iff.mp hfl;obtain⟨x0,hcc⟩:=cj.mp hc;obtain⟨pp,hpp,ce⟩:=j2.jc.at hcc;obtain⟨_,_,⟨dc,oc⟩,_⟩:=id ce;refine⟨t,_,rfl,qZ.of ot,rfl,?_⟩;refine⟨_,_,rfl,?_⟩;walk_at"e";refine⟨_,_,rfl,?_⟩;walk_at"e";refine⟨rfl,?_⟩;walk_at"e";refine aD ow2 Tx.cW Tx.Xg bZ ?_;refine aD oh2 Tx.c.cC Tx.c.bJ bN ?_;walk_at"e";refine dz (cR.of j2.jh.oc) (fQ (v:=.ref pp.1) x0 (by rw[dB,hpp];rfl)) ?_;walk_at"e";refine⟨_,_,rfl,T,s,A,M,_,pp,c,j2.w0,rfl,ce,rfl,?_⟩;walk_at"e";refine wO (λz=>?_) (λz=>?_)
  ·walk_at"e";refine aD oc Tx.c.d9 Tx.c.d7 iT ?_;walk_at"e";refine Zkt (qZ.of owa) λwl nwl=>?_;generalize zz:upd Hx wl _=H3;obtain⟨s3,g3⟩:=nwO nwl zz;walk_at"e";refine⟨dU (by simp),λa na=>?_⟩;have s4:=aL na (.tup [.str "lost",.int c.birth,.ref wl]);exact q2 q qs i x c a wl _ bf hx hno hc z (s02.trans (s3.trans s4)) (s02.free (s3.free na)) (s02.free nwl) ao (s4 _ _ g3)
  ·walk_at"e";refine⟨_,_,_,rfl,rfl,λk y d hk e1 e2=>?_⟩
   by_cases h:k<i
   ·exact hno k y d h e1 e2
   ·have:k=i:=by omega
    subst this;rw[hx]at e1;cases e1;rw[hc]at e2;cases e2;exact z
 ·rintro σ Hx ⟨v1,v2,v3,rfl,rfl,hno⟩;rw[aU,hlq]at hno;walk_at"e";refine q1 q qs Hx bf (λx hx c hc=>?_) s02;obtain⟨k,hk,e⟩:=List.getElem_of_mem hx;exact hno k x c hk (by rw[cJ hk,e]) hc
theorem U6{M:Wm}:((rQ M).map some).map (GZ M)=(oH M).map some:=by
 unfold rQ oH;rw[List.map_map,List.map_filterMap,List.map_filterMap];refine nQ λi hi=>?_;rw[Option.map_map,Option.map_map];cases hp:tX M i with
 | none=>rfl
 | some c=>
  unfold tX at hp;obtain⟨d,hd,e⟩:=Option.bind_eq_some_iff.mp hp;have hdc:d=c:=by
   split at e
   ·cases e
   ·exact Option.some.inj e
  subst hdc;show some (GZ M (some (i:Int)))=some (some d.birth);have:cellAt M (i:Int)=some d:=by
   unfold cellAt;rw[if_pos (by omega),Int.toNat_natCast,hd]
  show some ((cellAt M (i:Int)).map _)=_;rw[this];rfl
theorem Nv{M:Wm}(h:M.cells.length<=900):(oH M).length<=900/\(rQ M).length<=900:=by
 unfold oH rQ;have h1:=List.length_filterMap_le (λi=>(tX M i).map (·.birth)) (List.range M.cells.length);have h2:=List.length_filterMap_le (λ(i:Nat)=>(tX M i).map λ_=>(i:Int)) (List.range M.cells.length);rw[List.length_range]at h1 h2;exact⟨by omega,by omega⟩
theorem Zot{wo:Addr}(Tx:qU K X)(q:Be X Zai wo H Q):Zab K (mY X) (sW X) (yL X) (lK K) ⟨n,Q,bk,ct⟩ [some (.ref wo),none,none,none] H:=by
 obtain⟨T,s,A,M,lb,lw,w,s0,j,rfl,ok,⟨ph,gr,cd⟩,lo,q⟩:=q;obtain⟨dw,ow⟩:=j.jb.ow;obtain⟨ds,os⟩:=j.js.os;obtain⟨dh,oh⟩:=j.jh.oh;have hcl:=ok.cl;unfold Zab;walk_at"e";refine aD ow Tx.cW Tx.N7 aW ?_;walk_at"e";refine aD ow Tx.cW Tx.Xg bZ ?_;refine aD oh Tx.c.cC Tx.c.bJ bN ?_;walk_at"e";refine iI (cR.of j.jh.oc) ?_;rw[aU,j.jc.lc];walk_at"e";refine⟨A.sw,X.S,ds,_,rfl,os,Tx.cS,Tx.n7,by show 11<1000;decide,?_⟩;rw[Kw];walk_at"e";refine⟨A.sw,X.S,ds,_,rfl,ao,Tx.cS,Tx.n6,by show 11<1000;decide,?_⟩;rw[Cu,eU];obtain⟨st1,j1⟩:=j.sweep w s0 (dx:=ds) { M.sw with stop:=M.cells.length,at':=0 } rfl;have j1:WJ X _ T s A (iV M):=j1;generalize upd H A.sw (.ins X.S ds (cg M.sw.sense M.sw.phase A.gr M.sw.looked M.sw.turn 0 M.cells.length M.sw.walks M.sw.looks M.sw.passes M.sw.loss))=H1 at st1 j1 ⊢;have ok1:Zc0 (iV M):=⟨ok.cl,ok.hl,ok.fl,ok.nl,ok.gl,ok.gc,ok.ph,Int.le_refl _⟩;walk_at"e";refine⟨_,rfl,T,s,A,iV M,st1.wt,s0,j1,rfl,ok1,λq' qs H2 bf hno s2=>?_,λq' qs i x c a wl H2 bf hx hno hc ht s2 na nwl oa owl=>?_⟩
 ·have j2:=j1.same s2;obtain⟨dw2,ow2⟩:=j2.jb.ow;obtain⟨ds2,os2⟩:=j2.js.os;walk_at"e";refine⟨A.sw,X.S,ds2,_,rfl,os2,Tx.cS,Tx.n2,by show 11<1000;decide,?_⟩;rw[m6];obtain⟨st3,j3⟩:=j2.sweep (st1.wt.same s2) s0 (dx:=ds2) { (iV M).sw with phase:="give" } rfl;have j3:WJ X _ T s A { iV M with sw:={ (iV M).sw with phase:="give" } }:=j3;generalize upd H2 A.sw (.ins X.S ds2 (cg (iV M).sw.sense "give" A.gr (iV M).sw.looked (iV M).sw.turn (iV M).sw.at' (iV M).sw.stop (iV M).sw.walks (iV M).sw.looks (iV M).sw.passes (iV M).sw.loss))=H3 at st3 j3 ⊢;obtain⟨dw3,ow3⟩:=j3.jb.ow;obtain⟨ob,ol⟩:=Nv hcl;walk_at"e";refine aD ow3 Tx.cW Tx.Xg bZ ?_;walk_at"e";refine⟨_,rfl,T,s,A,_,j3,rfl,hcl,λl4 H4 s4 nl4 g4=>?_⟩;have e4:(rQ { iV M with sw:={ (iV M).sw with phase:="give" } }).map V.int=((rQ M).map some).map oV:=by
   rw[List.map_map];rfl
  rw[e4]at g4;walk_at"e";refine⟨A.hp,l4,rfl,T,s,A,_,(rQ M).map some,j3.same s4,rfl,g4,by rw[aU];omega,λl5 nl5=>?_⟩;have e5:(((rQ M).map some).map (GZ { iV M with sw:={ (iV M).sw with phase:="give" } })).map oV=(oH M).map V.int:=by
   have:GZ { iV M with sw:={ (iV M).sw with phase:="give" } }=GZ M:=by funext x;cases x<;>rfl
   rw[this,U6,List.map_map];rfl
  rw[e5];generalize zz:upd H4 l5 _=H5;obtain⟨s5,g5⟩:=nwO nl5 zz;walk_at"e";refine iI (cR.of g5) ?_;rw[aU];walk_at"e";refine⟨dU (by simp),λa na=>?_⟩;have s6:=aL na (.tup [.str "cut",.int (oH M).length,.ref l5]);have s35:=s4.trans (s5.trans s6);have fr:H l5=none:=fj.free st1 (s2.free (fj.free st3 (s4.free nl5)));exact q _ _ (.cut q' qs ph gr cd bf hno) _ T A a (st1.trans ((fj.same st1.wt s2).trans (st3.trans (fj.same st3.wt s35)))) (j3.same s35) ⟨rfl,rfl⟩ ⟨l5,fr,ao,s6 _ _ g5⟩ λz=>absurd z (show ¬ ("give":Str)="lost" by decide)
 ·have j2:=j1.same s2;have w2:=st1.wt.same s2;obtain⟨ds2,os2⟩:=j2.js.os;walk_at"e";refine⟨A.sw,X.S,ds2,_,rfl,os2,Tx.cS,Tx.n2,by show 11<1000;decide,?_⟩;rw[m6];walk_at"e";refine⟨A.sw,X.S,ds2,_,rfl,ao,Tx.cS,Tx.n11,by show 11<1000;decide,?_⟩;rw[Ky,eU];obtain⟨st3,j3⟩:=j2.sweep w2 s0 (dx:=ds2) { (iV M).sw with phase:="lost",loss:=.ref a } rfl;have j3:WJ X _ T s A { iV M with sw:={ (iV M).sw with phase:="lost",loss:=.ref a } }:=j3;have ta:T a=(0,0):=st1.wt _ na;have tw:T wl=(0,0):=st1.wt _ nwl;have oa3:upd H2 A.sw (.ins X.S ds2 (cg (iV M).sw.sense "lost" A.gr (iV M).sw.looked (iV M).sw.turn (iV M).sw.at' (iV M).sw.stop (iV M).sw.walks (iV M).sw.looks (iV M).sw.passes (.ref a))) a=some (.tup [.str "lost",.int c.birth,.ref wl]):=(aA (pX oa os2 (λz=>by cases z))).trans oa;have Zmx:upd H2 A.sw (.ins X.S ds2 (cg (iV M).sw.sense "lost" A.gr (iV M).sw.looked (iV M).sw.turn (iV M).sw.at' (iV M).sw.stop (iV M).sw.walks (iV M).sw.looks (iV M).sw.passes (.ref a))) wl=some (.lst (x.2.map V.int)):=(aA (pX owl os2 (λz=>by cases z))).trans owl;generalize upd H2 A.sw (.ins X.S ds2 (cg (iV M).sw.sense "lost" A.gr (iV M).sw.looked (iV M).sw.turn (iV M).sw.at' (iV M).sw.stop (iV M).sw.walks (iV M).sw.looks (iV M).sw.passes (.ref a)))=H3 at st3 j3 oa3 Zmx ⊢;walk_at"e";refine⟨a,rfl,"lost",c.birth,wl,x.2,oa3,Zmx,λa' l' H4 s4 nl' oa' ol'=>?_⟩;have fr:H l'=none:=fj.free st1 (s2.free (fj.free st3 nl'));exact q _ _ (.lost q' qs i x c (.ref a) ph gr cd bf hx hno hc ht) _ T A a' (st1.trans ((fj.same st1.wt s2).trans (st3.trans (fj.same st3.wt s4)))) (j3.same s4) ⟨rfl,rfl⟩ ⟨l',fr,oa',ol'⟩ λ_=>⟨c.birth,rfl,a,wl,rfl,ta,s4 _ _ oa3,tw,s4 _ _ Zmx⟩
end
section
variable {K:aC}{X:Cs}{H:Hp}{Q:VK}{E:XK}{n:St->Hp->Prop}{bk ct:St->Hp->Prop}
theorem Zie{wo:Addr}(Tx:qU K X)(q:Be X XN wo H Q):UL K (oN X) ⟨n,Q,bk,ct⟩ [some (.ref wo),none,none] H:=by
 obtain⟨T,s,A,M,lb,lw,w,s0,j,rfl,ok,⟨ph,gr⟩,lo,q⟩:=q;obtain⟨dw,ow⟩:=j.jb.ow;obtain⟨ds,os⟩:=j.js.os;obtain⟨dh,oh⟩:=j.jh.oh;have og:=j.js.og;cases hg:M.sw.grey with
 | nil=>exact absurd hg gr
 | cons x g=>
  obtain⟨c,hc⟩:=ok.gc ph x (by rw[hg];simp);obtain⟨x0,hcc⟩:=cj.mp hc;have hgl:=ok.gl ph;have hfl:=ok.fl c (uv hc);rw[hg]at og;unfold UL;walk_at"e";refine aD ow Tx.cW Tx.N7 aW ?_;walk_at"e";refine aD ow Tx.cW Tx.Xg bZ ?_;refine aD oh Tx.c.cC Tx.c.bJ bN ?_;walk_at"e";refine aD os Tx.cS Tx.n3 kh ?_;walk_at"e";refine⟨.inl ⟨rfl,_,cR.of og⟩,?_⟩;walk_at"e";refine⟨A.gr,_,0,0,.int x,rfl,rfl,og,by decide,by decide,by simp[seqIndex?],rfl,?_⟩;obtain⟨st1,j1⟩:=j.Zm5 w s0 (g:=g);show fJ K _ _ (upd H A.gr (.lst (g.map V.int))) _;generalize upd H A.gr (.lst (g.map V.int))=H1 at st1 j1 ⊢;obtain⟨pp,hpp,ce⟩:=j1.jc.at (i:=x.toNat) (c:=c) hcc;refine dz (cR.of j1.jh.oc) (fQ (v:=.ref pp.1) x0 (by rw[dB,hpp];rfl)) ?_;obtain⟨ds1,os1⟩:=j1.js.os;walk_at"e";refine aD os1 Tx.cS Tx.n8 rD ?_;walk_at"e";refine⟨A.sw,X.S,ds1,_,rfl,os1,Tx.cS,Tx.n8,by show 11<1000;decide,?_⟩;rw[wG];obtain⟨st2,j2⟩:=j1.sweep st1.wt s0 (dx:=ds1) { M.sw with grey:=g,walks:=M.sw.walks+1 } rfl;have j2:WJ X _ T s A { M with sw:={ M.sw with grey:=g,walks:=M.sw.walks+1 } }:=j2;generalize upd H1 A.sw _=H2 at st2 j2 ⊢;obtain⟨pp2,Zqs,ce2⟩:=j2.jc.at (i:=x.toNat) (c:=c) hcc;rw[hpp]at Zqs;cases Zqs;obtain⟨_,_,⟨dc,oc⟩,of'⟩:=id ce2;walk_at"e";refine aD oc Tx.c.d9 Tx.c.d7 iT ?_;walk_at"e";refine aD oc Tx.c.d9 Tx.c.fW oE ?_;walk_at"e";refine⟨_,_,rfl,c.fl,T,s,A,_,st2.wt,s0,j2,rfl,.inr (.inr ⟨x.toNat,pp,c,hpp,hcc,rfl,rfl⟩),by omega,λ_=>?_,λH3 T3 l st3 j3 g3 nl3=>?_⟩
  ·show g.length<=10000;rw[hg,List.length_cons]at hgl;omega
  walk_at"e";refine⟨dU (by simp),λa na=>?_⟩;have s4:=aL na (.tup [.str "walk",.int c.birth,.ref l]);refine q _ _ (.walk x g c ph hg hc) _ T3 A a (st1.trans (st2.trans (st3.trans (fj.same st3.wt s4)))) (j3.same s4) ⟨rfl,rfl⟩ ⟨l,fj.free st1 (fj.free st2 nl3),ao,s4 _ _ g3⟩ λz=>?_;rw[(uN (l:=c.fl) (M:={ M with sw:={ M.sw with grey:=g,walks:=M.sw.walks+1 } })).1]at z;exact absurd (ph.symm.trans z) (show ¬ ("walk":Str)="lost" by decide)
theorem Qu{wo:Addr}(Tx:qU K X)(q:Be X XR wo H Q):vp K X.H (lE X.C X.H) (fH X.H) (cL X) ⟨n,Q,bk,ct⟩ [some (.ref wo),none,none,none] H:=by
 obtain⟨T,s,A,M,lb,lw,w,s0,j,rfl,ok,⟨ph,lt⟩,lo,q⟩:=q;obtain⟨dw,ow⟩:=j.jb.ow;obtain⟨ds,os⟩:=j.js.os;unfold vp;walk_at"e";refine aD ow Tx.cW Tx.N7 aW ?_;walk_at"e";refine aD os Tx.cS Tx.n6 Ei ?_;walk_at"e";refine⟨A.sw,X.S,ds,_,rfl,os,Tx.cS,Tx.n6,by show 11<1000;decide,?_⟩;rw[Cu];walk_at"e";refine aD ao Tx.cS Tx.n10 pZ ?_;walk_at"e";refine⟨A.sw,X.S,ds,_,rfl,ao,Tx.cS,Tx.n10,by show 11<1000;decide,?_⟩;rw[uF,eU];obtain⟨st1,j1⟩:=j.sweep w s0 (dx:=ds) { M.sw with at':=M.sw.at'+1,passes:=M.sw.passes+1 } rfl;generalize upd H A.sw _=H1 at st1 j1 ⊢;obtain⟨dw1,ow1⟩:=j1.jb.ow;obtain⟨dh1,oh1⟩:=j1.jh.oh;walk_at"e";refine aD ow1 Tx.cW Tx.Xg bZ ?_;walk_at"e";refine⟨_,_,rfl,Ah (some M.sw.at'),_,_,_,_,_,j1.hpO,?_⟩;have pas:(∀c,cellAt M M.sw.at'=some c->c.tone=M.sw.sense)->∀l a H2,H1 l=none->bC H1 H2->H2 a=some (.tup [.str "pass",.int M.sw.at',.ref l])->H2 l=some (.lst [])->Q (.ref a) H2:=λhp l a H2 nl s2 oa ol=>
  q _ _ (.pass ph lt hp) _ T A a (st1.trans (fj.same st1.wt s2)) (j1.same s2) ⟨rfl,rfl⟩ ⟨l,fj.free st1 nl,oa,ol⟩ λz=>absurd (ph.symm.trans z) (show ¬ ("give":Str)="lost" by decide)
 rcases j1.look (some M.sw.at')with ⟨e1,e2⟩ | ⟨i,c,pp,ei,h0,ec,hcc,hpp,e2,ce⟩
 ·have e1:cellAt M M.sw.at'=none:=e1;rw[show atO (A.cs.map pV) (.int M.sw.at')=.non from e2];walk_at"e";refine⟨dU (by simp),λl nl=>⟨dU (by simp),λa na=>?_⟩⟩;have s2:=aL nl (.lst []);have s3:=aL na (.tup [.str "pass",.int M.sw.at',.ref l]);exact pas (λc hc=>by rw[e1]at hc;cases hc) l a _ nl (s2.trans s3) ao (s3 _ _ ao)
 ·cases ei;have ec:cellAt M M.sw.at'=some c:=ec;rw[show atO (A.cs.map pV) (.int M.sw.at')=.ref pp.1 from e2];walk_at"e";refine⟨_,_,rfl,T,s,A,_,_,pp,c,j1.w0,rfl,ce,rfl,?_⟩
  by_cases z:c.tone=M.sw.sense
  ·rw[decide_eq_true (show c.tone=({ M.sw with at':=M.sw.at'+1,passes:=M.sw.passes+1 }:Sw).sense from z)];walk_at"e";refine⟨dU (by simp),λl nl=>⟨dU (by simp),λa na=>?_⟩⟩;have s2:=aL nl (.lst []);have s3:=aL na (.tup [.str "pass",.int M.sw.at',.ref l]);exact pas (λd hd=>by rw[ec]at hd;cases hd;exact z) l a _ nl (s2.trans s3) ao (s3 _ _ ao)
  ·rw[decide_eq_false (show ¬ c.tone=({ M.sw with at':=M.sw.at'+1,passes:=M.sw.passes+1 }:Sw).sense from z)];obtain⟨k,ek⟩:=toN h0;have hk:M.cells[k]? =some (some c):=by rw[ek,Int.toNat_natCast]at hcc;exact hcc
   walk_at"e";refine aD ow1 Tx.cW Tx.Xg bZ ?_;walk_at"e";refine⟨A.hp,dh1,_,rfl,oh1,CW,?_⟩;walk_at"e";rw[ek];refine Tj j1 st1.wt s0 hk λH2 A2 st2 j2 aw2=>?_;walk_at"e";refine⟨dU (by simp),λl nl=>⟨dU (by simp),λa na=>?_⟩⟩;have s3:=aL nl (.lst [.int (k:Int)]);have s4:=aL na (.tup [.str "back",.int c.birth,.ref l]);have s34:=s3.trans s4;have rr:=nT.back (lb:=lb) (lw:=lw) (M:=M) c ph lt ec z;rw[ek,Int.toNat_natCast]at rr;rw[ek]at j2;exact q _ _ rr _ T A2 a (st1.trans (st2.trans (fj.same st2.wt s34))) (j2.same s34) aw2 ⟨l,fj.free st1 (fj.free st2 nl),ao,s4 _ _ ao⟩ λy=>absurd (ph.symm.trans y) (show ¬ ("give":Str)="lost" by decide)
theorem Zor{wo:Addr}(Tx:qU K X)(q:Be X pEnd wo H Q):Zaa K ⟨n,Q,bk,ct⟩ [some (.ref wo),none] H:=by
 obtain⟨T,s,A,M,lb,lw,w,s0,j,rfl,ok,⟨ph,lt⟩,lo,q⟩:=q;obtain⟨dw,ow⟩:=j.jb.ow;obtain⟨ds,os⟩:=j.js.os;unfold Zaa;walk_at"e";refine aD ow Tx.cW Tx.N7 aW ?_;walk_at"e";refine⟨A.sw,X.S,ds,_,rfl,os,Tx.cS,Tx.n2,by show 11<1000;decide,?_⟩;rw[m6];obtain⟨st1,j1⟩:=j.sweep w s0 (dx:=ds) { M.sw with phase:="rest" } rfl;generalize upd H A.sw _=H1 at st1 j1 ⊢;obtain⟨ds1,os1⟩:=j1.js.os;walk_at"e";refine aD os1 Tx.cS Tx.n5 oZ ?_;walk_at"e";refine aD os1 Tx.cS Tx.n8 rD ?_;walk_at"e";refine aD os1 Tx.cS Tx.n9 nU ?_;walk_at"e";refine aD os1 Tx.cS Tx.n10 pZ ?_;walk_at"e";refine⟨dU (by simp),λl nl=>⟨dU (by simp),λa na=>?_⟩⟩;have s2:=aL nl (.lst [.int M.sw.walks,.int M.sw.looks,.int M.sw.passes]);have s3:=aL na (.tup [.str "end",.int M.sw.turn,.ref l]);have s23:=s2.trans s3;exact q _ _ (.fin ph lt) _ T A a (st1.trans (fj.same st1.wt s23)) (j1.same s23) ⟨rfl,rfl⟩ ⟨l,fj.free st1 nl,ao,s3 _ _ ao⟩ λz=>absurd z (show ¬ ("rest":Str)="lost" by decide)
theorem KD{wo:Addr}(Tx:qU K X)(q:Be X (Ls "give") wo H Q):rM K (bT X pEnd) (bT X XR) ⟨n,Q,bk,ct⟩ [some (.ref wo)] H:=by
 obtain⟨T,s,A,M,lb,lw,w,s0,j,rfl,ok,ph,lo,q⟩:=q;obtain⟨dw,ow⟩:=j.jb.ow;obtain⟨ds,os⟩:=j.js.os;unfold rM;walk_at"e";refine aD ow Tx.cW Tx.N7 aW ?_;walk_at"e";refine aD os Tx.cS Tx.n6 Ei ?_;walk_at"e";refine aD ow Tx.cW Tx.N7 aW ?_;walk_at"e";refine aD os Tx.cS Tx.n7 MJ ?_;walk_at"e";refine pU (λz=>?_) (λz=>?_)
 ·walk_at"e";exact⟨_,rfl,T,s,A,M,lb,lw,w,s0,j,rfl,ok,⟨ph,z⟩,lo,q⟩
 ·walk_at"e";exact⟨_,rfl,T,s,A,M,lb,lw,w,s0,j,rfl,ok,⟨ph,z⟩,lo,q⟩
theorem KC{wo:Addr}(Tx:qU K X)(q:Be X (Ls "walk") wo H Q):rK K (bT X XS) (bT X XN) ⟨n,Q,bk,ct⟩ [some (.ref wo)] H:=by
 obtain⟨T,s,A,M,lb,lw,w,s0,j,rfl,ok,ph,lo,q⟩:=q;obtain⟨dw,ow⟩:=j.jb.ow;obtain⟨ds,os⟩:=j.js.os;unfold rK;walk_at"e";refine aD ow Tx.cW Tx.N7 aW ?_;walk_at"e";refine aD os Tx.cS Tx.n3 kh ?_;refine Zpg (cR.of j.js.og) ?_;cases hg:M.sw.grey with
 | nil=>
  refine oM ?_;walk_at"e";exact⟨_,rfl,T,s,A,M,lb,lw,w,s0,j,rfl,ok,⟨ph,hg⟩,lo,q⟩
 | cons x g=>
  refine Aw ?_;walk_at"e";exact⟨_,rfl,T,s,A,M,lb,lw,w,s0,j,rfl,ok,⟨ph,by rw[hg];simp⟩,lo,q⟩
theorem Ej{wo:Addr}(Tx:qU K X)(q:Be X (Ls "lost") wo H Q):o5 K (lK K) ⟨n,Q,bk,ct⟩ [some (.ref wo)] H:=by
 obtain⟨T,s,A,M,lb,lw,w,s0,j,rfl,ok,ph,lo,q⟩:=q;obtain⟨dw,ow⟩:=j.jb.ow;obtain⟨ds,os⟩:=j.js.os;obtain⟨la,wl,e1,t1,o1,t2,o2⟩:=lo ph;rw[e1]at os;unfold o5;walk_at"e";refine aD ow Tx.cW Tx.N7 aW ?_;walk_at"e";refine aD os Tx.cS Tx.n11 MK ?_;walk_at"e";refine⟨la,rfl,"lost",lb,wl,lw,o1,o2,λa l H1 s1 nl oa ol=>?_⟩;exact q _ _ (.again ph) _ T A a (fj.same w s1) (j.same s1) ⟨rfl,rfl⟩ ⟨l,nl,oa,ol⟩ λ_=>⟨lb,rfl,la,wl,e1,t1,s1 _ _ o1,t2,s1 _ _ o2⟩
theorem Zil{wo f1 f2 f3 f4:Addr}(Tx:qU K X)(q:Be X Zg3 wo H Q):UT K f1 f2 f3 f4 (bT X (Ls "rest")) (bT X (Ls "give")) (bT X (Ls "walk")) (bT X (Ls "lost")) ⟨n,Q,bk,ct⟩ [some (.ref wo),none] H:=by
 obtain⟨T,s,A,M,lb,lw,w,s0,j,rfl,ok,_,lo,q⟩:=q;obtain⟨dw,ow⟩:=j.jb.ow;obtain⟨ds,os⟩:=j.js.os;unfold UT;walk_at"e";refine aD ow Tx.cW Tx.N7 aW ?_;walk_at"e";refine aD os Tx.cS Tx.n2 je ?_;rcases ok.ph with ph | ph | ph | ph
 ·rw[ph];refine⟨_,f1,rfl,rfl,?_⟩;walk_at"e";refine Mh (bT X (Ls "rest")) rfl (by simp) ?_;walk_at"e";exact⟨_,rfl,T,s,A,M,lb,lw,w,s0,j,rfl,ok,ph,lo,q⟩
 ·rw[ph];refine⟨_,f3,rfl,rfl,?_⟩;walk_at"e";refine Mh (bT X (Ls "walk")) rfl (by simp) ?_;walk_at"e";exact⟨_,rfl,T,s,A,M,lb,lw,w,s0,j,rfl,ok,ph,lo,q⟩
 ·rw[ph];refine⟨_,f2,rfl,rfl,?_⟩;walk_at"e";refine Mh (bT X (Ls "give")) rfl (by simp) ?_;walk_at"e";exact⟨_,rfl,T,s,A,M,lb,lw,w,s0,j,rfl,ok,ph,lo,q⟩
 ·rw[ph];refine⟨_,f4,rfl,rfl,?_⟩;walk_at"e";refine Mh (bT X (Ls "lost")) rfl (by simp) ?_;walk_at"e";exact⟨_,rfl,T,s,A,M,lb,lw,w,s0,j,rfl,ok,ph,lo,q⟩
end
section
variable {K:aC}{X:Cs}{H:Hp}{Q:VK}{E:XK}{n:St->Hp->Prop}{bk ct:St->Hp->Prop}
theorem MT{A:Wa}{w:Int}{σ:St}{te:TE}{q:Bool->Hp->Prop}(ol:∃dx,(w=0/\H A.lk=some (.ins X.F dx []))\/(w=1/\H A.lk=some (.ins X.E dx []))\/(w=2/\H A.lk=some (.ins X.L dx [])))(hte:∀Q':VK,Q' (.ref A.lk) H->te σ H Q')(h:q (decide (w≠2)) H):
  tB (G.Dg (jk X.F "stays" (jf (.bl true)) [] E0 te aJ) (G.Dg (jk X.E "stays" (jf (.bl true)) [] E0 te aJ) (jk X.L "stays" (jf (.bl false)) [] E0 te aJ))) σ H q:=by
 refine Zqa ?_;obtain⟨dl,⟨ew,o⟩ | ⟨ew,o⟩ | ⟨ew,o⟩⟩:=ol
 ·rw[show decide (w≠2)=true from decide_eq_true (by omega)]at h;refine Kg ?_;walk_at"s";refine hte _ ?_;refine⟨A.lk,dl,_,rfl,o,rfl,?_⟩;walk_at"s";exact⟨_,rfl,i_B h⟩
 ·rw[show decide (w≠2)=true from decide_eq_true (by omega)]at h;refine yV (Kg ?_);walk_at"s";refine hte _ ?_;refine⟨A.lk,dl,_,rfl,o,rfl,?_⟩;walk_at"s";exact⟨_,rfl,i_B h⟩
 ·rw[show decide (w≠2)=false from decide_eq_false (by omega)]at h;refine yV (yV ?_);walk_at"s";refine hte _ ?_;refine⟨A.lk,dl,_,rfl,o,rfl,?_⟩;walk_at"s";exact⟨_,rfl,i_B h⟩
theorem Zdy{T:Tg}{s:Nat}{A:Wa}{M:Wm}{lb:Int}{lw:List Int}(Tx:qU K X)(w:WT H T)(s0:s≠0)(j:WJ X H T s A M)(ok:Zc0 M)(ph:M.sw.phase="walk")(gr:M.sw.grey=[])
  (q:∀e M',nT lb lw M e M'->∀H' T' A' a,fj s H H' T T'->WJ X H' T' s A' M'->A'.wo=A.wo/\A'.sw=A.sw->EvN H H' a e->(M'.sw.phase="lost"->∃b,e.thing=some b/\Zic H' T' M' b e.notes)->Q (.ref a) H'):
  nD K X.E X.F X.L (jf (.bl false)) (jf (.bl true)) (bT X Zai) (jM X) ⟨n,Q,bk,ct⟩ [some (.ref A.wo),some (.ref A.sw),some (.ref A.lk),some (.int (bH M)),none] H:=by
 unfold nD;walk_at"e";refine⟨_,_,rfl,T,s,A,M,w,s0,j,rfl,ok.hl,λ_=>by rw[gr];exact Nat.zero_le _,λH1 T1 l st1 j1 g1 nl=>?_⟩;have nt:=vQ (bH M) M.hands 0 M;have ww:=nt.ww;have ol:=j1.jb.ol;rw[ww]at ol;have Zr5:uq M->bT X Zai [.ref A.wo] H1 Q E0:=λcd=>by
  have e:(gK (bH M) M.hands 0 M).2=M:=by
   rcases cd with z | ⟨_,z⟩
   ·rw[z,Yo]
   ·exact Vo _ z
  rw[e]at j1;refine⟨_,rfl,T1,s,A,M,lb,lw,st1.wt,s0,j1,rfl,ok,⟨ph,gr,cd⟩,λz=>absurd (ph.symm.trans z) (by decide),λe' M' r H' T' A' a st' j' aw' ev' lo'=>?_⟩;obtain⟨l',nl',o1,o2⟩:=ev';exact q e' M' r H' T' A' a (st1.trans st') j' aw' ⟨l',fj.free st1 nl',o1,o2⟩ lo'
 have J8:¬ uq M->∀(lo:Int),lo=(if M.w=2 then(gK (bH M) M.hands 0 M).2.sw.looked else Builtin.bitOr (gK (bH M) M.hands 0 M).2.sw.looked (bH M))->∀H2,fj s H1 H2 T1 T1->WJ X H2 T1 s A { (gK (bH M) M.hands 0 M).2 with sw:={ (gK (bH M) M.hands 0 M).2.sw with looks:=(gK (bH M) M.hands 0 M).2.sw.looks+1,looked:=lo } }->H2 l=some (.lst ((gK (bH M) M.hands 0 M).1.map V.int))->∀a,H2 a=none->Q (.ref a) (upd H2 a (.tup [.str "look",.int (bH M),.ref l])):=λnc lo elo H2 st2 j2 g2 a na=>by
  have s3:=aL na (.tup [.str "look",.int (bH M),.ref l]);subst elo;refine q _ _ (.look _ ph gr nc rfl) _ T1 A a (st1.trans (st2.trans (fj.same st2.wt s3))) (j2.same s3) ⟨rfl,rfl⟩ ⟨l,nl,ao,s3 _ _ g2⟩ λz=>?_;have:=(pD (bH M) 100 M.hands 0 M ok.hl).1;have z:(gK (bH M) M.hands 0 M).2.sw.phase="lost":=z;rw[this]at z;exact absurd (ph.symm.trans z) (by decide)
 walk_at"e";refine pU (λhz=>?_) (λhz=>?_)
 ·walk_at"e";exact Zr5 (.inl hz)
 ·refine Zm4 ?_;refine Zqc ?_;refine MT ol (λQ' h=>by walk_at"s";exact h) ?_
  by_cases w2:M.w=2
  ·rw[show decide (M.w≠2)=false from decide_eq_false (by omega)];refine oM ?_;refine Zm2 ?_;walk_at"s";refine Zpg (cR.of g1) ?_;cases hn:(gK (bH M) M.hands 0 M).1 with
   | nil=>
    refine Aw ?_;walk_at"e";exact Zr5 (.inr ⟨w2,hn⟩)
   | cons b bs=>
    have nc:¬ uq M:=λz=>by
     rcases z with z | ⟨_,z⟩
     ·exact hz z
     ·rw[hn]at z;cases z
    have J8:=J8 nc _ rfl;rw[if_pos w2]at J8;obtain⟨ds1,os1⟩:=j1.js.os;refine oM ?_;walk_at"e";refine aD os1 Tx.cS Tx.n9 nU ?_;walk_at"e";refine⟨A.sw,X.S,ds1,_,rfl,os1,Tx.cS,Tx.n9,by show 11<1000;decide,?_⟩;rw[pY];obtain⟨st2,j2⟩:=j1.sweep st1.wt s0 (dx:=ds1) { (gK (bH M) M.hands 0 M).2.sw with looks:=(gK (bH M) M.hands 0 M).2.sw.looks+1 } rfl;have g2:upd H1 A.sw (.ins X.S ds1 (cg (gK (bH M) M.hands 0 M).2.sw.sense (gK (bH M) M.hands 0 M).2.sw.phase A.gr (gK (bH M) M.hands 0 M).2.sw.looked (gK (bH M) M.hands 0 M).2.sw.turn (gK (bH M) M.hands 0 M).2.sw.at' (gK (bH M) M.hands 0 M).2.sw.stop (gK (bH M) M.hands 0 M).2.sw.walks ((gK (bH M) M.hands 0 M).2.sw.looks+1) (gK (bH M) M.hands 0 M).2.sw.passes (gK (bH M) M.hands 0 M).2.sw.loss)) l=some (.lst ((gK (bH M) M.hands 0 M).1.map V.int)):=(aA (pX g1 os1 (λz=>by cases z))).trans g1;generalize upd H1 A.sw _=H2 at st2 j2 g2 ⊢;have ol2:=j2.jb.ol;have ww2:({ (gK (bH M) M.hands 0 M).2 with sw:={ (gK (bH M) M.hands 0 M).2.sw with looks:=(gK (bH M) M.hands 0 M).2.sw.looks+1 } }:Wm).w=M.w:=ww;rw[ww2]at ol2;refine Kf ?_;refine Zo5 ?_;refine MT ol2 (λQ' h=>by walk_at"s";exact h) ?_;rw[show decide (M.w≠2)=false from decide_eq_false (by omega)];walk_at"e";exact⟨dU (by simp),λa na=>J8 H2 st2 j2 g2 a na⟩
  ·rw[show decide (M.w≠2)=true from decide_eq_true (by omega)];have nc:¬ uq M:=λz=>by
    rcases z with z | ⟨z,_⟩
    ·exact hz z
    ·exact w2 z
   have J8:=J8 nc _ rfl;rw[if_neg w2]at J8;obtain⟨ds1,os1⟩:=j1.js.os;walk_at"e";refine aD os1 Tx.cS Tx.n9 nU ?_;walk_at"e";refine⟨A.sw,X.S,ds1,_,rfl,os1,Tx.cS,Tx.n9,by show 11<1000;decide,?_⟩;rw[pY];obtain⟨Zyt,j1b⟩:=j1.sweep st1.wt s0 (dx:=ds1) { (gK (bH M) M.hands 0 M).2.sw with looks:=(gK (bH M) M.hands 0 M).2.sw.looks+1 } rfl;have ol2:=j1b.jb.ol;have ww2:({ (gK (bH M) M.hands 0 M).2 with sw:={ (gK (bH M) M.hands 0 M).2.sw with looks:=(gK (bH M) M.hands 0 M).2.sw.looks+1 } }:Wm).w=M.w:=ww;rw[ww2]at ol2;refine Kf ?_;refine Zo5 ?_;refine MT ol2 (λQ' h=>by walk_at"s";exact h) ?_;rw[show decide (M.w≠2)=true from decide_eq_true (by omega)];walk_at"e";refine aD ao Tx.cS Tx.n4 gM ?_;walk_at"e";refine⟨A.sw,X.S,ds1,_,rfl,ao,Tx.cS,Tx.n4,by show 11<1000;decide,?_⟩;rw[uG,eU];obtain⟨st2,j2⟩:=j1.sweep st1.wt s0 (dx:=ds1) { (gK (bH M) M.hands 0 M).2.sw with looks:=(gK (bH M) M.hands 0 M).2.sw.looks+1,looked:=Builtin.bitOr (gK (bH M) M.hands 0 M).2.sw.looked (bH M) } rfl;have g2:upd H1 A.sw (.ins X.S ds1 (cg (gK (bH M) M.hands 0 M).2.sw.sense (gK (bH M) M.hands 0 M).2.sw.phase A.gr (Builtin.bitOr (gK (bH M) M.hands 0 M).2.sw.looked (bH M)) (gK (bH M) M.hands 0 M).2.sw.turn (gK (bH M) M.hands 0 M).2.sw.at' (gK (bH M) M.hands 0 M).2.sw.stop (gK (bH M) M.hands 0 M).2.sw.walks ((gK (bH M) M.hands 0 M).2.sw.looks+1) (gK (bH M) M.hands 0 M).2.sw.passes (gK (bH M) M.hands 0 M).2.sw.loss)) l=some (.lst ((gK (bH M) M.hands 0 M).1.map V.int)):=(aA (pX g1 os1 (λz=>by cases z))).trans g1;generalize upd H1 A.sw _=H2 at st2 j2 g2 ⊢;walk_at"e";exact⟨dU (by simp),λa na=>J8 H2 st2 j2 g2 a na⟩
theorem Oj{wo:Addr}(Tx:qU K X)(q:Be X XS wo H Q):tU K X.E X.F X.L (gF 1) (gF 2) (jf (.bl false)) (gF 0) (jf (.bl true)) (bT X Zai) (jM X) ⟨n,Q,bk,ct⟩ [some (.ref wo),none,none,none,none] H:=by
 obtain⟨T,s,A,M,lb,lw,w,s0,j,rfl,ok,⟨ph,gr⟩,lo,q⟩:=q;obtain⟨dw,ow⟩:=j.jb.ow;obtain⟨ds,os⟩:=j.js.os;obtain⟨dk,ok'⟩:=j.jb.ok;have on:=j.jb.on;have lh:=j.jd.lh;have l5:=j.jd.l5;have Zb0:((A.hs.map λp=>V.ref p.1).length:Int)=(M.hands.length:Int):=by rw[aU,lh]
 have tail:=Zdy (n:=n) (bk:=bk) (ct:=ct) Tx w s0 j ok ph gr q;obtain⟨dl,ol⟩:=j.jb.ol;unfold tU;walk_at"e";refine aD ow Tx.cW Tx.N7 aW ?_;walk_at"e";refine aD ow Tx.cW Tx.nWk oW ?_;refine aD ok' Tx.cK Tx.nKl gR ?_;refine Zqk ?_;refine Kf ?_;walk_at"s";rcases ol with ⟨ew,o⟩ | ⟨ew,o⟩ | ⟨ew,o⟩
 ·have eb:bH M=uO 0 M.sw.looked M.hands.length:=by unfold bH;rw[ew];rfl
  refine Kg ?_;walk_at"s";refine⟨A.lk,dl,_,rfl,o,rfl,?_⟩;walk_at"s";refine aD os Tx.cS Tx.n4 gM ?_;walk_at"s";refine aD ow Tx.cW Tx.nWd eO ?_;walk_at"s";refine iI (cR.of on) ?_;rw[Zb0];walk_at"s";refine⟨A.lk,_,_,rfl,by omega,by omega,?_⟩;rw[Int.toNat_natCast,<- eb];walk_at"s";exact tail
 ·have eb:bH M=uO 1 M.sw.looked M.hands.length:=by unfold bH;rw[ew];rfl
  refine yV (Kg ?_);walk_at"s";refine⟨A.lk,dl,_,rfl,o,rfl,?_⟩;walk_at"s";refine aD os Tx.cS Tx.n4 gM ?_;walk_at"s";refine aD ow Tx.cW Tx.nWd eO ?_;walk_at"s";refine iI (cR.of on) ?_;rw[Zb0];walk_at"s";refine⟨A.lk,_,_,rfl,by omega,by omega,?_⟩;rw[Int.toNat_natCast,<- eb];walk_at"s";exact tail
 ·have eb:bH M=uO 2 M.sw.looked M.hands.length:=by unfold bH;rw[ew];rfl
  refine yV (yV ?_);walk_at"s";refine⟨A.lk,dl,_,rfl,o,rfl,?_⟩;walk_at"s";refine aD os Tx.cS Tx.n4 gM ?_;walk_at"s";refine aD ow Tx.cW Tx.nWd eO ?_;walk_at"s";refine iI (cR.of on) ?_;rw[Zb0];walk_at"s";refine⟨A.lk,_,_,rfl,by omega,by omega,?_⟩;rw[Int.toNat_natCast,<- eb];walk_at"s";exact tail
end
inductive Tr where
 | fl:V->Tr
 | ls:List Tr->Tr
 | tp:List Tr->Tr
structure Kp(H H':Hp)(T T':Tg):Prop where
 k:∀b o,H b=some o->(T b).1=0\/6<=(T b).1->H' b=some o
 tg:∀b o,H b=some o->T' b=T b
 al:∀b o,H b=some o->∃o',H' b=some o'
theorem Kp.same{H H':Hp}{T:Tg}(s:bC H H'):Kp H H' T T:=⟨λb o h _=>s _ _ h,λ_ _ _=>rfl,λb o h=>⟨o,s _ _ h⟩⟩
theorem Kp.stp{s:Nat}{H H':Hp}{T T':Tg}(st:fj s H H' T T')(n:s≠0/\s<6):Kp H H' T T':=⟨λb o h t=>st.kp b o h (by omega),st.tg,st.al⟩
theorem Kp.trans{H H1 H2:Hp}{T T1 T2:Tg}(a:Kp H H1 T T1)(b:Kp H1 H2 T1 T2):Kp H H2 T T2:=
 ⟨λx o h t=>b.k x o (a.k x o h t) (by rw[a.tg x o h];exact t),λx o h=>by
  obtain⟨o1,h1⟩:=a.al x o h;exact(b.tg x o1 h1).trans (a.tg x o h),λx o h=>by
  obtain⟨o1,h1⟩:=a.al x o h;exact b.al x o1 h1⟩
theorem Kp.tag{H H':Hp}{T:Tg}{l:Addr}{v:Nat×Nat}(n:H l=none)(s:bC H H'):Kp H H' T (fG T l v):=⟨λb o h _=>s _ _ h,λb o h=>iW (aB h n),λb o h=>⟨o,s _ _ h⟩⟩
abbrev RZ:=List (Str×Int)
structure HsB(hs:RZ):Prop where
 n1:1<=hs.length
 n5:hs.length<=5
 sb:∀m∈hs,3<=m.2/\m.2<=9
def Zp4(M:Wm):Prop:=M.sw.phase="walk"->M.sw.grey.Nodup/\∀x∈M.sw.grey,∃c,cellAt M x=some c/\c.tone=M.sw.sense
structure KW(M:Wm)(hs:RZ)(k:Nat):Prop where
 hl:M.hands.length=hs.length
 hn:∀(i:Nat) m n,M.hands[i]? =some m->hs[i]? =some n->m.2.length=n.2.toNat
 cl:M.cells.length<=k
 nl:M.names.length<=k
 fl:∀c,some c∈M.cells->c.fl.length<=8
 gr:Zp4 M
 ph:M.sw.phase="rest"\/M.sw.phase="walk"\/M.sw.phase="give"\/M.sw.phase="lost"
 a0:0<=M.sw.at'
 tl:0<=M.tells/\M.tells<4
section
variable {M:Wm}{hs:RZ}{k:Nat}
theorem Ym:∀(n:Nat) (l:List Int),l.Nodup->(∀x∈l,0<=x/\x<n)->l.length<=n
 | 0,l,_,h=>by
  cases l with
  | nil=>exact Nat.le_refl _
  | cons x l=>have:=h x (by simp);omega
 | n+1,l,nd,h=>by
  have h1:(l.erase (n:Int)).length<=n:=Ym n _ (nd.erase _) λx hx=>by
   have h2:=h x (List.mem_of_mem_erase hx);have h3:x≠(n:Int):=((nd.mem_erase_iff).mp hx).1
   push_cast at h2
   omega
  have h4:=List.length_erase (a:=(n:Int)) (l:=l);split at h4<;>omega
theorem tG{x:Int}{c:Ce}(h:cellAt M x=some c):0<=x/\x<M.cells.length:=by
 obtain⟨h0,h1⟩:=cj.mp h;have:=(cV h1).1;omega
theorem KW.ok(p:KW M hs k)(hb:HsB hs)(hk:k<=900):Zc0 M:=by
 have hcl:=p.cl;have hnl:=p.nl;refine⟨by omega,λm hm=>?_,λc hc=>by have:=p.fl c hc;omega,by omega,λph=>?_,λph x hx=>?_,p.ph,p.a0⟩
 ·obtain⟨i,hi,e⟩:=List.getElem_of_mem hm;have hi2:i<hs.length:=by rw[<- p.hl];exact hi
  have h1:=p.hn i m _ (by rw[cJ hi,e]) (cJ hi2);have h2:=hb.sb _ (List.getElem_mem hi2);omega
 ·obtain⟨nd,h1⟩:=p.gr ph;refine Nat.le_trans (Ym M.cells.length _ nd λx hx=>?_) (by omega);obtain⟨c,hc,_⟩:=h1 x hx;exact tG hc
 ·obtain⟨c,hc,_⟩:=(p.gr ph).2 x hx;exact⟨c,hc⟩
theorem KW.mono{k':Nat}(p:KW M hs k)(h:k<=k'):KW M hs k':=by
 obtain⟨a1,a2,a3,a4,a5,a6,a7,a8,a9⟩:=p;exact⟨a1,a2,by omega,by omega,a5,a6,a7,a8,a9⟩
theorem KW.slot(p:KW M hs k)(h s:Nat)(x:Option Int):KW (setSlot M h s x) hs k:=by
 obtain⟨a1,a2,a3,a4,a5,a6,a7,a8,a9⟩:=p;refine⟨by show(M.hands.modify h _).length=_;rw[List.length_modify];exact a1,λi m n e1 e2=>?_,a3,a4,a5,a6,a7,a8,a9⟩;have e1:(M.hands.modify h λm=>(m.1,m.2.set s x))[i]? =some m:=e1;rw[List.getElem?_modify]at e1;cases em:M.hands[i]? with
 | none=>rw[em]at e1;cases e1
 | some m0=>
  rw[em]at e1
  by_cases z:h=i
  ·have e3:(m0.1,m0.2.set s x)=m:=by simpa[z]using e1
   rw[<- e3];show(m0.2.set s x).length=_;rw[List.length_set];exact a2 i m0 n em e2
  ·have e3:m0=m:=by simpa[z]using e1
   rw[<- e3];exact a2 i m0 n em e2
theorem mX{i:Int}{c c':Ce}(h:cellAt M i=some c)(x:Int):cellAt (setCell M i c') x=if x=i then some c' else cellAt M x:=by
 obtain⟨h0,h1⟩:=cj.mp h;unfold cellAt;show(if 0<=x then((M.cells.set i.toNat (some c'))[x.toNat]?).join else none)=_
 by_cases e:x=i
 ·subst e;rw[if_pos h0,if_pos rfl,List.getElem?_set_self (cV h1).1];rfl
 ·rw[if_neg e]
  by_cases x0:0<=x
  ·rw[if_pos x0,if_pos x0,List.getElem?_set_ne (by omega)]
  ·rw[if_neg x0,if_neg x0]
theorem KW.note(p:KW M hs k)(x:Option Int):KW (bI M x).2 hs k:=by
 cases x with
 | none=>exact p
 | some i=>
  unfold bI;dsimp only;cases hc:cellAt M i with
  | none=>exact p
  | some c=>
   dsimp only;split
   ·rename_i z
    obtain⟨z1,z2⟩:=z;have h8:=p.fl c (uv hc);obtain⟨a1,a2,a3,a4,a5,a6,a7,a8,a9⟩:=p;obtain⟨nd,h1⟩:=a6 z1;have hni:i∉M.sw.grey:=λhi=>by
     obtain⟨d,hd,td⟩:=h1 i hi;rw[hc]at hd;cases hd;exact z2 td
    refine⟨a1,a2,by show(M.cells.set _ _).length<=_;rw[List.length_set];exact a3,a4,λd hd=>?_,λ_=>⟨?_,λx hx=>?_⟩,a7,a8,a9⟩
    ·rcases List.mem_or_eq_of_mem_set (show some d∈M.cells.set _ _ from hd)with hd | hd
     ·exact a5 d hd
     ·cases hd;exact h8
    ·show(M.sw.grey++[i]).Nodup;rw[List.nodup_append];exact⟨nd,by simp,λa ha b hb e=>hni (by rw[List.mem_singleton.mp hb]at e;rw[<- e];exact ha)⟩
    ·have e:=mX (c':={ c with tone:=M.sw.sense }) hc x;show ∃d,cellAt (setCell M i { c with tone:=M.sw.sense }) x=some d/\d.tone=M.sw.sense;rw[e]
     by_cases ex:x=i
     ·exact⟨_,by rw[if_pos ex],rfl⟩
     ·rcases List.mem_append.mp (show x∈M.sw.grey++[i]from hx)with hx | hx
      ·obtain⟨d,hd,td⟩:=h1 x hx;exact⟨d,by rw[if_neg ex];exact hd,td⟩
      ·exact absurd (List.mem_singleton.mp hx) ex
   ·exact p
theorem KW.notes:∀{l:List (Option Int)}{M:Wm},KW M hs k->KW (aN M l).2 hs k
 | [],_,p=>p
 | x::l,_,p=>KW.notes (l:=l) (p.note x)
theorem KW.nh(bits:Int):∀{l:List (Str×List (Option Int))}{j:Nat}{M:Wm},KW M hs k->KW (gK bits l j M).2 hs k
 | [],_,_,p=>p
 | m::l,j,M,p=>by
  unfold gK;split
  ·exact KW.nh bits (l:=l) (KW.notes p)
  ·exact KW.nh bits (l:=l) p
theorem KW.put(p:KW M hs k){u b:Int}{c:Ce}(hf:c.fl.length<=8):KW { M with used:=u,born:=b,cells:=lY M.cells c } hs (k+1):=by
 obtain⟨a1,a2,a3,a4,a5,a6,a7,a8,a9⟩:=p;refine⟨a1,a2,?_,by show M.names.length<=_;omega,λd hd=>?_,λph=>?_,a7,a8,a9⟩
 ·have:=Zja M.cells c;show(lY M.cells c).length<=_;omega
 ·rcases Zgj hd with hd | hd
  ·exact a5 d hd
  ·cases hd;exact hf
 ·obtain⟨nd,h1⟩:=a6 ph;refine⟨nd,λx hx=>?_⟩;obtain⟨d,hd,td⟩:=h1 x hx;exact⟨d,Zbt hd,td⟩
theorem KW.step(p:KW M hs k){lb:Int}{lw:List Int}{e:Ev}{M':Wm}(h:nT lb lw M e M'):KW M' hs k:=by
 cases h with
 | begin ph=>
  refine KW.nh _ ?_;obtain⟨a1,a2,a3,a4,a5,a6,a7,a8,a9⟩:=p;exact⟨a1,a2,a3,a4,a5,λ_=>⟨List.nodup_nil,λx hx=>(nomatch hx)⟩,.inr (.inl rfl),a8,a9⟩
 | walk x g c ph hg hc=>
  refine KW.notes ?_;obtain⟨a1,a2,a3,a4,a5,a6,a7,a8,a9⟩:=p;refine⟨a1,a2,a3,a4,a5,λ_=>?_,a7,a8,a9⟩;obtain⟨nd,h1⟩:=a6 ph;rw[hg]at nd h1;exact⟨(List.nodup_cons.mp nd).2,λy hy=>h1 y (List.mem_cons_of_mem _ hy)⟩
 | look N ph hg nc hN=>
  have p':KW N hs k:=by rw[hN];exact KW.nh _ p
  obtain⟨a1,a2,a3,a4,a5,a6,a7,a8,a9⟩:=p';exact⟨a1,a2,a3,a4,a5,a6,a7,a8,a9⟩
 | cut q qs ph hg cd bf hno=>
  obtain⟨a1,a2,a3,a4,a5,a6,a7,a8,a9⟩:=p;exact⟨a1,a2,a3,a4,a5,λz=>absurd z (show ¬ ("give":Str)="walk" by decide),.inr (.inr (.inl rfl)),Int.le_refl _,a9⟩
 | lost q qs i x c v ph hg cd bf hx hno hc ht=>
  obtain⟨a1,a2,a3,a4,a5,a6,a7,a8,a9⟩:=p;exact⟨a1,a2,a3,a4,a5,λz=>absurd z (show ¬ ("lost":Str)="walk" by decide),.inr (.inr (.inr rfl)),Int.le_refl _,a9⟩
 | pass ph lt hp=>
  obtain⟨a1,a2,a3,a4,a5,a6,a7,a8,a9⟩:=p;exact⟨a1,a2,a3,a4,a5,a6,a7,by show 0<=M.sw.at'+1;omega,a9⟩
 | back c ph lt hc ht=>
  obtain⟨a1,a2,a3,a4,a5,a6,a7,a8,a9⟩:=p;refine⟨a1,a2,by show(M.cells.set _ _).length<=_;rw[List.length_set];exact a3,a4,λd hd=>?_,λz=>absurd (ph.symm.trans z) (by decide),a7,by show 0<=M.sw.at'+1;omega,a9⟩;rcases List.mem_or_eq_of_mem_set (show some d∈M.cells.set _ _ from hd)with hd | hd
  ·exact a5 d hd
  ·cases hd
 | fin ph lt=>
  obtain⟨a1,a2,a3,a4,a5,a6,a7,a8,a9⟩:=p;exact⟨a1,a2,a3,a4,a5,λz=>absurd z (show ¬ ("rest":Str)="walk" by decide),.inl rfl,a8,a9⟩
 | again ph=>exact p
theorem KW.new{room:Int}{w t:Int}(h0:0<=t)(h1:t<4):KW (Yp room hs w t) hs 0:=by
 refine⟨by show(hs.map _).length=_;rw[aU],λi m n e1 e2=>?_,Nat.le_refl _,Nat.le_refl _,λc hc=>(nomatch hc),λz=>absurd z (show ¬ ("rest":Str)="walk" by decide),.inl rfl,Int.le_refl _,⟨h0,h1⟩⟩;have e1:(hs.map λm=>(m.1,List.replicate m.2.toNat (none:Option Int)))[i]? =some m:=e1;rw[dB,e2]at e1;cases e1;exact List.length_replicate
end
def eN(M:Wm)(i:Int):Bool:=match cellAt M i with
 | none=>false
 | some c=>decide (c.tone≠M.sw.sense)
def ntP(M:Wm):List (Option Int)->List Int->List Int
 | [],acc=>acc
 | none::l,acc=>ntP M l acc
 | some i::l,acc=>if eN M i=true/\i∉acc then ntP M l (acc++[i])else ntP M l acc
def gA(M:Wm):List Int->Wm
 | acc=>acc.foldl (λN i=>(bI N (some i)).2) M
def sU(M:Wm)(i:Int):Int:=((cellAt M i).map (·.birth)).getD 0
section
variable {M:Wm}
theorem NZ(acc:List Int)(i:Int):gA M (acc++[i])=(bI (gA M acc) (some i)).2:=by
 unfold gA;rw[List.foldl_append];rfl
structure NL(M N:Wm)(acc:List Int):Prop where
 sw:N.sw={ M.sw with grey:=M.sw.grey++acc }
 at_:∀i,cellAt N i=if i∈acc then(cellAt M i).map (λc=>{ c with tone:=M.sw.sense })else cellAt M i
 nt:ZG M N
theorem Yg(ph:M.sw.phase="walk"):∀(n:Nat) (acc:List Int),acc.length=n->acc.Nodup->(∀i∈acc,eN M i=true)->NL M (gA M acc) acc:=by
 intro n
 induction n with
 | zero=>
  intro acc hl _ _;rw[List.eq_nil_of_length_eq_zero hl];exact⟨by rw[List.append_nil];rfl,λi=>by rw[if_neg (by simp)];rfl,ZG.refl M⟩
 | succ n ih=>
  intro acc hl nd hp;obtain⟨a0,i,rfl⟩:∃a0 i,acc=a0++[i]:=⟨acc.dropLast,acc.getLast (by intro z;rw[z]at hl;cases hl),(List.dropLast_concat_getLast _).symm⟩;rw[List.length_append,List.length_singleton]at hl;rw[List.nodup_append]at nd;obtain⟨nd0,_,nd1⟩:=nd;have hni:i∉a0:=λz=>nd1 i z i (by simp) rfl;obtain⟨s1,a1,n1⟩:=ih a0 (by omega) nd0 λx hx=>hp x (by simp[hx]);have hpi:=hp i (by simp);unfold eN at hpi;cases hc:cellAt M i with
  | none=>rw[hc]at hpi;cases hpi
  | some c=>
   rw[hc]at hpi;have ht:c.tone≠M.sw.sense:=decide_eq_true_iff.mp hpi;have hcN:cellAt (gA M a0) i=some c:=by rw[a1 i,if_neg hni];exact hc
   have phN:(gA M a0).sw.phase="walk":=by rw[s1];exact ph
   have seN:(gA M a0).sw.sense=M.sw.sense:=by rw[s1]
   have en:bI (gA M a0) (some i)=(some c.birth,{ setCell (gA M a0) i { c with tone:=(gA M a0).sw.sense }with sw:={ (gA M a0).sw with grey:=(gA M a0).sw.grey++[i] } }):=by
    unfold bI;dsimp only;rw[hcN];dsimp only;rw[if_pos ⟨phN,by rw[seN];exact ht⟩]
   rw[NZ];have nt2:=n1.trans (Ye (gA M a0) (some i));refine⟨?_,λx=>?_,nt2⟩
   ·rw[en];show { (gA M a0).sw with grey:=(gA M a0).sw.grey++[i] }=_;rw[s1];simp only[List.append_assoc]
   ·rw[en];show cellAt (setCell (gA M a0) i { c with tone:=(gA M a0).sw.sense }) x=_;rw[mX hcN,seN]
    by_cases e:x=i
    ·subst e;rw[if_pos rfl,if_pos (by simp),hc];rfl
    ·rw[if_neg e,a1 x]
     by_cases h:x∈a0
     ·rw[if_pos h,if_pos (by simp[h])]
     ·rw[if_neg h,if_neg (by simp[h,e])]
theorem Vm:∀(l:List (Option Int)) (acc:List Int),acc.Nodup->(∀i∈acc,eN M i=true)->(ntP M l acc).Nodup/\∀i∈ntP M l acc,eN M i=true
 | [],acc,h1,h2=>⟨h1,h2⟩
 | none::l,acc,h1,h2=>Vm l acc h1 h2
 | some i::l,acc,h1,h2=>by
  unfold ntP;split
  ·rename_i z
   refine Vm l (acc++[i]) ?_ λx hx=>?_
   ·rw[List.nodup_append];exact⟨h1,by simp,λa ha b hb e=>z.2 (by rw[List.mem_singleton.mp hb]at e;rw[<- e];exact ha)⟩
   ·rcases List.mem_append.mp hx with hx | hx
    ·exact h2 x hx
    ·rw[List.mem_singleton.mp hx];exact z.1
  ·exact Vm l acc h1 h2
theorem Bv(ph:M.sw.phase="walk"):∀(l:List (Option Int)) (acc:List Int),acc.Nodup->(∀i∈acc,eN M i=true)->(aN (gA M acc) l).2=gA M (ntP M l acc)/\acc.map (sU M)++(aN (gA M acc) l).1=(ntP M l acc).map (sU M)
 | [],acc,_,_=>⟨rfl,by rw[show(aN (gA M acc) []).1=[]from rfl,List.append_nil];rfl⟩
 | none::l,acc,h1,h2=>by
  have e:aN (gA M acc) (none::l)=aN (gA M acc) l:=by
   show(Vl none++(aN (gA M acc) l).1,(aN (gA M acc) l).2)=_;rfl
  rw[e];exact Bv ph l acc h1 h2
 | some i::l,acc,h1,h2=>by
  have nl:=Yg ph acc.length acc rfl h1 h2;have phN:(gA M acc).sw.phase="walk":=by rw[nl.sw];exact ph
  have seN:(gA M acc).sw.sense=M.sw.sense:=by rw[nl.sw]
  have en:aN (gA M acc) (some i::l)=(Vl (bI (gA M acc) (some i)).1++(aN (bI (gA M acc) (some i)).2 l).1,(aN (bI (gA M acc) (some i)).2 l).2):=rfl;rw[en];unfold ntP
  by_cases z:eN M i=true/\i∉acc
  ·rw[if_pos z];obtain⟨z1,z2⟩:=z;have z1':=z1;unfold eN at z1;cases hc:cellAt M i with
   | none=>rw[hc]at z1;cases z1
   | some c=>
    rw[hc]at z1;have ht:c.tone≠M.sw.sense:=decide_eq_true_iff.mp z1;have hcN:cellAt (gA M acc) i=some c:=by rw[nl.at_ i,if_neg z2];exact hc
    have e1:(bI (gA M acc) (some i)).1=some c.birth:=by
     unfold bI;dsimp only;rw[hcN];dsimp only;rw[if_pos ⟨phN,by rw[seN];exact ht⟩]
    have e2:(bI (gA M acc) (some i)).2=gA M (acc++[i]):=(NZ acc i).symm;rw[e1,e2];have nd:(acc++[i]).Nodup:=by
     rw[List.nodup_append];exact⟨h1,by simp,λa ha b hb e=>z2 (by rw[List.mem_singleton.mp hb]at e;rw[<- e];exact ha)⟩
    obtain⟨r1,r2⟩:=Bv ph l (acc++[i]) nd λx hx=>by
     rcases List.mem_append.mp hx with hx | hx
     ·exact h2 x hx
     ·rw[List.mem_singleton.mp hx];exact z1'
    refine⟨r1,?_⟩;rw[<- r2,List.map_append];have eb:sU M i=c.birth:=by unfold sU;rw[hc];rfl
    simp[Vl,eb]
  ·rw[if_neg z];have e1:bI (gA M acc) (some i)=(none,gA M acc):=by
    unfold bI;dsimp only;rw[nl.at_ i]
    by_cases hi:i∈acc
    ·rw[if_pos hi];cases hc:cellAt M i with
     | none=>rfl
     | some c=>
      show(if _ then _ else _)=_;rw[if_neg (λy=>y.2 (by rw[seN]))]
    ·rw[if_neg hi];cases hc:cellAt M i with
     | none=>rfl
     | some c=>
      have:¬ eN M i=true:=λy=>z ⟨y,hi⟩;unfold eN at this;rw[hc]at this;show(if _ then _ else _)=_;rw[if_neg (λy=>this (decide_eq_true (by rw[<- seN];exact y.2)))]
   rw[e1];obtain⟨r1,r2⟩:=Bv ph l acc h1 h2;exact⟨r1,by simpa[Vl]using r2⟩
def Vp(bits:Int):List (Str×List (Option Int))->Nat->List (Option Int)
 | [],_=>[]
 | m::l,k=>if bits / 2 ^ k % 2=1 then m.2++Vp bits l (k+1)else Vp bits l (k+1)
theorem NQ:∀(a b:List (Option Int)) (M:Wm),aN M (a++b)=((aN M a).1++(aN (aN M a).2 b).1,(aN (aN M a).2 b).2)
 | [],b,M=>rfl
 | x::a,b,M=>by
  show(Vl (bI M x).1++(aN (bI M x).2 (a++b)).1,(aN (bI M x).2 (a++b)).2)=((Vl (bI M x).1++(aN (bI M x).2 a).1)++(aN (aN (bI M x).2 a).2 b).1,(aN (aN (bI M x).2 a).2 b).2);rw[NQ a b,List.append_assoc]
theorem N6(bits:Int):∀(l:List (Str×List (Option Int))) (k:Nat) (M:Wm),gK bits l k M=aN M (Vp bits l k)
 | [],_,_=>rfl
 | m::l,k,M=>by
  unfold gK Vp;split
  ·rw[NQ,N6 bits l (k+1)]
  ·exact N6 bits l (k+1) M
end
structure TB(w0:Int)(M:Wm):Prop where
 bu:∀i j c d,cellAt M i=some c->cellAt M j=some d->c.birth=d.birth->i=j
 bn:∀i c,cellAt M i=some c->1<=c.birth/\c.birth<=M.born
 b0:0<=M.born
 se:M.sw.sense=0\/M.sw.sense=1
 tn:∀i c,cellAt M i=some c->c.tone=0\/c.tone=1
 rs:M.sw.phase="rest"->∀i c,cellAt M i=some c->c.tone=M.sw.sense
 gv:M.sw.phase="give"->∀i c,cellAt M i=some c->c.tone≠M.sw.sense->M.sw.at'<=i/\i<M.sw.stop
 ww:M.w=w0
structure Sb(M M':Wm):Prop where
 ce:∀i,(cellAt M' i).map (·.birth)=(cellAt M i).map (·.birth)
 tn:∀i c c',cellAt M i=some c->cellAt M' i=some c'->c'.tone=c.tone\/(M.sw.phase="walk"/\c'.tone=M.sw.sense)
 bn:M'.born=M.born
 se:M'.sw.sense=M.sw.sense
 ph:M'.sw.phase=M.sw.phase
 at_:M'.sw.at'=M.sw.at'
 st:M'.sw.stop=M.sw.stop
 ww:M'.w=M.w
section
variable {M M':Wm}{w0:Int}
theorem Sb.get(h:Sb M M'){i:Int}{c':Ce}(e:cellAt M' i=some c'):∃c,cellAt M i=some c/\c'.birth=c.birth/\(c'.tone=c.tone\/(M.sw.phase="walk"/\c'.tone=M.sw.sense)):=by
 have h1:=h.ce i;rw[e]at h1;cases hc:cellAt M i with
 | none=>rw[hc]at h1;cases h1
 | some c=>
  rw[hc]at h1;exact⟨c,rfl,Option.some.inj h1,h.tn i c c' hc e⟩
theorem Sb.Ag(h:M'.cells=M.cells)(bn:M'.born=M.born)(se:M'.sw.sense=M.sw.sense)(ph:M'.sw.phase=M.sw.phase)(at_:M'.sw.at'=M.sw.at')(st:M'.sw.stop=M.sw.stop)(ww:M'.w=M.w):Sb M M':=by
 have e:∀i,cellAt M' i=cellAt M i:=λi=>by unfold cellAt;rw[h]
 exact⟨λi=>by rw[e],λi c c' h1 h2=>by rw[e,h1]at h2;cases h2;exact .inl rfl,bn,se,ph,at_,st,ww⟩
theorem Sb.refl(M:Wm):Sb M M:=Sb.Ag rfl rfl rfl rfl rfl rfl rfl
theorem Sb.trans{M'':Wm}(a:Sb M M')(b:Sb M' M''):Sb M M'':=by
 refine⟨λi=>(b.ce i).trans (a.ce i),λi c c2 h1 h2=>?_,b.bn.trans a.bn,b.se.trans a.se,b.ph.trans a.ph,b.at_.trans a.at_,b.st.trans a.st,b.ww.trans a.ww⟩;obtain⟨c1,h3,_,h4⟩:=b.get h2;have h5:=a.tn i c c1 h1 h3;rw[a.ph,a.se]at h4;rcases h4 with h4 | h4
 ·rcases h5 with h5 | h5
  ·exact .inl (h4.trans h5)
  ·exact .inr ⟨h5.1,h4.trans h5.2⟩
 ·exact .inr h4
theorem Sb.slot(M:Wm)(h s:Nat)(x:Option Int):Sb M (setSlot M h s x):=Sb.Ag rfl rfl rfl rfl rfl rfl rfl
theorem Sb.cell{i:Int}{c c':Ce}(h:cellAt M i=some c)(hb:c'.birth=c.birth)(ht:c'.tone=c.tone\/(M.sw.phase="walk"/\c'.tone=M.sw.sense)):Sb M (setCell M i c'):=by
 refine⟨λx=>?_,λx d d' h1 h2=>?_,rfl,rfl,rfl,rfl,rfl,rfl⟩
 ·rw[mX h]
  by_cases e:x=i
  ·subst e;rw[if_pos rfl,h];exact congrArg some hb
  ·rw[if_neg e]
 ·rw[mX h]at h2
  by_cases e:x=i
  ·subst e;rw[if_pos rfl]at h2;rw[h]at h1;cases h1;cases h2;exact ht
  ·rw[if_neg e,h1]at h2;cases h2;exact .inl rfl
theorem Sb.note(M:Wm)(x:Option Int):Sb M (bI M x).2:=by
 cases x with
 | none=>exact Sb.refl M
 | some i=>
  unfold bI;dsimp only;cases hc:cellAt M i with
  | none=>exact Sb.refl M
  | some c=>
   dsimp only;split
   ·rename_i z
    exact(Sb.cell (c':={ c with tone:=M.sw.sense }) hc rfl (.inr ⟨z.1,rfl⟩)).trans (Sb.Ag rfl rfl rfl rfl rfl rfl rfl)
   ·exact Sb.refl M
theorem Sb.notes:∀(l:List (Option Int)) (M:Wm),Sb M (aN M l).2
 | [],M=>Sb.refl M
 | x::l,M=>(Sb.note M x).trans (Sb.notes l _)
theorem Sb.nh(bits:Int):∀(l:List (Str×List (Option Int))) (j:Nat) (M:Wm),Sb M (gK bits l j M).2
 | [],_,M=>Sb.refl M
 | m::l,j,M=>by
  unfold gK;split
  ·exact(Sb.notes m.2 M).trans (Sb.nh bits l (j+1) _)
  ·exact Sb.nh bits l (j+1) M
theorem TB.sb(p:TB w0 M)(h:Sb M M'):TB w0 M':=by
 refine⟨λi j c d h1 h2 e=>?_,λi c h1=>?_,by rw[h.bn];exact p.b0,by rw[h.se];exact p.se,λi c h1=>?_,λph i c h1=>?_,λph i c h1 ht=>?_,by rw[h.ww];exact p.ww⟩
 ·obtain⟨c0,e1,b1,_⟩:=h.get h1;obtain⟨d0,e2,b2,_⟩:=h.get h2;exact p.bu i j c0 d0 e1 e2 (by rw[<- b1,<- b2];exact e)
 ·obtain⟨c0,e1,b1,_⟩:=h.get h1;rw[b1,h.bn];exact p.bn i c0 e1
 ·obtain⟨c0,e1,_,t1⟩:=h.get h1;rcases t1 with t1 | t1
  ·rw[t1];exact p.tn i c0 e1
  ·rw[t1.2];exact p.se
 ·obtain⟨c0,e1,_,t1⟩:=h.get h1;rw[h.ph]at ph;rw[h.se];rcases t1 with t1 | t1
  ·rw[t1];exact p.rs ph i c0 e1
  ·exact t1.2
 ·obtain⟨c0,e1,_,t1⟩:=h.get h1;rw[h.ph]at ph;rw[h.se]at ht;rw[h.at_,h.st];rcases t1 with t1 | t1
  ·exact p.gv ph i c0 e1 (by rw[<- t1];exact ht)
  ·exact absurd t1.2 ht
theorem iU{x u b:Int}{c d:Ce}(h:cellAt { M with used:=u,born:=b,cells:=lY M.cells c } x=some d):(x=dX M.cells/\d=c)\/cellAt M x=some d:=by
 obtain⟨h0,h1⟩:=cj.mp h;have h1:(lY M.cells c)[x.toNat]? =some (some d):=h1
 by_cases z:x.toNat=dX M.cells
 ·rw[z,Lr]at h1;cases h1;exact .inl ⟨by omega,rfl⟩
 ·refine .inr (cj.mpr ⟨h0,?_⟩);unfold lY at h1;split at h1
  ·rw[List.getElem?_set_ne (λe=>z e.symm)]at h1;exact h1
  ·rename_i y
   rw[List.getElem?_append]at h1;split at h1
   ·exact h1
   ·rename_i y2
    have hlt:=(cV h1).1;have hle:=Mi M.cells;have:x.toNat - M.cells.length<1:=hlt;omega
theorem TB.put(p:TB w0 M){u:Int}{c:Ce}(hb:c.birth=M.born+1)(ht:c.tone=M.sw.sense):TB w0 { M with used:=u,born:=M.born+1,cells:=lY M.cells c }:=by
 have b0:=p.b0;refine⟨λi j d e h1 h2 eb=>?_,λi d h1=>?_,by show 0<=M.born+1;omega,p.se,λi d h1=>?_,λph i d h1=>?_,λph i d h1 hp=>?_,p.ww⟩
 ·rcases iU h1 with ⟨z1,z2⟩ | z1
  ·rcases iU h2 with ⟨y1,y2⟩ | y1
   ·rw[z1,y1]
   ·have:=p.bn j e y1;rw[z2,hb]at eb;omega
  ·rcases iU h2 with ⟨y1,y2⟩ | y1
   ·have:=p.bn i d z1;rw[y2,hb]at eb;omega
   ·exact p.bu i j d e z1 y1 eb
 ·show 1<=d.birth/\d.birth<=M.born+1;rcases iU h1 with ⟨z1,z2⟩ | z1
  ·rw[z2,hb];omega
  ·have:=p.bn i d z1;omega
 ·rcases iU h1 with ⟨z1,z2⟩ | z1
  ·rw[z2,ht];exact p.se
  ·exact p.tn i d z1
 ·rcases iU h1 with ⟨z1,z2⟩ | z1
  ·rw[z2];exact ht
  ·exact p.rs ph i d z1
 ·rcases iU h1 with ⟨z1,z2⟩ | z1
  ·rw[z2]at hp;exact absurd ht hp
  ·exact p.gv ph i d z1 hp
theorem TB.step(p:TB w0 M){lb:Int}{lw:List Int}{e:Ev}(h:nT lb lw M e M'):TB w0 M':=by
 cases h with
 | begin ph=>
  refine TB.sb ?_ (Sb.nh _ _ _ _);obtain⟨a1,a2,a3,a4,a5,a6,a7,a8⟩:=p;exact⟨a1,a2,a3,by show 1 - M.sw.sense=0\/1 - M.sw.sense=1;omega,a5,λz=>absurd z (show ¬ ("walk":Str)="rest" by decide),λz=>absurd z (show ¬ ("walk":Str)="give" by decide),a8⟩
 | walk x g c ph hg hc=>
  have a:Sb M { M with sw:={ M.sw with grey:=g,walks:=M.sw.walks+1 } }:=Sb.Ag rfl rfl rfl rfl rfl rfl rfl;exact p.sb (a.trans (Sb.notes c.fl _))
 | look N ph hg nc hN=>
  subst hN;exact p.sb ((Sb.nh _ _ _ _).trans (Sb.Ag rfl rfl rfl rfl rfl rfl rfl))
 | cut q qs ph hg cd bf hno=>
  obtain⟨a1,a2,a3,a4,a5,a6,a7,a8⟩:=p;exact⟨a1,a2,a3,a4,a5,λz=>absurd z (show ¬ ("give":Str)="rest" by decide),λ_ i c hc _=>tG (M:=M) hc,a8⟩
 | lost q qs i x c v ph hg cd bf hx hno hc ht=>
  obtain⟨a1,a2,a3,a4,a5,a6,a7,a8⟩:=p;exact⟨a1,a2,a3,a4,a5,λz=>absurd z (show ¬ ("lost":Str)="rest" by decide),λz=>absurd z (show ¬ ("lost":Str)="give" by decide),a8⟩
 | pass ph lt hp=>
  obtain⟨a1,a2,a3,a4,a5,a6,a7,a8⟩:=p;refine⟨a1,a2,a3,a4,a5,a6,λ_ i c hc ht=>?_,a8⟩;have h1:=a7 ph i c hc ht;have h2:i≠M.sw.at':=λz=>ht (hp c (by rw[<- z];exact hc));show M.sw.at'+1<=i/\i<M.sw.stop;omega
 | back c ph lt hc ht=>
  obtain⟨a1,a2,a3,a4,a5,a6,a7,a8⟩:=p;have gt:∀(u:Int) (w:Sw) (i:Int) (d:Ce),cellAt { M with used:=u,cells:=M.cells.set M.sw.at'.toNat none,sw:=w } i=some d->i≠M.sw.at'/\cellAt M i=some d:=λu w i d hd=>by
   obtain⟨h0,h1⟩:=cj.mp hd;have h1:(M.cells.set M.sw.at'.toNat none)[i.toNat]? =some (some d):=h1;obtain⟨k0,k1⟩:=cj.mp hc
   by_cases z:M.sw.at'.toNat=i.toNat
   ·rw[z,List.getElem?_set_self (by rw[<- z];exact(cV k1).1)]at h1;cases h1
   ·rw[List.getElem?_set_ne z]at h1;exact⟨λe=>z (by rw[e]),cj.mpr ⟨h0,h1⟩⟩
  refine⟨λi j d e h1 h2 eb=>a1 i j d e (gt _ _ i d h1).2 (gt _ _ j e h2).2 eb,λi d h1=>a2 i d (gt _ _ i d h1).2,a3,a4,λi d h1=>a5 i d (gt _ _ i d h1).2,λz=>absurd (ph.symm.trans z) (by decide),λ_ i d h1 hp=>?_,a8⟩;obtain⟨n1,n2⟩:=gt _ _ i d h1;have h3:=a7 ph i d n2 hp;show M.sw.at'+1<=i/\i<M.sw.stop;omega
 | fin ph lt=>
  obtain⟨a1,a2,a3,a4,a5,a6,a7,a8⟩:=p;refine⟨a1,a2,a3,a4,a5,λ_ i c hc=>?_,λz=>absurd z (show ¬ ("rest":Str)="give" by decide),a8⟩;refine Decidable.byContradiction λht=>?_;have h1:=a7 ph i c hc ht;omega
 | again ph=>exact p
theorem TB.new{room:Int}{hs:RZ}{w t:Int}:TB w (Yp room hs w t):=by
 have e:∀i c,cellAt (Yp room hs w t) i=some c->False:=λi c h=>nomatch uv h;exact⟨λi _ c _ h=>(e i c h).elim,λi c h=>(e i c h).elim,Int.le_refl _,.inl rfl,λi c h=>(e i c h).elim,λ_ i c h=>(e i c h).elim,λ_ i c h=>(e i c h).elim,rfl⟩
end
section
variable {M:Wm}
theorem Pj{i:Int}{c:Ce}(h:cellAt M i=some c):sU M i=c.birth:=by unfold sU;rw[h];rfl
theorem Yu(bu:∀i j c d,cellAt M i=some c->cellAt M j=some d->c.birth=d.birth->i=j){acc:List Int}(ha:∀i∈acc,∃c,cellAt M i=some c){i:Int}{c:Ce}(h:cellAt M i=some c):c.birth∈acc.map (sU M)↔i∈acc:=by
 constructor
 ·intro hm;obtain⟨j,hj,e⟩:=List.mem_map.mp hm;obtain⟨d,hd⟩:=ha j hj;rw[Pj hd]at e;rw[bu i j c d h hd e.symm];exact hj
 ·intro hm;rw[<- Pj h];exact List.mem_map_of_mem hm
end
section
variable {M M':Wm}{w0:Int}
theorem Vq{bits:Int}{m:Str×List (Option Int)}{x:Option Int}(hx:x∈m.2)(l:List (Str×List (Option Int))):∀(k:Nat),(∀j,k<=j->j<k+l.length->bits / 2 ^ j % 2=1)->m∈l->x∈Vp bits l k:=by
 induction l with
 | nil=>intro k h hm;cases hm
 | cons a l ih=>
  intro k h hm;unfold Vp;rw[if_pos (h k (Nat.le_refl _) (by rw[List.length_cons];omega))];rcases List.mem_cons.mp hm with e | hm
  ·rw[<- e];exact List.mem_append.mpr (.inl hx)
  ·exact List.mem_append.mpr (.inr (ih (k+1) (λj h1 h2=>h j (by omega) (by rw[List.length_cons];omega)) hm))
theorem Ae{n j:Nat}(h:j<n):((2:Int) ^ n - 1) / 2 ^ j % 2=1:=by
 have h1:=Nat.testBit_two_pow_sub_one n j;rw[Nat.testBit_eq_decide_div_mod_eq,decide_eq_true h]at h1;have h2:(2 ^ n - 1) / 2 ^ j % 2=1:=of_decide_eq_true h1;have h3:1<=2 ^ n:=Nat.one_le_two_pow;have e:((2:Int) ^ n - 1)=((2 ^ n - 1:Nat):Int):=by rw[Int.natCast_sub h3];simp
 rw[e];have:(((2 ^ n - 1) / 2 ^ j % 2:Nat):Int)=1:=by rw[h2];rfl
 rw[<- this];simp
theorem Zli{F:KB.Fd}{R:KB.Rw}{P:Int->Prop}(h0:∀row∈R,∀y,some y∈row->P y)(h1:∀y fl,P y->KB.Tp F y=some fl->∀z,some z∈fl->P z){q l:List (Int×List Int)}{k:Nat}(b:KB.Ms F R q k l):(∀x∈q,P x.1)/\∀x∈l,P x.1:=by
 induction b with
 | start=>
  refine⟨λx hx=>?_,λx hx=>nomatch hx⟩;obtain⟨⟨row,n⟩,hm,h⟩:=List.mem_flatMap.mp hx;obtain⟨k,hk,_,_⟩:=KB.Bw (q:=x.1) (v:=x.2) h;exact h0 row (List.mem_of_getElem? (List.mem_zipIdx_iff_getElem?.mp hm)) x.1 (List.mem_of_getElem? hk)
 | old _ _ _ ih=>exact ih
 | @new q k l y w fl b hq hn hf ih=>
  have py:P y:=ih.1 _ (List.mem_of_getElem? hq);refine⟨λx hx=>?_,λx hx=>?_⟩
  ·rcases List.mem_append.mp hx with hx | hx
   ·exact ih.1 x hx
   ·obtain⟨k,hk,_,_⟩:=KB.Bw (q:=x.1) (v:=x.2) hx;exact h1 y fl py hf x.1 (List.mem_of_getElem? hk)
  ·rcases List.mem_append.mp hx with hx | hx
   ·exact ih.2 x hx
   ·rw[List.mem_singleton.mp hx];exact py
theorem Tt{x y:Int}(hx:0<=x)(hy:0<=y):Builtin.bitOr x y=((x.toNat ||| y.toNat:Nat):Int):=by
 have e:∀z:Int,Builtin.bitNot (Builtin.bitNot z)=z:=λz=>by unfold Builtin.bitNot;omega
 have n1:decide (0<=Builtin.bitNot x)=false:=decide_eq_false (by unfold Builtin.bitNot;omega);have n2:decide (0<=Builtin.bitNot y)=false:=decide_eq_false (by unfold Builtin.bitNot;omega);unfold Builtin.bitOr Builtin.bitAnd;rw[n1,n2];show Builtin.bitNot (Builtin.bitNot _)=_;rw[e,e,e]
theorem Ml(a h:Nat):(((a:Nat):Int) / 2 ^ h % 2=1)↔a.testBit h=true:=by
 rw[Nat.testBit_eq_decide_div_mod_eq,decide_eq_true_iff];have:((a:Nat):Int) / 2 ^ h % 2=((a / 2 ^ h % 2:Nat):Int):=by simp
 rw[this];omega
theorem Zbw{x y:Int}(hx:0<=x)(hy:0<=y)(h:Nat):(Builtin.bitOr x y / 2 ^ h % 2=1)↔(x / 2 ^ h % 2=1\/y / 2 ^ h % 2=1):=by
 rw[Tt hx hy,Ml,Nat.testBit_or,Bool.or_eq_true,<- Ml,<- Ml,Int.toNat_of_nonneg hx,Int.toNat_of_nonneg hy]
theorem Zjb(k h:Nat):((2:Int) ^ k / 2 ^ h % 2=1)↔k=h:=by
 have e:((2:Int) ^ k)=((2 ^ k:Nat):Int):=by simp
 rw[e,Ml,Nat.testBit_two_pow];exact decide_eq_true_iff
theorem Zgk{bits:Int}(l:List (Str×List (Option Int))):∀(k i:Nat) (m:Str×List (Option Int)) (x:Option Int),l[i]? =some m->x∈m.2->bits / 2 ^ (k+i) % 2=1->x∈Vp bits l k:=by
 induction l with
 | nil=>intro k i m x h;cases h
 | cons a l ih=>
  intro k i m x h hx hb;unfold Vp;cases i with
  | zero=>
   cases h;rw[Nat.add_zero]at hb;rw[if_pos hb];exact List.mem_append.mpr (.inl hx)
  | succ i=>
   have r:=ih (k+1) i m x h hx (by rw[show k+1+i=k+(i+1) by omega];exact hb);split
   ·exact List.mem_append.mpr (.inr r)
   ·exact r
theorem Zd4{c:Ce}(hc:cellAt M M.sw.at'=some c){u:Int}{w:Sw}{i:Int}{d:Ce}(hd:cellAt { M with used:=u,cells:=M.cells.set M.sw.at'.toNat none,sw:=w } i=some d):i≠M.sw.at'/\cellAt M i=some d:=by
 obtain⟨h0,h1⟩:=cj.mp hd;have h1:(M.cells.set M.sw.at'.toNat none)[i.toNat]? =some (some d):=h1;obtain⟨k0,k1⟩:=cj.mp hc
 by_cases z:M.sw.at'.toNat=i.toNat
 ·rw[z,List.getElem?_set_self (by rw[<- z];exact(cV k1).1)]at h1;cases h1
 ·rw[List.getElem?_set_ne z]at h1;exact⟨λe=>z (by rw[e]),cj.mpr ⟨h0,h1⟩⟩
end
def Zd5(K:aC):Sp:=λvs H Q E=>∃a,vs=[.ref a]/\∃ns:List Int,cR K H a (ns.map V.int)/\ns.length<=63/\∀H',Q (.bl true) H'
def aV:Option Addr->V
 | none=>.non
 | some p=>.ref p
structure ZJ where
 b:Int
 u:Int
 m:Int
 k:Str
abbrev Lies:=List (Option ZJ)
def zj(x:ZJ):List V:=[.int x.b,.int x.u,.int x.m,.str x.k]
structure Lw(H:Hp)(T:Tg)(ll:Addr)(ps:List (Option Addr))(lies:Lies):Prop where
 tl:T ll=(3,0)
 ol:H ll=some (.lst (ps.map aV))
 ln:ps.length=lies.length
 no:∀(k:Nat) p c,ps[k]? =some p->lies[k]? =some c->(p=none↔c=none)
 at_:∀(k:Nat) p c,ps[k]? =some (some p)->lies[k]? =some (some c)->T p=(3,1+k)/\H p=some (.lst (zj c))
section
variable {H H':Hp}{T T':Tg}{ll:Addr}{ps:List (Option Addr)}{lies:Lies}
theorem Lw.mv(w:Lw H T ll ps lies)(hh:∀b o,H b=some o->(T b).1=3->H' b=some o)(ht:∀b o,H b=some o->T' b=T b):Lw H' T' ll ps lies:=by
 obtain⟨a1,a2,a3,a4,a5⟩:=w;refine⟨(ht _ _ a2).trans a1,hh _ _ a2 (by rw[a1]),a3,a4,λk p c e1 e2=>?_⟩;obtain⟨b1,b2⟩:=a5 k p c e1 e2;exact⟨(ht _ _ b2).trans b1,hh _ _ b2 (by rw[b1])⟩
theorem Lw.same(w:Lw H T ll ps lies)(e:bC H H'):Lw H' T ll ps lies:=w.mv (λb o h _=>e b o h) λ_ _ _=>rfl
theorem Lw.other{s:Nat}(w:Lw H T ll ps lies)(e:fj s H H' T T')(n3:s≠3):Lw H' T' ll ps lies:=w.mv (λb o h t=>e.kp b o h (by rw[t];exact λz=>n3 z.symm)) e.tg
theorem Lw.get(w:Lw H T ll ps lies){k:Nat}(hk:k<lies.length):(lies[k]? =some none/\(ps.map aV)[k]? =some .non)\/∃m p,lies[k]? =some (some m)/\ps[k]? =some (some p)/\(ps.map aV)[k]? =some (.ref p)/\T p=(3,1+k)/\H p=some (.lst (zj m)):=by
 have hk':k<ps.length:=by rw[w.ln];exact hk
 have e1:=cJ hk;have e2:=cJ hk';have:=w.no k _ _ e2 e1;cases hc:lies[k]with
 | none=>
  have hp:=this.mpr hc;exact .inl ⟨by rw[e1,hc],by rw[dB,e2,hp];rfl⟩
 | some c=>
  cases hp:ps[k]with
  | none=>rw[this.mp hp]at hc;cases hc
  | some p=>
   have z1:lies[k]? =some (some c):=by rw[e1,hc]
   have z2:ps[k]? =some (some p):=by rw[e2,hp]
   obtain⟨b1,b2⟩:=w.at_ k p c z2 z1;exact .inr ⟨c,p,z1,z2,by rw[dB,e2,hp];rfl,b1,b2⟩
theorem Lw.chg(w:Lw H T ll ps lies)(wt:WT H T){k:Nat}{p:Addr}{m m':ZJ}(hp:ps[k]? =some (some p))(hm:lies[k]? =some (some m)):fj 3 H (upd H p (.lst (zj m'))) T T/\Lw (upd H p (.lst (zj m'))) T ll ps (lies.set k (some m')):=by
 obtain⟨b1,b2⟩:=w.at_ k p m hp hm;have hk:=(cV hm).1;refine⟨fj.upd wt b2 (by rw[b1]),w.tl,by rw[aA (uc w.tl b1 (by simp;try omega))];exact w.ol,by rw[List.length_set];exact w.ln,λi p' c e1 e2=>?_,λi p' c e1 e2=>?_⟩
 ·by_cases hi:k=i
  ·subst hi;rw[List.getElem?_set_self hk]at e2;rw[hp]at e1;cases e1;cases e2;exact⟨λz=>(nomatch z),λz=>(nomatch z)⟩
  ·rw[List.getElem?_set_ne hi]at e2;exact w.no i p' c e1 e2
 ·by_cases hi:k=i
  ·subst hi;rw[List.getElem?_set_self hk]at e2;rw[hp]at e1;cases e1;cases e2;exact⟨b1,ao⟩
  ·rw[List.getElem?_set_ne hi]at e2;obtain⟨c1,c2⟩:=w.at_ i p' c e1 e2;exact⟨c1,by rw[aA (uc c1 b1 (by simp;try omega))];exact c2⟩
theorem Lw.clr(w:Lw H T ll ps lies)(wt:WT H T)(k:Nat):fj 3 H (upd H ll (.lst ((ps.set k none).map aV))) T T/\Lw (upd H ll (.lst ((ps.set k none).map aV))) T ll (ps.set k none) (lies.set k none):=by
 refine⟨fj.upd wt w.ol (by rw[w.tl]),w.tl,ao,by rw[List.length_set,List.length_set];exact w.ln,λi p' c e1 e2=>?_,λi p' c e1 e2=>?_⟩
 ·by_cases hi:k=i
  ·subst hi;have hk:k<ps.length:=by have:=(cV e1).1;rw[List.length_set]at this;exact this
   have hk':k<lies.length:=by rw[<- w.ln];exact hk
   rw[List.getElem?_set_self hk]at e1;rw[List.getElem?_set_self hk']at e2;cases e1;cases e2;exact⟨λ_=>rfl,λ_=>rfl⟩
  ·rw[List.getElem?_set_ne hi]at e1 e2;exact w.no i p' c e1 e2
 ·by_cases hi:k=i
  ·subst hi;have hk:k<ps.length:=by have:=(cV e1).1;rw[List.length_set]at this;exact this
   rw[List.getElem?_set_self hk]at e1;cases e1
  ·rw[List.getElem?_set_ne hi]at e1 e2;obtain⟨c1,c2⟩:=w.at_ i p' c e1 e2;exact⟨c1,by rw[aA (uc c1 w.tl (by simp;try omega))];exact c2⟩
theorem Lw.app(w:Lw H T ll ps lies)(wt:WT H T):fj 3 H (upd H ll (.lst ((ps++[none]).map aV))) T T/\Lw (upd H ll (.lst ((ps++[none]).map aV))) T ll (ps++[none]) (lies++[none]):=by
 have hl:=w.ln;have cs:∀(i:Nat) (p':Option Addr) (c:Option (ZJ)),(ps++[none])[i]? =some p'->(lies++[none])[i]? =some c->(ps[i]? =some p'/\lies[i]? =some c)\/(p'=none/\c=none):=λi p' c e1 e2=>by
  by_cases hi:i<ps.length
  ·rw[List.getElem?_append_left hi]at e1;rw[List.getElem?_append_left (by omega)]at e2;exact .inl ⟨e1,e2⟩
  ·rw[List.getElem?_append_right (by omega)]at e1 e2;have h1:=(cV e1).1;simp at h1;have:i - ps.length=0:=by omega
   rw[this]at e1;have:i - lies.length=0:=by omega
   rw[this]at e2;cases e1;cases e2;exact .inr ⟨rfl,rfl⟩
 refine⟨fj.upd wt w.ol (by rw[w.tl]),w.tl,ao,by rw[List.length_append,List.length_append,hl];rfl,λi p' c e1 e2=>?_,λi p' c e1 e2=>?_⟩
 ·rcases cs i p' c e1 e2 with ⟨e1,e2⟩ | ⟨rfl,rfl⟩
  ·exact w.no i p' c e1 e2
  ·exact⟨λ_=>rfl,λ_=>rfl⟩
 ·rcases cs i _ _ e1 e2 with ⟨e1,e2⟩ | ⟨e,_⟩
  ·obtain⟨c1,c2⟩:=w.at_ i p' c e1 e2;exact⟨c1,by rw[aA (uc c1 w.tl (by simp;try omega))];exact c2⟩
  ·cases e
theorem Lw.lay(w:Lw H T ll ps lies)(wt:WT H T){k:Nat}{p:Addr}{m:ZJ}(hk:k<lies.length)(np:T p=(3,1+k))(op:H p=some (.lst (zj m))):fj 3 H (upd H ll (.lst ((ps.set k (some p)).map aV))) T T/\Lw (upd H ll (.lst ((ps.set k (some p)).map aV))) T ll (ps.set k (some p)) (lies.set k (some m)):=by
 have hl:=w.ln;refine⟨fj.upd wt w.ol (by rw[w.tl]),w.tl,ao,by rw[List.length_set,List.length_set];exact w.ln,λi p' c e1 e2=>?_,λi p' c e1 e2=>?_⟩
 ·by_cases hi:k=i
  ·subst hi;rw[List.getElem?_set_self (by omega)]at e1 e2;cases e1;cases e2;exact⟨λz=>(nomatch z),λz=>(nomatch z)⟩
  ·rw[List.getElem?_set_ne hi]at e1 e2;exact w.no i p' c e1 e2
 ·by_cases hi:k=i
  ·subst hi;rw[List.getElem?_set_self (by omega)]at e1 e2;cases e1;cases e2;exact⟨np,by rw[aA (uc np w.tl (by simp;try omega))];exact op⟩
  ·rw[List.getElem?_set_ne hi]at e1 e2;obtain⟨c1,c2⟩:=w.at_ i p' c e1 e2;exact⟨c1,by rw[aA (uc c1 w.tl (by simp;try omega))];exact c2⟩
theorem O4{α:Type}:∀{l:List (Option α)}{k:Nat},(∀j,j<k->∃x,l[j]? =some (some x))->l[k]? =some none->dX l=k
 | [],k,_,h=>by simp at h
 | none::l,0,_,_=>rfl
 | some a::l,0,_,h=>by simp at h
 | none::l,k+1,hj,h=>by
  obtain⟨x,e⟩:=hj 0 (by omega);simp at e
 | some a::l,k+1,hj,h=>by
  show dX l+1=k+1;rw[O4 (l:=l) (k:=k) (λj hjk=>by simpa using hj (j+1) (by omega)) (by simpa using h)]
theorem Tn{α:Type}:∀{l:List (Option α)},(∀j,j<l.length->∃x,l[j]? =some (some x))->dX l=l.length
 | [],_=>rfl
 | none::l,h=>by
  obtain⟨x,e⟩:=h 0 (by simp);simp at e
 | some a::l,h=>by
  show dX l+1=l.length+1;rw[Tn (l:=l) λj hj=>by simpa using h (j+1) (by simpa using hj)]
theorem Lw.fst(w:Lw H T ll ps lies):dX ps=dX lies:=V8 _ _ w.ln λi x y e1 e2=>w.no i x y e1 e2
end
def Hr:Sp:=λvs H Q E=>∃lp,vs=[.ref lp]/\∃ps:List (Option Addr),H lp=some (.lst (ps.map aV))/\ps.length<=1000/\(dX ps<ps.length->Q (.int (dX ps)) H)/\(dX ps=ps.length->Q (.int ps.length) (upd H lp (.lst ((ps++[none]).map aV))))
section
variable {K:aC}{X:Cs}{H:Hp}{Q:VK}{E:XK}{n:St->Hp->Prop}{bk ct:St->Hp->Prop}
theorem RQ{lp:Addr}(q:∃ps:List (Option Addr),H lp=some (.lst (ps.map aV))/\ps.length<=1000/\(dX ps<ps.length->Q (.int (dX ps)) H)/\(dX ps=ps.length->Q (.int ps.length) (upd H lp (.lst ((ps++[none]).map aV))))):
  vG K ⟨n,Q,bk,ct⟩ [some (.ref lp),none] H:=by
 obtain⟨ps,ol,hl,q1,q2⟩:=q;unfold vG;walk_at"e";refine iI (cR.of ol) ?_;rw[aU];walk_at"e";refine⟨_,rfl,by omega,by omega,?_⟩;refine forR (λk σ Hx=>Hx=H/\(∃v1,σ=[some (.ref lp),v1])/\∀j,j<k->∃c,ps[j]? =some (some c)) ⟨rfl,⟨_,rfl⟩,λj hj=>absurd hj (Nat.not_lt_zero _)⟩ ?_ ?_
 ·rintro k σ Hx hk ⟨rfl,⟨v1,rfl⟩,hj⟩;have hk:k<ps.length:=by omega
  walk_at"e";refine dz (cR.of ol) (i:=(0:Int)+k) (v:=aV ps[k]) (by rw[Int.zero_add];exact dj (by rw[dB,cJ hk];rfl)) ?_;cases hc:ps[k]with
  | some c=>
   rw[show aV (some c)=V.ref c from rfl];walk_at"e";refine⟨rfl,⟨_,rfl⟩,λj hjk=>?_⟩
   by_cases z:j<k
   ·exact hj j z
   ·have:j=k:=by omega
    subst this;exact⟨c,by rw[cJ hk,hc]⟩
  | none=>
   rw[show aV none=V.non from rfl];have hf:dX ps=k:=O4 hj (by rw[cJ hk,hc]);walk_at"e";rw[Int.zero_add,<- hf];exact q1 (by omega)
 ·rintro σ Hx ⟨rfl,⟨v1,rfl⟩,hj⟩;have hf:dX ps=ps.length:=Tn λj hjl=>hj j (by omega);walk_at"e";refine⟨.inl ⟨rfl,_,cR.of ol⟩,?_⟩;walk_at"e";refine⟨lp,_,_,rfl,rfl,ol,?_,?_⟩
  ·rw[aU];exact Nat.lt_of_le_of_lt (show _<=1000 by omega) (by decide)
  rw[show ps.map aV++[V.non]=(ps++[none]).map aV from by rw[List.map_append];rfl];walk_at"e";refine iI (cR.of ao) ?_;rw[aU,List.length_append];walk_at"e";rw[show((ps.length + [(none:Option Addr)].length:Nat):Int) - 1=ps.length from by simp];exact q2 hf
end
def LR(P:Int->Ce->Str->Prop)(i:Int):Option Ce->Option ZJ->Prop
 | none,none=>True
 | some c,some x=>x.b=c.birth/\x.u=c.bulk/\x.m=(c.fl.length:Int)/\P i c x.k
 | _,_=>False
structure jT(P:Int->Ce->Str->Prop)(M:Wm)(lies:Lies):Prop where
 ln:M.cells.length=lies.length
 at_:∀k:Nat,k<lies.length->LR P k (cellAt M k) ((lies[k]?).join)
abbrev RelM(M:Wm)(lies:Lies):Prop:=jT (λi c k=>k=ie M i c) M lies
def vW(g:Int->Str->Str)(lies:Lies):Lies:=lies.map λo=>o.map λx=>{ x with k:=g x.b x.k }
def fu(bs:List Int)(mk:Str)(lies:Lies):Lies:=vW (λb k=>if b∈bs then mk else k) lies
def GX(lies:Lies):List Int:=lies.filterMap λo=>o.map (·.b)
def lone(ks:List Int)(lies:Lies):List Int:=(List.range lies.length).filterMap λ(i:Nat)=>((lies[i]?).join).bind λx=>if (i:Int)∈ks then none else some x.b
inductive ZF(ks:List Int)(lies:Lies):Ev->Lies->Prop
 | begin (t:Int) (ns:List Int):ZF ks lies ⟨"begin",some t,ns⟩ (fu ns "grey" (fu (GX lies) "pale" lies))
 | look (t:Int) (ns:List Int):ZF ks lies ⟨"look",some t,ns⟩ (fu ns "grey" lies)
 | walk (b:Int) (ns:List Int):ZF ks lies ⟨"walk",some b,ns⟩ (fu [b] "dark" (fu ns "grey" lies))
 | cut:ZF ks lies ⟨"cut",some (lone ks lies).length,lone ks lies⟩ (fu (lone ks lies) "doomed" (fu (GX lies) "kept" lies))
 | back (p:Nat) (x:ZJ):lies[p]? =some (some x)->x.k="doomed"->ZF ks lies ⟨"back",some x.b,[(p:Int)]⟩ (lies.set p none)
 | pass (t:Int):ZF ks lies ⟨"pass",some t,[]⟩ lies
 | fin (t:Int) (ns:List Int):ZF ks lies ⟨"end",some t,ns⟩ lies
section
variable {M N:Wm}{lies:Lies}{P P':Int->Ce->Str->Prop}
theorem Jj(f g:Int->Str->Str)(lies:Lies):vW g (vW f lies)=vW (λb k=>g b (f b k)) lies:=by
 unfold vW;rw[List.map_map];refine List.map_congr_left λo _=>?_;cases o<;>rfl
theorem gU(M:Wm)(k:Nat):cellAt M (k:Int)=(M.cells[k]?).join:=by
 unfold cellAt;rw[if_pos (by omega)];rfl
theorem jT.move(r:jT P M lies){f:Int->Ce->Ce}{g:Int->Str->Str}(hl:N.cells.length=M.cells.length)(hc:∀i,cellAt N i=(cellAt M i).map (f i))(hf:∀i c,(f i c).birth=c.birth/\(f i c).bulk=c.bulk/\(f i c).fl.length=c.fl.length)
  (hp:∀i c k,cellAt M i=some c->P i c k->P' i (f i c) (g c.birth k)):jT P' N (vW g lies):=by
 refine⟨by rw[hl,r.ln];unfold vW;rw[aU],λk hk=>?_⟩;unfold vW at hk ⊢;rw[aU]at hk;have h:=r.at_ k hk;rw[hc k,dB];cases e:cellAt M k with
 | none=>
  rw[e]at h;cases e2:lies[k]? with
  | none=>rw[e2]at h;trivial
  | some o=>
   rw[e2]at h;cases o with
   | none=>trivial
   | some x=>exact h.elim
 | some c=>
  rw[e]at h;cases e2:lies[k]? with
  | none=>rw[e2]at h;exact h.elim
  | some o=>
   rw[e2]at h;cases o with
   | none=>exact h.elim
   | some x=>
    obtain⟨h1,h2,h3,h4⟩:=h;obtain⟨f1,f2,f3⟩:=hf k c;refine⟨h1.trans f1.symm,h2.trans f2.symm,by rw[f3];exact h3,?_⟩;show P' k (f k c) (g x.b x.k);rw[h1];exact hp k c x.k e h4
theorem jT.get(r:jT P M lies){i:Nat}{c:Ce}(h:cellAt M i=some c):∃x,lies[i]? =some (some x)/\x.b=c.birth/\x.u=c.bulk/\x.m=(c.fl.length:Int)/\P i c x.k:=by
 have hi:i<lies.length:=by rw[<- r.ln];have:=tG h;omega
 have h1:=r.at_ i hi;rw[h]at h1;cases e:lies[i]? with
 | none=>rw[e]at h1;exact h1.elim
 | some o=>
  rw[e]at h1;cases o with
  | none=>exact h1.elim
  | some x=>exact⟨x,rfl,h1⟩
theorem jT.got(r:jT P M lies){i:Nat}{x:ZJ}(h:lies[i]? =some (some x)):∃c,cellAt M i=some c/\x.b=c.birth/\x.u=c.bulk/\x.m=(c.fl.length:Int)/\P i c x.k:=by
 have hi:=(cV h).1;have h1:=r.at_ i hi;rw[h]at h1;cases e:cellAt M i with
 | none=>rw[e]at h1;exact h1.elim
 | some c=>rw[e]at h1;exact⟨c,rfl,h1⟩
theorem jT.non(r:jT P M lies){i:Nat}(h:lies[i]? =some none):cellAt M i=none:=by
 have hi:=(cV h).1;have h1:=r.at_ i hi;rw[h]at h1;cases e:cellAt M i with
 | none=>rfl
 | some c=>rw[e]at h1;exact h1.elim
theorem jT.bs(r:jT P M lies){i:Int}{c:Ce}(h:cellAt M i=some c):c.birth∈GX lies:=by
 have hi:=tG h;obtain⟨k,rfl⟩:=Int.eq_ofNat_of_zero_le hi.1;obtain⟨x,hx,e,_⟩:=r.get (i:=k) h;exact List.mem_filterMap.mpr ⟨some x,List.mem_of_getElem? hx,by rw[<- e];rfl⟩
theorem jT.imp(r:jT P M lies)(hp:∀i c k,cellAt M i=some c->P i c k->P' i c k):jT P' M lies:=by
 have h:=r.move (N:=M) (P':=P') (f:=λ_ c=>c) (g:=λ_ k=>k) rfl (λi=>by cases cellAt M i<;>rfl) (λi c=>⟨rfl,rfl,rfl⟩) hp;have e:vW (λ_ k=>k) lies=lies:=by
  unfold vW
  conv=>rhs;rw[<- List.map_id lies]
  refine List.map_congr_left λo _=>?_;cases o<;>rfl
 rw[e]at h;exact h
end
section
variable {M:Wm}
theorem Ly:∀(l:List (Option Int)) (acc:List Int) (i:Int),(i∈ntP M l acc↔i∈acc\/(eN M i=true/\some i∈l))
 | [],acc,i=>by simp[ntP]
 | none::l,acc,i=>by
  show i∈ntP M l acc↔_;rw[Ly l acc i];simp
 | some j::l,acc,i=>by
  unfold ntP;split
  ·rename_i z
   rw[Ly l (acc++[j]) i];simp only[List.mem_append,List.mem_cons,Option.some.injEq,List.not_mem_nil,or_false];constructor
   ·rintro((h | h) | h)
    ·exact .inl h
    ·subst h;exact .inr ⟨z.1,.inl rfl⟩
    ·exact .inr ⟨h.1,.inr h.2⟩
   ·rintro(h | ⟨h1,h2 | h2⟩)
    ·exact .inl (.inl h)
    ·exact .inl (.inr h2)
    ·exact .inr ⟨h1,h2⟩
  ·rename_i z
   rw[Ly l acc i];simp only[List.mem_cons,Option.some.injEq];constructor
   ·rintro(h | h)
    ·exact .inl h
    ·exact .inr ⟨h.1,.inr h.2⟩
   ·rintro(h | ⟨h1,h2 | h2⟩)
    ·exact .inl h
    ·subst h2
     by_cases hi:i∈acc
     ·exact .inl hi
     ·exact absurd ⟨h1,hi⟩ z
    ·exact .inr ⟨h1,h2⟩
theorem Ai(ph:M.sw.phase="walk")(l:List (Option Int)):∃acc:List Int,NL M (aN M l).2 acc/\(aN M l).1=acc.map (sU M)/\acc.Nodup/\∀i,i∈acc↔eN M i=true/\some i∈l:=by
 obtain⟨h1,h2⟩:=Bv ph l [] List.nodup_nil (λi h=>by cases h);obtain⟨k1,k2⟩:=Vm (M:=M) l [] List.nodup_nil (λi h=>by cases h);refine⟨ntP M l [],?_,?_,k1,λi=>?_⟩
 ·rw[show aN M l=aN (gA M []) l from rfl,h1];exact Yg ph _ _ rfl k1 k2
 ·rw[<- h2];rfl
 ·rw[Ly];simp
theorem Lz{bits:Int}:∀(l:List (Str×List (Option Int))) (k:Nat) {x:Option Int},x∈Vp bits l k->∃m∈l,x∈m.2
 | [],_,_,h=>by cases h
 | m::l,k,x,h=>by
  unfold Vp at h;split at h
  ·rcases List.mem_append.mp h with h | h
   ·exact⟨m,List.mem_cons_self,h⟩
   ·obtain⟨m',h1,h2⟩:=Lz l (k+1) h;exact⟨m',List.mem_cons_of_mem _ h1,h2⟩
  ·obtain⟨m',h1,h2⟩:=Lz l (k+1) h;exact⟨m',List.mem_cons_of_mem _ h1,h2⟩
theorem NL.len{N:Wm}{acc:List Int}(n:NL M N acc):N.cells.length=M.cells.length:=by
 have:=congrArg List.length n.nt.ce;simpa using this
theorem Fg{i:Int}{c:Ce}(h:cellAt M i=some c):eN M i=true↔c.tone≠M.sw.sense:=by
 unfold eN;rw[h];exact decide_eq_true_iff
end
structure Fx(M:Wm)(k:Nat):Prop where
 fn:∀i c,cellAt M i=some c->c.load=0/\c.fl=List.replicate c.fl.length none/\c.fl.length<=3/\0<=c.bulk
 nm:M.names=[]
 rm:M.room=1000000000000000
 us:M.used<=k * 1000000000004
 h3:∀m∈M.hands,m.2.length=3
 h5:1<=M.hands.length/\M.hands.length<=5
 lz:0<=M.sw.looked
structure Bs(M:Wm)(hs:RZ)(k:Nat)(w0:Int):Prop where
 kw:KW M hs k
 tb:TB w0 M
 fx:Fx M k
 ww:w0=0\/w0=1\/w0=2
structure Hk(M:Wm)(ks:List Int):Prop where
 hk:∀x,(∃m∈M.hands,some x∈m.2)↔x∈ks
 kc:∀x∈ks,∃c,cellAt M x=some c
structure Rnd(M:Wm)(ks:List Int):Prop where
 hk:Hk M ks
 ph:M.sw.phase="walk"\/M.sw.phase="give"
 wk:M.sw.phase="walk"->∀i c,cellAt M i=some c->c.tone=M.sw.sense->i∈ks
 w0:M.sw.phase="walk"->M.w=0->∀x∈ks,eN M x=false
 w1:M.sw.phase="walk"->M.w=1->∀(h:Nat) m x,M.hands[h]? =some m->M.sw.looked / 2 ^ h % 2=1->some x∈m.2->eN M x=false
 w2:M.sw.phase="walk"->M.w=2->M.sw.looks≠0->∀x∈ks,eN M x=false
 lk:M.sw.phase="walk"->0<=M.sw.looks
 gv:M.sw.phase="give"->M.sw.at'<=M.sw.stop/\M.sw.stop=M.cells.length/\∀i c,cellAt M i=some c->(c.tone=M.sw.sense↔i∈ks)
 gg:M.sw.phase="give"->M.sw.grey=[]
def unl(lo:Int)(h:Nat):Nat:=(List.range h).countP λj=>decide (lo / 2 ^ j % 2≠1)
def muW(M:Wm):Nat:=M.sw.grey.length+(if M.w=1 then 16 * unl M.sw.looked M.hands.length else if M.w=2 then(if M.sw.looks=0 then 16 else 0)else 0)+M.cells.length+3
def mu(M:Wm):Nat:=if M.sw.phase="walk" then muW M else(M.sw.stop - M.sw.at').toNat+1
theorem countP_le(p q:Nat->Bool)(hpq:∀j,p j=true->q j=true)(n:Nat):(List.range n).countP p<=(List.range n).countP q:=List.countP_mono_left λj _ h=>hpq j h
theorem Tq(p q:Nat->Bool)(hpq:∀j,p j=true->q j=true):∀(n j0:Nat),j0<n->q j0=true->p j0=false->(List.range n).countP p<(List.range n).countP q
 | 0,_,h,_,_=>absurd h (Nat.not_lt_zero _)
 | n+1,j0,h,hq,hp=>by
  rw[List.range_succ,List.countP_append,List.countP_append,List.countP_singleton,List.countP_singleton]
  by_cases e:j0=n
  ·subst e;rw[hp,hq];have:=countP_le p q hpq j0;simp;omega
  ·have ih:=Tq p q hpq n j0 (by omega) hq hp;have:(if p n=true then 1 else 0)<=(if q n=true then 1 else 0):=by
    by_cases z:p n=true
    ·rw[if_pos z,if_pos (hpq n z)];exact Nat.le_refl _
    ·rw[if_neg z];exact Nat.zero_le _
   omega
theorem Zmd(lo:Int)(h:Nat):unl lo h<=h:=by
 unfold unl;have:=List.countP_le_length (p:=λj=>decide (lo / 2 ^ j % 2≠1)) (l:=List.range h);rw[List.length_range]at this;exact this
theorem Mf(x:Int):∀(n i:Nat),(lsE x i n=0/\∀k,i<=k->k<i+n->x / 2 ^ k % 2≠0)\/∃k,i<=k/\k<i+n/\lsE x i n=2 ^ k/\x / 2 ^ k % 2=0
 | 0,i=>.inl ⟨rfl,λk h1 h2=>by omega⟩
 | n+1,i=>by
  unfold lsE
  by_cases z:x / 2 ^ i % 2=0
  ·rw[if_pos z];exact .inr ⟨i,Nat.le_refl _,by omega,rfl,z⟩
  ·rw[if_neg z];rcases Mf x n (i+1)with ⟨h1,h2⟩ | ⟨k,h1,h2,h3,h4⟩
   ·refine .inl ⟨h1,λk a b=>?_⟩
    by_cases e:k=i
    ·rw[e];exact z
    ·exact h2 k (by omega) (by omega)
   ·exact .inr ⟨k,by omega,by omega,h3,h4⟩
section
variable {M N:Wm}{hs:RZ}{k:Nat}{w0:Int}{lies:Lies}{ks:List Int}{acc:List Int}
theorem NL.cell(n:NL M N acc){i:Int}{d:Ce}(h:cellAt N i=some d):∃c,cellAt M i=some c/\d=if i∈acc then { c with tone:=M.sw.sense }else c:=by
 rw[n.at_ i]at h;split at h
 ·rename_i z
  obtain⟨c,hc,e⟩:=Option.map_eq_some_iff.mp h;exact⟨c,hc,by rw[if_pos z];exact e.symm⟩
 ·rename_i z
  exact⟨d,h,by rw[if_neg z]⟩
theorem NL.pale(n:NL M N acc){i:Int}(hp:eN N i=true):eN M i=true/\i∉acc:=by
 cases hd:cellAt N i with
 | none=>unfold eN at hp;rw[hd]at hp;cases hp
 | some d=>
  have h1:=(Fg hd).mp hp;obtain⟨c,hc,e⟩:=n.cell hd;have se:N.sw.sense=M.sw.sense:=by rw[n.sw]
  rw[se]at h1
  by_cases z:i∈acc
  ·rw[if_pos z]at e;rw[e]at h1;exact absurd rfl h1
  ·rw[if_neg z]at e;rw[e]at h1;exact⟨(Fg hc).mpr h1,z⟩
theorem Fx.nl(p:Fx M k)(n:NL M N acc):Fx N k:=by
 refine⟨λi d hd=>?_,by rw[n.nt.nm];exact p.nm,by rw[n.nt.rm];exact p.rm,by rw[n.nt.us];exact p.us,by rw[n.nt.hd];exact p.h3,by rw[n.nt.hd];exact p.h5,by rw[n.sw];exact p.lz⟩;obtain⟨c,hc,e⟩:=n.cell hd;have:=p.fn i c hc;rw[e];split
 ·exact this
 ·exact this
theorem yu:∀(n:Nat) (M:Wm),aN M (List.replicate n none)=([],M)
 | 0,M=>rfl
 | n+1,M=>by
  rw[List.replicate_succ];show(Vl none++(aN M (List.replicate n none)).1,(aN M (List.replicate n none)).2)=_;rw[yu n M];rfl
theorem Zek{x y:Int}(hx:0<=x)(hy:0<=y):0<=Builtin.bitOr x y:=by rw[Tt hx hy];omega
theorem Gi(M:Wm):0<=bH M:=by
 unfold bH uO;split
 ·exact Int.le_refl _
 ·split
  ·rcases Mf M.sw.looked M.hands.length 0 with ⟨h,_⟩ | ⟨k,_,_,h,_⟩
   ·rw[h];exact Int.le_refl _
   ·rw[h];exact Int.le_of_lt (Int.pow_pos (by decide))
  ·have:(0:Int)<2 ^ M.hands.length:=Int.pow_pos (by decide);omega
theorem Bs.step(p:Bs M hs k w0){lb:Int}{lw:List Int}{e:Ev}(h:nT lb lw M e N):Bs N hs k w0:=by
 refine⟨p.kw.step h,p.tb.step h,?_,p.ww⟩;have f:=p.fx;cases h with
 | begin ph=>
  rw[N6];obtain⟨acc,n,_⟩:=Ai (M:=gW M) rfl (Vp (bM M.w M.hands.length) M.hands 0);refine Fx.nl (M:=gW M) ⟨f.fn,f.nm,f.rm,f.us,f.h3,f.h5,?_⟩ n;show 0<=bM M.w M.hands.length;unfold bM;have:(0:Int)<2 ^ M.hands.length:=Int.pow_pos (by decide);split<;>omega
 | walk x g c ph hg hc=>
  rw[(f.fn x c hc).2.1,yu];exact⟨f.fn,f.nm,f.rm,f.us,f.h3,f.h5,f.lz⟩
 | look N' ph hg nc hN=>
  subst hN;rw[N6];obtain⟨acc,n,_⟩:=Ai ph (Vp (bH M) M.hands 0);have q:=f.nl n;refine⟨q.fn,q.nm,q.rm,q.us,q.h3,q.h5,?_⟩;show 0<=if M.w=2 then _ else _
  split
  ·exact q.lz
  ·exact Zek q.lz (Gi M)
 | cut q qs ph hg cd bf hno=>exact⟨f.fn,f.nm,f.rm,f.us,f.h3,f.h5,f.lz⟩
 | lost q qs i x c v ph hg cd bf hx hno hc ht=>exact⟨f.fn,f.nm,f.rm,f.us,f.h3,f.h5,f.lz⟩
 | pass ph lt hp=>exact⟨f.fn,f.nm,f.rm,f.us,f.h3,f.h5,f.lz⟩
 | back c ph lt hc ht=>
  refine⟨λi d h1=>f.fn i d (Zd4 hc h1).2,f.nm,f.rm,?_,f.h3,f.h5,f.lz⟩;have:=f.us;have b:=(f.fn _ c hc).2.2.2;show M.used - (1+c.fl.length+c.bulk)<=_;omega
 | fin ph lt=>exact⟨f.fn,f.nm,f.rm,f.us,f.h3,f.h5,f.lz⟩
 | again ph=>exact f
end
section
variable {M N:Wm}{hs:RZ}{k:Nat}{w0:Int}{lies:Lies}{ks:List Int}{acc:List Int}{lb:Int}{lw:List Int}{e:Ev}
theorem Nx{i:Int}{c:Ce}(h:cellAt M i=some c):eN M i=false↔c.tone=M.sw.sense:=by
 have:=Fg h;constructor
 ·intro z;exact Decidable.byContradiction λy=>by rw[this.mpr y]at z;cases z
 ·intro z;cases hp:eN M i with
  | false=>rfl
  | true=>exact absurd z (this.mp hp)
theorem Tu(tb:TB w0 M)(ha:∀i∈acc,eN M i=true){i:Int}{c:Ce}(h:cellAt M i=some c):c.birth∈acc.map (sU M)↔i∈acc:=
 Yu tb.bu (λj hj=>by
  have:=ha j hj;unfold eN at this;cases hc:cellAt M j with
  | none=>rw[hc]at this;cases this
  | some d=>exact⟨d,rfl⟩) h
theorem NL.hk(n:NL M N acc)(h:Hk M ks):Hk N ks:=by
 refine⟨by rw[n.nt.hd];exact h.hk,λx hx=>?_⟩;obtain⟨c,hc⟩:=h.kc x hx;rw[n.at_ x,hc];split
 ·exact⟨_,rfl⟩
 ·exact⟨_,rfl⟩
theorem NL.np(n:NL M N acc){x:Int}(h:eN M x=false\/x∈acc):eN N x=false:=by
 cases hp:eN N x with
 | false=>rfl
 | true=>
  obtain⟨h1,h2⟩:=n.pale hp;rcases h with h | h
  ·rw[h1]at h;cases h
  ·exact absurd h h2
theorem Wv{h:Nat}{w:Int}(j:Nat)(hw:w=0)(hj:j<h):bM w h / 2 ^ j % 2=1:=by
 unfold bM;rw[if_pos hw];exact Ae hj
theorem Zby(p:Bs M hs 12 w0)(hk:Hk M ks)(r:jT (λ_ _ _=>True) M lies)(ph:M.sw.phase="rest")(h:nT lb lw M e N):∃cT,ZF ks lies e cT/\e.word≠"end"/\RelM N cT/\Rnd N ks/\mu N<=95:=by
 cases h with
 | walk x g c z=>exact absurd (ph.symm.trans z) (by decide)
 | look N' z=>exact absurd (ph.symm.trans z) (by decide)
 | cut q qs z=>exact absurd (ph.symm.trans z) (by decide)
 | lost q qs i x c v z=>exact absurd (ph.symm.trans z) (by decide)
 | pass z=>exact absurd (ph.symm.trans z) (by decide)
 | back c z=>exact absurd (ph.symm.trans z) (by decide)
 | fin z=>exact absurd (ph.symm.trans z) (by decide)
 | again z=>exact absurd (ph.symm.trans z) (by decide)
 | begin _=>
  refine⟨_,.begin _ _,by show("begin":Str)≠"end";decide,?_⟩;have hgr:=(pD (bM M.w M.hands.length) 3 M.hands 0 (gW M) (λm hm=>by rw[p.fx.h3 m hm];exact Nat.le_refl _)).2.1;rw[N6]at hgr ⊢;obtain⟨acc,n,hns,nd,hacc⟩:=Ai (M:=gW M) rfl (Vp (bM M.w M.hands.length) M.hands 0);rw[hns];generalize (aN (gW M) (Vp (bM M.w M.hands.length) M.hands 0)).2=N at n hgr ⊢;have tbB:TB w0 (gW M):=by
   have:=TB.step (lb:=lb) (lw:=lw) p.tb (nT.begin ph);exact⟨p.tb.bu,p.tb.bn,p.tb.b0,by show 1 - M.sw.sense=0\/1 - M.sw.sense=1;have:=p.tb.se;omega,p.tb.tn,λz=>absurd z (show ¬ ("walk":Str)="rest" by decide),λz=>absurd z (show ¬ ("walk":Str)="give" by decide),p.tb.ww⟩
  have pl:∀i c,cellAt M i=some c->c.tone≠(gW M).sw.sense:=λi c hc=>by
   rw[p.tb.rs ph i c hc];show M.sw.sense≠1 - M.sw.sense;omega
  have swN:N.sw.phase="walk"/\N.sw.sense=1 - M.sw.sense/\N.sw.grey=acc/\N.sw.looked=bM M.w M.hands.length/\N.sw.looks=0:=by
   rw[n.sw];exact⟨rfl,rfl,rfl,rfl,rfl⟩
  obtain⟨s1,s2,s3,s4,s5⟩:=swN;refine⟨?_,⟨n.hk (M:=gW M) ⟨hk.hk,hk.kc⟩,.inl s1,λ_ i d hd ht=>?_,λ_ hw x hx=>?_,λ_ hw h m x hm hb hx=>?_,λ_ _ hl=>absurd s5 hl,λ_=>by rw[s5];exact Int.le_refl _,λz=>absurd (s1.symm.trans z) (by decide),λz=>absurd (s1.symm.trans z) (by decide)⟩,?_⟩
  ·unfold fu;rw[Jj];refine r.move (f:=λi c=>if i∈acc then { c with tone:=1 - M.sw.sense }else c) (by rw[n.len];rfl) (λi=>?_) (λi c=>?_) (λi c k hc _=>?_)
   ·rw[n.at_ i,show cellAt (gW M) i=cellAt M i from rfl]
    by_cases z:i∈acc
    ·rw[if_pos z];simp only[if_pos z];rfl
    ·rw[if_neg z];simp only[if_neg z];cases cellAt M i<;>rfl
   ·by_cases z:i∈acc<;>simp[z]
   ·have hm:=Tu tbB (λj hj=>((hacc j).mp hj).1) (i:=i) (c:=c) hc;have hb:=r.bs hc;have mkE:ie N i (if i∈acc then { c with tone:=1 - M.sw.sense }else c)=if i∈acc then("grey":Str)else "pale":=by
     unfold ie;rw[s1,if_neg (by decide),if_neg (by decide),s2,s3]
     by_cases z:i∈acc
     ·simp only[if_pos z,if_true]
     ·simp only[if_neg z];exact if_neg (pl i c hc)
    rw[mkE]
    by_cases z:i∈acc
    ·rw[if_pos (hm.mpr z),if_pos z]
    ·rw[if_neg (λy=>z (hm.mp y)),if_pos hb,if_neg z]
  ·obtain⟨c,hc,ed⟩:=n.cell hd;rw[s2]at ht
   by_cases z:i∈acc
   ·have:=((hacc i).mp z).2;obtain⟨m,h1,h2⟩:=Lz M.hands 0 this;exact(hk.hk i).mp ⟨m,h1,h2⟩
   ·rw[if_neg z]at ed;rw[ed]at ht;exact absurd ht (pl i c hc)
  ·have hw:M.w=0:=by rw[n.nt.ww]at hw;exact hw
   refine n.np ?_;obtain⟨m,hm,hxm⟩:=(hk.hk x).mpr hx;obtain⟨c,hc⟩:=hk.kc x hx;refine .inr ((hacc x).mpr ⟨(Fg (M:=gW M) hc).mpr (pl x c hc),Vq hxm M.hands 0 (λj _ h2=>Wv j hw (by omega)) hm⟩)
  ·have hw:M.w=1:=by rw[n.nt.ww]at hw;exact hw
   rw[s4]at hb;unfold bM at hb;rw[if_neg (by omega)]at hb;simp at hb
  ·unfold mu muW;rw[if_pos s1];have c1:N.cells.length<=12:=by rw[n.len];exact p.kw.cl
   have h5:=p.fx.h5;have hww:N.w=M.w:=n.nt.ww;have hhd:N.hands=M.hands:=n.nt.hd;have u:=Zmd N.sw.looked N.hands.length;rw[hww,s5,hhd]at *
   by_cases z0:M.w=0
   ·rw[if_neg (by omega),if_neg (by omega)];have:N.sw.grey.length<=0+M.hands.length * 3:=hgr;omega
   ·have e0:acc=[]:=by
     refine List.eq_nil_iff_forall_not_mem.mpr λi hi=>?_;have:=((hacc i).mp hi).2;have ez:bM M.w M.hands.length=0:=by unfold bM;rw[if_neg z0]
     rw[ez]at this;have e2:∀(l:List (Str×List (Option Int))) (k:Nat),Vp 0 l k=[]:=by
      intro l
      induction l with
      | nil=>intro k;rfl
      | cons m l ih=>intro k;unfold Vp;rw[if_neg (by simp)];exact ih _
     rw[e2]at this;cases this
    rw[s3,e0];show 0+_+_+3<=95;split
    ·omega
    ·split
     ·omega
     ·omega
end
section
variable {M N:Wm}{hs:RZ}{k:Nat}{w0:Int}{lies:Lies}{ks:List Int}{acc:List Int}{lb:Int}{lw:List Int}{e:Ev}
theorem Rnd.all(p:Bs M hs k w0)(r:Rnd M ks)(ph:M.sw.phase="walk")(cd:uq M):∀x∈ks,eN M x=false:=by
 intro x hx;have ww:=p.tb.ww;obtain⟨m,hm,hxm⟩:=(r.hk.hk x).mpr hx;obtain⟨j,hj,ej⟩:=List.getElem_of_mem hm;have hmj:M.hands[j]? =some m:=by rw[cJ hj,ej]
 have h5:=p.fx.h5;rcases p.ww with z | z | z
 ·exact r.w0 ph (ww.trans z) x hx
 ·have w1:M.w=1:=ww.trans z;rcases cd with cd | ⟨cd,_⟩
  ·have cd:lsE M.sw.looked 0 M.hands.length=0:=by unfold bH uO at cd;rw[w1]at cd;exact cd
   rcases Mf M.sw.looked M.hands.length 0 with ⟨_,h⟩ | ⟨k,_,_,h,_⟩
   ·have:=h j (Nat.zero_le _) (by omega);exact r.w1 ph w1 j m x hmj (by omega) hxm
   ·rw[h]at cd;have:(0:Int)<2 ^ k:=Int.pow_pos (by decide);omega
  ·omega
 ·have w2:M.w=2:=ww.trans z;have el:bH M=2 ^ M.hands.length - 1:=by unfold bH uO;rw[w2];rfl
  rcases cd with cd | ⟨_,cd⟩
  ·rw[el]at cd;have h1:=Ae (n:=M.hands.length) (j:=0) (by omega);rw[cd]at h1;exact absurd h1 (by decide)
  ·rw[N6]at cd;obtain⟨acc,n,hns,_,hacc⟩:=Ai ph (Vp (bH M) M.hands 0);rw[hns]at cd;have ea:acc=[]:=List.map_eq_nil_iff.mp cd;cases hp:eN M x with
   | false=>rfl
   | true=>
    have:x∈acc:=(hacc x).mpr ⟨hp,Vq hxm M.hands 0 (λj _ h2=>by rw[el];exact Ae (by omega)) hm⟩;rw[ea]at this;cases this
theorem Rnd.found(p:Bs M hs k w0)(r:Rnd M ks)(ph:M.sw.phase="walk")(cd:uq M){q qs:List (Int×List Int)}{n:Nat}(b:KB.Ms (fdOf M) (iY M) q n qs){x:Int×List Int}(hx:x∈qs){c:Ce}(hc:cellAt M x.1=some c):c.tone=M.sw.sense:=by
 have hk:x.1∈ks:=by
  refine(Zli (P:=λy=>y∈ks) (λrow hr y hy=>?_) (λy fl py hf z hz=>?_) b).2 x hx
  ·rcases List.mem_append.mp hr with hr | hr
   ·obtain⟨m,hm,rfl⟩:=List.mem_map.mp hr;exact(r.hk.hk y).mp ⟨m,hm,hy⟩
   ·rw[List.mem_singleton.mp hr]at hy;unfold qX at hy;rw[p.fx.nm]at hy;cases hy
  ·rw[Zbr]at hf;obtain⟨d,hd,rfl⟩:=Option.map_eq_some_iff.mp hf;rw[(p.fx.fn y d hd).2.1]at hz;exact absurd (List.eq_of_mem_replicate hz) (by simp)
 exact(Nx hc).mp (r.all p ph cd x.1 hk)
theorem Zkb(rl:RelM M lies)(h:∀i c,cellAt M i=some c->(c.tone=M.sw.sense↔i∈ks)):oH M=lone ks lies:=by
 unfold oH lone;rw[rl.ln];refine nQ λi hi=>?_;have hi:=List.mem_range.mp hi;have h1:=rl.at_ i hi;unfold tX;rw[gU]at h1;cases e1:(M.cells[i]?).join with
 | none=>
  rw[e1]at h1;cases e2:(lies[i]?).join with
  | none=>rfl
  | some x=>rw[e2]at h1;exact h1.elim
 | some c=>
  rw[e1]at h1;cases e2:(lies[i]?).join with
  | none=>rw[e2]at h1;exact h1.elim
  | some x=>
   rw[e2]at h1;have h2:=h i c (by rw[gU];exact e1);show Option.map _ (if c.tone=M.sw.sense then none else some c)=if (i:Int)∈ks then none else some x.b
   by_cases z:(i:Int)∈ks
   ·rw[if_pos z,if_pos (h2.mpr z)];rfl
   ·rw[if_neg z,if_neg (λy=>z (h2.mp y)),h1.1];rfl
theorem Zgl(rl:RelM M lies)(tb:TB w0 M){i:Int}{c:Ce}(hc:cellAt M i=some c):c.birth∈lone ks lies↔i∉ks:=by
 unfold lone;constructor
 ·intro hm z;obtain⟨j,hj,e⟩:=List.mem_filterMap.mp hm;obtain⟨x,hx,e⟩:=Option.bind_eq_some_iff.mp e;split at e
  ·cases e
  ·rename_i y
   have hx:lies[j]? =some (some x):=by
    cases e2:lies[j]? with
    | none=>rw[e2]at hx;cases hx
    | some o=>rw[e2]at hx;rw[show o=some x from hx]
   obtain⟨d,hd,b1,_⟩:=rl.got hx;have:=tb.bu i j c d hc hd (by rw[<- b1];exact(Option.some.inj e).symm);exact y (by rw[<- this];exact z)
 ·intro z;have hi:=tG hc;obtain⟨j,rfl⟩:=Int.eq_ofNat_of_zero_le hi.1;obtain⟨x,hx,b1,_⟩:=rl.get (i:=j) hc;refine List.mem_filterMap.mpr ⟨j,List.mem_range.mpr (cV hx).1,?_⟩;rw[hx];show(if (j:Int)∈ks then none else some x.b)=_;rw[if_neg z,b1]
theorem Rnd.step(p:Bs M hs k w0)(r:Rnd M ks)(rl:RelM M lies)(h:nT lb lw M e N):∃cT,ZF ks lies e cT/\RelM N cT/\((e.word≠"end"/\Rnd N ks/\mu N<mu M)\/(e.word="end"/\N.sw.phase="rest"/\N.sw.grey=[])):=by
 have Zk3:M.sw.phase≠"rest":=λz=>by rcases r.ph with y | y<;>exact absurd (z.symm.trans y) (by decide)
 cases h with
 | begin ph=>exact absurd ph Zk3
 | again ph=>rcases r.ph with y | y<;>exact absurd (ph.symm.trans y) (by decide)
 | lost q qs i x c v ph hg cd bf hx hno hc ht=>exact absurd (r.found p ph cd bf (List.mem_of_getElem? hx) hc) ht
 | fin ph lt=>
  refine⟨_,.fin _ _,?_,.inr ⟨rfl,rfl,r.gg ph⟩⟩;refine⟨rl.ln,λi hi=>?_⟩;have h1:=rl.imp (P':=λi c k=>k=ie { M with sw:={ M.sw with phase:="rest" } } i c) (λi c k hc hk=>?_)
  ·exact h1.at_ i hi
  ·rw[hk];unfold ie;rw[ph,if_neg (by decide),if_pos rfl,if_pos rfl];refine if_pos (Decidable.byContradiction λz=>?_);have:=p.tb.gv ph i c hc z;omega
 | pass ph lt hp=>
  obtain⟨g1,g2,g3⟩:=r.gv ph;have a0:=p.kw.a0;refine⟨_,.pass _,⟨rl.ln,rl.at_⟩,.inl ⟨by show("pass":Str)≠"end";decide,⟨⟨r.hk.hk,r.hk.kc⟩,.inr ph,λz=>absurd (ph.symm.trans z) (by decide),λz=>absurd (ph.symm.trans z) (by decide),λz=>absurd (ph.symm.trans z) (by decide),λz=>absurd (ph.symm.trans z) (by decide),λz=>absurd (ph.symm.trans z) (by decide),λ_=>⟨by show M.sw.at'+1<=M.sw.stop;omega,g2,g3⟩,λ_=>r.gg ph⟩,?_⟩⟩;unfold mu;rw[if_neg (show ¬ M.sw.phase="walk" by rw[ph];decide),if_neg (show ¬ M.sw.phase="walk" by rw[ph];decide)];show(M.sw.stop - (M.sw.at'+1)).toNat+1<(M.sw.stop - M.sw.at').toNat+1;omega
 | back c ph lt hc ht=>
  obtain⟨g1,g2,g3⟩:=r.gv ph;have a0:=p.kw.a0;have hpn:((M.sw.at'.toNat:Nat):Int)=M.sw.at':=Int.toNat_of_nonneg a0;have hc':cellAt M (M.sw.at'.toNat:Nat)=some c:=by rw[hpn];exact hc
  obtain⟨x,hx,b1,b2,b3,b4⟩:=rl.get hc';have bk:∀{i:Int},i≠M.sw.at'->∀{u:Int}{w:Sw},cellAt { M with used:=u,cells:=M.cells.set M.sw.at'.toNat none,sw:=w } i=cellAt M i:=λ{i} hi {u}{w}=>by
   unfold cellAt;split
   ·rename_i z
    show((M.cells.set M.sw.at'.toNat none)[i.toNat]?).join=_;rw[List.getElem?_set_ne (λy=>hi (by omega))]
   ·rfl
  have en:∀(u:Int) (w:Sw),cellAt { M with used:=u,cells:=M.cells.set M.sw.at'.toNat none,sw:=w } M.sw.at'=none:=λu w=>by
   unfold cellAt;rw[if_pos a0];show((M.cells.set M.sw.at'.toNat none)[M.sw.at'.toNat]?).join=none;rw[List.getElem?_set_self (by have:=tG hc;omega)];rfl
  have ev:(⟨"back",some c.birth,[M.sw.at']⟩:Ev)=⟨"back",some x.b,[((M.sw.at'.toNat:Nat):Int)]⟩:=by rw[b1,hpn]
  rw[ev];refine⟨_,.back M.sw.at'.toNat x hx ?_,⟨by show(M.cells.set _ _).length=(lies.set _ _).length;rw[List.length_set,List.length_set];exact rl.ln,λi hi=>?_⟩,.inl ⟨by show("back":Str)≠"end";decide,⟨⟨r.hk.hk,λy hy=>?_⟩,.inr ph,λz=>absurd (ph.symm.trans z) (by decide),λz=>absurd (ph.symm.trans z) (by decide),λz=>absurd (ph.symm.trans z) (by decide),λz=>absurd (ph.symm.trans z) (by decide),λz=>absurd (ph.symm.trans z) (by decide),λ_=>⟨by show M.sw.at'+1<=M.sw.stop;omega,by show M.sw.stop=(M.cells.set _ _).length;rw[List.length_set];exact g2,λi d hd=>?_⟩,λ_=>r.gg ph⟩,?_⟩⟩
  ·rw[b4];unfold ie;rw[ph,if_neg (by decide),if_pos rfl];exact if_neg ht
  ·rw[List.length_set]at hi
   by_cases e:i=M.sw.at'.toNat
   ·subst e;rw[hpn,en,List.getElem?_set_self hi]
    trivial
   ·rw[bk (by omega),List.getElem?_set_ne (λy=>e y.symm)];exact rl.at_ i hi
  ·obtain⟨d,hd⟩:=r.hk.kc y hy;refine⟨d,?_⟩;rw[bk (λz=>?_)]
   ·exact hd
   ·rw[z]at hd hy;rw[hc]at hd;exact ht ((g3 _ c hc).mpr hy)
  ·exact g3 i d (Zd4 hc hd).2
  ·unfold mu;rw[if_neg (show ¬ M.sw.phase="walk" by rw[ph];decide),if_neg (show ¬ M.sw.phase="walk" by rw[ph];decide)];show(M.sw.stop - (M.sw.at'+1)).toNat+1<(M.sw.stop - M.sw.at').toNat+1;omega
 | cut q qs ph hg cd bf hno=>
  have al:=r.all p ph cd;have hks:∀i c,cellAt M i=some c->(c.tone=M.sw.sense↔i∈ks):=λi c hc=>⟨λz=>r.wk ph i c hc z,λz=>(Nx hc).mp (al i z)⟩;rw[Zkb rl hks];refine⟨_,.cut,?_,.inl ⟨by show("cut":Str)≠"end";decide,⟨⟨r.hk.hk,r.hk.kc⟩,.inr rfl,λz=>absurd z (show ¬ ("give":Str)="walk" by decide),λz=>absurd z (show ¬ ("give":Str)="walk" by decide),λz=>absurd z (show ¬ ("give":Str)="walk" by decide),λz=>absurd z (show ¬ ("give":Str)="walk" by decide),λz=>absurd z (show ¬ ("give":Str)="walk" by decide),λ_=>⟨by show(0:Int)<=M.cells.length;omega,rfl,hks⟩,λ_=>hg⟩,?_⟩⟩
  ·unfold fu;rw[Jj];refine rl.move (f:=λ_ c=>c) rfl (λi=>?_) (λi c=>⟨rfl,rfl,rfl⟩) (λi c k hc _=>?_)
   ·show cellAt M i=_;cases cellAt M i<;>rfl
   ·have h1:=Zgl (ks:=ks) rl p.tb hc;have h2:=rl.bs hc;have h3:=hks i c hc;show _=if ("give":Str)="rest" then _ else if ("give":Str)="give" then _ else _
    rw[if_neg (show ¬ ("give":Str)="rest" by decide),if_pos rfl];show _=if c.tone=M.sw.sense then("kept":Str)else "doomed"
    by_cases z:i∈ks
    ·rw[if_neg (λy=>h1.mp y z),if_pos h2,if_pos (h3.mpr z)]
    ·rw[if_pos (h1.mpr z),if_neg (λy=>z (h3.mp y))]
  ·unfold mu muW;rw[if_pos ph,if_neg (show ¬ ("give":Str)="walk" by decide)];show((M.cells.length:Int) - 0).toNat+1<_;omega
 | walk x g c ph hg hc=>
  obtain⟨gn,gc⟩:=p.kw.gr ph;rw[hg,List.nodup_cons]at gn;obtain⟨d,hd,td⟩:=gc x (by rw[hg];exact List.mem_cons_self);rw[hc]at hd;cases hd;rw[(p.fx.fn x c hc).2.1,yu];have ip:∀y,eN { M with sw:={ M.sw with grey:=g,walks:=M.sw.walks+1 } } y=eN M y:=λ_=>rfl;refine⟨_,.walk _ _,?_,.inl ⟨by show("walk":Str)≠"end";decide,⟨⟨r.hk.hk,r.hk.kc⟩,.inl ph,λ_=>r.wk ph,λ_=>r.w0 ph,λ_=>r.w1 ph,λ_=>r.w2 ph,λ_=>r.lk ph,λz=>absurd (ph.symm.trans z) (by decide),λz=>absurd (ph.symm.trans z) (by decide)⟩,?_⟩⟩
  ·unfold fu;rw[Jj];refine rl.move (f:=λ_ c=>c) rfl (λi=>?_) (λi c=>⟨rfl,rfl,rfl⟩) (λi d k hd hk=>?_)
   ·show cellAt M i=_;cases cellAt M i<;>rfl
   ·rw[hk];have e1:d.birth∈[c.birth]↔i=x:=by
     rw[List.mem_singleton];exact⟨λz=>p.tb.bu i x d c hd hc z,λz=>by rw[z,hc]at hd;cases hd;rfl⟩
    have e2:∀{s:Str},(if d.birth∈([]:List Int)then("grey":Str)else s)=s:=if_neg (by simp);rw[e2];unfold ie;show _=if M.sw.phase="rest" then _ else if M.sw.phase="give" then _ else if d.tone=M.sw.sense then(if i∈g then _ else _)else _
    have wr:¬ ("walk":Str)="rest":=by decide
    have wg:¬ ("walk":Str)="give":=by decide
    rw[ph,if_neg wr,if_neg wg,if_neg wr,if_neg wg,hg]
    by_cases z:i=x
    ·rw[if_pos (e1.mpr z)];rw[z,hc]at hd;cases hd;rw[if_pos td,if_neg (by rw[z];exact gn.1)]
    ·rw[if_neg (λy=>z (e1.mp y))];have e3:(i∈x::g)↔i∈g:=by rw[List.mem_cons];exact⟨λy=>y.resolve_left z,.inr⟩
     simp only[e3]
  ·unfold mu muW;rw[if_pos ph,if_pos ph,hg];show g.length+(if M.w=1 then 16 * unl M.sw.looked M.hands.length else if M.w=2 then(if M.sw.looks=0 then 16 else 0)else 0)+M.cells.length+3<(x::g).length+_+_+3;rw[List.length_cons];omega
 | look N' ph hg nc hN=>
  subst hN;have hgr:=(pD (bH M) 3 M.hands 0 M (λm hm=>by rw[p.fx.h3 m hm];exact Nat.le_refl _)).2.1;have nhe:∀z,z=(gK (bH M) M.hands 0 M).1->M.w=2->z≠[]:=λz ez w2 y=>nc (.inr ⟨w2,by rw[<- ez];exact y⟩);rw[N6]at hgr nhe ⊢;obtain⟨acc,n,hns,nd,hacc⟩:=Ai ph (Vp (bH M) M.hands 0);rw[hns]at nhe ⊢;generalize (aN M (Vp (bH M) M.hands 0)).2=N at n hgr ⊢;have sN:N.sw.phase="walk"/\N.sw.sense=M.sw.sense/\N.sw.grey=acc/\N.sw.looked=M.sw.looked/\N.sw.looks=M.sw.looks:=by
   rw[n.sw,hg];exact⟨ph,rfl,rfl,rfl,rfl⟩
  obtain⟨s1,s2,s3,s4,s5⟩:=sN;have hwN:N.w=M.w:=n.nt.ww;have hhd:N.hands=M.hands:=n.nt.hd;have h5:=p.fx.h5;have held:∀i∈acc,i∈ks:=λi hi=>by
   obtain⟨m,h1,h2⟩:=Lz M.hands 0 ((hacc i).mp hi).2;exact(r.hk.hk i).mp ⟨m,h1,h2⟩
  have ww:=p.tb.ww;have Zpc:M.w≠0:=λz=>nc (.inl (by unfold bH uO;rw[z];rfl));have Zpf:M.w=2->∀x∈ks,eN N x=false:=λz x hx=>by
   have el:bH M=2 ^ M.hands.length - 1:=by unfold bH uO;rw[z];rfl
   refine n.np ?_;cases hp:eN M x with
   | false=>exact .inl rfl
   | true=>
    obtain⟨m,hm,hxm⟩:=(r.hk.hk x).mpr hx;exact .inr ((hacc x).mpr ⟨hp,Vq hxm M.hands 0 (λj _ h2=>by rw[el];exact Ae (by omega)) hm⟩)
  refine⟨_,.look _ _,?_,.inl ⟨by show("look":Str)≠"end";decide,⟨?_,.inl s1,λ_ i d hd ht=>?_,λ_ z=>absurd (hwN.symm.trans z) Zpc,λ_ z=>?_,λ_ z _=>Zpf (hwN.symm.trans z),λ_=>?_,λz=>absurd (s1.symm.trans z) (by decide),λz=>absurd (s1.symm.trans z) (by decide)⟩,?_⟩⟩
  ·unfold fu;refine rl.move (f:=λi c=>if i∈acc then { c with tone:=M.sw.sense }else c) n.len (λi=>?_) (λi c=>?_) (λi c k hc hk=>?_)
   ·show cellAt N i=_;rw[n.at_ i]
    by_cases z:i∈acc
    ·rw[if_pos z];simp only[if_pos z]
    ·rw[if_neg z];simp only[if_neg z];cases cellAt M i<;>rfl
   ·by_cases z:i∈acc<;>simp[z]
   ·have hm:=Tu p.tb (λj hj=>((hacc j).mp hj).1) (i:=i) (c:=c) hc;show _=ie N i _;rw[hk];unfold ie;rw[s1,s2,s3,ph,hg];rw[if_neg (show ¬ ("walk":Str)="rest" by decide),if_neg (show ¬ ("walk":Str)="give" by decide),if_neg (show ¬ ("walk":Str)="rest" by decide),if_neg (show ¬ ("walk":Str)="give" by decide)]
    by_cases z:i∈acc
    ·rw[if_pos (hm.mpr z)];simp only[if_pos z,if_true]
    ·rw[if_neg (λy=>z (hm.mp y))];simp only[if_neg z,List.not_mem_nil,if_false]
  ·have q:=n.hk r.hk;exact⟨q.hk,q.kc⟩
  ·have hd:cellAt N i=some d:=hd;obtain⟨c,hc,ed⟩:=n.cell hd
   by_cases z:i∈acc
   ·exact held i z
   ·rw[if_neg z]at ed;rw[ed]at ht;exact r.wk ph i c hc (ht.trans s2)
  ·intro j m x hm hb hx;have w1:M.w=1:=hwN.symm.trans z;have hm:N.hands[j]? =some m:=hm;rw[hhd]at hm;have hb:(if M.w=2 then N.sw.looked else Builtin.bitOr N.sw.looked (bH M)) / 2 ^ j % 2=1:=hb;rw[if_neg (by omega),s4,Zbw p.fx.lz (Gi M)]at hb;show eN N x=false;refine n.np ?_;cases hp:eN M x with
   | false=>exact .inl rfl
   | true=>
    rcases hb with hb | hb
    ·rw[r.w1 ph w1 j m x hm hb hx]at hp;cases hp
    ·exact .inr ((hacc x).mpr ⟨hp,Zgk M.hands 0 j m _ hm hx (by rw[Nat.zero_add];exact hb)⟩)
  ·show 0<=N.sw.looks+1;have:=r.lk ph;omega
  ·unfold mu muW;rw[if_pos ph,if_pos (show N.sw.phase="walk" from s1)];show N.sw.grey.length+(if N.w=1 then 16 * unl (if M.w=2 then N.sw.looked else Builtin.bitOr N.sw.looked (bH M)) N.hands.length else if N.w=2 then(if N.sw.looks+1=0 then 16 else 0)else 0)+N.cells.length+3<_;rw[hwN,hhd,n.len,s4,s5,hg];have g15:N.sw.grey.length<=15:=by
    rw[hg]at hgr;have:N.sw.grey.length<=0+M.hands.length * 3:=hgr;omega
   have lk:=r.lk ph
   by_cases z:M.w=1
   ·rw[if_pos z,if_pos z,if_neg (by omega)];have el:bH M=lsE M.sw.looked 0 M.hands.length:=by unfold bH uO;rw[z];rfl
    rcases Mf M.sw.looked M.hands.length 0 with ⟨h,_⟩ | ⟨b,_,hb,h,hb0⟩
    ·exact absurd (show uq M from .inl (el.trans h)) nc
    ·have lt:unl (Builtin.bitOr M.sw.looked (bH M)) M.hands.length<unl M.sw.looked M.hands.length:=by
      unfold unl;refine Tq _ _ (λj hj=>?_) _ b (by omega) ?_ ?_
      ·have hj:=of_decide_eq_true hj;rw[ne_eq,Zbw p.fx.lz (Gi M)]at hj;exact decide_eq_true λy=>hj (.inl y)
      ·exact decide_eq_true (by omega)
      ·refine decide_eq_false λy=>y ?_;rw[Zbw p.fx.lz (Gi M),el,h];exact .inr ((Zjb b b).mpr rfl)
     show _<0+_+_+_;omega
   ·have w2:M.w=2:=by rcases p.ww with y | y | y<;>omega
    rw[if_neg z,if_pos w2,if_neg z,if_pos w2,if_neg (by omega)];have l0:M.sw.looks=0:=Decidable.byContradiction λy=>by
     have hne:=nhe _ rfl w2;refine hne ?_;rw[List.map_eq_nil_iff];refine List.eq_nil_iff_forall_not_mem.mpr λi hi=>?_;have h1:=((hacc i).mp hi).1;rw[r.w2 ph w2 y i (held i hi)]at h1;cases h1
    rw[if_pos l0];show _<0+_+_+_;omega
end
structure L4(X:Cs)(H:Hp)(T:Tg)(A:Wa)(M:Wm)(wo ll ls:Addr)(ps:List (Option Addr))(lies:Lies)(b:Int):Prop where
 w:WT H T
 j:WJ X H T 1 A M
 aw:A.wo=wo
 l:Lw H T ll ps lies
 ts:T ls=(5,0)
 st:H ls=some (.lst [.int b])
def Hl(X:Cs)(H:Hp)(T:Tg)(wo ll ls:Addr)(M:Wm)(lies:Lies):Prop:=∃A ps,L4 X H T A M wo ll ls ps lies M.born
section
variable {X:Cs}{H H':Hp}{T T':Tg}{A A':Wa}{M M':Wm}{wo ll ls:Addr}{ps:List (Option Addr)}{lies:Lies}{b:Int}
theorem L4.same(l:L4 X H T A M wo ll ls ps lies b)(s:bC H H'):L4 X H' T A M wo ll ls ps lies b:=⟨l.w.same s,l.j.same s,l.aw,l.l.same s,l.ts,s _ _ l.st⟩
theorem L4.deed(l:L4 X H T A M wo ll ls ps lies b)(st:fj 1 H H' T T')(j:WJ X H' T' 1 A' M')(aw:A'.wo=wo):L4 X H' T' A' M' wo ll ls ps lies b:=
 ⟨st.wt,j,aw,l.l.other st (by decide),(st.tg _ _ l.st).trans l.ts,st.kp _ _ l.st (by rw[l.ts];decide)⟩
theorem L4.six(l:L4 X H T A M wo ll ls ps lies b)(st:fj 6 H H' T T'):L4 X H' T' A M wo ll ls ps lies b:=
 ⟨st.wt,l.j.other st (by decide) (by decide),l.aw,l.l.other st (by decide),(st.tg _ _ l.st).trans l.ts,st.kp _ _ l.st (by rw[l.ts];decide)⟩
theorem L4.lie(l:L4 X H T A M wo ll ls ps lies b){ps':List (Option Addr)}{cT:Lies}(st:fj 3 H H' T T')(l':Lw H' T' ll ps' cT):L4 X H' T' A M wo ll ls ps' cT b:=
 ⟨st.wt,l.j.other st (by decide) (by decide),l.aw,l',(st.tg _ _ l.st).trans l.ts,st.kp _ _ l.st (by rw[l.ts];decide)⟩
theorem L4.state(l:L4 X H T A M wo ll ls ps lies b)(b':Int):fj 5 H (upd H ls (.lst [.int b'])) T T/\L4 X (upd H ls (.lst [.int b'])) T A M wo ll ls ps lies b':=by
 have st:fj 5 H (upd H ls (.lst [.int b'])) T T:=fj.upd l.w l.st (by rw[l.ts]);exact⟨st,st.wt,l.j.other st (by decide) (by decide),l.aw,l.l.other st (by decide),l.ts,ao⟩
theorem L4.tag(l:L4 X H T A M wo ll ls ps lies b){r:Addr}{o:HO}{v:Nat×Nat}(n:H r=none):L4 X (upd H r o) (fG T r v) A M wo ll ls ps lies b:=by
 have s:=aL n o;have f:∀b u,H b=some u->fG T r v b=T b:=λb u hb=>iW (aB hb n);exact⟨HF (l.w.same s) ao,l.j.fresh n,l.aw,l.l.mv (λb u hb _=>s _ _ hb) f,(f _ _ l.st).trans l.ts,s _ _ l.st⟩
end
def WY:Sp:=λvs H Q E=>∃h,vs=[.int h]/\0<=h/\h<=30/\Q (.int (2 ^ h.toNat - 1)) H
def Nr(ps:List (Option Addr))(b:Addr):Prop:=∀p,some p∈ps->p≠b
def Fr(ps:List (Option Addr))(H H':Hp):Prop:=∀b o,H b=some o->Nr ps b->H' b=some o
theorem Lw.nr{H:Hp}{T:Tg}{ll:Addr}{ps:List (Option Addr)}{lies:Lies}(l:Lw H T ll ps lies){b:Addr}(hb:H b=none):Nr ps b:=λp hp e=>by
 obtain⟨k,hk⟩:=List.getElem?_of_mem hp;have hl:k<lies.length:=by rw[<- l.ln];exact(cV hk).1
 rcases l.get hl with ⟨h1,h2⟩ | ⟨m,p',h1,h2,_,_,h3⟩
 ·rw[dB,hk]at h2;cases h2
 ·rw[hk]at h2;cases h2;rw[e,hb]at h3;cases h3
def qH:Sp:=λvs H Q E=>∃ll bl mk,vs=[.ref ll,.ref bl,.str mk]/\∃(T:Tg) (ps:List (Option Addr)) (lies:Lies) (bs:List Int),WT H T/\Lw H T ll ps lies/\H bl=some (.lst (bs.map V.int))/\Nr ps bl/\lies.length<=1000/\∀H',fj 3 H H' T T->Fr ps H H'->Lw H' T ll ps (fu bs mk lies)->Q .non H'
section
variable {K:aC}{X:Cs}{H:Hp}{Q:VK}{E:XK}{n:St->Hp->Prop}{bk ct:St->Hp->Prop}
theorem Zo{h:Int}(q:0<=h/\h<=30/\Q (.int (2 ^ h.toNat - 1)) H):zW ⟨n,Q,bk,ct⟩ [some (.int h),none,none,none] H:=by
 obtain⟨h0,h1,q⟩:=q;unfold zW;walk_at"e";refine⟨_,rfl,by omega,by omega,forR (λi σ Hx=>∃v3,σ=[some (.int h),some (.int (2 ^ i - 1)),some (.int (2 ^ i)),v3]/\Hx=H) ⟨none,rfl,rfl⟩ ?_ ?_⟩
 ·rintro i σ Hx hi ⟨v3,rfl,rfl⟩;walk_at"e";refine⟨some (.int (0+(i:Int))),?_,rfl⟩;have e:(2:Int) ^ (i+1)=2 ^ i+2 ^ i:=by rw[Int.pow_succ];omega
  rw[e,show(2:Int) ^ i - 1+2 ^ i=2 ^ i+2 ^ i - 1 by omega]
 ·rintro σ Hx ⟨v3,rfl,rfl⟩;walk_at"e";exact q
theorem Hg{ll bl:Addr}{mk:Str}(q:∃(T:Tg) (ps:List (Option Addr)) (lies:Lies) (bs:List Int),WT H T/\Lw H T ll ps lies/\H bl=some (.lst (bs.map V.int))/\Nr ps bl/\lies.length<=1000/\∀H',fj 3 H H' T T->Fr ps H H'->Lw H' T ll ps (fu bs mk lies)->Q .non H'):o7 K ⟨λ_ H'=>Q .non H',Q,bk,ct⟩ [some (.ref ll),some (.ref bl),some (.str mk),none] H:=by
 obtain⟨T,ps,lies,bs,wt,l,hb,tb,hl,q⟩:=q;unfold o7;walk_at"e";have ln:=l.ln;refine⟨ll,rfl,⟨_,cR.of l.ol⟩,forL (ps.map aV) (λi σ Hx=>∃v3,σ=[some (.ref ll),some (.ref bl),some (.str mk),v3]/\fj 3 H Hx T T/\Lw Hx T ll ps ((fu bs mk lies).take i++lies.drop i)/\Fr ps H Hx) ⟨none,rfl,fj.refl wt,by simpa using l,λ_ _ h _=>h⟩ (λi σ Hx _ ⟨_,_,_,lx,_⟩=>cR.of lx.ol) ?_ ?_⟩
 ·rintro i v σ Hx hv ⟨v3,rfl,st,lx,fr⟩;have hbx:=fr _ _ hb tb;have hi:i<lies.length:=by
   have:=(cV hv).1;rw[aU]at this;omega
  have hil:((fu bs mk lies).take i++lies.drop i)[i]? =lies[i]? :=by
   rw[List.getElem?_append_right (by rw[List.length_take];exact Nat.min_le_left _ _),List.length_take,List.getElem?_drop];congr 1;unfold fu vW;rw[aU];omega
  have hle:((fu bs mk lies).take i++lies.drop i).length=lies.length:=by
   rw[List.length_append,List.length_take,List.length_drop];unfold fu vW;rw[aU];omega
  have tl:(fu bs mk lies)[i]? =(lies[i]?).map λo=>o.map λx=>{ x with k:=if x.b∈bs then mk else x.k }:=by
   unfold fu vW;rw[dB]
  have nx:∀o,lies[i]? =some o->((fu bs mk lies).take i++lies.drop i).set i (o.map λx=>{ x with k:=if x.b∈bs then mk else x.k })=(fu bs mk lies).take (i+1)++lies.drop (i+1):=λo ho=>by
   have e1:((fu bs mk lies).take i).length=i:=by
    rw[List.length_take];unfold fu vW;rw[aU];omega
   rw[List.set_append_right _ _ (by rw[e1];exact Nat.le_refl _),e1,Nat.sub_self,List.drop_eq_getElem_cons hi,List.set_cons_zero,List.take_add_one,tl,ho,List.append_assoc];rfl
  rcases lx.get (k:=i) (by rw[hle];exact hi)with ⟨h1,h2⟩ | ⟨m,p,h1,h2,h3,h4,h5⟩
  ·rw[h2]at hv;cases hv;rw[hil]at h1;walk_at"e";refine⟨_,rfl,st,?_,fr⟩;rw[<- nx none h1];have:((fu bs mk lies).take i++lies.drop i).set i (Option.map (λx:ZJ=>{ x with k:=if x.b∈bs then mk else x.k }) none)=(fu bs mk lies).take i++lies.drop i:=by
    refine List.ext_getElem? λj=>?_
    by_cases e:i=j
    ·subst e;rw[List.getElem?_set_self (by rw[hle];exact hi),hil,h1];rfl
    ·rw[List.getElem?_set_ne e]
   rw[this];exact lx
  ·rw[h3]at hv;cases hv;have h1':=h1;rw[hil]at h1';have go:∀{mk':Str},mk'=(if m.b∈bs then mk else m.k)->fj 3 H (upd Hx p (.lst (zj { m with k:=mk' }))) T T/\Lw (upd Hx p (.lst (zj { m with k:=mk' }))) T ll ps ((fu bs mk lies).take (i+1)++lies.drop (i+1))/\Fr ps H (upd Hx p (.lst (zj { m with k:=mk' }))):=λ{mk'} e=>by
    obtain⟨st2,lx2⟩:=lx.chg st.wt (m':={ m with k:=mk' }) h2 h1;refine⟨st.trans st2,?_,?_⟩
    ·subst e;rw[<- nx _ h1'];exact lx2
    ·intro b o hb' nb;rw[aA (λz=>nb p (List.mem_of_getElem? h2) z.symm)];exact fr b o hb' nb
   walk_at"e";refine dz (cR.of h5) (fQ (by decide) rfl) ?_;walk_at"e";refine⟨bl,_,rfl,.inl (cR.of hbx),rfl,JB _,?_⟩;rw[if_neg Bool.false_ne_true,YX];refine⟨_,rfl,?_⟩;refine pU (λz=>?_) (λz=>?_)
   ·walk_at"e";refine⟨p,_,3,3,rfl,rfl,h5,rfl,?_⟩;walk_at"e";obtain⟨g1,g2,g3⟩:=go (mk':=mk) (by rw[if_pos z]);exact⟨_,rfl,g1,g2,g3⟩
   ·walk_at"e";have e:Hx=upd Hx p (.lst (zj { m with k:=m.k })):=by
     funext a
     by_cases ea:a=p
     ·rw[ea,ao];exact h5
     ·rw[aA ea]
    obtain⟨g1,g2,g3⟩:=go (mk':=m.k) (by rw[if_neg z]);rw[<- e]at g1 g2 g3;exact⟨_,rfl,g1,g2,g3⟩
 ·rintro σ Hx ⟨v3,rfl,st,lx,fr⟩;rw[aU]at lx;walk_at"e";refine q _ st fr ?_;have e1:(fu bs mk lies).take ps.length=fu bs mk lies:=List.take_of_length_le (by unfold fu vW;rw[aU];omega);have e2:lies.drop ps.length=[]:=List.drop_of_length_le (by omega);rw[e1,e2,List.append_nil]at lx;exact lx
end
def thr(lies:Lies):List Nat:=(List.range lies.length).filter λi=>((lies[i]?).join).isSome
def zm(lies:Lies)(i:Nat):Int:=(((lies[i]?).join).map (·.b)).getD 0
theorem Zcm(g:Int->Str->Str)(lies:Lies)(i:Nat):((vW g lies)[i]?).join=((lies[i]?).join).map λx=>{ x with k:=g x.b x.k }:=by
 unfold vW;rw[dB];cases lies[i]? with
 | none=>rfl
 | some o=>cases o<;>rfl
theorem nP(g:Int->Str->Str)(lies:Lies):(vW g lies).length=lies.length:=by unfold vW;rw[aU]
theorem Ze0(ks:List Int)(g:Int->Str->Str)(lies:Lies):lone ks (vW g lies)=lone ks lies:=by
 unfold lone;rw[nP];refine nQ λi _=>?_;rw[Zcm];cases (lies[i]?).join<;>rfl
theorem Zew(g:Int->Str->Str)(lies:Lies):thr (vW g lies)=thr lies:=by
 unfold thr;rw[nP];congr 1
 funext i
 rw[Zcm];cases (lies[i]?).join<;>rfl
theorem Zmi(lies:Lies):(thr lies).map (zm lies)=GX lies:=by
 unfold GX;rw[<- wH (λo:Option ZJ=>o.map (·.b)) lies];unfold thr;rw[<- List.filterMap_eq_map,List.filterMap_filter];refine nQ λi _=>?_;show(if ((lies[i]?).join).isSome=true then some (zm lies i)else none)=_;unfold zm;cases lies[i]? with
 | none=>rfl
 | some o=>cases o<;>rfl
theorem Zex(ks:List Int)(lies:Lies):(thr lies).filterMap (λi:Nat=>if (i:Int)∈ks then none else some (zm lies i))=lone ks lies:=by
 unfold thr lone;rw[List.filterMap_filter];refine nQ λi _=>?_;unfold zm;cases (lies[i]?).join with
 | none=>rfl
 | some x=>rfl
theorem TY(lies:Lies):(thr lies).length<=lies.length:=by
 unfold thr;have:=List.length_filter_le (λi=>((lies[i]?).join).isSome) (List.range lies.length);rw[List.length_range]at this;exact this
def HoD(H:Hp)(hd:Addr)(ks:List Int):Prop:=∃kvs:List (Key×V),H hd=some (.dK kvs)/\kvs.length<=100/\∀i:Int,(nJ kvs (.inl i)).isSome=decide (i∈ks)
section
variable {K:aC}{H:Hp}{Q:VK}{σ:St}{T:Tg}{ll l7:Addr}{ps:List (Option Addr)}{lies:Lies}{ks:List Int}
theorem Lw.at0(l:Lw H T ll ps lies){i:Nat}(hi:i∈thr lies):∃p m,(ps.map aV)[i]? =some (.ref p)/\H p=some (.lst (zj m))/\zm lies i=m.b:=by
 unfold thr at hi;obtain⟨h1,h2⟩:=List.mem_filter.mp hi;rcases l.get (List.mem_range.mp h1)with ⟨h3,_⟩ | ⟨m,p,h3,_,h5,_,h7⟩
 ·rw[h3]at h2;cases h2
 ·refine⟨p,m,h5,h7,?_⟩;unfold zm;rw[h3];rfl
theorem Zm1(hσ:pick σ 0=some (.ref ll))(l:Lw H T ll ps lies)(h7:H l7=some (.lst ((thr lies).map λi:Nat=>V.int i)))(hl:lies.length<=1000)(h:∀p,H p=none->Q (.ref p) (upd H p (.lst ((GX lies).map V.int)))):
  LCg (Itl K l7) [0] G.tK (bO (fJ K) (bO (fJ K) (aj 1) (aj 0)) (tC (.int 0))) σ H Q:=by
 have tl:=TY lies;refine Gk (cR.of h7) (λj=>((thr lies)[j]?).map λi=>V.int (zm lies i)) (by rw[aU];omega) (λj x hx=>?_) λp hp=>?_
 ·rw[dB]at hx;obtain⟨i,hi,rfl⟩:=Option.map_eq_some_iff.mp hx;obtain⟨p,m,a1,a2,a3⟩:=l.at0 (List.mem_of_getElem? hi);refine⟨λq hq=>?_,λv q hv hq=>?_⟩
  ·rw[hi]at hq;exact hq
  ·rw[hi]at hv;cases hv;rw[show([0]:List Nat).map (pick σ)=[some (.ref ll)] by rw[List.map_cons,hσ];rfl];walk_at"e";refine dz (v:=.ref p) (cR.of l.ol) (dj a1) ?_;walk_at"e";refine dz (v:=.int m.b) (cR.of a2) (fQ (by decide) rfl) ?_;rw[<- a3];exact hq
 ·have:=h p hp;have e:(List.range ((thr lies).map λi:Nat=>V.int i).length).filterMap (λj=>((thr lies)[j]?).map λi=>V.int (zm lies i))=(GX lies).map V.int:=by
   rw[aU,<- Zmi,List.map_map];have:=wH (λi=>some (V.int (zm lies i))) (thr lies);rw[List.filterMap_eq_map']at this;rw[show(V.int ∘ zm lies)=λi=>V.int (zm lies i)from rfl,<- this];refine nQ λj _=>?_;cases (thr lies)[j]?<;>rfl
  rw[e];exact this
theorem Zke{hd:Addr}(hσ:pick σ 0=some (.ref ll))(hσ1:pick σ 1=some (.ref hd))(l:Lw H T ll ps lies)(h7:H l7=some (.lst ((thr lies).map λi:Nat=>V.int i)))(dO:HoD H hd ks)(hl:lies.length<=1000)(h:∀p,H p=none->Q (.ref p) (upd H p (.lst ((lone ks lies).map V.int)))):
  LCg (Itl K l7) [0,1] (tB (Lp (aj 0) (aj 2))) (bO (fJ K) (bO (fJ K) (aj 1) (aj 0)) (tC (.int 0))) σ H Q:=by
 have tl:=TY lies;obtain⟨kvs,k1,k2,k3⟩:=dO;refine Gk (cR.of h7) (λj=>((thr lies)[j]?).bind λi:Nat=>if (i:Int)∈ks then none else some (V.int (zm lies i))) (by rw[aU];omega) (λj x hx=>?_) λp hp=>?_
 ·rw[dB]at hx;obtain⟨i,hi,rfl⟩:=Option.map_eq_some_iff.mp hx;obtain⟨p,m,a1,a2,a3⟩:=l.at0 (List.mem_of_getElem? hi);rw[show([0,1]:List Nat).map (pick σ)=[some (.ref ll),some (.ref hd)] by rw[List.map_cons,List.map_cons,hσ,hσ1];rfl];refine⟨λq hq=>?_,λv q hv hq=>?_⟩
  ·rw[hi]at hq;walk_at"e";refine⟨hd,_,rfl,Zer.k (k:=Sum.inl (i:Int)) k1,?_⟩;rw[k3];refine⟨_,rfl,?_⟩
   by_cases z:(i:Int)∈ks
   ·rw[show((some i).bind λi:Nat=>if (i:Int)∈ks then none else some (V.int (zm lies i)))=none from if_pos z]at hq;rw[decide_eq_true z];exact hq
   ·rw[show((some i).bind λi:Nat=>if (i:Int)∈ks then none else some (V.int (zm lies i)))=some (V.int (zm lies i))from if_neg z]at hq;rw[decide_eq_false z];exact hq
  ·rw[hi]at hv;have hv:(if (i:Int)∈ks then none else some (V.int (zm lies i)))=some v:=hv;split at hv
   ·cases hv
   ·cases hv;walk_at"e";refine dz (v:=.ref p) (cR.of l.ol) (dj a1) ?_;walk_at"e";refine dz (v:=.int m.b) (cR.of a2) (fQ (by decide) rfl) ?_;rw[<- a3];exact hq
 ·have:=h p hp;have e:(List.range ((thr lies).map λi:Nat=>V.int i).length).filterMap (λj=>((thr lies)[j]?).bind λi:Nat=>if (i:Int)∈ks then none else some (V.int (zm lies i)))=(lone ks lies).map V.int:=by
   rw[aU,wH,<- Zex,List.map_filterMap];refine nQ λj _=>?_;split<;>rfl
  rw[e];exact this
end
def Fl(ps:List (Option Addr))(ll:Addr)(H H':Hp):Prop:=∀b o,H b=some o->Nr ps b->b≠ll->H' b=some o
def yJ(K:aC):Sp:=λvs H Q E=>∃ll hd ev,vs=[.ref ll,.ref hd,.ref ev]/\∃(T:Tg) (ps:List (Option Addr)) (lies:Lies) (ks:List Int) (e:Ev) (cT:Lies) (bl:Addr) (th:Int),WT H T/\Lw H T ll ps lies/\HoD H hd ks/\Nr ps hd/\e.thing=some th/\H ev=some (.tup [.str e.word,.int th,.ref bl])/\Nr ps ev/\H bl=some (.lst (e.notes.map V.int))/\Nr ps bl/\e.notes.length<=1000/\lies.length<=1000/\ZF ks lies e cT/\∀H' ps',fj 3 H H' T T->Fl ps ll H H'->Lw H' T ll ps' cT->Q (.bl true) H'
theorem HoD.same{H H':Hp}{hd:Addr}{ks:List Int}(h:HoD H hd ks)(s:bC H H'):HoD H' hd ks:=by
 obtain⟨kvs,a,b⟩:=h;exact⟨kvs,s _ _ a,b⟩
theorem HoD.fr{H H':Hp}{hd:Addr}{ks:List Int}{ps:List (Option Addr)}(h:HoD H hd ks)(f:Fr ps H H')(t:Nr ps hd):HoD H' hd ks:=by
 obtain⟨kvs,a,b⟩:=h;exact⟨kvs,f _ _ a t,b⟩
section
variable {K:aC}{H:Hp}{Q:VK}{E:XK}{n:St->Hp->Prop}{bk ct:St->Hp->Prop}
theorem Lj{ll hd ev:Addr}(q:∃(T:Tg) (ps:List (Option Addr)) (lies:Lies) (ks:List Int) (e:Ev) (cT:Lies) (bl:Addr) (th:Int),WT H T/\Lw H T ll ps lies/\HoD H hd ks/\Nr ps hd/\e.thing=some th/\H ev=some (.tup [.str e.word,.int th,.ref bl])/\Nr ps ev/\H bl=some (.lst (e.notes.map V.int))/\Nr ps bl/\e.notes.length<=1000/\lies.length<=1000/\ZF ks lies e cT/\∀H' ps',fj 3 H H' T T->Fl ps ll H H'->Lw H' T ll ps' cT->Q (.bl true) H'):
  rO K (fM 3) qH ⟨n,Q,bk,ct⟩ [some (.ref ll),some (.ref hd),some (.ref ev),none,none,none,none,none,none] H:=by
 obtain⟨T,ps,lies,ks,e,cT,bl,th,wt,l,hod,thd,eth,hev,tev,hbl,Bl,nl,ln,sp,q⟩:=q;have tl:=TY lies;unfold rO;walk_at"e";refine⟨ev,_,rfl,qZ.of hev,rfl,?_⟩;refine⟨_,_,rfl,?_⟩;walk_at"e";refine⟨_,_,rfl,?_⟩;walk_at"e";refine⟨_,_,rfl,?_⟩;walk_at"e";refine⟨rfl,?_⟩;walk_at"e";refine Av ?_;walk_at"e";refine iI (cR.of l.ol) ?_;walk_at"e";rw[aU,l.ln];refine⟨_,rfl,by omega,by omega,Yw (n:=lies.length) (by simp) (λi=>((lies[i]?).join).isSome) (λi=>.int i) (by omega) (λi hi q hq=>?_) (λi hi _ q hq=>?_) (λl7 hl7=>?_)⟩
 ·rw[show([0]:List Nat).map (pick [some (.ref ll),some (.ref hd),some (.ref ev),some (.str e.word),some (.int th),some (.ref bl),none,none,none])=[some (.ref ll)]from rfl];walk_at"e";rcases l.get hi with ⟨h3,h4⟩ | ⟨m,p,h3,_,h5,_,h7⟩
  ·refine dz (v:=.non) (cR.of l.ol) (dj h4) ?_;walk_at"e";rw[h3]at hq;exact hq
  ·refine dz (v:=.ref p) (cR.of l.ol) (dj h5) ?_;walk_at"e";rw[h3]at hq;exact hq
 ·walk_at"e";exact hq
 generalize zz:upd H l7 _=H1;obtain⟨s1,c1⟩:=nwO hl7 zz;have c1:H1 l7=some (.lst ((thr lies).map λi:Nat=>V.int i)):=c1;have n7:=l.nr hl7;have st1:fj 3 H H1 T T:=fj.same wt s1;have l1:=l.same s1;have fl1:Fl ps ll H H1:=λb o hb _ _=>s1 _ _ hb;have lq:=hod.same s1;have mF:=s1 _ _ hev;have kY:=s1 _ _ hbl;cases sp with
 | begin t ns=>
  cases eth;walk_at"e";refine pU (λ_=>?_) (λz=>absurd rfl z);walk_at"e";refine Av ?_;walk_at"e";refine⟨l7,rfl,⟨_,cR.of c1⟩,Zm1 rfl l1 c1 ln λp hp=>?_⟩;generalize zz:upd H1 p _=Hn2;obtain⟨sm2,cc2⟩:=nwO hp zz;have tt2:=l1.nr hp
  replace c1:=sm2 _ _ c1
  replace mF:=sm2 _ _ mF
  replace kY:=sm2 _ _ kY
  replace lq:=lq.same sm2
  have zg:fj 3 H Hn2 T T:=st1.trans (fj.same st1.wt sm2);have S8:=l1.same sm2;have JC:Fl ps ll H Hn2:=λb o hb n1 n2=>sm2 _ _ (fl1 b o hb n1 n2);walk_at"e";refine⟨ll,p,_,rfl,T,ps,lies,(GX lies),zg.wt,S8,cc2,tt2,by first | exact ln | (unfold fu;simp only[nP];exact ln),λHt4 Zf6 Y8 l4t=>?_⟩
  replace c1:=Y8 _ _ c1 n7
  replace mF:=Y8 _ _ mF tev
  replace kY:=Y8 _ _ kY Bl
  replace lq:=lq.fr Y8 thd
  have ZZ:=zg.trans Zf6;have Zhw:Fl ps ll H Ht4:=λb o hb n1 n2=>Y8 _ _ (JC b o hb n1 n2) n1;walk_at"e";refine⟨by show 3<=_;decide,λtp5 Zsq=>?_⟩;generalize zz:upd Ht4 tp5 _=Hp5;obtain⟨s5,d5⟩:=nwO Zsq zz;refine⟨tp5,_,rfl,.inr (qZ.of d5),rfl,rfl,?_⟩;rw[show(if false=true then !inV (V.str "begin") [.str "begin",.str "look",.str "walk"]else inV (V.str "begin") [.str "begin",.str "look",.str "walk"])=true from by decide +kernel];refine⟨_,rfl,Aw ?_⟩
  replace c1:=s5 _ _ c1
  replace mF:=s5 _ _ mF
  replace kY:=s5 _ _ kY
  replace lq:=lq.same s5
  have Zf5:fj 3 H Hp5 T T:=ZZ.trans (fj.same ZZ.wt s5);have l6x:=l4t.same s5;have Zoj:Fl ps ll H Hp5:=λb o hb n1 n2=>s5 _ _ (Zhw b o hb n1 n2);walk_at"e";refine⟨ll,bl,_,rfl,T,ps,(fu (GX lies) "pale" lies),ns,Zf5.wt,l6x,kY,Bl,by first | exact ln | (unfold fu;simp only[nP];exact ln),λHt7 Zmm fr7 l7t=>?_⟩
  replace c1:=fr7 _ _ c1 n7
  replace mF:=fr7 _ _ mF tev
  replace kY:=fr7 _ _ kY Bl
  replace lq:=lq.fr fr7 thd
  have Zml:=Zf5.trans Zmm;have Zoi:Fl ps ll H Ht7:=λb o hb n1 n2=>fr7 _ _ (Zoj b o hb n1 n2) n1;walk_at"e";refine pU (λz=>absurd z (show ¬ ("begin":Str)="walk" by decide)) (λ_=>?_);walk_at"e";refine pU (λz=>absurd z (show ¬ ("begin":Str)="cut" by decide)) (λ_=>?_);walk_at"e";refine pU (λz=>absurd z (show ¬ ("begin":Str)="back" by decide)) (λ_=>?_);walk_at"e";exact q _ ps Zml Zoi l7t
 | look t ns=>
  cases eth;walk_at"e";refine pU (λz=>absurd z (show ¬ ("look":Str)="begin" by decide)) (λ_=>?_);walk_at"e";refine⟨by show 3<=_;decide,λEf O1=>?_⟩;generalize zz:upd H1 Ef _=W2;obtain⟨s2,d2⟩:=nwO O1 zz;refine⟨Ef,_,rfl,.inr (qZ.of d2),rfl,rfl,?_⟩;rw[show(if false=true then !inV (V.str "look") [.str "begin",.str "look",.str "walk"]else inV (V.str "look") [.str "begin",.str "look",.str "walk"])=true from by decide +kernel];refine⟨_,rfl,Aw ?_⟩
  replace c1:=s2 _ _ c1
  replace mF:=s2 _ _ mF
  replace kY:=s2 _ _ kY
  replace lq:=lq.same s2
  have zg:fj 3 H W2 T T:=st1.trans (fj.same st1.wt s2);have S8:=l1.same s2;have JC:Fl ps ll H W2:=λb o hb n1 n2=>s2 _ _ (fl1 b o hb n1 n2);walk_at"e";refine⟨ll,bl,_,rfl,T,ps,lies,ns,zg.wt,S8,kY,Bl,by first | exact ln | (unfold fu;simp only[nP];exact ln),λHt4 Zf6 Y8 l4t=>?_⟩
  replace c1:=Y8 _ _ c1 n7
  replace mF:=Y8 _ _ mF tev
  replace kY:=Y8 _ _ kY Bl
  replace lq:=lq.fr Y8 thd
  have ZZ:=zg.trans Zf6;have Zhw:Fl ps ll H Ht4:=λb o hb n1 n2=>Y8 _ _ (JC b o hb n1 n2) n1;walk_at"e";refine pU (λz=>absurd z (show ¬ ("look":Str)="walk" by decide)) (λ_=>?_);walk_at"e";refine pU (λz=>absurd z (show ¬ ("look":Str)="cut" by decide)) (λ_=>?_);walk_at"e";refine pU (λz=>absurd z (show ¬ ("look":Str)="back" by decide)) (λ_=>?_);walk_at"e";exact q _ ps ZZ Zhw l4t
 | walk b ns=>
  cases eth;walk_at"e";refine pU (λz=>absurd z (show ¬ ("walk":Str)="begin" by decide)) (λ_=>?_);walk_at"e";refine⟨by show 3<=_;decide,λEf O1=>?_⟩;generalize zz:upd H1 Ef _=W2;obtain⟨s2,d2⟩:=nwO O1 zz;refine⟨Ef,_,rfl,.inr (qZ.of d2),rfl,rfl,?_⟩;rw[show(if false=true then !inV (V.str "walk") [.str "begin",.str "look",.str "walk"]else inV (V.str "walk") [.str "begin",.str "look",.str "walk"])=true from by decide +kernel];refine⟨_,rfl,Aw ?_⟩
  replace c1:=s2 _ _ c1
  replace mF:=s2 _ _ mF
  replace kY:=s2 _ _ kY
  replace lq:=lq.same s2
  have zg:fj 3 H W2 T T:=st1.trans (fj.same st1.wt s2);have S8:=l1.same s2;have JC:Fl ps ll H W2:=λb o hb n1 n2=>s2 _ _ (fl1 b o hb n1 n2);walk_at"e";refine⟨ll,bl,_,rfl,T,ps,lies,ns,zg.wt,S8,kY,Bl,by first | exact ln | (unfold fu;simp only[nP];exact ln),λHt4 Zf6 Y8 l4t=>?_⟩
  replace c1:=Y8 _ _ c1 n7
  replace mF:=Y8 _ _ mF tev
  replace kY:=Y8 _ _ kY Bl
  replace lq:=lq.fr Y8 thd
  have ZZ:=zg.trans Zf6;have Zhw:Fl ps ll H Ht4:=λb o hb n1 n2=>Y8 _ _ (JC b o hb n1 n2) n1;walk_at"e";refine pU (λ_=>?_) (λz=>absurd rfl z);walk_at"e";refine⟨by show 1<=_;decide,λp hp=>?_⟩;generalize zz:upd Ht4 p _=Hn5;obtain⟨sm5,cc5⟩:=nwO hp zz;have tt5:=l4t.nr hp
  replace c1:=sm5 _ _ c1
  replace mF:=sm5 _ _ mF
  replace kY:=sm5 _ _ kY
  replace lq:=lq.same sm5
  have Zf5:fj 3 H Hn5 T T:=ZZ.trans (fj.same ZZ.wt sm5);have l6x:=l4t.same sm5;have Zoj:Fl ps ll H Hn5:=λb o hb n1 n2=>sm5 _ _ (Zhw b o hb n1 n2);walk_at"e";refine⟨ll,p,_,rfl,T,ps,(fu ns "grey" lies),[th],Zf5.wt,l6x,cc5,tt5,by first | exact ln | (unfold fu;simp only[nP];exact ln),λHt7 Zmm fr7 l7t=>?_⟩
  replace c1:=fr7 _ _ c1 n7
  replace mF:=fr7 _ _ mF tev
  replace kY:=fr7 _ _ kY Bl
  replace lq:=lq.fr fr7 thd
  have Zml:=Zf5.trans Zmm;have Zoi:Fl ps ll H Ht7:=λb o hb n1 n2=>fr7 _ _ (Zoj b o hb n1 n2) n1;walk_at"e";refine pU (λz=>absurd z (show ¬ ("walk":Str)="cut" by decide)) (λ_=>?_);walk_at"e";refine pU (λz=>absurd z (show ¬ ("walk":Str)="back" by decide)) (λ_=>?_);walk_at"e";exact q _ ps Zml Zoi l7t
 | cut=>
  cases eth;walk_at"e";refine pU (λz=>absurd z (show ¬ ("cut":Str)="begin" by decide)) (λ_=>?_);walk_at"e";refine⟨by show 3<=_;decide,λEf O1=>?_⟩;generalize zz:upd H1 Ef _=W2;obtain⟨s2,d2⟩:=nwO O1 zz;refine⟨Ef,_,rfl,.inr (qZ.of d2),rfl,rfl,?_⟩;rw[show(if false=true then !inV (V.str "cut") [.str "begin",.str "look",.str "walk"]else inV (V.str "cut") [.str "begin",.str "look",.str "walk"])=false from by decide +kernel];refine⟨_,rfl,oM ?_⟩
  replace c1:=s2 _ _ c1
  replace mF:=s2 _ _ mF
  replace kY:=s2 _ _ kY
  replace lq:=lq.same s2
  have zg:fj 3 H W2 T T:=st1.trans (fj.same st1.wt s2);have S8:=l1.same s2;have JC:Fl ps ll H W2:=λb o hb n1 n2=>s2 _ _ (fl1 b o hb n1 n2);walk_at"e";refine pU (λz=>absurd z (show ¬ ("cut":Str)="walk" by decide)) (λ_=>?_);walk_at"e";refine pU (λ_=>?_) (λz=>absurd rfl z);walk_at"e";refine Av ?_;walk_at"e";refine⟨l7,rfl,⟨_,cR.of c1⟩,Zm1 rfl S8 c1 ln λp hp=>?_⟩;generalize zz:upd W2 p _=Hn4;obtain⟨sm4,cc4⟩:=nwO hp zz;have tt4:=S8.nr hp
  replace c1:=sm4 _ _ c1
  replace mF:=sm4 _ _ mF
  replace kY:=sm4 _ _ kY
  replace lq:=lq.same sm4
  have Zpm:fj 3 H Hn4 T T:=zg.trans (fj.same zg.wt sm4);have l5x:=S8.same sm4;have Zyi:Fl ps ll H Hn4:=λb o hb n1 n2=>sm4 _ _ (JC b o hb n1 n2);walk_at"e";refine⟨ll,p,_,rfl,T,ps,lies,(GX lies),Zpm.wt,l5x,cc4,tt4,by first | exact ln | (unfold fu;simp only[nP];exact ln),λHt6 Zrl fr6 l6t=>?_⟩
  replace c1:=fr6 _ _ c1 n7
  replace mF:=fr6 _ _ mF tev
  replace kY:=fr6 _ _ kY Bl
  replace lq:=lq.fr fr6 thd
  have Zpl:=Zpm.trans Zrl;have Zyh:Fl ps ll H Ht6:=λb o hb n1 n2=>fr6 _ _ (Zyi b o hb n1 n2) n1;walk_at"e";refine Av ?_;walk_at"e";have e7:(thr lies)=thr (fu (GX lies) "kept" lies):=(Zew _ _).symm;refine⟨l7,rfl,⟨_,cR.of c1⟩,Zke (ks:=ks) rfl rfl l6t (by rw[<- e7];exact c1) lq (by unfold fu;rw[nP];exact ln) λp2 hp2=>?_⟩;rw[show lone ks (fu (GX lies) "kept" lies)=lone ks lies from Ze0 _ _ _];generalize zz:upd Ht6 p2 _=Hn7;obtain⟨sm7,cc7⟩:=nwO hp2 zz;have tt7:=l6t.nr hp2
  replace c1:=sm7 _ _ c1
  replace mF:=sm7 _ _ mF
  replace kY:=sm7 _ _ kY
  replace lq:=lq.same sm7
  have Zpk:fj 3 H Hn7 T T:=Zpl.trans (fj.same Zpl.wt sm7);have l8x:=l6t.same sm7;have Zyg:Fl ps ll H Hn7:=λb o hb n1 n2=>sm7 _ _ (Zyh b o hb n1 n2);walk_at"e";refine⟨ll,p2,_,rfl,T,ps,(fu (GX lies) "kept" lies),(lone ks lies),Zpk.wt,l8x,cc7,tt7,by first | exact ln | (unfold fu;simp only[nP];exact ln),λHt9 Zrk fr9 l9t=>?_⟩
  replace c1:=fr9 _ _ c1 n7
  replace mF:=fr9 _ _ mF tev
  replace kY:=fr9 _ _ kY Bl
  replace cc7:=fr9 _ _ cc7 tt7
  replace lq:=lq.fr fr9 thd
  have Zpj:=Zpk.trans Zrk;have Zyf:Fl ps ll H Ht9:=λb o hb n1 n2=>fr9 _ _ (Zyg b o hb n1 n2) n1;walk_at"e";refine iI (cR.of cc7) ?_;walk_at"e";rw[aU];refine⟨by show 3<=_;decide,λte hte=>?_⟩;generalize zz:upd Ht9 te _=H9;obtain⟨s9,c9⟩:=nwO hte zz;refine⟨_,_,rfl,Zpn (e:=⟨"cut",some ((lone ks lies).length:Nat),lone ks lies⟩) ⟨bl,s9 _ _ mF,s9 _ _ kY⟩ ⟨p2,c9,s9 _ _ cc7⟩ nl,?_⟩;exact q _ ps (Zpj.trans (fj.same Zpj.wt s9)) (λb o hb n1 n2=>s9 _ _ (Zyf b o hb n1 n2)) (l9t.same s9)
 | back pl x hx hk=>
  cases eth;walk_at"e";refine pU (λz=>absurd z (show ¬ ("back":Str)="begin" by decide)) (λ_=>?_);walk_at"e";refine⟨by show 3<=_;decide,λEf O1=>?_⟩;generalize zz:upd H1 Ef _=W2;obtain⟨s2,d2⟩:=nwO O1 zz;refine⟨Ef,_,rfl,.inr (qZ.of d2),rfl,rfl,?_⟩;rw[show(if false=true then !inV (V.str "back") [.str "begin",.str "look",.str "walk"]else inV (V.str "back") [.str "begin",.str "look",.str "walk"])=false from by decide +kernel];refine⟨_,rfl,oM ?_⟩
  replace c1:=s2 _ _ c1
  replace mF:=s2 _ _ mF
  replace kY:=s2 _ _ kY
  replace lq:=lq.same s2
  have zg:fj 3 H W2 T T:=st1.trans (fj.same st1.wt s2);have S8:=l1.same s2;have JC:Fl ps ll H W2:=λb o hb n1 n2=>s2 _ _ (fl1 b o hb n1 n2);walk_at"e";refine pU (λz=>absurd z (show ¬ ("back":Str)="walk" by decide)) (λ_=>?_);walk_at"e";refine pU (λz=>absurd z (show ¬ ("back":Str)="cut" by decide)) (λ_=>?_);walk_at"e";refine pU (λ_=>?_) (λz=>absurd rfl z);walk_at"e";refine dz (v:=.int pl) (cR.of kY) (fQ (by decide) rfl) ?_;walk_at"e";obtain⟨m,p,h3,h4,h5,h6,h7⟩:∃m p,lies[pl]? =some (some m)/\ps[pl]? =some (some p)/\(ps.map aV)[pl]? =some (.ref p)/\T p=(3,1+pl)/\_=some (HO.lst (zj m)):=by
    rcases S8.get (cV hx).1 with ⟨h3,_⟩ | h
    ·rw[hx]at h3;cases h3
    ·exact h
  rw[hx]at h3;cases h3;refine dz (v:=.ref p) (cR.of S8.ol) (dj h5) ?_;walk_at"e";refine dz (v:=.ref p) (cR.of S8.ol) (dj h5) ?_;walk_at"e";refine dz (v:=.int x.b) (cR.of h7) (fQ (by decide) rfl) ?_;walk_at"e";refine wO (λz=>absurd rfl z) (λ_=>?_);walk_at"e";refine dz (v:=.ref p) (cR.of S8.ol) (dj h5) ?_;walk_at"e";refine dz (v:=.str x.k) (cR.of h7) (fQ (by decide) rfl) ?_;walk_at"e";refine wO (λz=>absurd hk z) (λ_=>?_);walk_at"e";refine⟨ll,_,_,pl,rfl,rfl,S8.ol,yF (by rw[aU,l.ln];exact(cV hx).1),?_⟩;obtain⟨st9,l9⟩:=S8.clr zg.wt pl;rw[show(ps.map aV).set pl V.non=(ps.set pl none).map aV from by rw[List.map_set];rfl];walk_at"e";exact q _ _ (zg.trans st9) (λb o hb n1 n2=>by rw[aA n2];exact JC b o hb n1 n2) l9
 | pass t=>
  cases eth;walk_at"e";refine pU (λz=>absurd z (show ¬ ("pass":Str)="begin" by decide)) (λ_=>?_);walk_at"e";refine⟨by show 3<=_;decide,λEf O1=>?_⟩;generalize zz:upd H1 Ef _=W2;obtain⟨s2,d2⟩:=nwO O1 zz;refine⟨Ef,_,rfl,.inr (qZ.of d2),rfl,rfl,?_⟩;rw[show(if false=true then !inV (V.str "pass") [.str "begin",.str "look",.str "walk"]else inV (V.str "pass") [.str "begin",.str "look",.str "walk"])=false from by decide +kernel];refine⟨_,rfl,oM ?_⟩
  replace c1:=s2 _ _ c1
  replace mF:=s2 _ _ mF
  replace kY:=s2 _ _ kY
  replace lq:=lq.same s2
  have zg:fj 3 H W2 T T:=st1.trans (fj.same st1.wt s2);have S8:=l1.same s2;have JC:Fl ps ll H W2:=λb o hb n1 n2=>s2 _ _ (fl1 b o hb n1 n2);walk_at"e";refine pU (λz=>absurd z (show ¬ ("pass":Str)="walk" by decide)) (λ_=>?_);walk_at"e";refine pU (λz=>absurd z (show ¬ ("pass":Str)="cut" by decide)) (λ_=>?_);walk_at"e";refine pU (λz=>absurd z (show ¬ ("pass":Str)="back" by decide)) (λ_=>?_);walk_at"e";exact q _ ps zg JC S8
 | fin t ns=>
  cases eth;walk_at"e";refine pU (λz=>absurd z (show ¬ ("end":Str)="begin" by decide)) (λ_=>?_);walk_at"e";refine⟨by show 3<=_;decide,λEf O1=>?_⟩;generalize zz:upd H1 Ef _=W2;obtain⟨s2,d2⟩:=nwO O1 zz;refine⟨Ef,_,rfl,.inr (qZ.of d2),rfl,rfl,?_⟩;rw[show(if false=true then !inV (V.str "end") [.str "begin",.str "look",.str "walk"]else inV (V.str "end") [.str "begin",.str "look",.str "walk"])=false from by decide +kernel];refine⟨_,rfl,oM ?_⟩
  replace c1:=s2 _ _ c1
  replace mF:=s2 _ _ mF
  replace kY:=s2 _ _ kY
  replace lq:=lq.same s2
  have zg:fj 3 H W2 T T:=st1.trans (fj.same st1.wt s2);have S8:=l1.same s2;have JC:Fl ps ll H W2:=λb o hb n1 n2=>s2 _ _ (fl1 b o hb n1 n2);walk_at"e";refine pU (λz=>absurd z (show ¬ ("end":Str)="walk" by decide)) (λ_=>?_);walk_at"e";refine pU (λz=>absurd z (show ¬ ("end":Str)="cut" by decide)) (λ_=>?_);walk_at"e";refine pU (λz=>absurd z (show ¬ ("end":Str)="back" by decide)) (λ_=>?_);walk_at"e";exact q _ ps zg JC S8
end
def yS(M:Wm)(i:Nat):List (Int×Ce):=(List.range i).filterMap λ(i:Nat)=>((M.cells[i]?).join).map λc=>((i:Int),c)
theorem Df(M:Wm)(i:Nat):yS M (i+1)=yS M i++(match (M.cells[i]?).join with | none=>[] | some c=>[((i:Int),c)]):=by
 unfold yS;rw[List.range_succ,List.filterMap_append];congr 1;cases h:(M.cells[i]?).join<;>simp[h]
theorem Xj(M:Wm)(i:Nat):(yS M i).length<=i:=by
 unfold yS;have:=List.length_filterMap_le (λ(i:Nat)=>((M.cells[i]?).join).map λc=>((i:Int),c)) (List.range i);rw[List.length_range]at this;exact this
theorem Zis{M:Wm}{H:Hp}{l1 l2:Addr}{ls as:List Addr}{ts:List (Int×Ce)}(h1:H l1=some (.lst (ls.map V.ref)))(h2:H l2=some (.lst (as.map V.ref)))(n1:ls.length=ts.length)(n2:as.length=ts.length)(hts:ts.length<=1000)(hf:∀t∈ts,t.2.fl.length<=1000)
  (g1:∀(j:Nat) r t,ls[j]? =some r->ts[j]? =some t->∃f,TcO M H (r,f) t) (g2:∀(j:Nat) r t,as[j]? =some r->ts[j]? =some t->∃f,TcO M H (r,f) t):Sm H 3 (.ref l1) (.ref l2):=by
 refine .inr ⟨l1,l2,_,_,rfl,rfl,.inl ⟨h1,h2⟩,by rw[aU];omega,?_⟩;refine Zmc (by rw[aU,aU];omega) λi x y hx hy=>?_;rw[dB]at hx hy;obtain⟨a,ha,rfl⟩:=Option.map_eq_some_iff.mp hx;obtain⟨b,hb,rfl⟩:=Option.map_eq_some_iff.mp hy;have hi:i<ts.length:=by have:=(cV ha).1;omega
 have ht:=cJ hi;obtain⟨f,p1,p2⟩:=g1 i a _ ha ht;obtain⟨f',q1,q2⟩:=g2 i b _ hb ht;have hfl:=hf _ (List.getElem_mem hi);generalize ts[i]=t at p1 p2 q1 q2 hfl;refine .inr ⟨a,b,_,_,rfl,rfl,.inr ⟨p1,q1⟩,by show 6<=_;decide,?_⟩;refine .cons (jF rfl) (.cons (jF rfl) (.cons (jF rfl) (.cons (jF rfl) (.cons ?_ (.cons (jF rfl) .nil)))));refine .inr ⟨f,f',_,_,rfl,rfl,.inl ⟨p2,q2⟩,by rw[aU,aU];omega,Ep ?_⟩;rw[List.all_map,List.all_eq_true];intro x _;cases x<;>rfl
theorem Zfc{H Hx:Hp}{l:Addr}{o:HO}(s:bC H Hx)(h:H l=none):bC H (upd Hx l o):=λb u hb=>by rw[aA (aB hb h)];exact s b u hb
def pP(X:Cs):Sp:=λvs H Q E=>∃wo ll th,vs=[.ref wo,.ref ll,.int th]/\∃T A M ps lies,WJ X H T 1 A M/\A.wo=wo/\Lw H T ll ps lies/\(∀i c,cellAt M i=some c->c.load=0/\c.fl=List.replicate c.fl.length none/\c.fl.length<=3/\0<=c.bulk)/\M.cells.length<=900/\jT (λi c k=>(if th=0 then("kept":Str)else k)=ie M i c) M lies/\∀H',bC H H'->Q (.bl true) H'
section
variable {K:aC}{X:Cs}{H:Hp}{Q:VK}{E:XK}{n:St->Hp->Prop}{bk ct:St->Hp->Prop}
theorem RP{wo ll:Addr}{th:Int}(q:∃T A M ps lies,WJ X H T 1 A M/\A.wo=wo/\Lw H T ll ps lies/\(∀i c,cellAt M i=some c->c.load=0/\c.fl=List.replicate c.fl.length none/\c.fl.length<=3/\0<=c.bulk)/\M.cells.length<=900/\jT (λi c k=>(if th=0 then("kept":Str)else k)=ie M i c) M lies/\∀H',bC H H'->Q (.bl true) H'):
  vD K (fM 3) (oU X) (WQ X) ⟨n,Q,bk,ct⟩ [some (.ref wo),some (.ref ll),some (.int th),none,none,none,none] H:=by
 obtain⟨T,A,M,ps,lies,j,aw,l,fn,cl,rl,q⟩:=q;have ln:=rl.ln;unfold vD;walk_at"e";refine⟨by decide,λd hd=>?_⟩;generalize zz:upd H d _=H1;obtain⟨s1,c1⟩:=nwO hd zz;walk_at"e";refine iI (cR.of (s1 _ _ l.ol)) ?_;walk_at"e";rw[aU,l.ln];refine⟨_,rfl,by omega,by omega,?_⟩;rw[show((lies.length:Int)).toNat=lies.length from by omega];refine forR (λi σ Hx=>∃(as:List Addr) (v4 v5 v6:Option V),σ=[some (.ref wo),some (.ref ll),some (.int th),some (.ref d),v4,v5,v6]/\bC H Hx/\Hx d=some (.lst (as.map V.ref))/\as.length=(yS M i).length/\∀(j:Nat) r t,as[j]? =some r->(yS M i)[j]? =some t->∃f,TcO M Hx (r,f) t/\f≠d) ⟨[],none,none,none,rfl,s1,c1,rfl,λj r t h=>by cases h⟩ ?_ ?_
 ·rintro i σ Hx hi ⟨as,v4,v5,v6,rfl,sx,cx,al,at_⟩;have lx:=l.same sx;have e0:(0:Int)+(i:Int)=i:=by omega
  rw[e0];have htn:=Xj M i;walk_at"e";rcases lx.get hi with ⟨h3,h4⟩ | ⟨m,p,h3,_,h5,_,h7⟩
  ·refine dz (v:=.non) (cR.of lx.ol) (dj h4) ?_;walk_at"e";refine⟨as,_,_,_,rfl,sx,cx,?_⟩;have hc:=rl.non h3;rw[gU]at hc;rw[Df,hc];show _/\_;rw[List.append_nil];exact⟨al,at_⟩
  ·refine dz (v:=.ref p) (cR.of lx.ol) (dj h5) ?_;walk_at"e";refine dz (v:=.ref p) (cR.of lx.ol) (dj h5) ?_;walk_at"e";refine dz (v:=.str m.k) (cR.of h7) (fQ (by decide) rfl) ?_;obtain⟨c,hc,b1,b2,b3,b4⟩:=rl.got h3;obtain⟨f1,f2,f3,f4⟩:=fn i c hc;have hci:=(cj.mp hc).2;have go:∀(bk' ct':St->Hp->Prop),(aM (eG (qW (tB (aZ (fM 3) [] E0 (ak (aZ (oU X) [] E0 (ak (aj 0) (ak (aj 4) aJ))) (ak (aj 6) aJ))))) (bL (tC (.bl false))) bW)
   (oY (tBM K "list" uJ (aj 3) (ak (u9 (ak (aj 4) (ak (bO (fJ K) (aj 5) (tC (.int 0))) (ak (bO (fJ K) (aj 5) (tC (.int 1))) (ak (tC (.int 0)) (ak (bO (Zfl) (mz (ak (tC .non) aJ)) (bO (fJ K) (aj 5) (tC (.int 2)))) (ak (aj 6) aJ))))))) aJ)))) ⟨λσ Hx=>∃(as:List Addr) (v4 v5 v6:Option V),σ=[some (.ref wo),some (.ref ll),some (.int th),some (.ref d),v4,v5,v6]/\bC H Hx/\Hx d=some (.lst (as.map V.ref))/\as.length=(yS M (i+1)).length/\∀(j:Nat) r t,as[j]? =some r->(yS M (i+1))[j]? =some t->∃f,TcO M Hx (r,f) t/\f≠d,Q,bk',ct'⟩ [some (.ref wo),some (.ref ll),some (.int th),some (.ref d),some (.int i),some (.ref p),some (.str (ie M i c))] Hx:=by
    intro bk' ct';walk_at"e";refine⟨wo,i,rfl,T,1,A,M,c,j.same sx,aw,by omega,hci,?_⟩;walk_at"e";refine⟨_,_,rfl,jF rfl,?_⟩;walk_at"e";refine⟨.inl ⟨rfl,_,cR.of cx⟩,?_⟩;walk_at"e";refine dz (v:=.int m.b) (cR.of h7) (fQ (by decide) rfl) ?_;walk_at"e";refine dz (v:=.int m.u) (cR.of h7) (fQ (by decide) rfl) ?_;walk_at"e";refine⟨by show 1<=_;decide,λa0 h0=>?_⟩;generalize zz:upd Hx a0 _=H2;obtain⟨s2,c2⟩:=nwO h0 zz;walk_at"e";refine dz (v:=.int m.m) (cR.of (s2 _ _ h7)) (fQ (by decide) rfl) ?_;walk_at"e";refine⟨a0,m.m,_,rfl,rfl,c2,by omega,by omega,by rw[sizeLine_eq];show 1 * _<=_;omega,λp2 hp2=>?_⟩;rw[show(List.replicate m.m.toNat [V.non]).flatten=(c.fl.map (GZ M)).map oV from by
     rw[show m.m.toNat=c.fl.length by omega,f2,List.length_replicate,List.map_replicate,List.map_replicate];show _=List.replicate c.fl.length V.non
     induction c.fl.length with
     | zero=>rfl
     | succ k ih=>rw[List.replicate_succ,List.flatten_cons,ih,List.replicate_succ];rfl]
    generalize zz:upd H2 p2 _=H3;obtain⟨s3,c3⟩:=nwO hp2 zz;walk_at"e";refine⟨by show 6<=_;decide,λtp htp=>?_⟩;have s4:=aL htp (.tup [.int i,.int m.b,.int m.u,.int 0,.ref p2,.str (ie M i c)]);have c4:upd H3 tp (.tup [.int i,.int m.b,.int m.u,.int 0,.ref p2,.str (ie M i c)]) tp=some (.tup [.int i,.int c.birth,.int c.bulk,.int c.load,.ref p2,.str (ie M i c)]):=by rw[ao,b1,b2,f1]
    generalize upd H3 tp (.tup [.int i,.int m.b,.int m.u,.int 0,.ref p2,.str (ie M i c)])=H4 at s4 c4 ⊢;have s24:=s2.trans (s3.trans s4);walk_at"e";refine⟨d,_,_,rfl,rfl,s24 _ _ cx,by rw[aU,sizeLine_eq];omega,?_⟩;walk_at"e";have nd:∀{a:Addr}{xs:List V},H4 a=some (.tup xs)->a≠d:=λha e=>by rw[e,s24 _ _ cx]at ha;cases ha
    have p2d:p2≠d:=λe=>by
     have:=(s2.trans s3) _ _ cx;rw[<- e,c3]at this;exact absurd (s2 _ _ cx) (by rw[<- e,hp2];simp)
    have jc:(M.cells[i]?).join=some c:=by rw[<- gU];exact hc
    refine⟨as++[tp],_,_,_,rfl,Zfc (sx.trans s24) hd,by rw[ao,List.map_append];rfl,by rw[Df,jc,List.length_append,List.length_append,al];rfl,λj r t h1 h2=>?_⟩;rw[Df,jc]at h2
    by_cases hj:j<as.length
    ·rw[List.getElem?_append_left hj]at h1;rw[List.getElem?_append_left (by omega)]at h2;obtain⟨f,⟨g1,g2⟩,g3⟩:=at_ j r t h1 h2;refine⟨f,⟨?_,?_⟩,g3⟩
     ·show upd H4 d _ r=_;rw[aA (nd (s24 _ _ g1))];exact s24 _ _ g1
     ·show upd H4 d _ f=_;rw[aA g3];exact s24 _ _ g2
    ·have hje:j=as.length:=by
      have:=(cV h1).1;rw[List.length_append]at this;have z:[tp].length=1:=rfl;omega
     rw[hje,List.getElem?_append_right (Nat.le_refl _),Nat.sub_self]at h1;rw[hje,al,List.getElem?_append_right (Nat.le_refl _),Nat.sub_self]at h2;cases h1;cases h2;refine⟨p2,⟨?_,?_⟩,p2d⟩
     ·show upd H4 d _ tp=_;rw[aA (nd c4)];exact c4
     ·show upd H4 d _ p2=_;rw[aA p2d];exact s4 _ _ c3
   walk_at"s";refine Kf ?_;walk_at"s";refine pU (λz=>?_) (λz=>?_)
   ·have e:ie M i c="kept":=by rw[<- b4,if_pos z]
    rw[e]at go;exact go _ _
   ·have e:ie M i c=m.k:=by rw[<- b4,if_neg z]
    rw[e]at go;exact go _ _
 ·rintro σ Hx ⟨as,v4,v5,v6,rfl,sx,cx,al,at_⟩;have et:yS M lies.length=oX M:=by unfold yS oX;rw[ln]
  rw[et]at al at_;have htl:=Xj M M.cells.length;have et2:yS M M.cells.length=oX M:=rfl;rw[et2]at htl;walk_at"e";have hfl:∀c,some c∈M.cells->c.fl.length<=3:=λc hc=>by
   obtain⟨k,hk⟩:=List.getElem?_of_mem hc;exact(fn k c (by rw[gU,hk];rfl)).2.2.1
  refine⟨wo,rfl,T,1,A,M,j.same sx,aw,by omega,λc hc=>Nat.le_trans (hfl c hc) (by decide),λl2 ls H2 s2 c2 n2 g2 _=>?_⟩;walk_at"e";refine⟨_,_,rfl,Zis c2 (s2 _ _ cx) n2 al (by omega) (λt ht=>?_) (λj r t h1 h2=>let ⟨f,a,_⟩:=g2 j r t h1 h2;⟨f,a⟩) (λj r t h1 h2=>?_),q _ (sx.trans s2)⟩
  ·unfold oX at ht;obtain⟨k,_,e⟩:=List.mem_filterMap.mp ht;obtain⟨c,hc,rfl⟩:=Option.map_eq_some_iff.mp e;exact Nat.le_trans (fn k c (by rw[gU];exact hc)).2.2.1 (by decide)
  ·obtain⟨f,⟨a1,a2⟩,_⟩:=at_ j r t h1 h2;exact⟨f,s2 _ _ a1,s2 _ _ a2⟩
end
section
variable {M N:Wm}{hs:RZ}{k:Nat}{w0:Int}{lies cT:Lies}{ks:List Int}{lb:Int}{lw:List Int}{e:Ev}
theorem ZF.th(h:ZF ks lies e cT):∃t,e.thing=some t:=by cases h<;>exact⟨_,rfl⟩
theorem ZF.nl(h:ZF ks lies e cT):e.word≠"lost":=by
 cases h
 ·show ¬ ("begin":Str)="lost";decide
 ·show ¬ ("look":Str)="lost";decide
 ·show ¬ ("walk":Str)="lost";decide
 ·show ¬ ("cut":Str)="lost";decide
 ·show ¬ ("back":Str)="lost";decide
 ·show ¬ ("pass":Str)="lost";decide
 ·show ¬ ("end":Str)="lost";decide
theorem Zim(h:nT lb lw M e N):N.born=M.born/\N.hands=M.hands:=by
 cases h with
 | begin ph=>exact⟨(vQ _ _ _ (gW M)).bn,(vQ _ _ _ (gW M)).hd⟩
 | walk x g c ph hg hc=>exact⟨(wK c.fl { M with sw:={ M.sw with grey:=g,walks:=M.sw.walks+1 } }).bn,(wK c.fl { M with sw:={ M.sw with grey:=g,walks:=M.sw.walks+1 } }).hd⟩
 | look N' ph hg nc hN=>subst hN;exact⟨(vQ _ _ _ M).bn,(vQ _ _ _ M).hd⟩
 | cut=>exact⟨rfl,rfl⟩
 | lost=>exact⟨rfl,rfl⟩
 | pass=>exact⟨rfl,rfl⟩
 | back=>exact⟨rfl,rfl⟩
 | fin=>exact⟨rfl,rfl⟩
 | again=>exact⟨rfl,rfl⟩
theorem Zik(h:nT lb lw M e N):(M.sw.phase="rest"->N.sw.turn=M.sw.turn+1/\N.sw.sense=1 - M.sw.sense)/\(M.sw.phase≠"rest"->N.sw.turn=M.sw.turn/\N.sw.sense=M.sw.sense):=by
 cases h with
 | begin ph=>
  obtain⟨g,hg⟩:=(vQ (bM M.w M.hands.length) M.hands 0 (gW M)).sw;exact⟨λ_=>by rw[hg];exact⟨rfl,rfl⟩,λz=>absurd ph z⟩
 | walk x g c ph hg hc=>
  obtain⟨g',hg'⟩:=(wK c.fl { M with sw:={ M.sw with grey:=g,walks:=M.sw.walks+1 } }).sw;exact⟨λz=>absurd (ph.symm.trans z) (by decide),λ_=>by rw[hg'];exact⟨rfl,rfl⟩⟩
 | look N' ph hg nc hN=>
  subst hN;obtain⟨g',hg'⟩:=(vQ (bH M) M.hands 0 M).sw;refine⟨λz=>absurd (ph.symm.trans z) (by decide),λ_=>?_⟩;show(gK (bH M) M.hands 0 M).2.sw.turn=_/\(gK (bH M) M.hands 0 M).2.sw.sense=_;rw[hg'];exact⟨rfl,rfl⟩
 | cut q qs ph=>exact⟨λz=>absurd (ph.symm.trans z) (by decide),λ_=>⟨rfl,rfl⟩⟩
 | lost q qs i x c v ph=>exact⟨λz=>absurd (ph.symm.trans z) (by decide),λ_=>⟨rfl,rfl⟩⟩
 | pass ph=>exact⟨λz=>absurd (ph.symm.trans z) (by decide),λ_=>⟨rfl,rfl⟩⟩
 | back c ph=>exact⟨λz=>absurd (ph.symm.trans z) (by decide),λ_=>⟨rfl,rfl⟩⟩
 | fin ph=>exact⟨λz=>absurd (ph.symm.trans z) (by decide),λ_=>⟨rfl,rfl⟩⟩
 | again ph=>exact⟨λz=>absurd (ph.symm.trans z) (by decide),λ_=>⟨rfl,rfl⟩⟩
theorem ZX(p:Bs M hs k w0)(hk:k<=900)(h:nT lb lw M e N)(nl:e.word≠"lost"):e.notes.length<=1000:=by
 have h5:=p.fx.h5;have hc:=p.kw.cl;cases h with
 | begin ph=>
  have:=(pD (bM M.w M.hands.length) 3 M.hands 0 (gW M) (λm hm=>by rw[p.fx.h3 m hm];exact Nat.le_refl _)).2.2.1;show(gK _ _ _ _).1.length<=_;omega
 | walk x g c ph hg hc=>
  rw[(p.fx.fn x c hc).2.1,yu];exact Nat.zero_le _
 | look N' ph hg nc hN=>
  have:=(pD (bH M) 3 M.hands 0 M (λm hm=>by rw[p.fx.h3 m hm];exact Nat.le_refl _)).2.2.1;show(gK _ _ _ _).1.length<=_;omega
 | cut q qs ph hg cd bf hno=>
  have:=(Nv (M:=M) (by omega)).1;show(oH M).length<=_;omega
 | lost=>exact absurd rfl nl
 | pass=>exact Nat.zero_le _
 | back=>show 1<=1000;decide
 | fin=>show 3<=1000;decide
 | again=>exact absurd rfl nl
end
theorem Lw.nrT{H:Hp}{T:Tg}{ll:Addr}{ps:List (Option Addr)}{lies:Lies}(l:Lw H T ll ps lies){b:Addr}(hb:∀xs,H b≠some (.lst xs)):Nr ps b:=λp hp e=>by
 obtain⟨k,hk⟩:=List.getElem?_of_mem hp;have hl:k<lies.length:=by rw[<- l.ln];exact(cV hk).1
 rcases l.get hl with ⟨h1,h2⟩ | ⟨m,p',h1,h2,_,_,h3⟩
 ·rw[dB,hk]at h2;cases h2
 ·rw[hk]at h2;cases h2;rw[e]at h3;exact hb _ h3
def Hq(X:Cs):Sp:=λvs H Q E=>∃wo ll hd,vs=[.ref wo,.ref ll,.ref hd]/\∃T ls M lies ks hs w0,Hl X H T wo ll ls M lies/\HoD H hd ks/\(T hd).1=6/\Bs M hs 12 w0/\HsB hs/\Hk M ks/\jT (λ_ _ _=>True) M lies/\M.sw.phase="rest"/\
 ∀H' T' M' cT,Hl X H' T' wo ll ls M' cT->Bs M' hs 12 w0->RelM M' cT->M'.sw.phase="rest"->M'.hands=M.hands->M'.sw.turn=M.sw.turn+1/\M'.sw.sense=1 - M.sw.sense/\M'.sw.grey=[]->Kp H H' T T'->Q (.bl true) H'
section
variable {K:aC}{X:Cs}{H:Hp}{Q:VK}{E:XK}{n:St->Hp->Prop}{bk ct:St->Hp->Prop}
theorem RM{wo ll hd:Addr}(q:∃T ls M lies ks hs w0,Hl X H T wo ll ls M lies/\HoD H hd ks/\(T hd).1=6/\Bs M hs 12 w0/\HsB hs/\Hk M ks/\jT (λ_ _ _=>True) M lies/\M.sw.phase="rest"/\
 ∀H' T' M' cT,Hl X H' T' wo ll ls M' cT->Bs M' hs 12 w0->RelM M' cT->M'.sw.phase="rest"->M'.hands=M.hands->M'.sw.turn=M.sw.turn+1/\M'.sw.sense=1 - M.sw.sense/\M'.sw.grey=[]->Kp H H' T T'->Q (.bl true) H'):
  vB K (pP X) (yJ K) (bT X Zg3) ⟨n,Q,bk,ct⟩ [some (.ref wo),some (.ref ll),some (.ref hd),none,none] H:=by
 obtain⟨T,ls,M0,Zh2,ks,hs,w0,st0,hod,thd,p0,hb,hk0,rl0,ph0,q⟩:=q;have wt0:WT H T:=st0.choose_spec.choose_spec.w;unfold vB;walk_at"e";refine⟨_,rfl,by decide,by decide,forR (λi σ Hx=>∃(v3 v4:Option V) (T1:Tg) (M:Wm) (lies:Lies),σ=[some (.ref wo),some (.ref ll),some (.ref hd),v3,v4]/\Hl X Hx T1 wo ll ls M lies/\Bs M hs 12 w0/\Kp H Hx T T1/\M.hands=M0.hands/\((i=0/\M.sw.phase="rest"/\Hk M ks/\jT (λ_ _ _=>True) M lies/\M.sw.turn=M0.sw.turn/\M.sw.sense=M0.sw.sense)\/(Rnd M ks/\RelM M lies/\mu M+i<=96/\M.sw.turn=M0.sw.turn+1/\M.sw.sense=1 - M0.sw.sense))) ⟨none,none,T,M0,Zh2,rfl,st0,p0,Kp.same (bC.refl _),rfl,.inl ⟨rfl,ph0,hk0,rl0,rfl,rfl⟩⟩ ?_ ?_⟩
 ·rintro i σ Hx hi ⟨v3,v4,T1,M,lies,rfl,⟨A,ps,l⟩,p,kp,hh,inv⟩;have Zk4:M.sw.phase≠"lost":=by
   rcases inv with ⟨_,z,_⟩ | ⟨r,_⟩
   ·rw[z];decide
   ·rcases r.ph with z | z<;>rw[z]<;>decide
  have lq:HoD Hx hd ks:=by
   obtain⟨kvs,a,b⟩:=hod;exact⟨kvs,kp.k _ _ a (.inr (by omega)),b⟩
  have ln:lies.length<=12:=by
   have:=p.kw.cl;rcases inv with ⟨_,_,_,r,_⟩ | ⟨_,r,_⟩<;>(have:=r.ln;omega)
  walk_at"e";refine⟨wo,rfl,T1,1,A,M,0,[],l.w,by decide,l.j,l.aw,p.kw.ok hb (by decide),trivial,λz=>absurd z Zk4,λe N hst H1 T2 A1 a st1 j1 aw1 ev1 _=>?_⟩;obtain⟨bl,nbl,ea,ebl⟩:=ev1;have pN:=p.step hst;obtain⟨hbn,hhn⟩:=Zim hst;obtain⟨Gj,sp,rm,fin⟩:∃cT,ZF ks lies e cT/\RelM N cT/\((e.word≠"end"/\Rnd N ks/\mu N+(i+1)<=96)\/(e.word="end"/\N.sw.phase="rest"/\N.sw.grey=[])):=by
   rcases inv with ⟨rfl,z,hk,rl,_⟩ | ⟨r,rm,hmu,_⟩
   ·obtain⟨cT,a1,a2,a3,a4,a5⟩:=Zby p hk rl z hst;exact⟨cT,a1,a3,.inl ⟨a2,a4,by omega⟩⟩
   ·obtain⟨cT,a1,a2,a3⟩:=r.step p rm hst;refine⟨cT,a1,a2,?_⟩;rcases a3 with ⟨b1,b2,b3⟩ | b
    ·exact .inl ⟨b1,b2,by omega⟩
    ·exact .inr b
  have hts:N.sw.turn=M0.sw.turn+1/\N.sw.sense=1 - M0.sw.sense:=by
   obtain⟨t1,t2⟩:=Zik hst;rcases inv with ⟨_,z,_,_,a,b⟩ | ⟨r,_,_,a,b⟩
   ·rw[(t1 z).1,(t1 z).2,a,b];exact⟨rfl,rfl⟩
   ·have z:M.sw.phase≠"rest":=λz=>by rcases r.ph with y | y<;>exact absurd (z.symm.trans y) (by decide)
    rw[(t2 z).1,(t2 z).2,a,b];exact⟨rfl,rfl⟩
  obtain⟨th,eth⟩:=sp.th;have nts:=ZX p (by decide) hst sp.nl;rw[eth]at ea;have l1:=l.deed st1 j1 aw1.1;have k1:=kp.trans (Kp.stp st1 ⟨by decide,by decide⟩);have Zqt:HoD H1 hd ks:=by
   obtain⟨kvs,a,b⟩:=hod;exact⟨kvs,k1.k _ _ a (.inr (by omega)),b⟩
  have nra:Nr ps a:=l1.l.nrT (λxs z=>by rw[ea]at z;cases z);have nrb:Nr ps bl:=l.l.nr nbl;have nrd:Nr ps hd:=l1.l.nrT (λxs z=>by obtain⟨kvs,a,_⟩:=Zqt;rw[a]at z;cases z);walk_at"e";refine⟨ll,hd,a,rfl,T2,ps,lies,ks,e,Gj,bl,th,l1.w,l1.l,Zqt,nrd,eth,ea,nra,ebl,nrb,nts,by omega,sp,λH2 ps2 st2 fl2 lw2=>?_⟩;have l2:=l1.lie st2 lw2;have k2:=k1.trans (Kp.stp st2 ⟨by decide,by decide⟩);have ea2:H2 a=some (.tup [.str e.word,.int th,.ref bl]):=fl2 _ _ ea nra (λz=>by rw[z,l1.l.ol]at ea;cases ea);walk_at"e";refine⟨wo,ll,1,rfl,T2,A1,N,ps2,Gj,l2.j,l2.aw,l2.l,pN.fx.fn,Nat.le_trans pN.kw.cl (by decide),rm.imp (λi c k _ z=>by rw[if_neg (by decide)];exact z),λH3 s3=>?_⟩;have l3:=l2.same s3;have k3:=k2.trans (Kp.same s3);have l3':L4 X H3 T2 A1 N wo ll ls ps2 Gj N.born:=by rw[hbn];exact l3
  walk_at"e";refine⟨a,_,0,_,rfl,rfl,qZ.of (s3 _ _ ea2),rfl,?_⟩;walk_at"e";refine pU (λz=>?_) (λz=>?_)
  ·rcases fin with ⟨y,_⟩ | ⟨_,y,yg⟩
   ·exact absurd z y
   walk_at"e";exact q H3 T2 N Gj ⟨A1,ps2,l3'⟩ pN rm y (hhn.trans hh) ⟨hts.1,hts.2,yg⟩ k3
  ·rcases fin with ⟨_,y1,y2⟩ | ⟨y,_⟩
   ·walk_at"e";exact⟨_,_,T2,N,Gj,rfl,⟨A1,ps2,l3'⟩,pN,k3,hhn.trans hh,.inr ⟨y1,rm,y2,hts⟩⟩
   ·exact absurd y z
 ·rintro σ Hx ⟨v3,v4,T1,M,lies,rfl,st,p,kp,hh,inv⟩;rcases inv with ⟨z,_⟩ | ⟨_,_,z,_⟩
  ·exact absurd z (by decide)
  ·have z:mu M+99<=96:=z;omega
end
theorem Ng{M:Wm}{h k:Nat}{x:Option Int}{m:Str×List (Option Int)}(hm:M.hands[h]? =some m):({ M with hands:=M.hands.set h (m.1,m.2.set k x) }:Wm)=setSlot M h k x:=by
 have:=nO (M:=M) (k:=k) (x:=x) hm;unfold setSlot at this ⊢;rw[<- this]
section
variable {M:Wm}{hs:RZ}{k nh i:Nat}{w0:Int}{lies:Lies}{ks:List Int}
theorem Fx.slot(p:Fx M k)(h s:Nat)(x:Option Int):Fx (setSlot M h s x) k:=by
 refine⟨p.fn,p.nm,p.rm,p.us,λm hm=>?_,?_,p.lz⟩
 ·obtain⟨j,hj⟩:=List.getElem?_of_mem hm;have hj:(M.hands.modify h λm=>(m.1,m.2.set s x))[j]? =some m:=hj;rw[List.getElem?_modify]at hj;cases e:M.hands[j]? with
  | none=>rw[e]at hj;cases hj
  | some m0=>
   rw[e]at hj;have h0:=p.h3 m0 (List.mem_of_getElem? e);have hj:=Option.some.inj hj;rw[<- hj];split
   ·show(m0.2.set s x).length=3;rw[List.length_set];exact h0
   ·exact h0
 ·have:(setSlot M h s x).hands.length=M.hands.length:=by
   show(M.hands.modify h _).length=_;rw[List.length_modify]
  rw[this];exact p.h5
theorem Bs.slot(p:Bs M hs k w0)(h s:Nat)(x:Option Int):Bs (setSlot M h s x) hs k w0:=⟨p.kw.slot h s x,p.tb.sb (Sb.slot M h s x),p.fx.slot h s x,p.ww⟩
structure Hi(M:Wm)(nh:Nat)(ks:List Int)(i:Nat):Prop where
 a:∀(h s:Nat) m x,M.hands[h]? =some m->m.2[s]? =some (some x)->x∈ks/\x=((s * nh+h:Nat):Int)
 b:∀x∈ks,∃k:Nat,x=(k:Int)/\k<i/\(∃m,M.hands[k % nh]? =some m/\m.2[k / nh]? =some (some x))/\∃c,cellAt M x=some c
theorem Hi.mono(p:Hi M nh ks i):Hi M nh ks (i+1):=⟨p.a,λx hx=>let ⟨k,e,l,r⟩:=p.b x hx;⟨k,e,by omega,r⟩⟩
theorem Hi.set(p:Hi M nh ks i){m:Str×List (Option Int)}{c:Ce}(hn:0<nh)(hm:M.hands[i % nh]? =some m)(hs:i / nh<m.2.length)(hc:cellAt M i=some c):Hi (setSlot M (i % nh) (i / nh) (some (i:Int))) nh (ks++[(i:Int)]) (i+1):=by
 have dm:=Nat.div_add_mod i nh;have dm':i / nh * nh+i % nh=i:=by rw[Nat.mul_comm];exact dm
 have hl:=(cV hm).1;refine⟨λh s m' x h1 h2=>?_,λx hx=>?_⟩
 ·rw[nO hm]at h1
  by_cases e:i % nh=h
  ·subst e;rw[List.getElem?_set_self hl]at h1;cases h1
   by_cases e2:i / nh=s
   ·subst e2;have h2:(m.2.set (i / nh) (some (i:Int)))[i / nh]? =some (some x):=h2;rw[List.getElem?_set_self hs]at h2;cases h2;exact⟨by simp,by rw[dm']⟩
   ·have h2:(m.2.set (i / nh) (some (i:Int)))[s]? =some (some x):=h2;rw[List.getElem?_set_ne e2]at h2;obtain⟨a1,a2⟩:=p.a _ _ m x hm h2;exact⟨by simp[a1],a2⟩
  ·rw[List.getElem?_set_ne e]at h1;obtain⟨a1,a2⟩:=p.a _ _ m' x h1 h2;exact⟨by simp[a1],a2⟩
 ·rcases List.mem_append.mp hx with hx | hx
  ·obtain⟨j,e,lt,⟨m',g1,g2⟩,cc⟩:=p.b x hx;refine⟨j,e,by omega,?_,cc⟩;rw[nO hm]
   by_cases e1:i % nh=j % nh
   ·have e2:i / nh≠j / nh:=λz=>by
     have:=Nat.div_add_mod j nh;rw[<- z,<- e1,dm]at this;omega
    rw[<- e1]at g1;rw[hm]at g1;cases g1;refine⟨(m.1,m.2.set (i / nh) (some (i:Int))),?_,?_⟩
    ·rw[<- e1,List.getElem?_set_self hl]
    ·show(m.2.set (i / nh) (some (i:Int)))[j / nh]? =_;rw[List.getElem?_set_ne e2];exact g2
   ·exact⟨m',by rw[List.getElem?_set_ne e1];exact g1,g2⟩
  ·rw[List.mem_singleton.mp hx];refine⟨i,rfl,by omega,⟨(m.1,m.2.set (i / nh) (some (i:Int))),?_,?_⟩,c,hc⟩
   ·rw[nO hm,List.getElem?_set_self hl]
   ·show(m.2.set (i / nh) (some (i:Int)))[i / nh]? =_;rw[List.getElem?_set_self hs]
theorem Hi.hk(p:Hi M nh ks i):Hk M ks:=by
 refine⟨λx=>⟨λ⟨m,hm,hx⟩=>?_,λhx=>?_⟩,λx hx=>(p.b x hx).choose_spec.2.2.2⟩
 ·obtain⟨h,hh⟩:=List.getElem?_of_mem hm;obtain⟨s,hs⟩:=List.getElem?_of_mem hx;exact(p.a h s m x hh hs).1
 ·obtain⟨k,_,_,⟨m,g1,g2⟩,_⟩:=p.b x hx;exact⟨m,List.mem_of_getElem? g1,List.mem_of_getElem? g2⟩
theorem Hi.zero(h:∀m∈M.hands,∀x∈m.2,x=none):Hi M nh [] 0:=⟨λh' s m x h1 h2=>absurd (h m (List.mem_of_getElem? h1) _ (List.mem_of_getElem? h2)) (by simp),λx hx=>by cases hx⟩
end
def Mr(X:Cs):Sp:=λvs H Q E=>∃wo ll nh c,vs=[.ref wo,.ref ll,.int nh,.int c]/\∃T ls M lies hs w0,Hl X H T wo ll ls M lies/\Bs M hs 12 w0/\(M.hands.length:Int)=nh/\(∀m∈M.hands,∀x∈m.2,x=none)/\jT (λ_ _ _=>True) M lies/\M.sw.phase="rest"/\
 ∀H' T' M' hd ks,Hl X H' T' wo ll ls M' lies->Bs M' hs 12 w0->Hk M' ks->jT (λ_ _ _=>True) M' lies->M'.sw=M.sw->(M'.hands.length:Int)=nh->HoD H' hd ks->(T' hd).1=6->Kp H H' T T'->Q (.ref hd) H'
section
variable {K:aC}{X:Cs}{H:Hp}{Q:VK}{E:XK}{n:St->Hp->Prop}{bk ct:St->Hp->Prop}
theorem WL{wo ll:Addr}{nh c:Int}(Tx:qU K X)(q:∃T ls M lies hs w0,Hl X H T wo ll ls M lies/\Bs M hs 12 w0/\(M.hands.length:Int)=nh/\(∀m∈M.hands,∀x∈m.2,x=none)/\jT (λ_ _ _=>True) M lies/\M.sw.phase="rest"/\
 ∀H' T' M' hd ks,Hl X H' T' wo ll ls M' lies->Bs M' hs 12 w0->Hk M' ks->jT (λ_ _ _=>True) M' lies->M'.sw=M.sw->(M'.hands.length:Int)=nh->HoD H' hd ks->(T' hd).1=6->Kp H H' T T'->Q (.ref hd) H'):
  yc K q8 ⟨n,Q,bk,ct⟩ [some (.ref wo),some (.ref ll),some (.int nh),some (.int c),none,none,none] H:=by
 obtain⟨T,ls,M0,lies,hs,w0,⟨A0,ps,l0⟩,p0,rfl,he,rl0,ph0,q⟩:=q;have ln0:=rl0.ln;have cl0:=p0.kw.cl;have h5:=p0.fx.h5;have hn:(0:Int)<(M0.hands.length:Int):=by omega
 unfold yc;walk_at"e";intro d nd;have l1:=l0.tag (o:=.dK []) (v:=(6,1)) nd;have k1:Kp H (upd H d (.dK [])) T (fG T d (6,1)):=Kp.tag nd (aL nd _);have t1:fG T d (6,1) d=(6,1):=eX;have g1:upd H d (.dK []) d=some (.dK []):=ao;generalize upd H d (.dK [])=H1 at l1 k1 g1 ⊢;generalize fG T d (6,1)=T1 at l1 k1 t1;walk_at"e";refine iI (cR.of l1.l.ol) ?_;walk_at"e";rw[aU,l1.l.ln];refine⟨_,rfl,by omega,by omega,?_⟩;rw[show((lies.length:Int)).toNat=lies.length from by omega];refine forR (λi σ Hx=>∃(v5 v6:Option V) (Tx:Tg) (A:Wa) (M:Wm) (ks:List Int),σ=[some (.ref wo),some (.ref ll),some (.int (M0.hands.length:Int)),some (.int c),some (.ref d),v5,v6]/\L4 X Hx Tx A M wo ll ls ps lies M.born/\Bs M hs 12 w0/\M.hands.length=M0.hands.length/\jT (λ_ _ _=>True) M lies/\M.sw=M0.sw/\Hi M M0.hands.length ks i/\(∃kvs:List (Key×V),Hx d=some (.dK kvs)/\kvs.length<=i/\∀j:Int,(nJ kvs (.inl j)).isSome=decide (j∈ks))/\Tx d=(6,1)/\Kp H Hx T Tx)
  ⟨none,none,T1,A0,M0,[],rfl,l1,p0,rfl,rl0,rfl,Hi.zero he,⟨[],g1,Nat.le_refl _,λj=>rfl⟩,t1,k1⟩ ?_ ?_
 ·rintro i σ Hx hi ⟨v5,v6,Ti,A,M,ks,rfl,l,p,hh,rl,ph,hI,⟨kvs,kd,kl,kv⟩,td,kp⟩;have e0:(0:Int)+(i:Int)=i:=by omega
  rw[e0];have stay:∀v5 v6:Option V,∃(v5' v6':Option V) (Tx:Tg) (A:Wa) (M:Wm) (ks:List Int),([some (.ref wo),some (.ref ll),some (.int (M0.hands.length:Int)),some (.int c),some (.ref d),v5,v6]:St)=[some (.ref wo),some (.ref ll),some (.int (M0.hands.length:Int)),some (.int c),some (.ref d),v5',v6']/\L4 X Hx Tx A M wo ll ls ps lies M.born/\Bs M hs 12 w0/\M.hands.length=M0.hands.length/\jT (λ_ _ _=>True) M lies/\M.sw=M0.sw/\Hi M M0.hands.length ks (i+1)/\(∃kvs:List (Key×V),Hx d=some (.dK kvs)/\kvs.length<=i+1/\∀j:Int,(nJ kvs (.inl j)).isSome=decide (j∈ks))/\Tx d=(6,1)/\Kp H Hx T Tx:=λv5 v6=>
   ⟨v5,v6,Ti,A,M,ks,rfl,l,p,hh,rl,ph,hI.mono,⟨kvs,kd,by omega,kv⟩,td,kp⟩
  walk_at"e";rcases l.l.get hi with ⟨h3,h4⟩ | ⟨m,pr,h3,_,h5',_,h7⟩
  ·refine dz (v:=.non) (cR.of l.l.ol) (dj h4) ?_;walk_at"e";exact stay _ _
  ·refine dz (v:=.ref pr) (cR.of l.l.ol) (dj h5') ?_;walk_at"e";refine i_I ⟨by omega,by omega⟩ ?_;walk_at"e";refine pU (λz1=>?_) (λ_=>?_)
   ·walk_at"e";refine⟨_,_,rfl,by omega,by omega,λz hz _=>?_⟩;walk_at"e";refine pU (λz2=>?_) (λ_=>?_)
    ·have em:(i:Int) % (M0.hands.length:Int)=((i % M0.hands.length:Nat):Int):=(Int.natCast_emod i _).symm;have ed:(i:Int) / (M0.hands.length:Int)=((i / M0.hands.length:Nat):Int):=(Int.natCast_ediv i _).symm;have hlt:i % M0.hands.length<M.hands.length:=by rw[hh];exact Nat.mod_lt _ (by omega)
     obtain⟨m1,hm⟩:∃m,M.hands[i % M0.hands.length]? =some m:=⟨_,cJ hlt⟩;have hml:=p.fx.h3 m1 (List.mem_of_getElem? hm);have hs3:i / M0.hands.length<m1.2.length:=by rw[ed]at z1;omega
     obtain⟨cc,hcc,_⟩:=rl.got h3;obtain⟨d1,ow⟩:=l.j.jb.ow;rw[l.aw]at ow;have Zsr:i % M0.hands.length<A.hs.length:=by rw[l.j.jd.lh];exact hlt
     obtain⟨pp,hpp⟩:∃pp,A.hs[i % M0.hands.length]? =some pp:=⟨_,cJ Zsr⟩;have hd:=l.j.jd.hd _ pp m1 hpp hm;obtain⟨dx,o1⟩:=hd.o1;walk_at"e";refine aD ow Tx.cW Tx.nWd eO ?_;walk_at"e";rw[em];refine dz (cR.of l.j.jb.on) (dj (v:=.ref pp.1) (by rw[dB,hpp];rfl)) ?_;refine aD o1 Tx.cD Tx.nDs pL ?_;walk_at"e";refine i_I ⟨by omega,by omega⟩ ?_;walk_at"e";rw[ed];refine⟨pp.2,_,_,i / M0.hands.length,rfl,rfl,hd.o2,yF (by rw[aU];exact hs3),?_⟩;obtain⟨st2,j2⟩:=l.j.slot l.w (by decide) (k:=i / M0.hands.length) (x:=some (i:Int)) hpp hm;rw[show V.int (i:Int)=oV (some (i:Int))from rfl];generalize upd Hx pp.2 (.lst ((m1.2.map oV).set (i / M0.hands.length) (oV (some (i:Int)))))=H2 at st2 j2 ⊢;rw[Ng hm]at j2;have l2:=l.deed st2 j2 l.aw;have kd2:=st2.kp _ _ kd (by rw[td];decide);rw[show oV (some (i:Int))=V.int (i:Int)from rfl];walk_at"e";refine⟨d,_,rfl,Zc7.k (k:=Sum.inl (i:Int)) kd2 (by rw[sizeLine_eq];omega),?_⟩;have st3:fj 6 H2 (upd H2 d (.dK (putK kvs (Sum.inl (i:Int)) (.bl true)))) Ti Ti:=fj.upd l2.w kd2 (by rw[td]);have l3:=l2.six st3;have kp3:Kp H (upd H2 d (.dK (putK kvs (Sum.inl (i:Int)) (.bl true)))) T Ti:=by
      have k2:=kp.trans (Kp.stp st2 ⟨by decide,by decide⟩);refine⟨λb o hb tb=>?_,k2.tg,λb o hb=>?_⟩
      ·rw[aA (aB hb nd)];exact k2.k b o hb tb
      ·rw[aA (aB hb nd)];exact k2.al b o hb
     refine⟨_,_,Ti,A,_,ks++[(i:Int)],rfl,l3,p.slot _ _ _,?_,⟨rl.ln,rl.at_⟩,ph,hI.set (by omega) hm hs3 hcc,⟨_,ao,?_,λj=>?_⟩,td,kp3⟩
     ·show(M.hands.modify _ _).length=_;rw[List.length_modify];exact hh
     ·unfold putK;split
      ·rw[aU];omega
      ·rw[List.length_append];show _+1<=_;omega
     ·rw[Zet]
      by_cases e:(Sum.inl j:Key)=Sum.inl (i:Int)
      ·have e':j=(i:Int):=Sum.inl.inj e;rw[if_pos e];simp[e']
      ·rw[if_neg e,kv];have e':j≠(i:Int):=λz=>e (by rw[z]);simp[e']
    ·walk_at"e";exact stay _ _
   ·walk_at"e";exact stay _ _
 ·rintro σ Hx ⟨v5,v6,Ti,A,M,ks,rfl,l,p,hh,rl,ph,hI,⟨kvs,kd,kl,kv⟩,td,kp⟩;walk_at"e";exact q Hx Ti M d ks ⟨A,ps,l⟩ p hI.hk rl ph (by rw[hh]) ⟨kvs,kd,by omega,kv⟩ (by rw[td]) kp
end
structure Ct(M:Wm)(hs:RZ)(w0:Int)(nh:Nat)(tn se:Int)(lies:Lies):Prop where
 bs:Bs M hs 12 w0
 hl:M.hands.length=nh
 rl:jT (λ_ _ _=>True) M lies
 ph:M.sw.phase="rest"
 tn:M.sw.turn=tn
 se:M.sw.sense=se
 gr:M.sw.grey=[]
theorem Ct.slot{M:Wm}{hs:RZ}{w0:Int}{nh:Nat}{tn se:Int}{lies:Lies}(p:Ct M hs w0 nh tn se lies)(h s:Nat)(x:Option Int):Ct (setSlot M h s x) hs w0 nh tn se lies:=
 ⟨p.bs.slot h s x,by show(M.hands.modify _ _).length=_;rw[List.length_modify];exact p.hl,⟨p.rl.ln,p.rl.at_⟩,p.ph,p.tn,p.se,p.gr⟩
def Emp(M:Wm)(h s:Nat):Prop:=∀(h':Nat) m,M.hands[h']? =some m->(h'<h->∀x∈m.2,x=none)/\(h'=h->∀s':Nat,s'<s->m.2[s']? =some none)
theorem Emp.set{M:Wm}{h s:Nat}{m:Str×List (Option Int)}(e:Emp M h s)(hm:M.hands[h]? =some m)(hs:s<m.2.length):Emp (setSlot M h s none) h (s+1):=by
 intro h' m' hm';rw[nO hm]at hm';have hl:=(cV hm).1
 by_cases z:h=h'
 ·subst z;rw[List.getElem?_set_self hl]at hm';cases hm';refine⟨λy=>absurd y (Nat.lt_irrefl _),λ_ s' hs'=>?_⟩;show(m.2.set s none)[s']? =some none
  by_cases y:s=s'
  ·subst y;rw[List.getElem?_set_self hs]
  ·rw[List.getElem?_set_ne y];exact(e h m hm).2 rfl s' (by omega)
 ·rw[List.getElem?_set_ne z]at hm';exact⟨(e h' m' hm').1,λy=>absurd y.symm z⟩
theorem Emp.next{M:Wm}{h:Nat}{m:Str×List (Option Int)}(e:Emp M h m.2.length)(hm:M.hands[h]? =some m):Emp M (h+1) 0:=by
 intro h' m' hm';refine⟨λy x hx=>?_,λ_ s' hs'=>absurd hs' (Nat.not_lt_zero _)⟩
 by_cases z:h'=h
 ·subst z;rw[hm]at hm';cases hm';obtain⟨k,hk⟩:=List.getElem?_of_mem hx;have:=(e h' m hm).2 rfl k (cV hk).1;rw[hk]at this;exact Option.some.inj this
 ·exact(e h' m' hm').1 (by omega) x hx
theorem Emp.zero(M:Wm):Emp M 0 0:=λh' m hm=>⟨λy=>absurd y (Nat.not_lt_zero _),λ_ s' y=>absurd y (Nat.not_lt_zero _)⟩
def Cl(M:Wm):Prop:=∀m∈M.hands,∀x∈m.2,x=none
theorem Emp.cl{M:Wm}(e:Emp M M.hands.length 0):Cl M:=λm hm x hx=>by
 obtain⟨h,hh⟩:=List.getElem?_of_mem hm;exact(e h m hh).1 (cV hh).1 x hx
def BJ(X:Cs):Sp:=λvs H Q E=>∃wo ll nh c,vs=[.ref wo,.ref ll,.int nh,.int c]/\∃(T:Tg) (ls:Addr) (M:Wm) (lies:Lies) (hs:RZ) (w0:Int) (n:Nat),nh=(n:Int)/\Hl X H T wo ll ls M lies/\Ct M hs w0 n 0 0 lies/\HsB hs/\Cl M/\
 ∀H' T' M' cT,Hl X H' T' wo ll ls M' cT->Ct M' hs w0 n (c / 40 % 3) (c / 40 % 3 % 2) cT->jT (λ_ _ k=>k="pale") M' cT->Kp H H' T T'->Q (.bl true) H'
section
variable {K:aC}{X:Cs}{H:Hp}{Q:VK}{E:XK}{n:St->Hp->Prop}{bk ct:St->Hp->Prop}
theorem Pk{wo ll:Addr}{nh c:Int}(Tx:qU K X)(q:∃(T:Tg) (ls:Addr) (M:Wm) (lies:Lies) (hs:RZ) (w0:Int) (n:Nat),nh=(n:Int)/\Hl X H T wo ll ls M lies/\Ct M hs w0 n 0 0 lies/\HsB hs/\Cl M/\
 ∀H' T' M' cT,Hl X H' T' wo ll ls M' cT->Ct M' hs w0 n (c / 40 % 3) (c / 40 % 3 % 2) cT->jT (λ_ _ k=>k="pale") M' cT->Kp H H' T T'->Q (.bl true) H'):
  tV K (Mr X) (Hq X) qH ⟨n,Q,bk,ct⟩ [some (.ref wo),some (.ref ll),some (.int nh),some (.int c),none,none,none,none] H:=by
 obtain⟨T,ls,M0,Zh2,hs,w0,nn,rfl,st0,c0,hb,cl0,q⟩:=q;unfold tV;walk_at"e";have r0:=Int.emod_nonneg (c / 40) (show(3:Int)≠0 by decide);have r1:=Int.emod_lt_of_pos (c / 40) (show(0:Int)<3 by decide);obtain⟨r,er⟩:=toN r0;rw[er]at q r1 ⊢;refine⟨_,rfl,by omega,by omega,?_⟩;rw[show((r:Int)).toNat=r from by omega];refine forR (λi σ Hx=>∃(v4 v5 v6 v7:Option V) (T1:Tg) (M:Wm) (lies:Lies),σ=[some (.ref wo),some (.ref ll),some (.int (nn:Int)),some (.int c),v4,v5,v6,v7]/\Hl X Hx T1 wo ll ls M lies/\Ct M hs w0 nn i ((i:Int) % 2) lies/\Cl M/\Kp H Hx T T1) ⟨none,none,none,none,T,M0,Zh2,rfl,st0,c0,cl0,Kp.same (bC.refl _)⟩ ?_ ?_
 ·rintro i σ Hx hi ⟨v4,v5,v6,v7,T1,M,lies,rfl,st,ctx,cl,kp⟩;walk_at"e";refine⟨wo,ll,_,_,rfl,T1,ls,M,lies,hs,w0,st,ctx.bs,by rw[ctx.hl],cl,ctx.rl,ctx.ph,λH1 T2 M1 hd ks st1 b1 hk1 rl1 sw1 hl1 lq td1 kp1=>?_⟩;walk_at"e";refine⟨wo,ll,hd,rfl,T2,ls,M1,lies,ks,hs,w0,st1,lq,td1,b1,hb,hk1,rl1,by rw[sw1];exact ctx.ph,λH3 T3 M3 CJ st3 b3 rm3 ph3 hh3 ts3 kp3=>?_⟩;obtain⟨A,ps,l3⟩:=st3;have Zrw:=kp.trans (kp1.trans kp3);have ct3:Ct M3 hs w0 nn ((i+1:Nat):Int) (((i+1:Nat):Int) % 2) CJ:=by
   refine⟨b3,by rw[hh3];omega,rm3.imp λ_ _ _ _ _=>trivial,ph3,?_,?_,ts3.2.2⟩
   ·rw[ts3.1,sw1,ctx.tn];omega
   ·rw[ts3.2.1,sw1,ctx.se];omega
  obtain⟨d1,ow⟩:=l3.j.jb.ow;rw[l3.aw]at ow;walk_at"e";refine aD ow Tx.cW Tx.nWd eO ?_;walk_at"e";refine⟨_,rfl,⟨_,cR.of l3.j.jb.on⟩,forL (A.hs.map λp=>V.ref p.1) (λh σ Hy=>∃(v5 v6 v7:Option V) (M:Wm),σ=[some (.ref wo),some (.ref ll),some (.int (nn:Int)),some (.int c),some (.int (0+(i:Int))),v5,v6,v7]/\L4 X Hy T3 A M wo ll ls ps CJ M.born/\Ct M hs w0 nn ((i+1:Nat):Int) (((i+1:Nat):Int) % 2) CJ/\Emp M h 0/\Kp H Hy T T3) ⟨_,_,_,M3,rfl,l3,ct3,Emp.zero M3,Zrw⟩ (λh σ Hy _ ⟨_,_,_,M,_,l,_⟩=>cR.of l.j.jb.on) ?_ ?_⟩
  ·rintro h v σ Hy hv ⟨v5,v6,v7,M4,rfl,l4,ct4,em4,kp4⟩;rw[dB]at hv;obtain⟨pp,hpp,rfl⟩:=Option.map_eq_some_iff.mp hv;have hhl:h<M4.hands.length:=by rw[<- l4.j.jd.lh];exact(cV hpp).1
   have hm:=cJ hhl;have hd4:=l4.j.jd.hd h pp _ hpp hm;have hm3:=ct4.bs.fx.h3 _ (List.getElem_mem hhl);obtain⟨dx,o1⟩:=hd4.o1;walk_at"e";refine aD o1 Tx.cD Tx.nDs pL ?_;walk_at"e";refine iI (cR.of hd4.o2) ?_;walk_at"e";rw[aU,hm3];refine⟨_,rfl,by decide,by decide,forR (λs σ Hz=>∃(v7:Option V) (M:Wm),σ=[some (.ref wo),some (.ref ll),some (.int (nn:Int)),some (.int c),some (.int (0+(i:Int))),some (.ref pp.1),some (.ref pp.2),v7]/\L4 X Hz T3 A M wo ll ls ps CJ M.born/\Ct M hs w0 nn ((i+1:Nat):Int) (((i+1:Nat):Int) % 2) CJ/\Emp M h s/\M.hands.length=M4.hands.length/\Kp H Hz T T3) ⟨_,M4,rfl,l4,ct4,em4,rfl,kp4⟩ ?_ ?_⟩
   ·rintro s σ Hz hs3 ⟨v7,M5,rfl,l5,ct5,em5,hl5,kp5⟩;have hs3:s<3:=hs3;have Zhi:h<M5.hands.length:=by rw[hl5];exact hhl
    have hm5:=cJ Zhi;have hd5:=l5.j.jd.hd h pp _ hpp hm5;have h35:=ct5.bs.fx.h3 _ (List.getElem_mem Zhi);rw[show(0:Int)+(s:Int)=s by omega];walk_at"e";refine⟨pp.2,_,_,s,rfl,rfl,hd5.o2,yF (by rw[aU,h35];exact hs3),?_⟩;obtain⟨st6,j6⟩:=l5.j.slot l5.w (by decide) (k:=s) (x:=none) hpp hm5;rw[show V.non=oV none from rfl];rw[Ng hm5]at j6;have l6:=l5.deed st6 j6 l5.aw;walk_at"e";refine⟨_,_,rfl,l6,ct5.slot h s none,em5.set hm5 (by rw[h35];exact hs3),?_,kp5.trans (Kp.stp st6 ⟨by decide,by decide⟩)⟩;show(M5.hands.modify _ _).length=_;rw[List.length_modify];exact hl5
   ·rintro σ Hz ⟨v7,M5,rfl,l5,ct5,em5,hl5,kp5⟩;have Zhi:h<M5.hands.length:=by rw[hl5];exact hhl
    have hm5:=cJ Zhi;have h35:=ct5.bs.fx.h3 _ (List.getElem_mem Zhi);refine⟨_,_,_,M5,rfl,l5,ct5,Emp.next (m:=M5.hands[h]) (by rw[h35];exact em5) hm5,kp5⟩
  ·rintro σ Hy ⟨v5,v6,v7,M4,rfl,l4,ct4,em4,kp4⟩;rw[aU,l4.j.jd.lh]at em4;exact⟨_,_,_,_,T3,M4,CJ,rfl,⟨A,ps,l4⟩,ct4,em4.cl,kp4⟩
 ·rintro σ Hx ⟨v4,v5,v6,v7,T1,M,lies,rfl,⟨A,ps,l⟩,ctx,cl,kp⟩;have ln:=ctx.rl.ln;have Zyw:=ctx.bs.kw.cl;walk_at"e";refine Av ?_;walk_at"e";refine⟨ll,rfl,⟨_,cR.of l.l.ol⟩,?_⟩;refine Gk (cR.of l.l.ol) (λi=>((lies[i]?).join).map λx=>V.int x.b) (by rw[aU,l.l.ln];omega) (λi x hx=>?_) λp hp=>?_
  ·have hi:i<lies.length:=by
    have:=(cV hx).1;rw[aU,l.l.ln]at this;exact this
   rcases l.l.get hi with ⟨h3,h4⟩ | ⟨m,pr,h3,_,h5,_,h7⟩
   ·rw[h4]at hx;cases hx;refine⟨λq hq=>?_,λv q hv hq=>?_⟩
    ·rw[h3]at hq;walk_at"e";exact hq
    ·rw[h3]at hv;cases hv
   ·rw[h5]at hx;cases hx;refine⟨λq hq=>?_,λv q hv hq=>?_⟩
    ·rw[h3]at hq;walk_at"e";exact hq
    ·rw[h3]at hv;cases hv;walk_at"e";refine dz (v:=.int m.b) (cR.of h7) (fQ (by decide) rfl) ?_;exact hq
  have e:(List.range (ps.map aV).length).filterMap (λi=>((lies[i]?).join).map λx=>V.int x.b)=(GX lies).map V.int:=by
   rw[aU,l.l.ln];unfold GX;rw[<- wH (λo:Option ZJ=>o.map (·.b)) lies,List.map_filterMap];refine nQ λi _=>?_;cases lies[i]? with
   | none=>rfl
   | some o=>cases o<;>rfl
  rw[e];generalize zz:upd Hx p _=H2;obtain⟨s2,c2⟩:=nwO hp zz;have np:=l.l.nr hp;have l2:=l.same s2;walk_at"e";refine⟨ll,p,_,rfl,T1,ps,lies,GX lies,l2.w,l2.l,c2,np,by omega,λH3 st3 _ lw3=>?_⟩;walk_at"e";have l3:=l2.lie st3 lw3;have rl3:jT (λ_ _ k=>k=("pale":Str)) M (fu (GX lies) "pale" lies):=ctx.rl.move (f:=λ_ c=>c) rfl (λi=>by cases cellAt M i<;>rfl) (λi c=>⟨rfl,rfl,rfl⟩) (λi c k hc _=>if_pos (ctx.rl.bs hc));exact q H3 T1 M _ ⟨A,ps,l3⟩ ⟨ctx.bs,ctx.hl,rl3.imp λ_ _ _ _ _=>trivial,ctx.ph,ctx.tn,ctx.se,ctx.gr⟩ rl3 ((kp.trans (Kp.same s2)).trans (Kp.stp st3 ⟨by decide,by decide⟩))
end
def Pt(th:Int)(M:Wm):Int->Ce->Str->Prop:=λi c k=>if th=0 then k≠"grey" else k=ie M i c
structure Fp(M:Wm)(hs:RZ)(k:Nat)(w0 th:Int)(lies:Lies):Prop where
 bs:Bs M hs k w0
 rl:jT (Pt th M) M lies
 ph:M.sw.phase=if th=0 then("rest":Str)else "walk"
section
variable {M N:Wm}{hs:RZ}{k:Nat}{w0 th:Int}{lies:Lies}{P P':Int->Ce->Str->Prop}
theorem XD{α:Type}(l:List (Option α))(x:α)(i:Nat):((lY l x)[i]?).join=if i=dX l then some x else(l[i]?).join:=by
 by_cases e:i=dX l
 ·rw[if_pos e,e,Lr];rfl
 ·rw[if_neg e];unfold lY;split
  ·rw[List.getElem?_set_ne (λz=>e z.symm)]
  ·rename_i z
   have hle:=Mi l
   by_cases hi:i<l.length
   ·rw[List.getElem?_append_left hi]
   ·rw[List.getElem?_eq_none (by rw[List.length_append];show l.length+1<=i;omega),List.getElem?_eq_none (by omega)]
theorem jT.fst(r:jT P M lies):dX M.cells=dX lies:=V8 _ _ r.ln λi x y e1 e2=>by
 have hi:=(cV e2).1;have h:=r.at_ i hi;rw[gU,e1,e2]at h;cases x with
 | none=>
  cases y with
  | none=>exact⟨λ_=>rfl,λ_=>rfl⟩
  | some y=>exact h.elim
 | some x=>
  cases y with
  | none=>exact h.elim
  | some y=>exact⟨(λz=>by cases z),(λz=>by cases z)⟩
theorem jT.put(r:jT P M lies){c:Ce}{x:ZJ}(hN:N.cells=lY M.cells c)(hx:x.b=c.birth/\x.u=c.bulk/\x.m=(c.fl.length:Int)/\P' (dX M.cells:Nat) c x.k)(hp:∀i c k,cellAt M i=some c->P i c k->P' i c k):jT P' N (lY lies x):=by
 have hf:=r.fst;refine⟨by rw[hN];exact XC r.ln hf,λi hi=>?_⟩;rw[gU,hN,XD,XD,<- hf]
 by_cases e:i=dX M.cells
 ·rw[if_pos e,if_pos e,e];exact hx
 ·rw[if_neg e,if_neg e]
  by_cases hl:i<lies.length
  ·have:=(r.imp hp).at_ i hl;rw[gU]at this;exact this
  ·rw[List.getElem?_eq_none (by rw[r.ln];omega),List.getElem?_eq_none (by omega)]
   trivial
theorem jT.del(r:jT P M lies){p:Nat}(hN:N.cells=M.cells.set p none)(hp:∀i c k,i≠(p:Int)->cellAt M i=some c->P i c k->P' i c k):jT P' N (lies.set p none):=by
 refine⟨by rw[hN,List.length_set,List.length_set];exact r.ln,λi hi=>?_⟩;rw[List.length_set]at hi;rw[gU,hN]
 by_cases e:p=i
 ·subst e;rw[List.getElem?_set_self (by rw[r.ln];exact hi),List.getElem?_set_self hi]
  trivial
 ·rw[List.getElem?_set_ne e,List.getElem?_set_ne e];have h:=r.at_ i hi;rw[gU]at h;cases e1:(M.cells[i]?).join with
  | none=>
   rw[e1]at h;cases e2:(lies[i]?).join with
   | none=>trivial
   | some x=>rw[e2]at h;exact h.elim
  | some c=>
   rw[e1]at h;cases e2:(lies[i]?).join with
   | none=>rw[e2]at h;exact h.elim
   | some x=>
    rw[e2]at h;exact⟨h.1,h.2.1,h.2.2.1,hp i c x.k (by omega) (by rw[gU];exact e1) h.2.2.2⟩
theorem qG{u:Int}{p:Nat}{i:Int}{d:Ce}(hd:cellAt { M with used:=u,cells:=M.cells.set p none } i=some d):i≠(p:Int)/\cellAt M i=some d:=by
 obtain⟨h0,h1⟩:=cj.mp hd;have h1:(M.cells.set p none)[i.toNat]? =some (some d):=h1
 by_cases z:p=i.toNat
 ·have hl:p<M.cells.length:=by
   have:=(cV h1).1;rw[List.length_set]at this;omega
  rw[<- z,List.getElem?_set_self hl]at h1;cases h1
 ·rw[List.getElem?_set_ne z]at h1;exact⟨by omega,cj.mpr ⟨h0,h1⟩⟩
theorem Bs.del(p:Bs M hs k w0){i:Nat}{c:Ce}(hc:cellAt M i=some c)(hg:M.sw.phase="walk"->(i:Int)∉M.sw.grey)(hng:M.sw.phase≠"give"):Bs { M with used:=M.used - (1+c.fl.length+c.bulk),cells:=M.cells.set i none } hs k w0:=by
 obtain⟨a1,a2,a3,a4,a5,a6,a7,a8,a9⟩:=p.kw;obtain⟨t1,t2,t3,t4,t5,t6,t7,t8⟩:=p.tb;refine⟨⟨a1,a2,by show(M.cells.set i none).length<=k;rw[List.length_set];exact a3,a4,λd hd=>?_,λz=>?_,a7,a8,a9⟩,⟨λx y d e h1 h2 eb=>t1 x y d e (qG h1).2 (qG h2).2 eb,λx d h1=>t2 x d (qG h1).2,t3,t4,λx d h1=>t5 x d (qG h1).2,λz x d h1=>t6 z x d (qG h1).2,λz=>absurd z hng,t8⟩,⟨λx d h1=>p.fx.fn x d (qG h1).2,p.fx.nm,p.fx.rm,?_,p.fx.h3,p.fx.h5,p.fx.lz⟩,p.ww⟩
 ·rcases List.mem_or_eq_of_mem_set hd with h | h
  ·exact a5 d h
  ·cases h
 ·obtain⟨g1,g2⟩:=a6 z;refine⟨g1,λx hx=>?_⟩;obtain⟨d,hd,ht⟩:=g2 x hx;refine⟨d,?_,ht⟩;have hx0:=cj.mp hd;refine cj.mpr ⟨hx0.1,?_⟩;show(M.cells.set i none)[x.toNat]? =_;rw[List.getElem?_set_ne (λy=>hg z (by rw[y,Int.toNat_of_nonneg hx0.1];exact hx))];exact hx0.2
 ·have:=p.fx.us;have b:=(p.fx.fn _ c hc).2.2.2;show M.used - (1+c.fl.length+c.bulk)<=_;omega
theorem Bs.put(p:Bs M hs k w0){many bulk:Int}(m0:0<=many)(m1:many<=3)(b0:0<=bulk)(b1:bulk<=1000000000000):Bs { M with used:=M.used+(1+many+bulk),born:=M.born+1,cells:=lY M.cells ⟨M.born+1,bulk,M.sw.sense,0,List.replicate many.toNat none⟩ } hs (k+1) w0:=by
 refine⟨p.kw.put (by rw[List.length_replicate];omega),p.tb.put rfl rfl,⟨λi c hc=>?_,p.fx.nm,p.fx.rm,?_,p.fx.h3,p.fx.h5,p.fx.lz⟩,p.ww⟩
 ·rcases iU hc with ⟨_,rfl⟩ | h
  ·refine⟨rfl,by simp,by show(List.replicate many.toNat (none:Option Int)).length<=3;rw[List.length_replicate];omega,b0⟩
  ·exact p.fx.fn i c h
 ·have:=p.fx.us;show M.used+(1+many+bulk)<=((k+1:Nat):Int) * 1000000000004
  push_cast
  omega
theorem Zht(p:Bs M hs k w0)(ph:M.sw.phase="walk"):((dX M.cells:Nat):Int)∉M.sw.grey:=λz=>by
 obtain⟨c,hc,_⟩:=(p.kw.gr ph).2 _ z;rw[gU]at hc
 by_cases h:dX M.cells<M.cells.length
 ·rw[Zcv h]at hc;cases hc
 ·rw[List.getElem?_eq_none (by omega)]at hc;cases hc
theorem Fp.put(p:Fp M hs k w0 th lies){many bulk:Int}{mk:Str}(m0:0<=many)(m1:many<=3)(b0:0<=bulk)(b1:bulk<=1000000000000)(hmk:if th=0 then mk≠"grey" else mk="dark"):
  Fp { M with used:=M.used+(1+many+bulk),born:=M.born+1,cells:=lY M.cells ⟨M.born+1,bulk,M.sw.sense,0,List.replicate many.toNat none⟩ } hs (k+1) w0 th (lY lies ⟨M.born+1,bulk,many,mk⟩):=by
 refine⟨p.bs.put m0 m1 b0 b1,?_,p.ph⟩;refine p.rl.put rfl ⟨rfl,rfl,?_,?_⟩ (λi c k hc h=>h)
 ·show many=((List.replicate many.toNat (none:Option Int)).length:Int);rw[List.length_replicate];omega
 ·unfold Pt
  by_cases z:th=0
  ·rw[if_pos z]at hmk ⊢;exact hmk
  ·have ph:M.sw.phase="walk":=by have:=p.ph;rw[if_neg z]at this;exact this
   rw[if_neg z]at hmk ⊢;show mk=ie _ _ _;unfold ie;show mk=if M.sw.phase="rest" then _ else if M.sw.phase="give" then _ else if M.sw.sense=M.sw.sense then(if ((dX M.cells:Nat):Int)∈M.sw.grey then _ else _)else _
   rw[ph,if_neg (show ¬ ("walk":Str)="rest" by decide),if_neg (show ¬ ("walk":Str)="give" by decide),if_pos rfl,if_neg (Zht p.bs ph)];exact hmk
theorem Fp.Zn6(p:Fp M hs k w0 th lies){i:Nat}{x:ZJ}(hx:lies[i]? =some (some x))(hk:x.k≠"grey"):M.sw.phase="walk"->(i:Int)∉M.sw.grey:=λph z=>by
 obtain⟨c,hc,_,_,_,h4⟩:=p.rl.got hx;obtain⟨d,hd,ht⟩:=(p.bs.kw.gr ph).2 _ z;rw[hc]at hd;cases hd;unfold Pt at h4
 by_cases t:th=0
 ·have:=p.ph;rw[if_pos t,ph]at this;exact absurd this (by decide)
 ·rw[if_neg t]at h4;refine hk (h4.trans ?_);unfold ie;rw[ph,if_neg (by decide),if_neg (by decide),if_pos ht,if_pos z]
theorem Fp.del(p:Fp M hs k w0 th lies){i:Nat}{c:Ce}{x:ZJ}(hc:cellAt M i=some c)(hx:lies[i]? =some (some x))(hk:x.k≠"grey"):Fp { M with used:=M.used - (1+c.fl.length+c.bulk),cells:=M.cells.set i none } hs k w0 th (lies.set i none):=by
 refine⟨p.bs.del hc (p.Zn6 hx hk) ?_,p.rl.del rfl (λi c k _ hc h=>h),p.ph⟩;have:=p.ph;intro z;rw[z]at this;split at this<;>exact absurd this (by decide)
theorem Bs.mono(p:Bs M hs k w0){k':Nat}(h:k<=k'):Bs M hs k' w0:=⟨p.kw.mono h,p.tb,⟨p.fx.fn,p.fx.nm,p.fx.rm,by have:=p.fx.us;omega,p.fx.h3,p.fx.h5,p.fx.lz⟩,p.ww⟩
theorem Fp.mono(p:Fp M hs k w0 th lies){k':Nat}(h:k<=k'):Fp M hs k' w0 th lies:=⟨p.bs.mono h,p.rl,p.ph⟩
theorem Fp.Zpy(p:Fp M hs k w0 th lies)(ht:th≠0){i:Nat}{x:ZJ}(hx:lies[i]? =some (some x))(hk:x.k="pale"):∃N,bI M (some (i:Int))=(some x.b,N)/\Fp N hs k w0 th (lies.set i (some { x with k:="grey" }))/\N.sw.grey=M.sw.grey++[(i:Int)]/\N.born=M.born:=by
 obtain⟨c,hc,h1,h2,h3,h4⟩:=p.rl.got hx;have ph:M.sw.phase="walk":=by have:=p.ph;rw[if_neg ht]at this;exact this
 unfold Pt at h4;rw[if_neg ht,hk]at h4;have pl:c.tone≠M.sw.sense:=λz=>by
  unfold ie at h4;rw[ph,if_neg (by decide),if_neg (by decide),if_pos z]at h4;split at h4<;>exact absurd h4 (by decide)
 have en:bI M (some (i:Int))=(some c.birth,{ setCell M i { c with tone:=M.sw.sense }with sw:={ M.sw with grey:=M.sw.grey++[(i:Int)] } }):=by
  unfold bI;dsimp only;rw[hc];dsimp only;rw[if_pos ⟨ph,pl⟩]
 have kN:=p.bs.kw.note (some (i:Int));have tN:=p.bs.tb.sb (Sb.note M (some (i:Int)));rw[en]at kN tN;have cN:∀j,cellAt { setCell M i { c with tone:=M.sw.sense }with sw:={ M.sw with grey:=M.sw.grey++[(i:Int)] } } j=if j=(i:Int)then some { c with tone:=M.sw.sense }else cellAt M j:=λj=>mX hc j
 refine⟨_,by rw[en,h1],⟨⟨kN,tN,⟨λj d hd=>?_,p.bs.fx.nm,p.bs.fx.rm,p.bs.fx.us,p.bs.fx.h3,p.bs.fx.h5,p.bs.fx.lz⟩,p.bs.ww⟩,?_,p.ph⟩,rfl,rfl⟩
 ·rw[cN j]at hd;split at hd
  ·cases hd;exact p.bs.fx.fn _ c hc
  ·exact p.bs.fx.fn j d hd
 ·have hi:=(cV hx).1;refine⟨by rw[List.length_set];show(M.cells.set _ _).length=_;rw[List.length_set];exact p.rl.ln,λj hj=>?_⟩;rw[List.length_set]at hj;rw[cN]
  by_cases e:i=j
  ·subst e;rw[if_pos rfl,List.getElem?_set_self hi];refine⟨h1,h2,h3,?_⟩;unfold Pt;rw[if_neg ht];unfold ie;show("grey":Str)=if M.sw.phase="rest" then _ else if M.sw.phase="give" then _ else if M.sw.sense=M.sw.sense then(if (i:Int)∈M.sw.grey++[(i:Int)]then _ else _)else _
   rw[ph,if_neg (show ¬ ("walk":Str)="rest" by decide),if_neg (show ¬ ("walk":Str)="give" by decide),if_pos rfl,if_pos (by simp)]
  ·rw[if_neg (by omega),List.getElem?_set_ne e];have h:=p.rl.at_ j hj;cases e1:cellAt M j with
   | none=>
    rw[e1]at h;cases e2:(lies[j]?).join with
    | none=>trivial
    | some y=>rw[e2]at h;exact h.elim
   | some d=>
    rw[e1]at h;cases e2:(lies[j]?).join with
    | none=>rw[e2]at h;exact h.elim
    | some y=>
     rw[e2]at h;refine⟨h.1,h.2.1,h.2.2.1,?_⟩;have h5:=h.2.2.2;unfold Pt at h5 ⊢;rw[if_neg ht]at h5 ⊢;rw[h5];unfold ie;show _=if M.sw.phase="rest" then _ else if M.sw.phase="give" then _ else if d.tone=M.sw.sense then(if (j:Int)∈M.sw.grey++[(i:Int)]then _ else _)else _
     have e3:((j:Int)∈M.sw.grey++[(i:Int)])↔(j:Int)∈M.sw.grey:=by
      rw[List.mem_append,List.mem_singleton];exact⟨λz=>z.resolve_right (by omega),.inl⟩
     simp only[e3]
theorem Fp.Zga(p:Fp M hs k w0 th lies){x:Option Int}(h:th=0\/∀i,x=some i->∀c,cellAt M i=some c->∃(j:Nat) (y:ZJ),i=(j:Int)/\lies[j]? =some (some y)/\y.k≠"pale"):bI M x=(none,M):=by
 by_cases t:th=0
 ·have ph:M.sw.phase="rest":=by have:=p.ph;rw[if_pos t]at this;exact this
  exact NT (by rw[ph];decide) x
 ·have h:=h.resolve_left t;have ph:M.sw.phase="walk":=by have:=p.ph;rw[if_neg t]at this;exact this
  cases x with
  | none=>rfl
  | some i=>
   unfold bI;dsimp only;cases hc:cellAt M i with
   | none=>rfl
   | some c=>
    dsimp only;refine if_neg λz=>?_;obtain⟨j,y,rfl,hy,hk⟩:=h i rfl c hc;obtain⟨d,hd,_,_,_,h4⟩:=p.rl.got hy;rw[hc]at hd;cases hd;unfold Pt at h4;rw[if_neg t]at h4;refine hk (h4.trans ?_);unfold ie;rw[ph,if_neg (by decide),if_neg (by decide),if_neg z.2]
end
theorem L4.four{X:Cs}{H H':Hp}{T T':Tg}{A:Wa}{M:Wm}{wo ll ls:Addr}{ps:List (Option Addr)}{lies:Lies}{b:Int}(l:L4 X H T A M wo ll ls ps lies b)(st:fj 4 H H' T T'):L4 X H' T' A M wo ll ls ps lies b:=
 ⟨st.wt,l.j.other st (by decide) (by decide),l.aw,l.l.other st (by decide),(st.tg _ _ l.st).trans l.ts,st.kp _ _ l.st (by rw[l.ts];decide)⟩
theorem Zcc{H:Hp}{a b:Addr}{l:List Int}(h1:H a=some (.lst (l.map V.int)))(h2:H b=some (.lst (l.map V.int)))(hl:l.length<=1000000):Sm H 3 (.ref a) (.ref b):=
 .inr ⟨a,b,_,_,rfl,rfl,.inl ⟨h1,h2⟩,by rw[aU];exact hl,Ep (JB _)⟩
theorem p12:((10:Int) ^ Int.toNat 12)=1000000000000:=rfl
def uV(X:Cs):Sp:=λvs H Q E=>∃wo ll ls c mk,vs=[.ref wo,.ref ll,.ref ls,.int c,.str mk]/\∃T M lies hs k w0 th,Hl X H T wo ll ls M lies/\Fp M hs k w0 th lies/\k<=100/\(if th=0 then mk≠"grey" else mk="dark")/\
 ∀H' T' M' cT,Hl X H' T' wo ll ls M' cT->Fp M' hs (k+1) w0 th cT->M'.sw=M.sw->M'.hands=M.hands->Kp H H' T T'->(∀b o,H b=some o->(T b).1=4->H' b=some o)->Q (.bl true) H'
def Bg(X:Cs):Sp:=λvs H Q E=>∃wo ll lg th pl,vs=[.ref wo,.ref ll,.ref lg,.int th,pl]/\∃(x:Option Nat),pl=oV (x.map λi:Nat=>(i:Int))/\∃T ls M lies hs k w0,Hl X H T wo ll ls M lies/\Fp M hs k w0 th lies/\k<=100/\0<=th/\T lg=(4,0)/\H lg=some (.lst (M.sw.grey.map V.int))/\M.sw.grey.length<=900/\(∀i,x=some i->i<lies.length)/\
 ∀H' M' cT,Hl X H' T wo ll ls M' cT->Fp M' hs k w0 th cT->H' lg=some (.lst (M'.sw.grey.map V.int))->M'.sw.grey.length<=M.sw.grey.length+1->Kp H H' T T->Q (.bl true) H'
section
variable {K:aC}{X:Cs}{H:Hp}{Q:VK}{E:XK}{n:St->Hp->Prop}{bk ct:St->Hp->Prop}
theorem Wz{wo ll ls CF:Addr}{c:Int}{mk:Str}(Tx:qU K X)(q:∃T M lies hs k w0 th,Hl X H T wo ll ls M lies/\Fp M hs k w0 th lies/\k<=100/\(if th=0 then mk≠"grey" else mk="dark")/\
 ∀H' T' M' cT,Hl X H' T' wo ll ls M' cT->Fp M' hs (k+1) w0 th cT->M'.sw=M.sw->M'.hands=M.hands->Kp H H' T T'->(∀b o,H b=some o->(T b).1=4->H' b=some o)->Q (.bl true) H'):
  xY K X.H (rA K X.C X.H CF) Hr q8 (fM 3) ⟨n,Q,bk,ct⟩ [some (.ref wo),some (.ref ll),some (.ref ls),some (.int c),some (.str mk),none,none,none,none] H:=by
 obtain⟨T,M,lies,hs,k,w0,th,⟨A,ps,l⟩,p,hk,hm,q⟩:=q;have hcl:=p.bs.kw.cl;have hus:=p.bs.fx.us;have hrm:=p.bs.fx.rm;have hln:=p.rl.ln;obtain⟨d1,ow⟩:=l.j.jb.ow;obtain⟨d2,os'⟩:=l.j.js.os;obtain⟨d3,oh⟩:=l.j.jh.oh;rw[l.aw]at ow;unfold xY;walk_at"e";refine⟨_,_,rfl,by decide,by decide,λz hz _=>?_⟩;walk_at"e";have m0:=Int.emod_nonneg z (show(4:Int)≠0 by decide);have m1:=Int.emod_lt_of_pos z (show(0:Int)<4 by decide);generalize z % 4=many at m0 m1 ⊢;rw[p12];walk_at"e";have b0:=Int.emod_nonneg (c * 39373 % 1000000000039) (show(1000000000000+1:Int)≠0 by decide);have b1:=Int.emod_lt_of_pos (c * 39373 % 1000000000039) (show(0:Int)<1000000000000+1 by decide);generalize c * 39373 % 1000000000039 % (1000000000000+1)=bulk at b0 b1 ⊢;refine aD ow Tx.cW Tx.Xg bZ ?_;walk_at"e";refine⟨A.hp,d3,_,rfl,oh,Rm,?_⟩;walk_at"e";refine aD ow Tx.cW Tx.N7 aW ?_;walk_at"e";refine aD os' Tx.cS Tx.n1 lW ?_;walk_at"e";refine Zec Tx l.j l.w (by decide) (by omega) m0 (by omega) (by omega) λH1 T1 A1 st1 j1 aw1=>?_;have l1:=l.deed st1 j1 (aw1.trans l.aw);have k1:Kp H H1 T T1:=Kp.stp st1 ⟨by decide,by decide⟩;have f1:∀b o,H b=some o->(T b).1=4->H1 b=some o:=λb o hb t=>st1.kp b o hb (by omega);have p1:=p.put (many:=many) (bulk:=bulk) (mk:=mk) m0 (by omega) b0 (by omega) hm;have hf1:=p.rl.fst;have hf2:=l.l.fst;have hf:dX M.cells=dX ps:=by rw[hf1,hf2]
 have hpl:=l.l.ln;rw[hf];generalize hM:({ M with used:=M.used+(1+many+bulk),born:=M.born+1,cells:=lY M.cells ⟨M.born+1,bulk,M.sw.sense,0,List.replicate many.toNat none⟩ }:Wm)=M1 at l1 p1 j1;have e2:M1.born=M.born+1:=by rw[<- hM]
 have e3:M1.sw=M.sw:=by rw[<- hM]
 have e4:M1.hands=M.hands:=by rw[<- hM]
 have fin:∀{H2:Hp}{ps2:List (Option Addr)}{Gj:Lies},L4 X H2 T1 A1 M1 wo ll ls ps2 Gj M.born->Kp H H2 T T1->(∀b o,H b=some o->(T b).1=4->H2 b=some o)->dX ps<ps2.length->Gj.set (dX ps) (some ⟨M.born+1,bulk,many,mk⟩)=lY lies ⟨M.born+1,bulk,many,mk⟩->
   (aM (cG (bO (qw λi j=>.int (i+j)) (bO (fJ K) (aj 2) (tC (.int 0))) (tC (.int 1))) (Gz (aj 2) (tC (.int 0)) wI))
   (aM (cG (mz (ak (bO (fJ K) (aj 2) (tC (.int 0))) (ak (aj 6) (ak (aj 5) (ak (aj 4) aJ))))) (Gz (aj 1) (aj 8) wI))
   (bL (aZ (fM 3) [] E0 (ak (aj 7) (ak (aj 8) aJ)))))) ⟨n,Q,bk,ct⟩ [some (.ref wo),some (.ref ll),some (.ref ls),some (.int c),some (.str mk),some (.int many),some (.int bulk),some (.int (dX ps:Nat)),some (.int (dX ps:Nat))] H2:=by
  intro H2 ps2 Gj l2 k2 f2 hk2 el;walk_at"e";refine dz (cR.of l2.st) (dj (j:=0) (v:=.int M.born) rfl) ?_;walk_at"e";refine⟨ls,_,_,0,rfl,rfl,l2.st,rfl,?_⟩;obtain⟨st3,l3⟩:=l2.state (M.born+1);show aM _ _ _ _ (upd H2 ls (.lst [.int (M.born+1)]));have k3:=k2.trans (Kp.stp st3 ⟨by decide,by decide⟩);have f3:∀b o,H b=some o->(T b).1=4->upd H2 ls (.lst [.int (M.born+1)]) b=some o:=λb o hb t=>st3.kp b o (f2 b o hb t) (by rw[k2.tg b o hb];omega);generalize upd H2 ls (.lst [.int (M.born+1)])=H3 at st3 l3 k3 f3 ⊢;walk_at"e";refine dz (cR.of l3.st) (dj (j:=0) (v:=.int (M.born+1)) rfl) ?_;walk_at"e";refine⟨dU (by simp),λr nr=>?_⟩;have l4:=l3.tag (o:=.lst [.int (M.born+1),.int bulk,.int many,.str mk]) (v:=(3,1+dX ps)) nr;have k4:Kp H3 (upd H3 r (.lst [.int (M.born+1),.int bulk,.int many,.str mk])) T1 (fG T1 r (3,1+dX ps)):=Kp.tag nr (aL nr _);have g4:upd H3 r (.lst [.int (M.born+1),.int bulk,.int many,.str mk]) r=some (.lst (zj ⟨M.born+1,bulk,many,mk⟩)):=ao;have t4:fG T1 r (3,1+dX ps) r=(3,1+dX ps):=eX;have f4:∀b o,H b=some o->(T b).1=4->upd H3 r (.lst [.int (M.born+1),.int bulk,.int many,.str mk]) b=some o:=λb o hb t=>aL nr _ _ _ (f3 b o hb t);generalize upd H3 r (.lst [.int (M.born+1),.int bulk,.int many,.str mk])=H4 at l4 k4 g4 f4 ⊢;generalize fG T1 r (3,1+dX ps)=T4 at l4 k4 t4;walk_at"e";refine⟨ll,_,_,dX ps,rfl,rfl,l4.l.ol,yF (by rw[aU];exact hk2),?_⟩;obtain⟨st5,l5⟩:=l4.l.lay l4.w (k:=dX ps) (p:=r) (m:=⟨M.born+1,bulk,many,mk⟩) (by rw[<- l4.l.ln];exact hk2) t4 g4;have l5':=l4.lie st5 l5;have k5:Kp H4 (upd H4 ll (.lst ((ps2.set (dX ps) (some r)).map aV))) T4 T4:=Kp.stp st5 ⟨by decide,by decide⟩;have f5:∀b o,H b=some o->(T b).1=4->upd H4 ll (.lst ((ps2.set (dX ps) (some r)).map aV)) b=some o:=λb o hb t=>st5.kp b o (f4 b o hb t) (by rw[(k3.trans k4).tg b o hb];omega);rw[show(ps2.map aV).set (dX ps) (V.ref r)=(ps2.set (dX ps) (some r)).map aV from by rw[List.map_set];rfl];generalize upd H4 ll (.lst ((ps2.set (dX ps) (some r)).map aV))=H5 at st5 l5 l5' k5 f5 ⊢;walk_at"e";refine⟨_,_,rfl,jF rfl,?_⟩;rw[el]at l5';exact q H5 T4 M1 _ ⟨A1,_,by rw[e2];exact l5'⟩ p1 e3 e4 (k3.trans (k4.trans k5)) f5
 walk_at"e";refine⟨ll,rfl,ps,l1.l.ol,by omega,λhlt=>?_,λheq=>?_⟩
 ·refine Zo7 ?_;refine fin l1 k1 f1 hlt ?_;unfold lY;rw[<- hf2,if_pos (by omega)]
 ·obtain⟨st2,l2⟩:=l1.l.app l1.w;have l2':=l1.lie st2 l2;have k2:=k1.trans (Kp.stp st2 ⟨by decide,by decide⟩);have f2:∀b o,H b=some o->(T b).1=4->upd H1 ll (.lst ((ps++[none]).map aV)) b=some o:=λb o hb t=>st2.kp b o (f1 b o hb t) (by rw[k1.tg b o hb];omega);generalize upd H1 ll (.lst ((ps++[none]).map aV))=H2 at st2 l2 l2' k2 f2 ⊢;refine Zo7 ?_;rw[show(ps.length:Int)=(dX ps:Nat)from by rw[heq]];refine fin l2' k2 f2 (by rw[List.length_append];simp;omega) ?_;unfold lY;rw[<- hf2,if_neg (by omega),heq,hpl];rw[List.set_append_right _ _ (Nat.le_refl _),Nat.sub_self];rfl
end
section
variable {K:aC}{X:Cs}{H:Hp}{Q:VK}{E:XK}{n:St->Hp->Prop}{bk ct:St->Hp->Prop}
theorem SM{wo ll lg ls:Addr}{th:Int}{pl due:V}{T:Tg}{A:Wa}{M N:Wm}{ps:List (Option Addr)}{lies:Lies}{x:Option Int}{b:Option Int}(Tx:qU K X)(l:L4 X H T A M wo ll ls ps lies M.born)(hp:pl=oV x)(hg:M.sw.grey.length<=20000)(en:bI M x=(b,N))(hb:N.born=M.born)(hd:due=oV b)(hl:H lg=some (.lst (N.sw.grey.map V.int)))(tl:(T lg).1≠1)(hN:N.sw.grey.length<=20000)
  (q:∀H',L4 X H' T A N wo ll ls ps lies N.born->H' lg=some (.lst (N.sw.grey.map V.int))->fj 1 H H' T T->Q (.bl true) H'):
  yK X ([.ref wo,pl]++[]) H (λx H1=>ak (aj 5) aJ [some (.ref wo),some (.ref ll),some (.ref lg),some (.int th),some pl,some due] H1 λxs H2=>fM 3 (x::xs++[]) H2 (kB λk H1=>if k=true then aZ (fM 3) [] E0 (ak (aY K (aY K (aj 0) "sweeper") "grey") (ak (aj 2) aJ)) [some (.ref wo),some (.ref ll),some (.ref lg),some (.int th),some pl,some due] H1 Q else Q (.bl false) H1) E0) E0:=by
 subst hp hd;refine⟨_,_,rfl,x,rfl,T,1,A,M,l.w,by decide,l.j,l.aw,λ_=>hg,λH1 st1 j1=>?_⟩;rw[en]at j1 ⊢;have j1:WJ X H1 T 1 A N:=j1;have l1:=l.deed st1 j1 l.aw;rw[<- hb]at l1;obtain⟨d1,ow⟩:=l1.j.jb.ow;obtain⟨d2,os'⟩:=l1.j.js.os;rw[l1.aw]at ow;have hl1:=st1.kp _ _ hl tl;walk_at"e";refine⟨_,_,rfl,jF (by cases b<;>rfl),?_⟩;walk_at"e";refine aD ow Tx.cW Tx.N7 aW ?_;walk_at"e";refine aD os' Tx.cS Tx.n3 kh ?_;walk_at"e";refine⟨_,_,rfl,Zcc l1.j.js.og hl1 (by omega),?_⟩;exact q H1 l1 hl1 st1
theorem RN{wo ll lg:Addr}{th:Int}{pl:V}(Tx:qU K X)(q:∃(x:Option Nat),pl=oV (x.map λi:Nat=>(i:Int))/\∃T ls M lies hs k w0,Hl X H T wo ll ls M lies/\Fp M hs k w0 th lies/\k<=100/\0<=th/\T lg=(4,0)/\H lg=some (.lst (M.sw.grey.map V.int))/\M.sw.grey.length<=900/\(∀i,x=some i->i<lies.length)/\
 ∀H' M' cT,Hl X H' T wo ll ls M' cT->Fp M' hs k w0 th cT->H' lg=some (.lst (M'.sw.grey.map V.int))->M'.sw.grey.length<=M.sw.grey.length+1->Kp H H' T T->Q (.bl true) H'):
  vC K (fM 3) (yK X) ⟨n,Q,bk,ct⟩ [some (.ref wo),some (.ref ll),some (.ref lg),some (.int th),some pl,none] H:=by
 obtain⟨x,hpl,T,ls,M,lies,hs,k,w0,⟨A,ps,l⟩,p,hk,th0,tg,hlg,gl,hx,q⟩:=q;have tg1:(T lg).1≠1:=by rw[tg];decide
 have no:bI M (x.map λi:Nat=>(i:Int))=(none,M)->yK X ([.ref wo,pl]++[]) H (λx H1=>ak (aj 5) aJ [some (.ref wo),some (.ref ll),some (.ref lg),some (.int th),some pl,some .non] H1 λxs H2=>fM 3 (x::xs++[]) H2 (kB λk H1=>if k=true then aZ (fM 3) [] E0 (ak (aY K (aY K (aj 0) "sweeper") "grey") (ak (aj 2) aJ)) [some (.ref wo),some (.ref ll),some (.ref lg),some (.int th),some pl,some .non] H1 Q else Q (.bl false) H1) E0) E0:=λen=>
  SM Tx l hpl (by omega) en rfl rfl hlg tg1 (by omega) λH' l' h' st'=>q H' M lies ⟨A,ps,l'⟩ p h' (by omega) (Kp.stp st' ⟨by decide,by decide⟩)
 unfold vC;walk_at"e";refine pU (λtpos=>?_) (λtz=>?_)
 ·have tn:th≠0:=by omega
  cases x with
  | none=>
   obtain rfl:pl=.non:=hpl;walk_at"e";exact no rfl
  | some i=>
   have hi:=hx i rfl;obtain rfl:pl=.int (i:Int):=hpl;walk_at"e";rcases l.l.get hi with ⟨h3,h4⟩ | ⟨m,pr,h3,h2,h5,h6,h7⟩
   ·refine dz (v:=.non) (cR.of l.l.ol) (dj h4) ?_;walk_at"e";have hc:=p.rl.non h3;refine no (p.Zga (.inr λj hj c hc'=>?_));cases hj;rw[hc]at hc';cases hc'
   ·refine dz (v:=.ref pr) (cR.of l.l.ol) (dj h5) ?_;walk_at"e";refine dz (v:=.ref pr) (cR.of l.l.ol) (dj h5) ?_;walk_at"e";refine dz (v:=.str m.k) (cR.of h7) (fQ (by decide) rfl) ?_;walk_at"e";refine pU (λhy=>?_) (λhy=>?_)
    ·walk_at"e";refine dz (v:=.ref pr) (cR.of l.l.ol) (dj h5) ?_;walk_at"e";refine dz (v:=.int m.b) (cR.of h7) (fQ (by decide) rfl) ?_;walk_at"e";refine dz (v:=.ref pr) (cR.of l.l.ol) (dj h5) ?_;walk_at"e";refine⟨pr,_,_,3,rfl,rfl,h7,rfl,?_⟩;obtain⟨st1,l1⟩:=l.l.chg l.w (m':={ m with k:="grey" }) h2 h3;have l1':L4 X (upd H pr (.lst (zj { m with k:="grey" }))) T A M wo ll ls ps (lies.set i (some { m with k:="grey" })) M.born:=l.lie st1 l1;have k1:Kp H (upd H pr (.lst (zj { m with k:="grey" }))) T T:=Kp.stp st1 ⟨by decide,by decide⟩;have g1:upd H pr (.lst (zj { m with k:="grey" })) lg=some (.lst (M.sw.grey.map V.int)):=st1.kp _ _ hlg (by rw[tg];decide);rw[show(zj m).set 3 (.str "grey")=zj { m with k:="grey" }from rfl];clear l1;generalize upd H pr (.lst (zj { m with k:="grey" }))=H1 at l1' k1 g1 st1 ⊢;obtain⟨N,en,pN,eg,eb⟩:=p.Zpy tn h3 hy;walk_at"e";refine⟨.inl ⟨rfl,_,cR.of g1⟩,?_⟩;walk_at"e";refine⟨lg,_,_,rfl,rfl,g1,by rw[aU,sizeLine_eq];omega,?_⟩;have st2:fj 4 H1 (upd H1 lg (.lst (M.sw.grey.map V.int++[.int (i:Int)]))) T T:=fj.upd l1'.w g1 (by rw[tg]);have l2:=l1'.four st2;have k2:=k1.trans (Kp.stp st2 ⟨by decide,by decide⟩);have g2:upd H1 lg (.lst (M.sw.grey.map V.int++[.int (i:Int)])) lg=some (.lst (N.sw.grey.map V.int)):=by rw[ao,eg,List.map_append];rfl
     generalize upd H1 lg (.lst (M.sw.grey.map V.int++[.int (i:Int)]))=H2 at st2 l2 k2 g2 ⊢;have gN:N.sw.grey.length<=M.sw.grey.length+1:=by rw[eg,List.length_append];exact Nat.le_refl _
     walk_at"e";exact SM (x:=some (i:Int)) (b:=some m.b) Tx l2 rfl (by omega) en eb rfl g2 tg1 (by omega) λH' l' h' st'=>q H' N _ ⟨A,ps,l'⟩ pN h' gN (k2.trans (Kp.stp st' ⟨by decide,by decide⟩))
    ·walk_at"e";refine no (p.Zga (.inr λj hj c hc'=>?_));cases hj;exact⟨i,m,rfl,h3,hy⟩
 ·have tz0:th=0:=by omega
  walk_at"e";exact no (p.Zga (.inl tz0))
end
def Ho(X:Cs):Sp:=λvs H Q E=>∃wo ll lg th ls c,vs=[.ref wo,.ref ll,.ref lg,.int th,.ref ls,.int c]/\∃T M lies hs k w0,Hl X H T wo ll ls M lies/\Fp M hs k w0 th lies/\k<=100/\0<=th/\T lg=(4,0)/\H lg=some (.lst (M.sw.grey.map V.int))/\M.sw.grey.length<=800/\
 ∀H' T' M' cT,Hl X H' T' wo ll ls M' cT->Fp M' hs (k+1) w0 th cT->T' lg=(4,0)->H' lg=some (.lst (M'.sw.grey.map V.int))->M'.sw.grey.length<=M.sw.grey.length+1->Kp H H' T T'->Q (.bl true) H'
section
variable {K:aC}{X:Cs}{H:Hp}{Q:VK}{E:XK}{n:St->Hp->Prop}{bk ct:St->Hp->Prop}
theorem Wx{wo ll lg ls:Addr}{th c:Int}(Tx:qU K X)(q:∃T M lies hs k w0,Hl X H T wo ll ls M lies/\Fp M hs k w0 th lies/\k<=100/\0<=th/\T lg=(4,0)/\H lg=some (.lst (M.sw.grey.map V.int))/\M.sw.grey.length<=800/\
 ∀H' T' M' cT,Hl X H' T' wo ll ls M' cT->Fp M' hs (k+1) w0 th cT->T' lg=(4,0)->H' lg=some (.lst (M'.sw.grey.map V.int))->M'.sw.grey.length<=M.sw.grey.length+1->Kp H H' T T'->Q (.bl true) H'):
  xX K X.H (lE X.C X.H) (uV X) q8 (Bg X) (fM 3) ⟨n,Q,bk,ct⟩ [some (.ref wo),some (.ref ll),some (.ref lg),some (.int th),some (.ref ls),some (.int c),none,none,none] H:=by
 obtain⟨T,M,lies,hs,k,w0,st,p,hk,th0,tg,hlg,gl,q⟩:=q;obtain⟨A,ps,l⟩:=id st;have hln:=p.rl.ln;have hpl:=l.l.ln;have mk:uV X [.ref wo,.ref ll,.ref ls,.int c,.str "dark"] H Q E0:=⟨_,_,_,_,_,rfl,T,M,lies,hs,k,w0,th,st,p,hk,by split<;>decide,λH' T' M' cT st' p' sw' _ kp' f'=>q H' T' M' cT st' p' (by rw[kp'.tg _ _ hlg];exact tg) (by rw[sw'];exact f' _ _ hlg (by rw[tg])) (by rw[sw'];omega) kp'⟩;have nt:∀x:Option Nat,(∀i,x=some i->i<lies.length)->Bg X [.ref wo,.ref ll,.ref lg,.int th,oV (x.map λi:Nat=>(i:Int))] H Q E0:=λx hx=>⟨_,_,_,_,_,rfl,x,rfl,T,ls,M,lies,hs,k,w0,st,p,hk,th0,tg,hlg,by omega,hx,λH' M' cT st' p' h' g' kp'=>q H' T M' cT st' (p'.mono (Nat.le_succ _)) tg h' g' kp'⟩;unfold xX;walk_at"e";refine⟨_,_,rfl,by decide,by decide,λz1 h1 _=>?_⟩;walk_at"e";have w0':=Int.emod_nonneg z1 (show(8:Int)≠0 by decide);have w1:=Int.emod_lt_of_pos z1 (show(0:Int)<8 by decide);generalize z1 % 8=w at w0' w1 ⊢;refine pU (λ_=>?_) (λw3=>?_)
 ·walk_at"e";exact mk
 ·walk_at"e";refine iI (cR.of l.l.ol) ?_;rw[aU,hpl];walk_at"e";refine pU (λ_=>?_) (λln0=>?_)
  ·walk_at"e";exact mk
  ·walk_at"e";refine⟨_,_,rfl,by decide,by decide,λz2 h2 _=>?_⟩;walk_at"e";refine iI (cR.of l.l.ol) ?_;rw[aU,hpl];have lp:0<(lies.length:Int):=by omega
   walk_at"e";obtain⟨i,ei⟩:=toN (x:=z2 % (lies.length:Int)) (Int.emod_nonneg _ (by omega));have hi:i<lies.length:=by
    have:=Int.emod_lt_of_pos z2 lp;omega
   rw[ei];refine pU (λwi=>?_) (λwi=>?_)
   ·walk_at"e";refine pU (λz=>absurd z (by omega)) (λ_=>?_);walk_at"e";exact nt none (λi h=>by cases h)
   ·walk_at"e";refine pU (λwj=>?_) (λwj=>?_)
    ·walk_at"e";rcases l.l.get hi with ⟨h3,h4⟩ | ⟨m,pr,h3,h2',h5,h6,h7⟩
     ·refine dz (v:=.non) (cR.of l.l.ol) (dj h4) ?_;walk_at"e";exact nt (some i) (λj h=>by cases h;exact hi)
     ·refine dz (v:=.ref pr) (cR.of l.l.ol) (dj h5) ?_;walk_at"e";refine dz (v:=.ref pr) (cR.of l.l.ol) (dj h5) ?_;walk_at"e";refine dz (v:=.str m.k) (cR.of h7) (fQ (by decide) rfl) ?_;walk_at"e";refine wO (λhng=>?_) (λhgr=>?_)
      ·walk_at"e";refine dz (v:=.ref pr) (cR.of l.l.ol) (dj h5) ?_;walk_at"e";refine dz (v:=.int m.b) (cR.of h7) (fQ (by decide) rfl) ?_;walk_at"e";refine⟨ll,_,_,i,rfl,rfl,l.l.ol,yF (by rw[aU,hpl];exact hi),?_⟩;obtain⟨st1,l1⟩:=l.l.clr l.w i;have l1':=l.lie st1 l1;rw[show(ps.map aV).set i V.non=(ps.set i none).map aV from by rw[List.map_set];rfl];have k1:Kp H (upd H ll (.lst ((ps.set i none).map aV))) T T:=Kp.stp st1 ⟨by decide,by decide⟩;have g1:upd H ll (.lst ((ps.set i none).map aV)) lg=some (.lst (M.sw.grey.map V.int)):=st1.kp _ _ hlg (by rw[tg];decide);generalize upd H ll (.lst ((ps.set i none).map aV))=H1 at st1 l1 l1' k1 g1 ⊢;obtain⟨cc,hcc,b1,_⟩:=p.rl.got h3;obtain⟨d1,ow⟩:=l1'.j.jb.ow;obtain⟨d3,oh⟩:=l1'.j.jh.oh;rw[l1'.aw]at ow;walk_at"e";refine aD ow Tx.cW Tx.Xg bZ ?_;walk_at"e";refine⟨A.hp,d3,_,rfl,oh,CW,?_⟩;walk_at"e";refine Tj l1'.j l1'.w (by decide) (i:=i) (c:=cc) (cj.mp hcc).2 λH2 A2 st2 j2 aw2=>?_;have l2:=l1'.deed st2 j2 (aw2.1.trans l1'.aw);walk_at"e";rw[b1];refine⟨_,_,rfl,jF rfl,?_⟩;exact q H2 T _ _ ⟨A2,_,l2⟩ ((p.del hcc h3 hng).mono (Nat.le_succ _)) tg (st2.kp _ _ g1 (by rw[tg];decide)) (Nat.le_succ _) (k1.trans (Kp.stp st2 ⟨by decide,by decide⟩))
      ·walk_at"e";exact nt (some i) (λj h=>by cases h;exact hi)
    ·walk_at"e";exact nt (some i) (λj h=>by cases h;exact hi)
end
def Zd6(K:aC):Sp:=λvs H Q E=>∃a k,vs=[.ref a,.int k]/\∃ns:List Int,cR K H a (ns.map V.int)/\0<=k/\Q (.int ((ns[k.toNat]?).getD 0)) H
theorem Zhx{w t:Int}(w0:0<=w)(w1:w<3)(t0:0<=t)(t1:t<4):(Wn (words w t) none (some 5)=("first":Str))↔w=0:=by
 have hw:w=0\/w=1\/w=2:=by omega
 have ht:t=0\/t=1\/t=2\/t=3:=by omega
 rcases hw with rfl | rfl | rfl<;>rcases ht with rfl | rfl | rfl | rfl<;>decide +kernel
theorem Zpd{w t:Int}(w0:0<=w)(w1:w<3)(t0:0<=t)(t1:t<4):(words w t).length<=20:=by
 have hw:w=0\/w=1\/w=2:=by omega
 have ht:t=0\/t=1\/t=2\/t=3:=by omega
 rcases hw with rfl | rfl | rfl<;>rcases ht with rfl | rfl | rfl | rfl<;>decide +kernel
def Hs(X:Cs):Sp:=λvs H Q E=>∃wo z t nh,vs=[.ref wo,.str z,.int t,.int nh]/\∃(T:Tg) (A:Wa) (M:Wm) (w tl:Int) (h:Nat),WJ X H T 1 A M/\A.wo=wo/\z=words w tl/\0<=w/\w<3/\0<=tl/\tl<4/\nh=(h:Int)/\h<=30/\M.sw.phase="walk"/\M.sw.grey=[]/\M.sw.turn=t/\M.sw.sense=t % 2/\M.sw.looked=bM w h/\M.sw.walks=0/\M.sw.looks=0/\M.sw.passes=0/\∀H',bC H H'->Q (.bl true) H'
section
variable {K:aC}{X:Cs}{H:Hp}{Q:VK}{E:XK}{n:St->Hp->Prop}{bk ct:St->Hp->Prop}
theorem Ln{a:Addr}{k:Int}(q:∃ns:List Int,cR K H a (ns.map V.int)/\0<=k/\Q (.int ((ns[k.toNat]?).getD 0)) H):rP K ⟨n,Q,bk,ct⟩ [some (.ref a),some (.int k)] H:=by
 obtain⟨ns,hS,h0,h⟩:=q;unfold rP;walk_at"e";refine iI hS ?_;walk_at"e";refine pU (λh1=>?_) (λh1=>?_)
 ·walk_at"e";rw[aU]at h1;have hk:k.toNat<ns.length:=by omega
  have ek:k=((k.toNat:Nat):Int):=by omega
  have q:atI (ns.map V.int) ((k.toNat:Nat):Int)=some (.int ns[k.toNat]):=dj (by rw[dB,cJ hk]<;>rfl);rw[<- ek]at q;rw[cJ hk]at h;exact dz hS q h
 ·walk_at"e";rw[aU]at h1;rw[List.getElem?_eq_none (by omega)]at h;exact h
theorem Zbz{wo:Addr}{z:Str}{t:Int}{T:Tg}{A:Wa}{M:Wm}{w tl:Int}{h:Nat}(Tx:qU K X)(j:WJ X H T 1 A M)(aw:A.wo=wo)(hz:z=words w tl)(w0:0<=w)(w1:w<3)(t0:0<=tl)(t1:tl<4)(h30:h<=30)(ph:M.sw.phase="walk")(gr:M.sw.grey=[])(tn:M.sw.turn=t)(se:M.sw.sense=t % 2)(lo:M.sw.looked=bM w h)(wa:M.sw.walks=0)(lk:M.sw.looks=0)(pa:M.sw.passes=0)(q:∀H',bC H H'->Q (.bl true) H'):
  (aM (cG (mz (ak (aY K (aj 4) "sense") (ak (aY K (aj 4) "turn") (ak (aY K (aj 4) "phase") (ak (aY K (aj 4) "grey") (ak (aY K (aj 4) "looked") aJ)))))) (aP 6))
   (aM (eG (qW (tB (aZ (fM 3) [] E0 (ak (aj 6) (ak (mz (ak (bO (rI (λ_ j=>0<j) λi j=>.int (i % j)) (aj 2) (tC (.int 2))) (ak (aj 2) (ak (tC (.str "walk")) (ak (mz aJ) (ak (aj 5) aJ)))))) aJ))))) (bL (tC (.bl false))) bW)
   (aM (sr (qY (ak (aj 3) aJ)) (aP 7)
   (eG (qW (tB (aZ (fM 3) [] E0 (ak (aZ (rz X) [] E0 (ak (aj 0) (ak (aj 7) aJ))) (ak (bO (Eb) (tSl (G.Zfj) (aj 1) Eg (zx (tC (.int 5)))) (tC (.str "first"))) aJ))))) (bL (tC (.bl false))) bW))
   (bL (aZ (fM 3) [] E0 (ak (mz (ak (aY K (aj 4) "walks") (ak (aY K (aj 4) "looks") (ak (aY K (aj 4) "passes") aJ)))) (ak (mz (ak (tC (.int 0)) (ak (tC (.int 0)) (ak (tC (.int 0)) aJ)))) aJ))))))) ⟨n,Q,bk,ct⟩ [some (.ref wo),some (.str z),some (.int t),some (.int (h:Int)),some (.ref A.sw),some (.int (bM w h)),none,none] H:=by
 obtain⟨d2,os'⟩:=j.js.os;have og:=j.js.og;rw[gr]at og;rw[se,ph,lo,tn,wa,lk,pa]at os';walk_at"e";refine aD os' Tx.cS Tx.n1 lW ?_;walk_at"e";refine aD os' Tx.cS Tx.n5 oZ ?_;walk_at"e";refine aD os' Tx.cS Tx.n2 je ?_;walk_at"e";refine aD os' Tx.cS Tx.n3 kh ?_;walk_at"e";refine aD os' Tx.cS Tx.n4 gM ?_;walk_at"e";refine⟨by show 5<=_;decide,λl1 h1=>?_⟩;generalize zz:upd H l1 _=H1;obtain⟨s1,c1⟩:=nwO h1 zz;walk_at"e";refine⟨by decide,λl2 h2=>?_⟩;generalize zz:upd H1 l2 _=H2;obtain⟨s2,c2⟩:=nwO h2 zz;walk_at"e";refine⟨by show 5<=_;decide,λl3 h3=>?_⟩;generalize zz:upd H2 l3 _=H3;obtain⟨s3,c3⟩:=nwO h3 zz;have s13:=s1.trans (s2.trans s3);refine⟨_,_,rfl,.inr ⟨l1,l3,_,_,rfl,rfl,.inl ⟨s3 _ _ (s2 _ _ c1),c3⟩,by show 5<=_;decide,.cons (jF rfl) (.cons (jF rfl) (.cons (jF rfl) (.cons (.inr ⟨A.gr,l2,[],[],rfl,rfl,.inl ⟨s13 _ _ og,s3 _ _ c2⟩,by decide,.nil⟩) (.cons (jF rfl) .nil))))⟩,?_⟩;walk_at"e";refine⟨_,rfl,by omega,by omega,?_⟩;rw[show((h:Int)).toNat=h from by omega];refine forR (λi σ Hx=>∃v7,σ=[some (.ref wo),some (.str z),some (.int t),some (.int (h:Int)),some (.ref A.sw),some (.int (bM w h)),some (.ref l1),v7]/\Hx=H3) ⟨none,rfl,rfl⟩ ?_ ?_
 ·rintro i σ Hx hi ⟨v7,rfl,rfl⟩;rw[show(0:Int)+(i:Int)=i by omega];walk_at"e";refine⟨wo,_,rfl,T,1,A,M,i,j.same s13,aw,rfl,?_⟩;walk_at"e";have f5:=Zhx w0 w1 t0 t1;rw[hz];have e:wN M i=decide (Wn (words w tl) none (some 5)=("first":Str)):=by
   unfold wN;rw[lo]
   by_cases zz:w=0
   ·rw[decide_eq_true (f5.mpr zz),decide_eq_true];unfold bM;rw[if_pos zz];exact Ae hi
   ·rw[decide_eq_false (λy=>zz (f5.mp y)),decide_eq_false];unfold bM;rw[if_neg zz];simp
  have wl:=Zpd w0 w1 t0 t1;refine Zm3 (dU (by omega)) ?_;walk_at"e";refine⟨_,_,rfl,by rw[e];exact jF rfl,?_⟩;walk_at"e";exact⟨_,rfl,rfl⟩
 ·rintro σ Hx ⟨v7,rfl,rfl⟩;have os3:=s13 _ _ os';walk_at"e";refine aD os3 Tx.cS Tx.n8 rD ?_;walk_at"e";refine aD os3 Tx.cS Tx.n9 nU ?_;walk_at"e";refine aD os3 Tx.cS Tx.n10 pZ ?_;walk_at"e";refine⟨by show 3<=_;decide,λl4 h4=>?_⟩;generalize zz:upd Hx l4 _=H4;obtain⟨s4,c4⟩:=nwO h4 zz;have c4:H4 l4=some (.lst ([0,0,0].map V.int)):=c4;walk_at"e";refine⟨by show 3<=_;decide,λl5 h5=>?_⟩;generalize zz:upd H4 l5 _=H5;obtain⟨s5,c5⟩:=nwO h5 zz;have c5:H5 l5=some (.lst ([0,0,0].map V.int)):=c5;refine⟨_,_,rfl,Zcc (s5 _ _ c4) c5 (by decide),?_⟩;exact q _ (s13.trans (s4.trans s5))
theorem RT{wo:Addr}{z:Str}{t nh:Int}(Tx:qU K X)(q:∃(T:Tg) (A:Wa) (M:Wm) (w tl:Int) (h:Nat),WJ X H T 1 A M/\A.wo=wo/\z=words w tl/\0<=w/\w<3/\0<=tl/\tl<4/\nh=(h:Int)/\h<=30/\M.sw.phase="walk"/\M.sw.grey=[]/\M.sw.turn=t/\M.sw.sense=t % 2/\M.sw.looked=bM w h/\M.sw.walks=0/\M.sw.looks=0/\M.sw.passes=0/\∀H',bC H H'->Q (.bl true) H'):
  vH K WY (fM 3) (rz X) ⟨n,Q,bk,ct⟩ [some (.ref wo),some (.str z),some (.int t),some (.int nh),none,none,none,none] H:=by
 obtain⟨T,A,M,w,tl,h,j,aw,hz,w0,w1,t0,t1,rfl,h30,ph,gr,tn,se,lo,wa,lk,pa,q⟩:=q;obtain⟨d1,ow⟩:=j.jb.ow;rw[aw]at ow;have tail:=Zbz (n:=n) (bk:=bk) (ct:=ct) Tx j aw hz w0 w1 t0 t1 h30 ph gr tn se lo wa lk pa q;have f5:=Zhx w0 w1 t0 t1;rw[<- hz]at f5;unfold vH;walk_at"e";refine aD ow Tx.cW Tx.N7 aW ?_;walk_at"e";have wl:=Zpd w0 w1 t0 t1;rw[<- hz]at wl;refine Zm3 (dU (by omega)) ?_;walk_at"e";refine pU (λy=>?_) (λy=>?_)
 ·have e:bM w h=2 ^ h - 1:=by unfold bM;rw[if_pos (f5.mp y)]
  rw[e]at tail;walk_at"s";refine⟨_,rfl,by omega,by omega,?_⟩;rw[show((h:Int)).toNat=h from by omega];exact tail
 ·have e:bM w h=0:=by unfold bM;rw[if_neg (λz=>y (f5.mpr z))]
  rw[e]at tail;exact tail
end
theorem hands_of{H:Hp}:∀{vs:List V},(∀(i:Nat) v,vs[i]? =some v->∃b nm,v=.ref b/\H b=some (.tup [.str nm,.int 3]))->∃(ts:List Addr) (hs:RZ),vs=ts.map V.ref/\hs.length=vs.length/\(∀m∈hs,m.2=3)/\Al (λ(t:Addr) (m:Str×Int)=>H t=some (.tup [.str m.1,.int m.2])) ts hs
 | [],_=>⟨[],[],rfl,rfl,(λ_ h=>by cases h),.nil⟩
 | v::vs,h=>by
  obtain⟨ts,hs,e1,e2,e3,e4⟩:=hands_of (vs:=vs) (λi v e=>h (i+1) v e);obtain⟨b,nm,rfl,hb⟩:=h 0 v rfl;refine⟨b::ts,(nm,3)::hs,by rw[e1];rfl,by rw[List.length_cons,List.length_cons,e2],λm hm=>?_,.cons hb e4⟩;rcases List.mem_cons.mp hm with rfl | hm
  ·rfl
  ·exact e3 m hm
theorem Bs.new{hs:RZ}{w t:Int}(h5:1<=hs.length/\hs.length<=5)(h3:∀m∈hs,m.2=3)(w0:0<=w)(w1:w<3)(t0:0<=t)(t1:t<4):Bs (Yp 1000000000000000 hs w t) hs 0 w:=by
 have e:∀i c,cellAt (Yp 1000000000000000 hs w t) i=some c->False:=λi c h=>nomatch uv h;refine⟨KW.new t0 t1,TB.new,⟨λi c h=>(e i c h).elim,rfl,rfl,by show(0:Int)<=_;omega,λm hm=>?_,?_,by show(0:Int)<=0;decide⟩,by omega⟩
 ·obtain⟨m',hm',rfl⟩:=List.mem_map.mp hm;show(List.replicate m'.2.toNat none).length=3;rw[List.length_replicate,h3 m' hm'];rfl
 ·show 1<=(hs.map _).length/\(hs.map _).length<=5;rw[aU];exact h5
theorem Zel{M:Wm}{hs:RZ}{k:Nat}{w0:Int}{lies:Lies}(p:Bs M hs k w0)(ph:M.sw.phase="rest")(rl:jT (λ_ _ k=>k=("pale":Str)) M lies):Bs (gW M) hs k w0/\jT (λi c k=>k=ie (gW M) i c) (gW M) lies:=by
 obtain⟨a1,a2,a3,a4,a5,a6,a7,a8,a9⟩:=p.kw;have f:=p.fx;refine⟨⟨⟨a1,a2,a3,a4,a5,λ_=>⟨List.nodup_nil,λx hx=>by cases hx⟩,.inr (.inl rfl),a8,a9⟩,⟨p.tb.bu,p.tb.bn,p.tb.b0,by show 1 - M.sw.sense=0\/1 - M.sw.sense=1;have:=p.tb.se;omega,p.tb.tn,λz=>absurd z (show ¬ ("walk":Str)="rest" by decide),λz=>absurd z (show ¬ ("walk":Str)="give" by decide),p.tb.ww⟩,⟨f.fn,f.nm,f.rm,f.us,f.h3,f.h5,?_⟩,p.ww⟩,⟨rl.ln,λi hi=>?_⟩⟩
 ·show 0<=bM M.w M.hands.length;unfold bM;have:(0:Int)<2 ^ M.hands.length:=Int.pow_pos (by decide);split<;>omega
 ·have:=(rl.imp (P':=λi c k=>k=ie (gW M) i c) (λi c k hc hk=>?_)).at_ i hi
  ·exact this
  ·rw[hk];unfold ie;show _=if ("walk":Str)="rest" then _ else if ("walk":Str)="give" then _ else if c.tone=1 - M.sw.sense then _ else _
   rw[if_neg (by decide),if_neg (by decide),if_neg (by rw[p.tb.rs ph i c hc];omega)]
section
variable {K:aC}{X:Cs}{H:Hp}{Q:VK}{E:XK}{n:St->Hp->Prop}{bk ct:St->Hp->Prop}
theorem Yy{a wo ll ls:Addr}{th:Int}{ns:List Int}{T:Tg}{M:Wm}{lies:Lies}{hs:RZ}{w0:Int}{v1 v2 v3 v7:Option V}(Tx:qU K X)(hS:cR K H a (ns.map V.int))(hlen:ns.length<=63)(st:Hl X H T wo ll ls M lies)(p:Fp M hs 12 w0 th lies)(th0:0<=th)(gr:M.sw.grey=[])(h:∀H',Q (.bl true) H'):
  (aM (cG (mz aJ) (aP 9))
   (aM (sr (pK K (tSl (Zj6 K) (aj 0) (zx (tC (.int 14))) (zx (tC (.int 63))))) (aP 7)
   (aM (eG (qW (tB (aZ (Ho X) [] E0 (ak (aj 4) (ak (aj 5) (ak (aj 9) (ak (aj 8) (ak (aj 6) (ak (aj 7) aJ))))))))) (bL (tC (.bl false))) bW)
   (eG ((Dh (cB (bO (Eb) (bO (rI (λ_ j=>0<j) λi j=>.int (i % j)) (aZ q8 [] E0 (ak (aj 7) (ak (tC (.int 39373)) aJ))) (tC (.int 3))) (tC (.int 0)))) (qW (tB (aZ (pP X) [] E0 (ak (aj 4) (ak (aj 5) (ak (aj 8) aJ)))))))) (bL (tC (.bl false))) bW)))
   (bL (aZ (pP X) [] E0 (ak (aj 4) (ak (aj 5) (ak (aj 8) aJ))))))) ⟨n,Q,bk,ct⟩ [some (.ref a),v1,v2,v3,some (.ref wo),some (.ref ll),some (.ref ls),v7,some (.int th),none] H:=by
 have mkr:∀{M:Wm}{k:Nat}{lies:Lies},Fp M hs k w0 th lies->jT (λi c k=>(if th=0 then("kept":Str)else k)=ie M i c) M lies:=λ{M k lies} p=>p.rl.imp λi c kx hc hk=>by
  have ph:=p.ph;unfold Pt at hk
  by_cases z:th=0
  ·rw[if_pos z]at ph ⊢;unfold ie;rw[ph,if_pos rfl]
  ·rw[if_neg z]at hk ⊢;exact hk
 walk_at"e";refine⟨by decide,λlg hg=>?_⟩;obtain⟨A,ps,l⟩:=st;have l1:=l.tag (o:=.lst []) (v:=(4,0)) hg;have g1:upd H lg (.lst []) lg=some (.lst (M.sw.grey.map V.int)):=by rw[gr];exact ao
 have t1:fG T lg (4,0) lg=(4,0):=eX;have hS1:=(aL hg (.lst [])).seq hS;have wt1:=l1.w;generalize upd H lg (.lst [])=H1 at l1 g1 hS1 wt1 ⊢;generalize fG T lg (4,0)=T1 at l1 t1 wt1;walk_at"e";refine⟨a,_,rfl,hS1,λcp hcp=>?_⟩;have ec:Zf (ns.map V.int) (some 14) (some 63)=((ns.drop (HT.m7 ns.length 0 (some 14))).take (HT.m7 ns.length ns.length (some 63) - HT.m7 ns.length 0 (some 14))).map V.int:=by
  unfold Zf;rw[List.map_take,List.map_drop,aU]
 rw[ec];generalize hcs:(ns.drop (HT.m7 ns.length 0 (some 14))).take (HT.m7 ns.length ns.length (some 63) - HT.m7 ns.length 0 (some 14))=cs;have lcs:cs.length<=63:=by rw[<- hcs,List.length_take,List.length_drop];omega
 generalize zz:upd H1 cp _=H2;obtain⟨s2,c2⟩:=nwO hcp zz;have tcp:=wt1 _ hcp;refine⟨cp,rfl,⟨_,cR.of c2⟩,forL (cs.map V.int) (λi σ Hx=>∃(v7:Option V) (T':Tg) (M:Wm) (lies:Lies),σ=[some (.ref a),v1,v2,v3,some (.ref wo),some (.ref ll),some (.ref ls),v7,some (.int th),some (.ref lg)]/\Hl X Hx T' wo ll ls M lies/\Fp M hs (12+i) w0 th lies/\T' lg=(4,0)/\Hx lg=some (.lst (M.sw.grey.map V.int))/\M.sw.grey.length<=i/\Hx cp=some (.lst (cs.map V.int))/\T' cp=(0,0)) ⟨_,T1,M,lies,rfl,⟨A,ps,l1.same s2⟩,p,t1,s2 _ _ g1,by rw[gr];exact Nat.le_refl _,c2,tcp⟩ (λi σ Hx _ ⟨_,_,_,_,_,_,_,_,_,_,hc,_⟩=>cR.of hc) ?_ ?_⟩
 ·rintro i v σ Hx hv ⟨v7,T',M,lies,rfl,st,p,tg,hlg,gl,hcp,tcp⟩;rw[dB]at hv;obtain⟨c,hc,rfl⟩:=Option.map_eq_some_iff.mp hv;have hi:=(cV hc).1;walk_at"e";refine⟨wo,ll,lg,th,ls,c,rfl,T',M,lies,hs,12+i,w0,st,p,by omega,th0,tg,hlg,by omega,λH3 T3 M3 CJ st3 p3 tg3 Zqv gl3 kp3=>?_⟩;have Zqx:=kp3.k _ _ hcp (.inl (by rw[tcp]));have Zpi:T3 cp=(0,0):=(kp3.tg _ _ hcp).trans tcp;walk_at"e";refine⟨_,_,rfl,by decide,by decide,λz hz _=>?_⟩;walk_at"e";refine pU (λ_=>?_) (λ_=>?_)
  ·walk_at"e";obtain⟨A3,ps3,l3⟩:=st3;refine⟨wo,ll,th,rfl,T3,A3,M3,ps3,CJ,l3.j,l3.aw,l3.l,p3.bs.fx.fn,by have:=p3.bs.kw.cl;omega,mkr p3,λH4 s4=>?_⟩;walk_at"e";exact⟨_,T3,M3,CJ,rfl,⟨A3,ps3,l3.same s4⟩,p3,tg3,s4 _ _ Zqv,by omega,s4 _ _ Zqx,Zpi⟩
  ·walk_at"e";exact⟨_,T3,M3,CJ,rfl,st3,p3,tg3,Zqv,by omega,Zqx,Zpi⟩
 ·rintro σ Hx ⟨v7,T',M,lies,rfl,⟨A',ps',l'⟩,p,tg,hlg,gl,hcp,tcp⟩;walk_at"e";rw[aU]at p;refine⟨wo,ll,th,rfl,T',A',M,ps',lies,l'.j,l'.aw,l'.l,p.bs.fx.fn,by have:=p.bs.kw.cl;omega,mkr p,λH4 s4=>h _⟩
theorem p15:((10:Int) ^ Int.toNat 15)=1000000000000000:=rfl
theorem Zng{a:Addr}(Tx:qU K X)(q:∃ns:List Int,cR K H a (ns.map V.int)/\ns.length<=63/\∀H',Q (.bl true) H'):
  Za9 K X.W (sX X) (Hs X) (Zd6 K) Mq (uV X) (pP X) q8 (BJ X) (Ho X) (yN X) (BP X) ⟨n,Q,bk,ct⟩ [some (.ref a),none,none,none,none,none,none,none,none,none] H:=by
 obtain⟨ns,hS,hlen,h⟩:=q;unfold Za9;walk_at"e";refine⟨a,0,rfl,ns,hS,by decide,?_⟩;walk_at"e";refine⟨_,rfl,λw t H1 w0 w1 t0 t1 s1=>?_⟩;walk_at"e";refine⟨a,1,rfl,ns,s1.seq hS,by decide,?_⟩;generalize hz1:(ns[Int.toNat 1]?).getD 0=z1;walk_at"e";have n0:=Int.emod_nonneg z1 (show(5:Int)≠0 by decide);have n1:=Int.emod_lt_of_pos z1 (show(0:Int)<5 by decide);obtain⟨nh,en⟩:=toN (x:=1+z1 % 5) (by omega);have hn1:1<=nh/\nh<=5:=by omega
 rw[en];refine⟨a,1,rfl,ns,s1.seq hS,by decide,?_⟩;rw[hz1];walk_at"e";generalize z1 / 5 % 8=ways;rw[p15];walk_at"e";refine⟨_,rfl,w,t,w0,w1,t0,t1,rfl,λki lk H4 s4 nki nlk kd=>?_⟩;have s04:=s1.trans s4;walk_at"e";refine Av ?_;walk_at"e";refine⟨_,rfl,by omega,by omega,?_⟩;refine Zkc (n:=nh) (by omega) (by omega) (λ_ y H'=>∃b nm,y=.ref b/\H' b=some (.tup [.str nm,.int 3])) (λ_ _ _ _ ⟨b,nm,e,hb⟩ s=>⟨b,nm,e,s _ _ hb⟩) (λi H' q hq=>by walk_at"e";exact hq) (λi H5 hi s5 q' hq=>?_) (λys H5 s5 yl hy hl0 Zru=>?_)
 ·walk_at"c";walk_at"e";have i2:(i:Int) % 2=0\/(i:Int) % 2=1:=by omega
  obtain⟨ch,hch⟩:∃ch:Nat,atI ("ab":Str).cps.toList ((i:Int) % 2)=some ch:=by
   rcases i2 with e | e<;>rw[e]
   ·exact⟨97,rfl⟩
   ·exact⟨98,rfl⟩
  refine Zqh (z:="ab") (by decide) hch ?_;walk_at"e";refine Znt (by omega) (by omega) (by show 1<=1000;decide) λnm _ _=>?_;walk_at"e";refine⟨by show 2<=_;decide,λtp htp=>?_⟩;exact hq _ _ (aL htp _) ⟨tp,nm,rfl,ao⟩
 obtain⟨ts,hs,rfl,hsl,hs3,al⟩:=hands_of hy;rw[yl]at hsl;generalize zz:upd H5 hl0 _=H6;obtain⟨s6,g6⟩:=nwO Zru zz;have kd6:=(kd.same s5).same s6;have s46:=s5.trans s6;have s06:=s04.trans s46;have hb:HsB hs:=⟨by omega,by omega,λm hm=>by rw[hs3 m hm];decide⟩;walk_at"e";intro wo dx nwo ndx ned;have s7:bC H6 (upd (upd H6 dx (.own wo)) wo (.ins X.W dx [])):=λb o hb=>by rw[aA (aB hb nwo),aA (aB hb ndx)];exact hb
 have g7:upd (upd H6 dx (.own wo)) wo (.ins X.W dx []) wo=some (.ins X.W dx []):=ao;generalize upd (upd H6 dx (.own wo)) wo (.ins X.W dx [])=H7 at s7 g7 ⊢;have kd7:=kd6.same s7;have nkw:ki≠wo:=by
  obtain⟨⟨_,e⟩,_⟩:=kd6;exact aB e nwo
 have nlw:lk≠wo:=by
  obtain⟨_,⟨_,e⟩⟩:=kd6;rcases e with ⟨_,e⟩ | ⟨_,e⟩ | ⟨_,e⟩
  ·exact aB e nwo
  ·exact aB e nwo
  ·exact aB e nwo
 have al7:Al (λ(t:Addr) (m:Str×Int)=>H7 t=some (.tup [.str m.1,.int m.2])/\0<=m.2/\m.2<=1000) ts hs:=by
  clear hsl yl hy hb g6;have:∀{ts:List Addr}{hs:RZ},(∀m∈hs,m.2=3)->Al (λ(t:Addr) (m:Str×Int)=>H5 t=some (.tup [.str m.1,.int m.2])) ts hs->Al (λ(t:Addr) (m:Str×Int)=>H7 t=some (.tup [.str m.1,.int m.2])/\0<=m.2/\m.2<=1000) ts hs:=by
   intro ts hs h3 al
   induction al with
   | nil=>exact .nil
   | cons h t ih=>
    refine .cons ⟨?_,by rw[h3 _ List.mem_cons_self];decide,by rw[h3 _ List.mem_cons_self];decide⟩ (ih λm hm=>h3 m (List.mem_cons_of_mem _ hm));exact s7 _ _ (s6 _ _ h)
  exact this hs3 al
 refine⟨wo,_,ki,hl0,rfl,dx,λ_=>(0,0),1,lk,w,t,ts,hs,g7,λ_ _=>rfl,by decide,kd7,rfl,rfl,nkw,nlw,s7 _ _ g6,al7,by omega,λH8 T8 A8 k8 t8 w8 aw8 j8=>⟨rfl,?_⟩⟩;have s68:bC H6 H8:=λb o hb=>k8 b o (s7 _ _ hb) (aB hb nwo);have s08:bC H H8:=s06.trans s68;have hSk:∀{Hy Hz:Hp}{Ty Tz:Tg},bC H8 Hy->(∀b o,H8 b=some o->Ty b=T8 b)->Kp Hy Hz Ty Tz->cR K Hz a (ns.map V.int):=λ{Hy Hz Ty Tz} sy ty kp=>by
  rcases id hS with (ha | ⟨o,ha⟩) | hf
  ·have h6:=s06 _ _ ha;have h8:=s08 _ _ ha;exact .inl (.inl (kp.k _ _ (sy _ _ h8) (.inl (by rw[ty _ _ h8,t8 _ _ (s7 _ _ h6) (aB h6 nwo)]))))
  ·have h6:=s06 _ _ ha;have h8:=s08 _ _ ha;exact .inl (.inr ⟨o,kp.k _ _ (sy _ _ h8) (.inl (by rw[ty _ _ h8,t8 _ _ (s7 _ _ h6) (aB h6 nwo)]))⟩)
  ·exact .inr hf
 clear k8 t8 s7 g7 kd7 kd6 s6 al7 g6;generalize hM:Yp 1000000000000000 hs w t=M0 at j8;have bs0:Bs M0 hs 0 w:=by rw[<- hM];exact Bs.new (by omega) hs3 w0 w1 t0 t1
 have cl0:Cl M0:=by
  rw[<- hM];intro m hm x hx;obtain⟨m',_,rfl⟩:=List.mem_map.mp hm;exact List.eq_of_mem_replicate hx
 have hh0:M0.hands.length=nh:=by
  rw[<- hM];show(hs.map _).length=nh;rw[aU];exact hsl
 have sw0:M0.sw.turn=0/\M0.sw.sense=0/\M0.sw.grey=[]/\M0.sw.phase="rest":=by rw[<- hM];exact⟨rfl,rfl,rfl,rfl⟩
 have bn0:M0.born=0:=by rw[<- hM];rfl
 have cs0:M0.cells=[]:=by rw[<- hM];rfl
 walk_at"e";refine⟨by decide,λll nll=>?_⟩;have s9:=aL nll (.lst []);have f9:∀b o,H8 b=some o->fG T8 ll (3,0) b=T8 b:=λb o hb=>iW (aB hb nll);have w9:WT (upd H8 ll (.lst [])) (fG T8 ll (3,0)):=HF (w8.same s9) ao;have j9:WJ X (upd H8 ll (.lst [])) (fG T8 ll (3,0)) 1 A8 M0:=j8.fresh nll;have lw9:Lw (upd H8 ll (.lst [])) (fG T8 ll (3,0)) ll [] []:=⟨eX,ao,rfl,λk p c e1 _=>by simp at e1,λk p c e1 _=>by simp at e1⟩;generalize upd H8 ll (.lst [])=H9 at s9 w9 j9 lw9 ⊢;generalize fG T8 ll (3,0)=T9 at f9 w9 j9 lw9;walk_at"e";refine⟨by show 1<=_;decide,λls nls=>?_⟩;have s10:=aL nls (.lst [.int 0]);have f10:∀b o,H9 b=some o->fG T9 ls (5,0) b=T9 b:=λb o hb=>iW (aB hb nls);have l10:L4 X (upd H9 ls (.lst [.int 0])) (fG T9 ls (5,0)) A8 M0 wo ll ls [] [] M0.born:=⟨HF (w9.same s10) ao,j9.fresh nls,aw8,lw9.mv (λb o hb _=>s10 _ _ hb) f10,eX,by rw[bn0];exact ao⟩;generalize upd H9 ls (.lst [.int 0])=H10 at s10 l10 ⊢;generalize fG T9 ls (5,0)=T10 at f10 l10;have Zpp:=s9.trans s10;have Zoo:∀b o,H8 b=some o->T10 b=T8 b:=λb o hb=>(f10 _ _ (s9 _ _ hb)).trans (f9 _ _ hb);have fp0:Fp M0 hs 0 w 0 []:=⟨bs0,⟨by rw[cs0];rfl,λk hk=>absurd hk (Nat.not_lt_zero _)⟩,by rw[if_pos rfl];exact sw0.2.2.2⟩;walk_at"e";refine⟨a,_,rfl,(s08.trans Zpp).seq hS,λcp hcp=>?_⟩;have ec:Zf (ns.map V.int) (some 2) (some 14)=((ns.drop (HT.m7 ns.length 0 (some 2))).take (HT.m7 ns.length ns.length (some 14) - HT.m7 ns.length 0 (some 2))).map V.int:=by
  unfold Zf;rw[List.map_take,List.map_drop,aU]
 rw[ec];generalize hcs:(ns.drop (HT.m7 ns.length 0 (some 2))).take (HT.m7 ns.length ns.length (some 14) - HT.m7 ns.length 0 (some 2))=cs;have lcs:cs.length<=12:=by
  rw[<- hcs,List.length_take,List.length_drop];unfold HT.m7;simp;omega
 generalize zz:upd H10 cp _=H11;obtain⟨s11,c11⟩:=nwO hcp zz;have tcp:=l10.w _ hcp;have Zms:=Zpp.trans s11;refine⟨cp,rfl,⟨_,cR.of c11⟩,forL (cs.map V.int) (λi σ Hx=>∃(v7:Option V) (T':Tg) (M:Wm) (lies:Lies),σ=[some (.ref a),some (.str (words w t)),some (.int (nh:Int)),some (.int ways),some (.ref wo),some (.ref ll),some (.ref ls),v7,none,none]/\Hl X Hx T' wo ll ls M lies/\Fp M hs i w 0 lies/\M.sw=M0.sw/\M.hands=M0.hands/\Kp H11 Hx T10 T') ⟨none,T10,M0,[],rfl,⟨A8,[],l10.same s11⟩,fp0,rfl,rfl,Kp.same (bC.refl _)⟩ (λi σ Hx _ ⟨_,_,_,_,_,_,_,_,_,kp⟩=>cR.of (kp.k _ _ c11 (.inl (by rw[tcp])))) ?_ ?_⟩
 ·rintro i v σ Hx hv ⟨v7,T',M,lies,rfl,st,p,sw,hh,kp⟩;rw[dB]at hv;obtain⟨c,hc,rfl⟩:=Option.map_eq_some_iff.mp hv;have hi:=(cV hc).1;walk_at"e";refine⟨wo,ll,ls,c,_,rfl,T',M,lies,hs,i,w,0,st,p,by omega,by rw[if_pos rfl];decide,λH' T2 M' cT st' p' sw' hh' kp' _=>?_⟩;walk_at"e";exact⟨_,T2,M',cT,rfl,st',p',sw'.trans sw,hh'.trans hh,kp.trans kp'⟩
 ·rintro σ Hx ⟨v7,T',M,lies,rfl,st,p,sw,hh,kp⟩;rw[aU]at p;have p12:=p.mono lcs;have hSx:=hSk Zms (λb o hb=>Zoo b o hb) kp;walk_at"e";refine⟨a,1,rfl,ns,hSx,by decide,?_⟩;rw[hz1];walk_at"e";refine⟨wo,ll,_,z1,rfl,T',ls,M,lies,hs,w,nh,rfl,st,⟨p12.bs,by rw[hh];exact hh0,p12.rl.imp λ_ _ _ _ _=>trivial,by rw[sw];exact sw0.2.2.2,by rw[sw];exact sw0.1,by rw[sw];exact sw0.2.1,by rw[sw];exact sw0.2.2.1⟩,hb,by unfold Cl;rw[hh];exact cl0,λH' T2 M' cT st' ct' rp' kp'=>?_⟩;have kp2:=kp.trans kp';have hSy:=hSk Zms (λb o hb=>Zoo b o hb) kp2;have r0:=Int.emod_nonneg (z1 / 40) (show(3:Int)≠0 by decide);walk_at"e";refine pU (λhw=>?_) (λhw=>?_)
  ·walk_at"s";refine Kf ?_;walk_at"s";refine⟨a,1,rfl,ns,hSy,by decide,?_⟩;rw[hz1];walk_at"s";obtain⟨A',ps',l'⟩:=st';refine⟨wo,rfl,T2,1,A',M',l'.w,by decide,l'.j,l'.aw,λH3 T3 A3 st3 j3 aw3=>?_⟩;have l3:=l'.deed st3 j3 aw3.1;have kp3:=kp2.trans (Kp.stp st3 ⟨by decide,by decide⟩);have hSz:=hSk Zms (λb o hb=>Zoo b o hb) kp3;obtain⟨bB,rB⟩:=Zel ct'.bs ct'.ph rp';walk_at"s";refine⟨wo,_,_,_,rfl,T3,A3,gW M',w,t,nh,j3,aw3.1,rfl,w0,w1,t0,t1,rfl,by omega,rfl,rfl,?_,?_,?_,rfl,rfl,rfl,λH4 s4=>?_⟩
   ·show M'.sw.turn+1=_;rw[ct'.tn];omega
   ·show 1 - M'.sw.sense=_;rw[ct'.se];omega
   ·show bM M'.w M'.hands.length=_;rw[ct'.hl,ct'.bs.tb.ww]
   walk_at"s";exact Yy Tx (s4.seq hSz) hlen ⟨A3,ps',(l3.same s4)⟩ ⟨bB,rB.imp λi c k _ z=>by unfold Pt;rw[if_neg (by omega)];exact z,by rw[if_neg (by omega)];rfl⟩ (by omega) rfl h
  ·exact Yy Tx hSy hlen st' ⟨ct'.bs,rp'.imp λi c k _ z=>by unfold Pt;rw[if_pos rfl,z];decide,by rw[if_pos rfl];exact ct'.ph⟩ (by decide) ct'.gr h
end
def top(i:Nat):Stmt:=PySem.Challenge.pw_greywalk_k14_noting.main.body.getD i (.Pass ⟨0,0,0,0⟩)
abbrev rJ:Stmt:=inClass (top 5) 0
abbrev xQ:Stmt:=inClass (top 5) 1
abbrev rG:Stmt:=inClass (top 6) 0
abbrev uI:Stmt:=inClass (top 6) 1
abbrev Dp:Stmt:=inClass (top 6) 2
abbrev zP:Stmt:=inClass (top 6) 3
abbrev zO:Stmt:=inClass (top 6) 4
abbrev xO:Stmt:=inClass (top 6) 5
abbrev Ij:Stmt:=top 7
abbrev Dl:Stmt:=top 8
abbrev rH:Stmt:=inClass (top 10) 0
abbrev oF:Stmt:=inClass (top 11) 0
abbrev qb:Stmt:=inClass (top 12) 0
abbrev Za4:Stmt:=top 13
abbrev zH:Stmt:=top 14
abbrev zF:Stmt:=top 15
abbrev zG:Stmt:=top 16
abbrev xu:Stmt:=top 17
abbrev Ih:Stmt:=top 18
abbrev xj:Stmt:=top 19
abbrev zE:Stmt:=top 20
abbrev UG:Stmt:=top 21
abbrev Za3:Stmt:=top 22
abbrev Dj:Stmt:=top 23
abbrev Za5:Stmt:=top 24
abbrev Uz:Stmt:=top 25
abbrev Ie:Stmt:=top 26
abbrev Nj:Stmt:=top 30
abbrev oG:Stmt:=inClass (top 31) 2
abbrev nA:Stmt:=inClass (top 31) 3
abbrev rE:Stmt:=inClass (top 31) 4
abbrev xP:Stmt:=inClass (top 32) 0
abbrev qe:Stmt:=inClass (top 32) 2
abbrev zQ:Stmt:=inClass (top 33) 0
abbrev qg:Stmt:=inClass (top 33) 2
abbrev zN:Stmt:=inClass (top 34) 0
abbrev qd:Stmt:=inClass (top 34) 2
abbrev xM:Stmt:=inClass (top 34) 3
abbrev rF:Stmt:=inClass (top 35) 0
abbrev xN:Stmt:=inClass (top 35) 2
abbrev Ii:Stmt:=top 36
abbrev Ig:Stmt:=top 38
abbrev Nh:Stmt:=top 39
abbrev xr:Stmt:=top 41
abbrev tO:Stmt:=top 42
abbrev tL:Stmt:=top 43
abbrev Za1:Stmt:=top 44
abbrev vg:Stmt:=top 45
abbrev Zff:Stmt:=top 46
abbrev xx:Stmt:=top 47
abbrev Dk:Stmt:=top 48
abbrev xm:Stmt:=top 49
abbrev tM:Stmt:=top 50
abbrev xq:Stmt:=top 51
abbrev s_end:Stmt:=top 52
abbrev p7:Stmt:=top 53
abbrev Za2:Stmt:=top 55
abbrev Dm:Stmt:=top 57
abbrev tR:Stmt:=top 58
abbrev uH:Stmt:=top 59
abbrev Dn:Stmt:=top 60
abbrev zL:Stmt:=top 61
abbrev xK:Stmt:=top 62
abbrev xH:Stmt:=top 63
abbrev xJ:Stmt:=top 64
abbrev zK:Stmt:=top 65
abbrev xG:Stmt:=top 66
abbrev zJ:Stmt:=top 67
abbrev zM:Stmt:=top 68
abbrev p8:Stmt:=top 69
abbrev tQ:Stmt:=top 70
abbrev xF:Stmt:=top 71
abbrev vh:Stmt:=top 72
abbrev Ni:Stmt:=top 73
structure Hh(P:Program)(w:World)(K:aC)(mg:Str->Option Value)(base:Heap)(n:Nat)(f:Addr)(fd:FuncData)(ps:List Str)(sp:Sp):Prop where
 g:uE P w K mg base (G.CXe P w) n f fd ps sp
 b:Binds K fd ps []
 k:W.keepIn K (.ref f)=true
theorem hh{P:Program}{w:World}{K:aC}{mg:Str->Option Value}{base:Heap}{n:Nat}{f:Addr}{fd:FuncData}{ps:List Str}{sp:Sp}(g:uE P w K mg base (G.CXe P w) n f fd ps sp)(b:Binds K fd ps [])(k:W.keepIn K (.ref f)=true):Hh P w K mg base n f fd ps sp:=⟨g,b,k⟩
abbrev mK(P:Program)(w:World)(K:aC)(mg:Str->Option Value)(base:Heap)(n:Nat)(f:Addr)(fd:FuncData)(ps:List Str)(sp:Sp):Prop:=uE P w K mg base (G.CXe P w) n f fd ps sp
theorem jC{X:Cx}{n k:Nat}{f:Addr}{fd:FuncData}{ps:List Str}{sp:Sp}{x:Str}{e:Expr}{es:List Expr}{t:TA}{p pos:Pos}(g0:Hh X.prog X.w X.K X.mg X.base n f fd ps sp)(hr:Room k X.A)(hm:X.mg x=some (.ref f))(ha:PA X (e::es) t)(hn:n<=k:=by decide)(hg:X.env.kindOf x=some .globalImplicit:=by rfl)(hdb:(x == ("__debug__":Str))=false:=by decide)(he:starEach (e::es) X.env=(false,eval e X.env)::starEach es X.env:=by rfl)(hpl:(backTo pos (starEach es X.env)).any (·.1)=false:=by rfl):PE X (.Call (.Name x p) (e::es) [] pos) (aZ sp [] E0 t):=U5 g0.g (hr.mono hn) hg hm g0.k g0.b .nil G.eF ha hdb he hpl
theorem d8{N P:List Str}{sc:Scope}(a:sc.kind=.function:=by rfl)(b:sc.isCoroutine=false:=by rfl)(c:sc.isGenerator=false:=by rfl)(d:N.Nodup:=by decide +kernel)(e:N.take P.length=P:=by rfl)(f:∀x∈P,sc.names.lookup x=some .local\/sc.names.lookup x=some .cell:=by decide +kernel)(g:∀y∈sc.names,y.2≠.free:=by decide +kernel):aO N P sc:=⟨a,b,c,d,e,f,g⟩
structure Txt(w:World)(K:aC)(mg:Str->Option Value)(bw aQ jU bA eZ cX dW fc ji lR dH fP dF gB jw gD iQ fO iZ jQ dG cH cY wC iJ jm dY iu kZ ig jl pO um ju wD qT lZ mW bK bR cI gw dM iR dN iM dJ gm dD gq mq mj nR gh cQ cM wA fX Dc iw jP gf cP ir CZ bQ wB gj fL di jR jq iD gk iC iK iB jo jr dI fK iy fY:Addr):Prop where
 Sg:G.Tab K w mg "STEPS" [("rest",cQ),("walk",cM),("give",cP),("lost",bQ)]
 d9:De K bw
 Zgx:mg "Cell"=some (.ref bw)
 Ma:Mk K bw dH
 d7:bD K bw "birth"
 lC:bD K bw "bulk"
 lB:bD K bw "tone"
 mR:bD K bw "load"
 fW:bD K bw "fields"
 Mj:G.EqD K bw
 cC:De K aQ
 Zgt:mg "Heap"=some (.ref aQ)
 LK:Mk K aQ dF
 mQ:bD K aQ "room"
 bJ:bD K aQ "cells"
 iH:bD K aQ "used"
 lA:bD K aQ "born"
 Zd2:De K jU
 Zgu:mg "Hand"=some (.ref jU)
 LQ:Mk K jU dG
 uP:bD K jU "name"
 sO:bD K jU "slots"
 Pa:De K bA
 S6:mg "Sweeper"=some (.ref bA)
 yx:Mk K bA cH
 nZ:bD K bA "sense"
 ou:bD K bA "phase"
 pI:bD K bA "grey"
 nj:bD K bA "looked"
 pF:bD K bA "turn"
 sI:bD K bA "at"
 pG:bD K bA "stop"
 nY:bD K bA "walks"
 oA:bD K bA "looks"
 m9:bD K bA "passes"
 pH:bD K bA "loss"
 Zi:De K eZ
 Zco:mg "World"=some (.ref eZ)
 FJ:Mk K eZ cY
 sH:bD K eZ "heap"
 sG:bD K eZ "kind"
 qQ:bD K eZ "hands"
 qP:bD K eZ "names"
 nW:bD K eZ "sweeper"
 wQ:De K cX
 Zcp:mg "First"=some (.ref cX)
 SN:G.Mk0 K cX
 By:De K dW
 Zgw:mg "Each"=some (.ref dW)
 Yr:G.Mk0 K dW
 Bx:De K fc
 Zgr:mg "Last"=some (.ref fc)
 Yq:G.Mk0 K fc
 Wo:De K ji
 Zgs:mg "Kind"=some (.ref ji)
 LC:Mk K ji dD
 pJ:bD K ji "looking"
 sJ:bD K ji "tells"
 Zgv:mg "Full"=some (.ref lR)
 TV:G.Zrh K lR
 wM:Meth K dW "at_begin" bK
 vV:Meth K dW "stays" cI
 uf:Meth K cX "next_look" bR
 ue:Meth K cX "stays" cI
 wL:Meth K fc "at_begin" bK
 Ji:Meth K bw "__init__" dH
 qR:Meth K bw "units" fP
 Jg:Meth K aQ "__init__" dF
 FQ:Meth K aQ "make" gB
 J1:Meth K aQ "lay" jw
 yz:Meth K aQ "back" gD
 FT:Meth K aQ "free" iQ
 vU:Meth K aQ "there" fO
 tE:mg "cell_at"=some (.ref iZ)
 Og:mg "birth_at"=some (.ref jQ)
 Jh:Meth K jU "__init__" dG
 Cd:Meth K bA "__init__" cH
 FN:Meth K eZ "__init__" cY
 Zgp:mg "held"=some (.ref wC)
 Am:mg "births_at"=some (.ref iJ)
 J3:mg "looked_at"=some (.ref jm)
 lD:mg "has_sense"=some (.ref dY)
 Gb:mg "is_walking"=some (.ref iu)
 Jl:mg "mark_of"=some (.ref kZ)
 FZ:mg "told_cells"=some (.ref ig)
 J2:mg "told_cell"=some (.ref jl)
 Vr:mg "begin"=some (.ref pO)
 Zay:mg "note"=some (.ref um)
 DN:mg "note_all"=some (.ref ju)
 Zgq:mg "gone"=some (.ref wD)
 Zcn:mg "roots"=some (.ref qT)
 SQ:mg "root_of"=some (.ref lZ)
 Oh:mg "all_of"=some (.ref mW)
 Cg:Meth K dW "at_begin" bK
 Ak:Meth K cX "next_look" bR
 Je:Meth K dW "stays" cI
 Cy:Meth K cX "word" gw
 uR:Meth K cX "at_begin" dM
 FW:Meth K dW "word" iR
 uT:Meth K dW "next_look" dN
 FP:Meth K fc "word" iM
 uQ:Meth K fc "next_look" dJ
 vR:Meth K fc "stays" gm
 Jf:Meth K ji "__init__" dD
 Cw:Meth K ji "words" gq
 S5:mg "kind_of"=some (.ref mq)
 SX:mg "reached"=some (.ref mj)
 Od:mg "onward"=some (.ref nR)
 yD:mg "note_hands"=some (.ref gh)
 Oc:mg "step_at_rest"=some (.ref cQ)
 Oa:mg "step_in_walk"=some (.ref cM)
 Zgn:mg "walk"=some (.ref wA)
 Cz:mg "look_or_cut"=some (.ref fX)
 Zm0:mg "cut"=some (.ref Dc)
 Gd:mg "first_loss"=some (.ref iw)
 Oe:mg "given_up"=some (.ref jP)
 yC:mg "told_again"=some (.ref gf)
 Ob:mg "step_in_give"=some (.ref cP)
 Ga:mg "pass_place"=some (.ref ir)
 Zlz:mg "end"=some (.ref CZ)
 Jk:mg "step_when_lost"=some (.ref bQ)
 Zgo:mg "step"=some (.ref wB)
 mU:mg "_law_mix"=some (.ref gj)
 kW:mg "_law_cell_at"=some (.ref fL)
 fU:mg "_law_same"=some (.ref di)
 Oi:mg "_law_all"=some (.ref jR)
 J5:mg "_law_kind"=some (.ref jq)
 Gh:mg "_law_began"=some (.ref iD)
 sS:mg "_law_marks"=some (.ref gk)
 Gg:mg "_law_least"=some (.ref iC)
 Ao:mg "_law_make"=some (.ref iK)
 Gf:mg "_law_noted"=some (.ref iB)
 J4:mg "_law_turn"=some (.ref jo)
 J6:mg "_law_hold"=some (.ref jr)
 gQ:mg "_law_turned_to"=some (.ref dI)
 An:mg "_law_stepped"=some (.ref fK)
 Ge:mg "_law_round"=some (.ref iy)
 CG:mg "_law_rounds"=some (.ref fY)
 Mw:mg "bool"=none
 oO:mg "enumerate"=none
 Mv:mg "int"=none
 bV:mg "isinstance"=none
 jj:mg "len"=none
 tH:mg "list"=none
 jA:mg "range"=none
 Mu:mg "str"=none
 wY:mg "tuple"=none
 Zm7:G.GC mg "NEW" (.int 2)
 Zm6:G.GC mg "OLD" (.int 1)
abbrev rW:List Str:=["self","birth","many","bulk","tone"]
abbrev rT:List Str:=["self","room"]
abbrev Ac:List Str:=["self","many","bulk","tone"]
abbrev DG:List Str:=["self","cell"]
abbrev uM:List Str:=["self","place"]
abbrev qx:List Str:=["heap","place"]
abbrev Dy:List Str:=["heap","place"]
abbrev rU:List Str:=["self","name","many"]
abbrev qy:List Str:=["self","room","kind","hands"]
abbrev uK:List Str:=["heap","places"]
abbrev z8:List Str:=["world","hand"]
abbrev jH:List Str:=["world","cell"]
abbrev Br:List Str:=["world","place"]
abbrev z7:List Str:=["world","place"]
abbrev U7:List Str:=["world","place"]
abbrev ym:List Str:=["world","places"]
abbrev Zah:List Str:=["world","place","birth"]
abbrev Ir:List Str:=["world","place","birth"]
abbrev oK:List Str:=["self","hands"]
abbrev nH:List Str:=["self","looked","hands"]
abbrev qC:List Str:=["self","hands"]
abbrev qD:List Str:=["self","looked","hands"]
abbrev qz:List Str:=["self","looked","hands"]
abbrev rR:List Str:=["self","looking","tells"]
abbrev Iu:List Str:=["heap","rows"]
abbrev Ny:List Str:=["heap","places","way"]
abbrev su:List Str:=["world","hands"]
abbrev oJ:List Str:=["_law_cell","_law_factor"]
abbrev tZ:List Str:=["_law_script","_law_k"]
abbrev jJ:List Str:=["_law_found","_law_due"]
abbrev Dz:List Str:=["_law_hands"]
abbrev Aa:List Str:=["_law_cell"]
abbrev yr:List Str:=["_law_world","_law_word","_law_turn_here","_law_hands"]
abbrev sE:List Str:=["_law_world","_law_lies","_law_turn_here"]
abbrev yq:List Str:=["_law_lies"]
abbrev uL:List Str:=["_law_world","_law_lies","_law_state","_law_cell","_law_mark"]
abbrev yp:List Str:=["_law_world","_law_lies","_law_grey","_law_turn_here","_law_place"]
abbrev z9:List Str:=["_law_world","_law_lies","_law_grey","_law_turn_here","_law_state","_law_cell"]
abbrev Ab:List Str:=["_law_world","_law_lies","_law_hands","_law_cell"]
abbrev m8:List Str:=["_law_lies","_law_births","_law_mark"]
abbrev tY:List Str:=["_law_lies","_law_holds","_law_event"]
abbrev yo:List Str:=["_law_world","_law_lies","_law_holds"]
abbrev vP:List Str:=["_law_world","_law_lies","_law_hands","_law_cell"]
theorem Ib:aO ["self","birth","many","bulk","tone"] rW (aH rJ):=d8
theorem Qt:aO ["self"] ["self"] (aH xQ):=d8
theorem HY:aO ["self","room"] rT (aH rG):=d8
theorem Uv:aO ["self","many","bulk","tone","cell"] Ac (aH uI):=d8
theorem Xw:aO ["self","cell","place"] DG (aH Dp):=d8
theorem Ux:aO ["self","place","cell"] uM (aH zP):=d8
theorem Uw:aO ["self"] ["self"] (aH zO):=d8
theorem Qq:aO ["self"] ["self"] (aH xO):=d8
theorem Z9:aO ["heap","place"] qx (aH Ij):=d8
theorem Xr:aO ["heap","place","cell"] Dy (aH Dl):=d8
theorem Ia:aO ["self","name","many"] rU (aH rH):=d8
theorem BW:aO ["self"] ["self"] (aH oF):=d8
theorem Eu:aO ["self","room","kind","hands"] qy (aH qb):=d8
theorem Zix:aO ["world"] ["world"] (aH Za4):=d8
theorem Up:aO ["heap","places"] uK (aH zH):=d8
theorem Um:aO ["world","hand"] z8 (aH zF):=d8
theorem Uo:aO ["world","cell"] jH (aH zG):=d8
theorem Qh:aO ["world"] ["world"] (aH xu):=d8
theorem Z7:aO ["world","place","sweeper","toned"] Br (aH Ih):=d8
theorem Qd:aO ["world"] ["world"] (aH xj):=d8
theorem Ul:aO ["world","place","cell","fields"] z7 (aH zE):=d8
theorem Zfa:aO ["world","sweeper"] ["world"] (aH UG):=d8
theorem Ziw:aO ["world","place","sweeper","cell"] U7 (aH Za3):=d8
theorem Xp:aO ["world","places","births","place","birth"] ym (aH Dj):=d8
theorem Ziy:aO ["world","place","birth","cell"] Zah (aH Za5):=d8
theorem Zf9:aO ["world"] ["world"] (aH Uz):=d8
theorem Z5:aO ["world","place","birth"] Ir (aH Ie):=d8
theorem Zdi:aO ["hands"] ["hands"] (aH Nj):=d8
theorem BX:aO ["self","hands"] oK (aH oG):=d8
theorem zB:aO ["self","looked","hands"] nH (aH nA):=d8
theorem HW:aO ["self"] ["self"] (aH rE):=d8
theorem Qs:aO ["self"] ["self"] (aH xP):=d8
theorem Ey:aO ["self","hands"] qC (aH qe):=d8
theorem Uy:aO ["self"] ["self"] (aH zQ):=d8
theorem Ez:aO ["self","looked","hands","hand"] qD (aH qg):=d8
theorem Uu:aO ["self"] ["self"] (aH zN):=d8
theorem Ew:aO ["self","looked","hands"] qz (aH qd):=d8
theorem Qo:aO ["self"] ["self"] (aH xM):=d8
theorem HX:aO ["self","looking","tells"] rR (aH rF):=d8
theorem Qp:aO ["self","text"] ["self"] (aH xN):=d8
theorem Z8:aO ["text","looking","tells","kind"] ["text"] (aH Ii):=d8
theorem Z6:aO ["heap","rows","queue","number","row","listed","taken","place","way"] Iu (aH Ig):=d8
theorem Zdh:aO ["heap","places","way"] Ny (aH Nh):=d8
theorem Qg:aO ["world","hands","noted","number","hand"] su (aH xr):=d8
theorem K1:aO ["world","noted"] ["world"] (aH tO):=d8
theorem KY:aO ["world"] ["world"] (aH tL):=d8
theorem Ziu:aO ["world","sweeper","cell"] ["world"] (aH Za1):=d8
theorem M9:aO ["world","sweeper","looking","hands","noted"] ["world"] (aH vg):=d8
theorem Zmr:aO ["world","sweeper","loss","births"] ["world"] (aH Zff):=d8
theorem Qi:aO ["world","place","way","cell"] ["world"] (aH xx):=d8
theorem Xq:aO ["world","heap"] ["world"] (aH Dk):=d8
theorem Qe:aO ["event"] ["event"] (aH xm):=d8
theorem KZ:aO ["world"] ["world"] (aH tM):=d8
theorem Qf:aO ["world","sweeper","place","cell"] ["world"] (aH xq):=d8
theorem Zmq:aO ["world","sweeper"] ["world"] (aH s_end):=d8
theorem Er:aO ["world"] ["world"] (aH p7):=d8
theorem Ziv:aO ["world","act"] ["world"] (aH Za2):=d8
theorem Xu:aO ["_law_cell","_law_factor","_law_mixed"] oJ (aH Dm):=d8
theorem K4:aO ["_law_script","_law_k"] tZ (aH tR):=d8
theorem Et:aO ["_law_found","_law_due","_law_k"] jJ (aH uH):=d8
theorem Xv:aO ["_law_hands","_law_total","_law_bit","_law_turn_here"] Dz (aH Dn):=d8
theorem Us:aO ["_law_cell","_law_word"] Aa (aH zL):=d8
theorem Qn:aO ["_law_world","_law_word","_law_turn_here","_law_hands","_law_sweeper","_law_due","_law_found","_law_hand"] yr (aH xK):=d8
theorem Ql:aO ["_law_world","_law_lies","_law_turn_here","_law_due","_law_place","_law_one","_law_mark"] sE (aH xH):=d8
theorem Qm:aO ["_law_lies","_law_place"] yq (aH xJ):=d8
theorem Ur:aO ["_law_world","_law_lies","_law_state","_law_cell","_law_mark","_law_many","_law_bulk","_law_place","_law_due"] uL (aH zK):=d8
theorem Qk:aO ["_law_world","_law_lies","_law_grey","_law_turn_here","_law_place","_law_due"] yp (aH xG):=d8
theorem Uq:aO ["_law_world","_law_lies","_law_grey","_law_turn_here","_law_state","_law_cell","_law_what","_law_place","_law_due"] z9 (aH zJ):=d8
theorem Ut:aO ["_law_world","_law_lies","_law_hands","_law_cell","_law_found","_law_place","_law_slots"] Ab (aH zM):=d8
theorem Es:aO ["_law_lies","_law_births","_law_mark","_law_one"] m8 (aH p8):=d8
theorem K3:aO ["_law_lies","_law_holds","_law_event","_law_word","_law_thing","_law_births","_law_place","_law_there","_law_lone"] tY (aH tQ):=d8
theorem Qj:aO ["_law_world","_law_lies","_law_holds","_law_turn_here","_law_event"] yo (aH xF):=d8
theorem Nb:aO ["_law_world","_law_lies","_law_hands","_law_cell","_law_turn_here","_law_hand","_law_slots","_law_slot"] vP (aH vh):=d8
theorem Zmp:aO ["_law_script","_law_word","_law_hands","_law_ways","_law_world","_law_lies","_law_state","_law_cell","_law_turn_here","_law_grey"] ["_law_script"] (aH Ni):=d8
section
variable (P:Program){w:World}{K:aC}{mg:Str->Option Value}(base:Heap){lR dH fP dF gB jw gD iQ fO iZ jQ dG cH cY wC iJ jm dY iu kZ ig jl pO um ju wD qT lZ mW bK bR cI gw dM iR dN iM dJ gm dD gq mq mj nR gh cQ cM wA fX Dc iw jP gf cP ir CZ bQ wB gj fL di jR jq iD gk iC iK iB jo jr dI fK iy fY:Addr}(XQ:Cs)(T:Txt w K mg XQ.C XQ.H XQ.D XQ.S XQ.W XQ.F XQ.E XQ.L XQ.K lR dH fP dF gB jw gD iQ fO iZ jQ dG cH cY wC iJ jm dY iu kZ ig jl pO um ju wD qT lZ mW bK bR cI gw dM iR dN iM dJ gm dD gq mq mj nR gh cQ cM wA fX Dc iw jP gf cP ir CZ bQ wB gj fL di jR jq iD gk iC iK iB jo jr dI fK iy fY)
include T
theorem mJ:qU K XQ:=⟨⟨T.d9,T.d7,T.lC,T.lB,T.mR,T.fW,T.cC,T.mQ,T.bJ,T.iH,T.lA,T.Mj⟩,T.Zi,T.sH,T.sG,T.qQ,T.qP,T.nW,T.Zd2,T.uP,T.sO,T.Wo,T.pJ,T.sJ,T.Pa,T.nZ,T.ou,T.pI,T.nj,T.pF,T.sI,T.pG,T.nY,T.oA,T.m9,T.pH⟩
theorem IW{fd:FuncData}(F:jX K "__init__" "Cell.__init__" rJ dH fd):mK P w K mg base 1 dH fd rW (u6 XQ.C):=by
 have sc:=Ib;have tx:=mJ _ T;refine G.mG F sc (λvs H Q E h=>?_) (λcdv A outer s H vs Q E hr h=>?_)
 ·obtain⟨z0,z1,z2,z3,z4,rfl,q⟩:=h;rfl
 ·refine⟨qt K,(aq (cA (pv 0) (pv 1) rfl)
   (aq (cA (pv 0) (pv 3) rfl)
   (aq (cA (pv 0) (pv 4) rfl)
   (aq (cA (pv 0) (aG) rfl)
   (az (cA (pv 0) (bU Zak (gP (aa (dg) au)) (pv 2)) rfl)))))),?_⟩
  obtain⟨z0,z1,z2,z3,z4,rfl,q⟩:=h;exact JW tx.c q
theorem QT{fd:FuncData}(F:jX K "units" "Cell.units" xQ fP fd):mK P w K mg base 1 fP fd ["self"] (lN XQ.C):=by
 have sc:=Qt;have tx:=mJ _ T;refine G.mG F sc (λvs H Q E h=>?_) (λcdv A outer s H vs Q E hr h=>?_)
 ·obtain⟨z0,rfl,q⟩:=h;rfl
 ·refine⟨vM K,(az (aK (bU kO (bU kO (aG) (bz G.cF (by rfl) T.jj G.boot_len (aa (aF (pv 0) rfl) au))) (aF (pv 0) rfl)))),?_⟩;obtain⟨z0,rfl,q⟩:=h;exact R4 tx.c q
theorem IK{fd:FuncData}(F:jX K "__init__" "Heap.__init__" rG dF fd):mK P w K mg base 1 dF fd rT (uX XQ.H):=by
 have sc:=HY;have tx:=mJ _ T;refine G.mG F sc (λvs H Q E h=>?_) (λcdv A outer s H vs Q E hr h=>?_)
 ·obtain⟨z0,z1,rfl,q⟩:=h;rfl
 ·refine⟨qm K,(aq (cA (pv 0) (pv 1) rfl)
   (aq (cA (pv 0) (gP au) rfl)
   (aq (cA (pv 0) (aG) rfl)
   (az (cA (pv 0) (aG) rfl))))),?_⟩
  obtain⟨z0,z1,rfl,q⟩:=h;exact JS tx.c q
theorem Vh{fd:FuncData}(F:G.Zp9 K "make" "Heap.make" uI gB fd){JL:FuncData}(zb:Hh P w K mg base 1 dH JL rW (u6 XQ.C)){wz:FuncData}(lQ:Hh P w K mg base 1 fP wz ["self"] (lN XQ.C)){Wj:FuncData}(Ko:Hh P w K mg base 1 iQ Wj ["self"] (uY XQ.H)){Zc:FuncData}(Pr:Hh P w K mg base 1 jw Zc DG (yO K XQ.H)):mK P w K mg base 3 gB fd Ac (rA K XQ.C XQ.H lR):=by
 have sc:=Uv;have tx:=mJ _ T;refine G.Zr1 F sc (λvs H Q E h=>?_) (λcdv A outer s H vs Q E hr h=>?_)
 ·obtain⟨z0,z1,z2,z3,rfl,q⟩:=h;rfl
 ·refine⟨ye K XQ.C lR XQ.H (u6 XQ.C) (lN XQ.C) (uY XQ.H) (yO K XQ.H) E,(aq (bh (i:=4) sc.nd rfl (Or.inl rfl) (Fe T.Ma zb.g (hr.mono (by decide)) rfl T.Zgx zb.b .nil G.eF (aa (bU kO (aF (pv 0) rfl) (aG)) (aa (pv 1) (aa (pv 2) (aa (pv 3) au))))))
   (aq (bY (aX Zck (jg (pv 4) T.d9 T.qR lQ.g (hr.mono (by decide)) lQ.b .nil G.eF) (jg (pv 0) T.cC T.FT Ko.g (hr.mono (by decide)) Ko.b .nil G.eF) (bx _)) (az (G.Zfr rfl rfl T.Zgv T.TV (aa (bG) au) (λ_ _ _ _ _ _ _ I hx hE=>G.Zmt I hx hE))) aR)
   (aq (cA (pv 0) (aF (pv 4) rfl) rfl)
   (aq (cA (pv 0) (bU kO (aF (pv 0) rfl) (jg (pv 4) T.d9 T.qR lQ.g (hr.mono (by decide)) lQ.b .nil G.eF)) rfl)
   (az (aK (qN (pv 0) T.cC T.J1 Pr.g (hr.mono (by decide)) Pr.b .nil G.eF (aa (pv 4) au)))))))),?_⟩
  obtain⟨z0,z1,z2,z3,rfl,q⟩:=h;exact W3 tx.c q
theorem Yc{fd:FuncData}(F:jX K "lay" "Heap.lay" Dp jw fd):mK P w K mg base 1 jw fd DG (yO K XQ.H):=by
 have sc:=Xw;have tx:=mJ _ T;refine G.mG F sc (λvs H Q E h=>?_) (λcdv A outer s H vs Q E hr h=>?_)
 ·obtain⟨z0,z1,rfl,q⟩:=h;rfl
 ·refine⟨zX K,(aq (bY (aX (G.Zdq (Tc hr)) (dg) (aF (pv 0) rfl) (by with_unfolding_all rfl)) (aq (jY (zZ PySem.F.plainAttrs_list PySem.F.slot_list_append PySem.F.type_list_append qF (aF (pv 0) rfl) (aa (pv 1) au)))
   (az (aK (bU Iv (bz G.cF (by rfl) T.jj G.boot_len (aa (aF (pv 0) rfl) au)) (aG))))) aR)
   (aq (bh (i:=2) sc.nd rfl (Or.inl rfl) (zZ PySem.F.plainAttrs_list PySem.F.slot_list_index PySem.F.type_list_index (G.Zdw (Tc hr)) (aF (pv 0) rfl) (aa (dg) au)))
   (aq (tW (pv 1) (vO (aF (pv 0) rfl) (pv 2) set_list))
   (az (aK (pv 2)))))),?_⟩
  obtain⟨z0,z1,rfl,q⟩:=h;exact Zt tx.c q
theorem Vj{fd:FuncData}(F:jX K "back" "Heap.back" zP gD fd){wz:FuncData}(lQ:Hh P w K mg base 1 fP wz ["self"] (lN XQ.C)):mK P w K mg base 2 gD fd uM (lE XQ.C XQ.H):=by
 have sc:=Ux;have tx:=mJ _ T;refine G.mG F sc (λvs H Q E h=>?_) (λcdv A outer s H vs Q E hr h=>?_)
 ·obtain⟨z0,z1,rfl,q⟩:=h;rfl
 ·refine⟨yh K XQ.C (lN XQ.C),(aq (bh (i:=2) sc.nd rfl (Or.inl rfl) (cU bF (aF (pv 0) rfl) (pv 1) (λ_ _=>rfl)))
   (aq (cA (pv 0) (bU Iv (aF (pv 0) rfl) (jg (pv 2) T.d9 T.qR lQ.g (hr.mono (by decide)) lQ.b .nil G.eF)) rfl)
   (aq (tW (dg) (vO (aF (pv 0) rfl) (pv 1) set_list))
   (az (aK (aF (pv 2) rfl)))))),?_⟩
  obtain⟨z0,z1,rfl,q⟩:=h;exact W5 tx.c q
theorem Vi{fd:FuncData}(F:jX K "free" "Heap.free" zO iQ fd):mK P w K mg base 1 iQ fd ["self"] (uY XQ.H):=by
 have sc:=Uw;have tx:=mJ _ T;refine G.mG F sc (λvs H Q E h=>?_) (λcdv A outer s H vs Q E hr h=>?_)
 ·obtain⟨z0,rfl,q⟩:=h;rfl
 ·refine⟨yf K,(az (aK (bU Iv (aF (pv 0) rfl) (aF (pv 0) rfl)))),?_⟩;obtain⟨z0,rfl,q⟩:=h;exact W4 tx.c q
theorem QM{fd:FuncData}(F:jX K "there" "Heap.there" xO fO fd):mK P w K mg base 1 fO fd ["self"] (lM XQ.H):=by
 have sc:=Qq;have tx:=mJ _ T;refine G.mG F sc (λvs H Q E h=>?_) (λcdv A outer s H vs Q E hr h=>?_)
 ·obtain⟨z0,rfl,q⟩:=h;rfl
 ·refine⟨vK K,(az (aK (G.Ff (cns:=["self"]) [0] (gO rfl T.jA (aa (bz G.cF (by rfl) T.jj G.boot_len (aa (aF (pv 0) rfl) au)) au)) (λ_ _ _ _ _=>(G.Il (aX G.kE (cU bF (aF (pv 1) rfl) (pv 0) (λ_ _=>rfl)) (dg) (bx _)))) (λ_ _ _ _ _=>(pv 0)) rfl rfl (by repeat (first | exact trivial | refine⟨rfl,?_⟩)) (by repeat (first | exact trivial | refine⟨rfl,?_⟩)) rfl (by decide +kernel) rfl (by decide +kernel) (by decide +kernel) rfl (by decide +kernel)))),?_⟩;obtain⟨z0,rfl,q⟩:=h;exact RX tx.c q
theorem Zar{fd:FuncData}(F:jX K "cell_at" "cell_at" Ij iZ fd):mK P w K mg base 1 iZ fd qx (fH XQ.H):=by
 have sc:=Z9;have tx:=mJ _ T;refine G.mG F sc (λvs H Q E h=>?_) (λcdv A outer s H vs Q E hr h=>?_)
 ·obtain⟨z0,z1,rfl,q⟩:=h;rfl
 ·refine⟨Du K,(aq (bY (PW.pt (wJ (aX G.pC (pv 1) (dg) (bx _)) (wJ (aX XX (pv 1) (aG) (bx _)) (vN (aX Zpw (pv 1) (bz G.cF (by rfl) T.jj G.boot_len (aa (aF (pv 0) rfl) au)) (bx _)))))) (az (aK (dg))) aR)
   (az (aK (cU bF (aF (pv 0) rfl) (pv 1) (λ_ _=>rfl))))),?_⟩
  obtain⟨z0,z1,rfl,q⟩:=h;exact Zbs tx q
theorem X7{fd:FuncData}(F:jX K "birth_at" "birth_at" Dl jQ fd){lH:FuncData}(nu:Hh P w K mg base 1 iZ lH qx (fH XQ.H)):mK P w K mg base 2 jQ fd Dy (yM XQ):=by
 have sc:=Xr;have tx:=mJ _ T;refine G.mG F sc (λvs H Q E h=>?_) (λcdv A outer s H vs Q E hr h=>?_)
 ·obtain⟨z0,z1,rfl,q⟩:=h;rfl
 ·refine⟨zU K (fH XQ.H),(aq (bh (i:=2) sc.nd rfl (Or.inl rfl) (jC nu hr T.tE (aa (pv 0) (aa (pv 1) au))))
   (aq (bY (aX G.pC (pv 2) (dg) (bx _)) (az (aK (dg))) aR)
   (az (aK (aF (pv 2) rfl))))),?_⟩
  obtain⟨z0,z1,rfl,q⟩:=h;exact Zk tx q
theorem IV{fd:FuncData}(F:jX K "__init__" "Hand.__init__" rH dG fd):mK P w K mg base 1 dG fd rU (uZ XQ.D):=by
 have sc:=Ia;have tx:=mJ _ T;refine G.mG F sc (λvs H Q E h=>?_) (λcdv A outer s H vs Q E hr h=>?_)
 ·obtain⟨z0,z1,z2,rfl,q⟩:=h;rfl
 ·refine⟨qp K,(aq (cA (pv 0) (pv 1) rfl)
   (az (cA (pv 0) (bU Zak (gP (aa (dg) au)) (pv 2)) rfl))),?_⟩
  obtain⟨z0,z1,z2,rfl,q⟩:=h;exact JT tx q
theorem BZ{fd:FuncData}(F:jX K "__init__" "Sweeper.__init__" oF cH fd):mK P w K mg base 1 cH fd ["self"] (pQ XQ.S):=by
 have sc:=BW;have tx:=mJ _ T;refine G.mG F sc (λvs H Q E h=>?_) (λcdv A outer s H vs Q E hr h=>?_)
 ·obtain⟨z0,rfl,q⟩:=h;rfl
 ·refine⟨nF K,(aq (cA (pv 0) (aG) rfl)
   (aq (cA (pv 0) (bG) rfl)
   (aq (cA (pv 0) (gP au) rfl)
   (aq (cA (pv 0) (aG) rfl)
   (aq (cA (pv 0) (aG) rfl)
   (aq (cA (pv 0) (aG) rfl)
   (aq (cA (pv 0) (aG) rfl)
   (aq (cA (pv 0) (aG) rfl)
   (aq (cA (pv 0) (aG) rfl)
   (aq (cA (pv 0) (aG) rfl)
   (az (cA (pv 0) (dg) rfl)))))))))))),?_⟩
  obtain⟨z0,rfl,q⟩:=h;exact Cp tx q
theorem Ft{fd:FuncData}(F:jX K "__init__" "World.__init__" qb cY fd){JK:FuncData}(za:Hh P w K mg base 1 dG JK rU (uZ XQ.D)){JH:FuncData}(yZ:Hh P w K mg base 1 dF JH rT (uX XQ.H)){Cj:FuncData}(uA:Hh P w K mg base 1 cH Cj ["self"] (pQ XQ.S)):mK P w K mg base 3 cY fd qy (sX XQ):=by
 have sc:=Eu;have tx:=mJ _ T;refine G.mG F sc (λvs H Q E h=>?_) (λcdv A outer s H vs Q E hr h=>?_)
 ·obtain⟨z0,z1,z2,z3,rfl,q⟩:=h;rfl
 ·refine⟨o8 K XQ.D XQ.H XQ.S (uZ XQ.D) (uX XQ.H) (pQ XQ.S),(aq (cA (pv 0) (Fe T.LK yZ.g (hr.mono (by decide)) rfl T.Zgt yZ.b .nil G.eF (aa (pv 1) au)) rfl)
   (aq (cA (pv 0) (pv 2) rfl)
   (aq (cA (pv 0) (G.Zaf (cns:=[]) [] (jZ (pv 3)) (λ_ _ _ _ _=>G.zY) (λ_ _ _ _ _=>(Fe T.LQ za.g (hr.mono (by decide)) rfl T.Zgu za.b .nil G.eF (aa (pv 0) (aa (pv 1) au)))) rfl rfl (by repeat (first | exact trivial | refine⟨rfl,?_⟩)) (by repeat (first | exact trivial | refine⟨rfl,?_⟩)) rfl (by decide +kernel) rfl (by decide +kernel) (by decide +kernel) rfl rfl (by decide +kernel)) rfl)
   (aq (cA (pv 0) (Nu) rfl)
   (az (cA (pv 0) (Zfy T.yx uA.g (hr.mono (by decide)) rfl T.S6 uA.b .nil G.eF) rfl)))))),?_⟩
  obtain⟨z0,z1,z2,z3,rfl,q⟩:=h;exact Hj tx q
theorem Zjy{fd:FuncData}(F:jX K "held" "held" Za4 wC fd):mK P w K mg base 1 wC fd ["world"] (WW XQ):=by
 have sc:=Zix;have tx:=mJ _ T;refine G.mG F sc (λvs H Q E h=>?_) (λcdv A outer s H vs Q E hr h=>?_)
 ·obtain⟨z0,rfl,q⟩:=h;rfl
 ·refine⟨U0 K,(az (aK (G.Ff (cns:=[]) [] (jZ (aF (pv 0) rfl)) (λ_ _ _ _ _=>G.zY) (λ_ _ _ _ _=>(Bq G.Ph (by rfl) T.tH G.boot_list (aa (aF (pv 0) rfl) au))) rfl rfl (by repeat (first | exact trivial | refine⟨rfl,?_⟩)) (by repeat (first | exact trivial | refine⟨rfl,?_⟩)) rfl (by decide +kernel) rfl (by decide +kernel) (by decide +kernel) rfl (by decide +kernel)))),?_⟩;obtain⟨z0,rfl,q⟩:=h;exact Zky tx q
theorem Vb{fd:FuncData}(F:jX K "births_at" "births_at" zH iJ fd){Za:FuncData}(Zc4:Hh P w K mg base 2 jQ Za Dy (yM XQ)):mK P w K mg base 3 iJ fd uK (mY XQ):=by
 have sc:=Up;have tx:=mJ _ T;refine G.mG F sc (λvs H Q E h=>?_) (λcdv A outer s H vs Q E hr h=>?_)
 ·obtain⟨z0,z1,rfl,q⟩:=h;rfl
 ·refine⟨xW K (yM XQ),(az (aK (G.Ff (cns:=["heap"]) [0] (jZ (pv 1)) (λ_ _ _ _ _=>G.zY) (λ_ _ _ _ _=>(jC Zc4 hr T.Og (aa (pv 1) (aa (pv 0) au)))) rfl rfl (by repeat (first | exact trivial | refine⟨rfl,?_⟩)) (by repeat (first | exact trivial | refine⟨rfl,?_⟩)) rfl (by decide +kernel) rfl (by decide +kernel) (by decide +kernel) rfl (by decide +kernel)))),?_⟩;obtain⟨z0,z1,rfl,q⟩:=h;exact Ws tx q
theorem U9{fd:FuncData}(F:jX K "looked_at" "looked_at" zF jm fd):mK P w K mg base 1 jm fd z8 (rz XQ):=by
 have sc:=Um;have tx:=mJ _ T;refine G.mG F sc (λvs H Q E h=>?_) (λcdv A outer s H vs Q E hr h=>?_)
 ·obtain⟨z0,z1,rfl,q⟩:=h;rfl
 ·refine⟨xU K,(az (aK (j7 kJ (bU Nz (bU Zaj (aF (aF (pv 0) rfl) rfl) (pv 1)) (aG)) (aG) (bx _)))),?_⟩;obtain⟨z0,z1,rfl,q⟩:=h;exact Vs tx q
theorem Va{fd:FuncData}(F:jX K "has_sense" "has_sense" zG dY fd):mK P w K mg base 1 dY fd jH (cL XQ):=by
 have sc:=Uo;have tx:=mJ _ T;refine G.mG F sc (λvs H Q E h=>?_) (λcdv A outer s H vs Q E hr h=>?_)
 ·obtain⟨z0,z1,rfl,q⟩:=h;rfl
 ·refine⟨xV K,(az (aK (j7 kJ (aF (pv 1) rfl) (aF (aF (pv 0) rfl) rfl) (bx _)))),?_⟩;obtain⟨z0,z1,rfl,q⟩:=h;exact V7 tx q
theorem Qz{fd:FuncData}(F:jX K "is_walking" "is_walking" xu iu fd):mK P w K mg base 1 iu fd ["world"] (sV XQ):=by
 have sc:=Qh;have tx:=mJ _ T;refine G.mG F sc (λvs H Q E h=>?_) (λcdv A outer s H vs Q E hr h=>?_)
 ·obtain⟨z0,rfl,q⟩:=h;rfl
 ·refine⟨vz K,(az (aK (j7 Bt (aF (aF (pv 0) rfl) rfl) (mC (aa (bG) (aa (bG) au))) (by with_unfolding_all rfl)))),?_⟩;obtain⟨z0,rfl,q⟩:=h;exact Q6 tx q
theorem Zap{fd:FuncData}(F:jX K "mark_of" "mark_of" Ih kZ fd){eY:FuncData}(fV:Hh P w K mg base 1 dY eY jH (cL XQ)):mK P w K mg base 2 kZ fd Br (oU XQ):=by
 have sc:=Z7;have tx:=mJ _ T;refine G.mG F sc (λvs H Q E h=>?_) (λcdv A outer s H vs Q E hr h=>?_)
 ·obtain⟨z0,z1,rfl,q⟩:=h;rfl
 ·refine⟨Ds K (cL XQ),(aq (bh (i:=2) sc.nd rfl (Or.inl rfl) (aF (pv 0) rfl))
   (aq (bh (i:=3) sc.nd rfl (Or.inl rfl) (jC fV hr T.lD (aa (pv 0) (aa (cU bF (aF (aF (pv 0) rfl) rfl) (pv 1) (λ_ _=>rfl)) au))))
   (aq (bY (aX kJ (aF (pv 2) rfl) (bG) (bx _)) (az (aK (bG))) aR)
   (aq (bY (aX kJ (aF (pv 2) rfl) (bG) (bx _)) (az (aK (XM (eE (pv 3)) (bG) (bG)))) aR)
   (aq (bY (jE (eE (pv 3))) (az (aK (bG))) aR)
   (az (aK (XM (aX Bt (pv 1) (aF (pv 2) rfl) (by with_unfolding_all rfl)) (bG) (bG))))))))),?_⟩
  obtain⟨z0,z1,rfl,q⟩:=h;exact Zau tx q
theorem Qv{fd:FuncData}(F:jX K "told_cells" "told_cells" xj ig fd){wu:FuncData}(pR:Hh P w K mg base 1 fO wu ["self"] (lM XQ.H)){Wb:FuncData}(Zu:Hh P w K mg base 4 jl Wb z7 (uU XQ)):mK P w K mg base 5 ig fd ["world"] (WQ XQ):=by
 have sc:=Qd;have tx:=mJ _ T;refine G.mG F sc (λvs H Q E h=>?_) (λcdv A outer s H vs Q E hr h=>?_)
 ·obtain⟨z0,rfl,q⟩:=h;rfl
 ·refine⟨vm K XQ.H (lM XQ.H) (uU XQ),(az (aK (G.Ff (cns:=["world"]) [0] (jZ (jg (aF (pv 0) rfl) T.cC T.vU pR.g (hr.mono (by decide)) pR.b .nil G.eF)) (λ_ _ _ _ _=>G.zY) (λ_ _ _ _ _=>(jC Zu hr T.J2 (aa (pv 1) (aa (pv 0) au)))) rfl rfl (by repeat (first | exact trivial | refine⟨rfl,?_⟩)) (by repeat (first | exact trivial | refine⟨rfl,?_⟩)) rfl (by decide +kernel) rfl (by decide +kernel) (by decide +kernel) rfl (by decide +kernel)))),?_⟩;obtain⟨z0,rfl,q⟩:=h;exact Pu tx q
theorem U8{fd:FuncData}(F:jX K "told_cell" "told_cell" zE jl fd){yG:FuncData}(Bj:Hh P w K mg base 3 iJ yG uK (mY XQ)){DX:FuncData}(JV:Hh P w K mg base 2 kZ DX Br (oU XQ)):mK P w K mg base 4 jl fd z7 (uU XQ):=by
 have sc:=Ul;have tx:=mJ _ T;refine G.mG F sc (λvs H Q E h=>?_) (λcdv A outer s H vs Q E hr h=>?_)
 ·obtain⟨z0,z1,rfl,q⟩:=h;rfl
 ·refine⟨xR K (mY XQ) (oU XQ),(aq (bh (i:=2) sc.nd rfl (Or.inl rfl) (cU bF (aF (aF (pv 0) rfl) rfl) (pv 1) (λ_ _=>rfl)))
   (aq (bh (i:=3) sc.nd rfl (Or.inl rfl) (jC Bj hr T.Am (aa (aF (pv 0) rfl) (aa (aF (pv 2) rfl) au))))
   (az (aK (mC (aa (pv 1) (aa (aF (pv 2) rfl) (aa (aF (pv 2) rfl) (aa (aF (pv 2) rfl) (aa (pv 3) (aa (jC JV hr T.Jl (aa (pv 0) (aa (pv 1) au))) au))))))))))),?_⟩
  obtain⟨z0,z1,rfl,q⟩:=h;exact TX tx q
theorem Zg7{fd:FuncData}(F:jX K "begin" "begin" UG pO fd){GK:FuncData}(wV:Hh P w K mg base 2 dM GK qC (mZ 0)){Ck:FuncData}(lO:Hh P w K mg base 1 bK Ck oK (mZ 1)):mK P w K mg base 3 pO fd ["world"] (yN XQ):=by
 have sc:=Zfa;have tx:=mJ _ T;refine G.mG F sc (λvs H Q E h=>?_) (λcdv A outer s H vs Q E hr h=>?_)
 ·obtain⟨z0,rfl,q⟩:=h;rfl
 ·refine⟨Nq K XQ.E XQ.F XQ.L (mZ 0) (mZ 1),(aq (bh (i:=1) sc.nd rfl (Or.inl rfl) (aF (pv 0) rfl))
   (aq (cA (pv 1) (bU Iv (aG) (aF (pv 1) rfl)) rfl)
   (aq (cA (pv 1) (bU kO (aF (pv 1) rfl) (aG)) rfl)
   (aq (cA (pv 1) (bG) rfl)
   (aq (cA (pv 1) (gP au) rfl)
   (aq (cA (pv 1) (G.qO (qN (aF (aF (pv 0) rfl) rfl) T.wQ T.uR wV.g (hr.mono (by decide)) wV.b .nil G.eF (aa (bz G.cF (by rfl) T.jj G.boot_len (aa (aF (pv 0) rfl) au)) au)) (G.qO (qN (aF (aF (pv 0) rfl) rfl) T.By T.wM lO.g (hr.mono (by decide)) lO.b .nil G.eF (aa (bz G.cF (by rfl) T.jj G.boot_len (aa (aF (pv 0) rfl) au)) au)) (qN (aF (aF (pv 0) rfl) rfl) T.Bx T.wL lO.g (hr.mono (by decide)) lO.b .nil G.eF (aa (bz G.cF (by rfl) T.jj G.boot_len (aa (aF (pv 0) rfl) au)) au)))) rfl)
   (aq (cA (pv 1) (aG) rfl)
   (aq (cA (pv 1) (aG) rfl)
   (az (cA (pv 1) (aG) rfl)))))))))),?_⟩
  obtain⟨z0,rfl,q⟩:=h;exact Zia tx q
theorem Zjx{fd:FuncData}(F:jX K "note" "note" Za3 um fd){lH:FuncData}(nu:Hh P w K mg base 1 iZ lH qx (fH XQ.H)){eY:FuncData}(fV:Hh P w K mg base 1 dY eY jH (cL XQ)):mK P w K mg base 2 um fd U7 (yK XQ):=by
 have sc:=Ziw;have tx:=mJ _ T;refine G.mG F sc (λvs H Q E h=>?_) (λcdv A outer s H vs Q E hr h=>?_)
 ·obtain⟨z0,z1,rfl,q⟩:=h;rfl
 ·refine⟨UW K (fH XQ.H) (cL XQ),(aq (bh (i:=2) sc.nd rfl (Or.inl rfl) (aF (pv 0) rfl))
   (aq (bh (i:=3) sc.nd rfl (Or.inl rfl) (jC nu hr T.tE (aa (aF (pv 0) rfl) (aa (pv 1) au))))
   (aq (bY (PW.pt (wJ (aX Cv (aF (pv 2) rfl) (bG) (bx _)) (wJ (aX G.pC (pv 3) (dg) (bx _)) (vN (eE (jC fV hr T.lD (aa (pv 0) (aa (pv 3) au)))))))) (az (aK (dg))) aR)
   (aq (cA (pv 3) (aF (pv 2) rfl) rfl)
   (aq (jY (zZ PySem.F.plainAttrs_list PySem.F.slot_list_append PySem.F.type_list_append qF (aF (pv 2) rfl) (aa (pv 1) au)))
   (az (aK (aF (pv 3) rfl)))))))),?_⟩
  obtain⟨z0,z1,rfl,q⟩:=h;exact Zk5 tx q
theorem X5{fd:FuncData}(F:jX K "note_all" "note_all" Dj ju fd){Wc:FuncData}(Zc2:Hh P w K mg base 2 um Wc U7 (yK XQ)):mK P w K mg base 3 ju fd ym (oN XQ):=by
 have sc:=Xp;have tx:=mJ _ T;refine G.mG F sc (λvs H Q E h=>?_) (λcdv A outer s H vs Q E hr h=>?_)
 ·obtain⟨z0,z1,rfl,q⟩:=h;rfl
 ·refine⟨zR K (yK XQ),(aq (bh (i:=2) sc.nd rfl (Or.inl rfl) (gP au))
   (aq (jN PassesOwn.never rfl (jZ (pv 1)) (dR (i:=3) sc.nd rfl (Or.inl rfl))
   (aq (bh (i:=4) sc.nd rfl (Or.inl rfl) (jC Zc2 hr T.Zay (aa (pv 0) (aa (pv 3) au))))
   (az (bY (aX G.kE (pv 4) (dg) (bx _)) (az (jY (zZ PySem.F.plainAttrs_list PySem.F.slot_list_append PySem.F.type_list_append qF (pv 2) (aa (pv 4) au)))) aR))))
   (az (aK (pv 2))))),?_⟩
  obtain⟨z0,z1,rfl,q⟩:=h;exact Yd tx q
theorem Zjz{fd:FuncData}(F:jX K "gone" "gone" Za5 wD fd){lH:FuncData}(nu:Hh P w K mg base 1 iZ lH qx (fH XQ.H)){eY:FuncData}(fV:Hh P w K mg base 1 dY eY jH (cL XQ)):mK P w K mg base 2 wD fd Zah (WX XQ):=by
 have sc:=Ziy;have tx:=mJ _ T;refine G.mG F sc (λvs H Q E h=>?_) (λcdv A outer s H vs Q E hr h=>?_)
 ·obtain⟨z0,z1,z2,rfl,q⟩:=h;rfl
 ·refine⟨U3 K (fH XQ.H) (cL XQ),(aq (bh (i:=3) sc.nd rfl (Or.inl rfl) (jC nu hr T.tE (aa (aF (pv 0) rfl) (aa (pv 1) au))))
   (aq (bY (PW.pt (wJ (aX G.pC (pv 3) (dg) (bx _)) (vN (aX Cv (aF (pv 3) rfl) (pv 2) (bx _))))) (az (aK (gZ))) aR)
   (az (aK ((z6 (j7 kJ (aF (aF (pv 0) rfl) rfl) (bG) (bx _)) (Im (Zae (jC fV hr T.lD (aa (pv 0) (aa (pv 3) au))))))))))),?_⟩
  obtain⟨z0,z1,z2,rfl,q⟩:=h;exact Zl7 tx q
theorem Zg6{fd:FuncData}(F:jX K "roots" "roots" Uz qT fd){Zlc:FuncData}(Zp7:Hh P w K mg base 1 wC Zlc ["world"] (WW XQ)){Zbo:FuncData}(Zeo:Hh P w K mg base 3 lZ Zbo Ir (BK XQ)):mK P w K mg base 4 qT fd ["world"] (Mp XQ):=by
 have sc:=Zf9;have tx:=mJ _ T;refine G.mG F sc (λvs H Q E h=>?_) (λcdv A outer s H vs Q E hr h=>?_)
 ·obtain⟨z0,rfl,q⟩:=h;rfl
 ·refine⟨Np K (WW XQ) (BK XQ) H,(az (aK (bU Zmz (jC Zp7 hr T.Zgp (aa (pv 0) au)) (gP (aa (G.Zjp (G.Zaf (cns:=["world"]) [0] (G.Zji (G.Zdo (aF (pv 0) rfl))) (λ_ _ _ _ _=>G.zY) (λ_ _ _ _ _=>(jC Zeo hr T.SQ (aa (pv 2) (aa (pv 0) (aa (pv 1) au))))) rfl rfl (by repeat (first | exact trivial | refine⟨rfl,?_⟩)) (by repeat (first | exact trivial | refine⟨rfl,?_⟩)) rfl (by decide +kernel) rfl (by decide +kernel) (by decide +kernel) rfl rfl (by decide +kernel))) au))))),?_⟩;obtain⟨z0,rfl,q⟩:=h;exact Zfg tx q
theorem Zan{fd:FuncData}(F:jX K "root_of" "root_of" Ie lZ fd){Zld:FuncData}(Zp8:Hh P w K mg base 2 wD Zld Zah (WX XQ)){eY:FuncData}(fV:Hh P w K mg base 1 dY eY jH (cL XQ)){Ru:FuncData}(W8:Hh P w K mg base 1 iu Ru ["world"] (sV XQ)):mK P w K mg base 3 lZ fd Ir (BK XQ):=by
 have sc:=Z5;have tx:=mJ _ T;refine G.mG F sc (λvs H Q E h=>?_) (λcdv A outer s H vs Q E hr h=>?_)
 ·obtain⟨z0,z1,z2,rfl,q⟩:=h;rfl
 ·refine⟨Dr K (WX XQ) (cL XQ) (sV XQ),(aq (bY (eE (jC Zp8 hr T.Zgq (aa (pv 0) (aa (pv 1) (aa (pv 2) au))))) (az (aK (dg))) aR)
   (aq (bY (PW.pt (pB (eE (jC W8 hr T.Gb (aa (pv 0) au))) (qM (jE (eE (jC fV hr T.lD (aa (pv 0) (aa (cU bF (aF (aF (pv 0) rfl) rfl) (pv 1) (λ_ _=>rfl)) au)))))))) (az (aK (dg))) aR)
   (az (aK (pv 1))))),?_⟩
  obtain⟨z0,z1,z2,rfl,q⟩:=h;exact Za7 tx q
theorem Zdt{fd:FuncData}(F:jX K "all_of" "all_of" Nj mW fd):mK P w K mg base 1 mW fd ["hands"] (uw):=by
 have sc:=Zdi;have tx:=mJ _ T;refine G.mG F sc (λvs H Q E h=>?_) (λcdv A outer s H vs Q E hr h=>?_)
 ·obtain⟨z0,rfl,q⟩:=h;rfl
 ·refine⟨Ik,(az (aK (bU Iv (bU Zg4 (aG) (pv 0)) (aG)))),?_⟩;obtain⟨z0,rfl,q⟩:=h;exact Zem q
theorem Ca{fd:FuncData}(F:jX K "at_begin" "Looking.at_begin" oG bK fd):mK P w K mg base 1 bK fd oK (mZ 1):=by
 have sc:=BX;have tx:=mJ _ T;refine G.mG F sc (λvs H Q E h=>?_) (λcdv A outer s H vs Q E hr h=>?_)
 ·obtain⟨z0,z1,rfl,q⟩:=h;rfl
 ·refine⟨nG,(az (aK (aG))),?_⟩;obtain⟨z0,z1,rfl,q⟩:=h;exact Cr q
theorem Af{fd:FuncData}(F:jX K "next_look" "Looking.next_look" nA bR fd):mK P w K mg base 1 bR fd nH (gF 0):=by
 have sc:=zB;have tx:=mJ _ T;refine G.mG F sc (λvs H Q E h=>?_) (λcdv A outer s H vs Q E hr h=>?_)
 ·obtain⟨z0,z1,z2,rfl,q⟩:=h;rfl
 ·refine⟨mL,(az (aK (aG))),?_⟩;obtain⟨z0,z1,z2,rfl,q⟩:=h;exact Bh q
theorem Iw{fd:FuncData}(F:jX K "stays" "Looking.stays" rE cI fd):mK P w K mg base 1 cI fd ["self"] (jf (.bl true)):=by
 have sc:=HW;have tx:=mJ _ T;refine G.mG F sc (λvs H Q E h=>?_) (λcdv A outer s H vs Q E hr h=>?_)
 ·obtain⟨z0,rfl,q⟩:=h;rfl
 ·refine⟨qi,(az (aK (gZ))),?_⟩;obtain⟨z0,rfl,q⟩:=h;exact JQ q
theorem QS{fd:FuncData}(F:jX K "word" "First.word" xP gw fd):mK P w K mg base 1 gw fd ["self"] (jf (.str "first")):=by
 have sc:=Qs;have tx:=mJ _ T;refine G.mG F sc (λvs H Q E h=>?_) (λcdv A outer s H vs Q E hr h=>?_)
 ·obtain⟨z0,rfl,q⟩:=h;rfl
 ·refine⟨vL,(az (aK (bG))),?_⟩;obtain⟨z0,rfl,q⟩:=h;exact R3 tx q
theorem Fw{fd:FuncData}(F:jX K "at_begin" "First.at_begin" qe dM fd){JD:FuncData}(Pn:Hh P w K mg base 1 mW JD ["hands"] (uw)):mK P w K mg base 2 dM fd qC (mZ 0):=by
 have sc:=Ey;have tx:=mJ _ T;refine G.mG F sc (λvs H Q E h=>?_) (λcdv A outer s H vs Q E hr h=>?_)
 ·obtain⟨z0,z1,rfl,q⟩:=h;rfl
 ·refine⟨pq (uw),(az (aK (jC Pn hr T.Oh (aa (pv 1) au)))),?_⟩;obtain⟨z0,z1,rfl,q⟩:=h;exact HB q
theorem Vk{fd:FuncData}(F:jX K "word" "Each.word" zQ iR fd):mK P w K mg base 1 iR fd ["self"] (jf (.str "each")):=by
 have sc:=Uy;have tx:=mJ _ T;refine G.mG F sc (λvs H Q E h=>?_) (λcdv A outer s H vs Q E hr h=>?_)
 ·obtain⟨z0,rfl,q⟩:=h;rfl
 ·refine⟨yj,(az (aK (bG))),?_⟩;obtain⟨z0,rfl,q⟩:=h;exact Xf tx q
theorem Fy{fd:FuncData}(F:jX K "next_look" "Each.next_look" qg dN fd):mK P w K mg base 1 dN fd qD (gF 1):=by
 have sc:=Ez;have tx:=mJ _ T;refine G.mG F sc (λvs H Q E h=>?_) (λcdv A outer s H vs Q E hr h=>?_)
 ·obtain⟨z0,z1,z2,rfl,q⟩:=h;rfl
 ·refine⟨pA,(aq (jN PassesOwn.never rfl (gO rfl T.jA (aa (pv 2) au)) (dR (i:=3) sc.nd rfl (Or.inl rfl))
   (az (bY (aX kJ (bU Nz (bU Zaj (pv 1) (pv 3)) (aG)) (aG) (bx _)) (az (aK (bU Zg4 (aG) (pv 3)))) aR)))
   (az (aK (aG)))),?_⟩
  obtain⟨z0,z1,z2,rfl,q⟩:=h;exact HD q
theorem Vg{fd:FuncData}(F:jX K "word" "Last.word" zN iM fd):mK P w K mg base 1 iM fd ["self"] (jf (.str "last")):=by
 have sc:=Uu;have tx:=mJ _ T;refine G.mG F sc (λvs H Q E h=>?_) (λcdv A outer s H vs Q E hr h=>?_)
 ·obtain⟨z0,rfl,q⟩:=h;rfl
 ·refine⟨yd,(az (aK (bG))),?_⟩;obtain⟨z0,rfl,q⟩:=h;exact W0 tx q
theorem Fv{fd:FuncData}(F:jX K "next_look" "Last.next_look" qd dJ fd){JD:FuncData}(Pn:Hh P w K mg base 1 mW JD ["hands"] (uw)):mK P w K mg base 2 dJ fd qz (gF 2):=by
 have sc:=Ew;have tx:=mJ _ T;refine G.mG F sc (λvs H Q E h=>?_) (λcdv A outer s H vs Q E hr h=>?_)
 ·obtain⟨z0,z1,z2,rfl,q⟩:=h;rfl
 ·refine⟨o9 (uw),(az (aK (jC Pn hr T.Oh (aa (pv 2) au)))),?_⟩;obtain⟨z0,z1,z2,rfl,q⟩:=h;exact Hu q
theorem QK{fd:FuncData}(F:jX K "stays" "Last.stays" xM gm fd):mK P w K mg base 1 gm fd ["self"] (jf (.bl false)):=by
 have sc:=Qo;have tx:=mJ _ T;refine G.mG F sc (λvs H Q E h=>?_) (λcdv A outer s H vs Q E hr h=>?_)
 ·obtain⟨z0,rfl,q⟩:=h;rfl
 ·refine⟨vI,(az (aK (gZ))),?_⟩;obtain⟨z0,rfl,q⟩:=h;exact RV q
theorem Iz{fd:FuncData}(F:jX K "__init__" "Kind.__init__" rF dD fd):mK P w K mg base 1 dD fd rR (uW XQ.K):=by
 have sc:=HX;have tx:=mJ _ T;refine G.mG F sc (λvs H Q E h=>?_) (λcdv A outer s H vs Q E hr h=>?_)
 ·obtain⟨z0,z1,z2,rfl,q⟩:=h;rfl
 ·refine⟨qj K,(aq (cA (pv 0) (pv 1) rfl)
   (az (cA (pv 0) (pv 2) rfl))),?_⟩
  obtain⟨z0,z1,z2,rfl,q⟩:=h;exact JR tx q
theorem QL{fd:FuncData}(F:jX K "words" "Kind.words" xN gq fd){Wk:FuncData}(Kq:Hh P w K mg base 1 iR Wk ["self"] (jf (.str "each"))){RG:FuncData}(Hw:Hh P w K mg base 1 gw RG ["self"] (jf (.str "first"))){Wh:FuncData}(Kl:Hh P w K mg base 1 iM Wh ["self"] (jf (.str "last"))):mK P w K mg base 2 gq fd ["self"] (Mm XQ):=by
 have sc:=Qp;have tx:=mJ _ T;refine G.mG F sc (λvs H Q E h=>?_) (λcdv A outer s H vs Q E hr h=>?_)
 ·obtain⟨z0,rfl,q⟩:=h;rfl
 ·refine⟨vJ K XQ.E XQ.F XQ.L (jf (.str "each")) (jf (.str "first")) (jf (.str "last")),(aq (bh (i:=1) sc.nd rfl (Or.inl rfl) (G.qO (jg (aF (pv 0) rfl) T.wQ T.Cy Hw.g (hr.mono (by decide)) Hw.b .nil G.eF) (G.qO (jg (aF (pv 0) rfl) T.By T.FW Kq.g (hr.mono (by decide)) Kq.b .nil G.eF) (jg (aF (pv 0) rfl) T.Bx T.FP Kl.g (hr.mono (by decide)) Kl.b .nil G.eF))))
   (aq (bY (aX Cv (bU Nz (aF (pv 0) rfl) (T.Zm6.pe rfl)) (aG) (bx _)) (az (bh (i:=1) sc.nd rfl (Or.inl rfl) (bU DK (pv 1) (bG)))) aR)
   (aq (bY (aX Cv (bU Nz (aF (pv 0) rfl) (T.Zm7.pe rfl)) (aG) (bx _)) (az (bh (i:=1) sc.nd rfl (Or.inl rfl) (bU DK (pv 1) (bG)))) aR)
   (az (aK (pv 1)))))),?_⟩
  obtain⟨z0,rfl,q⟩:=h;exact RW tx q
theorem Zaq{fd:FuncData}(F:jX K "kind_of" "kind_of" Ii mq fd){JG:FuncData}(yX:Hh P w K mg base 1 dD JG rR (uW XQ.K)){RD:FuncData}(Hv:Hh P w K mg base 2 gq RD ["self"] (Mm XQ)):mK P w K mg base 3 mq fd ["text"] (BP XQ):=by
 have sc:=Z8;have tx:=mJ _ T;refine G.mG F sc (λvs H Q E h=>?_) (λcdv A outer s H vs Q E hr h=>?_)
 ·obtain⟨z0,rfl,q⟩:=h;rfl
 ·refine⟨Dt K XQ.E XQ.F XQ.K XQ.L (uW XQ.K) (Mm XQ),(aq (jN PassesOwn.never rfl (jZ (gP (aa (G.Io T.SN rfl T.Zcp) (aa (G.Io T.Yr rfl T.Zgw) (aa (G.Io T.Yq rfl T.Zgr) au))))) (dR (i:=1) sc.nd rfl (Or.inl rfl))
   (az (jN PassesOwn.never rfl (gO rfl T.jA (aa (aG) au)) (dR (i:=2) sc.nd rfl (Or.inl rfl))
   (aq (bh (i:=3) sc.nd rfl (Or.inl rfl) (Fe T.LC yX.g (hr.mono (by decide)) rfl T.Zgs yX.b .nil G.eF (aa (pv 1) (aa (pv 2) au))))
   (az (bY (aX kJ (jg (pv 3) T.Wo T.Cw Hv.g (hr.mono (by decide)) Hv.b .nil G.eF) (pv 0) (bx _)) (az (aK (pv 3))) aR))))))
   (az (aK (dg)))),?_⟩
  obtain⟨z0,rfl,q⟩:=h;exact Zb5 tx q
theorem Zao{fd:FuncData}(F:jX K "reached" "reached" Ig mj fd){Zeh:FuncData}(Zv:Hh P w K mg base 2 nR Zeh Ny (Bf K XQ.C XQ.H)):mK P w K mg base 3 mj fd Iu (BL K XQ.C XQ.H):=by
 have sc:=Z6;have tx:=mJ _ T;refine G.mG F sc (λvs H Q E h=>?_) (λcdv A outer s H vs Q E hr h=>?_)
 ·obtain⟨z0,z1,z2,z3,z4,rfl,q⟩:=h;rfl
 ·refine⟨xT K (Bf K XQ.C XQ.H),(aq (bh (i:=2) sc.nd rfl (Or.inl rfl) (gP au))
   (aq (jN PassesOwn.never rfl (G.U4 rfl T.oO (aa (pv 1) au)) (Nt rfl (mO (dR (i:=3) sc.nd rfl (Or.inl rfl)) (mO (dR (i:=4) sc.nd rfl (Or.inl rfl)) EY)))
   (az (jY (zZ PySem.F.plainAttrs_list PySem.F.slot_list_extend PySem.F.type_list_extend Jc (pv 2) (aa (jC Zv hr T.Od (aa (pv 0) (aa (pv 4) (aa (mC (aa (pv 3) au)) au)))) au)))))
   (aq (bh (i:=5) sc.nd rfl (Or.inl rfl) (Nu))
   (aq (bh (i:=6) sc.nd rfl (Or.inl rfl) (aG))
   (aq (Zfq PassesOwn.never (aX XX (pv 6) (bz G.cF (by rfl) T.jj G.boot_len (aa (pv 2) au)) (bx _)) (aq (bh (i:=7) sc.nd rfl (Or.inl rfl) (cU DP (cU bF (pv 2) (pv 6) (λ_ _=>rfl)) (aG) (λ_ _=>rfl)))
   (aq (bh (i:=8) sc.nd rfl (Or.inl rfl) (cU DP (cU bF (pv 2) (pv 6) (λ_ _=>rfl)) (aG) (λ_ _=>rfl)))
   (aq (bh (i:=6) sc.nd rfl (Or.inl rfl) (bU kO (pv 6) (aG)))
   (az (bY (Zfp (G.Zag (Tc hr) (pv 7) (pv 5))) (aq (Zci (Tc hr) (pv 5) (pv 7) (pv 8) rfl)
   (az (jY (zZ PySem.F.plainAttrs_list PySem.F.slot_list_extend PySem.F.type_list_extend Jc (pv 2) (aa (jC Zv hr T.Od (aa (pv 0) (aa (aF (cU bF (aF (pv 0) rfl) (pv 7) (λ_ _=>rfl)) rfl) (aa (pv 8) au)))) au))))) aR))))))
   (az (aK (Bq (G.Zbu rfl) (by rfl) T.tH G.boot_list (aa (G.Zg0 (pv 5)) au))))))))),?_⟩
  obtain⟨z0,z1,z2,z3,z4,rfl,q⟩:=h;exact Za8 tx q
theorem Zds{fd:FuncData}(F:jX K "onward" "onward" Nh nR fd){lH:FuncData}(nu:Hh P w K mg base 1 iZ lH qx (fH XQ.H)):mK P w K mg base 2 nR fd Ny (Bf K XQ.C XQ.H):=by
 have sc:=Zdh;have tx:=mJ _ T;refine G.mG F sc (λvs H Q E h=>?_) (λcdv A outer s H vs Q E hr h=>?_)
 ·obtain⟨z0,z1,z2,z3,z4,z5,rfl,q⟩:=h;rfl
 ·refine⟨Bm K (fH XQ.H),(az (aK (G.Zaf (cns:=["heap","way"]) [0,2] (G.U4 rfl T.oO (aa (pv 1) au)) (λ_ _ _ _ _=>(G.Il (aX G.kE (jC nu hr T.tE (aa (pv 2) (aa (pv 1) au))) (dg) (bx _)))) (λ_ _ _ _ _=>(mC (aa (pv 1) (aa (bU Zjt (pv 3) (mC (aa (pv 0) au))) au)))) rfl rfl (by repeat (first | exact trivial | refine⟨rfl,?_⟩)) (by repeat (first | exact trivial | refine⟨rfl,?_⟩)) rfl (by decide +kernel) rfl (by decide +kernel) (by decide +kernel) rfl rfl (by decide +kernel)))),?_⟩;obtain⟨z0,z1,z2,z3,z4,z5,rfl,q⟩:=h;exact Zdr q
theorem Qy{fd:FuncData}(F:jX K "note_hands" "note_hands" xr gh fd){Bb:FuncData}(Ea:Hh P w K mg base 3 ju Bb ym (oN XQ)):mK P w K mg base 4 gh fd su (jM XQ):=by
 have sc:=Qg;have tx:=mJ _ T;refine G.mG F sc (λvs H Q E h=>?_) (λcdv A outer s H vs Q E hr h=>?_)
 ·obtain⟨z0,z1,rfl,q⟩:=h;rfl
 ·refine⟨vq K (oN XQ),(aq (bh (i:=2) sc.nd rfl (Or.inl rfl) (gP au))
   (aq (jN PassesOwn.never rfl (G.U4 rfl T.oO (aa (aF (pv 0) rfl) au)) (Nt rfl (mO (dR (i:=3) sc.nd rfl (Or.inl rfl)) (mO (dR (i:=4) sc.nd rfl (Or.inl rfl)) EY)))
   (az (bY (aX kJ (bU Nz (bU Zaj (pv 1) (pv 3)) (aG)) (aG) (bx _)) (az (jY (zZ PySem.F.plainAttrs_list PySem.F.slot_list_extend PySem.F.type_list_extend Jc (pv 2) (aa (jC Ea hr T.DN (aa (pv 0) (aa (aF (pv 4) rfl) au))) au)))) aR)))
   (az (aK (pv 2))))),?_⟩
  obtain⟨z0,z1,rfl,q⟩:=h;exact QV tx q
theorem K7{fd:FuncData}(F:jX K "step_at_rest" "step_at_rest" tO cQ fd){O6:FuncData}(Xa:Hh P w K mg base 3 pO O6 ["world"] (yN XQ)){vZ:FuncData}(yQ:Hh P w K mg base 4 gh vZ su (jM XQ)):mK P w K mg base 5 cQ fd ["world"] (bT XQ (Ls "rest")):=by
 have sc:=K1;have tx:=mJ _ T;refine G.mG F sc (λvs H Q E h=>?_) (λcdv A outer s H vs Q E hr h=>?_)
 ·obtain⟨z0,rfl,q⟩:=h;rfl
 ·refine⟨rN K (yN XQ) (jM XQ),(aq (jY (jC Xa hr T.Vr (aa (pv 0) au)))
   (aq (bh (i:=1) sc.nd rfl (Or.inl rfl) (jC yQ hr T.yD (aa (pv 0) (aa (aF (aF (pv 0) rfl) rfl) au))))
   (az (aK (mC (aa (bG) (aa (aF (aF (pv 0) rfl) rfl) (aa (pv 1) au)))))))),?_⟩
  obtain⟨z0,rfl,q⟩:=h;exact KH tx q
theorem K5{fd:FuncData}(F:jX K "step_in_walk" "step_in_walk" tL cM fd){O5:FuncData}(R0:Hh P w K mg base 7 fX O5 ["world"] (bT XQ XS)){Zla:FuncData}(Zp5:Hh P w K mg base 4 wA Zla ["world"] (bT XQ XN)):mK P w K mg base 8 cM fd ["world"] (bT XQ (Ls "walk")):=by
 have sc:=KY;have tx:=mJ _ T;refine G.mG F sc (λvs H Q E h=>?_) (λcdv A outer s H vs Q E hr h=>?_)
 ·obtain⟨z0,rfl,q⟩:=h;rfl
 ·refine⟨rK K (bT XQ XS) (bT XQ XN),(aq (bY (XF (aF (aF (pv 0) rfl) rfl) (λ_=>rfl)) (az (aK (jC Zp5 hr T.Zgn (aa (pv 0) au)))) aR)
   (az (aK (jC R0 hr T.Cz (aa (pv 0) au))))),?_⟩
  obtain⟨z0,rfl,q⟩:=h;exact KC tx q
theorem Zjv{fd:FuncData}(F:jX K "walk" "walk" Za1 wA fd){Bb:FuncData}(Ea:Hh P w K mg base 3 ju Bb ym (oN XQ)):mK P w K mg base 4 wA fd ["world"] (bT XQ XN):=by
 have sc:=Ziu;have tx:=mJ _ T;refine G.mG F sc (λvs H Q E h=>?_) (λcdv A outer s H vs Q E hr h=>?_)
 ·obtain⟨z0,rfl,q⟩:=h;rfl
 ·refine⟨UL K (oN XQ),(aq (bh (i:=1) sc.nd rfl (Or.inl rfl) (aF (pv 0) rfl))
   (aq (bh (i:=2) sc.nd rfl (Or.inl rfl) (cU bF (aF (aF (pv 0) rfl) rfl) (zZ PySem.F.plainAttrs_list PySem.F.slot_list_pop PySem.F.type_list_pop Zgh (aF (pv 1) rfl) (aa (aG) au)) (λ_ _=>rfl)))
   (aq (cA (pv 1) (bU kO (aF (pv 1) rfl) (aG)) rfl)
   (az (aK (mC (aa (bG) (aa (aF (pv 2) rfl) (aa (jC Ea hr T.DN (aa (pv 0) (aa (aF (pv 2) rfl) au))) au))))))))),?_⟩
  obtain⟨z0,rfl,q⟩:=h;exact Zie tx q
theorem NB{fd:FuncData}(F:jX K "look_or_cut" "look_or_cut" vg fX fd){GP:FuncData}(wW:Hh P w K mg base 1 dN GP qD (gF 1)){GJ:FuncData}(wU:Hh P w K mg base 2 dJ GJ qz (gF 2)){RC:FuncData}(sZ:Hh P w K mg base 1 gm RC ["self"] (jf (.bl false))){Bc:FuncData}(rZ:Hh P w K mg base 1 bR Bc nH (gF 0)){JF:FuncData}(gG:Hh P w K mg base 1 cI JF ["self"] (jf (.bl true))){Zom:FuncData}(Zrg:Hh P w K mg base 6 Dc Zom ["world"] (bT XQ Zai)){vZ:FuncData}(yQ:Hh P w K mg base 4 gh vZ su (jM XQ)):mK P w K mg base 7 fX fd ["world"] (bT XQ XS):=by
 have sc:=M9;have tx:=mJ _ T;refine G.mG F sc (λvs H Q E h=>?_) (λcdv A outer s H vs Q E hr h=>?_)
 ·obtain⟨z0,rfl,q⟩:=h;rfl
 ·refine⟨tU K XQ.E XQ.F XQ.L (gF 1) (gF 2) (jf (.bl false)) (gF 0) (jf (.bl true)) (bT XQ Zai) (jM XQ),(aq (bh (i:=1) sc.nd rfl (Or.inl rfl) (aF (pv 0) rfl))
   (aq (bh (i:=2) sc.nd rfl (Or.inl rfl) (aF (aF (pv 0) rfl) rfl))
   (aq (bh (i:=3) sc.nd rfl (Or.inl rfl) (G.qO (qN (pv 2) T.wQ T.uf rZ.g (hr.mono (by decide)) rZ.b .nil G.eF (aa (aF (pv 1) rfl) (aa (bz G.cF (by rfl) T.jj G.boot_len (aa (aF (pv 0) rfl) au)) au))) (G.qO (qN (pv 2) T.By T.uT wW.g (hr.mono (by decide)) wW.b .nil G.eF (aa (aF (pv 1) rfl) (aa (bz G.cF (by rfl) T.jj G.boot_len (aa (aF (pv 0) rfl) au)) au))) (qN (pv 2) T.Bx T.uQ wU.g (hr.mono (by decide)) wU.b .nil G.eF (aa (aF (pv 1) rfl) (aa (bz G.cF (by rfl) T.jj G.boot_len (aa (aF (pv 0) rfl) au)) au))))))
   (aq (bh (i:=4) sc.nd rfl (Or.inl rfl) (jC yQ hr T.yD (aa (pv 0) (aa (pv 3) au))))
   (aq (bY (PW.pt (wJ (aX kJ (pv 3) (aG) (bx _)) (vN (jE (PW.pt (wJ (eE (G.qO (jg (pv 2) T.wQ T.ue gG.g (hr.mono (by decide)) gG.b .nil G.eF) (G.qO (jg (pv 2) T.By T.vV gG.g (hr.mono (by decide)) gG.b .nil G.eF) (jg (pv 2) T.Bx T.vR sZ.g (hr.mono (by decide)) sZ.b .nil G.eF)))) (vN (XF (pv 4) (λ_=>rfl))))))))) (az (aK (jC Zrg hr T.Zm0 (aa (pv 0) au)))) aR)
   (aq (cA (pv 1) (bU kO (aF (pv 1) rfl) (aG)) rfl)
   (aq (bY (eE (G.qO (jg (pv 2) T.wQ T.ue gG.g (hr.mono (by decide)) gG.b .nil G.eF) (G.qO (jg (pv 2) T.By T.vV gG.g (hr.mono (by decide)) gG.b .nil G.eF) (jg (pv 2) T.Bx T.vR sZ.g (hr.mono (by decide)) sZ.b .nil G.eF)))) (az (cA (pv 1) (bU Zpv (aF (pv 1) rfl) (pv 3)) rfl)) aR)
   (az (aK (mC (aa (bG) (aa (pv 3) (aa (pv 4) au))))))))))))),?_⟩
  obtain⟨z0,rfl,q⟩:=h;exact Oj tx q
theorem Zn3{fd:FuncData}(F:jX K "cut" "cut" Zff Dc fd){yG:FuncData}(Bj:Hh P w K mg base 3 iJ yG uK (mY XQ)){Rv:FuncData}(W9:Hh P w K mg base 5 iw Rv ["world"] (sW XQ)){Y9:FuncData}(Zc3:Hh P w K mg base 2 jP Y9 ["world"] (yL XQ)){vY:FuncData}(yP:Hh P w K mg base 1 gf vY ["event"] (lK K)):mK P w K mg base 6 Dc fd ["world"] (bT XQ Zai):=by
 have sc:=Zmr;have tx:=mJ _ T;refine G.mG F sc (λvs H Q E h=>?_) (λcdv A outer s H vs Q E hr h=>?_)
 ·obtain⟨z0,rfl,q⟩:=h;rfl
 ·refine⟨Zab K (mY XQ) (sW XQ) (yL XQ) (lK K),(aq (bh (i:=1) sc.nd rfl (Or.inl rfl) (aF (pv 0) rfl))
   (aq (cA (pv 1) (bz G.cF (by rfl) T.jj G.boot_len (aa (aF (aF (pv 0) rfl) rfl) au)) rfl)
   (aq (cA (pv 1) (aG) rfl)
   (aq (bh (i:=2) sc.nd rfl (Or.inl rfl) (jC W9 hr T.Gd (aa (pv 0) au)))
   (aq (bY (aX G.kE (pv 2) (dg) (bx _)) (aq (cA (pv 1) (bG) rfl)
   (aq (cA (pv 1) (pv 2) rfl)
   (az (aK (jC yP hr T.yC (aa (pv 2) au)))))) aR)
   (aq (cA (pv 1) (bG) rfl)
   (aq (bh (i:=3) sc.nd rfl (Or.inl rfl) (jC Bj hr T.Am (aa (aF (pv 0) rfl) (aa (jC Zc3 hr T.Oe (aa (pv 0) au)) au))))
   (az (aK (mC (aa (bG) (aa (bz G.cF (by rfl) T.jj G.boot_len (aa (pv 3) au)) (aa (pv 3) au))))))))))))),?_⟩
  obtain⟨z0,rfl,q⟩:=h;exact Zot tx q
theorem QB{fd:FuncData}(F:jX K "first_loss" "first_loss" xx iw fd){eY:FuncData}(fV:Hh P w K mg base 1 dY eY jH (cL XQ)){Zbp:FuncData}(Zep:Hh P w K mg base 3 mj Zbp Iu (BL K XQ.C XQ.H)){Zhy:FuncData}(Zlr:Hh P w K mg base 4 qT Zhy ["world"] (Mp XQ)):mK P w K mg base 5 iw fd ["world"] (sW XQ):=by
 have sc:=Qi;have tx:=mJ _ T;refine G.mG F sc (λvs H Q E h=>?_) (λcdv A outer s H vs Q E hr h=>?_)
 ·obtain⟨z0,rfl,q⟩:=h;rfl
 ·refine⟨vA K (cL XQ) (BL K XQ.C XQ.H) (Mp XQ),(aq (jN PassesOwn.never rfl (jZ (jC Zep hr T.SX (aa (aF (pv 0) rfl) (aa (jC Zlr hr T.Zcn (aa (pv 0) au)) au)))) (Nt rfl (mO (dR (i:=1) sc.nd rfl (Or.inl rfl)) (mO (dR (i:=2) sc.nd rfl (Or.inl rfl)) EY)))
   (aq (bh (i:=3) sc.nd rfl (Or.inl rfl) (cU bF (aF (aF (pv 0) rfl) rfl) (pv 1) (λ_ _=>rfl)))
   (az (bY (jE (eE (jC fV hr T.lD (aa (pv 0) (aa (pv 3) au))))) (az (aK (mC (aa (bG) (aa (aF (pv 3) rfl) (aa (Bq GR (by rfl) T.tH G.boot_list (aa (pv 2) au)) au)))))) aR))))
   (az (aK (dg)))),?_⟩
  obtain⟨z0,rfl,q⟩:=h;exact Rq tx q
theorem X6{fd:FuncData}(F:jX K "given_up" "given_up" Dk jP fd){wu:FuncData}(pR:Hh P w K mg base 1 fO wu ["self"] (lM XQ.H)){eY:FuncData}(fV:Hh P w K mg base 1 dY eY jH (cL XQ)):mK P w K mg base 2 jP fd ["world"] (yL XQ):=by
 have sc:=Xq;have tx:=mJ _ T;refine G.mG F sc (λvs H Q E h=>?_) (λcdv A outer s H vs Q E hr h=>?_)
 ·obtain⟨z0,rfl,q⟩:=h;rfl
 ·refine⟨zT K XQ.H (lM XQ.H) (cL XQ),(aq (bh (i:=1) sc.nd rfl (Or.inr rfl) (aF (pv 0) rfl))
   (az (aK (G.Ff (cns:=["world","heap"]) [0,1] (jZ (jg (pv 1) T.cC T.vU pR.g (hr.mono (by decide)) pR.b .nil G.eF)) (λ_ _ _ _ _=>(G.Il (jE (eE (jC fV hr T.lD (aa (pv 1) (aa (cU bF (aF (pv 2) rfl) (pv 0) (λ_ _=>rfl)) au))))))) (λ_ _ _ _ _=>(pv 0)) rfl rfl (by repeat (first | exact trivial | refine⟨rfl,?_⟩)) (by repeat (first | exact trivial | refine⟨rfl,?_⟩)) rfl (by decide +kernel) rfl (by decide +kernel) (by decide +kernel) rfl (by decide +kernel))))),?_⟩
  obtain⟨z0,rfl,q⟩:=h;exact Y6 tx q
theorem Qw{fd:FuncData}(F:jX K "told_again" "told_again" xm gf fd):mK P w K mg base 1 gf fd ["event"] (lK K):=by
 have sc:=Qe;have tx:=mJ _ T;refine G.mG F sc (λvs H Q E h=>?_) (λcdv A outer s H vs Q E hr h=>?_)
 ·obtain⟨z0,rfl,q⟩:=h;rfl
 ·refine⟨vo K,(az (aK (mC (aa (cU DP (pv 0) (aG) (λ_ _=>rfl)) (aa (cU DP (pv 0) (aG) (λ_ _=>rfl)) (aa (Bq G.Ph (by rfl) T.tH G.boot_list (aa (cU DP (pv 0) (aG) (λ_ _=>rfl)) au)) au)))))),?_⟩;obtain⟨z0,rfl,q⟩:=h;exact Px q
theorem K6{fd:FuncData}(F:jX K "step_in_give" "step_in_give" tM cP fd){Zol:FuncData}(Zrf:Hh P w K mg base 1 CZ Zol ["world"] (bT XQ pEnd)){Rt:FuncData}(W7:Hh P w K mg base 3 ir Rt ["world"] (bT XQ XR)):mK P w K mg base 4 cP fd ["world"] (bT XQ (Ls "give")):=by
 have sc:=KZ;have tx:=mJ _ T;refine G.mG F sc (λvs H Q E h=>?_) (λcdv A outer s H vs Q E hr h=>?_)
 ·obtain⟨z0,rfl,q⟩:=h;rfl
 ·refine⟨rM K (bT XQ pEnd) (bT XQ XR),(aq (bY (aX XX (aF (aF (pv 0) rfl) rfl) (aF (aF (pv 0) rfl) rfl) (bx _)) (az (aK (jC W7 hr T.Ga (aa (pv 0) au)))) aR)
   (az (aK (jC Zrf hr T.Zlz (aa (pv 0) au))))),?_⟩
  obtain⟨z0,rfl,q⟩:=h;exact KD tx q
theorem Qx{fd:FuncData}(F:jX K "pass_place" "pass_place" xq ir fd){yI:FuncData}(rC:Hh P w K mg base 2 gD yI uM (lE XQ.C XQ.H)){lH:FuncData}(nu:Hh P w K mg base 1 iZ lH qx (fH XQ.H)){eY:FuncData}(fV:Hh P w K mg base 1 dY eY jH (cL XQ)):mK P w K mg base 3 ir fd ["world"] (bT XQ XR):=by
 have sc:=Qf;have tx:=mJ _ T;refine G.mG F sc (λvs H Q E h=>?_) (λcdv A outer s H vs Q E hr h=>?_)
 ·obtain⟨z0,rfl,q⟩:=h;rfl
 ·refine⟨vp K XQ.H (lE XQ.C XQ.H) (fH XQ.H) (cL XQ),(aq (bh (i:=1) sc.nd rfl (Or.inl rfl) (aF (pv 0) rfl))
   (aq (bh (i:=2) sc.nd rfl (Or.inl rfl) (aF (pv 1) rfl))
   (aq (cA (pv 1) (bU kO (pv 2) (aG)) rfl)
   (aq (cA (pv 1) (bU kO (aF (pv 1) rfl) (aG)) rfl)
   (aq (bh (i:=3) sc.nd rfl (Or.inl rfl) (jC nu hr T.tE (aa (aF (pv 0) rfl) (aa (pv 2) au))))
   (aq (bY (PW.pt (wJ (aX G.pC (pv 3) (dg) (bx _)) (vN (eE (jC fV hr T.lD (aa (pv 0) (aa (pv 3) au))))))) (az (aK (mC (aa (bG) (aa (pv 2) (aa (gP au) au)))))) aR)
   (az (aK (mC (aa (bG) (aa (qN (aF (pv 0) rfl) T.cC T.yz rC.g (hr.mono (by decide)) rC.b .nil G.eF (aa (pv 2) au)) (aa (gP (aa (pv 2) au)) au)))))))))))),?_⟩
  obtain⟨z0,rfl,q⟩:=h;exact Qu tx q
theorem Zn2{fd:FuncData}(F:jX K "end" "end" s_end CZ fd):mK P w K mg base 1 CZ fd ["world"] (bT XQ pEnd):=by
 have sc:=Zmq;have tx:=mJ _ T;refine G.mG F sc (λvs H Q E h=>?_) (λcdv A outer s H vs Q E hr h=>?_)
 ·obtain⟨z0,rfl,q⟩:=h;rfl
 ·refine⟨Zaa K,(aq (bh (i:=1) sc.nd rfl (Or.inl rfl) (aF (pv 0) rfl))
   (aq (cA (pv 1) (bG) rfl)
   (az (aK (mC (aa (bG) (aa (aF (pv 1) rfl) (aa (gP (aa (aF (pv 1) rfl) (aa (aF (pv 1) rfl) (aa (aF (pv 1) rfl) au)))) au)))))))),?_⟩
  obtain⟨z0,rfl,q⟩:=h;exact Zor tx q
theorem Fj{fd:FuncData}(F:jX K "step_when_lost" "step_when_lost" p7 bQ fd){vY:FuncData}(yP:Hh P w K mg base 1 gf vY ["event"] (lK K)):mK P w K mg base 2 bQ fd ["world"] (bT XQ (Ls "lost")):=by
 have sc:=Er;have tx:=mJ _ T;refine G.mG F sc (λvs H Q E h=>?_) (λcdv A outer s H vs Q E hr h=>?_)
 ·obtain⟨z0,rfl,q⟩:=h;rfl
 ·refine⟨o5 K (lK K),(az (aK (jC yP hr T.yC (aa (aF (aF (pv 0) rfl) rfl) au)))),?_⟩;obtain⟨z0,rfl,q⟩:=h;exact Ej tx q
theorem Zjw{fd:FuncData}(F:jX K "step" "step" Za2 wB fd){Lg:FuncData}(uz:Hh P w K mg base 5 cQ Lg ["world"] (bT XQ (Ls "rest"))){Lf:FuncData}(uy:Hh P w K mg base 4 cP Lf ["world"] (bT XQ (Ls "give"))){Le:FuncData}(ux:Hh P w K mg base 8 cM Le ["world"] (bT XQ (Ls "walk"))){GD:FuncData}(qI:Hh P w K mg base 2 bQ GD ["world"] (bT XQ (Ls "lost"))):mK P w K mg base 9 wB fd ["world"] (bT XQ Zg3):=by
 have sc:=Ziv;have tx:=mJ _ T;refine G.mG F sc (λvs H Q E h=>?_) (λcdv A outer s H vs Q E hr h=>?_)
 ·obtain⟨z0,rfl,q⟩:=h;rfl
 ·refine⟨UT K cQ cP cM bQ (bT XQ (Ls "rest")) (bT XQ (Ls "give")) (bT XQ (Ls "walk")) (bT XQ (Ls "lost")),(aq (bh (i:=1) sc.nd rfl (Or.inl rfl) (G.Zmw T.Sg rfl (aF (aF (pv 0) rfl) rfl) (λ_ _=>rfl)))
   (az (aK (G.Zg1 (k:=8) (G.FnT.cons (by decide) uz.g uz.b uz.k (G.FnT.cons (by decide) ux.g ux.b ux.k (G.FnT.cons (by decide) uy.g uy.b uy.k (G.FnT.cons (by decide) qI.g qI.b qI.k G.FnT.nil)))) (hr.mono (by decide)) rfl (Or.inl rfl) G.eF (aa (pv 0) au))))),?_⟩
  obtain⟨z0,rfl,q⟩:=h;exact Zil tx q
theorem X8{fd:FuncData}(F:jX K "_law_mix" "_law_mix" Dm gj fd):mK P w K mg base 1 gj fd oJ (q8):=by
 have sc:=Xu;have tx:=mJ _ T;refine G.mG F sc (λvs H Q E h=>?_) (λcdv A outer s H vs Q E hr h=>?_)
 ·obtain⟨z0,z1,rfl,q⟩:=h;rfl
 ·refine⟨zV,(aq (bh (i:=2) sc.nd rfl (Or.inl rfl) (bU mD (bU kO (bU Zal (pv 0) (pv 1)) (aG)) (aG)))
   (az (aK (bU Bu (bU mD (bU Zal (pv 2) (pv 2)) (aG)) (aG))))),?_⟩
  obtain⟨z0,z1,rfl,q⟩:=h;exact Zn q
theorem K9{fd:FuncData}(F:jX K "_law_cell_at" "_law_cell_at" tR fL fd):mK P w K mg base 1 fL fd tZ (Zd6 K):=by
 have sc:=K4;have tx:=mJ _ T;refine G.mG F sc (λvs H Q E h=>?_) (λcdv A outer s H vs Q E hr h=>?_)
 ·obtain⟨z0,z1,rfl,q⟩:=h;rfl
 ·refine⟨rP K,(aq (bY (aX XX (pv 1) (bz G.cF (by rfl) T.jj G.boot_len (aa (pv 0) au)) (bx _)) (az (aK (cU bF (pv 0) (pv 1) (λ_ _=>rfl)))) aR)
   (az (aK (aG)))),?_⟩
  obtain⟨z0,z1,rfl,q⟩:=h;exact Ln q
theorem QC{fd:FuncData}(F:jX K "_law_same" "_law_same" uH di fd)(cu:Hh P w K mg base 0 di fd jJ (WR)):uE P w K mg base (G.CXe P w) 1 di fd ["_law_found","_law_due"] (fM 0):=by
 have sc:=Et;refine G.mG F sc (λvs H Q E h=>?_) (λcdv A outer s H vs Q E hr h=>?_)
 ·obtain⟨z0,z1,rfl,q⟩:=h;rfl
 ·refine⟨jG K (WR),(aq (bY (aX G.pC (pv 1) (dg) (bx _)) (az (aK (j7 G.pC (pv 0) (dg) (bx _)))) aR)
   (aq (bY (aX G.Ad (pv 1) (gZ) (bx _)) (az (aK (j7 G.Ad (pv 0) (gZ) (bx _)))) aR)
   (aq (bY (aX G.Ad (pv 1) (gZ) (bx _)) (az (aK (j7 G.Ad (pv 0) (gZ) (bx _)))) aR)
   (aq (bY (eE (bz G.gJ (by rfl) T.bV G.boot_isinstance (aa (pv 1) (aa (jB rfl T.Mv G.boot_int rfl) au)))) (az (aK ((z6 (bz G.gJ (by rfl) T.bV G.boot_isinstance (aa (pv 0) (aa (jB rfl T.Mv G.boot_int rfl) au))) (z6 (Zae (bz G.gJ (by rfl) T.bV G.boot_isinstance (aa (pv 0) (aa (jB rfl T.Mw G.boot_bool rfl) au)))) (Im (j7 kJ (pv 0) (pv 1) (bx _)))))))) aR)
   (aq (bY (eE (bz G.gJ (by rfl) T.bV G.boot_isinstance (aa (pv 1) (aa (jB rfl T.Mu G.boot_str rfl) au)))) (az (aK ((z6 (bz G.gJ (by rfl) T.bV G.boot_isinstance (aa (pv 0) (aa (jB rfl T.Mu G.boot_str rfl) au))) (Im (j7 kJ (pv 0) (pv 1) (bx _))))))) aR)
   (aq (bY (PW.pt (pB (eE (bz G.gJ (by rfl) T.bV G.boot_isinstance (aa (pv 1) (aa (jB rfl T.tH G.boot_list rfl) au)))) (qM (jE (eE (bz G.gJ (by rfl) T.bV G.boot_isinstance (aa (pv 0) (aa (jB rfl T.tH G.boot_list rfl) au)))))))) (az (aK (gZ))) aR)
   (aq (bY (PW.pt (pB (eE (bz G.gJ (by rfl) T.bV G.boot_isinstance (aa (pv 1) (aa (jB rfl T.wY G.boot_tuple rfl) au)))) (qM (jE (eE (bz G.gJ (by rfl) T.bV G.boot_isinstance (aa (pv 0) (aa (jB rfl T.wY G.boot_tuple rfl) au)))))))) (az (aK (gZ))) aR)
   (aq (bY (aX Cv (bz G.cF (by rfl) T.jj G.boot_len (aa (pv 0) au)) (bz G.cF (by rfl) T.jj G.boot_len (aa (pv 1) au)) (bx _)) (az (aK (gZ))) aR)
   (aq (jN PassesOwn.never rfl (gO rfl T.jA (aa (bz G.cF (by rfl) T.jj G.boot_len (aa (pv 1) au)) au)) (dR (i:=2) sc.nd rfl (Or.inl rfl))
   (az (bY (jE (eE (U5 cu.g (hr.mono (by omega)) rfl T.fU cu.k cu.b .nil G.eF (aa (cU VL (pv 0) (pv 2) (λ_ _=>rfl)) (aa (cU VL (pv 1) (pv 2) (λ_ _=>rfl)) au))))) (az (aK (gZ))) aR)))
   (az (aK (gZ)))))))))))),?_⟩
  obtain⟨z0,z1,rfl,q⟩:=h;exact RL q
theorem yt{d lv:Nat}(hlv:0<=lv){fd:FuncData}(F:jX K "_law_same" "_law_same" uH di fd)(cu:Hh P w K mg base lv di fd jJ (fM d)):uE P w K mg base (G.CXe P w) (lv+1) di fd ["_law_found","_law_due"] (fM (d+1)):=by
 have sc:=Et;refine G.mG F sc (λvs H Q E h=>?_) (λcdv A outer s H vs Q E hr h=>?_)
 ·obtain⟨z0,z1,rfl,q⟩:=h;rfl
 ·refine⟨jG K (fM d),(aq (bY (aX G.pC (pv 1) (dg) (bx _)) (az (aK (j7 G.pC (pv 0) (dg) (bx _)))) aR)
   (aq (bY (aX G.Ad (pv 1) (gZ) (bx _)) (az (aK (j7 G.Ad (pv 0) (gZ) (bx _)))) aR)
   (aq (bY (aX G.Ad (pv 1) (gZ) (bx _)) (az (aK (j7 G.Ad (pv 0) (gZ) (bx _)))) aR)
   (aq (bY (eE (bz G.gJ (by rfl) T.bV G.boot_isinstance (aa (pv 1) (aa (jB rfl T.Mv G.boot_int rfl) au)))) (az (aK ((z6 (bz G.gJ (by rfl) T.bV G.boot_isinstance (aa (pv 0) (aa (jB rfl T.Mv G.boot_int rfl) au))) (z6 (Zae (bz G.gJ (by rfl) T.bV G.boot_isinstance (aa (pv 0) (aa (jB rfl T.Mw G.boot_bool rfl) au)))) (Im (j7 kJ (pv 0) (pv 1) (bx _)))))))) aR)
   (aq (bY (eE (bz G.gJ (by rfl) T.bV G.boot_isinstance (aa (pv 1) (aa (jB rfl T.Mu G.boot_str rfl) au)))) (az (aK ((z6 (bz G.gJ (by rfl) T.bV G.boot_isinstance (aa (pv 0) (aa (jB rfl T.Mu G.boot_str rfl) au))) (Im (j7 kJ (pv 0) (pv 1) (bx _))))))) aR)
   (aq (bY (PW.pt (pB (eE (bz G.gJ (by rfl) T.bV G.boot_isinstance (aa (pv 1) (aa (jB rfl T.tH G.boot_list rfl) au)))) (qM (jE (eE (bz G.gJ (by rfl) T.bV G.boot_isinstance (aa (pv 0) (aa (jB rfl T.tH G.boot_list rfl) au)))))))) (az (aK (gZ))) aR)
   (aq (bY (PW.pt (pB (eE (bz G.gJ (by rfl) T.bV G.boot_isinstance (aa (pv 1) (aa (jB rfl T.wY G.boot_tuple rfl) au)))) (qM (jE (eE (bz G.gJ (by rfl) T.bV G.boot_isinstance (aa (pv 0) (aa (jB rfl T.wY G.boot_tuple rfl) au)))))))) (az (aK (gZ))) aR)
   (aq (bY (aX Cv (bz G.cF (by rfl) T.jj G.boot_len (aa (pv 0) au)) (bz G.cF (by rfl) T.jj G.boot_len (aa (pv 1) au)) (bx _)) (az (aK (gZ))) aR)
   (aq (jN PassesOwn.never rfl (gO rfl T.jA (aa (bz G.cF (by rfl) T.jj G.boot_len (aa (pv 1) au)) au)) (dR (i:=2) sc.nd rfl (Or.inl rfl))
   (az (bY (jE (eE (U5 cu.g (hr.mono (by omega)) rfl T.fU cu.k cu.b .nil G.eF (aa (cU VL (pv 0) (pv 2) (λ_ _=>rfl)) (aa (cU VL (pv 1) (pv 2) (λ_ _=>rfl)) au))))) (az (aK (gZ))) aR)))
   (az (aK (gZ)))))))))))),?_⟩
  obtain⟨z0,z1,rfl,q⟩:=h;exact Wy q
theorem Yb{fd:FuncData}(F:jX K "_law_all" "_law_all" Dn jR fd):mK P w K mg base 1 jR fd Dz (WY):=by
 have sc:=Xv;have tx:=mJ _ T;refine G.mG F sc (λvs H Q E h=>?_) (λcdv A outer s H vs Q E hr h=>?_)
 ·obtain⟨z0,rfl,q⟩:=h;rfl
 ·refine⟨zW,(aq (bh (i:=1) sc.nd rfl (Or.inl rfl) (aG))
   (aq (bh (i:=2) sc.nd rfl (Or.inl rfl) (aG))
   (aq (jN PassesOwn.never rfl (gO rfl T.jA (aa (pv 0) au)) (dR (i:=3) sc.nd rfl (Or.inl rfl))
   (aq (bh (i:=1) sc.nd rfl (Or.inl rfl) (bU kO (pv 1) (pv 2)))
   (az (bh (i:=2) sc.nd rfl (Or.inl rfl) (bU kO (pv 2) (pv 2))))))
   (az (aK (pv 1)))))),?_⟩
  obtain⟨z0,rfl,q⟩:=h;exact Zo q
theorem Ve{fd:FuncData}(F:jX K "_law_kind" "_law_kind" zL jq fd){jK:FuncData}(jz:Hh P w K mg base 1 gj jK oJ (q8)):mK P w K mg base 2 jq fd Aa (Mq):=by
 have sc:=Us;have tx:=mJ _ T;refine G.mG F sc (λvs H Q E h=>?_) (λcdv A outer s H vs Q E hr h=>?_)
 ·obtain⟨z0,rfl,q⟩:=h;rfl
 ·refine⟨xZ K (q8),(aq (bh (i:=1) sc.nd rfl (Or.inl rfl) (cU bF (gP (aa (bG) (aa (bG) (aa (bG) au)))) (bU mD (jC jz hr T.mU (aa (pv 0) (aa (aG) au))) (aG)) (λ_ _=>rfl)))
   (az (aK (bU DK (pv 1) (cU bF (gP (aa (bG) (aa (bG) (aa (bG) (aa (bG) au))))) (bU mD (jC jz hr T.mU (aa (pv 0) (aa (aG) au))) (aG)) (λ_ _=>rfl)))))),?_⟩
  obtain⟨z0,rfl,q⟩:=h;exact WK q
theorem QJ{fd:FuncData}(F:jX K "_law_began" "_law_began" xK iD fd){Zb:FuncData}(Zc5:Hh P w K mg base 1 jR Zb Dz (WY)){gb:FuncData}(cu:Hh P w K mg base 4 di gb jJ (fM 3)){Wd:FuncData}(Zw:Hh P w K mg base 1 jm Wd z8 (rz XQ)):mK P w K mg base 5 iD fd yr (Hs XQ):=by
 have sc:=Qn;have tx:=mJ _ T;refine G.mG F sc (λvs H Q E h=>?_) (λcdv A outer s H vs Q E hr h=>?_)
 ·obtain⟨z0,z1,z2,z3,rfl,q⟩:=h;rfl
 ·refine⟨vH K (WY) (fM 3) (rz XQ),(aq (bh (i:=4) sc.nd rfl (Or.inl rfl) (aF (pv 0) rfl))
   (aq (bh (i:=5) sc.nd rfl (Or.inl rfl) (aG))
   (aq (bY (aX kJ (Fb G.Zf8 (pv 1) Zcj (Bo (aG))) (bG) (bx _)) (az (bh (i:=5) sc.nd rfl (Or.inl rfl) (jC Zc5 hr T.Oi (aa (pv 3) au)))) aR)
   (aq (bh (i:=6) sc.nd rfl (Or.inl rfl) (gP (aa (aF (pv 4) rfl) (aa (aF (pv 4) rfl) (aa (aF (pv 4) rfl) (aa (aF (pv 4) rfl) (aa (aF (pv 4) rfl) au)))))))
   (aq (bY (jE (eE (jC cu hr T.fU (aa (pv 6) (aa (gP (aa (bU mD (pv 2) (aG)) (aa (pv 2) (aa (bG) (aa (gP au) (aa (pv 5) au)))))) au))))) (az (aK (gZ))) aR)
   (aq (jN PassesOwn.never rfl (gO rfl T.jA (aa (pv 3) au)) (dR (i:=7) sc.nd rfl (Or.inl rfl))
   (az (bY (jE (eE (jC cu hr T.fU (aa (jC Zw hr T.J3 (aa (pv 0) (aa (pv 7) au))) (aa (j7 kJ (Fb G.Zf8 (pv 1) Zcj (Bo (aG))) (bG) (bx _)) au))))) (az (aK (gZ))) aR)))
   (az (aK (jC cu hr T.fU (aa (gP (aa (aF (pv 4) rfl) (aa (aF (pv 4) rfl) (aa (aF (pv 4) rfl) au)))) (aa (gP (aa (aG) (aa (aG) (aa (aG) au)))) au))))))))))),?_⟩
  obtain⟨z0,z1,z2,z3,rfl,q⟩:=h;exact RT tx q
theorem QG{fd:FuncData}(F:jX K "_law_marks" "_law_marks" xH gk fd){gb:FuncData}(cu:Hh P w K mg base 4 di gb jJ (fM 3)){DX:FuncData}(JV:Hh P w K mg base 2 kZ DX Br (oU XQ)){Rr:FuncData}(W6:Hh P w K mg base 5 ig Rr ["world"] (WQ XQ)):mK P w K mg base 6 gk fd sE (pP XQ):=by
 have sc:=Ql;have tx:=mJ _ T;refine G.mG F sc (λvs H Q E h=>?_) (λcdv A outer s H vs Q E hr h=>?_)
 ·obtain⟨z0,z1,z2,rfl,q⟩:=h;rfl
 ·refine⟨vD K (fM 3) (oU XQ) (WQ XQ),(aq (bh (i:=3) sc.nd rfl (Or.inl rfl) (gP au))
   (aq (jN PassesOwn.never rfl (gO rfl T.jA (aa (bz G.cF (by rfl) T.jj G.boot_len (aa (pv 1) au)) au)) (dR (i:=4) sc.nd rfl (Or.inl rfl))
   (az (bY (aX G.kE (cU bF (pv 1) (pv 4) (λ_ _=>rfl)) (dg) (bx _)) (aq (bh (i:=5) sc.nd rfl (Or.inl rfl) (cU bF (pv 1) (pv 4) (λ_ _=>rfl)))
   (aq (bh (i:=6) sc.nd rfl (Or.inl rfl) (cU bF (pv 5) (aG) (λ_ _=>rfl)))
   (aq (bY (aX kJ (pv 2) (aG) (bx _)) (az (bh (i:=6) sc.nd rfl (Or.inl rfl) (bG))) aR)
   (aq (bY (jE (eE (jC cu hr T.fU (aa (jC JV hr T.Jl (aa (pv 0) (aa (pv 4) au))) (aa (pv 6) au))))) (az (aK (gZ))) aR)
   (az (jY (zZ PySem.F.plainAttrs_list PySem.F.slot_list_append PySem.F.type_list_append qF (pv 3) (aa (mC (aa (pv 4) (aa (cU bF (pv 5) (aG) (λ_ _=>rfl)) (aa (cU bF (pv 5) (aG) (λ_ _=>rfl)) (aa (aG) (aa (bU Zak (gP (aa (dg) au)) (cU bF (pv 5) (aG) (λ_ _=>rfl))) (aa (pv 6) au))))))) au)))))))) aR)))
   (az (aK (jC cu hr T.fU (aa (jC W6 hr T.FZ (aa (pv 0) au)) (aa (pv 3) au))))))),?_⟩
  obtain⟨z0,z1,z2,rfl,q⟩:=h;exact RP q
theorem QH{fd:FuncData}(F:jX K "_law_least" "_law_least" xJ iC fd):mK P w K mg base 1 iC fd yq (Hr):=by
 have sc:=Qm;have tx:=mJ _ T;refine G.mG F sc (λvs H Q E h=>?_) (λcdv A outer s H vs Q E hr h=>?_)
 ·obtain⟨z0,rfl,q⟩:=h;rfl
 ·refine⟨vG K,(aq (jN PassesOwn.never rfl (gO rfl T.jA (aa (bz G.cF (by rfl) T.jj G.boot_len (aa (pv 0) au)) au)) (dR (i:=1) sc.nd rfl (Or.inl rfl))
   (az (bY (aX G.pC (cU bF (pv 0) (pv 1) (λ_ _=>rfl)) (dg) (bx _)) (az (aK (pv 1))) aR)))
   (aq (jY (zZ PySem.F.plainAttrs_list PySem.F.slot_list_append PySem.F.type_list_append qF (pv 0) (aa (dg) au)))
   (az (aK (bU Iv (bz G.cF (by rfl) T.jj G.boot_len (aa (pv 0) au)) (aG)))))),?_⟩
  obtain⟨z0,rfl,q⟩:=h;exact RQ q
theorem Vd{fd:FuncData}(F:jX K "_law_make" "_law_make" zK iK fd){Wi:FuncData}(Km:Hh P w K mg base 3 gB Wi Ac (rA K XQ.C XQ.H lR)){Rz:FuncData}(Xd:Hh P w K mg base 1 iC Rz yq (Hr)){jK:FuncData}(jz:Hh P w K mg base 1 gj jK oJ (q8)){gb:FuncData}(cu:Hh P w K mg base 4 di gb jJ (fM 3)):mK P w K mg base 5 iK fd uL (uV XQ):=by
 have sc:=Ur;have tx:=mJ _ T;refine G.mG F sc (λvs H Q E h=>?_) (λcdv A outer s H vs Q E hr h=>?_)
 ·obtain⟨z0,z1,z2,z3,z4,rfl,q⟩:=h;rfl
 ·refine⟨xY K XQ.H (rA K XQ.C XQ.H lR) (Hr) (q8) (fM 3),(aq (bh (i:=5) sc.nd rfl (Or.inl rfl) (bU mD (jC jz hr T.mU (aa (pv 3) (aa (aG) au))) (aG)))
   (aq (bh (i:=6) sc.nd rfl (Or.inl rfl) (bU mD (bU mD (bU Zal (pv 3) (aG)) (aG)) (bU kO (bU Zg5 (aG) (aG)) (aG))))
   (aq (bh (i:=7) sc.nd rfl (Or.inl rfl) (qN (aF (pv 0) rfl) T.cC T.FQ Km.g (hr.mono (by decide)) Km.b .nil G.eF (aa (pv 5) (aa (pv 6) (aa (aF (aF (pv 0) rfl) rfl) au)))))
   (aq (bh (i:=8) sc.nd rfl (Or.inl rfl) (jC Xd hr T.Gg (aa (pv 1) au)))
   (aq (tW (bU kO (cU bF (pv 2) (aG) (λ_ _=>rfl)) (aG)) (vO (pv 2) (aG) set_list))
   (aq (tW (gP (aa (cU bF (pv 2) (aG) (λ_ _=>rfl)) (aa (pv 6) (aa (pv 5) (aa (pv 4) au))))) (vO (pv 1) (pv 8) set_list))
   (az (aK (jC cu hr T.fU (aa (pv 7) (aa (pv 8) au))))))))))),?_⟩
  obtain⟨z0,z1,z2,z3,z4,rfl,q⟩:=h;exact Wz tx q
theorem QF{fd:FuncData}(F:jX K "_law_noted" "_law_noted" xG iB fd){gb:FuncData}(cu:Hh P w K mg base 4 di gb jJ (fM 3)){Wc:FuncData}(Zc2:Hh P w K mg base 2 um Wc U7 (yK XQ)):mK P w K mg base 5 iB fd yp (Bg XQ):=by
 have sc:=Qk;have tx:=mJ _ T;refine G.mG F sc (λvs H Q E h=>?_) (λcdv A outer s H vs Q E hr h=>?_)
 ·obtain⟨z0,z1,z2,z3,z4,rfl,q⟩:=h;rfl
 ·refine⟨vC K (fM 3) (yK XQ),(aq (bh (i:=5) sc.nd rfl (Or.inl rfl) (dg))
   (aq (bY (PW.pt (pB (aX Zck (pv 3) (aG) (bx _)) (pB (aX G.kE (pv 4) (dg) (bx _)) (pB (aX G.kE (cU bF (pv 1) (pv 4) (λ_ _=>rfl)) (dg) (bx _)) (qM (aX kJ (cU bF (cU bF (pv 1) (pv 4) (λ_ _=>rfl)) (aG) (λ_ _=>rfl)) (bG) (bx _))))))) (aq (bh (i:=5) sc.nd rfl (Or.inl rfl) (cU bF (cU bF (pv 1) (pv 4) (λ_ _=>rfl)) (aG) (λ_ _=>rfl)))
   (aq (tW (bG) (vO (cU bF (pv 1) (pv 4) (λ_ _=>rfl)) (aG) set_list))
   (az (jY (zZ PySem.F.plainAttrs_list PySem.F.slot_list_append PySem.F.type_list_append qF (pv 2) (aa (pv 4) au)))))) aR)
   (az (aK ((z6 (jC cu hr T.fU (aa (jC Zc2 hr T.Zay (aa (pv 0) (aa (pv 4) au))) (aa (pv 5) au))) (Im (jC cu hr T.fU (aa (aF (aF (pv 0) rfl) rfl) (aa (pv 2) au)))))))))),?_⟩
  obtain⟨z0,z1,z2,z3,z4,rfl,q⟩:=h;exact RN tx q
theorem Vc{fd:FuncData}(F:jX K "_law_turn" "_law_turn" zJ jo fd){yI:FuncData}(rC:Hh P w K mg base 2 gD yI uM (lE XQ.C XQ.H)){yH:FuncData}(Bk:Hh P w K mg base 5 iK yH uL (uV XQ)){jK:FuncData}(jz:Hh P w K mg base 1 gj jK oJ (q8)){Ry:FuncData}(Xc:Hh P w K mg base 5 iB Ry yp (Bg XQ)){gb:FuncData}(cu:Hh P w K mg base 4 di gb jJ (fM 3)):mK P w K mg base 6 jo fd z9 (Ho XQ):=by
 have sc:=Uq;have tx:=mJ _ T;refine G.mG F sc (λvs H Q E h=>?_) (λcdv A outer s H vs Q E hr h=>?_)
 ·obtain⟨z0,z1,z2,z3,z4,z5,rfl,q⟩:=h;rfl
 ·refine⟨xX K XQ.H (lE XQ.C XQ.H) (uV XQ) (q8) (Bg XQ) (fM 3),(aq (bh (i:=6) sc.nd rfl (Or.inl rfl) (bU mD (jC jz hr T.mU (aa (pv 5) (aa (aG) au))) (aG)))
   (aq (bY (PW.pt (wJ (aX kJ (pv 6) (aG) (bx _)) (vN (aX kJ (bz G.cF (by rfl) T.jj G.boot_len (aa (pv 1) au)) (aG) (bx _))))) (az (aK (jC Bk hr T.Ao (aa (pv 0) (aa (pv 1) (aa (pv 4) (aa (pv 5) (aa (bG) au)))))))) aR)
   (aq (bh (i:=7) sc.nd rfl (Or.inl rfl) (bU mD (jC jz hr T.mU (aa (pv 5) (aa (aG) au))) (bz G.cF (by rfl) T.jj G.boot_len (aa (pv 1) au))))
   (aq (bY (aX kJ (pv 6) (aG) (bx _)) (az (bh (i:=7) sc.nd rfl (Or.inl rfl) (dg))) aR)
   (aq (bY (PW.pt (pB (aX kJ (pv 6) (aG) (bx _)) (pB (aX G.kE (cU bF (pv 1) (pv 7) (λ_ _=>rfl)) (dg) (bx _)) (qM (aX Cv (cU bF (cU bF (pv 1) (pv 7) (λ_ _=>rfl)) (aG) (λ_ _=>rfl)) (bG) (bx _)))))) (aq (bh (i:=8) sc.nd rfl (Or.inl rfl) (cU bF (cU bF (pv 1) (pv 7) (λ_ _=>rfl)) (aG) (λ_ _=>rfl)))
   (aq (tW (dg) (vO (pv 1) (pv 7) set_list))
   (az (aK (jC cu hr T.fU (aa (qN (aF (pv 0) rfl) T.cC T.yz rC.g (hr.mono (by decide)) rC.b .nil G.eF (aa (pv 7) au)) (aa (pv 8) au))))))) aR)
   (az (aK (jC Xc hr T.Gf (aa (pv 0) (aa (pv 1) (aa (pv 2) (aa (pv 3) (aa (pv 7) au))))))))))))),?_⟩
  obtain⟨z0,z1,z2,z3,z4,z5,rfl,q⟩:=h;exact Wx tx q
theorem Vf{fd:FuncData}(F:jX K "_law_hold" "_law_hold" zM jr fd){jK:FuncData}(jz:Hh P w K mg base 1 gj jK oJ (q8)):mK P w K mg base 2 jr fd Ab (Mr XQ):=by
 have sc:=Ut;have tx:=mJ _ T;refine G.mG F sc (λvs H Q E h=>?_) (λcdv A outer s H vs Q E hr h=>?_)
 ·obtain⟨z0,z1,z2,z3,rfl,q⟩:=h;rfl
 ·refine⟨yc K (q8),(aq (bh (i:=4) sc.nd rfl (Or.inl rfl) (Nu))
   (aq (jN PassesOwn.never rfl (gO rfl T.jA (aa (bz G.cF (by rfl) T.jj G.boot_len (aa (pv 1) au)) au)) (dR (i:=5) sc.nd rfl (Or.inl rfl))
   (az (bY (PW.pt (pB (aX G.kE (cU bF (pv 1) (pv 5) (λ_ _=>rfl)) (dg) (bx _)) (pB (aX XX (bU Bu (pv 5) (pv 2)) (aG) (bx _)) (qM (aX Zck (bU mD (jC jz hr T.mU (aa (pv 3) (aa (bU kO (aG) (pv 5)) au))) (aG)) (aG) (bx _)))))) (aq (bh (i:=6) sc.nd rfl (Or.inl rfl) (aF (cU bF (aF (pv 0) rfl) (bU mD (pv 5) (pv 2)) (λ_ _=>rfl)) rfl))
   (aq (tW (pv 5) (vO (pv 6) (bU Bu (pv 5) (pv 2)) set_list))
   (az (Zci (Tc hr) (pv 4) (pv 5) (gZ) rfl)))) aR)))
   (az (aK (pv 4))))),?_⟩
  obtain⟨z0,z1,z2,z3,rfl,q⟩:=h;exact WL tx q
theorem Fq{fd:FuncData}(F:jX K "_law_turned_to" "_law_turned_to" p8 dI fd):mK P w K mg base 1 dI fd m8 (qH):=by
 have sc:=Es;have tx:=mJ _ T;refine G.mG F sc (λvs H Q E h=>?_) (λcdv A outer s H vs Q E hr h=>?_)
 ·obtain⟨z0,z1,z2,rfl,q⟩:=h;rfl
 ·refine⟨o7 K,(az (jN PassesOwn.never rfl (jZ (pv 0)) (dR (i:=3) sc.nd rfl (Or.inl rfl))
   (az (bY (PW.pt (pB (aX G.kE (pv 3) (dg) (bx _)) (qM (aX Bt (cU bF (pv 3) (aG) (λ_ _=>rfl)) (pv 1) (by with_unfolding_all rfl))))) (az (tW (pv 2) (vO (pv 3) (aG) set_list))) aR)))),?_⟩
  obtain⟨z0,z1,z2,rfl,q⟩:=h;exact Hg q
theorem K8{fd:FuncData}(F:jX K "_law_stepped" "_law_stepped" tQ fK fd){gb:FuncData}(cu:Hh P w K mg base 4 di gb jJ (fM 3)){pM:FuncData}(gY:Hh P w K mg base 1 dI pM m8 (qH)):mK P w K mg base 5 fK fd tY (yJ K):=by
 have sc:=K3;have tx:=mJ _ T;refine G.mG F sc (λvs H Q E h=>?_) (λcdv A outer s H vs Q E hr h=>?_)
 ·obtain⟨z0,z1,z2,rfl,q⟩:=h;rfl
 ·refine⟨rO K (fM 3) (qH),(aq (tW (pv 2) (Nt rfl (mO (dR (i:=3) sc.nd rfl (Or.inl rfl)) (mO (dR (i:=4) sc.nd rfl (Or.inl rfl)) (mO (dR (i:=5) sc.nd rfl (Or.inl rfl)) EY)))))
   (aq (G.XH (iz:=7) (cns:=["_law_lies"]) [0] (gO rfl T.jA (aa (bz G.cF (by rfl) T.jj G.boot_len (aa (pv 0) au)) au)) (λ_ _ _ _ _=>(G.Il (aX G.kE (cU bF (pv 1) (pv 0) (λ_ _=>rfl)) (dg) (bx _)))) (λ_ _ _ _ _=>(pv 0)) rfl rfl (by repeat (first | exact trivial | refine⟨rfl,?_⟩)) (by repeat (first | exact trivial | refine⟨rfl,?_⟩)) rfl (by decide +kernel) rfl (by decide +kernel) (by decide +kernel) rfl (by decide +kernel) sc.nd rfl (Or.inl rfl) (Or.inr rfl) rfl)
   (aq (bY (aX kJ (pv 3) (bG) (bx _)) (az (jY (jC gY hr T.gQ (aa (pv 0) (aa (G.Ff (cns:=["_law_lies"]) [0] (jZ (pv 7)) (λ_ _ _ _ _=>G.zY) (λ_ _ _ _ _=>(cU bF (cU bF (pv 1) (pv 0) (λ_ _=>rfl)) (aG) (λ_ _=>rfl))) rfl rfl (by repeat (first | exact trivial | refine⟨rfl,?_⟩)) (by repeat (first | exact trivial | refine⟨rfl,?_⟩)) rfl (by decide +kernel) rfl (by decide +kernel) (by decide +kernel) rfl (by decide +kernel)) (aa (bG) au)))))) aR)
   (aq (bY (aX Bt (pv 3) (mC (aa (bG) (aa (bG) (aa (bG) au)))) (by with_unfolding_all rfl)) (az (jY (jC gY hr T.gQ (aa (pv 0) (aa (pv 5) (aa (bG) au)))))) aR)
   (aq (bY (aX kJ (pv 3) (bG) (bx _)) (az (jY (jC gY hr T.gQ (aa (pv 0) (aa (gP (aa (pv 4) au)) (aa (bG) au)))))) aR)
   (aq (bY (aX kJ (pv 3) (bG) (bx _)) (aq (jY (jC gY hr T.gQ (aa (pv 0) (aa (G.Ff (cns:=["_law_lies"]) [0] (jZ (pv 7)) (λ_ _ _ _ _=>G.zY) (λ_ _ _ _ _=>(cU bF (cU bF (pv 1) (pv 0) (λ_ _=>rfl)) (aG) (λ_ _=>rfl))) rfl rfl (by repeat (first | exact trivial | refine⟨rfl,?_⟩)) (by repeat (first | exact trivial | refine⟨rfl,?_⟩)) rfl (by decide +kernel) rfl (by decide +kernel) (by decide +kernel) rfl (by decide +kernel)) (aa (bG) au)))))
   (aq (G.XH (iz:=8) (cns:=["_law_lies","_law_holds"]) [0,1] (jZ (pv 7)) (λ_ _ _ _ _=>(G.Il (Zfp (Zdp (Tc hr) (pv 0) (pv 2))))) (λ_ _ _ _ _=>(cU bF (cU bF (pv 1) (pv 0) (λ_ _=>rfl)) (aG) (λ_ _=>rfl))) rfl rfl (by repeat (first | exact trivial | refine⟨rfl,?_⟩)) (by repeat (first | exact trivial | refine⟨rfl,?_⟩)) rfl (by decide +kernel) rfl (by decide +kernel) (by decide +kernel) rfl (by decide +kernel) sc.nd rfl (Or.inl rfl) (Or.inr rfl) rfl)
   (aq (jY (jC gY hr T.gQ (aa (pv 0) (aa (pv 8) (aa (bG) au)))))
   (az (aK (jC cu hr T.fU (aa (pv 2) (aa (mC (aa (bG) (aa (bz G.cF (by rfl) T.jj G.boot_len (aa (pv 8) au)) (aa (pv 8) au)))) au)))))))) aR)
   (aq (bY (aX kJ (pv 3) (bG) (bx _)) (aq (bh (i:=6) sc.nd rfl (Or.inl rfl) (cU bF (pv 5) (aG) (λ_ _=>rfl)))
   (aq (bY (PW.pt (wJ (aX G.pC (cU bF (pv 0) (pv 6) (λ_ _=>rfl)) (dg) (bx _)) (wJ (aX Cv (cU bF (cU bF (pv 0) (pv 6) (λ_ _=>rfl)) (aG) (λ_ _=>rfl)) (pv 4) (bx _)) (vN (aX Cv (cU bF (cU bF (pv 0) (pv 6) (λ_ _=>rfl)) (aG) (λ_ _=>rfl)) (bG) (bx _)))))) (az (aK (gZ))) aR)
   (az (tW (dg) (vO (pv 0) (pv 6) set_list))))) aR)
   (az (aK (j7 Cv (pv 3) (bG) (bx _))))))))))),?_⟩
  obtain⟨z0,z1,z2,rfl,q⟩:=h;exact Lj q
theorem QD{fd:FuncData}(F:jX K "_law_round" "_law_round" xF iy fd){v9:FuncData}(sY:Hh P w K mg base 6 gk v9 sE (pP XQ)){Lh:FuncData}(Pq:Hh P w K mg base 5 fK Lh tY (yJ K)){Zlb:FuncData}(Zp6:Hh P w K mg base 9 wB Zlb ["world"] (bT XQ Zg3)):mK P w K mg base 10 iy fd yo (Hq XQ):=by
 have sc:=Qj;have tx:=mJ _ T;refine G.mG F sc (λvs H Q E h=>?_) (λcdv A outer s H vs Q E hr h=>?_)
 ·obtain⟨z0,z1,z2,rfl,q⟩:=h;rfl
 ·refine⟨vB K (pP XQ) (yJ K) (bT XQ Zg3),(aq (jN PassesOwn.never rfl (gO rfl T.jA (aa (aG) au)) (dR (i:=3) sc.nd rfl (Or.inl rfl))
   (aq (bh (i:=4) sc.nd rfl (Or.inl rfl) (jC Zp6 hr T.Zgo (aa (pv 0) au)))
   (aq (bY (PW.pt (wJ (jE (eE (jC Pq hr T.An (aa (pv 1) (aa (pv 2) (aa (pv 4) au)))))) (vN (jE (eE (jC sY hr T.sS (aa (pv 0) (aa (pv 1) (aa (aG) au))))))))) (az (aK (gZ))) aR)
   (az (bY (aX kJ (cU DP (pv 4) (aG) (λ_ _=>rfl)) (bG) (bx _)) (az (aK (gZ))) aR)))))
   (az (aK (gZ)))),?_⟩
  obtain⟨z0,z1,z2,rfl,q⟩:=h;exact RM q
theorem NK{fd:FuncData}(F:jX K "_law_rounds" "_law_rounds" vh fY fd){Wg:FuncData}(Zz:Hh P w K mg base 2 jr Wg Ab (Mr XQ)){Rx:FuncData}(Xb:Hh P w K mg base 10 iy Rx yo (Hq XQ)){pM:FuncData}(gY:Hh P w K mg base 1 dI pM m8 (qH)):mK P w K mg base 11 fY fd vP (BJ XQ):=by
 have sc:=Nb;have tx:=mJ _ T;refine G.mG F sc (λvs H Q E h=>?_) (λcdv A outer s H vs Q E hr h=>?_)
 ·obtain⟨z0,z1,z2,z3,rfl,q⟩:=h;rfl
 ·refine⟨tV K (Mr XQ) (Hq XQ) (qH),(aq (jN PassesOwn.never rfl (gO rfl T.jA (aa (bU mD (bU Bu (pv 3) (aG)) (aG)) au)) (dR (i:=4) sc.nd rfl (Or.inl rfl))
   (aq (bY (jE (eE (jC Xb hr T.Ge (aa (pv 0) (aa (pv 1) (aa (jC Zz hr T.J6 (aa (pv 0) (aa (pv 1) (aa (pv 2) (aa (bU kO (pv 3) (pv 4)) au))))) au)))))) (az (aK (gZ))) aR)
   (az (jN PassesOwn.never rfl (jZ (aF (pv 0) rfl)) (dR (i:=5) sc.nd rfl (Or.inl rfl))
   (aq (bh (i:=6) sc.nd rfl (Or.inl rfl) (aF (pv 5) rfl))
   (az (jN PassesOwn.never rfl (gO rfl T.jA (aa (bz G.cF (by rfl) T.jj G.boot_len (aa (pv 6) au)) au)) (dR (i:=7) sc.nd rfl (Or.inl rfl))
   (az (tW (dg) (vO (pv 6) (pv 7) set_list))))))))))
   (aq (jY (jC gY hr T.gQ (aa (pv 1) (aa (G.Ff (cns:=[]) [] (jZ (pv 1)) (λ_ _ _ _ _=>(G.Il (aX G.kE (pv 0) (dg) (bx _)))) (λ_ _ _ _ _=>(cU bF (pv 0) (aG) (λ_ _=>rfl))) rfl rfl (by repeat (first | exact trivial | refine⟨rfl,?_⟩)) (by repeat (first | exact trivial | refine⟨rfl,?_⟩)) rfl (by decide +kernel) rfl (by decide +kernel) (by decide +kernel) rfl (by decide +kernel)) (aa (bG) au)))))
   (az (aK (gZ))))),?_⟩
  obtain⟨z0,z1,z2,z3,rfl,q⟩:=h;exact Pk tx q
theorem Zn1{fl:Addr}{fd:FuncData}(F:jX K "law" "law" Ni fl fd){GF:FuncData}(wR:Hh P w K mg base 3 cY GF qy (sX XQ)){RB:FuncData}(Xe:Hh P w K mg base 5 iD RB yr (Hs XQ)){Li:FuncData}(m5:Hh P w K mg base 1 fL Li tZ (Zd6 K)){Wf:FuncData}(Zy:Hh P w K mg base 2 jq Wf Aa (Mq)){yH:FuncData}(Bk:Hh P w K mg base 5 iK yH uL (uV XQ)){v9:FuncData}(sY:Hh P w K mg base 6 gk v9 sE (pP XQ)){jK:FuncData}(jz:Hh P w K mg base 1 gj jK oJ (q8)){O7:FuncData}(R1:Hh P w K mg base 11 fY O7 vP (BJ XQ)){We:FuncData}(Zx:Hh P w K mg base 6 jo We z9 (Ho XQ)){O6:FuncData}(Xa:Hh P w K mg base 3 pO O6 ["world"] (yN XQ)){Zbq:FuncData}(Zeq:Hh P w K mg base 3 mq Zbq ["text"] (BP XQ)):mK P w K mg base 12 fl fd ["_law_script"] (Zd5 K):=by
 have sc:=Zmp;have tx:=mJ _ T;refine G.mG F sc (λvs H Q E h=>?_) (λcdv A outer s H vs Q E hr h=>?_)
 ·obtain⟨z0,rfl,q⟩:=h;rfl
 ·refine⟨Za9 K XQ.W (sX XQ) (Hs XQ) (Zd6 K) (Mq) (uV XQ) (pP XQ) (q8) (BJ XQ) (Ho XQ) (yN XQ) (BP XQ),(aq (bh (i:=1) sc.nd rfl (Or.inl rfl) (jC Zy hr T.J5 (aa (jC m5 hr T.kW (aa (pv 0) (aa (aG) au))) au)))
   (aq (bh (i:=2) sc.nd rfl (Or.inl rfl) (bU kO (aG) (bU mD (jC m5 hr T.kW (aa (pv 0) (aa (aG) au))) (aG))))
   (aq (bh (i:=3) sc.nd rfl (Or.inl rfl) (bU mD (bU Bu (jC m5 hr T.kW (aa (pv 0) (aa (aG) au))) (aG)) (aG)))
   (aq (bh (i:=4) sc.nd rfl (Or.inl rfl) (Fe T.FJ wR.g (hr.mono (by decide)) rfl T.Zco wR.b .nil G.eF (aa (bU Zg5 (aG) (aG)) (aa (jC Zeq hr T.S5 (aa (pv 1) au)) (aa (G.Ff (cns:=[]) [] (gO rfl T.jA (aa (pv 2) au)) (λ_ _ _ _ _=>G.zY) (λ_ _ _ _ _=>(mC (aa (bU G.Zjr (cU Zha (bG) (bU mD (pv 0) (aG)) (λ_ _=>rfl)) (bU kO (pv 0) (aG))) (aa (aG) au)))) rfl rfl (by repeat (first | exact trivial | refine⟨rfl,?_⟩)) (by repeat (first | exact trivial | refine⟨rfl,?_⟩)) rfl (by decide +kernel) rfl (by decide +kernel) (by decide +kernel) rfl (by decide +kernel)) au)))))
   (aq (bh (i:=5) sc.nd rfl (Or.inl rfl) (gP au))
   (aq (bh (i:=6) sc.nd rfl (Or.inl rfl) (gP (aa (aG) au)))
   (aq (jN PassesOwn.never rfl (jZ (Fb Zcd (pv 0) (Bo (aG)) (Bo (aG)))) (dR (i:=7) sc.nd rfl (Or.inl rfl))
   (az (bY (jE (eE (jC Bk hr T.Ao (aa (pv 4) (aa (pv 5) (aa (pv 6) (aa (pv 7) (aa (bG) au)))))))) (az (aK (gZ))) aR)))
   (aq (bY (jE (eE (jC R1 hr T.CG (aa (pv 4) (aa (pv 5) (aa (pv 2) (aa (jC m5 hr T.kW (aa (pv 0) (aa (aG) au))) au))))))) (az (aK (gZ))) aR)
   (aq (bh (i:=8) sc.nd rfl (Or.inl rfl) (aG))
   (aq (bY (aX Zck (pv 3) (aG) (bx _)) (aq (bh (i:=8) sc.nd rfl (Or.inl rfl) (bU kO (aG) (bU mD (bU Bu (jC m5 hr T.kW (aa (pv 0) (aa (aG) au))) (aG)) (aG))))
   (az (bY (PW.pt (wJ (aX G.kE (jC Xa hr T.Vr (aa (pv 4) au)) (dg) (bx _)) (vN (jE (eE (jC Xe hr T.Gh (aa (pv 4) (aa (pv 1) (aa (pv 8) (aa (pv 2) au)))))))))) (az (aK (gZ))) aR))) aR)
   (aq (bh (i:=9) sc.nd rfl (Or.inl rfl) (gP au))
   (aq (jN PassesOwn.never rfl (jZ (Fb Zcd (pv 0) (Bo (aG)) (Bo (aG)))) (dR (i:=7) sc.nd rfl (Or.inl rfl))
   (aq (bY (jE (eE (jC Zx hr T.J4 (aa (pv 4) (aa (pv 5) (aa (pv 9) (aa (pv 8) (aa (pv 6) (aa (pv 7) au))))))))) (az (aK (gZ))) aR)
   (az (bY (PW.pt (pB (aX kJ (bU mD (jC jz hr T.mU (aa (pv 7) (aa (aG) au))) (aG)) (aG) (bx _)) (qM (jE (eE (jC sY hr T.sS (aa (pv 4) (aa (pv 5) (aa (pv 8) au))))))))) (az (aK (gZ))) aR))))
   (az (aK (jC sY hr T.sS (aa (pv 4) (aa (pv 5) (aa (pv 8) au)))))))))))))))))),?_⟩
  obtain⟨z0,rfl,q⟩:=h;exact Zng tx q
end
abbrev Fi(K:aC)(c:Addr)(s:Str)(f:Addr):Prop:=W.findIn K (.ref c) s=some (some (.ref f))
abbrev Fo(K:aC)(c:Addr)(s:Str):Prop:=W.findIn K (.ref c) s=some none
abbrev Ns(K:aC)(s:Str)(f:Addr):Prop:=W.nsIn K mainGlobals s=some (some (.ref f))
abbrev Ki(K:aC)(f:Addr):Prop:=W.keepIn K (.ref f)=true
abbrev Ci(K:aC)(c:Value)(s:Str):Prop:=W.codeIn K c s=true
abbrev Lk(K:aC)(f:Addr)(a b:Str)(s:Stmt)(d:Value)(oc:Value)(od:Option Addr)(kV dc pm:Value)(an:Option Addr)(cd ct:Value)(sl:Array (Option Value)):Prop:=K.lookup f=some ⟨oc,od,.func (W.fnOf a b (lJ s) (jL s) (aH s) d kV dc pm an cd ct),sl⟩
def mH(K:aC)(x q:Str)(s:Stmt)(f:Addr):Prop:=∃oc od kV dc pm an cd ct sl,Lk K f x q s .none oc od kV dc pm an cd ct sl/\Ci K cd q/\Ki K f
theorem fgm{K:aC}{x q:Str}{s:Stmt}{f:Addr}{oc:Value}{od:Option Addr}{kV dc pm:Value}{an:Option Addr}{cd ct:Value}{sl:Array (Option Value)}(l:Lk K f x q s .none oc od kV dc pm an cd ct sl)(c:Ci K cd q)(k:Ki K f):mH K x q s f:=⟨oc,od,kV,dc,pm,an,cd,ct,sl,l,c,k⟩
theorem fg{K:aC}{x q:Str}{s:Stmt}{f:Addr}(h:mH K x q s f):∃fd,jX K x q s f fd/\Ki K f:=by
 obtain⟨oc,od,kV,dc,pm,an,cd,ct,sl,l,c,k⟩:=h;exact⟨_,Zhr l c k,k⟩
theorem Cm{K:aC}{x qual:Str}{st:Stmt}{f:Addr}{fd:FuncData}(F:jX K x qual st f fd)(a0:Str)(h:∀(kV doc pm:Value) (an:Option Addr) (cdv ct u0:Value),bindArgs (W.fnOf x qual (lJ st) (jL st) (aH st) .none kV doc pm an cdv ct) ⟨[u0],[]⟩=pure (([a0]:List Str).zip [u0]):=by intros;rfl):Binds K fd [a0] []:=F.binds λkV doc pm an cdv ct us hl=>match us,hl with | [u0],_=>h kV doc pm an cdv ct u0
theorem Wt{K:aC}{x qual:Str}{st:Stmt}{f:Addr}{fd:FuncData}(F:jX K x qual st f fd)(a0 a1:Str)(h:∀(kV doc pm:Value) (an:Option Addr) (cdv ct u0 u1:Value),bindArgs (W.fnOf x qual (lJ st) (jL st) (aH st) .none kV doc pm an cdv ct) ⟨[u0,u1],[]⟩=pure (([a0,a1]:List Str).zip [u0,u1]):=by intros;rfl):Binds K fd [a0,a1] []:=F.binds λkV doc pm an cdv ct us hl=>match us,hl with | [u0,u1],_=>h kV doc pm an cdv ct u0 u1
theorem bd3{K:aC}{x qual:Str}{st:Stmt}{f:Addr}{fd:FuncData}(F:jX K x qual st f fd)(a0 a1 a2:Str)(h:∀(kV doc pm:Value) (an:Option Addr) (cdv ct u0 u1 u2:Value),bindArgs (W.fnOf x qual (lJ st) (jL st) (aH st) .none kV doc pm an cdv ct) ⟨[u0,u1,u2],[]⟩=pure (([a0,a1,a2]:List Str).zip [u0,u1,u2]):=by intros;rfl):Binds K fd [a0,a1,a2] []:=F.binds λkV doc pm an cdv ct us hl=>match us,hl with | [u0,u1,u2],_=>h kV doc pm an cdv ct u0 u1 u2
theorem bd4{K:aC}{x qual:Str}{st:Stmt}{f:Addr}{fd:FuncData}(F:jX K x qual st f fd)(a0 a1 a2 a3:Str)(h:∀(kV doc pm:Value) (an:Option Addr) (cdv ct u0 u1 u2 u3:Value),bindArgs (W.fnOf x qual (lJ st) (jL st) (aH st) .none kV doc pm an cdv ct) ⟨[u0,u1,u2,u3],[]⟩=pure (([a0,a1,a2,a3]:List Str).zip [u0,u1,u2,u3]):=by intros;rfl):Binds K fd [a0,a1,a2,a3] []:=F.binds λkV doc pm an cdv ct us hl=>match us,hl with | [u0,u1,u2,u3],_=>h kV doc pm an cdv ct u0 u1 u2 u3
theorem bd5{K:aC}{x qual:Str}{st:Stmt}{f:Addr}{fd:FuncData}(F:jX K x qual st f fd)(a0 a1 a2 a3 a4:Str)(h:∀(kV doc pm:Value) (an:Option Addr) (cdv ct u0 u1 u2 u3 u4:Value),bindArgs (W.fnOf x qual (lJ st) (jL st) (aH st) .none kV doc pm an cdv ct) ⟨[u0,u1,u2,u3,u4],[]⟩=pure (([a0,a1,a2,a3,a4]:List Str).zip [u0,u1,u2,u3,u4]):=by intros;rfl):Binds K fd [a0,a1,a2,a3,a4] []:=F.binds λkV doc pm an cdv ct us hl=>match us,hl with | [u0,u1,u2,u3,u4],_=>h kV doc pm an cdv ct u0 u1 u2 u3 u4
theorem bd6{K:aC}{x qual:Str}{st:Stmt}{f:Addr}{fd:FuncData}(F:jX K x qual st f fd)(a0 a1 a2 a3 a4 a5:Str)(h:∀(kV doc pm:Value) (an:Option Addr) (cdv ct u0 u1 u2 u3 u4 u5:Value),bindArgs (W.fnOf x qual (lJ st) (jL st) (aH st) .none kV doc pm an cdv ct) ⟨[u0,u1,u2,u3,u4,u5],[]⟩=pure (([a0,a1,a2,a3,a4,a5]:List Str).zip [u0,u1,u2,u3,u4,u5]):=by intros;rfl):Binds K fd [a0,a1,a2,a3,a4,a5] []:=F.binds λkV doc pm an cdv ct us hl=>match us,hl with | [u0,u1,u2,u3,u4,u5],_=>h kV doc pm an cdv ct u0 u1 u2 u3 u4 u5
theorem all_mk{l:W.OpenLaw}{w:World}{K:aC}{h:Heap}{mg:Str->Option Value}{fa fl bw aQ jU bA eZ cX dW fc ji lR dH fP dF gB jw gD iQ fO iZ jQ dG cH cY wC iJ jm dY iu kZ ig jl pO um ju wD qT lZ mW bK bR cI gw dM iR dN iM dJ gm dD gq mq mj nR gh cQ cM wA fX Dc iw jP gf cP ir CZ bQ wB gj fL di jR jq iD gk iC iK iB jo jr dI fK iy fY:Addr}(KI:K.In h)(GN:h.Ns mainGlobals mg)(hfa:mg "law"=some (.ref fa))
  {od4 an4 to4 Zro Zr8:Option Addr}
  {sl4 ts4 Zrn:Array (Option Value)}
  {oc4 kV4 dc4 pm4 cd4 ct4 tc4 Zi4 Zcw Zrp Zq6 Zr4 Zpt Zou Zr6 Zlu Zlt:Value}
  {td4 O9:Addr}
  {tn4 Zd:Nat}
  {Th Tf Te Td:Int}
  {Sd R9 R8 R7:Tok}
  (Zp3:Ns K "Cell" bw)
  (Zoz:Ns K "Heap" aQ)
  (Zp0:Ns K "Hand" jU)
  (Zen:Ns K "Sweeper" bA)
  (Zlm:Ns K "World" eZ)
  (Zln:Ns K "First" cX)
  (Zp2:Ns K "Each" dW)
  (Zox:Ns K "Last" fc)
  (Zoy:Ns K "Kind" ji)
  (Zp1:Ns K "Full" lR)
  (a1:Fi K bw "__init__" dH)
  (i1:W.isFn K (.ref dH)=true)
  (a2:Fi K bw "units" fP)
  (i2:W.isFn K (.ref fP)=true)
  (a3:Fi K aQ "__init__" dF)
  (i3:W.isFn K (.ref dF)=true)
  (a4:Fi K aQ "make" gB)
  (i4:W.isFn K (.ref gB)=true)
  (l4:Lk K gB "make" "Heap.make" uI (.ref td4) oc4 od4 kV4 dc4 pm4 an4 cd4 ct4 sl4)
  (t4:K.lookup td4=some ⟨tc4,to4,.seq #[Zi4,Zcw] tn4,ts4⟩)
  (Zyq:RelV (.int 0) Zi4)
  (Zyp:RelV (.int 0) Zcw)
  (c4:Ci K cd4 "Heap.make")
  (k4:Ki K gB)
  (a5:Fi K aQ "lay" jw)
  (i5:W.isFn K (.ref jw)=true)
  (a6:Fi K aQ "back" gD)
  (i6:W.isFn K (.ref gD)=true)
  (a7:Fi K aQ "free" iQ)
  (i7:W.isFn K (.ref iQ)=true)
  (a8:Fi K aQ "there" fO)
  (i8:W.isFn K (.ref fO)=true)
  (a9:Ns K "cell_at" iZ)
  (a10:Ns K "birth_at" jQ)
  (a11:Fi K jU "__init__" dG)
  (i11:W.isFn K (.ref dG)=true)
  (a12:Fi K bA "__init__" cH)
  (i12:W.isFn K (.ref cH)=true)
  (a13:Fi K eZ "__init__" cY)
  (i13:W.isFn K (.ref cY)=true)
  (a14:Ns K "held" wC)
  (a15:Ns K "births_at" iJ)
  (a16:Ns K "looked_at" jm)
  (a17:Ns K "has_sense" dY)
  (a18:Ns K "is_walking" iu)
  (a19:Ns K "mark_of" kZ)
  (a20:Ns K "told_cells" ig)
  (a21:Ns K "told_cell" jl)
  (a22:Ns K "begin" pO)
  (a23:Ns K "note" um)
  (a24:Ns K "note_all" ju)
  (a25:Ns K "gone" wD)
  (a26:Ns K "roots" qT)
  (a27:Ns K "root_of" lZ)
  (a28:Ns K "all_of" mW)
  (a29:Fi K dW "at_begin" bK)
  (i29:W.isFn K (.ref bK)=true)
  (a30:Fi K cX "next_look" bR)
  (i30:W.isFn K (.ref bR)=true)
  (a31:Fi K dW "stays" cI)
  (i31:W.isFn K (.ref cI)=true)
  (a32:Fi K cX "word" gw)
  (i32:W.isFn K (.ref gw)=true)
  (a33:Fi K cX "at_begin" dM)
  (i33:W.isFn K (.ref dM)=true)
  (a34:Fi K dW "word" iR)
  (i34:W.isFn K (.ref iR)=true)
  (a35:Fi K dW "next_look" dN)
  (i35:W.isFn K (.ref dN)=true)
  (a36:Fi K fc "word" iM)
  (i36:W.isFn K (.ref iM)=true)
  (a37:Fi K fc "next_look" dJ)
  (i37:W.isFn K (.ref dJ)=true)
  (a38:Fi K fc "stays" gm)
  (i38:W.isFn K (.ref gm)=true)
  (a39:Fi K ji "__init__" dD)
  (i39:W.isFn K (.ref dD)=true)
  (a40:Fi K ji "words" gq)
  (i40:W.isFn K (.ref gq)=true)
  (a41:Ns K "kind_of" mq)
  (a42:Ns K "reached" mj)
  (a43:Ns K "onward" nR)
  (a44:Ns K "note_hands" gh)
  (a45:Ns K "step_at_rest" cQ)
  (a46:Ns K "step_in_walk" cM)
  (a47:Ns K "walk" wA)
  (a48:Ns K "look_or_cut" fX)
  (a49:Ns K "cut" Dc)
  (a50:Ns K "first_loss" iw)
  (a51:Ns K "given_up" jP)
  (a52:Ns K "told_again" gf)
  (a53:Ns K "step_in_give" cP)
  (a54:Ns K "pass_place" ir)
  (a55:Ns K "end" CZ)
  (a56:Ns K "step_when_lost" bQ)
  (a57:Ns K "step" wB)
  (a58:Ns K "_law_mix" gj)
  (a59:Ns K "_law_cell_at" fL)
  (a60:Ns K "_law_same" di)
  (a61:Ns K "_law_all" jR)
  (a62:Ns K "_law_kind" jq)
  (a63:Ns K "_law_began" iD)
  (a64:Ns K "_law_marks" gk)
  (a65:Ns K "_law_least" iC)
  (a66:Ns K "_law_make" iK)
  (a67:Ns K "_law_noted" iB)
  (a68:Ns K "_law_turn" jo)
  (a69:Ns K "_law_hold" jr)
  (a70:Ns K "_law_turned_to" dI)
  (a71:Ns K "_law_stepped" fK)
  (a72:Ns K "_law_round" iy)
  (a73:Ns K "_law_rounds" fY)
  (a74:Ns K "law" fl)
  (l74:Lk K fl "law" "law" Ni .none Zrp Zro Zq6 Zr4 Zpt Zr8 Zou Zr6 Zrn)
  (c74:Ci K Zou "law")
  (k74:Ki K fl)
  (Zgg:Ns K "STEPS" O9)
  (Zh1:K.lookup O9=some ⟨.type "dict",none,.dict #[⟨Th,.str "rest" Sd,.ref cQ⟩,⟨Tf,.str "walk" R9,.ref cM⟩,⟨Te,.str "give" R8,.ref cP⟩,⟨Td,.str "lost" R7,.ref bQ⟩] Zd,#[]⟩)
  (Zea:Th=hashStr w "rest")
  (Ze9:Tf=hashStr w "walk")
  (Ze8:Te=hashStr w "give")
  (Ze7:Td=hashStr w "lost")
  (Zjo:W.plainGet K bw Str.empty=true)
  (Zl4:W.hasDictIn K bw=true)
  (Zjh:W.plainOver K bw=true)
  (Zj4:W.findIn K (.ref bw) "__setattr__"=some (some (.builtin "object.__setattr__")))
  (Ma:W.makesIn K bw=true)
  (Zkl:Ki K bw)
  (d7:Fo K bw "birth")
  (lC:Fo K bw "bulk")
  (lB:Fo K bw "tone")
  (mR:Fo K bw "load")
  (fW:Fo K bw "fields")
  (Zi3:W.findIn K (.ref bw) "__eq__"=some (some (.builtin "object.__eq__")))
  (Zi2:W.mroIn K bw (.type "object")=some true)
  (Zjl:W.plainGet K aQ Str.empty=true)
  (Zl1:W.hasDictIn K aQ=true)
  (Zje:W.plainOver K aQ=true)
  (Zj1:W.findIn K (.ref aQ) "__setattr__"=some (some (.builtin "object.__setattr__")))
  (LK:W.makesIn K aQ=true)
  (Zki:Ki K aQ)
  (mQ:Fo K aQ "room")
  (bJ:Fo K aQ "cells")
  (iH:Fo K aQ "used")
  (lA:Fo K aQ "born")
  (Zjm:W.plainGet K jU Str.empty=true)
  (Zl2:W.hasDictIn K jU=true)
  (Zjf:W.plainOver K jU=true)
  (Zj2:W.findIn K (.ref jU) "__setattr__"=some (some (.builtin "object.__setattr__")))
  (LQ:W.makesIn K jU=true)
  (Zkj:Ki K jU)
  (uP:Fo K jU "name")
  (sO:Fo K jU "slots")
  (Zad:W.plainGet K bA Str.empty=true)
  (Zbi:W.hasDictIn K bA=true)
  (Zac:W.plainOver K bA=true)
  (Za0:W.findIn K (.ref bA) "__setattr__"=some (some (.builtin "object.__setattr__")))
  (yx:W.makesIn K bA=true)
  (Zb7:Ki K bA)
  (nZ:Fo K bA "sense")
  (ou:Fo K bA "phase")
  (pI:Fo K bA "grey")
  (nj:Fo K bA "looked")
  (pF:Fo K bA "turn")
  (sI:Fo K bA "at")
  (pG:Fo K bA "stop")
  (nY:Fo K bA "walks")
  (oA:Fo K bA "looks")
  (m9:Fo K bA "passes")
  (pH:Fo K bA "loss")
  (Zfv:W.plainGet K eZ Str.empty=true)
  (Zhl:W.hasDictIn K eZ=true)
  (Zfs:W.plainOver K eZ=true)
  (Zfd:W.findIn K (.ref eZ) "__setattr__"=some (some (.builtin "object.__setattr__")))
  (FJ:W.makesIn K eZ=true)
  (Zh7:Ki K eZ)
  (sH:Fo K eZ "heap")
  (sG:Fo K eZ "kind")
  (qQ:Fo K eZ "hands")
  (qP:Fo K eZ "names")
  (nW:Fo K eZ "sweeper")
  (Zfw:W.plainGet K cX Str.empty=true)
  (Zhm:W.hasDictIn K cX=true)
  (Zft:W.plainOver K cX=true)
  (Zfe:W.findIn K (.ref cX) "__setattr__"=some (some (.builtin "object.__setattr__")))
  (Zgi:W.makesIn K cX=true)
  (Zh8:Ki K cX)
  (Zg8:W.findIn K (.ref cX) "__init__"=some (some (.builtin "object.__init__")))
  (Zjn:W.plainGet K dW Str.empty=true)
  (Zl3:W.hasDictIn K dW=true)
  (Zjg:W.plainOver K dW=true)
  (Zj3:W.findIn K (.ref dW) "__setattr__"=some (some (.builtin "object.__setattr__")))
  (Zka:W.makesIn K dW=true)
  (Zkk:Ki K dW)
  (Zk1:W.findIn K (.ref dW) "__init__"=some (some (.builtin "object.__init__")))
  (Zjj:W.plainGet K fc Str.empty=true)
  (Zkz:W.hasDictIn K fc=true)
  (Zjc:W.plainOver K fc=true)
  (Ziz:W.findIn K (.ref fc) "__setattr__"=some (some (.builtin "object.__setattr__")))
  (Zk9:W.makesIn K fc=true)
  (Zkg:Ki K fc)
  (Zk0:W.findIn K (.ref fc) "__init__"=some (some (.builtin "object.__init__")))
  (Zjk:W.plainGet K ji Str.empty=true)
  (Zl0:W.hasDictIn K ji=true)
  (Zjd:W.plainOver K ji=true)
  (Zj0:W.findIn K (.ref ji) "__setattr__"=some (some (.builtin "object.__setattr__")))
  (LC:W.makesIn K ji=true)
  (Zkh:Ki K ji)
  (pJ:Fo K ji "looking")
  (sJ:Fo K ji "tells")
  (TV:W.excIn K lR [.type "ValueError",.type "Exception",.type "BaseException",.type "object"] "ValueError.__new__"=true)
  (Jx:Fi K dW "at_begin" bK)
  (Rk:Fi K dW "stays" cI)
  (DR:Fi K cX "next_look" bR)
  (OD:Fi K cX "stays" cI)
  (Jw:Fi K fc "at_begin" bK)
  (Mw:W.nsIn K mainGlobals "bool"=some none)
  (oO:W.nsIn K mainGlobals "enumerate"=some none)
  (Mv:W.nsIn K mainGlobals "int"=some none)
  (bV:W.nsIn K mainGlobals "isinstance"=some none)
  (jj:W.nsIn K mainGlobals "len"=some none)
  (tH:W.nsIn K mainGlobals "list"=some none)
  (jA:W.nsIn K mainGlobals "range"=some none)
  (Mu:W.nsIn K mainGlobals "str"=some none)
  (wY:W.nsIn K mainGlobals "tuple"=some none)
  (Zoh:W.nsIn K mainGlobals "NEW"=some (some Zlu))
  (Zof:RelV (.int 2) Zlu)
  (Zog:W.nsIn K mainGlobals "OLD"=some (some Zlt))
  (Zoe:RelV (.int 1) Zlt)
  (g1:mH K "__init__" "Cell.__init__" rJ dH)
  (g2:mH K "units" "Cell.units" xQ fP)
  (g3:mH K "__init__" "Heap.__init__" rG dF)
  (g5:mH K "lay" "Heap.lay" Dp jw)
  (g6:mH K "back" "Heap.back" zP gD)
  (g7:mH K "free" "Heap.free" zO iQ)
  (g8:mH K "there" "Heap.there" xO fO)
  (g9:mH K "cell_at" "cell_at" Ij iZ)
  (g10:mH K "birth_at" "birth_at" Dl jQ)
  (g11:mH K "__init__" "Hand.__init__" rH dG)
  (g12:mH K "__init__" "Sweeper.__init__" oF cH)
  (g13:mH K "__init__" "World.__init__" qb cY)
  (g14:mH K "held" "held" Za4 wC)
  (g15:mH K "births_at" "births_at" zH iJ)
  (g16:mH K "looked_at" "looked_at" zF jm)
  (g17:mH K "has_sense" "has_sense" zG dY)
  (g18:mH K "is_walking" "is_walking" xu iu)
  (g19:mH K "mark_of" "mark_of" Ih kZ)
  (g20:mH K "told_cells" "told_cells" xj ig)
  (g21:mH K "told_cell" "told_cell" zE jl)
  (g22:mH K "begin" "begin" UG pO)
  (g23:mH K "note" "note" Za3 um)
  (g24:mH K "note_all" "note_all" Dj ju)
  (g25:mH K "gone" "gone" Za5 wD)
  (g26:mH K "roots" "roots" Uz qT)
  (g27:mH K "root_of" "root_of" Ie lZ)
  (g28:mH K "all_of" "all_of" Nj mW)
  (g29:mH K "at_begin" "Looking.at_begin" oG bK)
  (g30:mH K "next_look" "Looking.next_look" nA bR)
  (g31:mH K "stays" "Looking.stays" rE cI)
  (g32:mH K "word" "First.word" xP gw)
  (g33:mH K "at_begin" "First.at_begin" qe dM)
  (g34:mH K "word" "Each.word" zQ iR)
  (g35:mH K "next_look" "Each.next_look" qg dN)
  (g36:mH K "word" "Last.word" zN iM)
  (g37:mH K "next_look" "Last.next_look" qd dJ)
  (g38:mH K "stays" "Last.stays" xM gm)
  (g39:mH K "__init__" "Kind.__init__" rF dD)
  (g40:mH K "words" "Kind.words" xN gq)
  (g41:mH K "kind_of" "kind_of" Ii mq)
  (g42:mH K "reached" "reached" Ig mj)
  (g43:mH K "onward" "onward" Nh nR)
  (g44:mH K "note_hands" "note_hands" xr gh)
  (g45:mH K "step_at_rest" "step_at_rest" tO cQ)
  (g46:mH K "step_in_walk" "step_in_walk" tL cM)
  (g47:mH K "walk" "walk" Za1 wA)
  (g48:mH K "look_or_cut" "look_or_cut" vg fX)
  (g49:mH K "cut" "cut" Zff Dc)
  (g50:mH K "first_loss" "first_loss" xx iw)
  (g51:mH K "given_up" "given_up" Dk jP)
  (g52:mH K "told_again" "told_again" xm gf)
  (g53:mH K "step_in_give" "step_in_give" tM cP)
  (g54:mH K "pass_place" "pass_place" xq ir)
  (g55:mH K "end" "end" s_end CZ)
  (g56:mH K "step_when_lost" "step_when_lost" p7 bQ)
  (g57:mH K "step" "step" Za2 wB)
  (g58:mH K "_law_mix" "_law_mix" Dm gj)
  (g59:mH K "_law_cell_at" "_law_cell_at" tR fL)
  (g60:mH K "_law_same" "_law_same" uH di)
  (g61:mH K "_law_all" "_law_all" Dn jR)
  (g62:mH K "_law_kind" "_law_kind" zL jq)
  (g63:mH K "_law_began" "_law_began" xK iD)
  (g64:mH K "_law_marks" "_law_marks" xH gk)
  (g65:mH K "_law_least" "_law_least" xJ iC)
  (g66:mH K "_law_make" "_law_make" zK iK)
  (g67:mH K "_law_noted" "_law_noted" xG iB)
  (g68:mH K "_law_turn" "_law_turn" zJ jo)
  (g69:mH K "_law_hold" "_law_hold" zM jr)
  (g70:mH K "_law_turned_to" "_law_turned_to" p8 dI)
  (g71:mH K "_law_stepped" "_law_stepped" tQ fK)
  (g72:mH K "_law_round" "_law_round" xF iy)
  (g73:mH K "_law_rounds" "_law_rounds" vh fY)
  :∃fd:FuncData,(∀(s:Shared) (v:Value),BindsTo s fd ⟨[v],[]⟩ [("_law_script",v)])/\∀base:Heap,K.In base->base.Ns mainGlobals mg->uE l.prog w K mg base (G.CXe l.prog w) 12 fa fd ["_law_script"] (Zd5 K):=by
 have e:=hfa.symm.trans (W.mg_of KI GN a74);cases e;have mo:∀{s:Str}{v:Value},W.nsIn K mainGlobals s=some (some v)->mg s=some v:=λh=>W.mg_of KI GN h
 let Q0:Cs:=⟨eZ,aQ,bw,ji,jU,bA,cX,dW,fc⟩
 obtain⟨_,F1,k1⟩:=fg g1;obtain⟨_,F2,k2⟩:=fg g2;obtain⟨_,F3,k3⟩:=fg g3;obtain⟨_,F5,k5⟩:=fg g5;obtain⟨_,F6,k6⟩:=fg g6;obtain⟨_,F7,k7⟩:=fg g7;obtain⟨_,F8,k8⟩:=fg g8;obtain⟨_,F9,k9⟩:=fg g9;obtain⟨_,F10,k10⟩:=fg g10;obtain⟨_,F11,k11⟩:=fg g11;obtain⟨_,F12,k12⟩:=fg g12;obtain⟨_,F13,k13⟩:=fg g13;obtain⟨_,F14,k14⟩:=fg g14;obtain⟨_,F15,k15⟩:=fg g15;obtain⟨_,F16,k16⟩:=fg g16;obtain⟨_,F17,k17⟩:=fg g17;obtain⟨_,F18,k18⟩:=fg g18;obtain⟨_,F19,k19⟩:=fg g19;obtain⟨_,F20,k20⟩:=fg g20;obtain⟨_,F21,k21⟩:=fg g21;obtain⟨_,F22,k22⟩:=fg g22;obtain⟨_,F23,YT⟩:=fg g23;obtain⟨_,F24,k24⟩:=fg g24;obtain⟨_,F25,k25⟩:=fg g25;obtain⟨_,F26,k26⟩:=fg g26;obtain⟨_,F27,k27⟩:=fg g27;obtain⟨_,F28,k28⟩:=fg g28;obtain⟨_,F29,k29⟩:=fg g29;obtain⟨_,F30,k30⟩:=fg g30;obtain⟨_,F31,k31⟩:=fg g31;obtain⟨_,F32,k32⟩:=fg g32;obtain⟨_,F33,k33⟩:=fg g33;obtain⟨_,F34,k34⟩:=fg g34;obtain⟨_,F35,k35⟩:=fg g35;obtain⟨_,F36,k36⟩:=fg g36;obtain⟨_,F37,k37⟩:=fg g37;obtain⟨_,F38,k38⟩:=fg g38;obtain⟨_,F39,k39⟩:=fg g39;obtain⟨_,F40,k40⟩:=fg g40;obtain⟨_,F41,k41⟩:=fg g41;obtain⟨_,F42,k42⟩:=fg g42;obtain⟨_,F43,k43⟩:=fg g43;obtain⟨_,F44,k44⟩:=fg g44;obtain⟨_,F45,k45⟩:=fg g45;obtain⟨_,F46,k46⟩:=fg g46;obtain⟨_,F47,k47⟩:=fg g47;obtain⟨_,F48,k48⟩:=fg g48;obtain⟨_,F49,k49⟩:=fg g49;obtain⟨_,F50,k50⟩:=fg g50;obtain⟨_,F51,k51⟩:=fg g51;obtain⟨_,F52,k52⟩:=fg g52;obtain⟨_,F53,k53⟩:=fg g53;obtain⟨_,F54,k54⟩:=fg g54;obtain⟨_,F55,k55⟩:=fg g55;obtain⟨_,F56,k56⟩:=fg g56;obtain⟨_,F57,k57⟩:=fg g57;obtain⟨_,F58,k58⟩:=fg g58;obtain⟨_,F59,k59⟩:=fg g59;obtain⟨_,F60,k60⟩:=fg g60;obtain⟨_,F61,k61⟩:=fg g61;obtain⟨_,F62,k62⟩:=fg g62;obtain⟨_,F63,k63⟩:=fg g63;obtain⟨_,F64,k64⟩:=fg g64;obtain⟨_,F65,k65⟩:=fg g65;obtain⟨_,F66,k66⟩:=fg g66;obtain⟨_,F67,k67⟩:=fg g67;obtain⟨_,F68,k68⟩:=fg g68;obtain⟨_,F69,k69⟩:=fg g69;obtain⟨_,F70,k70⟩:=fg g70;obtain⟨_,F71,k71⟩:=fg g71;obtain⟨_,F72,k72⟩:=fg g72;obtain⟨_,F73,k73⟩:=fg g73;have T:Txt w K mg bw aQ jU bA eZ cX dW fc ji lR dH fP dF gB jw gD iQ fO iZ jQ dG cH cY wC iJ jm dY iu kZ ig jl pO um ju wD qT lZ mW bK bR cI gw dM iR dN iM dJ gm dD gq mq mj nR gh cQ cM wA fX Dc iw jP gf cP ir CZ bQ wB gj fL di jR jq iD gk iC iK iB jo jr dI fK iy fY:={
  Sg:=⟨O9,_,_,Zd,W.mg_of KI GN Zgg,Zh1,⟨rfl,rfl,rfl⟩,rfl,Zea,⟨Sd,rfl⟩,rfl,Ze9,⟨R9,rfl⟩,rfl,Ze8,⟨R8,rfl⟩,rfl,Ze7,⟨R7,rfl⟩,rfl,trivial⟩
  d9:=⟨Zjo,Zl4,Zjh,Zj4⟩
  Zgx:=mo Zp3
  Ma:=⟨Ma,a1,i1,Zkl⟩
  d7:=d7
  lC:=lC
  lB:=lB
  mR:=mR
  fW:=fW
  Mj:=⟨Zi3,Zi2⟩
  cC:=⟨Zjl,Zl1,Zje,Zj1⟩
  Zgt:=mo Zoz
  LK:=⟨LK,a3,i3,Zki⟩
  mQ:=mQ
  bJ:=bJ
  iH:=iH
  lA:=lA
  Zd2:=⟨Zjm,Zl2,Zjf,Zj2⟩
  Zgu:=mo Zp0
  LQ:=⟨LQ,a11,i11,Zkj⟩
  uP:=uP
  sO:=sO
  Pa:=⟨Zad,Zbi,Zac,Za0⟩
  S6:=mo Zen
  yx:=⟨yx,a12,i12,Zb7⟩
  nZ:=nZ
  ou:=ou
  pI:=pI
  nj:=nj
  pF:=pF
  sI:=sI
  pG:=pG
  nY:=nY
  oA:=oA
  m9:=m9
  pH:=pH
  Zi:=⟨Zfv,Zhl,Zfs,Zfd⟩
  Zco:=mo Zlm
  FJ:=⟨FJ,a13,i13,Zh7⟩
  sH:=sH
  sG:=sG
  qQ:=qQ
  qP:=qP
  nW:=nW
  wQ:=⟨Zfw,Zhm,Zft,Zfe⟩
  Zcp:=mo Zln
  SN:=⟨Zgi,Zg8,Zh8⟩
  By:=⟨Zjn,Zl3,Zjg,Zj3⟩
  Zgw:=mo Zp2
  Yr:=⟨Zka,Zk1,Zkk⟩
  Bx:=⟨Zjj,Zkz,Zjc,Ziz⟩
  Zgr:=mo Zox
  Yq:=⟨Zk9,Zk0,Zkg⟩
  Wo:=⟨Zjk,Zl0,Zjd,Zj0⟩
  Zgs:=mo Zoy
  LC:=⟨LC,a39,i39,Zkh⟩
  pJ:=pJ
  sJ:=sJ
  Zgv:=mo Zp1
  TV:=TV
  wM:=⟨Jx,i29,k29⟩
  vV:=⟨Rk,i31,k31⟩
  uf:=⟨DR,i30,k30⟩
  ue:=⟨OD,i31,k31⟩
  wL:=⟨Jw,i29,k29⟩
  Ji:=⟨a1,i1,k1⟩
  qR:=⟨a2,i2,k2⟩
  Jg:=⟨a3,i3,k3⟩
  FQ:=⟨a4,i4,k4⟩
  J1:=⟨a5,i5,k5⟩
  yz:=⟨a6,i6,k6⟩
  FT:=⟨a7,i7,k7⟩
  vU:=⟨a8,i8,k8⟩
  tE:=mo a9
  Og:=mo a10
  Jh:=⟨a11,i11,k11⟩
  Cd:=⟨a12,i12,k12⟩
  FN:=⟨a13,i13,k13⟩
  Zgp:=mo a14
  Am:=mo a15
  J3:=mo a16
  lD:=mo a17
  Gb:=mo a18
  Jl:=mo a19
  FZ:=mo a20
  J2:=mo a21
  Vr:=mo a22
  Zay:=mo a23
  DN:=mo a24
  Zgq:=mo a25
  Zcn:=mo a26
  SQ:=mo a27
  Oh:=mo a28
  Cg:=⟨a29,i29,k29⟩
  Ak:=⟨a30,i30,k30⟩
  Je:=⟨a31,i31,k31⟩
  Cy:=⟨a32,i32,k32⟩
  uR:=⟨a33,i33,k33⟩
  FW:=⟨a34,i34,k34⟩
  uT:=⟨a35,i35,k35⟩
  FP:=⟨a36,i36,k36⟩
  uQ:=⟨a37,i37,k37⟩
  vR:=⟨a38,i38,k38⟩
  Jf:=⟨a39,i39,k39⟩
  Cw:=⟨a40,i40,k40⟩
  S5:=mo a41
  SX:=mo a42
  Od:=mo a43
  yD:=mo a44
  Oc:=mo a45
  Oa:=mo a46
  Zgn:=mo a47
  Cz:=mo a48
  Zm0:=mo a49
  Gd:=mo a50
  Oe:=mo a51
  yC:=mo a52
  Ob:=mo a53
  Ga:=mo a54
  Zlz:=mo a55
  Jk:=mo a56
  Zgo:=mo a57
  mU:=mo a58
  kW:=mo a59
  fU:=mo a60
  Oi:=mo a61
  J5:=mo a62
  Gh:=mo a63
  sS:=mo a64
  Gg:=mo a65
  Ao:=mo a66
  Gf:=mo a67
  J4:=mo a68
  J6:=mo a69
  gQ:=mo a70
  An:=mo a71
  Ge:=mo a72
  CG:=mo a73
  Mw:=W.mg_none_of KI GN Mw
  oO:=W.mg_none_of KI GN oO
  Mv:=W.mg_none_of KI GN Mv
  bV:=W.mg_none_of KI GN bV
  jj:=W.mg_none_of KI GN jj
  tH:=W.mg_none_of KI GN tH
  jA:=W.mg_none_of KI GN jA
  Mu:=W.mg_none_of KI GN Mu
  wY:=W.mg_none_of KI GN wY
  Zm7:=⟨_,W.mg_of KI GN Zoh,Zof⟩
  Zm6:=⟨_,W.mg_of KI GN Zog,Zoe⟩
 }
 have b1:=bd5 F1 "self" "birth" "many" "bulk" "tone";have b2:=Cm F2 "self";have b3:=Wt F3 "self" "room";have F4:=G.Zl8 (st:=uI) l4 c4 k4;have b4:=G.Zbx (ps:=["self","many","bulk","tone"]) (ds:=[]) l4 t4 λus hl=>match us,hl with | [_,_,_,_],_=>⟨_,rfl,rfl⟩
 have Zys:=G.Zbx (ps:=["self","many","bulk","tone"]) (ds:=[Zcw]) l4 t4 λus hl=>match us,hl with | [_,_,_],_=>⟨_,rfl,rfl⟩
 have Zyr:=G.Zbx (ps:=["self","many","bulk","tone"]) (ds:=[Zi4,Zcw]) l4 t4 λus hl=>match us,hl with | [_,_],_=>⟨_,rfl,rfl⟩
 have b5:=Wt F5 "self" "cell";have b6:=Wt F6 "self" "place";have b7:=Cm F7 "self";have b8:=Cm F8 "self";have b9:=Wt F9 "heap" "place";have b10:=Wt F10 "heap" "place";have b11:=bd3 F11 "self" "name" "many";have b12:=Cm F12 "self";have b13:=bd4 F13 "self" "room" "kind" "hands";have b14:=Cm F14 "world";have b15:=Wt F15 "heap" "places";have b16:=Wt F16 "world" "hand";have b17:=Wt F17 "world" "cell";have b18:=Cm F18 "world";have b19:=Wt F19 "world" "place";have b20:=Cm F20 "world";have b21:=Wt F21 "world" "place";have b22:=Cm F22 "world";have b23:=Wt F23 "world" "place";have b24:=Wt F24 "world" "places";have b25:=bd3 F25 "world" "place" "birth";have b26:=Cm F26 "world";have b27:=bd3 F27 "world" "place" "birth";have b28:=Cm F28 "hands";have b29:=Wt F29 "self" "hands";have b30:=bd3 F30 "self" "looked" "hands";have b31:=Cm F31 "self";have b32:=Cm F32 "self";have b33:=Wt F33 "self" "hands";have b34:=Cm F34 "self";have b35:=bd3 F35 "self" "looked" "hands";have b36:=Cm F36 "self";have b37:=bd3 F37 "self" "looked" "hands";have b38:=Cm F38 "self";have b39:=bd3 F39 "self" "looking" "tells";have b40:=Cm F40 "self";have b41:=Cm F41 "text";have b42:=Wt F42 "heap" "rows";have b43:=bd3 F43 "heap" "places" "way";have b44:=Wt F44 "world" "hands";have b45:=Cm F45 "world";have b46:=Cm F46 "world";have b47:=Cm F47 "world";have b48:=Cm F48 "world";have b49:=Cm F49 "world";have b50:=Cm F50 "world";have b51:=Cm F51 "world";have b52:=Cm F52 "event";have b53:=Cm F53 "world";have b54:=Cm F54 "world";have b55:=Cm F55 "world";have b56:=Cm F56 "world";have b57:=Cm F57 "world";have b58:=Wt F58 "_law_cell" "_law_factor";have b59:=Wt F59 "_law_script" "_law_k";have b60:=Wt F60 "_law_found" "_law_due";have b61:=Cm F61 "_law_hands";have b62:=Cm F62 "_law_cell";have b63:=bd4 F63 "_law_world" "_law_word" "_law_turn_here" "_law_hands";have b64:=bd3 F64 "_law_world" "_law_lies" "_law_turn_here";have b65:=Cm F65 "_law_lies";have b66:=bd5 F66 "_law_world" "_law_lies" "_law_state" "_law_cell" "_law_mark";have b67:=bd5 F67 "_law_world" "_law_lies" "_law_grey" "_law_turn_here" "_law_place";have b68:=bd6 F68 "_law_world" "_law_lies" "_law_grey" "_law_turn_here" "_law_state" "_law_cell";have b69:=bd4 F69 "_law_world" "_law_lies" "_law_hands" "_law_cell";have b70:=bd3 F70 "_law_lies" "_law_births" "_law_mark";have b71:=bd3 F71 "_law_lies" "_law_holds" "_law_event";have b72:=bd3 F72 "_law_world" "_law_lies" "_law_holds";have b73:=bd4 F73 "_law_world" "_law_lies" "_law_hands" "_law_cell";have F74:=Zhr (st:=Ni) l74 c74 k74;refine⟨W.fnOf "law" "law" (lJ Ni) (jL Ni) (aH Ni) .none Zq6 Zr4 Zpt Zr8 Zou Zr6,λs v=>.of_eq rfl,λbase _ _=>?_⟩;have G1:=hh (w:=w) (IW l.prog base Q0 T F1 ) b1 k1;have G2:=hh (w:=w) (QT l.prog base Q0 T F2 ) b2 k2;have G3:=hh (w:=w) (IK l.prog base Q0 T F3 ) b3 k3;have G5:=hh (w:=w) (Yc l.prog base Q0 T F5 ) b5 k5;have G7:=hh (w:=w) (Vi l.prog base Q0 T F7 ) b7 k7;have G8:=hh (w:=w) (QM l.prog base Q0 T F8 ) b8 k8;have G9:=hh (w:=w) (Zar l.prog base Q0 T F9 ) b9 k9;have G11:=hh (w:=w) (IV l.prog base Q0 T F11 ) b11 k11;have G12:=hh (w:=w) (BZ l.prog base Q0 T F12 ) b12 k12;have G14:=hh (w:=w) (Zjy l.prog base Q0 T F14 ) b14 k14;have G16:=hh (w:=w) (U9 l.prog base Q0 T F16 ) b16 k16;have G17:=hh (w:=w) (Va l.prog base Q0 T F17 ) b17 k17;have G18:=hh (w:=w) (Qz l.prog base Q0 T F18 ) b18 k18;have G28:=hh (w:=w) (Zdt l.prog base Q0 T F28 ) b28 k28;have G29:=hh (w:=w) (Ca l.prog base Q0 T F29 ) b29 k29;have G30:=hh (w:=w) (Af l.prog base Q0 T F30 ) b30 k30;have G31:=hh (w:=w) (Iw l.prog base Q0 T F31 ) b31 k31;have G32:=hh (w:=w) (QS l.prog base Q0 T F32 ) b32 k32;have G34:=hh (w:=w) (Vk l.prog base Q0 T F34 ) b34 k34;have G35:=hh (w:=w) (Fy l.prog base Q0 T F35 ) b35 k35
 have G36:=hh (w:=w) (Vg l.prog base Q0 T F36 ) b36 k36;have G38:=hh (w:=w) (QK l.prog base Q0 T F38 ) b38 k38;have G39:=hh (w:=w) (Iz l.prog base Q0 T F39 ) b39 k39;have G52:=hh (w:=w) (Qw l.prog base Q0 T F52 ) b52 k52;have G55:=hh (w:=w) (Zn2 l.prog base Q0 T F55 ) b55 k55;have G58:=hh (w:=w) (X8 l.prog base Q0 T F58 ) b58 k58;have G59:=hh (w:=w) (K9 l.prog base Q0 T F59 ) b59 k59;have G61:=hh (w:=w) (Yb l.prog base Q0 T F61 ) b61 k61;have G65:=hh (w:=w) (QH l.prog base Q0 T F65 ) b65 k65;have G70:=hh (w:=w) (Fq l.prog base Q0 T F70 ) b70 k70;have G6:=hh (w:=w) (Vj l.prog base Q0 T F6 G2) b6 k6;have G10:=hh (w:=w) (X7 l.prog base Q0 T F10 G9) b10 k10;have G19:=hh (w:=w) (Zap l.prog base Q0 T F19 G17) b19 k19;have G23:=hh (w:=w) (Zjx l.prog base Q0 T F23 G9 G17) b23 YT;have G25:=hh (w:=w) (Zjz l.prog base Q0 T F25 G9 G17) b25 k25;have G33:=hh (w:=w) (Fw l.prog base Q0 T F33 G28) b33 k33;have G37:=hh (w:=w) (Fv l.prog base Q0 T F37 G28) b37 k37;have G40:=hh (w:=w) (QL l.prog base Q0 T F40 G34 G32 G36) b40 k40;have G43:=hh (w:=w) (Zds l.prog base Q0 T F43 G9) b43 k43;have G51:=hh (w:=w) (X6 l.prog base Q0 T F51 G8 G17) b51 k51;have G56:=hh (w:=w) (Fj l.prog base Q0 T F56 G52) b56 k56;have G62:=hh (w:=w) (Ve l.prog base Q0 T F62 G58) b62 k62;have G69:=hh (w:=w) (Vf l.prog base Q0 T F69 G58) b69 k69;have G4:=hh (w:=w) (Vh l.prog base Q0 T F4 G1 G2 G7 G5) b4 k4;have G13:=hh (w:=w) (Ft l.prog base Q0 T F13 G11 G3 G12) b13 k13;have G15:=hh (w:=w) (Vb l.prog base Q0 T F15 G10) b15 k15;have G22:=hh (w:=w) (Zg7 l.prog base Q0 T F22 G33 G29) b22 k22;have G24:=hh (w:=w) (X5 l.prog base Q0 T F24 G23) b24 k24;have G27:=hh (w:=w) (Zan l.prog base Q0 T F27 G25 G17 G18) b27 k27;have G41:=hh (w:=w) (Zaq l.prog base Q0 T F41 G39 G40) b41 k41;have G42:=hh (w:=w) (Zao l.prog base Q0 T F42 G43) b42 k42;have G54:=hh (w:=w) (Qx l.prog base Q0 T F54 G6 G9 G17) b54 k54;have G21:=hh (w:=w) (U8 l.prog base Q0 T F21 G15 G19) b21 k21;have G26:=hh (w:=w) (Zg6 l.prog base Q0 T F26 G14 G27) b26 k26;have G44:=hh (w:=w) (Qy l.prog base Q0 T F44 G24) b44 k44;have G47:=hh (w:=w) (Zjv l.prog base Q0 T F47 G24) b47 k47;have G53:=hh (w:=w) (K6 l.prog base Q0 T F53 G55 G54) b53 k53;have Zrc:=hh (w:=w) (QC l.prog base Q0 T F60 (hh (w:=w) (G.Zhv (k:=0) λ_ _ _ _ ⟨_,_,_,z⟩=>z) b60 k60) ) b60 k60;have Zrb:=hh (w:=w) (yt l.prog base Q0 (d:=0) (lv:=1) T (by decide) F60 Zrc ) b60 k60;have Zra:=hh (w:=w) (yt l.prog base Q0 (d:=1) (lv:=2) T (by decide) F60 Zrb ) b60 k60;have Zr9:=hh (w:=w) (yt l.prog base Q0 (d:=2) (lv:=3) T (by decide) F60 Zra ) b60 k60;have G60:=Zr9;have G20:=hh (w:=w) (Qv l.prog base Q0 T F20 G8 G21) b20 k20;have G45:=hh (w:=w) (K7 l.prog base Q0 T F45 G22 G44) b45 k45;have G50:=hh (w:=w) (QB l.prog base Q0 T F50 G17 G42 G26) b50 k50;have G63:=hh (w:=w) (QJ l.prog base Q0 T F63 G61 G60 G16) b63 k63;have G66:=hh (w:=w) (Vd l.prog base Q0 T F66 G4 G65 G58 G60) b66 k66;have G67:=hh (w:=w) (QF l.prog base Q0 T F67 G60 G23) b67 k67;have G71:=hh (w:=w) (K8 l.prog base Q0 T F71 G60 G70) b71 k71;have G49:=hh (w:=w) (Zn3 l.prog base Q0 T F49 G15 G50 G51 G52) b49 k49;have G64:=hh (w:=w) (QG l.prog base Q0 T F64 G60 G19 G20) b64 k64;have G68:=hh (w:=w) (Vc l.prog base Q0 T F68 G6 G66 G58 G67 G60) b68 k68;have G48:=hh (w:=w) (NB l.prog base Q0 T F48 G35 G37 G38 G30 G31 G49 G44) b48 k48;have G46:=hh (w:=w) (K5 l.prog base Q0 T F46 G48 G47) b46 k46;have G57:=hh (w:=w) (Zjw l.prog base Q0 T F57 G45 G53 G46 G56) b57 k57;have G72:=hh (w:=w) (QD l.prog base Q0 T F72 G64 G71 G57) b72 k72
 have G73:=hh (w:=w) (NK l.prog base Q0 T F73 G69 G72 G70) b73 k73;exact Zn1 _ _ Q0 T F74 G13 G63 G59 G62 G66 G64 G58 G73 G68 G22 G41
theorem walk{l:W.OpenLaw}{q:Program}{loose:List Str}{XP:(Str->Option Value)->Heap->Prop}{YP:World->Heap->Prop}{d:DefRec}{K:Params->aC}(hn:l.most=some 63)(hdf:d.params.defaults=[])
  (hY:∀(w:World) (h:Heap),YP w h->(K w.params).In h)
  (F:∀(w:World) (mg:Str->Option Value) (fa:Addr) (h:Heap),(K w.params).In h->h.Ns mainGlobals mg->mg d.name=some (.ref fa)->
   ∃fd:FuncData,(∀(s:Shared) (u:Value),BindsTo s fd ⟨[u],[]⟩ [("_law_script",u)])/\∀base:Heap,(K w.params).In base->base.Ns mainGlobals mg->uE l.prog w (K w.params) mg base (G.CXe l.prog w) 12 fa fd ["_law_script"] (Zd5 (K w.params))):
  W.WalkO q loose XP YP l.row.toRowW d [] (λf vs=>PySem.call f vs):=
 L2.Zif (n:=63) (k:=12) (x:="_law_script") (CX:=λw=>G.CXe l.prog w) (sp:=λw=>Zd5 (K w.params)) hn (by decide) hdf ⟨rfl,by decide,by decide⟩ hY F (λ_ _ a ns hl _ hS=>⟨a,rfl,ns,hS,hl,λ_=>rfl⟩) λ_ _ _ _ _ z=>by
  obtain⟨_,_,_,_,_,_,_,_,_,_,_,_,z⟩:=z;exact z
end K14
namespace PySem.W.Fast
def tw14831883750630571010:=0
def tw18357868400692497794:=0
def tw16624386693200933826:=0
def tw8269554498185070858:=0
def tw11118611284955326059:=0
def tw3106582876040618987:=0
def tw1103881334710166735:=0
def tw3220085245277610383:=0
def tw3064111187226641935:=0
def tw12114802993884728528:=0
def tw3760876301305115187:=0
def tw17480408711086462899:=0
def tw13732865930373361588:=0
def tw11590264375149164662:=0
def tw2265573347205925270:=0
def tw5454220374926643831:=0
def tw5551480210573812152:=0
def tw7275318710776792441:=0
def tw16805104767462391418:=0
def tw13686610543090944670:=0
def tw13190439846725747815:=0
def tw1763928491711798206:=0
def tw58330305110380045:=0
def tw2301171301290012654:=0
def tw3230919633118328451:=0
def tw5627080363244845031:=0
def tw15536691531848518984:=0
def tw4004856725001879563:=0
def tw10327871983491650496:=0
def tw871474135642711720:=0
def tw3511517390764370973:=0
def tw12665722224663528553:=0
def tw5386702370829225608:=0
def tw2017354677849341635:=0
def tw7668617881422486704:=0
def tw4004043055284484562:=0
def tw2249164317279642583:=0
def tw12715053848590677257:=0
def tw9467876048258106054:=0
def tw13302527274739703148:=0
def tw12260197553549157318:=0
def tw14016288825407022865:=0
def tw15810399558371730086:=0
def tw5303021299695177396:=0
def tw1344456902274962597:=0
def tw10528193514341228734:=0
def tw11864037760274743372:=0
def tw9225343952398218055:=0
def tw5142410743667611202:=0
def tw6181667639521735211:=0
def tw12042318441701042919:=0
def tw3153453838955147149:=0
def tw1832598490719328166:=0
def tw7545010331391771904:=0
def tw1314203287058448078:=0
def tw7476049887051037266:=0
def tw6169934860923741637:=0
def tw13271627492610287840:=0
def tw8849769354252951056:=0
def tw7158444547954436355:=0
def tw7682508116732619701:=0
def tw17958092960870611663:=0
def tw16445855713578503521:=0
def tw2542148765070938750:=0
def tw7971006496509223804:=0
def tw10527181174886072442:=0
def tw17447706229239952929:=0
def tw12462227275156677804:=0
def tw16100358324237330336:=0
def tw2725650767354350552:=0
def tw4495147580755911554:=0
def tw6008494575627872469:=0
def tw15605002832802523457:=0
def tw476800727618901865:=0
def tw6363708268484570726:=0
def tw17767775398155634686:=0
def tw1236241968065672025:=0
def tw4004145888124488422:=0
def tw3245769672204855899:=0
def tw10272931885149465521:=0
def tw2444787320247037992:=0
def tw11862736697401524806:=0
def tw11374313312046066930:=0
def tw4072730328290961884:=0
def tw12051638606480601706:=0
def tw13715739874551109160:=0
def tw3860514473470924249:=0
def tw9879109745545261650:=0
def tw17785438613941725641:=0
def tw14838399344369354174:=0
def tw5554218794370014656:=0
def tw13163520775410029399:=0
def tw3337568248190372083:=0
def tw10808871717925152519:=0
def tw12070566300373340161:=0
def tw15563641608765573882:=0
def tw15276526958632359429:=0
def tw4196873837899728452:=0
def tw8881852384142481632:=0
def tw11742110422468506253:=0
def tw2408152768140604469:=0
def tw11043886707700674562:=0
def tw6466144567704857710:=0
def tw8509303406389608052:=0
def tw17363850572259173845:=0
def tw16084927820157284423:=0
def tw10402804635822220662:=0
def tw7126918176517743140:=0
def tw8060392957044341615:=0
def tw10717080598089932321:=0
def tw8054696322401973492:=0
def tw12638048176114309141:=0
def tw8936906757525907457:=0
def tw14001436449630826936:=0
def tw6183357267074808134:=0
def tw3177745333275641497:=0
def tw11520026076839678966:=0
def tw5974708468543258727:=0
def tw12742857408176626052:=0
def tw18318660377834217430:=0
def tw8859952422871193398:=0
def tw2773157079540849476:=0
def tw1533603471233199581:=0
def tw1172679136137268474:=0
def tw7407031349588166231:=0
def tw9186104308104079926:=0
def tw9922805827829635602:=0
def tw16196287240688876941:=0
def tw17187185390345633280:=0
def tw5044763945155084176:=0
def tw2777957328643066460:=0
def tw13325902840800267243:=0
def tw15389777521440880412:=0
def tw16395470819673644349:=0
def tw13300780082889366784:=0
def tw7642912961084933190:=0
def tw12308356094211833437:=0
def tw8294857020610903485:=0
def tw8789793868438005487:=0
def tw17988758158967195391:=0
def tw12620637320779653307:=0
def tw4175974111503019991:=0
def tw5890844733726220701:=0
def tw914456484037413099:=0
def tw4727134935461205436:=0
def tw10858798227617169847:=0
def tw2384416160352378583:=0
def tw2575784050016899988:=0
def tw6309009948093752696:=0
def tw2816981946084280001:=0
def tw16670209653869591536:=0
def tw17842235070426061184:=0
def tw3554457678922808264:=0
def tw14838023791124532350:=0
def tw15683369180414454880:=0
def tw3574555513617682638:=0
def tw2821048864345994630:=0
def tw9072967044559422790:=0
def tw4397900753216500125:=0
def tw3403408327470534970:=0
def tw389217148922132215:=0
def tw6129737713436702470:=0
def tw3699029315567173431:=0
def tw15726057158621898255:=0
def tw1607133772921994125:=0
def tw12238635902273144152:=0
def tw10125579595026690419:=0
def tw4440224920161035364:=0
def tw1440022601474500162:=0
def tw6353854637710991838:=0
def tw3546460521800591615:=0
def tw14290041776600673694:=0
def tw8561495407384583294:=0
def tw11023294070622856985:=0
def tw16306751725156508821:=0
def tw483966132884288460:=0
def tw1901301358846973633:=0
def tw16966698050335039083:=0
def tw15947574867340520674:=0
def tw13940551241266980609:=0
def tw14599932654878682702:=0
def tw16765407699627309500:=0
def tw3100479965957123570:=0
def tw7040983141460631260:=0
def tw11918031607839531640:=0
def tw15820905662114853399:=0
def tw6530157268373634772:=0
def tw13646806235121830866:=0
def tw3207697354374990849:=0
def tw17853715368166946286:=0
def tw2517863507840126259:=0
def tw18334699072391779657:=0
def tw2261233102094132308:=0
def tw7755160268107401241:=0
def tw7538885422458792633:=0
def tw3187870838701528993:=0
def tw16206648913431307389:=0
def tw3161028023929773692:=0
def tw3198554219441088082:=0
def tw7807083333584887780:=0
def tw2345018298883716279:=0
def tw11923294190760830242:=0
def tw16340717133181787470:=0
def tw10248215903845356588:=0
def tw17202071585811661511:=0
def tw3906708696360762024:=0
def tw11930287318635610076:=0
def tw8992231976788981264:=0
def tw13734969265269403670:=0
def tw16601007096951812648:=0
def tw5497397541178568663:=0
def tw7138590084834056473:=0
def tw8213464944595899842:=0
def tw11821138507508963126:=0
def tw3226561663408571337:=0
def tw17315009760739781110:=0
def tw14636757814162966756:=0
def tw14545947093697557100:=0
def tw8279516597954193033:=0
def tw1110733803701621271:=0
def tw16390462196272831542:=0
def tw5997468161385937268:=0
def tw4139512011182352577:=0
def tw6302447513054250951:=0
def tw14966658412010718000:=0
def tw6278124075763340879:=0
def tw12477711256395616370:=0
def tw17861957805149508018:=0
def tw17007460299148231496:=0
def tw8335551175894904155:=0
def tw13782076798606629848:=0
def tw7485202157855952277:=0
def tw9621366763912145901:=0
def tw2875990329377559559:=0
def tw12340306880782476435:=0
def tw12464041378973214005:=0
def tw16875314806869361835:=0
def tw8906379994890521613:=0
def tw4051933477246075983:=0
def tw14901117499086973717:=0
def tw2507131164422508154:=0
def tw13575158835140163700:=0
def tw13679505739052649107:=0
def tw1412664126470803580:=0
def tw9195083318341465759:=0
def tw16643535401612671662:=0
def tw1150045932310811520:=0
def tw14338610427865744944:=0
def tw18366210047618376009:=0
def tw11346503448077644143:=0
def tw9143800555928126689:=0
def tw17842522410618219605:=0
def tw16438653866722354714:=0
def tw10502630730497288454:=0
def tw18188652873473231781:=0
def tw3276213520171069068:=0
def tw10470406368744567187:=0
def tw12203604984552123557:=0
def tw4645921633188005157:=0
def tw13813555264176328479:=0
def tw5422886184024027347:=0
def tw9731479702570505524:=0
def tw2549492845041370213:=0
def tw739675909110905419:=0
def tw2815851889624292350:=0
def tw4090554874372747626:=0
def tw16161271068534224064:=0
def tw997396855401914208:=0
def tw12507117545315783927:=0
def tw10975902189481290570:=0
def tw6332161062973439215:=0
def tw7685884603251961457:=0
def tw3935096416954404837:=0
def tw3832548724116202999:=0
def tw4789225876782675593:=0
def tw13732371665258271682:=0
def tw12726607330099709671:=0
def tw10856057733574478637:=0
def tw4711335700056927617:=0
def tw9706561698458746271:=0
def tw5216549906479683163:=0
def tw12174540666782412880:=0
def tw16808227979247620234:=0
def tw16261125372032803466:=0
def tw18259059627042723962:=0
def tw16421887356031224657:=0
def tw8287862734433805214:=0
def tw10705176483588176730:=0
def tw15050721508599876861:=0
def tw4566259338302428211:=0
def tw11748529555606137425:=0
def tw17933461536273682900:=0
def tw6293755367143459619:=0
def tw17611455289704574464:=0
end PySem.W.Fast
open PySem PySem.W PyProof.Rows
set_option maxRecDepth 100000 in
set_option maxHeartbeats 0 in
theorem PySem.Challenge.cw_greywalk_k14_noting_holds : PySem.Challenge.rw_greywalk_k14_noting.Holds := by
 w_on;o_law;k_head;(case hw=>w_witness2)
 k_fill
 refine K14.walk (l:=PySem.Challenge.rw_greywalk_k14_noting) rfl rfl (fun w h Y=>PySem.W.kIn_of Y) ?F
 case F=>
  intro w mg fa h KX G hmg
  refine' K14.all_mk KX G hmg ?h0 ?h1 ?h2 ?h3 ?h4 ?h5 ?h6 ?h7 ?h8 ?h9 ?h10 ?h11 ?h12 ?h13 ?h14 ?h15 ?h16 ?h17 ?h18 ?h19 ?h20 ?h21 ?h22 ?h23 ?h24 ?h25 ?h26 ?h27 ?h28 ?h29 ?h30 ?h31 ?h32 ?h33 ?h34 ?h35 ?h36 ?h37 ?h38 ?h39 ?h40 ?h41 ?h42 ?h43 ?h44 ?h45 ?h46 ?h47 ?h48 ?h49 ?h50 ?h51 ?h52 ?h53 ?h54 ?h55 ?h56 ?h57 ?h58 ?h59 ?h60 ?h61 ?h62 ?h63 ?h64 ?h65 ?h66 ?h67 ?h68 ?h69 ?h70 ?h71 ?h72 ?h73 ?h74 ?h75 ?h76 ?h77 ?h78 ?h79 ?h80 ?h81 ?h82 ?h83 ?h84 ?h85 ?h86 ?h87 ?h88 ?h89 ?h90 ?h91 ?h92 ?h93 ?h94 ?h95 ?h96 ?h97 ?h98 ?h99 ?h100 ?Zye ?Zyd ?Zyc ?Zyb ?Zya ?Zy9 ?Zy8 ?Zy7 ?Zy6 ?Zy5 ?Zy4 ?Zy3 ?Zy2 ?Zy1 ?Zy0 ?Zxz ?Zxy ?Zxx ?Zxw ?Zxv ?Zxu ?Zxt ?Zxs ?Zxr ?Zxq ?Zxp ?Zxo ?Zxn ?Zxm ?Zxl ?Zxk ?Zxj ?Zxi ?Zxh ?Zxg ?Zxf ?Zxe ?Zxd ?Zxc ?Zxb ?Zxa ?Zx9 ?Zx8 ?Zx7 ?Zx6 ?Zx5 ?Zx4 ?Zx3 ?Zx2 ?Zx1 ?Zx0 ?Zwz ?Zwy ?Zwx ?Zww ?Zwv ?Zwu ?Zwt ?Zws ?Zwr ?Zwq ?Zwp ?Zwo ?Zwn ?Zwm ?Zwl ?Zwk ?Zwj ?Zwi ?Zwh ?Zwg ?Zwf ?Zwe ?Zwd ?Zwc ?Zwb ?Zwa ?Zw9 ?Zw8 ?Zw7 ?Zw6 ?Zw5 ?Zw4 ?Zw3 ?Zw2 ?Zw1 ?Zw0 ?Zvz ?Zvy ?Zvx ?Zvw ?Zvv ?Zvu ?Zvt ?Zvs ?Zvr ?Zvq ?Zvp ?Zvo ?Zvn ?Zvm ?Zvl ?Zvk ?Zvj ?Zvi ?Zvh ?Zvg ?Zvf ?Zve ?Zvd ?Zvc ?Zvb ?Zva ?Zv9 ?Zv8 ?Zv7 ?Zv6 ?Zv5 ?Zv4 ?Zv3 ?Zv2 ?Zv1 ?Zv0 ?Zuz ?Zuy ?Zux ?Zuw ?Zuv ?Zuu ?Zut ?Zus ?Zur ?Zuq ?Zup ?Zuo ?Zun ?Zum ?Zul ?Zuk ?Zuj ?Zui ?Zuh ?Zug ?Zuf ?Zue ?Zud ?Zuc ?Zub ?Zua ?Zu9 ?Zu8 ?Zu7 ?Zu6 ?Zu5 ?Zu4 ?Zu3 ?Zu2 ?Zu1 ?Zu0 ?Ztz ?Zty ?Ztx ?Ztw ?Ztv ?Ztu ?Ztt ?Zts ?Ztr ?Ztq ?Ztp ?Zto ?Ztn ?Ztm ?Ztl ?Ztk ?Ztj ?Zti ?Zth ?Ztg ?Ztf ?Zte ?Ztd ?Ztc ?Ztb ?Zta ?Zt9 ?Zt8 ?Zt7 ?Zt6 ?Zt5 ?Zt4 ?Zt3 ?Zt2 ?Zt1 ?Zt0 ?Zsz ?Zsy ?Zsx ?Zsw ?Zsv
  case h0 | h1 | h2 | h3 | h4 | h5 | h6 | h7 | h8 | h9 | h10 | h11 | h12 | h13 | h14 | h15 | h16 | h17 | h18 | h19=>(show _=_;k_is)
  case h20 | h21=>first | exact rfl | exact ⟨_,rfl⟩
  case h22 | h23 | h24 | h25 | h26 | h27 | h28 | h29 | h30 | h31 | h32 | h33 | h34 | h35 | h36 | h37 | h38 | h39 | h40 | h41 | h42 | h43 | h44 | h45 | h46 | h47 | h48 | h49 | h50 | h51 | h52 | h53 | h54 | h55 | h56 | h57 | h58 | h59 | h60 | h61 | h62 | h63 | h64 | h65 | h66 | h67 | h68 | h69 | h70 | h71 | h72 | h73 | h74 | h75 | h76 | h77 | h78 | h79 | h80 | h81 | h82 | h83 | h84 | h85 | h86 | h87 | h88 | h89 | h90 | h91 | h92 | h93 | h94 | h95 | h96 | h97 | h98 | h99 | h100 | Zye | Zyd | Zyc | Zyb | Zya | Zy9 | Zy8 | Zy7 | Zy6 | Zy5 | Zy4 | Zy3 | Zy2 | Zy1 | Zy0 | Zxz | Zxy=>(show _=_;k_is)
  case Zxx | Zxw | Zxv | Zxu=>exact rfl
  case Zxt | Zxs | Zxr | Zxq | Zxp | Zxo | Zxn | Zxm | Zxl | Zxk | Zxj | Zxi | Zxh | Zxg | Zxf | Zxe | Zxd | Zxc | Zxb | Zxa | Zx9 | Zx8 | Zx7 | Zx6 | Zx5 | Zx4 | Zx3 | Zx2 | Zx1 | Zx0 | Zwz | Zwy | Zwx | Zww | Zwv | Zwu | Zwt | Zws | Zwr | Zwq | Zwp | Zwo | Zwn | Zwm | Zwl | Zwk | Zwj | Zwi | Zwh | Zwg | Zwf | Zwe | Zwd | Zwc | Zwb | Zwa | Zw9 | Zw8 | Zw7 | Zw6 | Zw5 | Zw4 | Zw3 | Zw2 | Zw1 | Zw0 | Zvz | Zvy | Zvx | Zvw | Zvv | Zvu | Zvt | Zvs | Zvr | Zvq | Zvp | Zvo | Zvn | Zvm | Zvl | Zvk | Zvj | Zvi | Zvh | Zvg | Zvf | Zve=>(show _=_;k_is)
  case Zvd=>k_exc
  case Zvc | Zvb | Zva | Zv9 | Zv8 | Zv7 | Zv6 | Zv5 | Zv4 | Zv3 | Zv2 | Zv1 | Zv0 | Zuz | Zuy=>(show _=_;k_is)
  case Zux=>first | exact rfl | exact ⟨_,rfl⟩
  case Zuw=>(show _=_;k_is)
  case Zuv=>first | exact rfl | exact ⟨_,rfl⟩
  case Zuu | Zut | Zus | Zur | Zuq | Zup | Zuo | Zun | Zum | Zul | Zuk | Zuj | Zui | Zuh | Zug | Zuf | Zue | Zud | Zuc | Zub | Zua | Zu9 | Zu8 | Zu7 | Zu6 | Zu5 | Zu4 | Zu3 | Zu2 | Zu1 | Zu0 | Ztz | Zty | Ztx | Ztw | Ztv | Ztu | Ztt | Zts | Ztr | Ztq | Ztp | Zto | Ztn | Ztm | Ztl | Ztk | Ztj | Zti | Zth | Ztg | Ztf | Zte | Ztd | Ztc | Ztb | Zta | Zt9 | Zt8 | Zt7 | Zt6 | Zt5 | Zt4 | Zt3 | Zt2 | Zt1 | Zt0 | Zsz | Zsy | Zsx | Zsw | Zsv=>(refine' K14.fgm ?l ?c ?k;(case l=>show _=_;k_is);(case c=>show _=_;k_is);(case k=>show _=_;k_is))
#print axioms PySem.Challenge.cw_greywalk_k14_noting_holds
