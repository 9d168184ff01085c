import PyProof.Rows.All
import Wide.All
import OpenK.AllK
import Wide.FinOn
import Lean
import PyProof.EqAt
import PyProof.EqKinds
import PyProof.TupleCall
import KE.KItemsList
import KE.KDictList
import PySem.Challenge.RW_greywalk_k24_a_round_begins
set_option Elab.async false
set_option linter.all false
set_option maxRecDepth 100000
abbrev aB:=PySem.W.Frag
def bL{α:Type}{l:List α}{i:Nat}(h:i<l.length):l[i]? =some l[i]:=List.getElem?_eq_getElem h
def dY{α:Type}{l:List α}{i:Nat}{a:α}(h:l[i]? =some a):∃h:i<l.length,l[i]=a:=List.getElem?_eq_some_iff.mp h
def cz{α β:Type}{f:α->β}{l:List α}{i:Nat}:(l.map f)[i]? =l[i]?.map f:=List.getElem?_map
def aY{α β:Type}{l:List α}(f:α->β):(l.map f).length=l.length:=List.length_map f
namespace L2
open PySem PySem.Spec PyProof.Rows
abbrev Key:=Sum Int Str
def Jc:Key->Value->Bool
 | .inl k,v=>Value.isInt k v
 | .inr x,v=>Value.isStrOf x v
def Zxq(w:World):Key->Int
 | .inl k=>hashInt k
 | .inr x=>hashStr w x
def fJ:∀{k:Key}{v:Value},Jc k v=true->(∃i t,k=Sum.inl i/\v=Value.int i t)\/(∃x t,k=Sum.inr x/\v=Value.str x t)
 | .inl i,v,h=>by
  obtain⟨t,e⟩:=Value.isInt_shape (k:=i) (v:=v) h;exact .inl ⟨i,t,rfl,e⟩
 | .inr x,v,h=>by
  obtain⟨t,e⟩:=Value.isStrOf_shape (x:=x) (v:=v) h;exact .inr ⟨x,t,rfl,e⟩
def Zkp(i:Int)(t:Tok):Jc (.inl i) (.int i t)=true:=by simp[Jc,Value.isInt]
def Zko(x:Str)(t:Tok):Jc (.inr x) (.str x t)=true:=by simp[Jc,Value.isStrOf]
def Zvh(a b:Int):decide ((Sum.inl a:Key)=Sum.inl b)=(a == b):=by
 by_cases e:a=b
 ·subst e;simp
 ·have h:¬ (Sum.inl a:Key)=Sum.inl b:=λq=>e (Sum.inl.inj q);rw[decide_eq_false h];exact(beq_eq_false_iff_ne.mpr e).symm
def Zve(a b:Str):decide ((Sum.inr a:Key)=Sum.inr b)=decide (a=b):=by
 by_cases e:a=b
 ·subst e;simp
 ·have h:¬ (Sum.inr a:Key)=Sum.inr b:=λq=>e (Sum.inr.inj q);rw[decide_eq_false h,decide_eq_false e]
def Zvg(a:Int)(b:Str):decide ((Sum.inl a:Key)=Sum.inr b)=false:=decide_eq_false (λq=>nomatch q)
def Zvf(a:Str)(b:Int):decide ((Sum.inr a:Key)=Sum.inl b)=false:=decide_eq_false (λq=>nomatch q)
def fH(prog:Program)(w:World):PySem.KeyKind prog w Key where
  is:=Jc
  hash:=Zxq w
  inj:=λv a b ha hb=>by
    rcases fJ ha with ⟨i,t,rfl,rfl⟩ | ⟨x,t,rfl,rfl⟩
    · rcases fJ hb with ⟨j,u,rfl,e⟩ | ⟨y,u,rfl,e⟩
      · injection e with e1 _;rw[e1]
      · exact nomatch e
    · rcases fJ hb with ⟨j,u,rfl,e⟩ | ⟨y,u,rfl,e⟩
      · exact nomatch e
      · injection e with e1 _;rw[e1]
  byValue:=λk v h=>by
    rcases fJ h with ⟨i,t,rfl,rfl⟩ | ⟨x,t,rfl,rfl⟩<;>rfl
  pyHash:=λhv h=>by
    rcases fJ hv with ⟨i,t,rfl,rfl⟩ | ⟨x,t,rfl,rfl⟩
    · exact wpAny_pyHash_int h
    · exact wpAny_pyHash_str h
  eqBool:=λhu hv h=>by
    rcases fJ hu with ⟨i,t,rfl,rfl⟩ | ⟨x,t,rfl,rfl⟩
    · rcases fJ hv with ⟨j,u,rfl,rfl⟩ | ⟨y,u,rfl,rfl⟩
      · rw[Zvh]at h;exact wpAny_eqBool_int h
      · rw[Zvg]at h;exact SeqAt.EqAt.int_str i t y u _ _ _ _ h
    · rcases fJ hv with ⟨j,u,rfl,rfl⟩ | ⟨y,u,rfl,rfl⟩
      · rw[Zvf]at h;exact SeqAt.EqAt.str_int x t j u _ _ _ _ h
      · rw[Zve]at h;exact wpAny_eqBool_str h
  «strs»:=λk x t v h=>by
    rcases fJ h with ⟨i,u,rfl,e⟩ | ⟨y,u,rfl,e⟩
    · exact nomatch e
    · injection e with e1 _
      subst e1;cases v<;>rfl
def Zcu(prog:Program)(w:World)(i:Int)(t:Tok):(fH prog w).is (.inl i) (.int i t)=true:=Zkp i t
def Zct(prog:Program)(w:World)(x:Str)(t:Tok):(fH prog w).is (.inr x) (.str x t)=true:=Zko x t
end L2
namespace L2
open PySem PySem.Spec PyProof.Rows
inductive V where
 | non | bl (b:Bool) | int (i:Int) | str (x:Str) | byt (b:Array UInt8) | flt (b:UInt64) | ref (a:Addr) | ty (n:String)
 deriving DecidableEq
def RelV:V->Value->Prop
 | .non,u=>u=Value.none
 | .bl b,u=>u=Value.bool b
 | .int i,u=>∃t,u=Value.int i t
 | .str x,u=>∃t,u=Value.str x t
 | .byt b,u=>∃t,u=Value.bytes b t
 | .flt b,u=>∃t,u=Value.float b t
 | .ref a,u=>u=Value.ref a
 | .ty n,u=>u=Value.type n
abbrev Vals:List V->List Value->Prop:=Paired RelV
def Vals.length{xs:List V}{us:List Value}(r:Vals xs us):xs.length=us.length:=Paired.length r
def Vals.get:∀{xs:List V}{us:List Value}{i:Nat}{x:V},Vals xs us->xs[i]? =some x->∃u,us[i]? =some u/\RelV x u
 | _,_,_,_,.nil,e=>by simp at e
 | _,_,0,_,.cons r _,e=>by simp at e;subst e;exact⟨_,rfl,r⟩
 | _,_,i+1,x,.cons _ t,e=>by
  obtain⟨u,h1,h2⟩:=Vals.get (i:=i) (x:=x) t (by simpa using e);exact⟨u,by simpa using h1,h2⟩
def Vals.set{x:V}{u:Value}(r:RelV x u):∀{xs:List V}{us:List Value} (i:Nat),Vals xs us->Vals (xs.set i x) (us.set i u)
 | _,_,_,.nil=>.nil
 | _,_,0,.cons _ t=>.cons r t
 | _,_,i+1,.cons q t=>.cons q (Vals.set r i t)
def Vals.append:∀{xs ys:List V}{us ws:List Value},Vals xs us->Vals ys ws->Vals (xs++ys) (us++ws)
 | _,_,_,_,.nil,s=>s
 | _,_,_,_,.cons r t,s=>.cons r (Vals.append t s)
def Vals.take:∀{xs:List V}{us:List Value} (n:Nat),Vals xs us->Vals (xs.take n) (us.take n)
 | _,_,0,_=>.nil
 | _,_,_+1,.nil=>.nil
 | _,_,n+1,.cons r t=>.cons r (Vals.take n t)
def Vals.drop:∀{xs:List V}{us:List Value} (n:Nat),Vals xs us->Vals (xs.drop n) (us.drop n)
 | _,_,0,r=>r
 | _,_,_+1,.nil=>.nil
 | _,_,n+1,.cons _ t=>Vals.drop n t
def Fq:Option V->Option Value->Prop
 | some v,some u=>RelV v u
 | none,none=>True
 | _,_=>False
def KV{κ:Type}:List (κ×V)->List (κ×Value)->Prop:=Paired λ(p:κ×V) (q:κ×Value)=>p.1=q.1/\RelV p.2 q.2
def kV:Key->V
 | .inl i=>.int i
 | .inr x=>.str x
inductive HO where
  | lst (xs:List V)
  | tup (xs:List V)
  | dK (kvs:List (Key×V)) | dT (kvs:List (List Key×V))
  | set (S:Int->Bool) (n:Nat)
  | ins (C dx:Addr) (fs:List (Str×V))
  | own (x:Addr)
  | xd (fs:List (Str×V))
  | met (f x:Addr)
  | rng (lo hi:Int)
  | zp (o:Obj) (u:HO)
  | Qj (ps:Array Value)
  | ext (φ:Heap->Prop)
abbrev Hp:=Addr->Option HO
def upd(H:Hp)(a:Addr)(o:HO):Hp:=λb=>if b=a then some o else H b
def aq{H:Hp}{a:Addr}{o:HO}:upd H a o a=some o:=by unfold upd;rw[if_pos rfl]
def aC{H:Hp}{a b:Addr}{o:HO}(h:b≠a):upd H a o b=H b:=by unfold upd;rw[if_neg h]
def eY{H:Hp}{a:Addr}{o u:HO}:upd (upd H a o) a u=upd H a u:=by
 funext b;unfold upd;split<;>rfl
def qz{H:Hp}{a b:Addr}{o u:HO}(h:H a=some o)(h':H b=some u)(d:o≠u):a≠b:=by
 intro e;subst e;rw[h]at h';exact d (Option.some.inj h')
def aG{H:Hp}{a b:Addr}{o:HO}(h:H a=some o)(h':H b=none):a≠b:=by
 intro e;subst e;rw[h]at h';cases h'
section
variable (P:Program)(w:World)
def kE(H:Hp)(h:Heap)(a:Addr):HO->Prop
 | .lst xs=>xs.length<=sizeLine/\∃(its:List Value) (n:Nat),Vals xs its/\h.get? a=some { cls:=.type "list",data:=.seq its.toArray n }
 | .tup xs=>xs.length<=sizeLine/\∃its:List Value,Vals xs its/\IsTup h a its.toArray
 | .dK kvs=>kvs.length<=sizeLine/\(a == sysModules)=false/\∃vs,KV kvs vs/\h.DictOf (fH P w) a vs
 | .dT kvs=>kvs.length<=sizeLine/\(a == sysModules)=false/\∃xs:List (List Key×Addr×Value),
   Paired (λ(p:List Key×V) (q:List Key×Addr×Value)=>p.1=q.1/\H q.2.1=some (.tup (p.1.map kV))/\RelV p.2 q.2.2) kvs xs/\
   ∃o es ep,h.get? a=some o/\o.ExactDict/\o.data=.dict es ep/\es.toList=xs.map (entryOfKey (tupleKind (fH P w)))/\(xs.map (·.1)).Nodup
 | .set S n=>h.SetOf (intKind P w) a S n
 | .ins C dx fs=>H dx=some (.own a)/\fs.length<=1000/\dx≠a/\h.get? a=some (PySem.W.instObj C dx)/\
   ∃mA,h.Ns1 dx mA/\(∀f,Fq (fs.lookup f) (mA f))/\PySem.Within mA (fs.map (·.1))
 | .own _=>∃o,h.get? a=some o
 | .xd fs=>∃mA,h.Ns1 a mA/\∀f,Fq (fs.lookup f) (mA f)
 | .rng lo hi=>∃t u v,h.get? a=some { cls:=.type "range",data:=.fields #[.int lo t,.int hi u,.int 1 v] }
 | .zp o u=>h.get? a=some o/\kE H h a u
 | .Qj ps=>h.get? a=some { cls:=.none,data:=.fields ps }
 | .met f x=>h.get? a=some (PySem.W.methodObj (.ref f) (.ref x))
 | .ext φ=>φ h/\(∃o,h.get? a=some o)/\∀h1 h2:Heap,φ h1->(∀o,h1.get? a=some o->h2.get? a=some o)->φ h2
def Ei(H:Hp)(h:Heap):Prop:=∀a o,H a=some o->kE P w H h a o
end
section
variable {P:Program}{w:World}{H H':Hp}{h h':Heap}{a:Addr}{o:HO}
def kE.lt(x:kE P w H h a o):a<h.objs.size:=by
 cases o with
 | lst xs=>obtain⟨_,_,_,_,e⟩:=x;exact Heap.lt_size e
 | tup xs=>obtain⟨_,_,_,p⟩:=x;exact p.lt
 | dK kvs=>obtain⟨_,_,_,_,o,_,_,e,_⟩:=x;exact Heap.lt_size e
 | dT kvs=>obtain⟨_,_,_,_,o,_,_,e,_⟩:=x;exact Heap.lt_size e
 | set S n=>obtain⟨o,_,_,_,e,_⟩:=x;exact Heap.lt_size e
 | ins C dx fs=>obtain⟨_,_,_,e,_⟩:=x;exact Heap.lt_size e
 | own y=>obtain⟨_,e⟩:=x;exact Heap.lt_size e
 | xd fs=>obtain⟨_,⟨_,_,_,e,_⟩,_⟩:=x;exact Heap.lt_size e
 | rng lo hi=>obtain⟨_,_,_,e⟩:=x;exact Heap.lt_size e
 | zp ob u=>obtain⟨e,_⟩:=x;exact Heap.lt_size e
 | Qj ps=>exact Heap.lt_size (show h.get? a=some _ from x)
 | met f y=>exact Heap.lt_size (show h.get? a=some _ from x)
 | ext φ=>obtain⟨_,⟨_,e⟩,_⟩:=x;exact Heap.lt_size e
def Paired.Zv9{α β:Type}{F G:α->β->Prop}:∀{l₁:List α}{l₂:List β},Paired F l₁ l₂->(∀a b,F a b->G a b)->Paired G l₁ l₂
 | _,_,.nil,_=>.nil
 | _,_,.cons r t,f=>.cons (f _ _ r) (Paired.Zv9 t f)
def kE.stay(x:kE P w H h a o)(k:∀b u,(b=a\/H b=some (.own a))->h.get? b=some u->h'.get? b=some u)
  (ho:∀b,H b=some (.own a)->H' b=some (.own a)) (ht:∀b xs,H b=some (.tup xs)->H' b=some (.tup xs)):kE P w H' h' a o:=by
 induction o with
 | lst xs=>obtain⟨z,its,n,r,e⟩:=x;exact⟨z,its,n,r,k _ _ (.inl rfl) e⟩
 | tup xs=>obtain⟨z,its,r,ob,e,c⟩:=x;exact⟨z,its,r,ob,k _ _ (.inl rfl) e,c⟩
 | dK kvs=>obtain⟨z,y,vs,r,ob,es,ep,e,c⟩:=x;exact⟨z,y,vs,r,ob,es,ep,k _ _ (.inl rfl) e,c⟩
 | dT kvs=>
  obtain⟨z,y,xs,r,ob,es,ep,e,c⟩:=x;exact⟨z,y,xs,Paired.Zv9 r λp q z=>⟨z.1,ht _ _ z.2.1,z.2.2⟩,ob,es,ep,k _ _ (.inl rfl) e,c⟩
 | set S n=>obtain⟨ob,es,ep,t,e,c⟩:=x;exact⟨ob,es,ep,t,k _ _ (.inl rfl) e,c⟩
 | ins C dx fs=>
  obtain⟨d,z,ne,e,mA,⟨od,es,ep,e2,c⟩,r⟩:=x;exact⟨ho _ d,z,ne,k _ _ (.inl rfl) e,mA,⟨od,es,ep,k _ _ (.inr d) e2,c⟩,r⟩
 | own y=>obtain⟨ob,e⟩:=x;exact⟨ob,k _ _ (.inl rfl) e⟩
 | xd fs=>obtain⟨mA,⟨od,es,ep,e,c⟩,r⟩:=x;exact⟨mA,⟨od,es,ep,k _ _ (.inl rfl) e,c⟩,r⟩
 | rng lo hi=>obtain⟨t,u,v,e⟩:=x;exact⟨t,u,v,k _ _ (.inl rfl) e⟩
 | zp ob u ih=>obtain⟨e,q⟩:=x;exact⟨k _ _ (.inl rfl) e,ih q⟩
 | Qj ps=>
  have e:h.get? a=some { cls:=.none,data:=.fields ps }:=x;show h'.get? a=some { cls:=.none,data:=.fields ps };exact k a _ (.inl rfl) e
 | met f y=>
  have e:h.get? a=some (PySem.W.methodObj (.ref f) (.ref y)):=x;show h'.get? a=some (PySem.W.methodObj (.ref f) (.ref y));exact k a _ (.inl rfl) e
 | ext φ=>obtain⟨p,⟨o,e⟩,st⟩:=x;exact⟨st _ _ p λo q=>k _ _ (.inl rfl) q,⟨o,k _ _ (.inl rfl) e⟩,st⟩
def Ei.lt(x:Ei P w H h)(e:H a=some o):a<h.objs.size:=(x a o e).lt
def Ei.fresh(x:Ei P w H h)(e:h.objs.size<=a):H a=none:=by
 cases q:H a with
 | none=>rfl
 | some u=>exact absurd (Nat.lt_of_lt_of_le (x.lt q) e) (Nat.lt_irrefl _)
def Ei.kept(x:Ei P w H h)(k:∀b u,h.get? b=some u->h'.get? b=some u):Ei P w H h':=λa o e=>
 (x a o e).stay (λb u _ q=>k b u q) (λ_ q=>q) λ_ _ q=>q
def Ei.laid(x:Ei P w H h)(k:∀b u,h.get? b=some u->h'.get? b=some u)(hp:h.objs.size<=a)(new:kE P w (upd H a o) h' a o):Ei P w (upd H a o) h':=λb u e=>by
 have hn:=x.fresh hp
 by_cases hb:b=a
 ·subst hb;rw[aq]at e;cases e;exact new
 ·rw[aC hb]at e;exact(x b u e).stay (λc v _ q=>k c v q) (λc q=>by rw[aC (aG q hn)];exact q) λc xs q=>by rw[aC (aG q hn)];exact q
end
def Rd(H:Hp)(a:Addr)(u:HO):Prop:=H a=some u\/∃o,H a=some (.zp o u)
def Rd.ok{P:Program}{w:World}{H:Hp}{h:Heap}{a:Addr}{u:HO}(r:Rd H a u)(x:Ei P w H h):kE P w H h a u:=by
 rcases r with r | ⟨o,r⟩
 ·exact x a u r
 ·obtain⟨_,q⟩:=x a _ r;exact q
def Mut:Option HO->Prop
 | some (.lst _)=>True
 | some (.dK _)=>True
 | some (.dT _)=>True
 | some (.set _ _)=>True
 | some (.ins _ _ _)=>True
 | some (.ext _)=>True
 | _=>False
section
variable {P:Program}{w:World}{H:Hp}{h h':Heap}{x e:Addr}{o':HO}
def Ei.write(ok:Ei P w H h)(mu:Mut (H x))(he:e=x\/H e=some (.own x))(k:∀b u,b≠e->h.get? b=some u->h'.get? b=some u)(heo:∃u,h'.get? e=some u)
  (new:kE P w (upd H x o') h' x o'):Ei P w (upd H x o') h':=λb u q=>by
 have Zxl:∀c y,H c=some (.own y)->c≠x:=λc y r z=>by subst z;rw[r]at mu;exact mu
 have Zz8:∀c xs,H c=some (.tup xs)->c≠x:=λc xs r z=>by subst z;rw[r]at mu;exact mu
 by_cases hb:b=x
 ·subst hb;rw[aq]at q;cases q;exact new
 ·rw[aC hb]at q
  by_cases hbe:b=e
  ·have q':H b=some (.own x):=by
    rcases he with z | z
    ·exact absurd (hbe.trans z) hb
    ·rw[hbe];exact z
   rw[q]at q';cases q';obtain⟨v,hv⟩:=heo;exact⟨v,by rw[hbe];exact hv⟩
  ·refine(ok b u q).stay (λc v hc r=>k c v ?_ r) (λc r=>by rw[aC (Zxl c b r)];exact r) λc xs r=>by rw[aC (Zz8 c xs r)];exact r
   rcases hc with rfl | hc
   ·exact hbe
   ·rintro rfl;rcases he with z | z
    ·exact Zxl c b hc z
    ·rw[hc]at z;cases z;exact hb rfl
end
structure Un(fs ex:List Addr)(H H':Hp)(h h':Heap):Prop where
 keep:∀b o,h.get? b=some o->H b=none->b∉fs->b∉ex->h'.get? b=some o
 slot:∀b o,h.get? b=some o->H b=none->b∈fs->b∉ex->∃sl,h'.get? b=some { o with slots:=sl }
 free:∀b o,h.get? b=some o->H b=none->b∉ex->H' b=none
 there:∀b o,h.get? b=some o->b∉ex->∃o',h'.get? b=some o'
 tups:∀b xs,H b=some (.tup xs)->H' b=some (.tup xs)
 Ma:∀b o u,H b=some (.zp o u)->H' b=some (.zp o u)
 Od:∀b ps,H b=some (.Qj ps)->∃more,H' b=some (.Qj (ps++more))
section
variable {fs fs' ex ex':List Addr}{H H1 H2:Hp}{h h1 h2 h':Heap}{a x e:Addr}{o:HO}
def Un.any(u:Un fs ex H H1 h h1){b:Addr}{ob:Obj}(q:h.get? b=some ob)(n:H b=none)(hx:b∉ex):∃sl,h1.get? b=some { ob with slots:=sl }:=by
 by_cases hb:b∈fs
 ·exact u.slot b ob q n hb hx
 ·exact⟨ob.slots,u.keep b ob q n hb hx⟩
def Un.kept(k:∀b u,h.get? b=some u->h'.get? b=some u):Un fs ex H H h h':=
 ⟨λb ob q _ _ _=>k b ob q,λb ob q _ _ _=>⟨ob.slots,k b ob q⟩,λ_ _ _ n _=>n,λb ob q _=>⟨ob,k b ob q⟩,λ_ _ q=>q,λ_ _ _ q=>q,λ_ ps q=>⟨#[],by rw[q];simp⟩⟩
def Un.refl:Un fs ex H H h h:=Un.kept λ_ _ q=>q
def Un.laid(k:∀b u,h.get? b=some u->h'.get? b=some u)(hp:h.objs.size<=a)(hn:H a=none):Un fs ex H (upd H a o) h h' where
 keep:=λb u q _ _ _=>k b u q
 slot:=λb u q _ _ _=>⟨u.slots,k b u q⟩
 free:=λb u q n _=>by rw[aC (Nat.ne_of_lt (Nat.lt_of_lt_of_le (Heap.lt_size q) hp))];exact n
 there:=λb u q _=>⟨u,k b u q⟩
 tups:=λb xs q=>by rw[aC (aG q hn)];exact q
 Ma:=λb u xs q=>by rw[aC (aG q hn)];exact q
 Od:=λb ps q=>⟨#[],by rw[aC (aG q hn),q];simp⟩
def Un.write(mu:Mut (H x))(he:e=x\/H e=some (.own x))(k:∀b u,b≠e->h.get? b=some u->h'.get? b=some u)(heo:∃u,h'.get? e=some u):Un fs ex H (upd H x o) h h':=by
 have hx:∀b,H b=none->b≠x:=λb n z=>by subst z;rw[n]at mu;exact mu
 have hb:∀b,H b=none->b≠e:=λb n z=>by
  subst z;rcases he with r | r
  ·exact hx b n r
  ·rw[n]at r;cases r
 have hm:∀b u,H b=some u->¬ Mut (some u)->b≠x:=λb u q nm z=>by subst z;rw[q]at mu;exact nm mu
 refine⟨λb u q n _ _=>k b u (hb b n) q,λb u q n _ _=>⟨u.slots,k b u (hb b n) q⟩,λb u q n _=>by rw[aC (hx b n)];exact n,λb u q _=>?_,
  λb xs q=>by rw[aC (hm b _ q λz=>z)];exact q,λb u xs q=>by rw[aC (hm b _ q λz=>z)];exact q,λb ps q=>⟨#[],by rw[aC (hm b _ q λz=>z),q];simp⟩⟩
 by_cases hbe:b=e
 ·subst hbe;exact heo
 ·exact⟨u,k b u hbe q⟩
end
def trk(h:Heap)(H:Hp):List Addr:=(List.range h.objs.size).filter λa=>(H a).isSome
def Za1(h:Heap)(H:Hp):Heap:=PySem.W.hideAll h (trk h H)
def Zl8(h:Heap)(H:Hp):(Za1 h H).objs.size=h.objs.size:=PySem.W.hideAll_size _ _
def Zou{h:Heap}{H:Hp}{b:Addr}{o:Obj}(e:h.get? b=some o)(n:H b=none):(Za1 h H).get? b=some o:=
 PySem.W.hideAll_get _ e λhm=>by
  have q:(H b).isSome=true:=(List.mem_filter.mp hm).2;rw[n]at q;simp at q
def Zrn{h:Heap}{H:Hp}{b:Addr}{o:Obj}(e:(Za1 h H).get? b=some o):h.get? b=some o/\H b=none:=by
 have e':h.get? b=some o:=PySem.W.of_hideAll (trk h H) e;refine⟨e',?_⟩;cases q:H b with
 | none=>rfl
 | some x=>
  have hm:b∈trk h H:=List.mem_filter.mpr ⟨List.mem_range.mpr (Heap.lt_size e'),by simp[q]⟩;have z:(Za1 h H).get? b=none:=PySem.W.hideAll_none (trk h H) hm;rw[z]at e;cases e
def Zt9(g h:Heap)(L:Addr):List (Addr×Obj):=(List.range h.objs.size).filterMap λa=>if a=L\/(g.get? a).isSome=true then none else(h.get? a).map λo=>(a,o)
def rest(g h:Heap)(L d:Addr):List (Addr×Obj):=(Zt9 g h L).filter λp=>decide (p.1≠d)
end L2
namespace L2
open PySem PySem.Spec PyProof.Rows
structure Mod(K:aB)(mg:Str->Option Value)(base:Heap):Prop where
 kin:K.In base
 glob:base.Ns mainGlobals mg
 blt:∃mb,base.Ns builtinsNs mb/\∀x:Str,x≠"__name__"->mb x=bootBuiltins x
 nolimit:base.NoLimit
structure Cx where
 prog:Program
 w:World
 K:aB
 mg:Str->Option Value
 base:Heap
 A:Around
 N:List Str
 s₀:Shared
 H₀:Hp
 env:Env
 outer:List Env
 stack:List Env
 ex:List Addr
 fn:Str->Bool
 calm:Bool
 pn:List (Addr×Obj)
 xe:Value->Shared->Prop
def frs(l:List Env):List Addr:=l.filterMap (·.frame)
abbrev Cx.fs(X:Cx):List Addr:=frs X.outer
def Vis(sc:Scope)(x:Str):Prop:=sc.names.lookup x=some .local\/sc.names.lookup x=some .cell\/sc.names.lookup x=some .free
def Loc(sc:Scope)(x:Str):Prop:=sc.names.lookup x=some .local\/sc.names.lookup x=some .cell
def Look(env:Env)(h:Heap)(m:Str->Option Value)(x:Str)(u:Value):Prop:=
 (env.kindOf x=some .local/\m x=some u)\/((env.kindOf x=some .cell\/env.kindOf x=some .free)/\∃c,env.cells.lookup x=some c/\h.IsCell c (some u))
structure Cx.Ok(X:Cx):Prop where
 mod:Mod X.K X.mg X.base
 kind:X.env.scope.kind=.function
 glob:X.env.globals=mainGlobals
 blt:X.env.builtins=builtinsNs
 above:X.s₀.heap.objs.size<=X.env.locals
 inj:∀x y c,X.env.cells.lookup x=some c->X.env.cells.lookup y=some c->x=y
 has:∀x,(X.env.kindOf x=some .cell\/X.env.kindOf x=some .free)->∃c,X.env.cells.lookup x=some c
 cab:∀x c,X.fn x=true->X.env.cells.lookup x=some c->X.s₀.heap.objs.size<=c
 hd:X.calm=true->X.A.handled=none
 frames:X.A.frames=some X.stack
 stk:X.stack=X.outer\/(X.stack=X.env::X.outer/\X.env.frame=some X.env.locals)
 exf:∀b∈X.ex,b≠X.env.locals/\∀x c,X.env.cells.lookup x=some c->c≠b
 bs:∀b o,X.base.get? b=some o->X.s₀.heap.get? b=some o/\X.H₀ b=none
 bsz:X.base.objs.size<=X.s₀.heap.objs.size
 Zcl:∀b o,X.base.get? b=some o->b∉X.ex
 Zhn:∀b∈X.ex,b∉X.fs
 Bf:X.s₀.heap.FunFrames X.base X.outer
 frf:∀b∈X.fs,X.H₀ b=none
structure Inv(X:Cx)(pins:List (Addr×Obj))(σ:List (Option V))(H:Hp)(s:Shared):Prop where
 ok:X.Ok
 os:s.os=X.s₀.os
 bare:AllBare s.gens
 base:Un X.fs X.ex X.H₀ H X.s₀.heap s.heap
 loc:∃m,s.heap.Ns X.env.locals m/\∀(i:Nat) (x:Str) (v:V),X.N[i]? =some x->σ[i]? =some (some v)->Vis X.env.scope x->∃u,RelV v u/\Look X.env s.heap m x u
 cell:∀x c,X.env.cells.lookup x=some c->∃v,s.heap.IsCell c v
 free:H X.env.locals=none
 vh:∀x c,X.env.cells.lookup x=some c->H c=none
 pin:∀p∈X.pn++pins,s.heap.get? p.1=some p.2/\H p.1=none/\p.1≠X.env.locals/\p.1∉X.fs/\∀v,p.2.data≠.cell v
 hok:Ei X.prog X.w H s.heap
 len:σ.length=X.N.length
section
variable {X:Cx}{pins:List (Addr×Obj)}{σ:List (Option V)}{H H':Hp}{s:Shared}{h':Heap}
def Cx.Ok.Zza(ok:X.Ok){b:Addr}{o:Obj}(e:X.base.get? b=some o):b∉X.fs:=λhb=>by
 have:=(ok.Bf.mem hb).1;rw[e]at this;cases this
def Inv.bs(I:Inv X pins σ H s):∀b o,X.base.get? b=some o->s.heap.get? b=some o/\H b=none:=λb o e=>
 ⟨I.base.keep b o (I.ok.bs b o e).1 (I.ok.bs b o e).2 (I.ok.Zza e) (I.ok.Zcl b o e),I.base.free b o (I.ok.bs b o e).1 (I.ok.bs b o e).2 (I.ok.Zcl b o e)⟩
def Inv.bk(I:Inv X pins σ H s):∀b o,X.base.get? b=some o->s.heap.get? b=some o:=λb o e=>(I.bs b o e).1
def Inv.mod(I:Inv X pins σ H s):Mod X.K X.mg X.base:=I.ok.mod
def Inv.DR(I:Inv X pins σ H s):X.K.In s.heap:=I.ok.mod.kin.keeps I.bk
def Inv.lt(I:Inv X pins σ H s):X.env.locals<s.heap.objs.size:=let ⟨_,hn,_⟩:=I.loc;hn.lt
def Inv.sz(I:Inv X pins σ H s):X.s₀.heap.objs.size<=s.heap.objs.size:=Nat.le_trans I.ok.above (Nat.le_of_lt I.lt)
def Inv.Zz9(I:Inv X pins σ H s){a:Addr}(h:s.heap.objs.size<=a):a∉X.fs:=λhb=>by
 obtain⟨_,o,ho,_⟩:=I.ok.Bf.mem hb;exact absurd (Nat.lt_of_lt_of_le (Heap.lt_size ho) (Nat.le_trans I.sz h)) (Nat.lt_irrefl _)
def Inv.cne(I:Inv X pins σ H s):∀x c,X.env.cells.lookup x=some c->c≠X.env.locals:=λx c e z=>by
 obtain⟨v,o,ho,hd⟩:=I.cell x c e;obtain⟨m,⟨o',es,ep,ho',hd',_⟩,_⟩:=I.loc;rw[z,ho']at ho;cases ho;rw[hd']at hd;cases hd
def Inv.Bf(I:Inv X pins σ H s):s.heap.FunFrames X.base X.outer:=by
 have all:∀(l:List Env),(∀b∈frs l,b∈X.fs)->X.s₀.heap.FunFrames X.base l->s.heap.FunFrames X.base l:=by
  intro l
  induction l with
  | nil=>intro _ _;trivial
  | cons env r ih=>
   intro hs hl;obtain⟨hk,⟨L,o,hf,hn,ho,hd⟩,hr⟩:=hl;have hL:L∈X.fs:=hs L (by unfold frs;rw[List.filterMap_cons,hf];exact List.mem_cons_self);obtain⟨sl,e⟩:=I.base.slot L o ho (I.ok.frf L hL) hL λz=>I.ok.Zhn L z hL;exact⟨hk,⟨L,_,hf,hn,e,hd⟩,ih (λb hb=>hs b (by unfold frs;rw[List.filterMap_cons,hf];exact List.mem_cons_of_mem _ hb)) hr⟩
 exact all X.outer (λ_ hb=>hb) I.ok.Bf
def Inv.stack(I:Inv X pins σ H s):s.heap.FunFrames X.base X.stack:=by
 rcases I.ok.stk with e | ⟨e,hf⟩
 ·rw[e];exact I.Bf
 ·rw[e];obtain⟨m,hn,_⟩:=I.loc;refine .cons (by rw[I.ok.kind];decide) hf hn ?_ I.Bf;exact Heap.get?_none_of_le (Nat.le_trans I.ok.bsz I.ok.above)
def Inv.JS(I:Inv X pins σ H s):∀b∈frs X.stack,b∈X.env.locals::X.fs:=λb hb=>by
 rcases I.ok.stk with e | ⟨e,hf⟩
 ·rw[e]at hb;exact List.mem_cons_of_mem _ hb
 ·rw[e]at hb;unfold frs at hb;rw[List.filterMap_cons,hf]at hb;exact hb
def Inv.XR(I:Inv X pins σ H s):∀b∈frs X.stack,H b=none:=λb hb=>by
 rcases List.mem_cons.mp (I.JS b hb)with e | hb
 ·rw[e];exact I.free
 ·obtain⟨_,o,ho,_⟩:=I.ok.Bf.mem hb;exact I.base.free b o ho (I.ok.frf b hb) λz=>I.ok.Zhn b z hb
def Inv.step{g':Array GenState}{t':Nat}{d':Drawn}{ch:List Addr}(I:Inv X pins σ H s)
  (hch:∀b∈ch,(b∈X.ex\/X.s₀.heap.objs.size<=b)/\b≠X.env.locals/\(∀x c,X.env.cells.lookup x=some c->c≠b)/\∀p∈X.pn++pins,p.1≠b)
  (keep:∀b o,b≠X.env.locals->b∉X.fs->b∉ch->s.heap.get? b=some o->H b=none->h'.get? b=some o)
  (slot:∀b o,b≠X.env.locals->b∈X.fs->b∉ch->s.heap.get? b=some o->H b=none->∃sl,h'.get? b=some { o with slots:=sl }) (free:∀b o,b∉ch->s.heap.get? b=some o->H b=none->H' b=none)
  (there:∀b o,b∉ch->s.heap.get? b=some o->∃o',h'.get? b=some o')
  (tups:∀b xs,H b=some (.tup xs)->H' b=some (.tup xs)) (Ma:∀b o u,H b=some (.zp o u)->H' b=some (.zp o u)) (Od:∀b ps,H b=some (.Qj ps)->∃more,H' b=some (.Qj (ps++more)))
  (ns:∀m,s.heap.Ns X.env.locals m->h'.Ns X.env.locals m) (hok:Ei X.prog X.w H' h') (hg:AllBare g'):
  Inv X pins σ H' { s with heap:=h',gens:=g',drawn:=d',toks:=t' }:=by
 have neL:∀b o,X.s₀.heap.get? b=some o->b≠X.env.locals:=λb o e=>Nat.ne_of_lt (Nat.lt_of_lt_of_le (Heap.lt_size e) I.ok.above);have neC:∀b o,X.s₀.heap.get? b=some o->b∉X.ex->b∉ch:=λb o e hx hb=>by
  rcases(hch b hb).1 with z | z
  ·exact hx z
  ·exact absurd (Nat.lt_of_lt_of_le (Heap.lt_size e) z) (Nat.lt_irrefl _)
 have cellK:∀x c,X.env.cells.lookup x=some c->∀v,s.heap.IsCell c v->h'.IsCell c v:=λx c e v ⟨o,ho,hd⟩=>by
  have nch:c∉ch:=λz=>(hch c z).2.2.1 x c e rfl
  by_cases hc:c∈X.fs
  ·obtain⟨sl,q⟩:=slot c o (I.cne x c e) hc nch ho (I.vh x c e);exact⟨_,q,hd⟩
  ·exact⟨o,keep c o (I.cne x c e) hc nch ho (I.vh x c e),hd⟩
 refine⟨I.ok,I.os,hg,⟨λb o e n hb hx=>?_,λb o e n hb hx=>?_,λb o e n hx=>?_,λb o e hx=>?_,λb xs e=>tups b xs (I.base.tups b xs e),λb o xs e=>Ma b o xs (I.base.Ma b o xs e),λb ps e=>?_⟩,?_,λx c e=>?_,?_,λx c e=>?_,λp hp=>?_,hok,I.len⟩
 ·exact keep b o (neL b o e) hb (neC b o e hx) (I.base.keep b o e n hb hx) (I.base.free b o e n hx)
 ·obtain⟨sl,e1⟩:=I.base.slot b o e n hb hx;obtain⟨sl',e2⟩:=slot b _ (neL b o e) hb (neC b o e hx) e1 (I.base.free b o e n hx);exact⟨sl',e2⟩
 ·obtain⟨o',e1⟩:=I.base.there b o e hx;exact free b o' (neC b o e hx) e1 (I.base.free b o e n hx)
 ·obtain⟨o',e1⟩:=I.base.there b o e hx;exact there b o' (neC b o e hx) e1
 ·obtain⟨m1,e1⟩:=I.base.Od b ps e;obtain⟨m2,e2⟩:=Od b _ e1;exact⟨m1++m2,by rw[e2,Array.append_assoc]⟩
 ·obtain⟨m,hn,hl⟩:=I.loc;refine⟨m,ns m hn,λi x v e1 e2 e3=>?_⟩;obtain⟨u,r,l⟩:=hl i x v e1 e2 e3;refine⟨u,r,?_⟩;rcases l with l | ⟨k,c,e,z⟩
  ·exact .inl l
  ·exact .inr ⟨k,c,e,cellK x c e _ z⟩
 ·obtain⟨v,z⟩:=I.cell x c e;exact⟨v,cellK x c e v z⟩
 ·obtain⟨m,⟨o,_,_,ho,_⟩,_⟩:=I.loc;exact free _ o (λz=>(hch _ z).2.1 rfl) ho I.free
 ·obtain⟨v,o,ho,hd⟩:=I.cell x c e;exact free c o (λz=>(hch c z).2.2.1 x c e rfl) ho (I.vh x c e)
 ·obtain⟨e,n,ne,nf,d⟩:=I.pin p hp;have nch:p.1∉ch:=λz=>(hch p.1 z).2.2.2 p hp rfl;exact⟨keep p.1 p.2 ne nf nch e n,free p.1 p.2 nch e n,ne,nf,d⟩
def Inv.un{t':Nat}(I:Inv X pins σ H s)(u:Un X.fs [] H H' s.heap h')(hok:Ei X.prog X.w H' h'):Inv X pins σ H' { s with heap:=h',toks:=t' }:=by
 obtain⟨m,⟨o,es,ep,ho,r⟩,_⟩:=id I.loc;obtain⟨sl,hL⟩:=u.any ho I.free (by simp);exact I.step (g':=s.gens) (d':=s.drawn) (ch:=[]) (λ_ z=>nomatch z) (λb o _ hb _ e n=>u.keep b o e n hb (by simp)) (λb o _ hb _ e n=>u.slot b o e n hb (by simp)) (λb o _ e n=>u.free b o e n (by simp)) (λb o _ e=>u.there b o e (by simp)) u.tups u.Ma u.Od (λm' hm=>by
  obtain⟨o',es',ep',ho',r'⟩:=hm;rw[ho]at ho';cases ho';exact⟨_,es',ep',hL,r'⟩) hok I.bare
def Inv.call{g':Array GenState}{t':Nat}{d':Drawn}{ch:List Addr}(I:Inv X pins σ H s)(u:Un (frs X.stack) ch H H' s.heap h')(hok:Ei X.prog X.w H' h')(hg:AllBare g')
  (hch:∀b∈ch,(b∈X.ex\/X.s₀.heap.objs.size<=b)/\b≠X.env.locals/\(∀x c,X.env.cells.lookup x=some c->c≠b)/\∀p∈X.pn++pins,p.1≠b):
  Inv X pins σ H' { s with heap:=h',gens:=g',drawn:=d',toks:=t' }:=by
 obtain⟨m,⟨o,es,ep,ho,r⟩,_⟩:=id I.loc;obtain⟨sl,hL⟩:=u.any ho I.free λz=>(hch _ z).2.1 rfl;exact I.step (ch:=ch) hch (λb o hL hb hc e n=>u.keep b o e n (λz=>(List.mem_cons.mp (I.JS b z)).elim hL hb) hc) (λb o _ _ hc e n=>u.any e n hc) (λb o hc e n=>u.free b o e n hc) (λb o hc e=>u.there b o e hc) u.tups u.Ma u.Od (λm' hm=>by
  obtain⟨o',es',ep',ho',r'⟩:=hm;rw[ho]at ho';cases ho';exact⟨_,es',ep',hL,r'⟩) hok hg
def Inv.turned{t':Nat}{it:Addr}(I:Inv X pins σ H s)(k:∀b o,b≠it->s.heap.get? b=some o->h'.get? b=some o)(hn:H it=none)(hL:it≠X.env.locals)
  (h1:it∈X.ex\/X.s₀.heap.objs.size<=it) (h2:∀x c,X.env.cells.lookup x=some c->c≠it) (h3:∀p∈X.pn++pins,p.1≠it):Inv X pins σ H { s with heap:=h',toks:=t' }:=by
 have nit:∀b u,H b=some u->b≠it:=λb u e z=>by rw[z,hn]at e;cases e
 refine I.step (g':=s.gens) (d':=s.drawn) (ch:=[it]) (λb hb=>?_) (λb o _ _ hc e _=>k b o (λz=>hc (by simp[z])) e) (λb o _ _ hc e _=>⟨o.slots,k b o (λz=>hc (by simp[z])) e⟩) (λ_ _ _ _ n=>n)
  (λb o hc e=>⟨o,k b o (λz=>hc (by simp[z])) e⟩) (λ_ _ e=>e) (λ_ _ _ e=>e) (λb ps e=>⟨#[],by rw[e];simp⟩) (λm hm=>?_) (λb u e=>?_) I.bare
 ·have e:b=it:=by simpa using hb
  subst e;exact⟨h1,hL,h2,h3⟩
 ·obtain⟨o,es,ep,ho,r⟩:=hm;exact⟨o,es,ep,k _ o (Ne.symm hL) ho,r⟩
 ·refine(I.hok b u e).stay (λc v hc q=>k c v ?_ q) (λ_ q=>q) λ_ _ q=>q;rcases hc with z | z
  ·rw[z];exact nit b u e
  ·exact nit c _ z
def Inv.tok(I:Inv X pins σ H s)(t:Nat):Inv X pins σ H { s with toks:=t }:=I.un (h':=s.heap) (t':=t) Un.refl I.hok
def Inv.kept{t':Nat}(I:Inv X pins σ H s)(k:∀b u,s.heap.get? b=some u->h'.get? b=some u):Inv X pins σ H { s with heap:=h',toks:=t' }:=I.un (Un.kept k) (I.hok.kept k)
def Inv.laid{a:Addr}{o:HO}{t':Nat}(I:Inv X pins σ H s)(k:∀b u,s.heap.get? b=some u->h'.get? b=some u)(hp:s.heap.objs.size<=a)(new:kE X.prog X.w (upd H a o) h' a o):
  Inv X pins σ (upd H a o) { s with heap:=h',toks:=t' }:=I.un (Un.laid k hp (I.hok.fresh hp)) (I.hok.laid k hp new)
def Inv.write{x e:Addr}{o:HO}{t':Nat}(I:Inv X pins σ H s)(mu:Mut (H x))(he:e=x\/H e=some (.own x))(k:∀b u,b≠e->s.heap.get? b=some u->h'.get? b=some u)(heo:∃u,h'.get? e=some u)
  (new:kE X.prog X.w (upd H x o) h' x o):Inv X pins σ (upd H x o) { s with heap:=h',toks:=t' }:=I.un (Un.write mu he k heo) (I.hok.write mu he k heo new)
def Inv.HR{Ztn:List (Addr×Obj)}(I:Inv X pins σ H s)(h:∀p∈Ztn,s.heap.get? p.1=some p.2/\H p.1=none/\p.1≠X.env.locals/\p.1∉X.fs/\∀v,p.2.data≠.cell v):Inv X Ztn σ H s:=
 ⟨I.ok,I.os,I.bare,I.base,I.loc,I.cell,I.free,I.vh,λp hp=>(List.mem_append.mp hp).elim (λz=>I.pin p (List.mem_append_left _ z)) (h p),I.hok,I.len⟩
def Zcn{N:List Str}(hN:N.Nodup){i j:Nat}{x:Str}(a:N[i]? =some x)(b:N[j]? =some x):i=j:=by
 obtain⟨h1,e1⟩:=dY a;obtain⟨h2,e2⟩:=dY b;exact(List.getElem_inj hN).mp (e1.trans e2.symm)
def Zjm{M:Model}{A:Around}{E:Value->Shared->Prop}{i:Nat}{x:Str}{v:V}{u:Value}{Q:Unit->Shared->Prop}(I:Inv X pins σ H s)(hN:X.N.Nodup)(hi:X.N[i]? =some x)(hx:Loc X.env.scope x)(r:RelV v u)
  (h:∀s',Inv X pins (σ.set i (some v)) H s'->(∃a,Heap.SameBut a s.heap s'.heap/\(a=X.env.locals\/X.env.cells.lookup x=some a))->Q () s') (hf:X.fn x=true\/X.env.scope.names.lookup x=some .local:=by first | exact .inl rfl | exact .inr rfl | assumption):wpAny M A (storeName X.env x u) Q E s:=by
 obtain⟨m,hn,hl⟩:=id I.loc;have hcls:(X.env.scope.kind == .class || (X.env.scope.kind == .module && X.env.locals != X.env.globals))=false:=by rw[I.ok.kind];rfl
 have hiσ:i < σ.length:=by rw[I.len];exact(dY hi).1
 have cne:=I.cne;have tracked:∀{a:Addr}{h':Heap},(∃o,s.heap.get? a=some o/\H a=none)->Heap.SameBut a s.heap h'->Ei X.prog X.w H h':=λ{a h'} ha hs b ob e=>by
  obtain⟨_,_,hfree⟩:=ha;refine(I.hok b ob e).stay (λc w' hc q=>(hs.2 c ?_).trans q) (λ_ q=>q) λ_ _ q=>q;rintro rfl;rcases hc with rfl | hc
  ·rw[hfree]at e;cases e
  ·rw[hfree]at hc;cases hc
 rcases hx with hk | hk
 ·refine wpAny_storeName_local hk hn (λh' hn' hs=>?_) hcls;obtain⟨oL,_,_,hoL,_⟩:=id hn;refine h _ ⟨I.ok,I.os,I.bare,⟨λb o e n hb hx=>?_,λb o e n hb hx=>?_,I.base.free,λb o e hx=>?_,I.base.tups,I.base.Ma,I.base.Od⟩,⟨_,hn',λj y v' e1 e2 e3=>?_⟩,λy c e=>?_,I.free,I.vh,λp hp=>?_,tracked ⟨oL,hoL,I.free⟩ hs,by simpa using I.len⟩ ⟨_,hs,.inl rfl⟩
  ·exact(hs.2 b (Nat.ne_of_lt (Nat.lt_of_lt_of_le (Heap.lt_size e) I.ok.above))).trans (I.base.keep b o e n hb hx)
  ·obtain⟨sl,e1⟩:=I.base.slot b o e n hb hx;exact⟨sl,(hs.2 b (Nat.ne_of_lt (Nat.lt_of_lt_of_le (Heap.lt_size e) I.ok.above))).trans e1⟩
  ·obtain⟨o',e1⟩:=I.base.there b o e hx;exact⟨o',(hs.2 b (Nat.ne_of_lt (Nat.lt_of_lt_of_le (Heap.lt_size e) I.ok.above))).trans e1⟩
  ·by_cases hj:j=i
   ·subst hj;rw[hi]at e1;cases e1;rw[List.getElem?_set_self hiσ]at e2;cases e2;exact⟨u,r,.inl ⟨hk,by simp⟩⟩
   ·rw[List.getElem?_set_ne (Ne.symm hj)]at e2;obtain⟨u',r',q⟩:=hl j y v' e1 e2 e3;refine⟨u',r',?_⟩;rcases q with ⟨k,e⟩ | ⟨k,c,e,z⟩
    ·refine .inl ⟨k,?_⟩;have:y≠x:=λe=>hj (Zcn hN e1 (e ▸ hi));simp[this,e]
    ·exact .inr ⟨k,c,e,z.sameBut hs (cne y c e)⟩
  ·obtain⟨w',z⟩:=I.cell y c e;exact⟨w',z.sameBut hs (cne y c e)⟩
  ·obtain⟨e,n,ne,nf,d⟩:=I.pin p hp;exact⟨(hs.2 p.1 ne).trans e,n,ne,nf,d⟩
 ·have hfn:X.fn x=true:=by
   rcases hf with z | z
   ·exact z
   ·rw[z]at hk;cases hk
  obtain⟨c,hc⟩:=I.ok.has x (.inl hk);obtain⟨w',z⟩:=I.cell x c hc;refine wpAny_storeName_cell I.ok.kind hk hc z (λh' hc' hs=>?_);obtain⟨oc,hoc,ZA5⟩:=id z;refine h { s with heap:=h' } ⟨I.ok,I.os,I.bare,⟨λb o e n hb hx=>?_,λb o e n hb hx=>?_,I.base.free,λb o e hx=>?_,I.base.tups,I.base.Ma,I.base.Od⟩,⟨m,hn.sameBut hs (Ne.symm (cne x c hc)),λj y v' e1 e2 e3=>?_⟩,λy c' e=>?_,I.free,I.vh,λp hp=>?_,tracked ⟨oc,hoc,I.vh x c hc⟩ hs,by simpa using I.len⟩ ⟨c,hs,.inr hc⟩
  ·exact(hs.2 b (Nat.ne_of_lt (Nat.lt_of_lt_of_le (Heap.lt_size e) (I.ok.cab x c hfn hc)))).trans (I.base.keep b o e n hb hx)
  ·obtain⟨sl,e1⟩:=I.base.slot b o e n hb hx;exact⟨sl,(hs.2 b (Nat.ne_of_lt (Nat.lt_of_lt_of_le (Heap.lt_size e) (I.ok.cab x c hfn hc)))).trans e1⟩
  ·obtain⟨o',e1⟩:=I.base.there b o e hx;exact⟨o',(hs.2 b (Nat.ne_of_lt (Nat.lt_of_lt_of_le (Heap.lt_size e) (I.ok.cab x c hfn hc)))).trans e1⟩
  ·by_cases hj:j=i
   ·subst hj;rw[hi]at e1;cases e1;rw[List.getElem?_set_self hiσ]at e2;cases e2;exact⟨u,r,.inr ⟨.inl hk,c,hc,hc'⟩⟩
   ·rw[List.getElem?_set_ne (Ne.symm hj)]at e2;obtain⟨u',r',q⟩:=hl j y v' e1 e2 e3;refine⟨u',r',?_⟩;rcases q with q | ⟨k,c',e,z'⟩
    ·exact .inl q
    ·refine .inr ⟨k,c',e,z'.sameBut hs ?_⟩;rintro rfl;exact hj (Zcn hN e1 (I.ok.inj _ _ _ e hc ▸ hi))
  ·by_cases hcc:c'=c
   ·subst hcc;exact⟨_,hc'⟩
   ·obtain⟨w2,z2⟩:=I.cell y c' e;exact⟨w2,z2.sameBut hs hcc⟩
  ·obtain⟨e,n,ne,nf,d⟩:=I.pin p hp;refine⟨(hs.2 p.1 ?_).trans e,n,ne,nf,d⟩;intro q;rw[q,hoc]at e;have q':oc=p.2:=Option.some.inj e;exact d w' (by rw[<- q'];exact ZA5)
def Qn{M:Model}{A:Around}{E:Value->Shared->Prop}{i:Nat}{x:Str}{v:V}{u:Value}{Q:Unit->Shared->Prop}(I:Inv X pins σ H s)(hN:X.N.Nodup)(hi:X.N[i]? =some x)(hx:Loc X.env.scope x)(r:RelV v u)
  (h:∀s',Inv X pins (σ.set i (some v)) H s'->Q () s') (hf:X.fn x=true\/X.env.scope.names.lookup x=some .local:=by first | exact .inl rfl | exact .inr rfl | assumption):wpAny M A (storeName X.env x u) Q E s:=
 Zjm I hN hi hx r (λs' I' _=>h s' I') hf
def Inv.call'{s':Shared}{ch:List Addr}(I:Inv X pins σ H s)(ho:s'.os=s.os)(u:Un (frs X.stack) ch H H' s.heap s'.heap)(hok:Ei X.prog X.w H' s'.heap)(hg:AllBare s'.gens)
  (hch:∀b∈ch,(b∈X.ex\/X.s₀.heap.objs.size<=b)/\b≠X.env.locals/\(∀x c,X.env.cells.lookup x=some c->c≠b)/\∀p∈X.pn++pins,p.1≠b):Inv X pins σ H' s':=by
 obtain⟨h',g',d',t',o'⟩:=s';have e:o'=s.os:=ho;subst e;exact I.call (g':=g') (t':=t') (d':=d') u hok hg hch
end
abbrev XK:=Value->Option Addr->Hp->Prop
abbrev St:=List (Option V)
abbrev VK:=V->Hp->Prop
abbrev TE:=St->Hp->VK->Prop
abbrev TT:=St->Hp->(Bool->Hp->Prop)->Prop
abbrev TA:=St->Hp->(List V->Hp->Prop)->Prop
structure Ends where
 nx:St->Hp->Prop
 rt:VK
 bk:St->Hp->Prop:=λ_ _=>False
 ct:St->Hp->Prop:=λ_ _=>False
abbrev TS:=Ends->St->Hp->Prop
def EP(X:Cx)(pins:List (Addr×Obj))(σ:St)(Q:VK)(u:Value)(s':Shared):Prop:=∃v H',Inv X pins σ H' s'/\RelV v u/\Q v H'
def TP(X:Cx)(pins:List (Addr×Obj))(σ:St)(Q:Bool->Hp->Prop)(b:Bool)(s':Shared):Prop:=∃H',Inv X pins σ H' s'/\Q b H'
def AP(X:Cx)(pins:List (Addr×Obj))(σ:St)(Q:List V->Hp->Prop)(us:List Value)(s':Shared):Prop:=∃vs H',Inv X pins σ H' s'/\Vals vs us/\Q vs H'
def SP(X:Cx)(pins:List (Addr×Obj))(D:Ends)(f:Flow)(s':Shared):Prop:=
 match f with
 | .next=>∃ σ' H',Inv X pins σ' H' s'/\D.nx σ' H'
 | .brk=>∃ σ' H',Inv X pins σ' H' s'/\D.bk σ' H'
 | .cont=>∃ σ' H',Inv X pins σ' H' s'/\D.ct σ' H'
 | .ret u=>∃v σ' H',Inv X pins σ' H' s'/\RelV v u/\D.rt v H'
def PE(X:Cx)(e:Expr)(t:TE):Prop:=
 ∀(pins:List (Addr×Obj)) (s:Shared) (σ:St) (H:Hp) (Q:VK),Inv X pins σ H s->t σ H Q->wpAny (model X.prog X.w) X.A (eval e X.env) (EP X pins σ Q) X.xe s
def PT(X:Cx)(e:Expr)(t:TT):Prop:=
 ∀(pins:List (Addr×Obj)) (s:Shared) (σ:St) (H:Hp) (Q:Bool->Hp->Prop),Inv X pins σ H s->t σ H Q->wpAny (model X.prog X.w) X.A (isTrue e X.env (eval e X.env)) (TP X pins σ Q) X.xe s
def PW(X:Cx)(e:Expr)(t:TT):Prop:=
 ∀(whole:Sem Value) (pins:List (Addr×Obj)) (s:Shared) (σ:St) (H:Hp) (Q:Bool->Hp->Prop),Inv X pins σ H s->t σ H Q->wpAny (model X.prog X.w) X.A (isTrue e X.env whole) (TP X pins σ Q) X.xe s
def PW.pt{X:Cx}{e:Expr}{t:TT}(h:PW X e t):PT X e t:=h _
def PA(X:Cx)(es:List Expr)(t:TA):Prop:=
 ∀(pos:Pos) (pins:List (Addr×Obj)) (s:Shared) (σ:St) (H:Hp) (Q:List V->Hp->Prop),Inv X pins σ H s->t σ H Q->wpAny (model X.prog X.w) X.A (spliced (backTo pos (starEach es X.env))) (AP X pins σ Q) X.xe s
def PS(X:Cx)(st:Stmt)(t:TS):Prop:=
 ∀(pins:List (Addr×Obj)) (s:Shared) (σ:St) (H:Hp) (D:Ends),Inv X pins σ H s->t D σ H->wpAny (model X.prog X.w) X.A (exec st X.env) (SP X pins D) X.xe s
def PSs(X:Cx)(st:List Stmt)(t:TS):Prop:=
 ∀(pins:List (Addr×Obj)) (s:Shared) (σ:St) (H:Hp) (D:Ends),Inv X pins σ H s->t D σ H->wpAny (model X.prog X.w) X.A (execs st X.env) (SP X pins D) X.xe s
def jV{α:Type}{t:Sem α}{Q Q':α->Shared->Prop}{M:Model}{A:Around}{E:Value->Shared->Prop}{s:Shared}(h:wpAny M A t Q E s)(hQ:∀a s,Q a s->Q' a s):wpAny M A t Q' E s:=wpAny_mono h hQ λ_ _ x=>x
end L2
namespace L2
open PySem PySem.Spec PyProof.Rows
section
variable {X:Cx}
def ak(i:Nat):TE:=λσ H Q=>∃v,σ[i]? =some (some v)/\Q v H
def tC(v:V):TE:=λ_ H Q=>Q v H
def Zn0{i:Nat}{x:Str}{pos:Pos}(hN:X.N[i]? =some x)(hv:Vis X.env.scope x)(hd:(x == ("__debug__":Str))=false:=by decide)(hcd:(x == ("__classdict__":Str))=false:=by decide):PE X (.Name x pos) (ak i):=by
 intro pins s σ H Q I h;obtain⟨v,e,h⟩:=h;obtain⟨m,hn,hl⟩:=I.loc;obtain⟨u,r,l⟩:=hl i x v hN e hv;have fin:EP X pins σ Q u s:=⟨v,H,I,r,h⟩;rcases l with ⟨hk,hm⟩ | ⟨hk,c,hc,hcell⟩
 ·exact wpAny_Name (wpAny_loadName_local I.ok.kind hk hn hm fin) hd
 ·rcases hk with hk | hk
  ·exact wpAny_Name (wpAny_loadName_cell I.ok.kind hk hc hcell fin) hd
  ·exact wpAny_Name (wpAny_loadName_free I.ok.kind hk hc hcell fin hcd) hd
def az{i j pos}:PE X (.Constant (.int i) j pos) (tC (.int i)):=λ_ _ _ H _ I h=>wpAny_Constant_int ⟨.int i,H,I.tok _,⟨_,rfl⟩,h⟩
def tD{b j pos}:PE X (.Constant (.bool b) j pos) (tC (.bl b)):=λ_ _ _ H _ I h=>Constant_bool ⟨.bl b,H,I,rfl,h⟩
def fY{j pos}:PE X (.Constant .none j pos) (tC .non):=λ_ _ _ H _ I h=>Constant_none ⟨.non,H,I,rfl,h⟩
def bH{x j pos}:PE X (.Constant (.str x) j pos) (tC (.str x)):=λ_ _ _ H _ I h=>Calls.Constant_str ⟨.str x,H,I.tok _,⟨_,rfl⟩,h⟩
def Gl(X:Cx)(x:Str):Prop:=X.env.kindOf x=some .globalImplicit
def uA{E:Value->Shared->Prop}{pins:List (Addr×Obj)}{s:Shared}{σ:St}{H:Hp}{x:Str}{u:Value}{pos:Pos}{Q:Value->Shared->Prop}(I:Inv X pins σ H s)(hg:Gl X x)(hm:X.mg x=some u)(h:Q u s)
  (hd:(x == ("__debug__":Str))=false:=by decide):wpAny (model X.prog X.w) X.A (eval (.Name x pos) X.env) Q E s:=
 Calls.Name_function_global I.ok.kind hg (Calls.loadGlobal_global (by rw[I.ok.glob];exact I.mod.glob.keeps I.bk) hm h) hd
def RK{E:Value->Shared->Prop}{pins:List (Addr×Obj)}{s:Shared}{σ:St}{H:Hp}{x:Str}{u:Value}{pos:Pos}{Q:Value->Shared->Prop}(I:Inv X pins σ H s)(hg:Gl X x)(hm:X.mg x=none)(hv:bootBuiltins x=some u)(h:Q u s)
  (hn:x≠"__name__":=by decide) (hd:(x == ("__debug__":Str))=false:=by decide):wpAny (model X.prog X.w) X.A (eval (.Name x pos) X.env) Q E s:=by
 obtain⟨mb,h1,h2⟩:=I.mod.blt;exact Calls.Name_function_global I.ok.kind hg (Calls.loadGlobal_builtin (by rw[I.ok.glob];exact I.mod.glob.keeps I.bk) hm (by rw[I.ok.blt];exact h1.keeps I.bk) ((h2 x hn).trans hv) h) hd
def Zr9{x:Str}{v:V}{u:Value}{pos:Pos}(hg:Gl X x)(hm:X.mg x=some u)(r:RelV v u)(hd:(x == ("__debug__":Str))=false:=by decide):PE X (.Name x pos) (tC v):=
 λ_ _ _ H _ I h=>uA I hg hm ⟨v,H,I,r,h⟩ hd
def Am{x:Str}{v:V}{u:Value}{pos:Pos}(hg:Gl X x)(hm:X.mg x=none)(hv:bootBuiltins x=some u)(r:RelV v u)(hn:x≠"__name__":=by decide)(hd:(x == ("__debug__":Str))=false:=by decide):PE X (.Name x pos) (tC v):=
 λ_ _ _ H _ I h=>RK I hg hm hv ⟨v,H,I,r,h⟩ hn hd
variable {a b:Expr}{ta tb:TE}{pos:Pos}
def PC(X:Cx)(op:CmpOp)(a b:Expr)(t:TE):Prop:=
 ∀(pins:List (Addr×Obj)) (s:Shared) (σ:St) (H:Hp) (Q:VK),Inv X pins σ H s->t σ H Q->
  wpAny (model X.prog X.w) X.A (eval a X.env) (λv s₁=>wpAny (model X.prog X.w) X.A (eval b X.env) (λu s₂=>wpAny (model X.prog X.w) X.A (compareOp op v u) (EP X pins σ Q) X.xe s₂) X.xe s₁) X.xe s
def Znj(b:Expr){op:CmpOp}(h:op≠.In)(h2:op≠.NotIn):behindInMarks op b=false:=by
 have e1:(op == CmpOp.In)=false:=by cases op<;>first | rfl | exact absurd rfl h
 have e2:(op == CmpOp.NotIn)=false:=by cases op<;>first | rfl | exact absurd rfl h2
 cases b<;>simp[behindInMarks,e1,e2]
def tB(t:TE):TT:=λσ H Q=>t σ H λx H1=>∃c,x=.bl c/\Q c H1
def Zms{op:CmpOp}{t:TE}(h:PC X op a b t)(h1:behindInMarks op b=false:=by first | exact Znj _ (by decide) (by decide) | rfl):PT X (.Compare a [op] [b] pos) (tB t):=by
 intro pins s σ H Q I hw;refine wpAny_isTrue_Compare1 (jV (h pins s σ H _ I hw) λv s1 h1=>jV h1 λu s2 h2=>jV h2 λc s3 ⟨x,H1,I1,r1,q1⟩=>?_) h1;obtain⟨d,rfl,q⟩:=q1;cases r1;exact wpAny_truthy_bool ⟨H1,I1,q⟩
def jr{e:Expr}{t:TE}(h:PE X e t)(he:∀whole,isTrue e X.env whole=(do let v <- whole;standAt e.pos;holding [v] (truthy v)):=by intro _;rfl):PT X e (tB t):=by
 intro pins s σ H Q I hw;refine isTrue_plain (jV (h pins s σ H _ I hw) λv s1 ⟨x,H1,I1,r1,q1⟩=>?_) (he _);obtain⟨d,rfl,q⟩:=q1;cases r1;exact wpAny_truthy_bool ⟨H1,I1,q⟩
variable {tA tB':TT}{rest:List Expr}
def Zbh(t u:TT):TT:=λσ H Q=>t σ H λc H1=>if c=true then u σ H1 Q else Q false H1
def XJ(t u:TT):TT:=λσ H Q=>t σ H λc H1=>if c=true then Q true H1 else u σ H1 Q
def zq(t:TT):TT:=λσ H Q=>t σ H λc H1=>Q (!c) H1
def Pb(ha:PT X a tA):PW X (.BoolOp .And [a] pos) tA:=by
 intro wh pins s σ H Q I h;refine isTrue_and (jV (ha pins s σ H Q I h) λc s1 e=>?_);cases c with
 | true=>exact isTrue_and_nil e
 | false=>exact e
def qu(ha:PT X a tA):PW X (.BoolOp .Or [a] pos) tA:=by
 intro wh pins s σ H Q I h;refine isTrue_or (jV (ha pins s σ H Q I h) λc s1 e=>?_);cases c with
 | false=>exact isTrue_or_nil e
 | true=>exact e
def QX(ha:PT X a tA)(hb:PW X (.BoolOp .And (b::rest) pos) tB'):PW X (.BoolOp .And (a::b::rest) pos) (Zbh tA tB'):=by
 intro wh pins s σ H Q I h;refine isTrue_and (jV (ha pins s σ H _ I h) λc s1 ⟨H1,I1,q1⟩=>?_);cases c with
 | true=>exact hb wh pins s1 σ H1 Q I1 q1
 | false=>exact⟨H1,I1,q1⟩
def sY(ha:PT X a tA)(hb:PW X (.BoolOp .Or (b::rest) pos) tB'):PW X (.BoolOp .Or (a::b::rest) pos) (XJ tA tB'):=by
 intro wh pins s σ H Q I h;refine isTrue_or (jV (ha pins s σ H _ I h) λc s1 ⟨H1,I1,q1⟩=>?_);cases c with
 | true=>exact⟨H1,I1,q1⟩
 | false=>exact hb wh pins s1 σ H1 Q I1 q1
def nT(ha:PT X a tA):PT X (.UnaryOp .Not a pos) (zq tA):=by
 intro pins s σ H Q I h;exact isTrue_not (ha pins s σ H (λc H1=>Q (!c) H1) I h)
def Zie(ta tb:TE):TE:=λσ H Q=>ta σ H λx H1=>∃c,x=.bl c/\if c=true then tb σ H1 Q else Q (.bl false) H1
def Zid(ta:TE):TE:=λσ H Q=>ta σ H λx H1=>∃c,x=.bl c/\Q (.bl (!c)) H1
def Zn2{op}{t:TE}(h:PE X a t):PE X (.BoolOp op [a] pos) t:=λpins s σ H Q I hw=>BoolOp_one (h pins s σ H Q I hw)
def Zn9(ha:PE X a ta)(hb:PE X (.BoolOp .And (b::rest) pos) tb):PE X (.BoolOp .And (a::b::rest) pos) (Zie ta tb):=by
 intro pins s σ H Q I h;refine BoolOp_and (jV (ha pins s σ H _ I h) λv s1 ⟨x,H1,I1,r1,q1⟩=>?_);obtain⟨c,rfl,q1⟩:=q1;cases r1;refine wpAny_truthy_bool ?_;cases c with
 | true=>exact hb pins s1 σ H1 Q I1 q1
 | false=>exact⟨.bl false,H1,I1,rfl,q1⟩
def Zn3(ha:PE X a ta):PE X (.UnaryOp .Not a pos) (Zid ta):=by
 intro pins s σ H Q I h;refine UnaryOp_ (jV (ha pins s σ H _ I h) λv s1 ⟨x,H1,I1,r1,q1⟩=>?_);obtain⟨c,rfl,q1⟩:=q1;cases r1;exact not_of (wpAny_truthy_bool ⟨.bl (!c),H1,I1,rfl,q1⟩)
def tIf(t:TT)(ta tb:TE):TE:=λσ H Q=>t σ H λc H1=>if c=true then ta σ H1 Q else tb σ H1 Q
def Zby{c:Expr}(hc:PT X c tA)(ha:PE X a ta)(hb:PE X b tb):PE X (.IfExp c a b pos) (tIf tA ta tb):=by
 intro pins s σ H Q I h;refine wpAny_IfExp (jV (hc pins s σ H _ I h) λd s1 ⟨H1,I1,q1⟩=>?_);cases d with
 | true=>exact ha pins s1 σ H1 Q I1 q1
 | false=>exact hb pins s1 σ H1 Q I1 q1
end
end L2
namespace L2
open PySem PySem.Spec PyProof.Rows
def cL(K:aB)(H:Hp)(a:Addr)(xs:List V):Prop:=
 Rd H a (.lst xs)\/
  ∃(o:Obj) (its:Array Value) (n:Nat),K.lookup a=some o/\o.cls=.type "list"/\o.dict=none/\o.data=.seq its n/\its.size<=sizeLine/\Vals xs its.toList
def gZ(K:aB)(H:Hp)(a:Addr)(xs:List V):Prop:=
 Rd H a (.tup xs)\/
  ∃(o:Obj) (its:Array Value) (n:Nat),K.lookup a=some o/\o.cls=.type "tuple"/\o.data=.seq its n/\its.size<=sizeLine/\Vals xs its.toList
def ZHn:Value->Option V
 | .none=>some .non
 | .bool b=>some (.bl b)
 | .int i _=>some (.int i)
 | .str x _=>some (.str x)
 | .bytes b _=>some (.byt b)
 | .float b _=>some (.flt b)
 | .ref a=>some (.ref a)
 | .type n=>some (.ty n)
 | _=>none
def RelV.abs{x:V}{u:Value}(r:RelV x u):ZHn u=some x:=by
 cases x with
 | non=>cases r;rfl
 | bl _=>cases r;rfl
 | int _=>obtain⟨t,rfl⟩:=r;rfl
 | str _=>obtain⟨t,rfl⟩:=r;rfl
 | byt _=>obtain⟨t,rfl⟩:=r;rfl
 | flt _=>obtain⟨t,rfl⟩:=r;rfl
 | ref _=>cases r;rfl
 | ty _=>cases r;rfl
def RelV.inj{x y:V}{u:Value}(r:RelV x u)(q:RelV y u):x=y:=Option.some.inj (r.abs.symm.trans q.abs)
def Vals.inj:∀{xs ys:List V}{us:List Value},Vals xs us->Vals ys us->xs=ys
 | _,_,_,.nil,.nil=>rfl
 | _,_,_,.cons r t,.cons r' t'=>by rw[r.inj r',Vals.inj t t']
section
variable {X:Cx}{pins:List (Addr×Obj)}{σ:St}{H:Hp}{s:Shared}{a:Addr}{xs ys:List V}
def cL.of{K:aB}(h:H a=some (.lst xs)):cL K H a xs:=.inl (.inl h)
def gZ.of{K:aB}(h:H a=some (.tup xs)):gZ K H a xs:=.inl (.inl h)
def Inv.list(I:Inv X pins σ H s)(h:cL X.K H a xs):∃its:List Value,Vals xs its/\PlainL s.heap a its.toArray/\xs.length<=sizeLine:=by
 rcases h with h | ⟨o,its,n,hk,hc,hd,hs,hz,r⟩
 ·obtain⟨z,its,n,r,e⟩:=h.ok I.hok;exact⟨its,r,⟨_,n,e,rfl,rfl,rfl⟩,z⟩
 ·refine⟨its.toList,r,⟨o,n,I.DR a o hk,hc,hd,by simpa using hs⟩,?_⟩;have e:=r.length;simp only[Array.length_toList]at e;omega
def Inv.tuple(I:Inv X pins σ H s)(h:gZ X.K H a xs):∃its:List Value,Vals xs its/\IsTup s.heap a its.toArray/\xs.length<=sizeLine:=by
 rcases h with h | ⟨o,its,n,hk,hc,hs,hz,r⟩
 ·obtain⟨z,its,r,p⟩:=h.ok I.hok;exact⟨its,r,p,z⟩
 ·refine⟨its.toList,r,⟨o,I.DR a o hk,hc,n,by simpa using hs⟩,?_⟩;have e:=r.length;simp only[Array.length_toList]at e;omega
def Inv.Zcw(I:Inv X pins σ H s)(h:cL X.K H a xs)(h':cL X.K H a ys):xs=ys:=by
 obtain⟨its,r,⟨o,n,e,_,_,d⟩,_⟩:=I.list h;obtain⟨its',r',⟨o',n',e',_,_,d'⟩,_⟩:=I.list h';rw[e]at e';cases e';rw[d]at d'
 injection d' with d1 _
 have:its=its':=by simpa using congrArg Array.toList d1
 subst this;exact r.inj r'
end
abbrev Cx.wish(X:Cx)(E:Value->Shared->Prop):Cx:={ X with xe:=E }
abbrev Cx.nox(X:Cx):Cx:=X.wish λ_ _=>False
def Cx.Ok.wish{X:Cx}(ok:X.Ok)(E:Value->Shared->Prop):(X.wish E).Ok:=
 ⟨ok.mod,ok.kind,ok.glob,ok.blt,ok.above,ok.inj,ok.has,ok.cab,ok.hd,ok.frames,ok.stk,ok.exf,ok.bs,ok.bsz,ok.Zcl,ok.Zhn,ok.Bf,ok.frf⟩
def Cx.Ok.BV{X:Cx}{E:Value->Shared->Prop}(ok:(X.wish E).Ok):X.Ok:=
 ⟨ok.mod,ok.kind,ok.glob,ok.blt,ok.above,ok.inj,ok.has,ok.cab,ok.hd,ok.frames,ok.stk,ok.exf,ok.bs,ok.bsz,ok.Zcl,ok.Zhn,ok.Bf,ok.frf⟩
section
variable {X:Cx}{pins:List (Addr×Obj)}{σ:St}{H:Hp}{s:Shared}{E:Value->Shared->Prop}
def Inv.wish(I:Inv X pins σ H s)(E:Value->Shared->Prop):Inv (X.wish E) pins σ H s:=⟨I.ok.wish E,I.os,I.bare,I.base,I.loc,I.cell,I.free,I.vh,I.pin,I.hok,I.len⟩
def Inv.BV(I:Inv (X.wish E) pins σ H s):Inv X pins σ H s:=⟨I.ok.BV,I.os,I.bare,I.base,I.loc,I.cell,I.free,I.vh,I.pin,I.hok,I.len⟩
def SP.BV{D:Ends}{f:Flow}{s':Shared}(h:SP (X.wish E) pins D f s'):SP X pins D f s':=by
 cases f with
 | next=>obtain⟨σ',H',I,q⟩:=h;exact⟨σ',H',I.BV,q⟩
 | brk=>obtain⟨σ',H',I,q⟩:=h;exact⟨σ',H',I.BV,q⟩
 | cont=>obtain⟨σ',H',I,q⟩:=h;exact⟨σ',H',I.BV,q⟩
 | ret u=>obtain⟨v,σ',H',I,r,q⟩:=h;exact⟨v,σ',H',I.BV,r,q⟩
def PSs.nox{st:List Stmt}{t:TS}(h:PSs X.nox st t):PSs X st t:=λpins s σ H D I hw=>
 wpAny_mono (h pins s σ H D (I.wish _) hw) (λ_ _ q=>q.BV) λ_ _ z=>False.elim z
end
section
variable {X:Cx}{st:Stmt}{rest:List Stmt}{t u:TS}{e:Expr}{te:TE}{pos:Pos}
def cu:TS:=λD σ H=>D.nx σ H
def aN(t u:TS):TS:=λD σ H=>t { D with nx:=u D } σ H
def bB:PSs X [] cu:=λ_ _ σ H _ I h=>wpAny_execs_nil ⟨σ,H,I,h⟩
def ao(h1:PS X st t)(h2:PSs X rest u):PSs X (st::rest) (aN t u):=by
 intro pins s σ H D I h;refine wpAny_execs_cons (jV (h1 pins s σ H { D with nx:=u D } I h) λf s1 q=>?_);cases f with
 | next=>
  obtain⟨σ',H',I',q⟩:=q;exact h2 pins s1 σ' H' D I' q
 | ret v=>exact q
 | brk=>exact q
 | cont=>exact q
def aA(h1:PS X st t):PSs X [st] t:=by
 intro pins s σ H D I h;refine wpAny_execs_cons (jV (h1 pins s σ H D I h) λf s1 q=>?_);cases f with
 | next=>exact wpAny_execs_nil q
 | ret v=>exact q
 | brk=>exact q
 | cont=>exact q
def Inv.quiet{pins:List (Addr×Obj)}{σ:St}{H:Hp}{s:Shared}(I:Inv X pins σ H s):interactive X.env=false:=by simp[interactive,I.ok.kind]
def vX(te:TE):TS:=λD σ H=>te σ H λ_ H1=>D.nx σ H1
def qw(he:PE X e te)(hs:swapsWith e none pos.line X.env=pure false:=by rfl):PS X (.Expr e pos) (vX te):=by
 intro pins s σ H D I h;exact wpAny_Expr_any (jV (he pins s σ H _ I h) λv s1 ⟨x,H1,I1,r1,q1⟩=>⟨σ,H1,I1,q1⟩) I.quiet hs
def bG(te:TE):TS:=λD σ H=>te σ H D.rt
def aM(he:PE X e te):PS X (.Return (some e) pos) (bG te):=by
 intro pins s σ H D I h;exact wpAny_Return_some (jV (he pins s σ H _ I h) λv s1 ⟨x,H1,I1,r1,q1⟩=>⟨x,σ,H1,I1,r1,q1⟩)
def eE(c:TT)(t u:TS):TS:=λD σ H=>c σ H λb H1=>if b=true then t D σ H1 else u D σ H1
def cJ{c:Expr}{a b:List Stmt}{tc:TT}(hc:PT X c tc)(ha:PSs X a t)(hb:PSs X b u):PS X (.If c a b pos) (eE tc t u):=by
 intro pins s σ H D I h;refine wpAny_If (jV (hc pins s σ H _ I h) λd s1 ⟨H1,I1,q1⟩=>?_);cases d with
 | true=>exact ha pins s1 σ H1 D I1 q1
 | false=>exact hb pins s1 σ H1 D I1 q1
end
abbrev TG:=V->St->Hp->(St->Hp->Prop)->Prop
abbrev TGs:=List V->St->Hp->(St->Hp->Prop)->Prop
def PG(X:Cx)(target:Expr)(t:TG):Prop:=
 ∀(pins:List (Addr×Obj)) (s:Shared) (σ:St) (H:Hp) (v:V) (u:Value) (Q:St->Hp->Prop),Inv X pins σ H s->RelV v u->t v σ H Q->
  wpAny (model X.prog X.w) X.A (assign target X.env u) (λ_ s'=>∃ σ' H',Inv X pins σ' H' s'/\Q σ' H') X.xe s
def PGs(X:Cx)(ts:List Expr)(t:TGs):Prop:=
 ∀(pins:List (Addr×Obj)) (s:Shared) (σ:St) (H:Hp) (vs:List V) (us:List Value) (Q:St->Hp->Prop),Inv X pins σ H s->Vals vs us->t vs σ H Q->
  wpAny (model X.prog X.w) X.A (assignInOrder ((assignEach ts X.env).map (·.2)) us) (λ_ s'=>∃ σ' H',Inv X pins σ' H' s'/\Q σ' H') X.xe s
abbrev Ztc:=V->V->V->Hp->(Hp->Prop)->Prop
def Zyw(X:Cx)(t:Ztc):Prop:=
 ∀(pins:List (Addr×Obj)) (s:Shared) (σ:St) (H:Hp) (o i v:V) (ov iv u:Value) (Q:Hp->Prop),Inv X pins σ H s->RelV o ov->RelV i iv->RelV v u->t o i v H Q->
  wpAny (model X.prog X.w) X.A (setItem ov iv u) (λ_ s'=>∃H',Inv X pins σ H' s'/\Q H') X.xe s
abbrev TIp:=V->V->Hp->VK->Prop
def PIp(X:Cx)(op:Operator)(t:TIp):Prop:=
 ∀(pins:List (Addr×Obj)) (s:Shared) (σ:St) (H:Hp) (x y:V) (v u:Value) (Q:VK),Inv X pins σ H s->RelV x v->RelV y u->t x y H Q->
  wpAny (model X.prog X.w) X.A (inplaceOp op v u) (EP X pins σ Q) X.xe s
section
variable {X:Cx}{pos:Pos}
def aO(i:Nat):TG:=λv σ H Q=>Q (σ.set i (some v)) H
def gk{i:Nat}{x:Str}(hN:X.N.Nodup)(hi:X.N[i]? =some x)(hx:Loc X.env.scope x)(hf:X.fn x=true\/X.env.scope.names.lookup x=some .local:=by first | exact .inl rfl | exact .inr rfl | assumption):PG X (.Name x pos) (aO i):=by
 intro pins s σ H v u Q I r h;exact wpAny_assign_Name (Qn I hN hi hx r (λs' I'=>⟨_,H,I',h⟩) hf)
def Zp6:TGs:=λvs σ H Q=>vs=[]/\Q σ H
def Jm(t:TG)(u:TGs):TGs:=λvs σ H Q=>∃v r,vs=v::r/\t v σ H λσ' H'=>u r σ' H' Q
def Pj:PGs X [] Zp6:=by
 intro pins s σ H vs us Q I r h;obtain⟨e,h⟩:=h;subst e;cases r;exact assignInOrder_nil ⟨σ,H,I,h⟩
def sZ{e:Expr}{es:List Expr}{t:TG}{u:TGs}(h1:PG X e t)(h2:PGs X es u)
  (hs:(assignEach (e::es) X.env).map (·.2)=assign e X.env::(assignEach es X.env).map (·.2):=by rfl):PGs X (e::es) (Jm t u):=by
 intro pins s σ H vs us Q I r h;obtain⟨v,vr,e1,h⟩:=h;subst e1;cases r with
 | cons r rr=>
  rw[hs];refine assignInOrder_cons (jV (h1 pins s σ H _ _ _ I r h) λ_ s1 ⟨σ1,H1,I1,q1⟩=>?_);exact h2 pins s1 σ1 H1 _ _ Q I1 rr q1
def Zp5(K:aB)(n:Nat)(t:TGs):TG:=λv σ H Q=>∃a xs,v=.ref a/\gZ K H a xs/\xs.length=n/\t xs σ H Q
def YW{es:List Expr}{k:Nat}{t:TGs}{n:Nat}(hc:X.calm=true)(h:PGs X es t)
  (hn:(assignEach es X.env).length=n:=by rfl) (hst:(assignEach es X.env).findIdx? (·.1)=none:=by rfl):PG X (.Tuple es k pos) (Zp5 X.K n t):=by
 intro pins s σ H v u Q I r hw;obtain⟨a,xs,e1,hq,hl,hw⟩:=hw;subst e1;cases r;obtain⟨its,rv,ht,hz⟩:=I.tuple hq;refine assign_Tuple_tuple (I.ok.hd hc) ht (by simp[hn,<- hl,rv.length]) hst λh' hx=>?_;have I1:Inv X pins σ H { s with heap:=h' }:=I.kept (t':=s.toks) λb o e=>hx b o (Nat.ne_of_lt (Heap.lt_size e)) e;exact h pins _ σ H xs _ Q I1 (by simpa using rv) hw
def R9(to ti:TE)(t:Ztc):TG:=λv σ H Q=>to σ H λo H1=>ti σ H1 λi H2=>t o i v H2 λH3=>Q σ H3
def Aj{o i:Expr}{to ti:TE}{t:Ztc}(ho:PE X o to)(hi:PE X i ti)(hs:Zyw X t)
  (ha:∀v,assign (.Subscript o i pos) X.env v=(do
   let ov <- holding [v] (eval o X.env)
   let iv <- holding [v,ov] (eval i X.env)
   standAt pos
   holding [v,ov,iv] (setItem ov iv v)
   release [v,ov,iv] []):=by intro _;rfl):PG X (.Subscript o i pos) (R9 to ti t):=by
 intro pins s σ H v u Q I r h;rw[ha];refine wpAny_bind (wpAny_holding (jV (ho pins s σ H _ I h) λov s1 ⟨x,H1,I1,r1,q1⟩=>?_));refine wpAny_bind (wpAny_holding (jV (hi pins s1 σ H1 _ I1 q1) λiv s2 ⟨y,H2,I2,r2,q2⟩=>?_));refine wpAny_bind (wpAny_standAt (wpAny_bind (wpAny_holding (jV (hs pins s2 σ H2 x y v ov iv u _ I2 r1 r2 r q2) λ_ s3 ⟨H3,I3,q3⟩=>?_))));exact wpAny_release ⟨σ,H3,I3,q3⟩
def bF(te:TE)(g:TG):TS:=λD σ H=>te σ H λx H1=>g x σ H1 D.nx
def Ai{tg e:Expr}{te:TE}{g:TG}(he:PE X e te)(hg:PG X tg g)(hs:swapsWithSole [tg] e pos.line X.env=pure false:=by rfl)(hw:swappedStores [tg] e X.env=pure none:=by rfl)
  (h1:(assignEach [tg] X.env).map (·.2)=[assign tg X.env]:=by rfl):PS X (.Assign [tg] e pos) (bF te g):=by
 intro pins s σ H D I h;refine wpAny_Assign_stores (jV (he pins s σ H _ I h) λv s1 ⟨x,H1,I1,r1,q1⟩=>?_) hs hw;rw[h1];exact jV (hg pins s1 σ H1 x v _ I1 r1 q1) λ_ s2 q=>q
def YS{i:Nat}{x:Str}{e:Expr}{te:TE}{pos':Pos}(hN:X.N.Nodup)(hi:X.N[i]? =some x)(hx:Loc X.env.scope x)(he:PE X e te)(hs:swapsWith e (some (.Name x pos')) pos.line X.env=pure false:=by rfl)(hf:X.fn x=true\/X.env.scope.names.lookup x=some .local:=by first | exact .inl rfl | exact .inr rfl | assumption):
  PS X (.Assign [.Name x pos'] e pos) (bF te (aO i)):=by
 intro pins s σ H D I h;refine wpAny_Assign_Name (jV (he pins s σ H _ I h) λv s1 ⟨y,H1,I1,r1,q1⟩=>?_) hs;exact Qn I1 hN hi hx r1 (λs2 I2=>⟨_,H1,I2,q1⟩) hf
def Zu8(i:Nat)(te:TE)(ti:TIp):TS:=λD σ H=>∃x,σ[i]? =some (some x)/\te σ H λy H1=>ti x y H1 λz H2=>D.nx (σ.set i (some z)) H2
def Zup{i:Nat}{x:Str}{e:Expr}{te:TE}{op:Operator}{ti:TIp}{pos':Pos}(hN:X.N.Nodup)(hi:X.N[i]? =some x)(hx:Loc X.env.scope x)(he:PE X e te)(ho:PIp X op ti)(hf:X.fn x=true\/X.env.scope.names.lookup x=some .local:=by first | exact .inl rfl | exact .inr rfl | assumption):
  PS X (.AugAssign (.Name x pos') op e pos) (Zu8 i te ti):=by
 intro pins s σ H D I h;obtain⟨v,e1,h⟩:=h;obtain⟨m,hn,hl⟩:=I.loc;have vis:Vis X.env.scope x:=by rcases hx with k | k;exact .inl k;exact .inr (.inl k)
 obtain⟨u,r,l⟩:=hl i x v hi e1 vis;refine wpAny_AugAssign_Name ?_;have go:wpAny (model X.prog X.w) X.A (eval e X.env) (λw s₂=>wpAny (model X.prog X.w) X.A (inplaceOp op u w) (λr s₃=>wpAny (model X.prog X.w) X.A (storeName X.env x r) (λ_=>SP X pins D .next) X.xe s₃) X.xe s₂) X.xe s:=by
  refine jV (he pins s σ H _ I h) λw s1 ⟨y,H1,I1,r1,q1⟩=>?_;refine jV (ho pins s1 σ H1 v y u w _ I1 r r1 q1) λz s2 ⟨zv,H2,I2,r2,q2⟩=>?_;exact Qn I2 hN hi hx r2 (λs3 I3=>⟨_,H2,I3,q2⟩) hf
 rcases l with ⟨hk,hm⟩ | ⟨hk,c,hc,hcell⟩
 ·exact wpAny_loadName_local I.ok.kind hk hn hm go
 ·rcases hk with hk | hk
  ·exact wpAny_loadName_cell I.ok.kind hk hc hcell go
  ·rcases hx with k | k
   ·have:X.env.scope.names.lookup x=some .free:=hk;rw[k]at this;cases this
   ·have:X.env.scope.names.lookup x=some .free:=hk;rw[k]at this;cases this
def ipI(f:Int->Int->Int):TIp:=λx y H Q=>∃i j,x=.int i/\y=.int j/\Q (.int (f i j)) H
def Zvl:PIp X .Add (ipI λi j=>i+j):=by
 intro pins s σ H x y v u Q I r1 r2 h;obtain⟨i,j,e1,e2,q⟩:=h;subst e1;subst e2;obtain⟨t,rfl⟩:=r1;obtain⟨t',rfl⟩:=r2;exact iadd_int ⟨.int _,H,I.tok _,⟨_,rfl⟩,q⟩
end
section
variable {X:Cx}{pos:Pos}
def Zm3(c:TT)(tb:TS):TS:=λD σ H=>∃W:Nat->St->Hp->Prop,(∃m,W m σ H)/\∀m σ H,W m σ H->
 c σ H λb H1=>if b=true then ∃N:St->Hp->Prop,(∀ σ' H',N σ' H'->∃m',m'<m/\W m' σ' H')/\tb { D with nx:=N,ct:=N,bk:=D.nx } σ H1 else D.nx σ H1
def Zmt{c:Expr}{body:List Stmt}{tc:TT}{tb:TS}(hp:PassesOwn (model X.prog X.w) X.A X.env X.xe)(hc:PT X c tc)(hb:PSs X body tb):PS X (.While c body [] pos) (Zm3 tc tb):=by
 intro pins s σ H D I h;obtain⟨W,⟨m0,w0⟩,turn⟩:=h;refine wpAny_While (codeAny_whileLoop (λn s'=>∃ σ' H',Inv X pins σ' H' s'/\W n σ' H') ?_ m0 ⟨σ,H,I,w0⟩);rintro n s1 ⟨σ1,H1,I1,w1⟩;refine wpAny_passesOwn hp (jV (hc pins s1 σ1 H1 _ I1 (turn n σ1 H1 w1)) λb s2 ⟨H2,I2,q2⟩=>?_);cases b with
 | true=>
  obtain⟨N,hN,q2⟩:=q2;rw[if_pos rfl];refine wpAny_passesOwn hp (jV (hb pins s2 σ1 H2 _ I2 q2) λf s3 q3=>?_);cases f with
  | next=>
   obtain⟨σ3,H3,I3,n3⟩:=q3;obtain⟨m',hm,w3⟩:=hN σ3 H3 n3;exact⟨m',hm,σ3,H3,I3,w3⟩
  | cont=>
   obtain⟨σ3,H3,I3,n3⟩:=q3;obtain⟨m',hm,w3⟩:=hN σ3 H3 n3;exact⟨m',hm,σ3,H3,I3,w3⟩
  | brk=>exact q3
  | ret v=>exact q3
 | false=>
  rw[if_neg Bool.false_ne_true];exact wpAny_execs_nil ⟨σ1,H2,I2,q2⟩
end
structure It where
 go:Nat->Hp->Prop
 yld:Nat->Hp->V->Hp->Prop
 stop:Nat->Hp->Prop
def vR(X:Cx)(pins:List (Addr×Obj))(H:Hp)(b:Addr):Prop:=
 H b=none/\b≠X.env.locals/\b∉X.fs/\(b∈X.ex\/X.s₀.heap.objs.size<=b)/\(∀x c,X.env.cells.lookup x=some c->c≠b)/\∀p∈X.pn++pins,p.1≠b
def Inv.Zlb{X:Cx}{pins:List (Addr×Obj)}{σ:St}{H H':Hp}{s:Shared}{b:Addr}(I:Inv X pins σ H s)(hb:s.heap.objs.size<=b)(hn:H' b=none):vR X pins H' b:=by
 refine⟨hn,Nat.ne_of_gt (Nat.lt_of_lt_of_le I.lt hb),I.Zz9 hb,.inr (Nat.le_trans I.sz hb),λx c e z=>?_,λp hp z=>?_⟩
 ·obtain⟨v,q⟩:=I.cell x c e;exact absurd (Nat.lt_of_lt_of_le q.lt (by rw[z];exact hb)) (Nat.lt_irrefl _)
 ·exact absurd (Nat.lt_of_lt_of_le (Heap.lt_size (I.pin p hp).1) (by rw[z];exact hb)) (Nat.lt_irrefl _)
structure Turn(P:Program)(w:World)(K:aB)(tg:Expr)(J:It)(fp:List Addr)(it:Addr)(tn:Nat->Heap->Prop):Prop where
  mem:it∈fp
  obj:∀i h,tn i h->∀b∈fp,∃o,h.get? b=some o/\∀v,o.data≠.cell v
  keep:∀i h h',tn i h->(∀b∈fp,∀o,h.get? b=some o->h'.get? b=some o)->tn i h'
  item:∀(X:Cx),X.prog=P->X.w=w->X.K=K->X.calm=true->∀(i:Nat) (pins:List (Addr×Obj)) (s:Shared) (σ:St) (H:Hp) (E:Value->Shared->Prop),Inv X pins σ H s->(∀b∈fp,vR X pins H b)->tn i s.heap->J.go i H->
    wpAny (model P w) X.A (pyNext (.ref it)) (λr s1=>∃u,r=some u/\
      wpAny (model P w) X.A (letOwnedTupleGo tg (.ref it) u) (λ_ s2=>∃x H',Inv X pins σ H' s2/\RelV x u/\J.yld i H x H'/\tn (i+1) s2.heap/\∀b∈fp,H' b=none) E s1) E s
  done:∀(X:Cx),X.prog=P->X.w=w->X.K=K->X.calm=true->∀(i:Nat) (pins:List (Addr×Obj)) (s:Shared) (σ:St) (H:Hp) (E:Value->Shared->Prop),Inv X pins σ H s->(∀b∈fp,vR X pins H b)->tn i s.heap->J.stop i H->
    wpAny (model P w) X.A (pyNext (.ref it)) (λr s1=>r=none/\Inv X pins σ H s1) E s
  self:∀(A:Around) (i:Nat) (s:Shared) (Q:Value->Shared->Prop) (E:Value->Shared->Prop),tn i s.heap->Q (.ref it) s->wpAny (model P w) A (pyIter (.ref it)) Q E s
abbrev TI:=St->Hp->(It->Hp->Prop)->Prop
def PIE(X:Cx)(pins:List (Addr×Obj))(σ:St)(tg:Expr)(R:It->Hp->Prop)(itv:Value)(s2:Shared):Prop:=
 ∃(it:Addr) (fp:List Addr) (tn:Nat->Heap->Prop) (J:It) (H':Hp),itv=.ref it/\Inv X pins σ H' s2/\Turn X.prog X.w X.K tg J fp it tn/\tn 0 s2.heap/\(∀b∈fp,vR X pins H' b)/\R J H'
def PI(X:Cx)(tg iter:Expr)(wi:TI):Prop:=
 ∀(pins:List (Addr×Obj)) (s:Shared) (σ:St) (H:Hp) (R:It->Hp->Prop),Inv X pins σ H s->wi σ H R->
  wpAny (model X.prog X.w) X.A (eval iter X.env) (λv s1=>wpAny (model X.prog X.w) X.A (pyIter v) (PIE X pins σ tg R) X.xe s1) X.xe s
def Zp3{M:Model}{A:Around}{E:Value->Shared->Prop}{s:Shared}{tg:Expr}{it:Addr}{u:Value}{o:Obj}{n:String}{vs:Array Value}{Q:Unit->Shared->Prop}(ho:s.heap.get? it=some o)(hc:o.cls=.type n)(hd:o.data=.fields vs)
    (hn:["enumerate","zip","dict_itemiterator","dict_reverseitemiterator","odict_iterator","itertools.zip_longest","itertools.pairwise"].contains n=false) (hQ:Q () s):wpAny M A (letOwnedTupleGo tg (.ref it) u) Q E s:=by
  unfold letOwnedTupleGo;cases tg<;>first
    | exact wpAny_pure hQ
    | (cases u<;>first
        | exact wpAny_pure hQ
        | (refine wpAny_bind (wpAny_load ho ?_)
           rw[hc,hd];show wpAny M A (if (["enumerate","zip","dict_itemiterator","dict_reverseitemiterator","odict_iterator","itertools.zip_longest","itertools.pairwise"].contains n && vs[0]? == some (rawInt _))=true then _ else _) Q E s;rw[if_neg (by intro h;rw[hn,Bool.false_and]at h;cases h)];exact wpAny_pure hQ))
def Itl(K:aB)(a:Addr):It:=
 ⟨λi H=>∃xs x,cL K H a xs/\xs[i]? =some x,λi H x H'=>H'=H/\∀xs,cL K H a xs->xs[i]? =some x,λi H=>∃xs,cL K H a xs/\xs.length<=i⟩
def Itr(lo:Int)(n:Nat):It:=⟨λi _=>i<n,λi H x H'=>H'=H/\x=.int (lo+i),λi _=>n<=i⟩
def Zjh{P:Program}{w:World}{K:aB}{tg:Expr}(a it:Addr):Turn P w K tg (Itl K a) [it] it (λi h=>h.IsListIter it a i) where
  mem:=by simp
  obj:=λi h st b hb=>by
    have e:b=it:=by simpa using hb
    subst e;obtain⟨o,e,c,d⟩:=st;exact⟨o,e,λv z=>by rw[d]at z;cases z⟩
  keep:=λi h h' st k=>st.at λo e=>k it (by simp) o e
  item:=by
    intro X hP hw hK hc i pins s σ H E I hf st hg;subst hP hw hK;obtain⟨xs,x,hq,hx⟩:=hg;obtain⟨its,rv,p,hz⟩:=I.list hq;obtain⟨u,hu,ru⟩:=rv.get hx;obtain⟨f0,f1,f2,f3,f4,f5⟩:=hf it (by simp);refine wpAny_pyNext_list_item st p.isList (x:=u) (by simpa using hu) λh' st' sb=>?_;have I1:Inv X pins σ H { s with heap:=h' }:=I.turned (t':=s.toks) (λb o hb e=>(sb.2 b hb).trans e) f0 f1 f3 f4 f5;obtain⟨o,e,c,d⟩:=id st';exact⟨u,rfl,Zp3 (s:={ s with heap:=h' }) e c d (by decide) ⟨x,H,I1,ru,⟨rfl,λys hy=>by rw[I.Zcw hy hq];exact hx⟩,st',λb hb=>(hf b hb).1⟩⟩
  done:=by
    intro X hP hw hK hc i pins s σ H E I hf st hg;subst hP hw hK;obtain⟨xs,hq,hx⟩:=hg;obtain⟨its,rv,p,hz⟩:=I.list hq;obtain⟨f0,f1,f2,f3,f4,f5⟩:=hf it (by simp);have hl:=rv.length;exact wpAny_pyNext_list_end (I.ok.hd hc) st p.isList (by simp;omega) λh' eb=>⟨rfl,I.turned (t':=s.toks) (λb o hb e=>eb b o hb e) f0 f1 f3 f4 f5⟩
  self:=λ_ _ _ _ _ st h=>wpAny_pyIter_listiter st h
def Zeo{P:Program}{w:World}{K:aB}{tg:Expr}(it:Addr)(lo:Int)(n:Nat):Turn P w K tg (Itr lo n) [it] it (λi h=>IsRangeIter h it (lo+(i:Nat) * 1) ((n:Int) - (i:Nat)) 1) where
  mem:=by simp
  obj:=λi h st b hb=>by
    have e:b=it:=by simpa using hb
    subst e;exact⟨_,st,λv z=>by
      have z':Data.fields _=Data.cell v:=z;cases z'⟩
  keep:=λi h h' st k=>k it (by simp) _ st
  item:=by
    intro X hP hw hK hc i pins s σ H E I hf st hg;subst hP hw hK;obtain⟨f0,f1,f2,f3,f4,f5⟩:=hf it (by simp);have W:=Walks.range (prog:=X.prog) (w:=X.w) (I.ok.hd hc) it lo 1 n;refine W.item i s _ _ hg st λv h' tk hv st' kk=>?_;obtain⟨t,rfl⟩:=hv;have I1:Inv X pins σ H { s with heap:=h',toks:=tk }:=I.turned (λb o hb e=>kk b o (by simpa using hb) e) f0 f1 f3 f4 f5;refine⟨_,rfl,Zp3 (s:={ s with heap:=h',toks:=tk }) (n:="range_iterator") st' rfl rfl (by decide) ⟨.int (lo+i),H,I1,⟨t,?_⟩,⟨rfl,rfl⟩,st',λb hb=>(hf b hb).1⟩⟩;rw[Int.mul_one]
  done:=by
    intro X hP hw hK hc i pins s σ H E I hf st hg;subst hP hw hK;obtain⟨f0,f1,f2,f3,f4,f5⟩:=hf it (by simp);exact wpAny_pyNext_range_end (I.ok.hd hc) st (by have:n<=i:=hg;omega) λh' eb=>⟨rfl,I.turned (t':=s.toks) (λb o hb e=>eb b o hb e) f0 f1 f3 f4 f5⟩
  self:=λ_ _ _ _ _ st h=>wpAny_pyIter_rangeiter st h
end L2
namespace L2
open PySem PySem.Spec PyProof.Rows
section
variable {X:Cx}{tg:Expr}
def qI(K:aB)(tl:TE):TI:=λσ H R=>tl σ H λx H1=>∃a,x=.ref a/\(∃xs,cL K H1 a xs)/\R (Itl K a) H1
def lH{l:Expr}{tl:TE}(hl:PE X l tl):PI X tg l (qI X.K tl):=by
 intro pins s σ H R I h;refine jV (hl pins s σ H _ I h) λv s1 ⟨x,H1,I1,r1,q1⟩=>?_;obtain⟨a,e,⟨xs,hq⟩,q⟩:=q1;subst e;cases r1;obtain⟨its,rv,p,hz⟩:=I1.list hq;refine wpAny_pyIter_list p.isList ?_;refine⟨s1.heap.objs.size,[s1.heap.objs.size],_,_,H1,rfl,I1.kept (t':=s1.toks) λb o e=>Heap.get?_push_of_some _ e,Zjh a _,⟨_,Heap.get?_push_size _ rfl,rfl,rfl⟩,λb hb=>?_,q⟩;have e:b=s1.heap.objs.size:=by simpa using hb
 subst e;exact I1.Zlb (Nat.le_refl _) (I1.hok.fresh (Nat.le_refl _))
def Zml{pins:List (Addr×Obj)}{σ:St}{H:Hp}{s:Shared}{R:It->Hp->Prop}{E:Value->Shared->Prop}{lo hi:Int}{t u v:Tok}{tk:Nat}(I:Inv X pins σ H s)(h1:-(2 ^ 62)<=lo)(h2:lo<2 ^ 62)(h3:-(2 ^ 62)<=hi)(h4:hi<2 ^ 62)
  (q:R (Itr lo (hi - lo).toNat) H):wpAny (model X.prog X.w) X.A (pyIter (.ref s.heap.objs.size)) (PIE X pins σ tg R) E { s with heap:=s.heap.push { cls:=.type "range",data:=.fields #[.int lo t,.int hi u,.int 1 v] },toks:=tk }:=by
 refine wpAny_pyIter_range (IsRange.new ..) (small_one h1 h2 h3 h4) ?_;have I1:Inv X pins σ H { s with heap:=s.heap.push { cls:=.type "range",data:=.fields #[.int lo t,.int hi u,.int 1 v] },toks:=tk }:=I.kept λb o e=>Heap.get?_push_of_some _ e;refine⟨(s.heap.push { cls:=.type "range",data:=.fields #[.int lo t,.int hi u,.int 1 v] }).objs.size,[(s.heap.push { cls:=.type "range",data:=.fields #[.int lo t,.int hi u,.int 1 v] }).objs.size],_,_,H,rfl,
  I1.kept (t':=tk) λb o e=>Heap.get?_push_of_some _ e,Zeo _ lo (hi - lo).toNat,?_,λb hb=>?_,q⟩
 ·have e1:lo+((0:Nat):Int) * 1=lo:=by simp
  have e2:(((hi - lo).toNat:Nat):Int) - ((0:Nat):Int)=Builtin.Range.rangeSize lo hi 1:=by rw[rangeSize_one];split<;>omega
  show IsRangeIter _ _ (lo+((0:Nat):Int) * 1) ((((hi - lo).toNat:Nat):Int) - ((0:Nat):Int)) 1;rw[e1,e2];exact Heap.get?_push_size _ rfl
 ·have e:b=(s.heap.push { cls:=.type "range",data:=.fields #[.int lo t,.int hi u,.int 1 v] }).objs.size:=by simpa using hb
  subst e;exact I1.Zlb (Nat.le_refl _) (I1.hok.fresh (Nat.le_refl _))
def FW(ta:TA):TI:=λσ H R=>ta σ H λvs H1=>∃j:Int,vs=[.int j]/\-(2 ^ 62)<=j/\j<2 ^ 62/\R (Itr 0 j.toNat) H1
def pQ{a:Expr}{ta:TA}{p pos:Pos}(hg:Gl X "range")(hm:X.mg "range"=none)(ha:PA X [a] ta)(hs:starEach [a] X.env=[(false,eval a X.env)]:=by rfl):PI X tg (.Call (.Name "range" p) [a] [] pos) (FW ta):=by
 intro pins s σ H R I h;refine Call_ (RK I hg hm boot_range (PyProof.Rows.callWith_type1 (jV (ha pos pins s σ H _ I h) λus s1 ⟨vs,H1,I1,r1,q1⟩=>?_) hs rfl));obtain⟨j,e,q1,q2,q⟩:=q1;subst e;cases r1 with
 | cons r rr=>
  cases rr;obtain⟨t,rfl⟩:=r;exact call_range_1 (Zml I1 (by omega) (by omega) q1 q2 (by simpa using q))
def yK(wi:TI)(g:TG)(tb:TS):TS:=λD σ H=>wi σ H λJ H1=>∃W:Nat->Nat->St->Hp->Prop,(∃m,W 0 m σ H1)/\∀i m σ H,W i m σ H->
 (J.stop i H/\D.nx σ H)\/(J.go i H/\∃N:St->Hp->Prop,(∀ σ' H',N σ' H'->∃m',m'<m/\W (i+1) m' σ' H')/\∀x H',J.yld i H x H'->g x σ H' λσ2 H2=>tb { D with nx:=N,ct:=N,bk:=D.nx } σ2 H2)
def GF(fp:List Addr)(h:Heap):List (Addr×Obj):=fp.filterMap λb=>(h.get? b).map λo=>(b,o)
def u6{fp:List Addr}{h:Heap}{b:Addr}{o:Obj}(hb:b∈fp)(e:h.get? b=some o):(b,o)∈GF fp h:=List.mem_filterMap.mpr ⟨b,hb,by rw[e];rfl⟩
def WQ{fp:List Addr}{h:Heap}{p:Addr×Obj}(hp:p∈GF fp h):p.1∈fp/\h.get? p.1=some p.2:=by
 obtain⟨b,hb,e⟩:=List.mem_filterMap.mp hp;cases q:h.get? b with
 | none=>rw[q]at e;cases e
 | some o=>
  rw[q]at e;have e':(b,o)=p:=Option.some.inj e;subst e';exact⟨hb,q⟩
def Inv.pinned{pins:List (Addr×Obj)}{σ:St}{H:Hp}{s:Shared}{fp:List Addr}(I:Inv X pins σ H s)(hf:∀b∈fp,vR X pins H b)(ho:∀b∈fp,∃o,s.heap.get? b=some o/\∀v,o.data≠.cell v):Inv X (pins++GF fp s.heap) σ H s:=
 I.HR λp hp=>(List.mem_append.mp hp).elim (λz=>I.pin p (List.mem_append_right _ z)) λz=>by
  obtain⟨hb,e⟩:=WQ z;obtain⟨f0,f1,f2,_⟩:=hf p.1 hb;obtain⟨o,e',d⟩:=ho p.1 hb;rw[e]at e';cases e';exact⟨e,f0,f1,f2,d⟩
def Inv.Qg{pins pl:List (Addr×Obj)}{σ:St}{H:Hp}{s:Shared}(I:Inv X (pins++pl) σ H s):Inv X pins σ H s:=I.HR λp hp=>I.pin p (List.mem_append_right _ (List.mem_append_left _ hp))
def nH{iter:Expr}{body:List Stmt}{wi:TI}{g:TG}{tb:TS}{pos:Pos}(hp:PassesOwn (model X.prog X.w) X.A X.env X.xe)(hc:X.calm=true)(hi:PI X tg iter wi)(hg:PG X tg g)(hb:PSs X body tb)
  (hs:∀x,foldedSetIterable iter X.env x=pure x:=by intro _;rfl):PS X (.For tg iter body [] pos) (yK wi g tb):=by
 intro pins s σ H D I h;refine wpAny_For (jV (hi pins s σ H _ I h) λv s1 h1=>jV h1 λitv s2 h2=>?_) hs;obtain⟨it,fp,tn,J,H2,e,I2,T,st2,f2,W,⟨m0,w0⟩,turn⟩:=h2;subst e;have stat:∀{H':Hp},(∀b∈fp,H' b=none)->∀b∈fp,vR X pins H' b:=λhn b hb=>⟨hn b hb,(f2 b hb).2⟩;refine codeAny_forLoop_any (λn s'=>∃i σ' H',Inv X pins σ' H' s'/\tn i s'.heap/\(∀b∈fp,H' b=none)/\W i n σ' H') ?_ m0 ⟨0,σ,H2,I2,st2,λb hb=>(f2 b hb).1,w0⟩;rintro n s3 ⟨i,σ3,H3,I3,st3,fr3,w3⟩;rcases turn i n σ3 H3 w3 with ⟨stop,qn⟩ | ⟨go,N,hN,step⟩
 ·refine wpAny_passesOwn hp (jV (T.done X rfl rfl rfl hc i pins s3 σ3 H3 X.xe I3 (stat fr3) st3 stop) λr s4 ⟨hr,I4⟩=>?_);subst hr;exact wpAny_execs_nil ⟨σ3,H3,I4,qn⟩
 ·refine wpAny_passesOwn hp (jV (T.item X rfl rfl rfl hc i pins s3 σ3 H3 X.xe I3 (stat fr3) st3 go) λr s4 ⟨u,hr,h4⟩=>?_);subst hr;refine wpAny_passesOwn hp (jV h4 λ_ s5 ⟨x,H5,I5,r5,y5,st5,fr5⟩=>?_);have I5':=I5.pinned (stat fr5) (T.obj _ _ st5);refine wpAny_passesOwn hp (jV (hg _ s5 σ3 H5 x u _ I5' r5 (step x H5 y5)) λ_ s6 ⟨σ6,H6,I6,q6⟩=>?_);refine wpAny_passesOwn hp (jV (hb _ s6 σ6 H6 _ I6 q6) λf s7 q7=>?_);have again:∀{σ7:St}{H7:Hp},Inv X (pins++GF fp s5.heap) σ7 H7 s7->N σ7 H7->∃m,m<n/\∃i σ' H',Inv X pins σ' H' s7/\tn i s7.heap/\(∀b∈fp,H' b=none)/\W i m σ' H':=λ{σ7 H7} I7 n7=>by
   obtain⟨m',hm,w7⟩:=hN σ7 H7 n7;refine⟨m',hm,i+1,σ7,H7,I7.Qg,T.keep _ _ _ st5 λb hb o e=>(I7.pin (b,o) (List.mem_append_right _ (List.mem_append_right _ (u6 hb e)))).1,λb hb=>?_,w7⟩;obtain⟨o,e,d⟩:=T.obj _ _ st5 b hb;exact(I7.pin (b,o) (List.mem_append_right _ (List.mem_append_right _ (u6 hb e)))).2.1
  cases f with
  | next=>obtain⟨σ7,H7,I7,n7⟩:=q7;exact again I7 n7
  | cont=>obtain⟨σ7,H7,I7,n7⟩:=q7;exact again I7 n7
  | brk=>obtain⟨σ7,H7,I7,q7⟩:=q7;exact⟨σ7,H7,I7.Qg,q7⟩
  | ret v=>obtain⟨x7,σ7,H7,I7,r7,q7⟩:=q7;exact⟨x7,σ7,H7,I7.Qg,r7,q7⟩
end
def Zp9{K:aB}{a:Addr}{xs:List V}{g:TG}{tb:TS}{D:Ends}{σ:St}{H:Hp}(Pv:Nat->St->Hp->Prop)(h0:Pv 0 σ H)(hl:∀i σ H,i<=xs.length->Pv i σ H->cL K H a xs)
  (hs:∀i x σ H,xs[i]? =some x->Pv i σ H->g x σ H λσ2 H2=>tb { D with nx:=Pv (i+1),ct:=Pv (i+1),bk:=D.nx } σ2 H2) (hd:∀ σ H,Pv xs.length σ H->D.nx σ H):
  ∃W:Nat->Nat->St->Hp->Prop,(∃m,W 0 m σ H)/\∀i m σ H,W i m σ H->
   ((Itl K a).stop i H/\D.nx σ H)\/((Itl K a).go i H/\∃N:St->Hp->Prop,(∀ σ' H',N σ' H'->∃m',m'<m/\W (i+1) m' σ' H')/\∀x H',(Itl K a).yld i H x H'->g x σ H' λσ2 H2=>tb { D with nx:=N,ct:=N,bk:=D.nx } σ2 H2):=by
 refine⟨λi m σ H=>m=xs.length - i/\i<=xs.length/\Pv i σ H,⟨xs.length,by simp,Nat.zero_le _,h0⟩,?_⟩;rintro i m σ H ⟨rfl,hi,p⟩;have q:=hl i σ H hi p
 by_cases hlt:i<xs.length
 ·refine .inr ⟨⟨xs,xs[i],q,by simp[hlt]⟩,Pv (i+1),λσ' H' p'=>⟨xs.length - (i+1),by omega,rfl,hlt,p'⟩,λx H' y=>?_⟩;obtain⟨e,y⟩:=y;subst e;exact hs i x σ _ (y xs q) p
 ·have e:i=xs.length:=by omega
  subst e;exact .inl ⟨⟨xs,q,Nat.le_refl _⟩,hd σ H p⟩
def Zlc{lo:Int}{n:Nat}{g:TG}{tb:TS}{D:Ends}{σ:St}{H:Hp}(Pv:Nat->St->Hp->Prop)(h0:Pv 0 σ H)
  (hs:∀i σ H,i<n->Pv i σ H->g (.int (lo+i)) σ H λσ2 H2=>tb { D with nx:=Pv (i+1),ct:=Pv (i+1),bk:=D.nx } σ2 H2) (hd:∀ σ H,Pv n σ H->D.nx σ H):
  ∃W:Nat->Nat->St->Hp->Prop,(∃m,W 0 m σ H)/\∀i m σ H,W i m σ H->
   ((Itr lo n).stop i H/\D.nx σ H)\/((Itr lo n).go i H/\∃N:St->Hp->Prop,(∀ σ' H',N σ' H'->∃m',m'<m/\W (i+1) m' σ' H')/\∀x H',(Itr lo n).yld i H x H'->g x σ H' λσ2 H2=>tb { D with nx:=N,ct:=N,bk:=D.nx } σ2 H2):=by
 refine⟨λi m σ H=>m=n - i/\i<=n/\Pv i σ H,⟨n,by simp,Nat.zero_le _,h0⟩,?_⟩;rintro i m σ H ⟨rfl,hi,p⟩
 by_cases hlt:i<n
 ·refine .inr ⟨hlt,Pv (i+1),λσ' H' p'=>⟨n - (i+1),by omega,rfl,hlt,p'⟩,λx H' y=>?_⟩;obtain⟨e,y⟩:=y;subst e y;exact hs i σ _ hlt p
 ·have e:i=n:=by omega
  subst e;exact .inl ⟨Nat.le_refl _,hd σ H p⟩
end L2
namespace L2
open PySem PySem.Spec PyProof.Rows
abbrev R2:=V->V->Hp->VK->Prop
def yW(X:Cx)(f:Value->Value->Sem Value)(r:R2):Prop:=
 ∀(pins:List (Addr×Obj)) (s:Shared) (σ:St) (H:Hp) (x y:V) (v u:Value) (Q:VK),Inv X pins σ H s->RelV x v->RelV y u->r x y H Q->
  wpAny (model X.prog X.w) X.A (f v u) (EP X pins σ Q) X.xe s
def UnR(X:Cx)(f:Value->Sem Value)(r:V->Hp->VK->Prop):Prop:=
 ∀(pins:List (Addr×Obj)) (s:Shared) (σ:St) (H:Hp) (x:V) (v:Value) (Q:VK),Inv X pins σ H s->RelV x v->r x H Q->
  wpAny (model X.prog X.w) X.A (f v) (EP X pins σ Q) X.xe s
def Oc(X:Cx)(f:Value)(r:List V->Hp->VK->Prop):Prop:=
 ∀(pins:List (Addr×Obj)) (s:Shared) (σ:St) (H:Hp) (xs:List V) (us:List Value) (Q:VK),Inv X pins σ H s->Vals xs us->r xs H Q->
  wpAny (model X.prog X.w) X.A (call f us) (EP X pins σ Q) X.xe s
def ZHo(X:Cx)(r:V->Hp->(Bool->Hp->Prop)->Prop):Prop:=
 ∀(pins:List (Addr×Obj)) (s:Shared) (σ:St) (H:Hp) (x:V) (v:Value) (Q:Bool->Hp->Prop),Inv X pins σ H s->RelV x v->r x H Q->
  wpAny (model X.prog X.w) X.A (truthy v) (TP X pins σ Q) X.xe s
def bC(r:R2)(ta tb:TE):TE:=λσ H Q=>ta σ H λx H1=>tb σ H1 λy H2=>r x y H2 Q
def tUn(r:V->Hp->VK->Prop)(ta:TE):TE:=λσ H Q=>ta σ H λx H1=>r x H1 Q
def rI(C:Int->Int->Prop)(g:Int->Int->V):R2:=λx y H Q=>∃i j,x=.int i/\y=.int j/\C i j/\Q (g i j) H
def oN(g:Int->Int->V):R2:=λx y H Q=>∃i j,x=.int i/\y=.int j/\Q (g i j) H
def rU(g:Int->V):V->Hp->VK->Prop:=λx H Q=>∃i,x=.int i/\Q (g i) H
section
variable {X:Cx}{a b c:Expr}{ta tb tc:TE}{pos:Pos}
def Zwq(ha:PE X a ta)(hb:PE X b tb){pins:List (Addr×Obj)}{s:Shared}{σ:St}{H:Hp}{R:V->V->Hp->Prop}(I:Inv X pins σ H s)
  (h:ta σ H λx H1=>tb σ H1 λy H2=>R x y H2) {Q:Value->Shared->Prop}{f:Value->Value->Sem Value}
  (hf:∀v u s2 x y H2,Inv X pins σ H2 s2->RelV x v->RelV y u->R x y H2->wpAny (model X.prog X.w) X.A (f v u) Q X.xe s2):
  wpAny (model X.prog X.w) X.A (eval a X.env) (λv s₁=>wpAny (model X.prog X.w) X.A (eval b X.env) (λu s₂=>wpAny (model X.prog X.w) X.A (f v u) Q X.xe s₂) X.xe s₁) X.xe s:=by
 refine jV (ha pins s σ H _ I h) λv s1 ⟨x,H1,I1,r1,q1⟩=>?_;refine jV (hb pins s1 σ H1 _ I1 q1) λu s2 ⟨y,H2,I2,r2,q2⟩=>?_;exact hf v u s2 x y H2 I2 r1 r2 q2
def aZ{op:Operator}{r:R2}(ho:yW X (binaryOp op) r)(ha:PE X a ta)(hb:PE X b tb):PE X (.BinOp a op b pos) (bC r ta tb):=by
 intro pins s σ H Q I h;exact wpAny_BinOp (Zwq ha hb I h λv u s2 x y H2 I2 rx ry q=>ho pins s2 σ H2 x y v u Q I2 rx ry q)
def Zxg{op:UnaryOp}{r:V->Hp->VK->Prop}(ho:UnR X (unaryOp op) r)(ha:PE X a ta):PE X (.UnaryOp op a pos) (tUn r ta):=by
 intro pins s σ H Q I h;exact UnaryOp_ (jV (ha pins s σ H _ I h) λv s1 ⟨x,H1,I1,r1,q1⟩=>ho pins s1 σ H1 x v Q I1 r1 q1)
def opI{f:Value->Value->Sem Value}{C:Int->Int->Prop}{g:Int->Int->Int}
  (rule:∀(i j:Int) (t u:Tok) (s:Shared) (Q:Value->Shared->Prop) (E:Value->Shared->Prop),C i j->Q (.int (g i j) s.toks) { s with toks:=s.toks+1 }->wpAny (model X.prog X.w) X.A (f (.int i t) (.int j u)) Q E s):
  yW X f (rI C λi j=>.int (g i j)):=by
 intro pins s σ H x y v u Q I rx ry h;obtain⟨i,j,rfl,rfl,hc,q⟩:=h;obtain⟨t,rfl⟩:=rx;obtain⟨t',rfl⟩:=ry;exact rule i j t t' s _ _ hc ⟨.int (g i j),H,I.tok _,⟨_,rfl⟩,q⟩
def Zre{f:Value->Value->Sem Value}{g:Int->Int->Int}
  (rule:∀(i j:Int) (t u:Tok) (s:Shared) (Q:Value->Shared->Prop) (E:Value->Shared->Prop),Q (.int (g i j) s.toks) { s with toks:=s.toks+1 }->wpAny (model X.prog X.w) X.A (f (.int i t) (.int j u)) Q E s):
  yW X f (oN λi j=>.int (g i j)):=by
 intro pins s σ H x y v u Q I rx ry h;obtain⟨i,j,rfl,rfl,q⟩:=h;obtain⟨t,rfl⟩:=rx;obtain⟨t',rfl⟩:=ry;exact rule i j t t' s _ _ ⟨.int (g i j),H,I.tok _,⟨_,rfl⟩,q⟩
def Zrf{f:Value->Value->Sem Value}{g:Int->Int->Bool}
  (rule:∀(i j:Int) (t u:Tok) (s:Shared) (Q:Value->Shared->Prop) (E:Value->Shared->Prop),Q (.bool (g i j)) s->wpAny (model X.prog X.w) X.A (f (.int i t) (.int j u)) Q E s):
  yW X f (oN λi j=>.bl (g i j)):=by
 intro pins s σ H x y v u Q I rx ry h;obtain⟨i,j,rfl,rfl,q⟩:=h;obtain⟨t,rfl⟩:=rx;obtain⟨t',rfl⟩:=ry;exact rule i j t t' s _ _ ⟨.bl (g i j),H,I,rfl,q⟩
def M5(i j:Int):Prop:=0<j/\j<1073741824
def Wb(i j:Int):Prop:=0<=j/\j<=1000000/\i.natAbs<2 ^ 64
def Th(i j:Int):Prop:=(-(2 ^ 64)<i/\i<2 ^ 64)\/(-(2 ^ 64)<j/\j<2 ^ 64)
def Th.ok{i j:Int}(h:Th i j):IntMulOk i j:=by
 rcases h with ⟨h1,h2⟩ | ⟨h1,h2⟩
 ·exact .of_left (intBits_le_64 h1 h2)
 ·exact .of_right (intBits_le_64 h1 h2)
def Zen(k:Nat):(0:Int)<=2 ^ k:=by
 rw[two_pow_cast];exact Int.natCast_nonneg _
def lB:yW X (binaryOp .Add) (oN λi j=>.int (i+j)):=Zre λ_ _ _ _ _ _ _ q=>add_int q
def yh:yW X (binaryOp .Sub) (oN λi j=>.int (i - j)):=Zre λ_ _ _ _ _ _ _ q=>sub_int q
def KQ:yW X (binaryOp .Mult) (rI Th λi j=>.int (i * j)):=opI λ_ _ _ _ _ _ _ hc q=>mul_int q hc.ok
def qx:yW X (binaryOp .FloorDiv) (rI M5 λi j=>.int (i / j)):=opI λi j _ _ _ _ _ hc q=>by
 have h1:(0:Int)<j:=hc.1;have h2:j<1073741824:=hc.2;exact floordiv_int (by omega) (by rw[Int.fdiv_eq_ediv_of_nonneg i (by omega)];exact q) (.inl (PyProof.noPylong_small (by omega)))
def gn:yW X (binaryOp .Mod) (rI (λ_ j=>0<j) λi j=>.int (i % j)):=opI λi j _ _ _ _ _ hc q=>by
 have h1:(0:Int)<j:=hc;exact mod_int' (by omega) (by rw[Int.fmod_eq_emod_of_nonneg i (by omega)];exact q)
def Y4:yW X (binaryOp .Pow) (rI Wb λi j=>.int (i ^ j.toNat)):=opI λ_ _ _ _ _ _ _ hc q=>pow_int_small hc.1 hc.2.1 hc.2.2 q
def Zg7:yW X (binaryOp .LShift) (rI Wb λi j=>.int (i * 2 ^ j.toNat)):=opI λ_ _ _ _ _ _ _ hc q=>lshift_int_small hc.1 hc.2.1 hc.2.2 q
def Y0:yW X (binaryOp .RShift) (rI (λ_ j=>0<=j) λi j=>.int (i / 2 ^ j.toNat)):=opI λi j _ _ _ _ _ hc q=>
 rshift_int hc (by rw[Int.fdiv_eq_ediv_of_nonneg i (Zen _)];exact q)
def KR:yW X (binaryOp .BitAnd) (oN λi j=>.int (Builtin.bitAnd i j)):=Zre λ_ _ _ _ _ _ _ q=>and_int q
def Zxh:yW X (binaryOp .BitOr) (oN λi j=>.int (Builtin.bitOr i j)):=Zre λ_ _ _ _ _ _ _ q=>or_int q
def unI{f:Value->Sem Value}{g:Int->Int}
  (rule:∀(i:Int) (t:Tok) (s:Shared) (Q:Value->Shared->Prop) (E:Value->Shared->Prop),Q (.int (g i) s.toks) { s with toks:=s.toks+1 }->wpAny (model X.prog X.w) X.A (f (.int i t)) Q E s):
  UnR X f (rU λi=>.int (g i)):=by
 intro pins s σ H x v Q I rx h;obtain⟨i,rfl,q⟩:=h;obtain⟨t,rfl⟩:=rx;exact rule i t s _ _ ⟨.int (g i),H,I.tok _,⟨_,rfl⟩,q⟩
def Zu0:UnR X (unaryOp .USub) (rU λi=>.int (-i)):=unI λ_ _ _ _ _ q=>neg_int q
end
def Zxb:V->V->Bool
 | .non,.non=>true | .non,.int _=>true | .int _,.non=>true | .non,.bl _=>true | .bl _,.non=>true | .non,.str _=>true | .str _,.non=>true
 | .int _,.int _=>true | .bl _,.bl _=>true | .str _,.str _=>true | .byt _,.byt _=>true
 | .int _,.str _=>true | .str _,.int _=>true | .bl _,.str _=>true | .str _,.bl _=>true
 | _,_=>false
def By:R2:=λx y H Q=>Zxb x y=true/\Q (.bl (decide (x=y))) H
def rNe:R2:=λx y H Q=>Zxb x y=true/\Q (.bl (!decide (x=y))) H
def Zj3{i j:Int}:decide (V.int i=V.int j)=(i == j):=by
 rw[Bool.eq_iff_iff];simp
def Zpp{i j:Bool}:decide (V.bl i=V.bl j)=(i == j):=by
 rw[Bool.eq_iff_iff];simp
def Zj2{i j:Str}:decide (V.str i=V.str j)=(i == j):=by
 rw[Bool.eq_iff_iff];simp
def Zj4{i j:Array UInt8}:decide (V.byt i=V.byt j)=(i.toList == j.toList):=by
 rw[Bool.eq_iff_iff];cases i;cases j;simp
section
variable {X:Cx}{a b c:Expr}{ta tb tc:TE}{pos:Pos}
def fM{pins:List (Addr×Obj)}{σ:St}{H:Hp}{s:Shared}{Q:VK}{k k':Bool}(I:Inv X pins σ H s)(q:Q (.bl k) H)(e:k=k'):EP X pins σ Q (.bool k') s:=by
 subst e;exact⟨.bl k,H,I,rfl,q⟩
def kZ:yW X (compareOp .Eq) By:=by
 intro pins s σ H x y v u Q I rx ry h;obtain⟨hs,q⟩:=h;cases x with
 | non=>
  cases rx;cases y with
  | non=>cases ry;exact PySem.EqNone.eq_none_none (fM I q (by simp))
  | bl j=>cases ry;exact PySem.EqNone.eq_none_bool (fM I q (by simp))
  | int j=>obtain⟨t',rfl⟩:=ry;exact PySem.EqNone.eq_none_int (fM I q (by simp))
  | str j=>obtain⟨t',rfl⟩:=ry;exact PySem.EqNone.eq_none_str (fM I q (by simp))
  | _=>exact absurd (show false=true from hs) Bool.false_ne_true
 | bl i=>
  cases rx;cases y with
  | non=>cases ry;exact PySem.EqNone.eq_bool_none (fM I q (by simp))
  | bl j=>cases ry;exact eq_bool (fM I q Zpp)
  | str j=>obtain⟨t',rfl⟩:=ry;exact PySem.EqMixed.eq_bool_str (fM I q (by simp))
  | _=>exact absurd (show false=true from hs) Bool.false_ne_true
 | int i=>
  obtain⟨t,rfl⟩:=rx;cases y with
  | non=>cases ry;exact PySem.EqNone.eq_int_none (fM I q (by simp))
  | int j=>obtain⟨t',rfl⟩:=ry;exact eq_int (fM I q Zj3)
  | str j=>obtain⟨t',rfl⟩:=ry;exact PySem.EqMixed.eq_int_str (fM I q (by simp))
  | _=>exact absurd (show false=true from hs) Bool.false_ne_true
 | str i=>
  obtain⟨t,rfl⟩:=rx;cases y with
  | non=>cases ry;exact PySem.EqNone.eq_str_none (fM I q (by simp))
  | bl j=>cases ry;exact PySem.EqMixed.eq_str_bool (fM I q (by simp))
  | int j=>obtain⟨t',rfl⟩:=ry;exact PySem.EqMixed.eq_str_int (fM I q (by simp))
  | str j=>obtain⟨t',rfl⟩:=ry;exact eq_str (fM I q Zj2)
  | _=>exact absurd (show false=true from hs) Bool.false_ne_true
 | byt i=>
  obtain⟨t,rfl⟩:=rx;cases y with
  | byt j=>obtain⟨t',rfl⟩:=ry;exact PySem.W.eq_bytes (fM I q Zj4)
  | _=>exact absurd (show false=true from hs) Bool.false_ne_true
 | _=>cases y<;>exact absurd (show false=true from hs) Bool.false_ne_true
def Nb:yW X (compareOp .NotEq) rNe:=by
 intro pins s σ H x y v u Q I rx ry h;obtain⟨hs,q⟩:=h;cases x with
 | non=>
  cases rx;cases y with
  | non=>cases ry;exact PySem.EqNone.ne_none_none (fM I q (by simp))
  | bl j=>cases ry;exact PySem.EqNone.ne_none_bool (fM I q (by simp))
  | int j=>obtain⟨t',rfl⟩:=ry;exact PySem.EqNone.ne_none_int (fM I q (by simp))
  | str j=>obtain⟨t',rfl⟩:=ry;exact PySem.EqNone.ne_none_str (fM I q (by simp))
  | _=>exact absurd (show false=true from hs) Bool.false_ne_true
 | bl i=>
  cases rx;cases y with
  | non=>cases ry;exact PySem.EqNone.ne_bool_none (fM I q (by simp))
  | bl j=>cases ry;exact ne_bool (fM I q (congrArg not Zpp))
  | str j=>obtain⟨t',rfl⟩:=ry;exact PySem.EqMixed.ne_bool_str (fM I q (by simp))
  | _=>exact absurd (show false=true from hs) Bool.false_ne_true
 | int i=>
  obtain⟨t,rfl⟩:=rx;cases y with
  | non=>cases ry;exact PySem.EqNone.ne_int_none (fM I q (by simp))
  | int j=>obtain⟨t',rfl⟩:=ry;exact ne_int (fM I q (congrArg not Zj3))
  | str j=>obtain⟨t',rfl⟩:=ry;exact PySem.EqMixed.ne_int_str (fM I q (by simp))
  | _=>exact absurd (show false=true from hs) Bool.false_ne_true
 | str i=>
  obtain⟨t,rfl⟩:=rx;cases y with
  | non=>cases ry;exact PySem.EqNone.ne_str_none (fM I q (by simp))
  | bl j=>cases ry;exact PySem.EqMixed.ne_str_bool (fM I q (by simp))
  | int j=>obtain⟨t',rfl⟩:=ry;exact PySem.EqMixed.ne_str_int (fM I q (by simp))
  | str j=>obtain⟨t',rfl⟩:=ry;exact ne_str (fM I q (congrArg not Zj2))
  | _=>exact absurd (show false=true from hs) Bool.false_ne_true
 | byt i=>
  obtain⟨t,rfl⟩:=rx;cases y with
  | byt j=>obtain⟨t',rfl⟩:=ry;exact PySem.W.ne_bytes (fM I q (congrArg not Zj4))
  | _=>exact absurd (show false=true from hs) Bool.false_ne_true
 | _=>cases y<;>exact absurd (show false=true from hs) Bool.false_ne_true
def Fy:yW X (compareOp .Lt) (oN λi j=>.bl (decide (i<j))):=Zrf λ_ _ _ _ _ _ _ q=>lt_int q
def Zxi:yW X (compareOp .LtE) (oN λi j=>.bl (decide (i<=j))):=Zrf λ_ _ _ _ _ _ _ q=>le_int q
def Zim:yW X (compareOp .Gt) (oN λi j=>.bl (decide (j<i))):=Zrf λ_ _ _ _ _ _ _ q=>gt_int q
def Zxj:yW X (compareOp .GtE) (oN λi j=>.bl (decide (j<=i))):=Zrf λ_ _ _ _ _ _ _ q=>ge_int q
def Zut:yW X (compareOp .Is) (λx y H Q=>y=.non/\Q (.bl (decide (x=.non))) H):=by
 intro pins s σ H x y v u Q I rx ry h;obtain⟨rfl,q⟩:=h;cases ry;refine is_none_gen (fM I q ?_);cases x<;>first
  | (cases rx;rfl)
  | (obtain⟨t,rfl⟩:=rx;rfl)
def Zrc:yW X (compareOp .IsNot) (λx y H Q=>y=.non/\Q (.bl (!decide (x=.non))) H):=by
 intro pins s σ H x y v u Q I rx ry h;obtain⟨rfl,q⟩:=h;cases ry;refine isnot_none_gen (fM I q ?_);cases x<;>first
  | (cases rx;rfl)
  | (obtain⟨t,rfl⟩:=rx;rfl)
def isObj:HO->Bool
 | .lst _=>true
 | .ins _ _ _=>true
 | _=>false
def K5{pins:List (Addr×Obj)}{s:Shared}{σ:St}{H:Hp}{a:Addr}{o:HO}(I:Inv X pins σ H s)(h:H a=some o)(p:isObj o=true):∃ob,s.heap.get? a=some ob/\ob.cls≠.type "tuple":=by
 cases o with
 | lst xs=>
  obtain⟨_,its,n,_,e⟩:xs.length<=sizeLine/\∃(its:List Value) (n:Nat),Vals xs its/\s.heap.get? a=some { cls:=.type "list",data:=.seq its.toArray n }:=I.hok a _ h;exact⟨_,e,(by show Value.type "list"≠.type "tuple";decide +kernel)⟩
 | ins C dx fs=>
  have x:=I.hok a _ h;obtain⟨_,_,_,e,_⟩:=x;exact⟨_,e,(by show Value.ref C≠.type "tuple";exact λz=>by cases z)⟩
 | _=>exact absurd (show false=true from p) Bool.false_ne_true
def K6(b:Expr){op:CmpOp}(h:op≠.In:=by decide)(h2:op≠.NotIn:=by decide):behindInMarks op b=false:=by
 have e1:(op == CmpOp.In)=false:=by cases op<;>first | rfl | exact absurd rfl h
 have e2:(op == CmpOp.NotIn)=false:=by cases op<;>first | rfl | exact absurd rfl h2
 cases b<;>simp[behindInMarks,e1,e2]
def Em{op:CmpOp}{r:R2}(ho:yW X (compareOp op) r)(ha:PE X a ta)(hb:PE X b tb)(hm:behindInMarks op b=false):PE X (.Compare a [op] [b] pos) (bC r ta tb):=by
 intro pins s σ H Q I h;exact wpAny_Compare1 (Zwq ha hb I h λv u s2 x y H2 I2 rx ry q=>ho pins s2 σ H2 x y v u Q I2 rx ry q) hm
def cg(t:TE):TT:=λσ H Q=>t σ H λx H'=>∃k,x=.bl k/\Q k H'
def Zqs{op:CmpOp}{r:R2}(ho:yW X (compareOp op) r)(ha:PE X a ta)(hb:PE X b tb)(hm:behindInMarks op b=false):PT X (.Compare a [op] [b] pos) (cg (bC r ta tb)):=by
 intro pins s σ H Q I h;refine wpAny_isTrue_Compare1 (jV (ha pins s σ H _ I h) λv s1 ⟨x,H1,I1,r1,q1⟩=>jV (hb pins s1 σ H1 _ I1 q1) λu s2 ⟨y,H2,I2,r2,q2⟩=>
  jV (ho pins s2 σ H2 x y v u _ I2 r1 r2 q2) λc s3 ⟨z,H3,I3,r3,k,e,q3⟩=>?_) hm
 subst e;cases r3;exact wpAny_truthy_bool ⟨H3,I3,q3⟩
def Zet(r r':R2)(ta tb tc:TE):TE:=λσ H Q=>ta σ H λx H1=>tb σ H1 λy H2=>r x y H2 λz H3=>∃k,z=.bl k/\
 (if k=true then tc σ H3 λw' H4=>r' y w' H4 Q else Q (.bl false) H3)
def Zn7{op op':CmpOp}{r r':R2}(ho:yW X (compareOp op) r)(ho':yW X (compareOp op') r')(ha:PE X a ta)(hb:PE X b tb)(hc:PE X c tc)
  (hm:lastMarks [op,op'] [b,c]=false:=by with_unfolding_all rfl):PE X (.Compare a [op,op'] [b,c] pos) (Zet r r' ta tb tc):=by
 intro pins s σ H Q I h;refine Compare_chain (jV (ha pins s σ H _ I h) λv s1 ⟨x,H1,I1,r1,q1⟩=>chain_link (jV (hb pins s1 σ H1 _ I1 q1) λu s2 ⟨y,H2,I2,r2,q2⟩=>
  jV (ho pins s2 σ H2 x y v u _ I2 r1 r2 q2) λd s3 ⟨z,H3,I3,r3,k,e,q3⟩=>?_)) hm
 subst e;cases r3;refine wpAny_truthy_bool ?_;cases k with
 | false=>exact ite_ff ⟨.bl false,H3,I3,rfl,q3⟩
 | true=>exact ite_tt (chain_last (jV (hc pins s3 σ H3 _ I3 q3) λw' s4 ⟨z',H4,I4,r4,q4⟩=>ho' pins s4 σ H4 y z' u w' Q I4 r2 r4 q4))
def Zpv(K:aB)(x:V)(H:Hp)(k:Bool):Prop:=
 match x with
 | .non=>k=false
 | .bl b=>k=b
 | .int i=>k=(i != 0)
 | .str y=>y.length<=sizeLine/\k=((y.length:Int) != 0)
 | .byt y=>y.size<=sizeLine/\k=((y.size:Int) != 0)
 | .ref p=>(∃xs,cL K H p xs/\k=!xs.isEmpty)\/(∃xs,gZ K H p xs/\k=!xs.isEmpty)\/∃kvs,H p=some (.dK kvs)/\k=!kvs.isEmpty
 | _=>False
def Zh2{κ:Type}{kvs:List (κ×V)}{vs:List (κ×Value)}(r:KV kvs vs):(!vs.isEmpty)=!kvs.isEmpty:=by
 cases r<;>rfl
def R3{xs:List V}{its:List Value}(r:Vals xs its):(!its.toArray.isEmpty)=!xs.isEmpty:=by
 cases r<;>simp
def Lf:(sizeLine:Nat)<2 ^ 63:=by rw[sizeLine_eq];decide
def Zu4:ZHo X (λx H Q=>∃k,Zpv X.K x H k/\Q k H):=by
 intro pins s σ H x v Q I rx h;obtain⟨k,e,q⟩:=h;have hl:=Lf;have hs:sizeLine=16777216:=sizeLine_eq;cases x with
 | non=>
  cases rx;have e':k=false:=e;subst e';exact truthy_none ⟨H,I,q⟩
 | bl b=>
  cases rx;have e':k=b:=e;subst e';exact wpAny_truthy_bool ⟨H,I,q⟩
 | int i=>
  obtain⟨t,rfl⟩:=rx;have e':k=(i != 0):=e;subst e';exact PySem.P.truthy_int ⟨H,I,q⟩
 | str y=>
  obtain⟨t,rfl⟩:=rx;obtain⟨hy,e'⟩:y.length<=sizeLine/\k=((y.length:Int) != 0):=e;subst e';exact PySem.P.truthy_str (by omega) ⟨H,I.tok _,q⟩
 | byt y=>
  obtain⟨t,rfl⟩:=rx;obtain⟨hy,e'⟩:y.size<=sizeLine/\k=((y.size:Int) != 0):=e;subst e';exact PySem.W.truthy_bytes (by omega) ⟨H,I.tok _,q⟩
 | ref p=>
  cases rx;have e':(∃xs,cL X.K H p xs/\k=!xs.isEmpty)\/(∃xs,gZ X.K H p xs/\k=!xs.isEmpty)\/∃kvs,H p=some (.dK kvs)/\k=!kvs.isEmpty:=e;rcases e' with ⟨xs,hx,e'⟩ | ⟨xs,hx,e'⟩ | ⟨kvs,hx,e'⟩
  ·subst e';obtain⟨its,r,pl,hz⟩:=I.list hx;have hlen:=r.length;exact wpAny_truthy_list pl.isList (by simp only[List.size_toArray];omega) ⟨H,I.tok _,by rw[R3 r];exact q⟩
  ·subst e';obtain⟨its,r,pl,hz⟩:=I.tuple hx;have hlen:=r.length;exact truthy_tuple pl (by simp only[List.size_toArray];omega) ⟨H,I.tok _,by rw[R3 r];exact q⟩
  ·subst e';obtain⟨hz,hS,vs,r,m⟩:kvs.length<=sizeLine/\(p == sysModules)=false/\∃vs,KV kvs vs/\s.heap.DictOf (fH X.prog X.w) p vs:=I.hok p _ hx;have hlen:kvs.length=vs.length:=Paired.length r;exact wpAny_truthy_dict hS m (by omega) ⟨H,I.tok _,by rw[Zh2 r];exact q⟩
 | _=>exact(show False from e).elim
def Zbx(ha:PE X a ta)(he:∀whole,isTrue a X.env whole=(do let v <- whole;standAt a.pos;holding [v] (truthy v))):
  PT X a (λσ H Q=>ta σ H λx H'=>∃k,Zpv X.K x H' k/\Q k H'):=by
 intro pins s σ H Q I h;exact isTrue_plain (jV (ha pins s σ H _ I h) λv s1 ⟨x,H1,I1,r1,q1⟩=>Zu4 pins s1 σ H1 x v Q I1 r1 q1) (he _)
def Q9:yW X (binaryOp .Add) (λx y H Q=>∃i j,x=.str i/\y=.str j/\i.length+j.length<=sizeLine/\Q (.str (i++j)) H):=by
 intro pins s σ H x y v u Q I rx ry h;obtain⟨i,j,rfl,rfl,hz,q⟩:=h;obtain⟨t,rfl⟩:=rx;obtain⟨t',rfl⟩:=ry;exact add_str (λt' tk=>⟨.str (i++j),H,I.tok _,⟨_,rfl⟩,q⟩) hz
def vals1{x:V}{us:List Value}(r:Vals [x] us):∃u,us=[u]/\RelV x u:=by
 cases r with
 | cons r1 r2=>cases r2;exact⟨_,rfl,r1⟩
def vals2{x y:V}{us:List Value}(r:Vals [x,y] us):∃u w',us=[u,w']/\RelV x u/\RelV y w':=by
 cases r with
 | cons r1 r2=>
  cases r2 with
  | cons r3 r4=>cases r4;exact⟨_,_,rfl,r1,r3⟩
end
end L2
namespace L2
open PySem PySem.Spec PyProof.Rows
structure Zi6(h:Heap)(x dx C:Addr)(mA:Str->Option Value):Prop where
 obj:h.get? x=some (PySem.W.instObj C dx)
 ns:h.Ns1 dx mA
 ne:dx≠x
def Zkn{h:Heap}{dx:Addr}{mA:Str->Option Value}(n:h.Ns1 dx mA):∃od,h.get? dx=some od/\∀name,PySem.W.lookIn name od=some (mA name):=by
 obtain⟨o,es,ep,ho,hd,hk,_,hm⟩:=n;refine⟨o,ho,λname=>?_⟩;have e:=hm name;unfold nsFind findBy at e;rw[<- Array.find?_toList]at e;unfold PySem.W.lookIn;rw[hd];dsimp only;split
 ·rename_i y q
  rw[q]at e;exact congrArg some e
 ·rename_i q
  rw[q]at e;have a:es.toList.any (·.refKey)=false:=by
   rw[List.any_eq_false];intro y hy;obtain⟨z,t,hkey⟩:=hk y (Array.mem_toList_iff.mp hy);simp[DictEntry.refKey,hkey]
  have a':¬ es.toList.any (·.refKey)=true:=by rw[a];exact Bool.false_ne_true
  rw[if_neg a'];exact congrArg some e
def Zi6.look{h:Heap}{x dx C:Addr}{mA:Str->Option Value}(I:Zi6 h x dx C mA):∃od,PySem.W.InstAt h x (PySem.W.instObj C dx) C (some od)/\∀name,PySem.W.lookIn name od=some (mA name):=
 let ⟨od,ho,hl⟩:=Zkn I.ns
 ⟨od,⟨I.obj,rfl,rfl,ho⟩,hl⟩
section
variable {prog:Program}{w:World}{A:Around}{E:Value->Shared->Prop}{s:Shared}{K:aB}{x dx C f:Addr}{mA:Str->Option Value}{name:Str}{v:Value}
def get_map{expr:Bool}{Q:Value->Shared->Prop}(X:K.In s.heap)(I:Zi6 s.heap x dx C mA)(hg:PySem.W.plainGet K C name=true)(hh:PySem.W.hasDictIn K C=true)
  (ha:PySem.W.findIn K (.ref C) name=some none) (hv:mA name=some v) (hv':PySem.W.handedIn v=true) (h:Q v { s with toks:=s.toks+1 }):
  wpAny (model prog w) A (getAttr (.ref x) name expr) Q E s:=by
 obtain⟨od,J,hl⟩:=I.look;exact PySem.W.get_value X J (PySem.W.plainGet_of hg).1 (PySem.W.findObj_own hh ha rfl (by rw[hl,hv])) hv' h
def Zp4{pl:Sem Bool}{Q:Value×List Value->Shared->Prop}(X:K.In s.heap)(I:Zi6 s.heap x dx C mA)(hg:PySem.W.plainGet K C name=true)
  (hf:PySem.W.findIn K (.ref C) name=some (some (.ref f))) (ht:PySem.W.isFn K (.ref f)=true) (hv:mA name=none) (h:Q (.ref f,[.ref x]) s):
  wpAny (model prog w) A (getMethod (.ref x) name pl) Q E s:=by
 obtain⟨od,J,hl⟩:=I.look;exact PySem.W.method_fn X J (PySem.W.plainGet_of hg).1 (PySem.W.plainGet_of hg).2 hf (beq_iff_eq.mp ht) (by show(PySem.W.lookIn name od).map (·.isSome)=some false;rw[hl,hv];rfl) h
def Zq9{ns:List Str}{Q:Unit->Shared->Prop}(X:K.In s.heap)(I:Zi6 s.heap x dx C mA)
  (hs:PySem.W.findIn K (.ref C) "__setattr__"=some (some (.builtin "object.__setattr__"))) (hp:PySem.W.plainOver K C=true) (ht:PySem.W.takerIn K C name=some none) (hh:PySem.W.hasDictIn K C=true)
  (hw:PySem.Within mA ns) (hsz:ns.length<=sizeLine)
  (h:∀h',Zi6 h' x dx C (λy=>if y=name then some v else mA y)->Heap.SameBut dx s.heap h'->Q () { s with heap:=h',toks:=s.toks+2 }):
  wpAny (model prog w) A (setAttr (.ref x) name v) Q E s:=by
 obtain⟨od,J,hl⟩:=I.look;refine PySem.W.set_plain X J hs (PySem.W.osa_open (s:={ s with toks:=s.toks+1 }) (r:=none) X J hp ht λb=>?_);obtain⟨cd,hc,hd'⟩:=PySem.W.any_some hh;have hx:s.heap.get? x=some ⟨.ref C,some dx,.plain,#[]⟩:=I.obj;refine wpAny_bind (wpAny_pure (wpAny_bind (wpAny_bind (wpAny_loadPart hx (wpAny_bind (PySem.W.Looks.here (s:={ s with toks:=s.toks+1 }) (PySem.W.looks_clsIn X hc) ?_))))));rw[hd'];refine wpAny_pure (a:=some dx) (wpAny_bind (wpAny_pure (wpAny_bind ?_)));refine wpAny_nsSet1 (s:={ s with toks:=s.toks+1 }) I.ns λh' hn2 hs2=>?_;obtain⟨oD,esD,epD,hoD,hdD,hcD⟩:=hn2.count (PySem.Within.cons name v hw);refine wpAny_bind (wpAny_lookBehind hoD (by rw[hdD];exact pastItsLine_dict (Nat.le_trans hcD (by rw[List.length_cons];omega))) ?_);exact wpAny_pure (h _ ⟨(hs2.2 _ (Ne.symm I.ne)).trans I.obj,hn2,I.ne⟩ hs2)
def Znt{R:Result->Shared->Prop}{vs:List Value}{kw:List (Str×Value)}(X:K.In s.heap)(hm:PySem.W.makesIn K C=true)
  (hi:PySem.W.findIn K (.ref C) "__init__"=some (some (.ref f))) (hf:PySem.W.typeIn K (.ref f)=some (.type "function"))
  (h:codeAny (model prog w) (A.under (.builtin "type.__call__" ⟨.ref C::vs,kw⟩)) (.call (.ref f) ⟨.ref (s.heap.objs.size+1)::vs,kw⟩) (PySem.W.InitBack (s.heap.objs.size+1) R)
   { s with heap:=(s.heap.push PySem.W.emptyDict).push (PySem.W.instObj C s.heap.objs.size) }):
  codeAny (model prog w) A (.call (.ref C) ⟨vs,kw⟩) R s:=by
 obtain⟨hh,g,d,t,os⟩:=s;exact PySem.W.make_core (PySem.W.makes_of X hm) (PySem.W.looks_findIn X hi) (λself=>PySem.W.bind_fn X self hf) (.inl rfl) h
def Zke{R:Result->Shared->Prop}(X:K.In s.heap)(hm:PySem.W.makesIn K C=true)
  (hi:PySem.W.findIn K (.ref C) "__init__"=some (some (.builtin "object.__init__")))
  (hb:∀self,PySem.W.Looks (model prog w) s.heap (bindSpecial (.builtin "object.__init__") self) (.builtin "object.__init__",[self]))
  (h:codeAny (model prog w) (A.under (.builtin "type.__call__" ⟨[.ref C],[]⟩)) (.call (.builtin "object.__init__") ⟨[.ref (s.heap.objs.size+1)],[]⟩) (PySem.W.InitBack (s.heap.objs.size+1) R)
   { s with heap:=(s.heap.push PySem.W.emptyDict).push (PySem.W.instObj C s.heap.objs.size) }):
  codeAny (model prog w) A (.call (.ref C) ⟨[],[]⟩) R s:=by
 obtain⟨hh,g,d,t,os⟩:=s;exact PySem.W.make_core (PySem.W.makes_of X hm) (PySem.W.looks_findIn X hi) hb (.inr ⟨rfl,rfl⟩) h
end
def cB(f:Str)(v:V):List (Str×V)->List (Str×V)
 | []=>[(f,v)]
 | (g,x)::r=>if g=f then(g,v)::r else(g,x)::cB f v r
def NB(f g:Str)(v:V):∀fs:List (Str×V),(cB f v fs).lookup g=if g=f then some v else fs.lookup g
 | []=>by
  show List.lookup g [(f,v)]=_
  by_cases h:g=f
  ·have hb:(g == f)=true:=beq_iff_eq.mpr h;simp only[List.lookup,hb,if_pos h]
  ·have hb:(g == f)=false:=beq_eq_false_iff_ne.mpr h;simp only[List.lookup,hb,if_neg h]
 | (k,x)::r=>by
  have ih:=NB f g v r;rw[show cB f v ((k,x)::r)=(if k=f then(k,v)::r else(k,x)::cB f v r)from rfl]
  by_cases hk:k=f
  ·rw[if_pos hk]
   by_cases h:g=k
   ·have hb:(g == k)=true:=beq_iff_eq.mpr h;simp only[List.lookup,hb,if_pos (h.trans hk)]
   ·have hb:(g == k)=false:=beq_eq_false_iff_ne.mpr h;simp only[List.lookup,hb,if_neg (λe:g=f=>h (e.trans hk.symm))]
  ·rw[if_neg hk]
   by_cases h:g=k
   ·have hb:(g == k)=true:=beq_iff_eq.mpr h;simp only[List.lookup,hb,if_neg (λe:g=f=>hk (h.symm.trans e))]
   ·have hb:(g == k)=false:=beq_eq_false_iff_ne.mpr h;simp only[List.lookup,hb];exact ih
def Lj(f:Str)(v:V):∀fs:List (Str×V),f∈(cB f v fs).map (·.1)/\∀g,g∈fs.map (·.1)->g∈(cB f v fs).map (·.1)
 | []=>⟨by simp[cB],λg h=>by simp at h⟩
 | (k,x)::r=>by
  obtain⟨i1,i2⟩:=Lj f v r;rw[show cB f v ((k,x)::r)=(if k=f then(k,v)::r else(k,x)::cB f v r)from rfl]
  by_cases hk:k=f
  ·rw[if_pos hk];subst hk;exact⟨by simp,λg h=>by simpa using h⟩
  ·rw[if_neg hk];refine⟨?_,λg h=>?_⟩
   ·rw[List.map_cons];exact List.mem_cons_of_mem _ i1
   ·rw[List.map_cons]at h ⊢;rcases List.mem_cons.mp h with e | e
    ·exact List.mem_cons.mpr (.inl e)
    ·exact List.mem_cons_of_mem _ (i2 g e)
def NP(f:Str)(v:V):∀fs:List (Str×V),(cB f v fs).length<=fs.length+1
 | []=>by simp[cB]
 | (k,x)::r=>by
  have ih:=NP f v r;rw[show cB f v ((k,x)::r)=(if k=f then(k,v)::r else(k,x)::cB f v r)from rfl]
  by_cases hk:k=f
  ·rw[if_pos hk,List.length_cons,List.length_cons];omega
  ·rw[if_neg hk,List.length_cons,List.length_cons];omega
def Fq.some_of{v:V}{o:Option Value}(r:Fq (some v) o):∃u,o=some u/\RelV v u:=by
 cases o with
 | none=>exact(show False from r).elim
 | some u=>exact⟨u,rfl,r⟩
def Fq.none_of{o:Option Value}(r:Fq none o):o=none:=by
 cases o with
 | none=>rfl
 | some u=>exact(show False from r).elim
def Zla{v:V}{u:Value}(r:RelV v u):PySem.W.handedIn u=true:=by
 cases v with
 | non=>cases (show u=Value.none from r);rfl
 | bl b=>cases (show u=Value.bool b from r);rfl
 | int i=>obtain⟨t,e⟩:=(show ∃t,u=Value.int i t from r);cases e;rfl
 | str x=>obtain⟨t,e⟩:=(show ∃t,u=Value.str x t from r);cases e;rfl
 | byt b=>obtain⟨t,e⟩:=(show ∃t,u=Value.bytes b t from r);cases e;rfl
 | flt b=>obtain⟨t,e⟩:=(show ∃t,u=Value.float b t from r);cases e;rfl
 | ref a=>cases (show u=Value.ref a from r);rfl
 | ty n=>cases (show u=Value.type n from r);rfl
section
variable {P:Program}{w:World}{H H':Hp}{h h':Heap}{a C dx:Addr}{fs fs':List (Str×V)}
def Py(hok:Ei P w H h)(e:H a=some (.ins C dx fs)):∃mA,Zi6 h a dx C mA/\(∀f,Fq (fs.lookup f) (mA f))/\PySem.Within mA (fs.map (·.1))/\fs.length<=1000/\H dx=some (.own a):=by
 obtain⟨d,z,ne,ob,mA,n,r,q⟩:=(show kE P w H h a (.ins C dx fs)from hok a _ e);exact⟨mA,⟨ob,n,ne⟩,r,q,z,d⟩
end
structure Gf(K:aB)(C:Addr):Prop where
 pg:PySem.W.plainGet K C Str.empty=true
 hd:PySem.W.hasDictIn K C=true
 po:PySem.W.plainOver K C=true
 sa:PySem.W.findIn K (.ref C) "__setattr__"=some (some (.builtin "object.__setattr__"))
def Gf.get{K:aB}{C:Addr}(c:Gf K C)(f:Str):PySem.W.plainGet K C f=true:=c.pg
def bK(K:aB)(C:Addr)(f:Str):Prop:=PySem.W.findIn K (.ref C) f=some none
def bK.taker{K:aB}{C:Addr}{f:Str}(n:bK K C f):PySem.W.takerIn K C f=some none:=by
 unfold PySem.W.takerIn;rw[show PySem.W.findIn K (.ref C) f=some none from n];rfl
structure Con(K:aB)(C:Addr)(f:Str)(v:V)(u:Value):Prop where
 at_:PySem.W.findIn K (.ref C) f=some (some u)
 rel:RelV v u
 get:PySem.W.specialIn K u "__get__"=some none
 cp:PySem.W.copiedNames.contains f=false
structure Meth(K:aB)(C:Addr)(m:Str)(f:Addr):Prop where
 at_:PySem.W.findIn K (.ref C) m=some (some (.ref f))
 fn:PySem.W.isFn K (.ref f)=true
 kp:PySem.W.keepIn K (.ref f)=true
section
variable {X:Cx}{pins:List (Addr×Obj)}{σ:St}{H:Hp}{s:Shared}{a C dx:Addr}{fs:List (Str×V)}{f:Str}{v:V}{A:Around}{E:Value->Shared->Prop}
def Zhb{b:Bool}{Q:Value->Shared->Prop}(I:Inv X pins σ H s)(e:H a=some (.ins C dx fs))(c:Gf X.K C)(n:bK X.K C f)(l:fs.lookup f=some v)
  (h:∀u s',Inv X pins σ H s'->RelV v u->Q u s'):wpAny (model X.prog X.w) A (getAttr (.ref a) f b) Q E s:=by
 obtain⟨mA,O,r,_,_,_⟩:=Py I.hok e;obtain⟨u,hu,ru⟩:=Fq.some_of (v:=v) (o:=mA f) (by rw[<- l];exact r f);exact get_map I.DR O (c.get f) c.hd n hu (Zla ru) (h u _ (I.tok _) ru)
def R8{m:Str}{g:Addr}{pl:Sem Bool}{Q:Value×List Value->Shared->Prop}(I:Inv X pins σ H s)(e:H a=some (.ins C dx fs))(c:Gf X.K C)(k:Meth X.K C m g)(l:fs.lookup m=none)
  (h:Q (.ref g,[.ref a]) s):wpAny (model X.prog X.w) A (getMethod (.ref a) m pl) Q E s:=by
 obtain⟨mA,O,r,_,_,_⟩:=Py I.hok e;have hn:mA m=none:=Fq.none_of (by rw[<- l];exact r m);exact Zp4 I.DR O (c.get m) k.at_ k.fn hn h
def Zf7{y:V}{u:Value}{Q:Unit->Shared->Prop}(I:Inv X pins σ H s)(e:H a=some (.ins C dx fs))(c:Gf X.K C)(n:bK X.K C f)(hl:fs.length<1000)(ry:RelV y u)
  (h:∀s',Inv X pins σ (upd H a (.ins C dx (cB f y fs))) s'->Q () s'):wpAny (model X.prog X.w) A (setAttr (.ref a) f u) Q E s:=by
 obtain⟨mA,O,r,wi,_,ho⟩:=Py I.hok e;have hz:(fs.map (·.1)).length<=sizeLine:=by rw[aY,sizeLine_eq];omega
 refine Zq9 I.DR O c.sa c.po n.taker c.hd wi hz λh' O' sb=>h _ ?_;have hd:∃o,h'.get? dx=some o:=let ⟨o,_,_,e',_⟩:=O'.ns;⟨o,e'⟩
 refine I.write (x:=a) (e:=dx) (by rw[e];exact True.intro) (.inr ho) (λb q hb z=>(sb.2 b hb).trans z) hd ?_;refine⟨by rw[aC O.ne];exact ho,?_,O.ne,O'.obj,_,O'.ns,λg=>?_,λg hg=>?_⟩
 ·have:=NP f y fs;omega
 ·show Fq ((cB f y fs).lookup g) (if g=f then some u else mA g);rw[NB]
  by_cases q:g=f
  ·rw[if_pos q,if_pos q];exact ry
  ·rw[if_neg q,if_neg q];exact r g
 ·by_cases q:g=f
  ·rw[q];exact(Lj f y fs).1
  ·refine(Lj f y fs).2 g (wi g λz=>hg ?_);show(if g=f then some u else mA g)=none;rw[if_neg q];exact z
def Inv.made(I:Inv X pins σ H s):Inv X pins σ (upd (upd H s.heap.objs.size (.own (s.heap.objs.size+1))) (s.heap.objs.size+1) (.ins C s.heap.objs.size []))
  { s with heap:=(s.heap.push PySem.W.emptyDict).push (PySem.W.instObj C s.heap.objs.size) }:=by
 have e1:(s.heap.push PySem.W.emptyDict).get? s.heap.objs.size=some PySem.W.emptyDict:=Heap.get?_push_size s.heap rfl;have e2:((s.heap.push PySem.W.emptyDict).push (PySem.W.instObj C s.heap.objs.size)).get? (s.heap.objs.size+1)=some (PySem.W.instObj C s.heap.objs.size):=by
  have:=Heap.get?_push_size (s.heap.push PySem.W.emptyDict) (o:=PySem.W.instObj C s.heap.objs.size) rfl
  rwa [Heap.size_push]at this
 have e3:(s.heap.push PySem.W.emptyDict).Ns s.heap.objs.size (λ_=>none):=⟨PySem.W.emptyDict,#[],_,e1,rfl,(λe he=>absurd he (by simp)),λ_=>rfl⟩;have I1:=I.laid (a:=s.heap.objs.size) (o:=.own (s.heap.objs.size+1)) (h':=s.heap.push PySem.W.emptyDict) (t':=s.toks) (λb u q=>Heap.get?_push_of_some _ q) (Nat.le_refl _) ⟨_,e1⟩;refine I1.laid (a:=s.heap.objs.size+1) (o:=.ins C s.heap.objs.size []) (t':=s.toks) (λb u q=>Heap.get?_push_of_some _ q) (Nat.le_of_eq (Heap.size_push _ _)) ?_;have ne:s.heap.objs.size≠s.heap.objs.size+1:=Nat.ne_of_lt (Nat.lt_succ_self _);refine⟨by rw[aC ne,aq],Nat.zero_le _,ne,e2,λ_=>none,(Heap.Ns1.of_empty e3).at λo q=>Heap.get?_push_of_some _ q,λ_=>True.intro,λy hy=>absurd rfl hy⟩
def Zt7{prog:Program}{w:World}{env:Env}{e:Expr}{f:Str}{pos:Pos}{s:Shared}{Q:Value->Shared->Prop}(hb:attributeBase e f env (eval e env)=eval e env)
  (h:wpAny (model prog w) A (eval e env) (λo s₁=>wpAny (model prog w) A (getAttr o f true) Q E s₁) E s):wpAny (model prog w) A (eval (.Attribute e f pos) env) Q E s:=
 Attribute_any_ h (by rw[arm_eval_Attribute,hb])
end
def bw(K:aB)(ta:TE)(f:Str):TE:=λσ H Q=>ta σ H λx H1=>∃a C dx fs v,x=.ref a/\H1 a=some (.ins C dx fs)/\Gf K C/\bK K C f/\fs.lookup f=some v/\Q v H1
def ie(K:aB)(ta tv:TE)(f:Str):TS:=λD σ H=>tv σ H λy H1=>ta σ H1 λx H2=>∃a C dx fs,x=.ref a/\H2 a=some (.ins C dx fs)/\Gf K C/\bK K C f/\fs.length<1000/\
 D.nx σ (upd H2 a (.ins C dx (cB f y fs)))
section
variable {X:Cx}{o e value:Expr}{f:Str}{pos pos' tpos:Pos}{ta tv:TE}
def aJ(he:PE X e ta)(hb:attributeBase e f X.env (eval e X.env)=eval e X.env):PE X (.Attribute e f pos) (bw X.K ta f):=by
 intro pins s σ H Q I h;refine Zt7 hb (jV (he pins s σ H _ I h) λu s1 ⟨x,H1,I1,rx,a,C,dx,fs,v,ex,ea,c,n,l,q⟩=>?_);subst ex;obtain rfl:u=Value.ref a:=rx;exact Zhb I1 ea c n l λu' s2 I2 ru=>⟨v,H1,I2,ru,q⟩
def cC(ha:PE X o ta)(hv:PE X value tv)(hs:swapsWith value (some (.Attribute o f pos')) pos.line X.env=pure false):PS X (.Assign [.Attribute o f pos'] value pos) (ie X.K ta tv f):=by
 intro pins s σ H D I h;refine plainObj_wpAny_Assign_Attribute (jV (hv pins s σ H _ I h) λu s1 ⟨y,H1,I1,ry,q⟩=>jV (ha pins s1 σ H1 _ I1 q) λov s2 ⟨x,H2,I2,rx,a,C,dx,fs,ex,ea,c,n,l,q2⟩=>?_) hs;subst ex;obtain rfl:ov=Value.ref a:=rx;exact Zf7 I2 ea c n l ry λs3 I3=>⟨σ,_,I3,q2⟩
end
section
variable {X:Cx}{pins:List (Addr×Obj)}{σ:St}{H:Hp}{s:Shared}{A:Around}{E:Value->Shared->Prop}{Q:Value->Shared->Prop}{c:Value}{b:Bool}
inductive Mr(K:aB)(H:Hp):V->Value->Prop where
 | non:Mr K H .non (.type "NoneType")
 | bl (x:Bool):Mr K H (.bl x) (.type "bool")
 | int (i:Int):Mr K H (.int i) (.type "int")
 | str (x:Str):Mr K H (.str x) (.type "str")
 | flt (x:UInt64):Mr K H (.flt x) (.type "float")
 | lst {a:Addr}{xs:List V} (e:H a=some (.lst xs)):Mr K H (.ref a) (.type "list")
 | zp {a:Addr}{o:Obj}{xs:List V} (e:H a=some (.zp o (.lst xs))):Mr K H (.ref a) (.type "list")
 | tup {a:Addr}{xs:List V} (e:H a=some (.tup xs)):Mr K H (.ref a) (.type "tuple")
 | dK {a:Addr}{kvs:List (Key×V)} (e:H a=some (.dK kvs)):Mr K H (.ref a) (.type "dict")
 | dT {a:Addr}{kvs:List (List Key×V)} (e:H a=some (.dT kvs)):Mr K H (.ref a) (.type "dict")
 | ins {a C dx:Addr}{fs:List (Str×V)} (e:H a=some (.ins C dx fs)) (cl:Gf K C) (ha:PySem.W.findIn K (.ref C) "__class__"=some (some (.builtin "object.__class__")))
   (hn:PySem.W.specialIn K (.builtin "object.__class__") "__get__"=some (some (.builtin "getset_descriptor.__get__"))) (htk:PySem.W.takesIn K (.builtin "object.__class__")=some true)
   (hm:PySem.W.mroIn K C (.type "object")=some true):Mr K H (.ref a) (.ref C)
def Zkq{x:V}{u t:Value}(I:Inv X pins σ H s)(rx:RelV x u)(ty:Mr X.K H x t)(e:PySem.W.kitOne X.K t c=some b)(h:∀tk,Q (.bool b) { s with toks:=tk }):
  wpAny (model X.prog X.w) A (call (.builtin "isinstance") [u,c]) Q E s:=by
 cases ty with
 | non=>cases (show u=Value.none from rx);exact PySem.W.kia_one PySem.W.kitx_none I.DR True.intro e (λz=>nomatch z) h
 | bl y=>cases (show u=Value.bool y from rx);exact PySem.W.kia_one PySem.W.kitx_bool I.DR True.intro e (λz=>nomatch z) h
 | int i=>obtain⟨t,q⟩:=(show ∃t,u=Value.int i t from rx);cases q;exact PySem.W.kia_one PySem.W.kitx_int I.DR True.intro e (λz=>nomatch z) h
 | str y=>obtain⟨t,q⟩:=(show ∃t,u=Value.str y t from rx);cases q;exact PySem.W.kia_one PySem.W.kitx_str I.DR True.intro e (λz=>nomatch z) h
 | flt y=>obtain⟨t,q⟩:=(show ∃t,u=Value.float y t from rx);cases q;exact PySem.W.kia_one PySem.W.kitx_float I.DR True.intro e (λz=>nomatch z) h
 | @lst a xs ea=>
  cases (show u=Value.ref a from rx);obtain⟨_,_,n,_,h1⟩:=(show kE X.prog X.w H s.heap a (.lst xs)from I.hok a _ ea);exact PySem.W.kia_one PySem.W.kitx_list I.DR ⟨_,h1,rfl⟩ e (λz=>nomatch z) h
 | @zp a ob xs ea=>
  cases (show u=Value.ref a from rx);obtain⟨_,_,_,n,_,h1⟩:=(show kE X.prog X.w H s.heap a (.zp ob (.lst xs))from I.hok a _ ea);exact PySem.W.kia_one PySem.W.kitx_list I.DR ⟨_,h1,rfl⟩ e (λz=>nomatch z) h
 | @tup a xs ea=>
  cases (show u=Value.ref a from rx);obtain⟨_,_,_,p⟩:=(show kE X.prog X.w H s.heap a (.tup xs)from I.hok a _ ea);obtain⟨o,h1,h2,_⟩:=p;exact PySem.W.kia_one PySem.W.kitx_tuple I.DR ⟨o,h1,h2⟩ e (λz=>nomatch z) h
 | @dK a kvs ea=>
  cases (show u=Value.ref a from rx);obtain⟨_,_,vs,_,p⟩:=(show kE X.prog X.w H s.heap a (.dK kvs)from I.hok a _ ea);obtain⟨o,es,ep,h1,h2,_⟩:=p;exact PySem.W.kia_one PySem.W.kitx_dict I.DR ⟨o,h1,h2.1⟩ e (λz=>nomatch z) h
 | @dT a kvs ea=>
  cases (show u=Value.ref a from rx);obtain⟨_,_,xs,_,o,es,ep,h1,h2,_⟩:=(show kE X.prog X.w H s.heap a (.dT kvs)from I.hok a _ ea);exact PySem.W.kia_one PySem.W.kitx_dict I.DR ⟨o,h1,h2.1⟩ e (λz=>nomatch z) h
 | @ins a C dx fs ea cl ha hn htk hm=>
  cases (show u=Value.ref a from rx);obtain⟨mA,O,_⟩:=Py I.hok ea;obtain⟨od,J,_⟩:=O.look;exact PySem.W.kia_one (PySem.W.kitx_own (cl.get _) cl.hd ha hn htk hm) I.DR J e (λz=>nomatch z) h
end
end L2
namespace L2
open PySem PySem.Spec PyProof.Rows
structure Room(k:Nat)(A:Around):Prop where
 hd:A.handled=none
 dp:A.depth+3 * k+5<recursionLimit
 un:A.units+16 * k+200<cLine
def Room.mono{j k:Nat}{A:Around}(r:Room k A)(h:j<=k):Room j A:=⟨r.hd,by have:=r.dp;omega,by have:=r.un;omega⟩
def Room.deeper{k:Nat}{A:Around}(r:Room (k+1) A)(env:Env):Room k (A.deeper env):=
 ⟨r.hd,by have:=r.dp;show A.depth+1+3 * k+5<_;omega,by have:=r.un;show A.units+3+16 * k+200<_;omega⟩
def Zgr{A:Around}{C:Addr}{us:List Value}{kw:List (Str×Value)}:(A.under (.builtin "type.__call__" ⟨.ref C::us,kw⟩)).depth=A.depth+1:=by
 first | rfl | simp[Around.under,Code.weight,Code.isCreation,Code.isGuard,Code.isCaller,Code.frames,Code.isFrame,guardIds]
def Zgq{A:Around}{C:Addr}{us:List Value}{kw:List (Str×Value)}:(A.under (.builtin "type.__call__" ⟨.ref C::us,kw⟩)).units=A.units+1:=by
 first | rfl | simp[Around.under,Code.cUnits,Code.frames,Code.isFrame]
def Room.make{k:Nat}{A:Around}(r:Room (k+1) A)(C:Addr)(us:List Value)(kw:List (Str×Value)):Room k (A.under (.builtin "type.__call__" ⟨.ref C::us,kw⟩)):=
 ⟨r.hd,by have:=r.dp;rw[Zgr];omega,by have:=r.un;rw[Zgq];omega⟩
def Room.depth{k:Nat}{A:Around}(r:Room k A):A.depth<recursionLimit:=by have:=r.dp;omega
def Room.units{k:Nat}{A:Around}(r:Room k A):A.units+64<cLine:=by have:=r.un;omega
def aD:TA:=λ_ H Q=>Q [] H
def aj(ta:TE)(tr:TA):TA:=λσ H Q=>ta σ H λx H1=>tr σ H1 λxs H2=>Q (x::xs) H2
section
variable {X:Cx}{e:Expr}{es:List Expr}{te:TE}{t:TA}{pos:Pos}
def au:PA X [] aD:=λ_ _ _ _ H Q I h=>Calls.spliced_nil ⟨[],H,I,.nil,h⟩
def aa(ha:PE X e te)(hr:PA X es t)(hs:starEach (e::es) X.env=(false,eval e X.env)::starEach es X.env:=by rfl):PA X (e::es) (aj te t):=by
 intro pos pins s σ H Q I h;rw[hs];show wpAny _ _ (spliced ((false,eval e X.env)::backTo pos (starEach es X.env))) _ _ s;refine Calls.spliced_cons (jV (ha pins s σ H _ I h) λu s1 ⟨x,H1,I1,r1,q1⟩=>?_);exact jV (hr pos pins s1 σ H1 _ I1 q1) λus s2 ⟨xs,H2,I2,r2,q2⟩=>⟨x::xs,H2,I2,.cons r1 r2,q2⟩
def gf(t:TA):TE:=λσ H Q=>t σ H λxs H1=>xs.length<=sizeLine/\∀p,H1 p=none->Q (.ref p) (upd H1 p (.tup xs))
def iz(t:TA):TE:=λσ H Q=>t σ H λxs H1=>xs.length<=sizeLine/\∀p,H1 p=none->Q (.ref p) (upd H1 p (.lst xs))
def cP{x1}(h:PA X es t):PE X (.Tuple es x1 pos) (gf t):=by
 intro pins s σ H Q I hq;refine wpAny_Tuple_spliced (jV (h pos pins s σ H _ I hq) λus s1 ⟨xs,H1,I1,r,z,q⟩=>⟨by rw[<- r.length];exact z,?_⟩);have hf:H1 s1.heap.objs.size=none:=I1.hok.fresh (Nat.le_refl _);refine⟨.ref s1.heap.objs.size,upd H1 s1.heap.objs.size (.tup xs),I1.laid (t':=s1.toks) (λb u e=>Heap.get?_push_of_some _ e) (Nat.le_refl _) ?_,rfl,q _ hf⟩;exact⟨z,us,r,⟨_,Heap.get?_push_size _ rfl,rfl,_,rfl⟩⟩
def dg(h:PA X es t):PE X (.List es pos) (iz t):=by
 intro pins s σ H Q I hq;refine wpAny_List_spliced (jV (h pos pins s σ H _ I hq) λus s1 ⟨xs,H1,I1,r,z,q⟩=>⟨by rw[<- r.length];exact z,?_⟩);have hf:H1 s1.heap.objs.size=none:=I1.hok.fresh (Nat.le_refl _);refine⟨.ref s1.heap.objs.size,upd H1 s1.heap.objs.size (.lst xs),I1.laid (t':=s1.toks) (λb u e=>Heap.get?_push_of_some _ e) (Nat.le_refl _) ?_,rfl,q _ hf⟩;exact⟨z,us,0,r,Heap.get?_push_size _ rfl⟩
end
abbrev Sp:=List V->Hp->VK->XK->Prop
abbrev CXT:=List Env->Hp->Shared->XK->Value->Shared->Prop
structure Zi9(P:Program)(w:World)(K:aB)(mg:Str->Option Value)(base:Heap)(A:Around)(outer:List Env)(s:Shared)(H:Hp):Prop where
 frames:A.frames=some outer
 mod:Mod K mg base
 bs:∀b o,base.get? b=some o->s.heap.get? b=some o/\H b=none
 bsz:base.objs.size<=s.heap.objs.size
 Bf:s.heap.FunFrames base outer
 frf:∀b∈frs outer,H b=none
 hok:Ei P w H s.heap
 bare:AllBare s.gens
def CE(outer:List Env)(P:Program)(w:World)(H:Hp)(s:Shared)(Q:VK)(u:Value)(s':Shared):Prop:=
 ∃v H',s'.os=s.os/\AllBare s'.gens/\Un (frs outer) [] H H' s.heap s'.heap/\Ei P w H' s'.heap/\RelV v u/\Q v H'
def CR(CX:CXT)(outer:List Env)(P:Program)(w:World)(H:Hp)(s:Shared)(Q:VK)(E:XK)(r:Result)(s':Shared):Prop:=
 match r with
 | .ok (.ret u)=>CE outer P w H s Q u s'
 | .ok _=>False
 | .error e=>CX outer H s E e s'
structure vM(P:Program)(w:World)(K:aB)(mg:Str->Option Value)(base:Heap)(CX:CXT)(k:Nat)(f:Addr)(fd:FuncData)(ps:List Str)(sp:Sp):Prop where
 len:∀vs H Q E,sp vs H Q E->vs.length=ps.length
 run:∀(A:Around) (outer:List Env) (s:Shared) (H:Hp) (args:Args) (us:List Value) (vs:List V) (Q:VK) (E:XK),Room k A->Zi9 P w K mg base A outer s H->BindsTo s fd args (ps.zip us)->Vals vs us->sp vs H Q E->
  codeAny (model P w) A (.call (.ref f) args) (CR CX outer P w H s Q E) s
def Zi9.make{P:Program}{w:World}{K:aB}{mg:Str->Option Value}{base:Heap}{A:Around}{outer:List Env}{s:Shared}{H:Hp}(e:Zi9 P w K mg base A outer s H)(C:Addr)(us:List Value)(kw:List (Str×Value)):
  Zi9 P w K mg base (A.under (.builtin "type.__call__" ⟨.ref C::us,kw⟩)) outer s H:=⟨by first | exact e.frames | (simpa[Around.under,Code.envs,Code.isFrame,pushEnvs]using e.frames),e.mod,e.bs,e.bsz,e.Bf,e.frf,e.hok,e.bare⟩
section
variable {X:Cx}{pins:List (Addr×Obj)}{σ:St}{H:Hp}{s s':Shared}
def Inv.env0(I:Inv X pins σ H s):Zi9 X.prog X.w X.K X.mg X.base X.A X.stack s H:=
 ⟨I.ok.frames,I.ok.mod,I.bs,Nat.le_trans I.ok.bsz I.sz,I.stack,I.XR,I.hok,I.bare⟩
def Inv.after{Q:VK}{u:Value}(I:Inv X pins σ H s)(h:CE X.stack X.prog X.w H s Q u s'):EP X pins σ Q u s':=by
 obtain⟨v,H',os,bare,un,hok,r,q⟩:=h;obtain⟨hh,g,d,t,os'⟩:=s';obtain rfl:os'=s.os:=os;exact⟨v,H',I.call (h':=hh) (g':=g) (d':=d) (t':=t) (ch:=[]) un hok bare (λb z=>absurd z (by simp)),r,q⟩
end
def aQ(sp:Sp)(vP:List V)(E:XK)(t:TA):TE:=λσ H Q=>t σ H λvs H1=>sp (vs++vP) H1 Q E
def lX(C:Addr)(m:Str)(sp:Sp)(vP:List V)(E:XK)(ta:TE)(t:TA):TE:=λσ H Q=>ta σ H λx H1=>∃a dx fs,x=.ref a/\H1 a=some (.ins C dx fs)/\fs.lookup m=none/\
 t σ H1 λvs H2=>sp (x::(vs++vP)) H2 Q E
def Bs(C:Addr)(sp:Sp)(vP:List V)(E:XK)(t:TA):TE:=λσ H Q=>t σ H λvs H1=>∀x dx,H1 x=none->H1 dx=none->dx≠x->
 sp (.ref x::(vs++vP)) (upd (upd H1 dx (.own x)) x (.ins C dx [])) (λv H2=>v=.non/\Q (.ref x) H2) E
def Binds(K:aB)(fd:FuncData)(ps:List Str)(ds:List Value):Prop:=
 ∀(s:Shared) (us:List Value),K.In s.heap->(us++ds).length=ps.length->BindsTo s fd ⟨us,[]⟩ (ps.zip (us++ds))
def Binds.all{K:aB}{fd:FuncData}{ps:List Str}(h:∀us:List Value,us.length=ps.length->bindArgs fd ⟨us,[]⟩=pure (ps.zip us)):Binds K fd ps []:=λs us _ hl=>by
 rw[List.append_nil]at hl ⊢;exact .of_eq (h us hl)
def Passes(CX:CXT)(X:Cx)(E:XK):Prop:=∀(pins:List (Addr×Obj)) (σ:St) (H:Hp) (s:Shared) (e:Value) (s':Shared),Inv X pins σ H s->CX X.stack H s E e s'->X.xe e s'
section
variable {X:Cx}{CX:CXT}{k:Nat}{f C:Addr}{fd:FuncData}{ps:List Str}{sp:Sp}{vP:List V}{ds:List Value}{E:XK}{x m:Str}{p pos apos:Pos}{e o:Expr}{es:List Expr}{ta:TE}{t:TA}
def YG{pins:List (Addr×Obj)}{σ:St}{H:Hp}{s:Shared}{Q:VK}{us:List Value}{vs:List V}(F:vM X.prog X.w X.K X.mg X.base CX k f fd ps sp)(hr:Room k X.A)(hb:Binds X.K fd ps ds)(hd:Vals vP ds)(hx:Passes CX X E)
  (I:Inv X pins σ H s) (r:Vals vs us) (h:sp (vs++vP) H Q E):wpAny (model X.prog X.w) X.A (call (.ref f) us) (EP X pins σ Q) X.xe s:=by
 have r2:Vals (vs++vP) (us++ds):=r.append hd;have hl:(us++ds).length=ps.length:=by rw[<- r2.length];exact F.len _ _ _ _ h
 refine wpAny_call (codeAny_mono (F.run X.A X.stack s H ⟨us,[]⟩ (us++ds) (vs++vP) Q E hr I.env0 (hb s us I.DR hl) r2 h) λr s' hq=>?_);cases r with
 | error e=>exact hx pins σ H s e s' I hq
 | ok fl=>
  cases fl with
  | ret u=>exact I.after hq
  | next=>exact False.elim hq
  | brk=>exact False.elim hq
  | cont=>exact False.elim hq
def wz(F:vM X.prog X.w X.K X.mg X.base CX k f fd ps sp)(hr:Room k X.A)(hg:Gl X x)(hm:X.mg x=some (.ref f))(hk:PySem.W.keepIn X.K (.ref f)=true)(hb:Binds X.K fd ps ds)(hd:Vals vP ds)(hx:Passes CX X E)
  (ha:PA X (e::es) t) (hdb:(x == ("__debug__":Str))=false:=by decide) (he:starEach (e::es) X.env=(false,eval e X.env)::starEach es X.env:=by rfl) (hpl:(backTo pos (starEach es X.env)).any (·.1)=false:=by rfl):
  PE X (.Call (.Name x p) (e::es) [] pos) (aQ sp vP E t):=by
 intro pins s σ H Q I h;refine wpAny_Call_Name_kw (uA I hg hm ?_ hdb);refine PySem.W.callWith_K (h₀:=X.base) I.ok.mod.kin hk (jV (ha pos pins s σ H _ I h) λus s1 ⟨vs,H1,I1,r,q⟩=>⟨I1.DR,?_⟩) he hpl;exact YG F hr hb hd hx I1 r q
def su{pl:Sem Bool}(he:PE X o ta)(c:Gf X.K C)(hm:Meth X.K C m f)(F:vM X.prog X.w X.K X.mg X.base CX k f fd ps sp)(hr:Room k X.A)(hb:Binds X.K fd ps ds)(hd:Vals vP ds)(hx:Passes CX X E)(ha:PA X (e::es) t)
  (hst:starEach (e::es) X.env=(false,eval e X.env)::starEach es X.env:=by rfl) (hpl:(backTo pos (starEach es X.env)).any (·.1)=false:=by rfl)
  (ht:eval (.Call (.Attribute o m apos) (e::es) [] pos) X.env=(do
   let ov <- eval o X.env
   standAt apos.atName
   let (f,first) <- holding [ov] (getMethod ov m pl)
   callWith pos f first (backTo pos (starEach (e::es) X.env)) (backToKw pos (keywordEach [] X.env))):=by rfl):
  PE X (.Call (.Attribute o m apos) (e::es) [] pos) (lX C m sp vP E ta t):=by
 intro pins s σ H Q I h;refine PySem.W.methodCall_KW (pl:=pl) (jV (he pins s σ H _ I h) λu s1 ⟨x,H1,I1,rx,a,dx,fs,ex,ea,l,q⟩=>?_) ht;subst ex;obtain rfl:u=Value.ref a:=rx;refine R8 I1 ea c hm l ?_;refine PySem.W.callWith_K (first:=[.ref a]) (h₀:=X.base) I.ok.mod.kin hm.kp (jV (ha pos pins s1 σ H1 _ I1 q) λus s2 ⟨vs,H2,I2,r,q2⟩=>⟨I2.DR,?_⟩) hst hpl;exact YG (us:=.ref a::us) (vs:=.ref a::vs) F hr hb hd hx I2 (.cons rfl r) q2
def nC{pl:Sem Bool}(he:PE X o ta)(c:Gf X.K C)(hm:Meth X.K C m f)(F:vM X.prog X.w X.K X.mg X.base CX k f fd ps sp)(hr:Room k X.A)(hb:Binds X.K fd ps ds)(hd:Vals vP ds)(hx:Passes CX X E)
  (ht:eval (.Call (.Attribute o m apos) [] [] pos) X.env=(do
   let ov <- eval o X.env
   standAt apos.atName
   let (f,first) <- holding [ov] (getMethod ov m pl)
   callWith pos f first (backTo pos (starEach [] X.env)) (backToKw pos (keywordEach [] X.env))):=by rfl):
  PE X (.Call (.Attribute o m apos) [] [] pos) (lX C m sp vP E ta aD):=by
 intro pins s σ H Q I h;refine PySem.W.methodCall_KW (pl:=pl) (jV (he pins s σ H _ I h) λu s1 ⟨x,H1,I1,rx,a,dx,fs,ex,ea,l,q⟩=>?_) ht;subst ex;obtain rfl:u=Value.ref a:=rx;refine R8 I1 ea c hm l ?_;exact PySem.W.callWith_K0 (first:=[.ref a]) I1.DR hm.kp (YG (us:=[.ref a]) (vs:=[.ref a]) F hr hb hd hx I1 (.cons rfl .nil) q)
structure Mk(K:aB)(C f:Addr):Prop where
 makes:PySem.W.makesIn K C=true
 init:PySem.W.findIn K (.ref C) "__init__"=some (some (.ref f))
 fn:PySem.W.isFn K (.ref f)=true
 kp:PySem.W.keepIn K (.ref C)=true
def Zbt{pins:List (Addr×Obj)}{σ:St}{H:Hp}{s:Shared}{Q:VK}{us:List Value}{vs:List V}(M:Mk X.K C f)(F:vM X.prog X.w X.K X.mg X.base CX k f fd ps sp)(hr:Room (k+1) X.A)(hb:Binds X.K fd ps ds)(hd:Vals vP ds)
  (hx:Passes CX X E) (I:Inv X pins σ H s) (r:Vals vs us)
  (h:∀x dx,H x=none->H dx=none->dx≠x->sp (.ref x::(vs++vP)) (upd (upd H dx (.own x)) x (.ins C dx [])) (λv H2=>v=.non/\Q (.ref x) H2) E):
  wpAny (model X.prog X.w) X.A (call (.ref C) us) (EP X pins σ Q) X.xe s:=by
 have hq:=h (s.heap.objs.size+1) s.heap.objs.size (I.hok.fresh (Nat.le_succ _)) (I.hok.fresh (Nat.le_refl _)) (Nat.ne_of_lt (Nat.lt_succ_self _));have I2:=Inv.made (C:=C) I;have r2:Vals (V.ref (s.heap.objs.size+1)::(vs++vP)) (Value.ref (s.heap.objs.size+1)::(us++ds)):=.cons rfl (r.append hd);have hl:(Value.ref (s.heap.objs.size+1)::us++ds).length=ps.length:=by
  have e:=r2.length;rw[F.len _ _ _ _ hq]at e;exact e.symm
 refine wpAny_call (Znt (f:=f) I.DR M.makes M.init (beq_iff_eq.mp M.fn) (codeAny_mono (F.run _ X.stack _ _ ⟨Value.ref (s.heap.objs.size+1)::us,[]⟩ (Value.ref (s.heap.objs.size+1)::(us++ds)) _ _ E (hr.make C us [])
  (I2.env0.make C us []) (hb _ (Value.ref (s.heap.objs.size+1)::us) I2.DR hl) r2 hq) λr s' hq'=>?_))
 cases r with
 | error e=>exact hx pins σ _ _ e s' I2 hq'
 | ok fl=>
  cases fl with
  | ret u=>
   obtain⟨v,H',I3,rv,ev,q3⟩:=I2.after hq';subst ev;exact⟨rv,⟨V.ref (s.heap.objs.size+1),H',I3,rfl,q3⟩⟩
  | next=>exact False.elim hq'
  | brk=>exact False.elim hq'
  | cont=>exact False.elim hq'
def Ak(M:Mk X.K C f)(F:vM X.prog X.w X.K X.mg X.base CX k f fd ps sp)(hr:Room (k+1) X.A)(hg:Gl X x)(hm:X.mg x=some (.ref C))(hb:Binds X.K fd ps ds)(hd:Vals vP ds)(hx:Passes CX X E)
  (ha:PA X (e::es) t) (hdb:(x == ("__debug__":Str))=false:=by decide) (he:starEach (e::es) X.env=(false,eval e X.env)::starEach es X.env:=by rfl) (hpl:(backTo pos (starEach es X.env)).any (·.1)=false:=by rfl):
  PE X (.Call (.Name x p) (e::es) [] pos) (Bs C sp vP E t):=by
 intro pins s σ H Q I h;refine wpAny_Call_Name_kw (uA I hg hm ?_ hdb);refine PySem.W.callWith_K (h₀:=X.base) I.ok.mod.kin M.kp (jV (ha pos pins s σ H _ I h) λus s1 ⟨vs,H1,I1,r,q⟩=>⟨I1.DR,?_⟩) he hpl;exact Zbt M F hr hb hd hx I1 r q
def Zn4(M:Mk X.K C f)(F:vM X.prog X.w X.K X.mg X.base CX k f fd ps sp)(hr:Room (k+1) X.A)(hg:Gl X x)(hm:X.mg x=some (.ref C))(hb:Binds X.K fd ps ds)(hd:Vals vP ds)(hx:Passes CX X E)
  (hdb:(x == ("__debug__":Str))=false:=by decide):PE X (.Call (.Name x p) [] [] pos) (Bs C sp vP E aD):=by
 intro pins s σ H Q I h;refine wpAny_Call_Name_kw (uA I hg hm ?_ hdb);exact PySem.W.callWith_K0 I.DR M.kp (Zbt (us:=[]) M F hr hb hd hx I .nil h)
end
section
variable {X:Cx}{CX:CXT}{k:Nat}{f C:Addr}{fd:FuncData}{ps ks:List Str}{sp:Sp}{E:XK}{x m:Str}{p pos apos kpos:Pos}{e o:Expr}{es:List Expr}{kws:List Keyword}{te ta:TE}{t tk:TA}{nm:Option Str}
structure ZHq(K:aB)(fd:FuncData)(ps ks:List Str)(g:List Value->List Value->List Value)(gV:List V->List V->List V):Prop where
 to:∀(s:Shared) (us ws:List Value),K.In s.heap->(g us ws).length=ps.length->BindsTo s fd ⟨us,ks.zip ws⟩ (ps.zip (g us ws))
 rel:∀{vs:List V}{us:List Value}{zs:List V}{ws:List Value},Vals vs us->Vals zs ws->Vals (gV vs zs) (g us ws)
variable {g:List Value->List Value->List Value}{gV:List V->List V->List V}
end
structure aP(N P:List Str)(sc:Scope):Prop where
 kind:sc.kind=.function
 co:sc.isCoroutine=false
 gen:sc.isGenerator=false
 nd:N.Nodup
 pre:N.take P.length=P
 par:∀x∈P,sc.names.lookup x=some .local\/sc.names.lookup x=some .cell
 Zv2:∀y∈sc.names,y.2≠.free
def Xq{kindOf:Str->Option NameKind}{x:Str}:∀{binds:List (Str×Value)}{m:Str->Option Value},(∀v,(x,v)∉binds)->bindL kindOf binds m x=m x
 | [],_,_=>rfl
 | (n,v)::r,m,h=>by
  unfold bindL;rw[Xq λw hw=>h w (List.mem_cons_of_mem _ hw)];split
  ·have:x≠n:=by rintro rfl;exact h v List.mem_cons_self
   simp[this]
  ·rfl
def Xu{kindOf:Str->Option NameKind}{x:Str}:∀{binds:List (Str×Value)}{m:Str->Option Value},(∀v,(x,v)∉binds)->bindC kindOf binds m x=m x
 | [],_,_=>rfl
 | (n,v)::r,m,h=>by
  unfold bindC;rw[Xu λw hw=>h w (List.mem_cons_of_mem _ hw)];split
  ·rfl
  ·have:x≠n:=by rintro rfl;exact h v List.mem_cons_self
   simp[this]
def Xr{kindOf:Str->Option NameKind}{x:Str}{v:Value}:∀{P:List Str}{vs:List Value}{i:Nat}{m:Str->Option Value},P.Nodup->P[i]? =some x->vs[i]? =some v->kindOf x=some .local->
  bindL kindOf (P.zip vs) m x=some v
 | [],_,_,_,_,h,_,_=>by simp at h
 | _::_,[],_,_,_,_,h,_=>by simp at h
 | p::P,w::vs,0,m,nd,h1,h2,hk=>by
  simp at h1 h2;subst h1;subst h2;show bindL kindOf ((p,w)::P.zip vs) m p=_;unfold bindL;rw[Xq λv hv=>(List.nodup_cons.mp nd).1 (List.of_mem_zip hv).1,if_pos hk];simp
 | p::P,w::vs,i+1,m,nd,h1,h2,hk=>by
  show bindL kindOf ((p,w)::P.zip vs) m x=_;unfold bindL;exact Xr (i:=i) (List.nodup_cons.mp nd).2 (by simpa using h1) (by simpa using h2) hk
def Xv{kindOf:Str->Option NameKind}{x:Str}{v:Value}:∀{P:List Str}{vs:List Value}{i:Nat}{m:Str->Option Value},P.Nodup->P[i]? =some x->vs[i]? =some v->kindOf x≠some .local->
  bindC kindOf (P.zip vs) m x=some v
 | [],_,_,_,_,h,_,_=>by simp at h
 | _::_,[],_,_,_,_,h,_=>by simp at h
 | p::P,w::vs,0,m,nd,h1,h2,hk=>by
  simp at h1 h2;subst h1;subst h2;show bindC kindOf ((p,w)::P.zip vs) m p=_;unfold bindC;rw[Xu λv hv=>(List.nodup_cons.mp nd).1 (List.of_mem_zip hv).1,if_neg hk];simp
 | p::P,w::vs,i+1,m,nd,h1,h2,hk=>by
  show bindC kindOf ((p,w)::P.zip vs) m x=_;unfold bindC;exact Xv (i:=i) (List.nodup_cons.mp nd).2 (by simpa using h1) (by simpa using h2) hk
def start(N:List Str)(vs:List V):St:=vs.map some++List.replicate (N.length - vs.length) none
def Mm(CX:CXT)(P:Program)(w:World)(K:aB)(mg:Str->Option Value)(base:Heap)(N:List Str)(qual:Str)(scope:Scope)(f:Addr)(cd:Value)(A:Around)(outer:List Env)(s:Shared)(H:Hp)(E:XK):Cx where
 prog:=P
 w:=w
 K:=K
 mg:=mg
 base:=base
 A:=A.deeper (envOfC qual scope s.heap.objs.size f cd)
 N:=N
 s₀:=s
 H₀:=H
 env:=envOfC qual scope s.heap.objs.size f cd
 outer:=outer
 stack:=envOfC qual scope s.heap.objs.size f cd::outer
 ex:=[]
 calm:=true
 fn:=λ_=>true
 pn:=[]
 xe:=λe s'=>wpAny (model P w) (A.deeper (envOfC qual scope s.heap.objs.size f cd)) (leaving (envOfC qual scope s.heap.objs.size f cd) e) (λ_ s''=>CX outer H s E e s'') (λe' s''=>CX outer H s E e' s'') s'
def Ze1{sc:Scope}{n:Nat}{x:Str}(h:sc.names.lookup x=some .cell):∃c,(cellsFrom n sc.names []).lookup x=some c:=by
 have q:=PySem.W.cellsFrom_some sc.names n [] (.inl h);exact Option.isSome_iff_exists.mp q
def Zkt{CX:CXT}{P:Program}{w:World}{K:aB}{mg:Str->Option Value}{base:Heap}{N ps:List Str}{qual:Str}{scope:Scope}{f:Addr}{cd:Value}{A:Around}{outer:List Env}{s s1:Shared}{H:Hp}{E:XK}{us:List Value}{vs:List V}
  (S:aP N ps scope) (hd:A.handled=none) (e0:Zi9 P w K mg base A outer s H) (hl:vs.length=ps.length) (r:Vals vs us)
  (x:InCallC s s.heap.objs.size (bindL (envOfC qual scope s.heap.objs.size f cd).kindOf (ps.zip us) λ_=>none) (cellsFrom (s.heap.objs.size+1) scope.names []) (bindC (envOfC qual scope s.heap.objs.size f cd).kindOf (ps.zip us) λ_=>none) s1):
  Inv (Mm CX P w K mg base N qual scope f cd A outer s H E) [] (start N vs) H s1:=by
 have hpl:ps.length<=N.length:=by have:=congrArg List.length S.pre;rw[List.length_take]at this;omega
 obtain⟨h1,tk,rfl,hk⟩:=x.done;have noA:∀b:Addr,b∉(Mm CX P w K mg base N qual scope f cd A outer s H E).ex:=λb z=>absurd (show b∈([]:List Addr)from z) (by simp);refine⟨⟨e0.mod,S.kind,rfl,rfl,Nat.le_refl _,λy z c h1 h2=>?_,λy hy=>?_,λy c _ h=>?_,λ_=>hd,Around.frames_deeper e0.frames,.inr ⟨rfl,rfl⟩,λb z=>absurd z (noA b),e0.bs,e0.bsz,λb _ _=>noA b,λb z=>absurd z (noA b),e0.Bf,e0.frf⟩,
  rfl,e0.bare,Un.kept hk,⟨_,x.toInCall.ns,λi y v h1 h2 h3=>?_⟩,λy c h=>⟨_,x.cell y c h⟩,e0.hok.fresh (Nat.le_refl _),λy c h=>?_,λp hp=>absurd (show p∈([]:List (Addr×Obj))from hp) (by simp),e0.hok.kept hk,?_⟩
 ·exact name_of_addr x.apart (PySem.mem_of_lookup h1) (PySem.mem_of_lookup h2)
 ·have hy:scope.names.lookup y=some .cell\/scope.names.lookup y=some .free:=hy;rcases hy with hy | hy
  ·exact Ze1 hy
  ·exact absurd rfl (S.Zv2 _ (PySem.mem_of_lookup hy))
 ·exact Nat.le_of_lt (x.above y c (PySem.mem_of_lookup h))
 ·have hi:i<vs.length:=by
   unfold start at h2
   by_cases hi:i<vs.length
   ·exact hi
   ·rw[List.getElem?_append_right (by simpa using hi)]at h2;rw[List.getElem?_replicate]at h2;split at h2<;>cases h2
  have ha:vs[i]? =some v:=by
   unfold start at h2;rw[List.getElem?_append_left (by simpa using hi),cz]at h2;cases e:vs[i]? with
   | none=>rw[e]at h2;cases h2
   | some a=>rw[e]at h2;cases h2;rfl
  obtain⟨u,hu,rv⟩:=r.get ha;have hp:ps[i]? =some y:=by
   rw[<- S.pre,List.getElem?_take_of_lt (by omega)];exact h1
  have ndP:ps.Nodup:=by rw[<- S.pre];exact S.nd.sublist (List.take_sublist _ _)
  refine⟨u,rv,?_⟩;rcases S.par y (List.mem_of_getElem? hp)with k | k
  ·exact .inl ⟨k,Xr ndP hp hu k⟩
  ·obtain⟨c,e⟩:=Ze1 (n:=s.heap.objs.size+1) k;refine .inr ⟨.inl k,c,e,?_⟩;have q:=x.cell y c e;rw[Xv ndP hp hu (by show scope.names.lookup y≠_;rw[k];decide)]at q;exact q
 ·exact e0.hok.fresh (Nat.le_of_lt (x.above y c (PySem.mem_of_lookup h)))
 ·unfold start;show _=N.length;rw[List.length_append,aY,List.length_replicate];omega
def Zpa{CX:CXT}{P:Program}{w:World}{K:aB}{mg:Str->Option Value}{base:Heap}{k:Nat}{f:Addr}{name qual:Str}{params:Arguments}{body:List Stmt}{scope:Scope}{dV kV doc pm cdv ct oc:Value}{an od:Option Addr}
  {osl:Array (Option Value)}{N ps:List Str}{sp:Sp} (lk:K.lookup f=some ⟨oc,od,.func (PySem.W.fnOf name qual params body scope dV kV doc pm an cdv ct),osl⟩) (hcd:PySem.W.codeIn K cdv qual=true) (S:aP N ps scope)
  (len:∀vs H Q E,sp vs H Q E->vs.length=ps.length)
  (hbody:∀(A:Around) (outer:List Env) (s:Shared) (H:Hp) (vs:List V) (Q:VK) (E:XK),Room k (A.deeper (envOfC qual scope s.heap.objs.size f cdv))->sp vs H Q E->
   ∃t,PSs (Mm CX P w K mg base N qual scope f cdv A outer s H E) body t/\t { nx:=λ_ H'=>Q .non H',rt:=Q } (start N vs) H):
  vM P w K mg base CX (k+1) f (PySem.W.fnOf name qual params body scope dV kV doc pm an cdv ct) ps sp:=by
 refine⟨len,λA outer s H args us vs Q E hr e0 hb r hsp=>?_⟩;have hl:=len _ _ _ _ hsp;have KX:K.In s.heap:=e0.mod.kin.keeps λb o e=>(e0.bs b o e).1;have lim:s.heap.NoLimit:=e0.mod.nolimit.keeps λb o e=>(e0.bs b o e).1;have hkind:∀y∈ps.zip us,scope.names.lookup y.1=some .local\/(scope.names.lookup y.1=some .cell/\((cellsFrom (s.heap.objs.size+1) scope.names []).lookup y.1).isSome=true):=λ⟨n,v⟩ hy=>by
  rcases S.par n (List.of_mem_zip hy).1 with q | q
  ·exact .inl q
  ·exact .inr ⟨q,PySem.W.cellsFrom_some _ _ _ (.inl q)⟩
 refine codeAny_call_function hr.depth (KX _ _ lk) rfl S.co S.gen rfl (PySem.W.codeRec_of KX hcd) (hb _ _ _ _ ?_);refine wpAny_newFunctionEnv_cells S.kind hkind λenv he s1 x=>?_;subst he;refine⟨lim.keeps x.toInCall.keep,codeAny_func ?_⟩;obtain⟨t,ht,hq⟩:=hbody A outer s H vs Q E (hr.deeper _) hsp;have I:Inv (Mm CX P w K mg base N qual scope f cdv A outer s H E) [] (start N vs) H s1:=Zkt S hr.hd e0 hl r x;refine wpAny_mono (ht [] s1 (start N vs) H _ I hq) (λfl s' hs=>?_) λe s' hs=>hs;have fin:∀{σ':St}{H':Hp}{v:V}{u:Value},Inv (Mm CX P w K mg base N qual scope f cdv A outer s H E) [] σ' H' s'->RelV v u->Q v H'->CE outer P w H s Q u s':=
  λ{σ' H' v u} J rv q=>⟨v,H',J.os,J.bare,J.base,J.hok,rv,q⟩
 cases fl with
 | ret u=>
  obtain⟨v,σ',H',J,rv,q⟩:=hs;exact fin J rv q
 | next=>
  obtain⟨σ',H',J,q⟩:=hs;exact fin (v:=V.non) (u:=Value.none) J rfl q
 | brk=>
  obtain⟨_,_,_,q⟩:=hs;exact False.elim q
 | cont=>
  obtain⟨_,_,_,q⟩:=hs;exact False.elim q
end L2
namespace L2
open PySem PySem.Spec PyProof.Rows
section
variable {X:Cx}{x:Str}{p pos:Pos}{e:Expr}{es:List Expr}{t:TA}{id T:String}{r:List V->Hp->VK->Prop}
def wX(r:List V->Hp->VK->Prop)(t:TA):TE:=λσ H Q=>t σ H λvs H1=>r vs H1 Q
def cF(hc:Oc X (.builtin id) r)(hg:Gl X x)(hm:X.mg x=none)(hv:bootBuiltins x=some (.builtin id))(ha:PA X (e::es) t)(hn:x≠"__name__":=by decide)(hdb:(x == ("__debug__":Str))=false:=by decide)
  (he:starEach (e::es) X.env=(false,eval e X.env)::starEach es X.env:=by rfl) (hpl:(backTo pos (starEach es X.env)).any (·.1)=false:=by rfl):PE X (.Call (.Name x p) (e::es) [] pos) (wX r t):=by
 intro pins s σ H Q I h;refine wpAny_Call_Name_kw (RK I hg hm hv ?_ hn hdb);exact PyProof.Rows.callWith_builtin1 (jV (ha pos pins s σ H _ I h) λus s1 ⟨vs,H1,I1,r1,q1⟩=>hc pins s1 σ H1 vs us Q I1 r1 q1) he hpl
def uH(hc:Oc X (.type T) r)(hg:Gl X x)(hm:X.mg x=none)(hv:bootBuiltins x=some (.type T))(ha:PA X (e::es) t)(hn:x≠"__name__":=by decide)(hdb:(x == ("__debug__":Str))=false:=by decide)
  (he:starEach (e::es) X.env=(false,eval e X.env)::starEach es X.env:=by rfl) (hpl:(backTo pos (starEach es X.env)).any (·.1)=false:=by rfl):PE X (.Call (.Name x p) (e::es) [] pos) (wX r t):=by
 intro pins s σ H Q I h;refine wpAny_Call_Name_kw (RK I hg hm hv ?_ hn hdb);exact PyProof.Rows.callWith_type1 (jV (ha pos pins s σ H _ I h) λus s1 ⟨vs,H1,I1,r1,q1⟩=>hc pins s1 σ H1 vs us Q I1 r1 q1) he hpl
end
end L2
namespace HT
open PySem PyProof.Rows
section
open PySem.SeqAt
open PySem.AutoSeq1 (wpAny_loadPart')
open PySem.MeetsSeq PySem.MeetsSeq2 PySem.MeetsSeq3
end
section
variable {prog:Program}{w:World}{A:Around}{E:Value->Shared->Prop}{s:Shared}
def Zt5{t b:Addr}{vs ws:List Value}{Q:Value->Shared->Prop}(ht:IsTup s.heap t vs.toArray)(hb:IsTup s.heap b ws.toArray)(hv:vs≠[])
  (h1:ws=[]->Q (.ref t) s) (h2:ws≠[]->Q (.ref s.heap.objs.size) { s with heap:=s.heap.push { cls:=.type "tuple",data:=.seq (vs++ws).toArray } })
  (hsz:vs.length+ws.length<=sizeLine):wpAny (model prog w) A (binaryOp .Add (.ref t) (.ref b)) Q E s:=by
 obtain⟨⟨cls,dd,data,sl⟩,ho,hc,n,hd⟩:=id ht;obtain⟨⟨cls2,dd2,data2,sl2⟩,ho2,hc2,n2,hd2⟩:=id hb;simp only at hc hd hc2 hd2;subst hc hd hc2 hd2;have e:vs.toArray++ws.toArray=(vs++ws).toArray:=by simp
 by_cases hw:ws=[]
 ·exact concat_meets ⟨_,ho,rfl⟩ ⟨_,ho2,rfl⟩ noFill_tuple_add seq_tuple_add PySem.F.slot_tuple_add PySem.F.entry_tuple_add (PySem.F.args_tuple_add_2 _ _)
   (tuple_addW1 t b vs.toArray ws.toArray n n2 dd dd2 sl sl2 (by simpa using hv) (by simp[hw])) ⟨ho,ho2,h1 hw⟩
 ·refine concat_meets ⟨_,ho,rfl⟩ ⟨_,ho2,rfl⟩ noFill_tuple_add seq_tuple_add PySem.F.slot_tuple_add PySem.F.entry_tuple_add (PySem.F.args_tuple_add_2 _ _)
   (tuple_addW2 t b vs.toArray ws.toArray n n2 dd dd2 sl sl2 (by simpa using hv) (by simpa using hw) (by rw[List.size_toArray,List.size_toArray];exact hsz)) ⟨ho,ho2,?_⟩
  rw[e];exact h2 hw
def qR(n d:Nat):Option Int->Nat
 | none=>d
 | some v=>if v<0 then(v+(n:Int)).toNat else min v.toNat n
def Zuk(n d:Nat)(hd:d<=n)(o:Option Int):qR n d o<=n:=by
 cases o with
 | none=>exact hd
 | some v=>
  show(if v<0 then(v+(n:Int)).toNat else min v.toNat n)<=n
  by_cases hv:v<0
  ·rw[if_pos hv];omega
  ·rw[if_neg hv];exact Nat.min_le_right _ _
def Zj7(v:Int)(n d:Nat):(if v<0 then max (v+(n:Int)) 0 else min v (n:Int))=((qR n d (some v):Nat):Int):=by
 show(if v<0 then max (v+(n:Int)) 0 else min v (n:Int))=(((if v<0 then(v+(n:Int)).toNat else min v.toNat n):Nat):Int)
 by_cases hv:v<0
 ·simp only[if_pos hv];omega
 ·simp only[if_neg hv];omega
def Zi5(lo hi:Option Int)(n:Nat):Builtin.Slice.sliceAdjust lo hi 1 (n:Int)=(((qR n 0 lo:Nat):Int),((qR n n hi:Nat):Int)):=by
 have h1:¬ ((1:Int)<0):=by omega
 unfold Builtin.Slice.sliceAdjust;simp only[h1,if_false];refine Prod.ext ?_ ?_
 ·cases lo with
  | none=>rfl
  | some v=>exact Zj7 v n 0
 ·cases hi with
  | none=>rfl
  | some v=>exact Zj7 v n n
def Zfy(i j:Nat):Builtin.Slice.slicePlaces (i:Int) (j:Int) 1=j - i:=by
 unfold Builtin.Slice.slicePlaces;have h1:(1:Int) > 0:=by omega
 simp only[h1,if_true,Int.ediv_one];split<;>omega
def Qt{v:Value}{o:Option Int}{Q:Option Int->Shared->Prop}(p:IsPart v o)(h:Q o s):wpAny (model prog w) A (Builtin.Slice.slicePartIndex v) Q E s:=by
 cases p with
 | none=>exact slicePart_none h
 | int i t=>exact slicePart_int h
def JZ{sl:Addr}{vl vu:Value}{lo hi:Option Int}{n:Nat}{Q:Int×Int×Nat->Shared->Prop}(hs:s.heap.IsSliceOf sl vl vu .none)(pl:IsPart vl lo)(pu:IsPart vu hi)
  (h:Q (((qR n 0 lo:Nat):Int),1,qR n n hi - qR n 0 lo) s):wpAny (model prog w) A (Builtin.Slice.sliceApplied (.ref sl) (pure (n:Int))) Q E s:=by
 obtain⟨os,hos,hcs,hds⟩:=id hs;unfold Builtin.Slice.sliceApplied Builtin.Slice.sliceFields;refine wpAny_bind (wpAny_bind (wpAny_field hos hds (x:=vl) rfl (wpAny_bind (wpAny_field hos hds (x:=vu) rfl (wpAny_bind (wpAny_field hos hds (x:=.none) rfl (wpAny_pure ?_)))))));refine wpAny_bind (slicePart_none ?_);show wpAny _ _ (if ((1:Int) == 0)=true then _ else _) _ _ s;rw[if_neg (by decide)];refine wpAny_bind (Qt pl (wpAny_bind (Qt pu (wpAny_bind (wpAny_pure ?_)))));show wpAny _ _ (match Builtin.Slice.sliceAdjust lo hi 1 (n:Int)with | (lo,hi)=>pure (lo,(1:Int),Builtin.Slice.slicePlaces lo hi 1)) _ _ s;rw[Zi5 lo hi n];show wpAny _ _ (pure (((qR n 0 lo:Nat):Int),(1:Int),Builtin.Slice.slicePlaces ((qR n 0 lo:Nat):Int) ((qR n n hi:Nat):Int) 1)) _ _ s;rw[Zfy];exact wpAny_pure h
def Zmx(xs:Array Value)(i k:Nat):((List.range k).filterMap λ(m:Nat)=>xs[((i:Int)+(m:Int) * 1).toNat]?).toArray=((xs.toList.drop i).take k).toArray:=by
 have e:(λ(m:Nat)=>xs[((i:Int)+(m:Int) * 1).toNat]?)=λm=>xs[i+m]? :=by
  funext m
  have:((i:Int)+(m:Int) * 1).toNat=i+m:=by omega
  rw[this]
 rw[e];have:=pick_run xs i k;rw[List.filterMap_map]at this;have e2:((λx=>xs[x]?) ∘ λx=>i+x)=λm=>xs[i+m]? :=rfl;rw[e2]at this;rw[this]
def Jl{t sl:Addr}{items:Array Value}{vl vu:Value}{lo hi:Option Int}{Q:Value->Shared->Prop}(ht:IsTup s.heap t items)(hs:s.heap.IsSliceOf sl vl vu .none)(pl:IsPart vl lo)(pu:IsPart vu hi)
  (hw:¬ (qR items.size 0 lo=0/\qR items.size items.size hi=items.size))
  (h:Q (.ref s.heap.objs.size) { s with heap:=s.heap.push { cls:=.type "tuple",data:=.seq ((items.toList.drop (qR items.size 0 lo)).take (qR items.size items.size hi - qR items.size 0 lo)).toArray } })
  (hsz:items.size<=sizeLine):wpAny (model prog w) A (getItem (.ref t) (.ref sl)) Q E s:=by
 have Zix:sizeOk (.seq ((items.toList.drop (qR items.size 0 lo)).take (qR items.size items.size hi - qR items.size 0 lo)).toArray):=by
  show((items.toList.drop (qR items.size 0 lo)).take (qR items.size items.size hi - qR items.size 0 lo)).toArray.size<=sizeLine;rw[List.size_toArray,List.length_take,List.length_drop,Array.length_toList];omega
 have hj:qR items.size items.size hi<=items.size:=Zuk _ _ (Nat.le_refl _) hi;obtain⟨os,hos,hcs,hds⟩:=id hs;have hTs:s.TypeIs (.ref sl) "slice":=⟨os,hos,hcs⟩;unfold getItem
 try with_reducible refine wpAny_holding ?_
 first | refine wpAny_bind (wpAny_pure ?_) | skip
 refine wpAny_bind (wpAny_sequenceKey ht.typeIs (by decide) ?_);refine wpAny_bind (wpAny_callSpecial?_slot (name:=Str.ofString "__getitem__") ht.typeIs PyProof.Rows.slot_tuple_getitem
  (wpAny_call_entry PyProof.Rows.slot_tuple_getitem ht.typeIs entry_tuple_getitem ?_ (args_tuple_getitem _ _)))
 show wpAny _ _ (Builtin.Tuple.tupleItemsOf (.ref t) >>= _) _ _ s;refine wpAny_bind (tupleItemsOf_ ht ?_);refine wpAny_bind (wpAny_typeOf hTs ?_);rw[if_pos (by decide)];refine wpAny_bind (JZ hs pl pu ?_);have hno:¬ ((((qR items.size 0 lo:Nat):Int) == 0 && (1:Int) == 1 && (qR items.size items.size hi - qR items.size 0 lo) == items.size)=true):=by
  intro q;rw[Bool.and_eq_true,Bool.and_eq_true]at q;have q1:((qR items.size 0 lo:Nat):Int)=0:=eq_of_beq q.1.1;have q2:qR items.size items.size hi - qR items.size 0 lo=items.size:=eq_of_beq q.2;exact hw ⟨by omega,by omega⟩
 show wpAny _ _ (if (((qR items.size 0 lo:Nat):Int) == 0 && (1:Int) == 1 && (qR items.size items.size hi - qR items.size 0 lo) == items.size)=true then _ else _) _ _ s;rw[if_neg hno,Zmx]
 first
  | exact wpAny_bind (m:=Builtin.Tuple.tupleExact _) (wpAny_newObj_type (wpAny_pure ⟨_,rfl,wpAny_pure h⟩) Zix)
  | exact wpAny_bind (m:=Builtin.Tuple.tupleExact _) (wpAny_newObj_type (wpAny_bind (wpAny_pure (wpAny_pure ⟨_,rfl,wpAny_pure h⟩))) Zix)
  | exact wpAny_bind (wpAny_bind (m:=Builtin.Tuple.tupleExact _) (wpAny_newObj_type (wpAny_pure (wpAny_pure ⟨_,rfl,wpAny_pure h⟩)) Zix))
  | exact wpAny_bind (wpAny_bind (m:=Builtin.Tuple.tupleExact _) (wpAny_newObj_type (wpAny_pure ⟨_,rfl,wpAny_pure h⟩) Zix))
end
end HT
namespace L2
open PySem PySem.Spec PyProof.Rows
abbrev TO:=St->Hp->(Option Int->Hp->Prop)->Prop
def PO(X:Cx)(e:Option Expr)(t:TO):Prop:=
 ∀(pins:List (Addr×Obj)) (s:Shared) (σ:St) (H:Hp) (Q:Option Int->Hp->Prop),Inv X pins σ H s->t σ H Q->
  wpAny (model X.prog X.w) X.A (evalPart e X.env) (λu s'=>∃o H',Inv X pins σ H' s'/\IsPart u o/\Q o H') X.xe s
def O8:TO:=λ_ H Q=>Q none H
def Wx(t:TE):TO:=λσ H Q=>t σ H λx H1=>∃i,x=.int i/\Q (some i) H1
section
variable {X:Cx}{e:Expr}{te:TE}{lo hi:Option Expr}{tl th:TO}{pos p2:Pos}
def Zik:PO X none O8:=by
 intro pins s σ H Q I h;rw[evalPart_none];exact wpAny_pure ⟨none,H,I,.none,h⟩
def Ph(h:PE X e te):PO X (some e) (Wx te):=by
 intro pins s σ H Q I hw;rw[evalPart_some];refine jV (h pins s σ H _ I hw) λu s1 ⟨x,H1,I1,r1,q1⟩=>?_;obtain⟨i,rfl,q⟩:=q1;obtain⟨t,rfl⟩:=r1;exact⟨some i,H1,I1,.int i t,q⟩
def SlR(X:Cx)(r:V->Option Int->Option Int->Hp->VK->Prop):Prop:=
 ∀(pins:List (Addr×Obj)) (s:Shared) (σ:St) (H:Hp) (x:V) (v vl vu:Value) (lo hi:Option Int) (sl:Addr) (Q:VK),Inv X pins σ H s->RelV x v->s.heap.IsSliceOf sl vl vu .none->IsPart vl lo->IsPart vu hi->r x lo hi H Q->
  ∃T id,typeLookup (.type T) "__getitem__"=pure (some (.builtin id))/\s.TypeIs v T/\wpAny (model X.prog X.w) X.A (getItem v (.ref sl)) (EP X pins σ Q) X.xe s
def tSl(r:V->Option Int->Option Int->Hp->VK->Prop)(te:TE)(tl th:TO):TE:=λσ H Q=>te σ H λx H1=>tl σ H1 λl H2=>th σ H2 λu H3=>r x l u H3 Q
def Q4{r:V->Option Int->Option Int->Hp->VK->Prop}(hr:SlR X r)(he:PE X e te)(hl:PO X lo tl)(hu:PO X hi th):PE X (.Subscript e (.Slice lo hi none p2) pos) (tSl r te tl th):=by
 intro pins s σ H Q I h;refine Subscript_ (jV (he pins s σ H _ I h) λv s1 ⟨x,H1,I1,r1,q1⟩=>?_);refine wpAny_Slice (jV (hl pins s1 σ H1 _ I1 q1) λvl s2 ⟨l,H2,I2,pl,q2⟩=>jV (hu pins s2 σ H2 _ I2 q2) λvu s3 ⟨u,H3,I3,pu,q3⟩=>?_);rw[evalPart_none];refine wpAny_pure ?_;have I4:Inv X pins σ H3 { s3 with heap:=s3.heap.push { cls:=.type "slice",data:=.fields #[vl,vu,.none] } }:=I3.kept (t':=s3.toks) λb ob q=>Heap.get?_push_of_some _ q;obtain⟨T,id,hT,ht,hg⟩:=hr pins { s3 with heap:=s3.heap.push { cls:=.type "slice",data:=.fields #[vl,vu,.none] } } σ H3 x v vl vu l u s3.heap.objs.size Q I4 r1 (Heap.IsSliceOf.new ..) pl pu q3;show wpAny (model X.prog X.w) X.A (subscriptTail e (.Slice lo hi none p2) v (.ref s3.heap.objs.size)) (EP X pins σ Q) X.xe { s3 with heap:=s3.heap.push { cls:=.type "slice",data:=.fields #[vl,vu,.none] } };exact tail_any (ops:=[.ref s3.heap.objs.size,v]) ht hT hg (by with_unfolding_all rfl)
def VH(xs:List V)(lo hi:Option Int):List V:=(xs.drop (HT.qR xs.length 0 lo)).take (HT.qR xs.length xs.length hi - HT.qR xs.length 0 lo)
def N6(xs:List V)(lo hi:Option Int):(VH xs lo hi).length<=xs.length:=by
 unfold VH;rw[List.length_take,List.length_drop];omega
def Zul(K:aB):V->Option Int->Option Int->Hp->VK->Prop:=λx lo hi H Q=>∃a xs,x=.ref a/\gZ K H a xs/\
 ¬ (HT.qR xs.length 0 lo=0/\HT.qR xs.length xs.length hi=xs.length)/\∀p,H p=none->Q (.ref p) (upd H p (.tup (VH xs lo hi)))
def Zmd:SlR X (Zul X.K):=by
 intro pins s σ H x v vl vu lo hi sl Q I rx hs pl pu h;obtain⟨a,xs,rfl,hx,hw,q⟩:=h;cases rx;obtain⟨its,r,ht,hz⟩:=I.tuple hx;have hlen:its.toArray.size=xs.length:=by rw[List.size_toArray];exact r.length.symm
 refine⟨"tuple",_,PyProof.Rows.slot_tuple_getitem.lookup,ht.typeIs,?_⟩;refine HT.Jl ht hs pl pu (by rw[hlen];exact hw) ?_ (by rw[hlen];exact hz);rw[hlen];refine⟨.ref s.heap.objs.size,_,I.laid (t':=s.toks) (o:=.tup (VH xs lo hi)) (λb ob q=>Heap.get?_push_of_some _ q) (Nat.le_refl _) ?_,rfl,q _ (I.hok.fresh (Nat.le_refl _))⟩;exact⟨Nat.le_trans (N6 xs lo hi) hz,_,(r.drop (HT.qR xs.length 0 lo)).take (HT.qR xs.length xs.length hi - HT.qR xs.length 0 lo),IsTup.new _ _⟩
def Ztm(K:aB):R2:=λx y H Q=>∃a b xs ys,x=.ref a/\y=.ref b/\gZ K H a xs/\gZ K H b ys/\xs≠[]/\xs.length+ys.length<=sizeLine/\
 (ys=[]->Q (.ref a) H)/\(ys≠[]->∀p,H p=none->Q (.ref p) (upd H p (.tup (xs++ys))))
def Vals.Zu{xs:List V}{us:List Value}(r:Vals xs us):us=[]↔xs=[]:=by
 cases r with
 | nil=>simp
 | cons _ _=>simp
def Zrd:yW X (binaryOp .Add) (Ztm X.K):=by
 intro pins s σ H x y v u Q I rx ry h;obtain⟨a,b,xs,ys,rfl,rfl,ha,hb,hx,hz,q1,q2⟩:=h;cases rx;cases ry;obtain⟨its,r1,p1,_⟩:=I.tuple ha;obtain⟨its2,r2,p2,_⟩:=I.tuple hb;refine HT.Zt5 p1 p2 (λz=>hx (r1.Zu.mp z)) (λz=>⟨.ref a,H,I,rfl,q1 (r2.Zu.mp z)⟩) (λz=>?_) (by rw[<- r1.length,<- r2.length];exact hz);refine⟨.ref s.heap.objs.size,_,I.laid (t':=s.toks) (o:=.tup (xs++ys)) (λb ob q=>Heap.get?_push_of_some _ q) (Nat.le_refl _) ?_,rfl,q2 (λw=>z (r2.Zu.mpr w)) _ (I.hok.fresh (Nat.le_refl _))⟩;exact⟨by rw[List.length_append];exact hz,_,r1.append r2,IsTup.new _ _⟩
end
end L2
namespace L2
open PySem PySem.Spec PyProof.Rows
def ixN(n:Nat)(i:Int):Option Nat:=if 0<=i then(if i<n then some i.toNat else none)else if -(n:Int)<=i then some (i+n).toNat else none
def Xw{α:Type}(xs:List α)(i:Int):Option α:=(ixN xs.length i).bind λj=>xs[j]?
def Ziv{n:Nat}{i:Int}{j:Nat}(h:ixN n i=some j):seqIndex? i n=some j/\j<n/\-(n:Int)<=i/\i<n:=by
 unfold ixN at h
 by_cases h0:0<=i
 ·rw[if_pos h0]at h
  by_cases h1:i<n
  ·rw[if_pos h1]at h;have e:i.toNat=j:=Option.some.inj h;exact⟨by rw[seqIndex_of h0 h1,e],by omega,by omega,h1⟩
  ·rw[if_neg h1]at h;cases h
 ·rw[if_neg h0]at h
  by_cases h1:-(n:Int)<=i
  ·rw[if_pos h1]at h;have e:(i+n).toNat=j:=Option.some.inj h;exact⟨by rw[seqIndex_neg (by omega) h1,e],by omega,h1,by omega⟩
  ·rw[if_neg h1]at h;cases h
def Zan{α:Type}{xs:List α}{i:Int}{v:α}(h:Xw xs i=some v):∃j,seqIndex? i xs.length=some j/\xs[j]? =some v/\j<xs.length/\-(xs.length:Int)<=i/\i<xs.length:=by
 unfold Xw at h;cases e:ixN xs.length i with
 | none=>rw[e]at h;cases h
 | some j=>
  rw[e]at h;obtain⟨h1,h2,h3,h4⟩:=Ziv e;exact⟨j,h1,h,h2,h3,h4⟩
def iB{α:Type}{xs:List α}{j:Nat}{v:α}(h:xs[j]? =some v):Xw xs (j:Int)=some v:=by
 have hj:j<xs.length:=(dY h).1;have e:ixN xs.length (j:Int)=some j:=by
  unfold ixN;rw[if_pos (by omega),if_pos (by omega)];simp
 unfold Xw;rw[e];exact h
def Zb3(b:Expr):Prop:=∀o i,subscripted b false o i=operate [o,i] (getItem o i)
def IxR(X:Cx)(r:R2):Prop:=
 ∀(value slice:Expr) (pins:List (Addr×Obj)) (s:Shared) (σ:St) (H:Hp) (x y:V) (v u:Value) (Q:VK),Inv X pins σ H s->RelV x v->RelV y u->r x y H Q->
  subscripted slice false v u=operate [v,u] (getItem v u)->wpAny (model X.prog X.w) X.A (subscriptTail value slice v u) (EP X pins σ Q) X.xe s
def MtR(X:Cx)(id:String)(r:V->List V->Hp->VK->Prop):Prop:=
 ∀(pins:List (Addr×Obj)) (s:Shared) (σ:St) (H:Hp) (x:V) (xs:List V) (v:Value) (us:List Value) (Q:VK),Inv X pins σ H s->RelV x v->Vals xs us->r x xs H Q->
  wpAny (model X.prog X.w) X.A (call (.builtin id) (v::us)) (EP X pins σ Q) X.xe s
section
variable {X:Cx}{a b:Expr}{ta tb:TE}{pos:Pos}
def Zto{r:R2}(hr:IxR X r)(ha:PE X a ta)(hb:PE X b tb)(hs:Zb3 b):PE X (.Subscript a b pos) (bC r ta tb):=by
 intro pins s σ H Q I h;exact Subscript_ (Zwq ha hb I h λv u s2 x y H2 I2 rx ry q=>hr a b pins s2 σ H2 x y v u Q I2 rx ry q (hs _ _))
def mO(K:aB):R2:=λx y H Q=>∃p xs i v,x=.ref p/\y=.int i/\cL K H p xs/\Xw xs i=some v/\Q v H
def fL(K:aB):R2:=λx y H Q=>∃p xs i v,x=.ref p/\y=.int i/\gZ K H p xs/\Xw xs i=some v/\Q v H
def Zmn:R2:=λx y H Q=>∃z i c,x=.str z/\y=.int i/\z.length<=sizeLine/\Xw z.cps.toList i=some c/\Q (.str ⟨#[c]⟩) H
def dj:IxR X (mO X.K):=by
 intro value slice pins s σ H x y v u Q I rx ry h hs;obtain⟨p,xs,i,z,rfl,rfl,hq,he,q⟩:=h;cases rx;obtain⟨t,rfl⟩:=ry;obtain⟨its,r,pl,hz⟩:=I.list hq;obtain⟨j,h1,h2,h3,h4,h5⟩:=Zan he;obtain⟨w,ew,rw'⟩:=r.get h2;have hl:=r.length;have hn:=Lf;have fin:EP X pins σ Q w s:=⟨z,H,I,rw',q⟩
 by_cases h0:0<=i
 ·have hj:i.toNat=j:=by
   rw[seqIndex_of h0 h5]at h1;exact Option.some.inj h1
  exact item_listR pl.isList h0 (by omega) (by rw[hj];simpa using ew) fin hs
 ·have hj:(i+(its.toArray.size:Int)).toNat=j:=by
   rw[seqIndex_neg (by omega) h4]at h1;rw[List.size_toArray,<- hl];exact Option.some.inj h1
  exact subscriptTail_builtinR (x:=w) pl.isList.typeIs slot_list_getitem.lookup
   (wpAny_getItem_list_neg (Q:=λr s'=>r=w/\EP X pins σ Q r s') pl.isList (by omega) (by rw[List.size_toArray]<;>omega) (by omega) (by rw[hj];simpa using ew) ⟨rfl,fin⟩) hs
def bQ:IxR X (fL X.K):=by
 intro value slice pins s σ H x y v u Q I rx ry h hs;obtain⟨p,xs,i,z,rfl,rfl,hq,he,q⟩:=h;cases rx;obtain⟨t,rfl⟩:=ry;obtain⟨its,r,pl,hz⟩:=I.tuple hq;obtain⟨j,h1,h2,h3,h4,h5⟩:=Zan he;obtain⟨w,ew,rw'⟩:=r.get h2;have hl:=r.length;have hn:=Lf;have fin:EP X pins σ Q w s:=⟨z,H,I,rw',q⟩;exact subscriptTail_builtinR (x:=w) pl.typeIs slot_tuple_getitem.lookup
  (getItem_tuple (j:=j) (Q:=λr s'=>r=w/\EP X pins σ Q r s') pl (by omega) (by omega) (by rw[List.size_toArray,<- hl];exact h1) (by simpa using ew) ⟨rfl,fin⟩) hs
def Zoh:IxR X Zmn:=by
 intro value slice pins s σ H x y v u Q I rx ry h hs;obtain⟨z,i,c,rfl,rfl,hz,he,q⟩:=h;obtain⟨t,rfl⟩:=rx;obtain⟨t',rfl⟩:=ry;obtain⟨j,h1,h2,h3,h4,h5⟩:=Zan he;have hl:z.cps.toList.length=z.length:=by simp[Str.length]
 rw[hl]at h1 h4 h5;have hn:=Lf;exact tail_any (typeIs_str s z t) slot_str_getitem.lookup (getItem_str (c:=c) (by
  have e1:decide (i < -(2 ^ 63:Int))=false:=decide_eq_false (by omega);have e2:decide (i≥2 ^ 63)=false:=decide_eq_false (by omega);rw[e1,e2,Bool.or_false]) (by rw[h1];simpa using h2) ⟨.str ⟨#[c]⟩,H,I.tok _,⟨_,rfl⟩,q⟩) hs
def Zgp(its:List Value)(n j:Nat)(u:Value):Obj.mapSeq (·.setIfInBounds j u) { cls:=.type "list",data:=.seq its.toArray n }={ cls:=.type "list",data:=.seq (its.set j u).toArray n }:=by
 simp[Obj.mapSeq]
def Inv.lst{pins:List (Addr×Obj)}{σ:St}{H:Hp}{s:Shared}{p:Addr}{xs:List V}(I:Inv X pins σ H s)(h:H p=some (.lst xs)):
  ∃(its:List Value) (n:Nat),Vals xs its/\s.heap.get? p=some { cls:=.type "list",data:=.seq its.toArray n }/\xs.length<=sizeLine:=by
 obtain⟨z,its,n,r,e⟩:=I.hok p _ h;exact⟨its,n,r,e,z⟩
def Inv.Zva{pins:List (Addr×Obj)}{σ:St}{H:Hp}{s:Shared}{p:Addr}{xs ys:List V}{its its':List Value}{n n':Nat}{f:Obj->Obj}(I:Inv X pins σ H s)(h:H p=some (.lst xs))
  (ho:s.heap.get? p=some { cls:=.type "list",data:=.seq its.toArray n }) (hf:f { cls:=.type "list",data:=.seq its.toArray n }={ cls:=.type "list",data:=.seq its'.toArray n' }) (r:Vals ys its') (hz:ys.length<=sizeLine) (t:Nat):
  Inv X pins σ (upd H p (.lst ys)) { s with heap:=s.heap.update p f,toks:=t }:=by
 have e:(s.heap.update p f).get? p=some { cls:=.type "list",data:=.seq its'.toArray n' }:=by
  rw[Heap.get?_update_self f ho (by rw[hf]<;>rfl),hf]
 refine I.write (x:=p) (e:=p) (by rw[h];trivial) (.inl rfl) (λb u hb q=>(Heap.get?_update_other _ _ (Ne.symm hb)).trans q) ⟨_,e⟩ ?_;exact⟨hz,its',n',r,e⟩
def Fw:V->V->V->Hp->(Hp->Prop)->Prop:=λo i v H Q=>∃p xs k j,o=.ref p/\i=.int k/\H p=some (.lst xs)/\ixN xs.length k=some j/\Q (upd H p (.lst (xs.set j v)))
def set_list:Zyw X Fw:=by
 intro pins s σ H o i v ov iv u Q I ro ri rv h;obtain⟨p,xs,k,j,rfl,rfl,hp,hj,q⟩:=h;cases ro;obtain⟨t,rfl⟩:=ri;obtain⟨its,n,r,ho,hz⟩:=I.lst hp;obtain⟨h1,h2,h3,h4⟩:=Ziv hj;have hl:=r.length;have hn:=Lf;have I':Inv X pins σ (upd H p (.lst (xs.set j v))) { s with heap:=s.heap.update p (Obj.mapSeq (·.setIfInBounds j u)) }:=
  I.Zva hp ho (Zgp its n j u) (r.set rv j) (by rw[List.length_set];exact hz) s.toks
 by_cases h0:0<=k
 ·have hk:k.toNat=j:=by
   rw[seqIndex_of h0 h4]at h1;exact Option.some.inj h1
  exact PySem.W.ki_setAt ho h0 (by omega) (by rw[List.size_toArray,<- hl];exact h4) (by rw[hk];exact⟨_,I',q⟩)
 ·have hk:(k+(its.toArray.size:Int)).toNat=j:=by
   rw[seqIndex_neg (by omega) h3]at h1;rw[List.size_toArray,<- hl];exact Option.some.inj h1
  exact PySem.W.ki_setBack ho (by omega) (by rw[List.size_toArray,<- hl];exact h3) (by omega) (by rw[hk];exact⟨_,I',q⟩)
def Yi(lo hi:Option Int)(n:Nat):(sliceBounds lo hi none n).1=((HT.qR n 0 lo:Nat):Int)/\(sliceBounds lo hi none n).2.1=((HT.qR n n hi:Nat):Int)/\(sliceBounds lo hi none n).2.2=1:=by
 refine⟨?_,?_,rfl⟩
 ·cases lo with
  | none=>simp[sliceBounds,HT.qR]
  | some i=>
   simp only[sliceBounds,HT.qR,Option.getD_none,show(1:Int) > 0 by decide,if_true]
   by_cases h:i<0
   ·simp only[h,if_true]<;>omega
   ·simp only[h,if_false]<;>omega
 ·cases hi with
  | none=>simp[sliceBounds,HT.qR]
  | some i=>
   simp only[sliceBounds,HT.qR,Option.getD_none,show(1:Int) > 0 by decide,if_true]
   by_cases h:i<0
   ·simp only[h,if_true]<;>omega
   ·simp only[h,if_false]<;>omega
def TF(its:List Value)(lo hi:Option Int):slicePick its.toArray lo hi none=((its.drop (HT.qR its.length 0 lo)).take (HT.qR its.length its.length hi - HT.qR its.length 0 lo)).toArray:=by
 obtain⟨h1,h2,h3⟩:=Yi lo hi its.toArray.size;unfold slicePick;rw[h1,h2,h3];simp only[sliceRange_one,pick_run,List.size_toArray]<;>rfl
def Zxd(K:aB):V->Option Int->Option Int->Hp->VK->Prop:=λx lo hi H Q=>∃a xs,x=.ref a/\cL K H a xs/\∀p,H p=none->Q (.ref p) (upd H p (.lst (VH xs lo hi)))
def Zq8:SlR X (Zxd X.K):=by
 intro pins s σ H x v vl vu lo hi sl Q I rx hs pl pu h;obtain⟨a,xs,rfl,hx,q⟩:=h;cases rx;obtain⟨its,r,ht,hz⟩:=I.list hx;have hlen:=r.length;refine⟨"list",_,slot_list_getitem.lookup,ht.isList.typeIs,?_⟩;refine wpAny_getItem_list_slice ht.isList hs pl pu .none (by simp) ?_ (by rw[List.size_toArray]<;>omega);rw[TF,<- hlen];refine⟨.ref s.heap.objs.size,_,I.laid (t':=s.toks) (o:=.lst (VH xs lo hi)) (λb ob q=>Heap.get?_push_of_some _ q) (Nat.le_refl _) ?_,rfl,q _ (I.hok.fresh (Nat.le_refl _))⟩;exact⟨Nat.le_trans (N6 xs lo hi) hz,_,0,(r.drop (HT.qR xs.length 0 lo)).take (HT.qR xs.length xs.length hi - HT.qR xs.length 0 lo),Heap.get?_push_size _ rfl⟩
def pW:V->Bool
 | .non=>true
 | .bl _=>true
 | .int _=>true
 | .str _=>true
 | _=>false
def Xn:V->V->Bool
 | .non,.non=>true
 | .bl a,.bl b=>a == b
 | .bl a,.int b=>(if a then 1 else 0) == b
 | .int a,.bl b=>a == (if b then 1 else 0)
 | .int a,.int b=>a == b
 | .str a,.str b=>a == b
 | _,_=>false
def Bh{A:Around}{s:Shared}{y x:V}{u v:Value}(ry:RelV y u)(rx:RelV x v)(fy:pW y=true)(fx:pW x=true):SeqAt.EqAt A s u v (Xn y x):=by
 cases y with
 | non=>
  cases ry;cases x with
  | non=>cases rx;exact SeqAt.EqAt.same _
  | bl b=>cases rx;exact SeqAt.EqAt.none_bool b
  | int b=>obtain⟨t,rfl⟩:=rx;exact SeqAt.EqAt.none_int b t
  | str b=>obtain⟨t,rfl⟩:=rx;exact SeqAt.EqAt.none_str b t
  | _=>exact absurd (show false=true from fx) Bool.false_ne_true
 | bl a=>
  cases ry;cases x with
  | non=>cases rx;exact SeqAt.EqAt.bool_none a
  | bl b=>cases rx;exact SeqAt.EqAt.bool_bool a b
  | int b=>obtain⟨t,rfl⟩:=rx;exact SeqAt.EqAt.bool_int a b t
  | str b=>obtain⟨t,rfl⟩:=rx;exact SeqAt.EqAt.bool_str a b t
  | _=>exact absurd (show false=true from fx) Bool.false_ne_true
 | int a=>
  obtain⟨t',rfl⟩:=ry;cases x with
  | non=>cases rx;exact SeqAt.EqAt.int_none a t'
  | bl b=>cases rx;exact SeqAt.EqAt.int_bool a t' b
  | int b=>obtain⟨t,rfl⟩:=rx;exact SeqAt.EqAt.int_int a t' b t
  | str b=>obtain⟨t,rfl⟩:=rx;exact SeqAt.EqAt.int_str a t' b t
  | _=>exact absurd (show false=true from fx) Bool.false_ne_true
 | str a=>
  obtain⟨t',rfl⟩:=ry;cases x with
  | non=>cases rx;exact SeqAt.EqAt.str_none a t'
  | bl b=>cases rx;exact SeqAt.EqAt.str_bool a t' b
  | int b=>obtain⟨t,rfl⟩:=rx;exact SeqAt.EqAt.str_int a t' b t
  | str b=>obtain⟨t,rfl⟩:=rx;exact SeqAt.EqAt.str_str a t' b t
  | _=>exact absurd (show false=true from fx) Bool.false_ne_true
 | _=>exact absurd (show false=true from fy) Bool.false_ne_true
def eqU(x:V)(u:Value):Bool:=match u with
 | .none=>Xn .non x
 | .bool b=>Xn (.bl b) x
 | .int i _=>Xn (.int i) x
 | .str z _=>Xn (.str z) x
 | _=>false
def Zpf{x y:V}{u:Value}(r:RelV y u)(f:pW y=true):eqU x u=Xn y x:=by
 cases y with
 | non=>cases r;rfl
 | bl b=>cases r;rfl
 | int i=>obtain⟨t,rfl⟩:=r;rfl
 | str z=>obtain⟨t,rfl⟩:=r;rfl
 | _=>exact absurd (show false=true from f) Bool.false_ne_true
def JB{x:V}:∀{xs:List V}{us:List Value},Vals xs us->xs.all pW=true->us.any (eqU x)=xs.any λy=>Xn y x
 | _,_,.nil,_=>rfl
 | y::xs,u::us,.cons r t,f=>by
  rw[List.all_cons,Bool.and_eq_true]at f;rw[List.any_cons,List.any_cons,Zpf r f.1,JB t f.2]
def DG{A:Around}{s:Shared}{x:V}{v:Value}(rx:RelV x v)(fx:pW x=true):∀{xs:List V}{us:List Value},Vals xs us->xs.all pW=true->∀u∈us,SeqAt.EqAt A s u v (eqU x u)
 | _,_,.nil,_=>λu hu=>by cases hu
 | y::xs,u::us,.cons r t,f=>λu' hu=>by
  rw[List.all_cons,Bool.and_eq_true]at f;rcases List.mem_cons.mp hu with rfl | hu
  ·rw[Zpf r f.1];exact Bh r rx f.1 fx
  ·exact DG rx fx t f.2 u' hu
def inV(x:V)(xs:List V):Bool:=xs.any λy=>Xn y x
def rIn(K:aB)(neg:Bool):R2:=λx y H Q=>∃p xs,y=.ref p/\(cL K H p xs\/gZ K H p xs)/\pW x=true/\xs.all pW=true/\Q (.bl (if neg then !inV x xs else inV x xs)) H
def WM:yW X (compareOp .In) (rIn X.K false):=by
 intro pins s σ H x y v u Q I rx ry h;obtain⟨p,xs,rfl,hq,fx,fs,q⟩:=h;cases ry;rcases hq with hq | hq
 ·obtain⟨its,r,pl,hz⟩:=I.list hq;refine SeqAt.in_listAt (eqU x) pl.isList (λw hw=>DG rx fx r fs w (by simpa using hw)) ⟨.bl _,H,I,rfl,?_⟩;rw[show its.toArray.any (eqU x)=its.any (eqU x) by simp,JB r fs];exact q
 ·obtain⟨its,r,pl,hz⟩:=I.tuple hq;refine SeqAt.in_tupleAt (eqU x) pl (λw hw=>DG rx fx r fs w (by simpa using hw)) ⟨.bl _,H,I,rfl,?_⟩;rw[show its.toArray.any (eqU x)=its.any (eqU x) by simp,JB r fs];exact q
def Y5:yW X (compareOp .NotIn) (rIn X.K true):=by
 intro pins s σ H x y v u Q I rx ry h;obtain⟨p,xs,rfl,hq,fx,fs,q⟩:=h;cases ry;rcases hq with hq | hq
 ·obtain⟨its,r,pl,hz⟩:=I.list hq;refine SeqAt.notIn_listAt (eqU x) pl.isList (λw hw=>DG rx fx r fs w (by simpa using hw)) ⟨.bl _,H,I,rfl,?_⟩;rw[show its.toArray.any (eqU x)=its.any (eqU x) by simp,JB r fs];exact q
 ·obtain⟨its,r,pl,hz⟩:=I.tuple hq;refine SeqAt.notIn_tupleAt (eqU x) pl (λw hw=>DG rx fx r fs w (by simpa using hw)) ⟨.bl _,H,I,rfl,?_⟩;rw[show its.toArray.any (eqU x)=its.any (eqU x) by simp,JB r fs];exact q
def Zal:Oc X (.builtin "len") (λxs H Q=>∃p ys,xs=[.ref p]/\(cL X.K H p ys\/gZ X.K H p ys)/\Q (.int ys.length) H):=by
 intro pins s σ H xs us Q I r h;obtain⟨p,ys,rfl,hq,q⟩:=h;obtain⟨u,rfl,rx⟩:=vals1 r;cases rx;have hn:=Lf;rcases hq with hq | hq
 ·obtain⟨its,r',pl,hz⟩:=I.list hq;have hlen:=r'.length;exact Calls.call_len_list pl.isList (by simp only[List.size_toArray]<;>omega) ⟨.int ys.length,H,I.tok _,⟨s.toks+1,by rw[List.size_toArray,hlen]⟩,q⟩
 ·obtain⟨its,r',pl,hz⟩:=I.tuple hq;have hlen:=r'.length;exact len_tuple pl (by simp only[List.size_toArray]<;>omega) ⟨.int ys.length,H,I.tok _,⟨s.toks+1,by rw[List.size_toArray,hlen]⟩,q⟩
def Jz:Oc X (.type "list") (λxs H Q=>∃p ys,xs=[.ref p]/\(cL X.K H p ys\/gZ X.K H p ys)/\∀l,H l=none->Q (.ref l) (upd H l (.lst ys))):=by
 intro pins s σ H xs us Q I r h;obtain⟨p,ys,rfl,hq,q⟩:=h;obtain⟨u,rfl,rx⟩:=vals1 r;cases rx;have fin:∀(its:List Value),Vals ys its->ys.length<=sizeLine->∀(h':Heap) (c':Nat),(∀b o',s.heap.get? b=some o'->h'.get? b=some o')->
   h'.get? s.heap.objs.size=some { cls:=.type "list",dict:=none,data:=.seq its.toArray c',slots:=#[] }->EP X pins σ Q (.ref s.heap.objs.size) { s with heap:=h' }:=λits r' hz h' c' kp e=>
  ⟨.ref s.heap.objs.size,_,I.laid (t':=s.toks) kp (Nat.le_refl _) (show kE X.prog X.w _ h' _ (.lst ys)from⟨hz,its,c',r',e⟩),rfl,q _ (I.hok.fresh (Nat.le_refl _))⟩
 rcases hq with hq | hq
 ·obtain⟨its,r',pl,hz⟩:=I.list hq;have hlen:=r'.length;obtain⟨o,ho,hc,n,hd⟩:=pl.isList;exact call_list_seq p (.inl rfl) ho hc hd (λh' c' kp e=>fin its r' hz h' c' kp e) (by simp only[List.size_toArray]<;>omega)
 ·obtain⟨its,r',pl,hz⟩:=I.tuple hq;have hlen:=r'.length;obtain⟨o,ho,hc,n,hd⟩:=pl;exact call_list_seq p (.inr rfl) ho hc hd (λh' c' kp e=>fin its r' hz h' c' kp e) (by simp only[List.size_toArray]<;>omega)
def tyV(K:aB)(T:String)(x:V)(H:Hp):Prop:=match x with
 | .str _=>T="str"
 | .int _=>T="int"
 | .ref p=>(T="list"/\∃xs,cL K H p xs)\/(T="tuple"/\∃o,K.lookup p=some o/\o.cls=.type "tuple"/\o.dict=none)\/
   (T="dict"/\((∃kvs,H p=some (.dK kvs))\/∃kvs,H p=some (.dT kvs)))\/(T="set"/\∃S n,H p=some (.set S n))
 | _=>False
def Zu1{pins:List (Addr×Obj)}{σ:St}{H:Hp}{s:Shared}{T:String}{x:V}{v:Value}(I:Inv X pins σ H s)(r:RelV x v)(ty:tyV X.K T x H):
  s.TypeIs v T/\∀a,v=.ref a->∃ob,s.heap.get? a=some ob/\ob.dict=none:=by
 cases x with
 | str z=>
  obtain⟨t,rfl⟩:=r;cases (show T="str" from ty);exact⟨typeIs_str s z t,λ_ e=>nomatch e⟩
 | int i=>
  obtain⟨t,rfl⟩:=r;cases (show T="int" from ty);exact⟨typeIs_int s i t,λ_ e=>nomatch e⟩
 | ref p=>
  cases r;rcases ty with ⟨rfl,xs,hq⟩ | ⟨rfl,o,hk,hc,hd⟩ | ⟨rfl,hk⟩ | ⟨rfl,S,n,hk⟩
  ·obtain⟨its,_,pl,_⟩:=I.list hq;refine⟨pl.isList.typeIs,λa e=>?_⟩;cases e;obtain⟨o,n,e,c,hd,_⟩:=pl;exact⟨o,e,hd⟩
  ·refine⟨⟨o,I.DR p o hk,hc⟩,λa e=>?_⟩;cases e;exact⟨o,I.DR _ o hk,hd⟩
  ·have z:∃o,s.heap.get? p=some o/\o.ExactDict:=by
    rcases hk with ⟨kvs,hk⟩ | ⟨kvs,hk⟩
    ·obtain⟨_,_,_,_,o,_,_,e,ex,_⟩:=I.hok p _ hk;exact⟨o,e,ex⟩
    ·obtain⟨_,_,_,_,o,_,_,e,ex,_⟩:=I.hok p _ hk;exact⟨o,e,ex⟩
   obtain⟨o,e,ex⟩:=z;refine⟨⟨o,e,ex.1⟩,λa e2=>?_⟩;cases e2;exact⟨o,e,ex.2.1⟩
  ·obtain⟨o,_,_,_,e,ex,_⟩:=I.hok p _ hk;refine⟨⟨o,e,ex.1⟩,λa e2=>?_⟩;cases e2;exact⟨o,e,ex.2.1⟩
 | _=>exact False.elim ty
def tBM(K:aB)(T:String)(r:V->List V->Hp->VK->Prop)(to:TE)(t:TA):TE:=λσ H Q=>to σ H λx H1=>tyV K T x H1/\t σ H1 λxs H2=>r x xs H2 Q
variable {o e:Expr}{es:List Expr}{to:TE}{t:TA}{name:Str}{apos cpos:Pos}{T id:String}{r:V->List V->Hp->VK->Prop}
def Fx(pa:PlainAttrs T)(slot:Slot T name id)(hty:typeOf (.builtin id)=pure (.type "method_descriptor"))(hm:MtR X id r)(ho:PE X o to)(ha:PA X (e::es) t)
  (hbase:attributeBase o name X.env (eval o X.env)=eval o X.env:=by rfl)
  (hfew:((backTo cpos (starEach (e::es) X.env)).all (λx=>!x.1) && (backToKw cpos (keywordEach [] X.env)).all (λx=>x.1.isSome)
   && decide ((e::es).length+([]:List Keyword).length+(if ([]:List Keyword).isEmpty then 0 else 1)<30))=true:=by rfl)
  (hline:(apos.endLine == cpos.line)=true:=by rfl) (hs:starEach (e::es) X.env=(false,eval e X.env)::starEach es X.env:=by rfl) (hplain:(backTo cpos (starEach es X.env)).any (·.1)=false:=by rfl):
  PE X (.Call (.Attribute o name apos) (e::es) [] cpos) (tBM X.K T r to t):=by
 intro pins s σ H Q I h;refine wpAny_Call_method_late hbase hfew hline rfl (jV (ho pins s σ H _ I h) λv s1 ⟨x,H1,I1,r1,ty,q1⟩=>?_);obtain⟨h1,h2⟩:=Zu1 I1 r1 ty;refine⟨T,id,pa,slot,hty,h1,h2,?_⟩;have hA:=ha cpos pins s1 σ H1 _ I1 q1;rw[hs]at hA ⊢;refine Calls.callWith_builtin (by show(false || (backTo cpos (starEach es X.env)).any (·.1))=false;rw[hplain]<;>rfl) (Calls.evalArgs_plain ?_);exact jV hA λus s2 ⟨vs,H2,I2,r2,q2⟩=>hm pins s2 σ H2 x vs v us Q I2 r1 r2 q2
end
end L2
namespace L2
open PySem PySem.Spec PyProof.Rows
def MtM(X:Cx)(id:String)(r:V->List V->Hp->VK->Prop):Prop:=
 ∀(pins:List (Addr×Obj)) (s:Shared) (σ:St) (H:Hp) (x:V) (xs:List V) (v:Value) (us:List Value) (Q:VK),Inv X pins σ H s->RelV x v->Vals xs us->r x xs H Q->
  wpAny (model X.prog X.w) X.A (call (.builtin id) (v::us)) (EP X pins σ Q) X.xe s
def Vals.one:∀{x:V}{us:List Value},Vals [x] us->∃u,us=[u]/\RelV x u
 | _,_,.cons r .nil=>⟨_,rfl,r⟩
def Vals.eraseIdx:∀{xs:List V}{us:List Value} (i:Nat),Vals xs us->Vals (xs.eraseIdx i) (us.eraseIdx i)
 | _,_,_,.nil=>.nil
 | _,_,0,.cons _ t=>t
 | _,_,i+1,.cons r t=>.cons r (Vals.eraseIdx i t)
def Vals.rep{xs:List V}{us:List Value}(h:Vals xs us):∀k:Nat,Vals (List.replicate k xs).flatten (List.replicate k us).flatten
 | 0=>.nil
 | k+1=>by
  rw[List.replicate_succ,List.replicate_succ,List.flatten_cons,List.flatten_cons];exact Vals.append h (Vals.rep h k)
def W4{α:Type}:∀(l:List α) (i:Nat),(l.eraseIdx i).length<=l.length
 | [],_=>Nat.le_refl _
 | _::_,0=>Nat.le_succ _
 | _::r,i+1=>Nat.succ_le_succ (W4 r i)
def foldl_rep(its:List Value):∀(k:Nat) (acc:List Value),
  List.foldl (λx1 x2=>x1++x2) acc.toArray (List.replicate k its.toArray)=(acc++(List.replicate k its).flatten).toArray
 | 0,acc=>by simp
 | k+1,acc=>by
  have e:acc.toArray++its.toArray=(acc++its).toArray:=by simp
  have e2:(acc++its)++(List.replicate k its).flatten=acc++(List.replicate (k+1) its).flatten:=by
   rw[List.replicate_succ,List.flatten_cons,List.append_assoc]
  rw[<- e2,<- foldl_rep its k (acc++its),<- e,List.replicate_succ,List.foldl_cons]
section
variable {X:Cx}{pins:List (Addr×Obj)}{σ:St}{H:Hp}{s:Shared}{l b:Addr}{xs ys zs:List V}
def Inv.Zvb{its its':List Value}{n:Nat}{f:Array Value->Array Value}{t':Nat}(I:Inv X pins σ H s)(hH:H l=some (.lst xs))
  (e:s.heap.get? l=some { cls:=.type "list",data:=.seq its.toArray n }) (hf:f its.toArray=its'.toArray) (hv:Vals ys its') (hz:ys.length<=sizeLine):
  Inv X pins σ (upd H l (.lst ys)) { s with heap:=s.heap.update l (Obj.mapSeq f),toks:=t' }:=by
 have q:=PySem.IsL.update e f;rw[hf]at q;refine I.write (x:=l) (e:=l) (by rw[hH];exact trivial) (.inl rfl) (λb' u hb hu=>(Heap.get?_update_other s.heap (Obj.mapSeq f) (Ne.symm hb)).trans hu) ⟨_,q⟩ ?_;exact⟨hz,its',_,hv,q⟩
def Inv.Zxo{its:List Value}{t':Nat}(I:Inv X pins σ H s)(hv:Vals ys its)(hz:ys.length<=sizeLine):
  Inv X pins σ (upd H s.heap.objs.size (.lst ys)) { s with heap:=s.heap.push { cls:=.type "list",data:=.seq its.toArray },toks:=t' }:=
 I.laid (λ_ _ q=>Heap.get?_push_of_some _ q) (Nat.le_refl _) ⟨hz,its,0,hv,Heap.get?_push_size _ rfl⟩
def Inv.fresh(I:Inv X pins σ H s):H s.heap.objs.size=none:=I.hok.fresh (Nat.le_refl _)
def Inv.Zgv(I:Inv X pins σ H s)(hH:H l=some (.lst xs)):xs.length<=sizeLine/\∃(its:List Value) (n:Nat),Vals xs its/\xs.length=its.length/\s.heap.get? l=some { cls:=.type "list",data:=.seq its.toArray n }:=by
 obtain⟨z,its,n,r,e⟩:=I.hok l _ hH;exact⟨z,its,n,r,r.length,e⟩
def Zcg{n:Nat}(h:n<=sizeLine):Builtin.List.listTooLong n=false:=by
 unfold Builtin.List.listTooLong;exact decide_eq_false (by omega)
end
section
variable {X:Cx}
def Ah:V->List V->Hp->VK->Prop:=λx vs H Q=>∃l xs y,x=.ref l/\vs=[y]/\H l=some (.lst xs)/\xs.length<sizeLine/\Q .non (upd H l (.lst (xs++[y])))
def uJ:MtM X "list.append" Ah:=by
 intro pins s σ H x vs v us Q I rx rv h;obtain⟨l,xs,y,rfl,rfl,hH,hz,q⟩:=h;cases rx;obtain⟨u,rfl,ru⟩:=rv.one;obtain⟨z,its,n,r,hl,e⟩:=I.Zgv hH;refine call_meets F.slot_list_append ⟨_,e,rfl⟩ F.entry_list_append (F.args_list_append_2 _ _) (PySem.list_append l its.toArray n u (by rw[List.size_toArray];omega)) ⟨e,?_⟩;refine⟨.non,_,I.Zvb (its':=its++[u]) hH e (by simp) (r.append (.cons ru .nil)) ?_,rfl,q⟩;rw[List.length_append,List.length_singleton];omega
def Pa:V->List V->Hp->VK->Prop:=λx vs H Q=>∃l b xs zs,x=.ref l/\vs=[.ref b]/\H l=some (.lst xs)/\H b=some (.lst zs)/\xs.length+zs.length<=sizeLine/\Q .non (upd H l (.lst (xs++zs)))
def K7:MtM X "list.extend" Pa:=by
 intro pins s σ H x vs v us Q I rx rv h;obtain⟨l,b,xs,zs,rfl,rfl,hH,hB,hz,q⟩:=h;cases rx;obtain⟨u,rfl,ru⟩:=rv.one;cases ru;obtain⟨z,its,n,r,hl,e⟩:=I.Zgv hH;obtain⟨z2,its2,n2,r2,hl2,e2⟩:=I.Zgv hB;have hsz:its.toArray.size+its2.toArray.size<=sizeLine:=by rw[List.size_toArray,List.size_toArray];omega
 have Zot:¬ (!its.toArray.isEmpty && Builtin.List.listTooLong (its.toArray.size+its2.toArray.size))=true:=by
  rw[Zcg hsz,Bool.and_false];exact Bool.false_ne_true
 refine call_meets F.slot_list_extend ⟨_,e,rfl⟩ F.entry_list_extend (F.args_list_extend_2 _ _)
  (AutoSeq1.list_extend_list_list_0 l its.toArray n b its2.toArray n2 Zot (by rw[List.size_toArray];omega) (by omega)) ⟨e,e2,?_⟩
 refine⟨.non,_,I.Zvb (its':=its++its2) hH e (by simp) (r.append r2) ?_,rfl,q⟩;rw[List.length_append];omega
def Zmm:V->List V->Hp->VK->Prop:=λx vs H Q=>∃l xs i k y,x=.ref l/\vs=[.int i]/\H l=some (.lst xs)/\-(2 ^ 63)<=i/\i<2 ^ 63/\seqIndex? i xs.length=some k/\xs[k]? =some y/\Q y (upd H l (.lst (xs.eraseIdx k)))
def Znq:MtM X "list.pop" Zmm:=by
 intro pins s σ H x vs v us Q I rx rv h;obtain⟨l,xs,i,k,y,rfl,rfl,hH,h1,h2,hk,hy,q⟩:=h;cases rx;obtain⟨u,rfl,ru⟩:=rv.one;obtain⟨t,rfl⟩:=ru;obtain⟨z,its,n,r,hl,e⟩:=I.Zgv hH;obtain⟨w,hw,rw'⟩:=r.get hy;refine call_meets F.slot_list_pop ⟨_,e,rfl⟩ F.entry_list_pop (F.args_list_pop_2 _ _)
  (MeetsSeq.list_pop_at l its.toArray n i t k w (fitsIndex_both h1 h2) (by rw[List.size_toArray,<- hl];exact hk) (by rw[<- Array.getElem?_toList];exact hw) (by rw[List.size_toArray];omega)) ⟨e,?_⟩
 refine⟨y,_,I.Zvb (its':=its.eraseIdx k) hH e ?_ (r.eraseIdx k) ?_,rw',q⟩
 ·show its.toArray.eraseIdxIfInBounds k=(its.eraseIdx k).toArray;rw[List.eraseIdxIfInBounds_toArray]
 ·have:=W4 xs k;omega
def yc:R2:=λx y H Q=>∃l b xs zs,x=.ref l/\y=.ref b/\H l=some (.lst xs)/\H b=some (.lst zs)/\xs.length+zs.length<=sizeLine/\∀p,H p=none->Q (.ref p) (upd H p (.lst (xs++zs)))
def qy:yW X (binaryOp .Add) yc:=by
 intro pins s σ H x y v u Q I rx ry h;obtain⟨l,b,xs,zs,rfl,rfl,hH,hB,hz,q⟩:=h;cases rx;cases ry;obtain⟨z,its,n,r,hl,e⟩:=I.Zgv hH;obtain⟨z2,its2,n2,r2,hl2,e2⟩:=I.Zgv hB;refine PySem.P.add_list e e2 ?_ (by rw[List.size_toArray,List.size_toArray];omega);have ea:its.toArray++its2.toArray=(its++its2).toArray:=by simp
 rw[ea];exact⟨.ref _,_,I.Zxo (t':=s.toks) (r.append r2) (by rw[List.length_append];omega),rfl,q _ I.fresh⟩
def Zbw:R2:=λx y H Q=>∃l k xs,x=.ref l/\y=.int k/\H l=some (.lst xs)/\-(2 ^ 63)<=k/\k<2 ^ 63/\xs.length * k.toNat<=sizeLine/\
 ∀p,H p=none->Q (.ref p) (upd H p (.lst (List.replicate k.toNat xs).flatten))
def len_rep{α:Type}(xs:List α)(k:Nat):(List.replicate k xs).flatten.length=k * xs.length:=by
 induction k with
 | zero=>simp
 | succ k ih=>rw[List.replicate_succ,List.flatten_cons,List.length_append,ih,Nat.succ_mul,Nat.add_comm]
def Q8:yW X (binaryOp .Mult) Zbw:=by
 intro pins s σ H x y v u Q I rx ry h;obtain⟨l,k,xs,rfl,rfl,hH,h1,h2,hz,q⟩:=h;cases rx;obtain⟨t,rfl⟩:=ry;obtain⟨z,its,n,r,hl,e⟩:=I.Zgv hH;have hlen:its.toArray.size * k.toNat<=sizeLine:=by rw[List.size_toArray,<- hl];exact hz
 have hcap:¬ its.toArray.size * k.toNat > (2 ^ 63 - 1) / 8:=by
  have:(sizeLine:Nat)<=(2 ^ 63 - 1) / 8:=by decide
  omega
 have hfit:¬ (!Builtin.List.listFitsIndex k)=true:=by
  rw[fitsIndex_both h1 h2];exact Bool.false_ne_true
 have Zot:¬ Builtin.List.listTooLong (its.toArray.size * k.toNat)=true:=by
  rw[Zcg hlen];exact Bool.false_ne_true
 have hnew:List.foldl (λx1 x2=>x1++x2) #[] (List.replicate (if its.toArray.isEmpty=true then 0 else k.toNat) its.toArray)=(List.replicate k.toNat its).flatten.toArray:=by
  have f0:∀m:Nat,List.foldl (λx1 x2=>x1++x2) #[] (List.replicate m its.toArray)=(List.replicate m its).flatten.toArray:=λm=>by
   have:=foldl_rep its m [];rw[List.nil_append]at this;exact this
  rw[f0];cases its with
  | nil=>simp
  | cons a r'=>rw[if_neg (by simp)]
 refine wpAny_binaryOp_repeat_ref (T:="list") (U:="int") (by decide) ⟨_,e,rfl⟩ (λs'=>typeIs_int s' k t) noFill_list_mul F.fills_int_mul F.slot_int_rmul repeat_list F.slot_int_index.lookup
  (call_meets F.slot_int_rmul (typeIs_int s k t) F.entry_int_rmul (F.args_int_rmul_2 _ _) (int___rmul___int_list k t l its.toArray n)
   ⟨e,rfl,⟨_,e,rfl⟩,call_meets F.slot_list_mul ⟨_,e,rfl⟩ F.entry_list_mul (F.args_list_mul_2 _ _) (AutoListH.list___mul___list_int_3 l its.toArray n k t hfit hcap Zot) ⟨e,?_⟩⟩)
 rw[hnew];exact⟨.ref _,_,I.Zxo (t':=s.toks) (r.rep k.toNat) (by rw[len_rep,Nat.mul_comm];exact hz),rfl,q _ I.fresh⟩
end
section
variable {prog:Program}{w:World}{A:Around}{E:Value->Shared->Prop}{s:Shared}
end
section
variable {X:Cx}
end
end L2
namespace Att
open PySem PySem.W PySem.Calls PyProof.Rows
def O2{P:Params}{h:Heap}:∀(ns:List Int) (vs:List Value),WellAll P h vs (ns.map WData.int)->IntsAre vs ns:=by
 intro ns
 induction ns with
 | nil=>
  intro vs w;rw[List.map_nil]at w;cases w;exact .nil
 | cons n ns ih=>
  intro vs w;rw[List.map_cons]at w;cases w with
  | cons a b=>
   cases a;exact .cons _ _ (ih _ b)
def Zjq{l:OpenLaw}{n:Nat}(hn:l.most=some n){P:Params}{h:Heap}{args:List WData}{vals:List Value}
  (hpre:l.row.toRowW.claim.pre args=true) (hwl:WellAll P h vals args):
  ∃a vs ns,vals=[Value.ref a]/\args=[WData.list (ns.map WData.int)]/\h.get? a=some { cls:=.type "list",data:=.seq vs.toArray }/\IntsAre vs ns/\ns.length<=n:=by
 have hsh:WShape.hasAll [] args [.list .int]=true:=(pre_splitW hpre).1;have hc:l.pre.holds [] { args:=args }=true:=(pre_splitW hpre).2;obtain⟨d,r,rfl,h1,h2⟩:=hasAllW_cons hsh;obtain rfl:=hasAllW_nil h2;obtain⟨xs,rfl,h3⟩:=hasW_list h1;obtain⟨ns,rfl⟩:=items_int h3;have hlen:ns.length<=n:=by
  unfold OpenLaw.pre at hc;have h4:(WTm.not (.lt (.lit (.int (n:Int))) (.len (.arg 0)))).holds [] { args:=[.list (ns.map .int)] }=true:=by
   have h4:=(holds_andW hc).1;rw[hn]at h4;exact h4
  have h5:=condW_of h4 (w_not (w_lt w_lit (w_len_list (w_arg rfl))));rw[aY]at h5;refine Nat.le_of_not_lt λq=>?_;have q':(n:Int)<((ns.length:Nat):Int):=by omega
  first
   | (rw[decide_eq_true q']at h5;exact absurd h5 (by decide))
   | (simp at h5;omega)
 cases hwl with
 | cons w1 w2=>
  cases w2;cases w1 with
  | list ho hall=>exact⟨_,_,ns,rfl,rfl,ho,O2 ns _ hall,hlen⟩
def Zk0(l:OpenLaw)(args:List WData):l.row.toRowW.claim.post args (.bool true) args=true:=
 postW_of (r:=l.row.toRowW) (X:=(true == true))
  (show WShape.has [] (.bool true) .bool=true by first | rfl | decide | simp[WShape.has,WShape.arms,WShape.armsAll])
  (show(WTm.eq .res (.lit (.bool true))).value [] { args:=args,res:=some (.bool true),after:=args }=some (.bool (true == true))from w_eq_bool (w_res rfl) w_lit) rfl
def Ze4{l:OpenLaw}{n:Nat}{q:Program}{loose:List Str}{XP:(Str->Option Value)->Heap->Prop}{YP:World->Heap->Prop}{d:DefRec}
  (hn:l.most=some n) (hdf:d.params.defaults=[])
  (call:∀(w:World) (s₀ s₁:Shared) (mg mb:Str->Option Value) (fa:Addr) (o:Obj) (pm cd doc:Value) (a:Addr) (vs:List Value) (ns:List Int),
   Ground q loose [] XP w s₀ mg mb s₁.heap->YP w s₁.heap->
   s₁.heap.get? fa=some o->o.data=.func (docDef d.name d.params d.body d.scope pm cd doc)->s₁.heap.CodeRec cd d.name->mg d.name=some (.ref fa)->
   s₁.heap.get? a=some { cls:=.type "list",data:=.seq vs.toArray }->IntsAre vs ns->ns.length<=n->s₁.gens=#[]->
   codeAny (model l.prog w) callerA (.call (.ref fa) ⟨[.ref a],[]⟩) (λr s'=>r=.ok (.ret (.bool true))/\OldK s₁.heap s'.heap/\s'.os=s₁.os/\AllBare s'.gens) s₁):
  WalkO q loose XP YP l.row.toRowW d [] (λf vs=>PySem.call f vs):=by
 intro w s₀ s₁ mg mb G Y fa o pm cd doc dV kV ho hd hcd hD hmg hg args vals as hpre hlay hrd hwl hlo;obtain rfl:dV=.none:=Dflts.none hD hdf;obtain rfl:kV=.none:=Dflts.noKw hD;obtain⟨a,vs,ns,rfl,rfl,hobj,hints,hlen⟩:=Zjq hn hpre hwl;refine enter_call (codeAny_mono (call w s₀ s₁ mg mb fa o pm cd doc a vs ns G Y ho (fd_plain hd) hcd hmg hobj hints hlen hg) λr s' hq=>?_);obtain⟨rfl,h2,h3,h4⟩:=hq;exact⟨.inl ⟨.bool true,.bool true,[],rfl,λ_=>rfl,.bool true,Zk0 l _,λ_=>⟨List.Pairwise.nil,λ_ hm=>(nomatch hm)⟩⟩,h2,h3,h4⟩
section
variable {prog:Program}{w:World}{A:Around}{E:Value->Shared->Prop}{s:Shared}{K:Frag}
end
end Att
namespace L2
open PySem PySem.Spec PyProof.Rows
def Wc:∀{vs:List Value}{ns:List Int},IntsAre vs ns->Vals (ns.map V.int) vs
 | _,_,.nil=>.nil
 | _,_,.cons n t h=>.cons ⟨t,rfl⟩ (Wc h)
def Only(H:Hp):Prop:=∀b,H b=none\/∃o xs,H b=some (.zp o (.lst xs))
def Zod{P:Program}{w:World}{K:aB}{mg mb:Str->Option Value}{CX:CXT}{k:Nat}{fa a:Addr}{fd:FuncData}{x:Str}{sp:Sp}{s₁:Shared}{vs:List Value}{ns:List Int}
  (KX:K.In s₁.heap) (hns:s₁.heap.Ns mainGlobals mg) (hb:s₁.heap.Ns builtinsNs mb) (hbb:∀x:Str,x≠"__name__"->mb x=bootBuiltins x) (hlim:s₁.heap.NoLimit) (hg:s₁.gens=#[])
  (ha:s₁.heap.get? a=some { cls:=.type "list",data:=.seq vs.toArray }) (hi:IntsAre vs ns) (hl:ns.length<=sizeLine) (hr:Room k callerA)
  (F:∀base:Heap,K.In base->base.Ns mainGlobals mg->vM P w K mg base CX k fa fd [x] sp) (hbind:∀(s:Shared) (u:Value),BindsTo s fd ⟨[u],[]⟩ [(x,u)])
  (hsp:∀H:Hp,Only H->cL K H a (ns.map V.int)->sp [.ref a] H (λv _=>v=.bl true) λ_ _ _=>False)
  (hCX:∀H e s',CX [] H s₁ (λ_ _ _=>False) e s'->False):
  codeAny (model P w) callerA (.call (.ref fa) ⟨[.ref a],[]⟩) (λr s'=>r=.ok (.ret (.bool true))/\OldK s₁.heap s'.heap/\s'.os=s₁.os/\AllBare s'.gens) s₁:=by
 have rv:=Wc hi;have lenV:=hi.length;have core:∀H:Hp,Only H->cL K H a (ns.map V.int)->Ei P w H s₁.heap->(∀b,H b≠none->b=a)->(H a≠none->K.lookup a=none)->
   codeAny (model P w) callerA (.call (.ref fa) ⟨[.ref a],[]⟩) (λr s'=>r=.ok (.ret (.bool true))/\OldK s₁.heap s'.heap/\s'.os=s₁.os/\AllBare s'.gens) s₁:=by
  intro H hO hS hok hA hK;have Zja:∀{b:Addr}{o:Obj},s₁.heap.get? b=some o->H b=none->(Za1 s₁.heap H).get? b=some o:=λe n=>Zou e n;have noA:∀{b:Addr}{o:Obj}{es:Array DictEntry}{ep:Nat},s₁.heap.get? b=some o->o.data=.dict es ep->H b=none:=λ{b o es ep} e d=>by
   cases q:H b with
   | none=>rfl
   | some u=>
    have e':b=a:=hA b (by rw[q];simp);subst e';rw[ha]at e;cases e;have d':Data.seq vs.toArray _=Data.dict es ep:=d;cases d'
  have nsK:∀{b:Addr}{m:Str->Option Value},s₁.heap.Ns b m->(Za1 s₁.heap H).Ns b m:=λ{b m} ⟨o,es,ep,e,d,r⟩=>⟨o,es,ep,Zja e (noA e d),d,r⟩;have hKb:K.In (Za1 s₁.heap H):=λb o e=>Zja (KX b o e) (by
   cases q:H b with
   | none=>rfl
   | some u=>
    have e':b=a:=hA b (by rw[q];simp);subst e';rw[hK (by rw[q];simp)]at e;cases e)
  have hM:Mod K mg (Za1 s₁.heap H):=⟨hKb,nsK hns,⟨mb,nsK hb,hbb⟩,let ⟨mc,h1,h2⟩:=hlim;⟨mc,nsK h1,h2⟩⟩;have e0:Zi9 P w K mg (Za1 s₁.heap H) callerA [] s₁ H:=⟨rfl,hM,λb o e=>Zrn e,Nat.le_of_eq (Zl8 _ _),trivial,λb hb=>absurd (show b∈([]:List Addr)from hb) (by simp),hok,.of_eq hg⟩;refine codeAny_mono ((F _ hKb (nsK hns)).run callerA [] s₁ H ⟨[.ref a],[]⟩ [.ref a] [.ref a] _ _ hr e0 (hbind s₁ (.ref a)) (.cons rfl .nil) (hsp H hO hS)) λr s' h=>?_;cases r with
  | error e=>exact(hCX H e s' h).elim
  | ok fl=>
   cases fl with
   | next=>exact False.elim h
   | brk=>exact False.elim h
   | cont=>exact False.elim h
   | ret u=>
    obtain⟨v,H',os,bare,un,hok',r',q⟩:=h;have q':v=.bl true:=q;subst q';obtain rfl:u=Value.bool true:=r';refine⟨rfl,OldK.of_keep λb o e=>?_,os,bare⟩;cases q:H b with
    | none=>exact un.keep b o e q (by intro z;exact absurd (show b∈([]:List Addr)from z) (by simp)) (by simp)
    | some u=>
     rcases hO b with z | ⟨ob,xs,z⟩
     ·rw[q]at z;cases z
     ·have z2:=un.Ma b ob _ z;obtain⟨e1,_⟩:=hok b _ z;obtain⟨e2,_⟩:=hok' b _ z2;rw[e]at e1;cases e1;exact e2
 cases hk:K.lookup a with
 | some o=>
  have e:=KX a o hk;rw[ha]at e;cases e;refine core (λ_=>none) (λ_=>.inl rfl) (.inr ⟨_,vs.toArray,_,hk,rfl,rfl,rfl,by rw[List.size_toArray,lenV];exact hl,by simpa using rv⟩) (λb u z=>by have z':(none:Option HO)=some u:=z;cases z') (λb z=>absurd rfl z) λz=>absurd rfl z
 | none=>
  refine core (λb=>if b=a then some (.zp { cls:=.type "list",data:=.seq vs.toArray } (.lst (ns.map V.int)))else none) (λb=>?_) (.inl (.inr ⟨{ cls:=.type "list",data:=.seq vs.toArray },if_pos rfl⟩)) (λb u z=>?_) (λb z=>?_) λ_=>hk
  ·by_cases hb:b=a
   ·exact .inr ⟨_,_,if_pos hb⟩
   ·exact .inl (if_neg hb)
  ·by_cases hb:b=a
   ·have z':=(if_pos hb).symm.trans z;cases z';subst hb;exact⟨ha,by rw[aY];exact hl,vs,_,rv,ha⟩
   ·have z':=(if_neg hb).symm.trans z;cases z'
  ·by_cases hb:b=a
   ·exact hb
   ·exact absurd (if_neg hb) z
end L2
namespace L2
open PySem PySem.Spec PyProof.Rows
def Zq2{l:PySem.W.OpenLaw}{n k:Nat}{q:Program}{loose:List Str}{XP:(Str->Option Value)->Heap->Prop}{YP:World->Heap->Prop}{d:DefRec}{K:Params->aB}{CX:World->CXT}{sp:World->Sp}{x:Str}
  (hn:l.most=some n) (hn2:n<=sizeLine) (hdf:d.params.defaults=[]) (hr:Room k callerA)
  (hY:∀(w:World) (h:Heap),YP w h->(K w.params).In h)
  (F:∀(w:World) (mg:Str->Option Value) (fa:Addr) (h:Heap),(K w.params).In h->h.Ns mainGlobals mg->mg d.name=some (.ref fa)->
   ∃fd:FuncData,(∀(s:Shared) (u:Value),BindsTo s fd ⟨[u],[]⟩ [(x,u)])/\
    ∀base:Heap,(K w.params).In base->base.Ns mainGlobals mg->vM l.prog w (K w.params) mg base (CX w) k fa fd [x] (sp w))
  (hsp:∀(w:World) (H:Hp) (a:Addr) (ns:List Int),ns.length<=n->Only H->cL (K w.params) H a (ns.map V.int)->sp w [.ref a] H (λv _=>v=.bl true) λ_ _ _=>False)
  (hCX:∀(w:World) (H:Hp) (s:Shared) (e:Value) (s':Shared),CX w [] H s (λ_ _ _=>False) e s'->False):
  PySem.W.WalkO q loose XP YP l.row.toRowW d [] (λf vs=>PySem.call f vs):=by
 refine Att.Ze4 hn hdf λw s₀ s₁ mg mb fa o pm cd doc a vs ns G Y ho hd hcd hmg hobj hints hlen hg=>?_;have KX:=hY w _ Y;obtain⟨fd,hb,hF⟩:=F w mg fa _ KX G.T.g hmg;exact Zod KX G.T.g G.T.b G.T.builtins G.T.nolimit hg hobj hints (Nat.le_trans hlen hn2) hr hF hb (λH hO hS=>hsp w H a ns hlen hO hS) λH e s'=>hCX w H s₁ e s'
end L2
namespace L2
open PySem PySem.Spec PyProof.Rows
def inClass(s:Stmt)(j:Nat):Stmt:=match s with
 | .ClassDef _ _ _ body _ _ _ _ _ _ _=>body.getD j (.Pass ⟨0,0,0,0⟩)
 | _=>.Pass ⟨0,0,0,0⟩
def nM(s:Stmt):Arguments:=match s with
 | .FunctionDef _ a _ _ _ _ _ _ _ _=>a
 | _=>{ posonlyargs:=[],args:=[],vararg:=none,kwonlyargs:=[],kw_defaults:=[],kwarg:=none,defaults:=[] }
def kW(s:Stmt):List Stmt:=match s with
 | .FunctionDef _ _ b _ _ _ _ _ _ _=>b
 | _=>[]
def aF(s:Stmt):Scope:=match s with
 | .FunctionDef _ _ _ _ _ _ sc _ _ _=>sc
 | _=>{ kind:=.function,names:=[],isGenerator:=false,isCoroutine:=false }
abbrev E0:XK:=λ_ _ _=>False
structure jw(K:aB)(x qual:Str)(st:Stmt)(f:Addr)(fd:FuncData):Prop where
 ex:∃(oc:Value) (od:Option Addr) (kV doc pm:Value) (an:Option Addr) (cdv ct:Value) (osl:Array (Option Value)),
  fd=PySem.W.fnOf x qual (nM st) (kW st) (aF st) .none kV doc pm an cdv ct/\K.lookup f=some ⟨oc,od,.func fd,osl⟩/\PySem.W.codeIn K cdv qual=true
 kp:PySem.W.keepIn K (.ref f)=true
section
variable {P:Program}{w:World}{K:aB}{mg:Str->Option Value}{base:Heap}
def jw.binds{x qual:Str}{st:Stmt}{f:Addr}{fd:FuncData}{ps:List Str}(F:jw K x qual st f fd)
  (h:∀(kV doc pm:Value) (an:Option Addr) (cdv ct:Value) (us:List Value),us.length=ps.length->bindArgs (PySem.W.fnOf x qual (nM st) (kW st) (aF st) .none kV doc pm an cdv ct) ⟨us,[]⟩=pure (ps.zip us)):Binds K fd ps []:=by
 obtain⟨oc,od,kV,doc,pm,an,cdv,ct,osl,rfl,lk,hcd⟩:=F.ex;exact .all (h kV doc pm an cdv ct)
def Zp7{x qual:Str}{st:Stmt}{f:Addr}{oc:Value}{od an:Option Addr}{osl:Array (Option Value)}{kV doc pm cdv ct:Value}(l:K.lookup f=some ⟨oc,od,.func (PySem.W.fnOf x qual (nM st) (kW st) (aF st) .none kV doc pm an cdv ct),osl⟩)
  (c:PySem.W.codeIn K cdv qual=true) (k:PySem.W.keepIn K (.ref f)=true):jw K x qual st f (PySem.W.fnOf x qual (nM st) (kW st) (aF st) .none kV doc pm an cdv ct):=⟨⟨oc,od,kV,doc,pm,an,cdv,ct,osl,rfl,l,c⟩,k⟩
end
def Bu{A:Around}{k:Nat}(hr:Room k A):A.units+1<cLine:=Nat.lt_of_le_of_lt (Nat.add_le_add_left (by decide:1<=64) _) hr.units
section
variable {X:Cx}
def pv(i:Nat){x:Str}{pos:Pos}(hN:X.N[i]? =some x:=by rfl)(hv:Vis X.env.scope x:=by first | exact Or.inl rfl | exact Or.inr (Or.inl rfl) | exact Or.inr (Or.inr rfl))(hd:(x == ("__debug__":Str))=false:=by decide)
  (hcd:(x == ("__classdict__":Str))=false:=by decide):PE X (.Name x pos) (ak i):=Zn0 hN hv hd hcd
end
def Zs4{A B:Prop}(h:B):if false=true then A else B:=by
 rw[if_neg Bool.false_ne_true];exact h
def Zh1{A B:Prop}(h:A):if true=true then A else B:=by
 rw[if_pos rfl];exact h
def Zvj{c A B:Prop} [Decidable c](h1:c->A)(h2:¬ c->B):if c then A else B:=by
 by_cases h:c
 ·rw[if_pos h];exact h1 h
 ·rw[if_neg h];exact h2 h
def aX(H H':Hp):Prop:=∀b o,H b=some o->H' b=some o
def aX.refl(H:Hp):aX H H:=λ_ _ h=>h
def aX.trans{H H1 H2:Hp}(a:aX H H1)(b:aX H1 H2):aX H H2:=λc o h=>b c o (a c o h)
def aX.free{H H':Hp}(e:aX H H'){l:Addr}(h:H' l=Option.none):H l=Option.none:=by
 cases q:H l with
 | none=>rfl
 | some o=>
  rw[e l o q]at h;cases h
def aX.seq{K:aB}{H H':Hp}{a:Addr}{xs:List V}(e:aX H H')(h:cL K H a xs):cL K H' a xs:=by
 rcases h with (h | ⟨o,h⟩) | h
 ·exact .inl (.inl (e _ _ h))
 ·exact .inl (.inr ⟨o,e _ _ h⟩)
 ·exact .inr h
end L2
namespace L2
open PySem PySem.Spec PyProof.Rows
end L2
namespace L2
open PySem PySem.Spec PyProof.Rows
end L2
namespace L2
open PySem PySem.Spec PyProof.Rows
section
variable {X:Cx}{pins:List (Addr×Obj)}{σ:List (Option V)}{H H':Hp}{s:Shared}{h':Heap}
end
end L2
namespace L2
open PySem PySem.Spec PyProof.Rows
section
variable {X:Cx}
variable {a b:Expr}{ta tb:TE}{pos:Pos}
variable {tA tB':TT}{rest:List Expr}
end
end L2
namespace L2
open PySem PySem.Spec PyProof.Rows
end L2
namespace L2
open PySem PySem.Spec PyProof.Rows
end L2
namespace L2
open PySem PySem.Spec PyProof.Rows
section
variable {X:Cx}{a b c:Expr}{ta tb tc:TE}{pos:Pos}
end
end L2
namespace L2
open PySem PySem.Spec PyProof.Rows
section
variable {prog:Program}{w:World}{A:Around}{E:Value->Shared->Prop}{s:Shared}{K:aB}{x dx C f:Addr}{mA:Str->Option Value}{name:Str}{v:Value}
end
section
variable {X:Cx}{pins:List (Addr×Obj)}{σ:St}{H:Hp}{s:Shared}{a C dx:Addr}{fs:List (Str×V)}{f:Str}{v:V}{A:Around}{E:Value->Shared->Prop}
end
end L2
namespace L2
open PySem PySem.Spec PyProof.Rows
section
variable {X:Cx}{CX:CXT}{k:Nat}{f C:Addr}{fd:FuncData}{ps:List Str}{sp:Sp}{vP:List V}{ds:List Value}{E:XK}{x m:Str}{p pos apos:Pos}{e o:Expr}{es:List Expr}{ta:TE}{t:TA}
end
end L2
namespace L2
open PySem PySem.Spec PyProof.Rows
section
variable {X:Cx}{x:Str}{p pos:Pos}{e:Expr}{es:List Expr}{t:TA}{id T:String}{r:List V->Hp->VK->Prop}
end
end L2
namespace L2
open PySem PySem.Spec PyProof.Rows
section
variable {κ:Type} [DecidableEq κ]
def nP(kvs:List (κ×V))(k:κ):Option V:=(kvs.find? λkv=>decide (kv.1=k)).map (·.2)
def putK(kvs:List (κ×V))(k:κ)(v:V):List (κ×V):=
 if (kvs.any λkv=>decide (kv.1=k))=true then kvs.map (λkv=>if kv.1=k then(kv.1,v)else kv)else kvs++[(k,v)]
def nj{p:κ×V}{r:List (κ×V)}{k:κ}(e:p.1=k):nP (p::r) k=some p.2:=by simp[nP,List.find?_cons,e]
def nA{p:κ×V}{r:List (κ×V)}{k:κ}(e:¬ p.1=k):nP (p::r) k=nP r k:=by simp[nP,List.find?_cons,e]
def BR(k:κ):∀kvs:List (κ×V),(kvs.any λkv=>decide (kv.1=k))=(nP kvs k).isSome
 | []=>rfl
 | p::r=>by
  rw[List.any_cons]
  by_cases e:p.1=k
  ·simp only[nj e,decide_eq_true e,Bool.true_or,Option.isSome_some]
  ·rw[nA e,decide_eq_false e,Bool.false_or];exact BR k r
def Zbg(k j:κ)(y:V):∀kvs:List (κ×V),nP (kvs.map λkv=>if kv.1=k then(kv.1,y)else kv) j=(nP kvs j).map λx=>if j=k then y else x
 | []=>rfl
 | p::r=>by
  have ih:=Zbg k j y r;rw[List.map_cons]
  by_cases h:p.1=k
  ·rw[if_pos h]
   by_cases e:p.1=j
   ·rw[nj (p:=(p.1,y)) e,nj e,Option.map_some,if_pos (e.symm.trans h)]
   ·rw[nA (p:=(p.1,y)) e,nA e,ih]
  ·rw[if_neg h]
   by_cases e:p.1=j
   ·rw[nj (p:=p) e,nj e,Option.map_some,if_neg (λz=>h (e.trans z))]
   ·rw[nA (p:=p) e,nA e,ih]
def Wd(k j:κ)(y:V):∀kvs:List (κ×V),nP kvs k=none->nP (kvs++[(k,y)]) j=if j=k then some y else nP kvs j
 | [],_=>by
  by_cases e:k=j
  ·rw[if_pos e.symm];exact nj (p:=(k,y)) e
  ·rw[if_neg (λz=>e z.symm)];exact nA (p:=(k,y)) e
 | p::r,hn=>by
  rw[List.cons_append];have hk:¬ p.1=k:=λz=>by rw[nj z]at hn;cases hn
  rw[nA hk]at hn;have ih:=Wd k j y r hn
  by_cases e:p.1=j
  ·rw[nj e,nj e,if_neg (λz=>hk (e.trans z))]
  ·rw[nA e,nA e,ih]
def Zlw(kvs:List (κ×V))(k j:κ)(y:V):nP (putK kvs k y) j=if j=k then some y else nP kvs j:=by
 unfold putK
 by_cases a:(kvs.any λkv=>decide (kv.1=k))=true
 ·rw[if_pos a,Zbg];rw[BR]at a
  by_cases e:j=k
  ·obtain⟨x,hx⟩:=Option.isSome_iff_exists.mp a;rw[if_pos e,e,hx,Option.map_some,if_pos rfl]
  ·rw[if_neg e];cases nP kvs j with
   | none=>rfl
   | some x=>rw[Option.map_some,if_neg e]
 ·rw[if_neg a];refine Wd k j y kvs ?_;rw[BR]at a;cases q:nP kvs k with
  | none=>rfl
  | some x=>rw[q]at a;exact(a rfl).elim
def DP(kvs:List (κ×V))(k:κ)(v:V):(putK kvs k v).length<=kvs.length+1:=by
 unfold putK;split
 ·rw[aY];omega
 ·rw[List.length_append,List.length_cons,List.length_nil];omega
def Zmr{kvs:List (κ×V)}{k:κ}(v:V)(h:nP kvs k=none):putK kvs k v=kvs++[(k,v)]:=by
 unfold putK;rw[BR,h];exact if_neg (by decide)
def Fq.Lp{o:Option V}{u:Option Value}(r:Fq o u):o.isSome=u.isSome:=by
 cases o with
 | none=>cases u with
  | none=>rfl
  | some _=>exact(show False from r).elim
 | some _=>cases u with
  | none=>exact(show False from r).elim
  | some _=>rfl
def KV.val{kvs:List (κ×V)}{vs:List (κ×Value)}(r:KV kvs vs)(k:κ):Fq (nP kvs k) (valueAt vs k):=by
 unfold KV at r
 induction r with
 | nil=>exact True.intro
 | @cons p q ps qs h t ih=>
  obtain⟨h1,h2⟩:=h
  by_cases e:p.1=k
  ·have e':q.1=k:=h1.symm.trans e;have b:valueAt (q::qs) k=some q.2:=by simp[valueAt,List.find?_cons,e']
   rw[nj e,b];exact h2
  ·have e':¬ q.1=k:=λz=>e (h1.trans z);have b:valueAt (q::qs) k=valueAt qs k:=by simp[valueAt,List.find?_cons,e']
   rw[nA e,b];exact ih
def KV.any{kvs:List (κ×V)}{vs:List (κ×Value)}(r:KV kvs vs)(k:κ):(kvs.any λkv=>decide (kv.1=k))=vs.any λkv=>decide (kv.1=k):=by
 unfold KV at r
 induction r with
 | nil=>rfl
 | cons h t ih=>rw[List.any_cons,List.any_cons,ih,h.1]
def KV.repl{kvs:List (κ×V)}{vs:List (κ×Value)}(r:KV kvs vs)(k:κ){y:V}{u:Value}(ry:RelV y u):
  KV (kvs.map λkv=>if kv.1=k then(kv.1,y)else kv) (vs.map λkv=>if kv.1=k then(kv.1,u)else kv):=by
 unfold KV at r ⊢
 induction r with
 | nil=>exact .nil
 | @cons p q ps qs h t ih=>
  rw[List.map_cons,List.map_cons];refine .cons ?_ ih;obtain⟨h1,h2⟩:=h
  by_cases e:p.1=k
  ·rw[if_pos e,if_pos (h1.symm.trans e)];exact⟨h1,ry⟩
  ·rw[if_neg e,if_neg (λz=>e (h1.trans z))];exact⟨h1,h2⟩
def KV.put{kvs:List (κ×V)}{vs:List (κ×Value)}(r:KV kvs vs)(k:κ){y:V}{u:Value}(ry:RelV y u):KV (putK kvs k y) (stored vs k u):=by
 unfold putK stored;rw[r.any k]
 by_cases e:(vs.any λkv=>decide (kv.1=k))=true
 ·rw[if_pos e,if_pos e];exact r.repl k ry
 ·rw[if_neg e,if_neg e];exact Paired.snoc r ⟨rfl,ry⟩
def KV.length{kvs:List (κ×V)}{vs:List (κ×Value)}(r:KV kvs vs):kvs.length=vs.length:=Paired.length r
end
def Ziu{P:Program}{w:World}{k:Key}{u:Value}(r:RelV (kV k) u):(fH P w).is k u=true:=by
 cases k with
 | inl i=>obtain⟨t,e⟩:=(show ∃t,u=Value.int i t from r);subst e;exact Zcu P w i t
 | inr x=>obtain⟨t,e⟩:=(show ∃t,u=Value.str x t from r);subst e;exact Zct P w x t
def W5{P:Program}{w:World}:∀{ks:List Key}{us:List Value},Vals (ks.map kV) us->ItemsAre (fH P w) ks us
 | [],_,r=>by rw[List.map_nil]at r;cases r;exact .nil
 | k::ks,_,r=>by
  rw[List.map_cons]at r;cases r with
  | cons h t=>exact .cons (Ziu h) (W5 t)
abbrev KT(H:Hp):List (List Key×V)->List (List Key×Addr×Value)->Prop:=Paired λp q=>p.1=q.1/\H q.2.1=some (.tup (p.1.map kV))/\RelV p.2 q.2.2
def KT.val{H:Hp}{kvs:List (List Key×V)}{xs:List (List Key×Addr×Value)}(r:KT H kvs xs)(k:List Key):Fq (nP kvs k) ((atKey xs k).map (·.2)):=by
 induction r with
 | nil=>exact True.intro
 | @cons p q ps qs h t ih=>
  obtain⟨h1,_,h2⟩:=h
  by_cases e:p.1=k
  ·have e':q.1=k:=h1.symm.trans e;have b:atKey (q::qs) k=some q.2:=by simp[atKey,List.find?_cons,e']
   rw[nj e,b];exact h2
  ·have e':¬ q.1=k:=λz=>e (h1.trans z);have b:atKey (q::qs) k=atKey qs k:=by simp[atKey,List.find?_cons,e']
   rw[nA e,b];exact ih
def KT.repl{H:Hp}{kvs:List (List Key×V)}{xs:List (List Key×Addr×Value)}(r:KT H kvs xs)(k:List Key){y:V}{u:Value}(ry:RelV y u):
  KT H (kvs.map λkv=>if kv.1=k then(kv.1,y)else kv) (xs.map (putAt k u)):=by
 induction r with
 | nil=>exact .nil
 | @cons p q ps qs h t ih=>
  rw[List.map_cons,List.map_cons];refine .cons ?_ ih;obtain⟨h1,h2,h3⟩:=h;unfold putAt
  by_cases e:p.1=k
  ·rw[if_pos e,if_pos (h1.symm.trans e)];exact⟨h1,h2,ry⟩
  ·rw[if_neg e,if_neg (λz=>e (h1.trans z))];exact⟨h1,h2,h3⟩
def KT.put{H:Hp}{kvs:List (List Key×V)}{xs:List (List Key×Addr×Value)}(r:KT H kvs xs)(k:List Key){b:Addr}{y:V}{u:Value}(hb:H b=some (.tup (k.map kV)))(ry:RelV y u):
  KT H (putK kvs k y) (storedH xs k b u):=by
 have e:(kvs.any λkv=>decide (kv.1=k))=(atKey xs k).isSome:=by
  rw[BR,(r.val k).Lp,Option.isSome_map]
 unfold putK storedH;rw[e]
 by_cases q:(atKey xs k).isSome=true
 ·rw[if_pos q,if_pos q];exact r.repl k ry
 ·rw[if_neg q,if_neg q];exact Paired.snoc r ⟨rfl,hb,ry⟩
def KT.keeps{H H':Hp}{kvs:List (List Key×V)}{xs:List (List Key×Addr×Value)}(r:KT H kvs xs)(ht:∀b ys,H b=some (.tup ys)->H' b=some (.tup ys)):KT H' kvs xs:=
 Paired.Zv9 r λ_ _ z=>⟨z.1,ht _ _ z.2.1,z.2.2⟩
section
variable {P:Program}{w:World}{H:Hp}{h:Heap}{a:Addr}
def Ztl{u:HO}(ok:Ei P w H h)(e:Rd H a u):kE P w H h a u:=e.ok ok
def Jw{kvs:List (Key×V)}(ok:Ei P w H h)(e:Rd H a (.dK kvs)):kvs.length<=sizeLine/\(a == sysModules)=false/\∃vs,KV kvs vs/\h.DictOf (fH P w) a vs:=
 show kE P w H h a (.dK kvs)from Ztl ok e
def Ztz{kvs:List (Key×V)}(ok:Ei P w H h)(e:H a=some (.dK kvs)):kvs.length<=sizeLine/\(a == sysModules)=false/\∃vs,KV kvs vs/\h.DictOf (fH P w) a vs:=Jw ok (.inl e)
def ZX{ks:List Key}(ok:Ei P w H h)(e:H a=some (.tup (ks.map kV))):(tupleKind (fH P w)).is h ks a:=by
 obtain⟨_,its,r,o,h1,h2,n,h3⟩:=(show kE P w H h a (.tup (ks.map kV))from ok a _ e);exact⟨o,its.toArray,n,h1,h2,h3,by simpa using W5 r⟩
def Zdr{kvs:List (List Key×V)}(ok:Ei P w H h)(e:Rd H a (.dT kvs)):kvs.length<=sizeLine/\(a == sysModules)=false/\
  ∃xs,KT H kvs xs/\h.DictOfH (tupleKind (fH P w)) a xs:=by
 obtain⟨z,y,xs,r,o,es,ep,h1,h2,h3,h4,h5⟩:=(show kE P w H h a (.dT kvs)from Ztl ok e);refine⟨z,y,xs,r,o,es,ep,h1,h2,h3,h4,λx hx=>?_,h5⟩;have all:∀{l:List (List Key×V)}{m:List (List Key×Addr×Value)},KT H l m->∀x∈m,(tupleKind (fH P w)).is h x.1 x.2.1:=by
  intro l m q
  induction q with
  | nil=>intro x hx;exact nomatch hx
  | @cons p q ps qs hq t ih=>
   intro x hx;rcases List.mem_cons.mp hx with e | hx
   ·subst e;exact ZX ok (by rw[<- hq.1];exact hq.2.1)
   ·exact ih x hx
 exact all r x hx
def Zyl{kvs:List (List Key×V)}(ok:Ei P w H h)(e:H a=some (.dT kvs)):kvs.length<=sizeLine/\(a == sysModules)=false/\
  ∃xs,KT H kvs xs/\h.DictOfH (tupleKind (fH P w)) a xs:=Zdr ok (.inl e)
end
def MP(H:Hp)(a:Addr)(y:V)(r:Option V):Prop:=
 (∃kvs k,Rd H a (.dK kvs)/\y=kV k/\r=nP kvs k)\/∃kvs k b,Rd H a (.dT kvs)/\y=.ref b/\H b=some (.tup (k.map kV))/\r=nP kvs k
def V7(H:Hp)(a:Addr)(y v:V)(H':Hp):Prop:=
 (∃kvs k,H a=some (.dK kvs)/\y=kV k/\kvs.length<sizeLine/\H'=upd H a (.dK (putK kvs k v)))\/
 ∃kvs k b,H a=some (.dT kvs)/\y=.ref b/\H b=some (.tup (k.map kV))/\kvs.length<sizeLine/\H'=upd H a (.dT (putK kvs k v))
def MP.k{H:Hp}{a:Addr}{kvs:List (Key×V)}{k:Key}(e:H a=some (.dK kvs)):MP H a (kV k) (nP kvs k):=.inl ⟨kvs,k,.inl e,rfl,rfl⟩
def V7.k{H:Hp}{a:Addr}{kvs:List (Key×V)}{k:Key}{v:V}(e:H a=some (.dK kvs))(hl:kvs.length<sizeLine):V7 H a (kV k) v (upd H a (.dK (putK kvs k v))):=.inl ⟨kvs,k,e,rfl,hl,rfl⟩
section
variable {X:Cx}{pins:List (Addr×Obj)}{σ:St}{H:Hp}{s:Shared}{a:Addr}{y v:V}{u r:Value}{o:Option V}{A:Around}{E:Value->Shared->Prop}
def Inv.big(I:Inv X pins σ H s):sysModules<s.heap.objs.size:=by
 have h:mainGlobals<s.heap.objs.size:=(I.mod.glob.keeps I.bk).lt;exact Nat.lt_trans (by decide) h
def Zlo{Q:Value->Shared->Prop}(hu:A.units+1<cLine)(I:Inv X pins σ H s)(g:MP H a y (some v))(ry:RelV y u)(h:∀w' s',Inv X pins σ H s'->RelV v w'->Q w' s'):
  wpAny (model X.prog X.w) A (getItem (.ref a) u) Q E s:=by
 rcases g with ⟨kvs,k,e,ey,l⟩ | ⟨kvs,k,b,e,ey,eb,l⟩
 ·subst ey;obtain⟨z,hd,vs,rel,dd⟩:=Jw I.hok e;obtain⟨w',hw,rw'⟩:=Fq.some_of (v:=v) (o:=valueAt vs k) (by rw[l];exact rel.val k);exact wpAny_getItem_of (Ziu ry) dd.mapOf hw (h w' _ (I.tok _) rw')
 ·subst ey;cases (show u=Value.ref b from ry);obtain⟨z,hd,xs,rel,dd⟩:=Zdr I.hok e;obtain⟨w',hw,rw'⟩:=Fq.some_of (v:=v) (o:=(atKey xs k).map (·.2)) (by rw[l];exact rel.val k);obtain⟨p,hp,hp2⟩:=Option.map_eq_some_iff.mp hw;refine wpAny_getItem_heap (tupleKind_room_in1 hu) (ZX I.hok eb) dd hp ?_;rw[hp2];exact h w' _ (I.tok _) rw'
def Zj6{Q:Value->Shared->Prop}(hu:A.units+1<cLine)(I:Inv X pins σ H s)(g:MP H a y o)(ry:RelV y u)(h:∀s',Inv X pins σ H s'->Q (.bool (!o.isSome)) s'):
  wpAny (model X.prog X.w) A (compareOp .NotIn u (.ref a)) Q E s:=by
 rcases g with ⟨kvs,k,e,ey,l⟩ | ⟨kvs,k,b,e,ey,eb,l⟩
 ·subst ey;obtain⟨z,hd,vs,rel,dd⟩:=Jw I.hok e;refine wpAny_notIn_of (Ziu ry) hd dd.mapOf ?_;rw[<- (rel.val k).Lp,<- l];exact h _ (I.tok _)
 ·subst ey;cases (show u=Value.ref b from ry);obtain⟨z,hd,xs,rel,dd⟩:=Zdr I.hok e;refine wpAny_notIn_heap (tupleKind_room_in1 hu) (ZX I.hok eb) hd dd ?_;have q:=(rel.val k).Lp;rw[Option.isSome_map]at q;rw[<- q,<- l];exact h _ (I.tok _)
def Zj5{h':Heap}{t':Nat}{ob:HO}(I:Inv X pins σ H s)(mu:Mut (H a))(hs:Heap.SameBut a s.heap h')(he:∃q,h'.get? a=some q)(new:kE X.prog X.w (upd H a ob) h' a ob):
  Inv X pins σ (upd H a ob) { s with heap:=h',toks:=t' }:=
 I.write (x:=a) (e:=a) mu (.inl rfl) (λb q hb z=>(hs.2 b hb).trans z) he new
def Zwl{P:Program}{w:World}{H':Hp}{h':Heap}{kvs:List (Key×V)}{vs:List (Key×Value)}(z:kvs.length<=sizeLine)(hd:(a == sysModules)=false)(rel:KV kvs vs)(dd:h'.DictOf (fH P w) a vs):
  kE P w H' h' a (.dK kvs):=⟨z,hd,vs,rel,dd⟩
def Zln{H':Hp}{Q:Unit->Shared->Prop}(hu:A.units+1<cLine)(I:Inv X pins σ H s)(g:V7 H a y v H')(ry:RelV y u)(rv:RelV v r)(h:∀s',Inv X pins σ H' s'->Q () s'):
  wpAny (model X.prog X.w) A (setItem (.ref a) u r) Q E s:=by
 rcases g with ⟨kvs,k,e,ey,l,eH⟩ | ⟨kvs,k,b,e,ey,eb,l,eH⟩
 ·subst ey eH;obtain⟨z,hd,vs,rel,dd⟩:=Ztz I.hok e;have hz:vs.length<=sizeLine:=by rw[<- rel.length];exact z
  have hl:(putK kvs k v).length<=sizeLine:=by have:=DP kvs k v;omega
  refine wpAny_setItem_pairs (hsz:=hz) (Ziu ry) dd λh' dd' hs=>h _ ?_;have he:∃q,h'.get? a=some q:=let ⟨q,_,_,hq,_⟩:=dd';⟨q,hq⟩
  exact Zj5 I (by rw[e];exact True.intro) hs he (Zwl hl hd (rel.put k rv) dd')
 ·subst ey eH;cases (show u=Value.ref b from ry);obtain⟨z,hd,xs,rel,dd⟩:=Zyl I.hok e;have hz:xs.length<=sizeLine:=by rw[<- Paired.length rel];exact z
  have hl:(putK kvs k v).length<=sizeLine:=by have:=DP kvs k v;omega
  refine wpAny_setItem_heap (hsz:=hz) (tupleKind_room_in1 hu) (ZX I.hok eb) dd λh' dd' hs=>h _ ?_;obtain⟨q,es,ep,hq,h2,h3,h4,_,h5⟩:=dd';refine Zj5 I (by rw[e];exact True.intro) hs ⟨q,hq⟩ ⟨hl,hd,_,(rel.put k eb rv).keeps λc ys ec=>?_,q,es,ep,hq,h2,h3,h4,h5⟩;rw[aC (qz ec e (λz=>nomatch z))];exact ec
end
section
variable {X:Cx}{pins:List (Addr×Obj)}{σ:St}{H:Hp}{s:Shared}{a:Addr}{kvs:List (Key×V)}{k:Key}{u:Value}{A:Around}{E:Value->Shared->Prop}
end
def Ztd(i:Expr):Prop:=∀ov iv,subscripted i false ov iv=operate [ov,iv] (getItem ov iv)
def Zif{prog:Program}{w:World}{A:Around}{E:Value->Shared->Prop}{s:Shared}{env:Env}{value slice:Expr}{pos:Pos}{T id:String}{Q:Value->Shared->Prop}
  (hl:typeLookup (.type T) "__getitem__"=pure (some (.builtin id))) (hs:Ztd slice)
  (h:wpAny (model prog w) A (eval value env) (λo s₁=>wpAny (model prog w) A (eval slice env) (λi s₂=>s₂.TypeIs o T/\wpAny (model prog w) A (getItem o i) Q E s₂) E s₁) E s):
  wpAny (model prog w) A (eval (.Subscript value slice pos) env) Q E s:=by
 refine Subscript_ (wpAny_mono h (λo s₁ h₁=>wpAny_mono h₁ (λi s₂ h₂=>?_) λ_ _ x=>x) λ_ _ x=>x);obtain⟨hT,h₂⟩:=h₂;unfold subscriptTail;refine wpAny_bind ?_;rw[getitemInPython_of_ne hT.not_modules];refine wpAny_bind (wpAny_specialOf hT hl ?_);have fin:wpAny (model prog w) A (subscripted slice false o i) (λr s₃=>wpAny (model prog w) A (letTemporaryGo value o r >>= λ_=>pure r) Q E s₃) E s₂:=by
  rw[hs o i];exact wpAny_operating (wpAny_mono h₂ (λr s₃ h₃=>wpAny_bind (wpAny_letTemporaryGo (wpAny_pure h₃))) λ_ _ x=>x)
 first
  | exact wpAny_pure (wpAny_bind fin)
  | exact wpAny_bind (wpAny_pure (wpAny_bind fin))
  | exact wpAny_bind fin
def Zdv{X:Cx}{pins:List (Addr×Obj)}{σ:St}{H:Hp}{s:Shared}{a:Addr}{y:V}{o:Option V}(I:Inv X pins σ H s)(g:MP H a y o):s.TypeIs (.ref a) "dict":=by
 rcases g with ⟨kvs,k,e,_,_⟩ | ⟨kvs,k,b,e,_,_,_⟩
 ·obtain⟨_,_,vs,_,dd⟩:=Jw I.hok e;exact dd.typeIs
 ·obtain⟨_,_,xs,_,dd⟩:=Zdr I.hok e;exact dd.typeIs
def Ql(td ty:TE):TE:=λσ H Q=>td σ H λx H1=>ty σ H1 λy H2=>∃a v,x=.ref a/\MP H2 a y (some v)/\Q v H2
def XM(ty td:TE):TE:=λσ H Q=>ty σ H λy H1=>td σ H1 λx H2=>∃a o,x=.ref a/\MP H2 a y o/\Q (.bl (!o.isSome)) H2
def QL(td ty tv:TE):TS:=λD σ H=>tv σ H λv H1=>td σ H1 λx H2=>ty σ H2 λy H3=>∃a H4,x=.ref a/\V7 H3 a y v H4/\D.nx σ H4
section
variable {X:Cx}{o i e value:Expr}{pos pos' tpos:Pos}{td ty tv:TE}
def Zra(hu:X.A.units+1<cLine)(ho:PE X o td)(hi:PE X i ty)(hs:Ztd i):PE X (.Subscript o i pos) (Ql td ty):=by
 intro pins s σ H Q I h;refine Zif PySem.F.slot_dict_getitem.lookup hs (jV (ho pins s σ H _ I h) λu s1 ⟨x,H1,I1,rx,q1⟩=>jV (hi pins s1 σ H1 _ I1 q1) λiv s2 ⟨y,H2,I2,ry,a,v,ex,g,q2⟩=>?_);subst ex;obtain rfl:u=Value.ref a:=rx;exact⟨Zdv I2 g,Zlo hu I2 g ry λw' s3 I3 rw'=>⟨v,H2,I3,rw',q2⟩⟩
def Zk3(hu:X.A.units+1<cLine)(hi:PE X i ty)(ho:PE X o td):PC X .NotIn i o (XM ty td):=by
 intro pins s σ H Q I h;refine jV (hi pins s σ H _ I h) λiv s1 ⟨y,H1,I1,ry,q1⟩=>jV (ho pins s1 σ H1 _ I1 q1) λu s2 ⟨x,H2,I2,rx,a,ov,ex,g,q2⟩=>?_;subst ex;obtain rfl:u=Value.ref a:=rx;exact Zj6 hu I2 g ry λs3 I3=>⟨.bl (!ov.isSome),H2,I3,rfl,q2⟩
def HQ(hu:X.A.units+1<cLine)(ho:PE X o td)(hi:PE X i ty)(hv:PE X value tv)(hs:swapsWith value (some (.Subscript o i pos')) pos.line X.env=pure false):
  PS X (.Assign [.Subscript o i pos'] value pos) (QL td ty tv):=by
 intro pins s σ H D I h;refine wpAny_Assign_Subscript (jV (hv pins s σ H _ I h) λr s1 ⟨v,H1,I1,rv,q1⟩=>jV (ho pins s1 σ H1 _ I1 q1) λu s2 ⟨x,H2,I2,rx,q2⟩=>jV (hi pins s2 σ H2 _ I2 q2) λiv s3 ⟨y,H3,I3,ry,a,H4,ex,g,q3⟩=>?_) hs;subst ex;obtain rfl:u=Value.ref a:=rx;exact Zln hu I3 g ry rv λs4 I4=>⟨σ,H4,I4,q3⟩
end
def Zpn{P:Program}{w:World}{H:Hp}(h:Heap)(hb:sysModules<h.objs.size):kE P w H (h.push { cls:=.type "dict",data:=.dict #[] }) h.objs.size (.dK []):=
 ⟨Nat.zero_le _,beq_eq_false_iff_ne.mpr (Ne.symm (Nat.ne_of_lt hb)),[],.nil,Heap.DictOf.new h⟩
def Qk:TE:=λ_ H Q=>∀p,H p=none->Q (.ref p) (upd H p (.dK []))
section
variable {X:Cx}{pos:Pos}
def HS:PE X (.Dict [] [] pos) Qk:=λpins s σ H Q I h=>
 wpAny_Dict_empty ⟨.ref s.heap.objs.size,_,I.laid (a:=s.heap.objs.size) (o:=.dK []) (t':=s.toks) (λ_ _ q=>Heap.get?_push_of_some _ q) (Nat.le_refl _) (Zpn s.heap I.big),rfl,h _ (I.hok.fresh (Nat.le_refl _))⟩
end
def Zm6:List (TE×TE)->St->Hp->(List (V×V)->Hp->Prop)->Prop
 | [],_,H,Q=>Q [] H
 | (tk,tv)::r,σ,H,Q=>tk σ H λx H1=>tv σ H1 λy H2=>Zm6 r σ H2 λps H3=>Q ((x,y)::ps) H3
abbrev VV:List (V×V)->List (Value×Value)->Prop:=Paired λp q=>RelV p.1 q.1/\RelV p.2 q.2
def PPs(X:Cx)(pos:Pos)(keys:List (Option Expr))(values:List Expr)(trs:List (TE×TE)):Prop:=
 ∀(pins:List (Addr×Obj)) (s:Shared) (σ:St) (H:Hp) (Q:List (V×V)->Hp->Prop),Inv X pins σ H s->Zm6 trs σ H Q->
  wpAny (model X.prog X.w) X.A (evalPairs (pairTrees keys values X.env pos)) (λvs s'=>∃ps H',Inv X pins σ H' s'/\VV ps vs/\Q ps H') X.xe s
structure M1(X:Cx)(o:Expr)(m:Str)(apos:Pos)(e:Expr)(cpos:Pos):Prop where
 base:attributeBase o m X.env (eval o X.env)=eval o X.env
 few:((backTo cpos (starEach [e] X.env)).all (λx=>!x.1) && (backToKw cpos (keywordEach [] X.env)).all (λx=>x.1.isSome)
  && decide (([e]:List Expr).length+([]:List Keyword).length+(if ([]:List Keyword).isEmpty then 0 else 1)<30))=true
 line:(apos.endLine == cpos.line)=true
 trees:backTo cpos (starEach [e] X.env)=[(false,eval e X.env)]
structure M2(X:Cx)(o:Expr)(m:Str)(apos:Pos)(e f:Expr)(cpos:Pos):Prop where
 base:attributeBase o m X.env (eval o X.env)=eval o X.env
 few:((backTo cpos (starEach [e,f] X.env)).all (λx=>!x.1) && (backToKw cpos (keywordEach [] X.env)).all (λx=>x.1.isSome)
  && decide (([e,f]:List Expr).length+([]:List Keyword).length+(if ([]:List Keyword).isEmpty then 0 else 1)<30))=true
 line:(apos.endLine == cpos.line)=true
 trees:backTo cpos (starEach [e,f] X.env)=[(false,eval e X.env),(false,eval f X.env)]
def IsD(H:Hp)(a:Addr):Prop:=(∃kvs,Rd H a (.dK kvs))\/∃kvs,Rd H a (.dT kvs)
def Zoi{X:Cx}{pins:List (Addr×Obj)}{σ:St}{H:Hp}{s:Shared}{a:Addr}(I:Inv X pins σ H s)(d:IsD H a):
  s.TypeIs (.ref a) "dict"/\(∀b,Value.ref a=.ref b->∃ob,s.heap.get? b=some ob/\ob.dict=none)/\(a == sysModules)=false:=by
 rcases d with ⟨kvs,e⟩ | ⟨kvs,e⟩
 ·obtain⟨_,hd,vs,_,dd⟩:=Jw I.hok e;refine⟨dd.typeIs,λb q=>?_,hd⟩;cases q;obtain⟨ob,_,_,h1,h2,_⟩:=dd;exact⟨ob,h1,h2.2.1⟩
 ·obtain⟨_,hd,xs,_,dd⟩:=Zdr I.hok e;refine⟨dd.typeIs,λb q=>?_,hd⟩;cases q;obtain⟨ob,_,_,h1,h2,_⟩:=dd;exact⟨ob,h1,h2.2.1⟩
section
variable {X:Cx}{pins:List (Addr×Obj)}{σ:St}{H:Hp}{s:Shared}{a:Addr}{y d:V}{u r:Value}{o:Option V}{A:Around}{E:Value->Shared->Prop}
end
section
variable {X:Cx}{o e f:Expr}{apos cpos:Pos}{td ty tx:TE}
end
section
variable {X:Cx}{pins:List (Addr×Obj)}{σ:St}{H:Hp}{s:Shared}{a:Addr}{kvs:List (Key×V)}{A:Around}{E:Value->Shared->Prop}
end
section
variable {X:Cx}{pins:List (Addr×Obj)}{σ:St}{H:Hp}{s:Shared}{a:Addr}{y:V}{u:Value}{A:Around}{E:Value->Shared->Prop}
end
end L2
namespace Att
open PySem PySem.W PySem.Calls PyProof.Rows
section
variable {prog:Program}{w:World}{A:Around}{E:Value->Shared->Prop}{s:Shared}{K:Frag}
end
end Att
namespace L2
open PySem PySem.Spec PyProof.Rows
end L2
namespace L2
open PySem PySem.Spec PyProof.Rows
end L2
namespace L2
open PySem PySem.Spec PyProof.Rows
section
variable {X:Cx}
end
section
variable {κ:Type} [DecidableEq κ]
end
end L2
set_option maxHeartbeats 40000000
namespace G
open PySem L2
section
variable {D:Ends}{σ:St}{H H1:Hp}{Q:VK}{t u:TS}{ta tb tc te:TE}{n:St->Hp->Prop}{r:VK}{b c:St->Hp->Prop}
def Ji(h:t ⟨u ⟨n,r,b,c⟩,r,b,c⟩ σ H):aN t u ⟨n,r,b,c⟩ σ H:=h
def vg(h:n σ H):cu ⟨n,r,b,c⟩ σ H:=h
def Zw3(h:te σ H λ_ H1=>n σ H1):vX te ⟨n,r,b,c⟩ σ H:=h
def Ziw(h:te σ H r):bG te ⟨n,r,b,c⟩ σ H:=h
def Zvz{c':TT}(h:c' σ H λk H1=>if k=true then t ⟨n,r,b,c⟩ σ H1 else u ⟨n,r,b,c⟩ σ H1):eE c' t u ⟨n,r,b,c⟩ σ H:=h
def R6{g:TG}(h:te σ H λx H1=>g x σ H1 n):bF te g ⟨n,r,b,c⟩ σ H:=h
def i_C{v:V}(h:Q v H):tC v σ H Q:=h
def Zh4{f:R2}(h:ta σ H λx H1=>tb σ H1 λy H2=>f x y H2 Q):bC f ta tb σ H Q:=h
def Zzn{f:V->Hp->VK->Prop}(h:ta σ H λx H1=>f x H1 Q):tUn f ta σ H Q:=h
def kB(q:Bool->Hp->Prop):VK:=λx H'=>∃k,x=.bl k/\q k H'
def i_B{k:Bool}{q:Bool->Hp->Prop}(h:q k H):kB q (.bl k) H:=⟨k,rfl,h⟩
def Zvo{q:Bool->Hp->Prop}(h:te σ H (kB q)):cg te σ H q:=h
def Zxy{q:Bool->Hp->Prop}(h:te σ H (kB q)):tB te σ H q:=h
def Zyb{t u:TT}{q:Bool->Hp->Prop}(h:t σ H λk H1=>if k=true then u σ H1 q else q false H1):Zbh t u σ H q:=h
def Zxz{t u:TT}{q:Bool->Hp->Prop}(h:t σ H λk H1=>if k=true then q true H1 else u σ H1 q):XJ t u σ H q:=h
def Ztu{t:TT}{q:Bool->Hp->Prop}(h:t σ H λk H1=>q (!k) H1):zq t σ H q:=h
def Zw9(h:ta σ H (kB λk H1=>if k=true then tb σ H1 Q else Q (.bl false) H1)):Zie ta tb σ H Q:=h
def Zvr(h:ta σ H (kB λk H1=>Q (.bl (!k)) H1)):Zid ta σ H Q:=h
def Zy5{t:TT}(h:t σ H λk H1=>if k=true then ta σ H1 Q else tb σ H1 Q):tIf t ta tb σ H Q:=h
def Zyc{g:Int->Int->V}{i j:Int}(h:Q (g i j) H):oN g (.int i) (.int j) H Q:=⟨i,j,rfl,rfl,h⟩
def i_I{C:Int->Int->Prop}{g:Int->Int->V}{i j:Int}(hc:C i j)(h:Q (g i j) H):rI C g (.int i) (.int j) H Q:=⟨i,j,rfl,rfl,hc,h⟩
def i_U{g:Int->V}{i:Int}(h:Q (g i) H):rU g (.int i) H Q:=⟨i,rfl,h⟩
def Zya{i j:Int}(h:Q (.bl (decide (i=j))) H):By (.int i) (.int j) H Q:=⟨rfl,by rw[show decide (V.int i=V.int j)=decide (i=j)from decide_eq_decide.mpr ⟨λe=>V.int.inj e,λe=>by rw[e]⟩];exact h⟩
def Zy9{i j:Str}(h:Q (.bl (decide (i=j))) H):By (.str i) (.str j) H Q:=⟨rfl,by rw[show decide (V.str i=V.str j)=decide (i=j)from decide_eq_decide.mpr ⟨λe=>V.str.inj e,λe=>by rw[e]⟩];exact h⟩
def Zy2{i j:Int}(h:Q (.bl (!decide (i=j))) H):rNe (.int i) (.int j) H Q:=⟨rfl,by rw[show decide (V.int i=V.int j)=decide (i=j)from decide_eq_decide.mpr ⟨λe=>V.int.inj e,λe=>by rw[e]⟩];exact h⟩
def Zy1{i j:Str}(h:Q (.bl (!decide (i=j))) H):rNe (.str i) (.str j) H Q:=⟨rfl,by rw[show decide (V.str i=V.str j)=decide (i=j)from decide_eq_decide.mpr ⟨λe=>V.str.inj e,λe=>by rw[e]⟩];exact h⟩
def Um:R2:=λx y H Q=>y=.non/\Q (.bl (decide (x=.non))) H
def De:R2:=λx y H Q=>y=.non/\Q (.bl (!decide (x=.non))) H
def Zvy(h:Q (.bl true) H):Um .non .non H Q:=⟨rfl,h⟩
def Zvx{i:Int}(h:Q (.bl false) H):Um (.int i) .non H Q:=⟨rfl,h⟩
def Zvw{i:Addr}(h:Q (.bl false) H):Um (.ref i) .non H Q:=⟨rfl,h⟩
def Zs9(h:Q (.bl false) H):De .non .non H Q:=⟨rfl,h⟩
def Zs8{i:Int}(h:Q (.bl true) H):De (.int i) .non H Q:=⟨rfl,h⟩
def Zs7{i:Addr}(h:Q (.bl true) H):De (.ref i) .non H Q:=⟨rfl,h⟩
def Zh6{A B:Prop}(h:A):if true=true then A else B:=Zh1 h
def Za0{A B:Prop}(h:B):if false=true then A else B:=Zs4 h
def Zse{A B:Prop}(h:B):if (!true)=true then A else B:=Zs4 h
def Zsf{A B:Prop}(h:A):if (!false)=true then A else B:=Zh1 h
def vO{p A B:Prop} [Decidable p](h1:p->A)(h2:¬ p->B):if decide p=true then A else B:=Zvj (λe=>h1 (of_decide_eq_true e)) (λe=>h2 (λq=>e (decide_eq_true q)))
def LR{p A B:Prop} [Decidable p](h1:¬ p->A)(h2:p->B):if (!decide p)=true then A else B:=Zvj (λe=>h1 (by simpa using e)) (λe=>h2 (by simpa using e))
def Zy0{q:List V->Hp->Prop}(h:q [] H):aD σ H q:=h
def Zw7{q:List V->Hp->Prop}{t:TA}(h:ta σ H λx H1=>t σ H1 λxs H2=>q (x::xs) H2):aj ta t σ H q:=h
def Zy3{t:TA}(h:t σ H λxs H1=>xs.length<=sizeLine/\∀p,H1 p=none->Q (.ref p) (upd H1 p (.lst xs))):iz t σ H Q:=h
def Zxv{t:TA}(h:t σ H λxs H1=>xs.length<=sizeLine/\∀p,H1 p=none->Q (.ref p) (upd H1 p (.tup xs))):gf t σ H Q:=h
def Zw8{t:TA}{sp:Sp}{vP:List V}{E:XK}(h:t σ H λvs H1=>sp (vs++vP) H1 Q E):aQ sp vP E t σ H Q:=h
def ZA1{t:TA}{f:List V->Hp->VK->Prop}(h:t σ H λvs H1=>f vs H1 Q):wX f t σ H Q:=h
def Zvu{t:TA}{sp:Sp}{vP:List V}{E:XK}{C:Addr}(h:t σ H λvs H1=>∀x dx,H1 x=none->H1 dx=none->dx≠x->sp (.ref x::(vs++vP)) (upd (upd H1 dx (.own x)) x (.ins C dx [])) (λv H2=>v=.non/\Q (.ref x) H2) E):Bs C sp vP E t σ H Q:=h
def Zxt(K:aB)(f:Str)(Q:VK):VK:=λx H1=>∃a C dx fs v,x=.ref a/\H1 a=some (.ins C dx fs)/\Gf K C/\bK K C f/\fs.lookup f=some v/\Q v H1
def Zy8{K:aB}{f:Str}(h:ta σ H (Zxt K f Q)):bw K ta f σ H Q:=h
def aH{K:aB}{f:Str}{a C dx:Addr}{fs:List (Str×V)}{v:V}(h:H a=some (.ins C dx fs))(hc:Gf K C)(hn:bK K C f)(hl:fs.lookup f=some v)(q:Q v H):Zxt K f Q (.ref a) H:=⟨a,C,dx,fs,v,rfl,h,hc,hn,hl,q⟩
def Zvp{K:aB}{f:Str}{tv:TE}(h:tv σ H λy H1=>ta σ H1 λx H2=>∃a C dx fs,x=.ref a/\H2 a=some (.ins C dx fs)/\Gf K C/\bK K C f/\fs.length<1000/\n σ (upd H2 a (.ins C dx (cB f y fs)))):ie K ta tv f ⟨n,r,b,c⟩ σ H:=h
def Zvt{C:Addr}{m:Str}{sp:Sp}{vP:List V}{E:XK}{t:TA}(h:ta σ H λx H1=>∃a dx fs,x=.ref a/\H1 a=some (.ins C dx fs)/\fs.lookup m=none/\t σ H1 λvs H2=>sp (x::(vs++vP)) H2 Q E):lX C m sp vP E ta t σ H Q:=h
def Zom{q:Option Int->Hp->Prop}(h:q none H):O8 σ H q:=h
def kI(q:Int->Hp->Prop):VK:=λx H1=>∃i,x=.int i/\q i H1
def Zvq{q:Option Int->Hp->Prop}(h:te σ H (kI λi=>q (some i))):Wx te σ H q:=h
def Zzp{i:Int}{q:Int->Hp->Prop}(h:q i H):kI q (.int i) H:=⟨i,rfl,h⟩
def Zzo{f:V->Option Int->Option Int->Hp->VK->Prop}{tl th:TO}(h:te σ H λx H1=>tl σ H1 λl H2=>th σ H2 λu H3=>f x l u H3 Q):tSl f te tl th σ H Q:=h
def ZA0{K:aB}{T:String}{f:V->List V->Hp->VK->Prop}{to:TE}{t:TA}(h:to σ H λx H1=>tyV K T x H1/\t σ H1 λxs H2=>f x xs H2 Q):tBM K T f to t σ H Q:=h
def Zy7{wi:TI}{g:TG}{tb:TS}(h:wi σ H λJ H1=>∃W:Nat->Nat->St->Hp->Prop,(∃m,W 0 m σ H1)/\∀i m σ H,W i m σ H->
 (J.stop i H/\n σ H)\/(J.go i H/\∃N:St->Hp->Prop,(∀ σ' H',N σ' H'->∃m',m'<m/\W (i+1) m' σ' H')/\∀x H',J.yld i H x H'->g x σ H' λσ2 H2=>tb ⟨N,r,n,N⟩ σ2 H2)):yK wi g tb ⟨n,r,b,c⟩ σ H:=h
def Zzs{K:aB}{R:It->Hp->Prop}(h:te σ H λx H1=>∃a,x=.ref a/\(∃xs,cL K H1 a xs)/\R (Itl K a) H1):qI K te σ H R:=h
def Zzr{ta:TA}{R:It->Hp->Prop}(h:ta σ H λvs H1=>∃j:Int,vs=[.int j]/\-(2 ^ 62)<=j/\j<2 ^ 62/\R (Itr 0 j.toNat) H1):FW ta σ H R:=h
end
def Zzm{v:V}{l:St}{H:Hp}{Q:VK}(h:Q v H):ak 0 (some v::l) H Q:=⟨v,rfl,h⟩
def Zzl{x0:Option V}{v:V}{l:St}{H:Hp}{Q:VK}(h:Q v H):ak 1 (x0::some v::l) H Q:=⟨v,rfl,h⟩
def Zzz{x0:Option V}{y:Option V}{v:V}{l:St}{H:Hp}{Q:St->Hp->Prop}(h:Q (x0::some v::l) H):aO 1 v (x0::y::l) H Q:=h
def Zzk{x0 x1:Option V}{v:V}{l:St}{H:Hp}{Q:VK}(h:Q v H):ak 2 (x0::x1::some v::l) H Q:=⟨v,rfl,h⟩
def Zw1{x0 x1:Option V}{y:Option V}{v:V}{l:St}{H:Hp}{Q:St->Hp->Prop}(h:Q (x0::x1::some v::l) H):aO 2 v (x0::x1::y::l) H Q:=h
def Zh3{x0 x1 x2:Option V}{v:V}{l:St}{H:Hp}{Q:VK}(h:Q v H):ak 3 (x0::x1::x2::some v::l) H Q:=⟨v,rfl,h⟩
def Zdf{x0 x1 x2:Option V}{y:Option V}{v:V}{l:St}{H:Hp}{Q:St->Hp->Prop}(h:Q (x0::x1::x2::some v::l) H):aO 3 v (x0::x1::x2::y::l) H Q:=h
def Zzj{x0 x1 x2 x3:Option V}{v:V}{l:St}{H:Hp}{Q:VK}(h:Q v H):ak 4 (x0::x1::x2::x3::some v::l) H Q:=⟨v,rfl,h⟩
def Zsg{x0 x1 x2 x3:Option V}{y:Option V}{v:V}{l:St}{H:Hp}{Q:St->Hp->Prop}(h:Q (x0::x1::x2::x3::some v::l) H):aO 4 v (x0::x1::x2::x3::y::l) H Q:=h
def Zzi{x0 x1 x2 x3 x4:Option V}{v:V}{l:St}{H:Hp}{Q:VK}(h:Q v H):ak 5 (x0::x1::x2::x3::x4::some v::l) H Q:=⟨v,rfl,h⟩
def Zzy{x0 x1 x2 x3 x4:Option V}{y:Option V}{v:V}{l:St}{H:Hp}{Q:St->Hp->Prop}(h:Q (x0::x1::x2::x3::x4::some v::l) H):aO 5 v (x0::x1::x2::x3::x4::y::l) H Q:=h
def Zzh{x0 x1 x2 x3 x4 x5:Option V}{v:V}{l:St}{H:Hp}{Q:VK}(h:Q v H):ak 6 (x0::x1::x2::x3::x4::x5::some v::l) H Q:=⟨v,rfl,h⟩
def Zzx{x0 x1 x2 x3 x4 x5:Option V}{y:Option V}{v:V}{l:St}{H:Hp}{Q:St->Hp->Prop}(h:Q (x0::x1::x2::x3::x4::x5::some v::l) H):aO 6 v (x0::x1::x2::x3::x4::x5::y::l) H Q:=h
def Zzg{x0 x1 x2 x3 x4 x5 x6:Option V}{v:V}{l:St}{H:Hp}{Q:VK}(h:Q v H):ak 7 (x0::x1::x2::x3::x4::x5::x6::some v::l) H Q:=⟨v,rfl,h⟩
def Zzw{x0 x1 x2 x3 x4 x5 x6:Option V}{y:Option V}{v:V}{l:St}{H:Hp}{Q:St->Hp->Prop}(h:Q (x0::x1::x2::x3::x4::x5::x6::some v::l) H):aO 7 v (x0::x1::x2::x3::x4::x5::x6::y::l) H Q:=h
def Zzf{x0 x1 x2 x3 x4 x5 x6 x7:Option V}{v:V}{l:St}{H:Hp}{Q:VK}(h:Q v H):ak 8 (x0::x1::x2::x3::x4::x5::x6::x7::some v::l) H Q:=⟨v,rfl,h⟩
def Zzv{x0 x1 x2 x3 x4 x5 x6 x7:Option V}{y:Option V}{v:V}{l:St}{H:Hp}{Q:St->Hp->Prop}(h:Q (x0::x1::x2::x3::x4::x5::x6::x7::some v::l) H):aO 8 v (x0::x1::x2::x3::x4::x5::x6::x7::y::l) H Q:=h
def Zze{x0 x1 x2 x3 x4 x5 x6 x7 x8:Option V}{v:V}{l:St}{H:Hp}{Q:VK}(h:Q v H):ak 9 (x0::x1::x2::x3::x4::x5::x6::x7::x8::some v::l) H Q:=⟨v,rfl,h⟩
def Zzu{x0 x1 x2 x3 x4 x5 x6 x7 x8:Option V}{y:Option V}{v:V}{l:St}{H:Hp}{Q:St->Hp->Prop}(h:Q (x0::x1::x2::x3::x4::x5::x6::x7::x8::some v::l) H):aO 9 v (x0::x1::x2::x3::x4::x5::x6::x7::x8::y::l) H Q:=h
def Zxu{x0 x1 x2 x3 x4 x5 x6 x7 x8 x9:Option V}{v:V}{l:St}{H:Hp}{Q:VK}(h:Q v H):ak 10 (x0::x1::x2::x3::x4::x5::x6::x7::x8::x9::some v::l) H Q:=⟨v,rfl,h⟩
def Zy6{x0 x1 x2 x3 x4 x5 x6 x7 x8 x9:Option V}{y:Option V}{v:V}{l:St}{H:Hp}{Q:St->Hp->Prop}(h:Q (x0::x1::x2::x3::x4::x5::x6::x7::x8::x9::some v::l) H):aO 10 v (x0::x1::x2::x3::x4::x5::x6::x7::x8::x9::y::l) H Q:=h
end G
namespace G
open PySem L2
def aL{H:Hp}{p:Addr}(h:H p=none)(o:HO):aX H (upd H p o):=λb u q=>by rw[aC (aG q h)];exact q
def tyN(H:Hp):V->Option String
 | .non=>some "NoneType"
 | .bl _=>some "bool"
 | .int _=>some "int"
 | .str _=>some "str"
 | .ref a=>match H a with
  | some (.lst _)=>some "list"
  | some (.zp _ (.lst _))=>some "list"
  | some (.tup _)=>some "tuple"
  | some (.dK _)=>some "dict"
  | some (.dT _)=>some "dict"
  | _=>none
 | _=>none
def vN(t n:String):Option Bool:=if ["int","bool","str","list","tuple","dict"].contains n then some (t == n || (t == "bool" && n == "int"))else none
def Mq:List V->Hp->VK->Prop:=λxs H Q=>∃x n t k,xs=[x,.ty n]/\tyN H x=some t/\vN t n=some k/\Q (.bl k) H
def NT:vN "int" "int"=some true:=by decide +kernel
def Je:vN "int" "bool"=some false:=by decide +kernel
def Zdc:vN "int" "str"=some false:=by decide +kernel
def Z4:vN "int" "list"=some false:=by decide +kernel
def Ve:vN "int" "tuple"=some false:=by decide +kernel
def Z5:vN "int" "dict"=some false:=by decide +kernel
def Z9:vN "bool" "int"=some true:=by decide +kernel
def Vk:vN "bool" "bool"=some true:=by decide +kernel
def Z8:vN "bool" "str"=some false:=by decide +kernel
def Vi:vN "bool" "list"=some false:=by decide +kernel
def R1:vN "bool" "tuple"=some false:=by decide +kernel
def Vj:vN "bool" "dict"=some false:=by decide +kernel
def Zdb:vN "str" "int"=some false:=by decide +kernel
def Z1:vN "str" "bool"=some false:=by decide +kernel
def NQ:vN "str" "str"=some true:=by decide +kernel
def ZZ:vN "str" "list"=some false:=by decide +kernel
def Vb:vN "str" "tuple"=some false:=by decide +kernel
def Z0:vN "str" "dict"=some false:=by decide +kernel
def Lx:vN "NoneType" "int"=some false:=by decide +kernel
def Jh:vN "NoneType" "bool"=some false:=by decide +kernel
def Lw:vN "NoneType" "str"=some false:=by decide +kernel
def Jf:vN "NoneType" "list"=some false:=by decide +kernel
def GP:vN "NoneType" "tuple"=some false:=by decide +kernel
def Jg:vN "NoneType" "dict"=some false:=by decide +kernel
def Z3:vN "list" "int"=some false:=by decide +kernel
def Vd:vN "list" "bool"=some false:=by decide +kernel
def Z2:vN "list" "str"=some false:=by decide +kernel
def FT:vN "list" "list"=some true:=by decide +kernel
def RZ:vN "list" "tuple"=some false:=by decide +kernel
def Vc:vN "list" "dict"=some false:=by decide +kernel
def Va:vN "tuple" "int"=some false:=by decide +kernel
def RX:vN "tuple" "bool"=some false:=by decide +kernel
def U9:vN "tuple" "str"=some false:=by decide +kernel
def RV:vN "tuple" "list"=some false:=by decide +kernel
def Bt:vN "tuple" "tuple"=some true:=by decide +kernel
def RW:vN "tuple" "dict"=some false:=by decide +kernel
def Z7:vN "dict" "int"=some false:=by decide +kernel
def Vh:vN "dict" "bool"=some false:=by decide +kernel
def Z6:vN "dict" "str"=some false:=by decide +kernel
def Vf:vN "dict" "list"=some false:=by decide +kernel
def R0:vN "dict" "tuple"=some false:=by decide +kernel
def Vg:vN "dict" "dict"=some true:=by decide +kernel
def Zh8{i:Int}{H:Hp}{Q:VK}(h:Q (.bl true) H):Mq [.int i,.ty "int"] H Q:=⟨_,_,_,_,rfl,rfl,NT,h⟩
def Zde{i:Int}{H:Hp}{Q:VK}(h:Q (.bl false) H):Mq [.int i,.ty "bool"] H Q:=⟨_,_,_,_,rfl,rfl,Je,h⟩
def Zh7{i:Str}{H:Hp}{Q:VK}(h:Q (.bl true) H):Mq [.str i,.ty "str"] H Q:=⟨_,_,_,_,rfl,rfl,NQ,h⟩
def N5{a:Addr}{H:Hp}{Q:VK}{xs:List V}(hp:H a=some (.lst xs))(h:Q (.bl true) H):Mq [.ref a,.ty "list"] H Q:=⟨_,_,_,_,rfl,(by show(match H a with | some (.lst _)=>some "list" | some (.zp _ (.lst _))=>some "list" | some (.tup _)=>some "tuple" | some (.dK _)=>some "dict" | some (.dT _)=>some "dict" | _=>none)=some "list";rw[hp]),FT,h⟩
def Jk{a:Addr}{H:Hp}{Q:VK}{xs:List V}(hp:H a=some (.tup xs))(h:Q (.bl true) H):Mq [.ref a,.ty "tuple"] H Q:=⟨_,_,_,_,rfl,(by show(match H a with | some (.lst _)=>some "list" | some (.zp _ (.lst _))=>some "list" | some (.tup _)=>some "tuple" | some (.dK _)=>some "dict" | some (.dT _)=>some "dict" | _=>none)=some "tuple";rw[hp]),Bt,h⟩
def lN(K:aB):List V->Hp->VK->Prop:=λxs H Q=>∃p ys,xs=[.ref p]/\(cL K H p ys\/gZ K H p ys)/\Q (.int ys.length) H
def jt{K:aB}{a:Addr}{H:Hp}{Q:VK}{xs:List V}(hp:cL K H a xs)(h:Q (.int xs.length) H):lN K [.ref a] H Q:=⟨a,xs,rfl,.inl hp,h⟩
def ji{K:aB}{a:Addr}{H:Hp}{Q:VK}{xs:List V}{i:Int}{v:V}(hp:cL K H a xs)(hi:Xw xs i=some v)(h:Q v H):mO K (.ref a) (.int i) H Q:=⟨a,xs,i,v,rfl,rfl,hp,hi,h⟩
section
variable {K:aB}{a:Addr}{xs:List V}{g:TG}{tb:TS}{σ:St}{H:Hp}{n:St->Hp->Prop}{r:VK}
def forL(xs:List V)(Pv:Nat->St->Hp->Prop)(h0:Pv 0 σ H)(hl:∀i σ H,i<=xs.length->Pv i σ H->cL K H a xs)
  (hs:∀i x σ H,xs[i]? =some x->Pv i σ H->g x σ H λσ2 H2=>tb ⟨Pv (i+1),r,n,Pv (i+1)⟩ σ2 H2) (hd:∀ σ H,Pv xs.length σ H->n σ H):
  ∃W:Nat->Nat->St->Hp->Prop,(∃m,W 0 m σ H)/\∀i m σ H,W i m σ H->
   ((Itl K a).stop i H/\n σ H)\/((Itl K a).go i H/\∃N:St->Hp->Prop,(∀ σ' H',N σ' H'->∃m',m'<m/\W (i+1) m' σ' H')/\∀x H',(Itl K a).yld i H x H'->g x σ H' λσ2 H2=>tb ⟨N,r,n,N⟩ σ2 H2):=
 Zp9 (D:=⟨n,r,λ_ _=>False,λ_ _=>False⟩) Pv h0 hl hs hd
def forR{lo:Int}{k:Nat}(Pv:Nat->St->Hp->Prop)(h0:Pv 0 σ H)
  (hs:∀i σ H,i<k->Pv i σ H->g (.int (lo+i)) σ H λσ2 H2=>tb ⟨Pv (i+1),r,n,Pv (i+1)⟩ σ2 H2) (hd:∀ σ H,Pv k σ H->n σ H):
  ∃W:Nat->Nat->St->Hp->Prop,(∃m,W 0 m σ H)/\∀i m σ H,W i m σ H->
   ((Itr lo k).stop i H/\n σ H)\/((Itr lo k).go i H/\∃N:St->Hp->Prop,(∀ σ' H',N σ' H'->∃m',m'<m/\W (i+1) m' σ' H')/\∀x H',(Itr lo k).yld i H x H'->g x σ H' λσ2 H2=>tb ⟨N,r,n,N⟩ σ2 H2):=
 Zlc (D:=⟨n,r,λ_ _=>False,λ_ _=>False⟩) Pv h0 hs hd
end
def aV{n:Nat}(h:n<=1000000):n<=sizeLine:=Nat.le_trans h (by decide)
end G
namespace G
open PySem L2
def Zmo:R2:=λx y H Q=>∃i j,x=.str i/\y=.str j/\i.length+j.length<=sizeLine/\Q (.str (i++j)) H
def Zoq{i j:Str}{H:Hp}{Q:VK}(hz:i.length+j.length<=sizeLine)(h:Q (.str (i++j)) H):Zmo (.str i) (.str j) H Q:=⟨i,j,rfl,rfl,hz,h⟩
def Zy4{z:Str}{i:Int}{c:Nat}{H:Hp}{Q:VK}(hz:z.length<=sizeLine)(hi:Xw z.cps.toList i=some c)(h:Q (.str ⟨#[c]⟩) H):Zmn (.str z) (.int i) H Q:=⟨z,i,c,rfl,rfl,hz,hi,h⟩
def Zon{z:Str}{i:Int}{H:Hp}{Q:VK}(hz:z.length<=sizeLine)(h0:0<=i)(h1:i<z.length)(h:∀c:Nat,Q (.str ⟨#[c]⟩) H):Zmn (.str z) (.int i) H Q:=by
 have hk:i.toNat<z.cps.toList.length:=by rw[Array.length_toList];exact(Int.toNat_lt h0).mpr h1
 have ek:i=((i.toNat:Nat):Int):=by omega
 have q:Xw z.cps.toList ((i.toNat:Nat):Int)=some z.cps.toList[i.toNat]:=iB (bL hk);rw[<- ek]at q;exact Zy4 hz q (h _)
def str_len(z:Str):z.cps.toList.length=z.length:=Array.length_toList
def pick(σ:St)(j:Nat):Option V:=match σ[j]? with
 | some v=>v
 | none=>none
def tLC(wi:TI)(caps:List Nat)(tc:TT)(te:TE):TE:=λσ H Q=>wi σ H λJ H1=>∃W:Nat->Nat->List V->Hp->Prop,(∃m,W 0 m [] H1)/\∀i m ys H,W i m ys H->
 (J.stop i H/\∀p,H p=none->Q (.ref p) (upd H p (.lst ys)))\/
 (J.go i H/\ys.length<sizeLine/\∀x H',J.yld i H x H'->tc (some x::caps.map (pick σ)) H' λk H2=>if k=true then te (some x::caps.map (pick σ)) H2 (λy H3=>∃m',m'<m/\W (i+1) m' (ys++[y]) H3)else ∃m',m'<m/\W (i+1) m' ys H2)
def vW:TT:=λ_ H Q=>Q true H
def Be{σ:St}{H:Hp}{Q:Bool->Hp->Prop}(h:Q true H):vW σ H Q:=h
def Zsh{r r':R2}{ta tb tc:TE}{σ:St}{H:Hp}{Q:VK}(h:ta σ H λx H1=>tb σ H1 λy H2=>r x y H2 (kB λk H3=>if k=true then tc σ H3 (λw H4=>r' y w H4 Q)else Q (.bl false) H3)):Zet r r' ta tb tc σ H Q:=h
end G
namespace G
open PySem L2
def Zjv(z:Str)(n:Int):Str:=⟨(List.replicate n.toNat z.cps.toList).flatten.toArray⟩
def Zih:R2:=λx y H Q=>∃z k,x=.str z/\y=.int k/\0<=k/\k<=1000/\z.length<=1000/\∀t:Str,t.length<=1000000->t=Zjv z k->Q (.str t) H
def Zok{z:Str}{k:Int}{H:Hp}{Q:VK}(h0:0<=k)(h1:k<=1000)(h2:z.length<=1000)(h:∀t:Str,t.length<=1000000->t=Zjv z k->Q (.str t) H):Zih (.str z) (.int k) H Q:=⟨z,k,rfl,rfl,h0,h1,h2,h⟩
end G
namespace G
open PySem L2
structure EqD(K:aB)(C:Addr):Prop where
 eq:PySem.W.findIn K (.ref C) "__eq__"=some (some (.builtin "object.__eq__"))
 ob:PySem.W.mroIn K C (.type "object")=some true
end G
namespace G
open PySem L2
def JN(C:Addr)(E:XK)(ta:TA):TS:=λ_ σ H=>ta σ H λvs H1=>vs.length<=100/\E (.ref C) none H1
def Zeu(sp:Sp)(vP:List V)(E:St->XK)(t:TA):TE:=λσ H Q=>t σ H λvs H1=>sp (vs++vP) H1 Q (E σ)
def Zu6(Mt:Value->Prop)(tb:(St->XK)->TS)(th:TS):TS:=λD σ H=>tb (λσ' cls _ H'=>Mt cls/\th D σ' H') D σ H
section
variable {σ:St}{H:Hp}{Q:VK}{n:St->Hp->Prop}{r:VK}{b c:St->Hp->Prop}{te:TE}{t:TA}
def Zs6{C:Addr}{E:XK}(h:t σ H λvs H1=>vs.length<=100/\E (.ref C) none H1):JN C E t ⟨n,r,b,c⟩ σ H:=h
def Zsi{sp:Sp}{vP:List V}{E:St->XK}(h:t σ H λvs H1=>sp (vs++vP) H1 Q (E σ)):Zeu sp vP E t σ H Q:=h
def Zxw{Mt:Value->Prop}{tb:(St->XK)->TS}{th:TS}(h:tb (λσ' cls _ H'=>Mt cls/\th ⟨n,r,b,c⟩ σ' H') ⟨n,r,b,c⟩ σ H):Zu6 Mt tb th ⟨n,r,b,c⟩ σ H:=h
end
def Zw0{to ti:TE}{ts:Ztc}{x:V}{σ:St}{H:Hp}{Q:St->Hp->Prop}(h:to σ H λo H1=>ti σ H1 λi H2=>ts o i x H2 λH3=>Q σ H3):R9 to ti ts x σ H Q:=h
def Mp(K:aB):List V->Hp->VK->Prop:=λxs H Q=>∃(p:Addr) (ys:List V),xs=[.ref p]/\cL K H p ys/\∀l,H l=none->Q (.ref l) (upd H l (.lst ys))
def Pz{K:aB}{H:Hp}{Q:VK}{p:Addr}{ys:List V}(h1:cL K H p ys)(h:∀l,H l=none->Q (.ref l) (upd H l (.lst ys))):Mp K [.ref p] H Q:=⟨p,ys,rfl,h1,h⟩
def OkN(K:aB)(H:Hp)(xs:List V):Prop:=∀y∈xs,y=.non\/∃a C dx fs,y=.ref a/\H a=some (.ins C dx fs)/\Gf K C/\EqD K C
def Zum(K:aB)(neg:Bool):R2:=λx y H Q=>∃p xs,x=.non/\y=.ref p/\cL K H p xs/\OkN K H xs/\Q (.bl (if neg then !decide (V.non∈xs)else decide (V.non∈xs))) H
def Zol{K:aB}{H:Hp}{Q:VK}{p:Addr}{xs:List V}(h1:cL K H p xs)(h2:OkN K H xs)(h:Q (.bl (!decide (V.non∈xs))) H):Zum K true .non (.ref p) H Q:=⟨p,xs,rfl,rfl,h1,h2,h⟩
def Zii(K:aB):V->List V->Hp->VK->Prop:=λx vs H Q=>∃p xs,x=.ref p/\vs=[.non]/\cL K H p xs/\OkN K H xs/\V.non∈xs/\Q (.int (xs.idxOf V.non)) H
def eqL(xs ys:List V):Bool:=xs.length == ys.length && (xs.zip ys).all λp=>Xn p.1 p.2
def Zjx(K:aB)(neg:Bool):R2:=λx y H Q=>∃p q xs ys,x=.ref p/\y=.ref q/\cL K H p xs/\cL K H q ys/\(xs.length=ys.length->xs.all pW=true/\ys.all pW=true)/\Q (.bl (if neg then !eqL xs ys else eqL xs ys)) H
def uK(ns:List Int):(ns.map V.int).all pW=true:=by
 rw[List.all_eq_true];intro x hx;obtain⟨i,_,rfl⟩:=List.mem_map.mp hx;rfl
def Zdo(ns:List Int):∀ms:List Int,eqL (ns.map V.int) (ms.map V.int)=decide (ns=ms):=by
 induction ns with
 | nil=>
  intro ms;cases ms with
  | nil=>rfl
  | cons m ms=>rfl
 | cons n ns ih=>
  intro ms;cases ms with
  | nil=>rfl
  | cons m ms=>
   have:=ih ms;unfold eqL at this ⊢;rw[List.map_cons,List.map_cons,List.zip_cons_cons,List.all_cons,List.length_cons,List.length_cons];have e1:Xn (V.int n) (V.int m)=(n == m):=rfl;have e2:((ns.map V.int).length+1 == (ms.map V.int).length+1)=((ns.map V.int).length == (ms.map V.int).length):=by
    rw[Bool.eq_iff_iff,beq_iff_eq,beq_iff_eq];omega
   dsimp only;rw[e1,e2];rw[Bool.eq_iff_iff]at this ⊢;simp only[Bool.and_eq_true,beq_iff_eq,decide_eq_true_eq]at this ⊢;constructor
   ·rintro⟨a,b,c⟩;rw[b,this.mp ⟨a,c⟩]
   ·intro e
    injection e with e1 e2
    obtain⟨a,c⟩:=this.mpr e2;exact⟨a,e1,c⟩
def Zw2{K:aB}{H:Hp}{Q:VK}{p q:Addr}{ns ms:List Int}(h1:cL K H p (ns.map V.int))(h2:cL K H q (ms.map V.int))(h:Q (.bl (decide (ns=ms))) H):Zjx K false (.ref p) (.ref q) H Q:=by
 refine⟨p,q,_,_,rfl,rfl,h1,h2,λ_=>⟨uK _,uK _⟩,?_⟩;rw[Zdo];exact h
def Zvs{K:aB}{H:Hp}{Q:VK}{p q:Addr}{ns ms:List Int}(h1:cL K H p (ns.map V.int))(h2:cL K H q (ms.map V.int))(h:Q (.bl (!decide (ns=ms))) H):Zjx K true (.ref p) (.ref q) H Q:=by
 refine⟨p,q,_,_,rfl,rfl,h1,h2,λ_=>⟨uK _,uK _⟩,?_⟩;rw[Zdo];exact h
def Fm(S:List Addr)(H H':Hp):Prop:=∀b o,H b=some o->b∉S->H' b=some o
def Fm.same{H H':Hp}(a:Fm [] H H'):aX H H':=λc o h=>a c o h (λz=>nomatch z)
def fz(S:List Addr)(H:Hp):Hp:=λb=>if b∈S then none else H b
def Zh5{x:V}{H:Hp}{Q:VK}(h:Q (.bl (!decide (x=.non))) H):De x .non H Q:=⟨rfl,h⟩
def LCg(J:It)(caps:List Nat)(tc:TT)(te:TE)(σ:St)(H:Hp)(Q:VK):Prop:=∃W:Nat->Nat->List V->Hp->Prop,(∃m,W 0 m [] H)/\∀i m ys H,W i m ys H->
 (J.stop i H/\∀p,H p=none->Q (.ref p) (upd H p (.lst ys)))\/
 (J.go i H/\ys.length<sizeLine/\∀x H',J.yld i H x H'->tc (some x::caps.map (pick σ)) H' λk H2=>if k=true then te (some x::caps.map (pick σ)) H2 (λy H3=>∃m',m'<m/\W (i+1) m' (ys++[y]) H3)else ∃m',m'<m/\W (i+1) m' ys H2)
def NZ{wi:TI}{caps:List Nat}{tc:TT}{te:TE}{σ:St}{H:Hp}{Q:VK}(h:wi σ H λJ H1=>LCg J caps tc te σ H1 Q):tLC wi caps tc te σ H Q:=h
def Zoa{J:It}{caps:List Nat}{tc:TT}{te:TE}{σ:St}{H:Hp}{Q:VK}(k:Nat)(hz:k<=1000000)(g:Nat->Option V)
  (hstop:J.stop k H) (hgo:∀i,i<k->J.go i H) (hy:∀i x H',i<k->J.yld i H x H'->H'=H/\(∀q:Bool->Hp->Prop,q (g i).isSome H->tc (some x::caps.map (pick σ)) H q)/\∀(y:V) (q:VK),g i=some y->q y H->te (some x::caps.map (pick σ)) H q)
  (q:∀p,H p=none->Q (.ref p) (upd H p (.lst ((List.range k).filterMap g)))):
  LCg J caps tc te σ H Q:=by
 refine⟨λi m ys H'=>H'=H/\i<=k/\m=k - i/\ys=(List.range i).filterMap g,⟨k,rfl,Nat.zero_le _,rfl,rfl⟩,?_⟩;rintro i m ys _ ⟨rfl,hi,rfl,rfl⟩
 by_cases hk:i=k
 ·subst hk;exact .inl ⟨hstop,q⟩
 ·have hlt:i<k:=by omega
  refine .inr ⟨hgo i hlt,?_,λx H' y=>?_⟩
  ·refine Nat.lt_of_le_of_lt (Nat.le_trans (List.length_filterMap_le _ _) ?_) (show 1000000<sizeLine by decide);rw[List.length_range];omega
  ·obtain⟨rfl,h1,h2⟩:=hy i x H' hlt y;refine h1 _ ?_;have er:List.filterMap g (List.range (i+1))=List.filterMap g (List.range i)++(match g i with | some y=>[y] | none=>[]):=by
    rw[List.range_succ,List.filterMap_append];cases e:g i with
    | none=>rw[List.filterMap_cons_none e];rfl
    | some y=>rw[List.filterMap_cons_some e];rfl
   cases e:g i with
   | none=>
    rw[e]at er;dsimp only[Option.isSome];refine Zs4 ⟨k - (i+1),by omega,rfl,by omega,rfl,?_⟩;rw[er,List.append_nil]
   | some y=>
    rw[e]at er;dsimp only[Option.isSome];refine Zh1 (h2 y _ e ⟨k - (i+1),by omega,rfl,by omega,rfl,?_⟩);rw[er]
def Za5(l:List Nat)(p:Nat->Bool)(f:Nat->V):l.filterMap (λi=>if p i=true then some (f i)else none)=(l.filter p).map f:=by
 induction l with
 | nil=>rfl
 | cons a l ih=>
  by_cases h:p a=true
  ·rw[List.filterMap_cons_some (by rw[if_pos h]),List.filter_cons_of_pos h,List.map_cons,ih]
  ·rw[List.filterMap_cons_none (by rw[if_neg h]),List.filter_cons_of_neg h,ih]
def Zob{caps:List Nat}{tc:TT}{te:TE}{σ:St}{H:Hp}{Q:VK}{n:Nat}{z:Int}(ez:z.toNat=n)(p:Nat->Bool)(f:Nat->V)(hz:n<=1000000)
  (htc:∀i,i<n->∀q:Bool->Hp->Prop,q (p i) H->tc (some (.int i)::caps.map (pick σ)) H q)
  (hte:∀i,i<n->p i=true->∀q:VK,q (f i) H->te (some (.int i)::caps.map (pick σ)) H q)
  (q:∀l,H l=none->Q (.ref l) (upd H l (.lst (((List.range n).filter p).map f)))):
  LCg (Itr 0 z.toNat) caps tc te σ H Q:=by
 subst ez;refine Zoa z.toNat hz (λi=>if p i=true then some (f i)else none) (Nat.le_refl _) (λi hi=>hi) (λi x H' hi y=>?_) ?_
 ·obtain⟨e1,e2⟩:=y;have ex:x=.int i:=by rw[e2];simp
  refine⟨e1,λq hq=>?_,λy q hy hq=>?_⟩
  ·rw[ex];refine htc i hi q ?_;cases e:p i with
   | true=>rw[e]at hq;exact hq
   | false=>rw[e]at hq;exact hq
  ·rw[ex];cases e:p i with
   | true=>
    rw[e]at hy;have ey:f i=y:=by simpa using hy
    exact hte i hi e q (by rw[ey];exact hq)
   | false=>rw[e]at hy;simp at hy
 ·rw[Za5];exact q
def ZC{K:aB}{a:Addr}{xs:List V}{caps:List Nat}{tc:TT}{te:TE}{σ:St}{H:Hp}{Q:VK}(hs:cL K H a xs)(g:Nat->Option V)(hz:xs.length<=1000000)
  (hy:∀i x,xs[i]? =some x->(∀q:Bool->Hp->Prop,q (g i).isSome H->tc (some x::caps.map (pick σ)) H q)/\∀(y:V) (q:VK),g i=some y->q y H->te (some x::caps.map (pick σ)) H q)
  (q:∀p,H p=none->Q (.ref p) (upd H p (.lst ((List.range xs.length).filterMap g)))):
  LCg (Itl K a) caps tc te σ H Q:=by
 refine Zoa xs.length hz g ⟨xs,hs,Nat.le_refl _⟩ (λi hi=>⟨xs,xs[i],hs,bL hi⟩) (λi x H' hi y=>?_) q;obtain⟨e1,e2⟩:=y;exact⟨e1,hy i x (e2 xs hs)⟩
def uB{n i:Nat}(h:i<n):ixN n (i:Int)=some i:=by
 unfold ixN;rw[if_pos (by omega),if_pos (by omega)];simp
def Zs3{n:Nat}{i:Int}(h0:0<=i)(h:i.toNat<n):ixN n i=some i.toNat:=by
 have e:i=((i.toNat:Nat):Int):=by omega
 have:=uB h;rw[<- e]at this;exact this
def qM{α:Type}{xs:List α}{i:Int}{v:α}(h0:0<=i)(h:xs[i.toNat]? =some v):Xw xs i=some v:=by
 have e:i=((i.toNat:Nat):Int):=by omega
 have:=iB h;rw[<- e]at this;exact this
end G
namespace G
open PySem L2
inductive Al{α β:Type}(P:α->β->Prop):List α->List β->Prop
 | nil:Al P [] []
 | cons {x:α}{y:β}{xs:List α}{ys:List β}:P x y->Al P xs ys->Al P (x::xs) (y::ys)
section
variable {α β:Type}{P P':α->β->Prop}{xs:List α}{ys:List β}
def Al.length(h:Al P xs ys):xs.length=ys.length:=by
 induction h with
 | nil=>rfl
 | cons _ _ ih=>rw[List.length_cons,List.length_cons,ih]
def Al.mono(h:Al P xs ys)(f:∀x y,P x y->P' x y):Al P' xs ys:=by
 induction h with
 | nil=>exact .nil
 | cons p _ ih=>exact .cons (f _ _ p) ih
def Al.get(h:Al P xs ys):∀{i:Nat}{y:β},ys[i]? =some y->∃x,xs[i]? =some x/\P x y:=by
 induction h with
 | nil=>intro i y e;simp at e
 | cons p _ ih=>
  intro i y e;cases i with
  | zero=>simp at e;subst e;exact⟨_,rfl,p⟩
  | succ i=>
   obtain⟨x,e1,e2⟩:=ih (i:=i) (y:=y) (by simpa using e);exact⟨x,by simpa using e1,e2⟩
end
def O3{α β:Type}(f:α->Option β):∀l:List α,(List.range l.length).filterMap (λi=>l[i]?.bind f)=l.filterMap f:=by
 intro l
 induction l with
 | nil=>rfl
 | cons a l ih=>
  rw[List.length_cons,List.range_succ_eq_map];have e:List.filterMap (λi=>(a::l)[i]?.bind f) (List.map Nat.succ (List.range l.length))=l.filterMap f:=by
   rw[List.filterMap_map,<- ih];congr 1
  cases h:f a with
  | none=>rw[List.filterMap_cons_none (by simpa using h),List.filterMap_cons_none h,e]
  | some b=>rw[List.filterMap_cons_some (b:=b) (by simpa using h),List.filterMap_cons_some h,e]
end G
namespace G
open PySem L2
abbrev Tg:=Addr->Nat×Nat
def WT(H:Hp)(T:Tg):Prop:=∀b,H b=none->T b=(0,0)
structure jo(s:Nat)(H H':Hp)(T T':Tg):Prop where
 kp:∀b o,H b=some o->(T b).1≠s->H' b=some o
 al:∀b o,H b=some o->∃o',H' b=some o'
 tg:∀b o,H b=some o->T' b=T b
 wt:WT H' T'
def jZ(T:Tg)(a:Addr)(v:Nat×Nat):Tg:=λx=>if x=a then v else T x
def jq{T:Tg}{a:Addr}{v:Nat×Nat}:jZ T a v a=v:=by unfold jZ;rw[if_pos rfl]
def lY{T:Tg}{a b:Addr}{v:Nat×Nat}(h:b≠a):jZ T a v b=T b:=by unfold jZ;rw[if_neg h]
def WT.same{H H':Hp}{T:Tg}(w:WT H T)(s:aX H H'):WT H' T:=λb h=>w b (s.free h)
def jo.refl{s:Nat}{H:Hp}{T:Tg}(w:WT H T):jo s H H T T:=⟨λ_ _ h _=>h,λ_ o h=>⟨o,h⟩,λ_ _ _=>rfl,w⟩
def jo.same{s:Nat}{H H':Hp}{T:Tg}(w:WT H T)(e:aX H H'):jo s H H' T T:=⟨λb o h _=>e b o h,λb o h=>⟨o,e b o h⟩,λ_ _ _=>rfl,w.same e⟩
def jo.trans{s:Nat}{H H1 H2:Hp}{T T1 T2:Tg}(a:jo s H H1 T T1)(b:jo s H1 H2 T1 T2):jo s H H2 T T2 where
 kp:=λx o h n=>b.kp x o (a.kp x o h n) (by rw[a.tg x o h];exact n)
 al:=λx o h=>by
  obtain⟨o1,h1⟩:=a.al x o h;exact b.al x o1 h1
 tg:=λx o h=>by
  obtain⟨o1,h1⟩:=a.al x o h;rw[b.tg x o1 h1,a.tg x o h]
 wt:=b.wt
def jo.upd{s:Nat}{H:Hp}{T:Tg}{a:Addr}{o o':HO}(w:WT H T)(ha:H a=some o)(ht:(T a).1=s):jo s H (L2.upd H a o') T T where
 kp:=λx u h n=>by
  have:x≠a:=λe=>n (by rw[e];exact ht);rw[aC this];exact h
 al:=λx u h=>by
  by_cases e:x=a
  ·exact⟨o',by rw[e,aq]⟩
  ·exact⟨u,by rw[aC e];exact h⟩
 tg:=λ_ _ _=>rfl
 wt:=λb h=>w b (by
  by_cases e:b=a
  ·rw[e,aq]at h;cases h
  ·rw[aC e]at h;exact h)
def Rv{T:Tg}{a b:Addr}{x y:Nat×Nat}(ha:T a=x)(hb:T b=y)(h:x≠y):a≠b:=λe=>h (by rw[<- ha,<- hb,e])
end G
namespace G
open PySem L2
def Zoc{J:It}{caps:List Nat}{tc:TT}{te:TE}{σ:St}{H:Hp}{Q:VK}(k:Nat)(hz:k<=1000000)(R:Nat->V->Hp->Prop)(mono:∀i y H1 H2,R i y H1->aX H1 H2->R i y H2)
  (hstop:∀H',aX H H'->J.stop k H') (hgo:∀i H',i<k->aX H H'->J.go i H')
  (hy:∀i x H1 H',i<k->aX H H1->J.yld i H1 x H'->H'=H1/\(∀q:Bool->Hp->Prop,q true H1->tc (some x::caps.map (pick σ)) H1 q)/\∀q:VK,(∀y H2,aX H1 H2->R i y H2->q y H2)->te (some x::caps.map (pick σ)) H1 q)
  (q:∀ys H',aX H H'->ys.length=k->(∀(i:Nat) y,ys[i]? =some y->R i y H')->∀p,H' p=none->Q (.ref p) (upd H' p (.lst ys))):
  LCg J caps tc te σ H Q:=by
 refine⟨λi m ys H'=>aX H H'/\i<=k/\m=k - i/\ys.length=i/\∀(j:Nat) y,ys[j]? =some y->R j y H',⟨k,aX.refl _,Nat.zero_le _,rfl,rfl,λj y e=>by simp at e⟩,?_⟩;rintro i m ys H1 ⟨s1,hi,rfl,hl,hr⟩
 by_cases hk:i=k
 ·subst hk;exact .inl ⟨hstop H1 s1,q ys H1 s1 hl hr⟩
 ·have hlt:i<k:=by omega
  refine .inr ⟨hgo i H1 hlt s1,Nat.lt_of_le_of_lt (show ys.length<=1000000 by omega) (show 1000000<sizeLine by decide),λx H' y=>?_⟩;obtain⟨rfl,h1,h2⟩:=hy i x H1 H' hlt s1 y;refine h1 _ (Zh1 (h2 _ λy H2 s2 r=>⟨k - (i+1),by omega,s1.trans s2,by omega,rfl,by rw[List.length_append,hl];rfl,λj z e=>?_⟩))
  by_cases hj:j<ys.length
  ·rw[List.getElem?_append_left hj]at e;exact mono j z _ _ (hr j z e) s2
  ·have hj':=(dY e).1;rw[List.length_append,List.length_singleton]at hj';have ej:j=ys.length:=by omega
   subst ej;rw[List.getElem?_append_right (Nat.le_refl _),Nat.sub_self]at e;cases e;rw[hl];exact r
def Zru{caps:List Nat}{tc:TT}{te:TE}{σ:St}{H:Hp}{Q:VK}{n:Nat}{z:Int}(ez:z.toNat=n)(hz:n<=1000000)(R:Nat->V->Hp->Prop)(mono:∀i y H1 H2,R i y H1->aX H1 H2->R i y H2)
  (htc:∀i H1,∀q:Bool->Hp->Prop,q true H1->tc (some (.int i)::caps.map (pick σ)) H1 q)
  (hte:∀(i:Nat) H1,i<n->aX H H1->∀q:VK,(∀y H2,aX H1 H2->R i y H2->q y H2)->te (some (.int i)::caps.map (pick σ)) H1 q)
  (q:∀ys H',aX H H'->ys.length=n->(∀(i:Nat) y,ys[i]? =some y->R i y H')->∀p,H' p=none->Q (.ref p) (upd H' p (.lst ys))):LCg (Itr 0 z.toNat) caps tc te σ H Q:=by
 subst ez;refine Zoc z.toNat hz R mono (λ_ _=>Nat.le_refl _) (λi _ hi _=>hi) (λi x H1 H' hi s1 y=>?_) q;obtain⟨e1,e2⟩:=y;have ex:x=.int i:=by rw[e2];simp
 subst ex;exact⟨e1,htc i H1,λq hq=>hte i H1 hi s1 q hq⟩
def Zrv{J:It}{caps:List Nat}{tc:TT}{te:TE}{σ:St}{H:Hp}{Q:VK}(k:Nat)(hz:k<=1000000)(R:Nat->Addr->Hp->Prop)(mono:∀i y H1 H2,R i y H1->aX H1 H2->R i y H2)(al:∀i y H1,R i y H1->∃o,H1 y=some o)
  (hstop:∀H',aX H H'->J.stop k H') (hgo:∀i H',i<k->aX H H'->J.go i H')
  (hy:∀i x H1 H',i<k->aX H H1->J.yld i H1 x H'->H'=H1/\(∀q:Bool->Hp->Prop,q true H1->tc (some x::caps.map (pick σ)) H1 q)/\∀q:VK,(∀r H2,aX H1 H2->H1 r=none->R i r H2->q (.ref r) H2)->te (some x::caps.map (pick σ)) H1 q)
  (q:∀(rs:List Addr) H',aX H H'->rs.length=k->rs.Nodup->(∀r∈rs,H r=none)->(∀(i:Nat) r,rs[i]? =some r->R i r H')->∀p,H' p=none->Q (.ref p) (upd H' p (.lst (rs.map V.ref)))):
  LCg J caps tc te σ H Q:=by
 refine⟨λi m ys H'=>∃rs:List Addr,ys=rs.map V.ref/\aX H H'/\i<=k/\m=k - i/\rs.length=i/\rs.Nodup/\(∀r∈rs,H r=none)/\∀(j:Nat) r,rs[j]? =some r->R j r H',⟨k,[],rfl,aX.refl _,Nat.zero_le _,rfl,rfl,List.nodup_nil,λr hr=>(nomatch hr),λj y e=>by simp at e⟩,?_⟩;rintro i m _ H1 ⟨rs,rfl,s1,hi,rfl,hl,nd,nn,hr⟩
 by_cases hk:i=k
 ·subst hk;exact .inl ⟨hstop H1 s1,q rs H1 s1 hl nd nn hr⟩
 ·have hlt:i<k:=by omega
  refine .inr ⟨hgo i H1 hlt s1,Nat.lt_of_le_of_lt (show(rs.map V.ref).length<=1000000 by rw[aY];omega) (show 1000000<sizeLine by decide),λx H' y=>?_⟩;obtain⟨rfl,h1,h2⟩:=hy i x H1 H' hlt s1 y;refine h1 _ (Zh1 (h2 _ λr H2 s2 nr rr=>⟨k - (i+1),by omega,rs++[r],by rw[List.map_append];rfl,s1.trans s2,by omega,rfl,by rw[List.length_append,hl];rfl,?_,λz hz=>?_,λj z e=>?_⟩))
  ·rw[List.nodup_append];refine⟨nd,by simp,λa ha b hb e=>?_⟩;rw[List.mem_singleton.mp hb]at e;subst e;obtain⟨j,hj,ej⟩:=List.getElem_of_mem ha;obtain⟨o,ho⟩:=al j a _ (hr j a (by rw[bL hj,ej]));rw[nr]at ho;cases ho
  ·rcases List.mem_append.mp hz with hz | hz
   ·exact nn z hz
   ·rw[List.mem_singleton.mp hz];exact s1.free nr
  ·by_cases hj:j<rs.length
   ·rw[List.getElem?_append_left hj]at e;exact mono j z _ _ (hr j z e) s2
   ·have hj':=(dY e).1;rw[List.length_append,List.length_singleton]at hj';have ej:j=rs.length:=by omega
    subst ej;rw[List.getElem?_append_right (Nat.le_refl _),Nat.sub_self]at e;cases e;rw[hl];exact rr
def RM{K:aB}{a:Addr}{xs:List V}{caps:List Nat}{tc:TT}{te:TE}{σ:St}{H:Hp}{Q:VK}(hs:cL K H a xs)(hz:xs.length<=1000000)(R:Nat->Addr->Hp->Prop)(mono:∀i y H1 H2,R i y H1->aX H1 H2->R i y H2)(al:∀i y H1,R i y H1->∃o,H1 y=some o)
  (htc:∀x H1,∀q:Bool->Hp->Prop,q true H1->tc (some x::caps.map (pick σ)) H1 q)
  (hte:∀(i:Nat) x H1,xs[i]? =some x->aX H H1->∀q:VK,(∀r H2,aX H1 H2->H1 r=none->R i r H2->q (.ref r) H2)->te (some x::caps.map (pick σ)) H1 q)
  (q:∀(rs:List Addr) H',aX H H'->rs.length=xs.length->rs.Nodup->(∀r∈rs,H r=none)->(∀(i:Nat) r,rs[i]? =some r->R i r H')->∀p,H' p=none->Q (.ref p) (upd H' p (.lst (rs.map V.ref)))):LCg (Itl K a) caps tc te σ H Q:=by
 refine Zrv xs.length hz R mono al (λH' s=>⟨xs,s.seq hs,Nat.le_refl _⟩) (λi H' hi s=>⟨xs,xs[i],s.seq hs,bL hi⟩) (λi x H1 H' hi s1 y=>?_) q;obtain⟨e1,e2⟩:=y;exact⟨e1,htc x H1,λq hq=>hte i x H1 (e2 xs (s1.seq hs)) s1 q hq⟩
end G
namespace G
open PySem L2 PySem.Spec PyProof.Rows
def boot_isinstance:bootBuiltins "isinstance"=some (.builtin "isinstance"):=by decide +kernel
def boot_len:bootBuiltins "len"=some (.builtin "len"):=by decide +kernel
def boot_int:bootBuiltins "int"=some (.type "int"):=by decide +kernel
def boot_str:bootBuiltins "str"=some (.type "str"):=by decide +kernel
def boot_bool:bootBuiltins "bool"=some (.type "bool"):=by decide +kernel
def boot_list:bootBuiltins "list"=some (.type "list"):=by decide +kernel
def boot_tuple:bootBuiltins "tuple"=some (.type "tuple"):=by decide +kernel
structure Zx3(K:aB)(x qual:Str)(st:Stmt)(f:Addr)(fd:FuncData):Prop where
 ex:∃(oc:Value) (od:Option Addr) (dV kV doc pm:Value) (an:Option Addr) (cdv ct:Value) (osl:Array (Option Value)),
  fd=PySem.W.fnOf x qual (nM st) (kW st) (aF st) dV kV doc pm an cdv ct/\K.lookup f=some ⟨oc,od,.func fd,osl⟩/\PySem.W.codeIn K cdv qual=true
 kp:PySem.W.keepIn K (.ref f)=true
section
variable {P:Program}{w:World}{K:aB}{mg:Str->Option Value}{base:Heap}
def Zst{x qual:Str}{st:Stmt}{f:Addr}{oc dV:Value}{od an:Option Addr}{osl:Array (Option Value)}{kV doc pm cdv ct:Value}(l:K.lookup f=some ⟨oc,od,.func (PySem.W.fnOf x qual (nM st) (kW st) (aF st) dV kV doc pm an cdv ct),osl⟩)
  (c:PySem.W.codeIn K cdv qual=true) (k:PySem.W.keepIn K (.ref f)=true):Zx3 K x qual st f (PySem.W.fnOf x qual (nM st) (kW st) (aF st) dV kV doc pm an cdv ct):=⟨⟨oc,od,dV,kV,doc,pm,an,cdv,ct,osl,rfl,l,c⟩,k⟩
def Zi4{f td:Addr}{oc tc:Value}{od to_:Option Addr}{osl ts:Array (Option Value)}{fd:FuncData}{items:Array Value}{tn:Nat}{ps:List Str}{ds:List Value}(_:K.lookup f=some ⟨oc,od,.func fd,osl⟩)(t:K.lookup td=some ⟨tc,to_,.seq items tn,ts⟩)
  (h:∀us:List Value,us.length+ds.length=ps.length->∃k,bindArgs fd ⟨us,[]⟩=seqItems? (.ref td) >>= k/\k (some items)=pure (ps.zip (us++ds))) (hd:fd.defaults=.ref td:=by rfl):Binds K fd ps ds:=by
 intro s us KX hl;obtain⟨k,h1,h2⟩:=h us (by rw[List.length_append]at hl;exact hl);exact BindsTo.of_defaults hd (KX _ _ t) rfl (by rw[h1,hd]) h2
end
section
variable {X:Cx}
def En:yW X (compareOp .Is) Um:=Zut
def yO:yW X (compareOp .IsNot) De:=Zrc
def cU:Oc X (.builtin "len") (lN X.K):=Zal
def kk(t n:String):Option Bool:=if (Value.type t == Value.type n)=true then some true else if PySem.W.kitMeta n=true then(fastBuiltinMro t).map (·.contains (.type n))else none
def Zvd(K:aB)(t n:String):PySem.W.kitOne K (.type t) (.type n)=kk t n:=rfl
def Zgz:kk "int" "int"=some true:=by decide +kernel
def Zd5:kk "int" "bool"=some false:=by decide +kernel
def Zgy:kk "int" "str"=some false:=by decide +kernel
def Zd3:kk "int" "list"=some false:=by decide +kernel
def ZM:kk "int" "tuple"=some false:=by decide +kernel
def Zd4:kk "int" "dict"=some false:=by decide +kernel
def Zd9:kk "bool" "int"=some true:=by decide +kernel
def ZW:kk "bool" "bool"=some true:=by decide +kernel
def Zd8:kk "bool" "str"=some false:=by decide +kernel
def ZS:kk "bool" "list"=some false:=by decide +kernel
def U7:kk "bool" "tuple"=some false:=by decide +kernel
def ZV:kk "bool" "dict"=some false:=by decide +kernel
def Zgx:kk "str" "int"=some false:=by decide +kernel
def Zd0:kk "str" "bool"=some false:=by decide +kernel
def Zgw:kk "str" "str"=some true:=by decide +kernel
def Zcy:kk "str" "list"=some false:=by decide +kernel
def ZG:kk "str" "tuple"=some false:=by decide +kernel
def Zcz:kk "str" "dict"=some false:=by decide +kernel
def O1:kk "NoneType" "int"=some false:=by decide +kernel
def Li:kk "NoneType" "bool"=some false:=by decide +kernel
def OJ:kk "NoneType" "str"=some false:=by decide +kernel
def Lg:kk "NoneType" "list"=some false:=by decide +kernel
def Jb:kk "NoneType" "tuple"=some false:=by decide +kernel
def Lh:kk "NoneType" "dict"=some false:=by decide +kernel
def Zd2:kk "list" "int"=some false:=by decide +kernel
def ZL:kk "list" "bool"=some false:=by decide +kernel
def Zd1:kk "list" "str"=some false:=by decide +kernel
def ZJ:kk "list" "list"=some true:=by decide +kernel
def U5:kk "list" "tuple"=some false:=by decide +kernel
def ZK:kk "list" "dict"=some false:=by decide +kernel
def ZF:kk "tuple" "int"=some false:=by decide +kernel
def U4:kk "tuple" "bool"=some false:=by decide +kernel
def ZD:kk "tuple" "str"=some false:=by decide +kernel
def U0:kk "tuple" "list"=some false:=by decide +kernel
def RN:kk "tuple" "tuple"=some true:=by decide +kernel
def U3:kk "tuple" "dict"=some false:=by decide +kernel
def Zd7:kk "dict" "int"=some false:=by decide +kernel
def ZR:kk "dict" "bool"=some false:=by decide +kernel
def Zd6:kk "dict" "str"=some false:=by decide +kernel
def ZP:kk "dict" "list"=some false:=by decide +kernel
def U6:kk "dict" "tuple"=some false:=by decide +kernel
def ZQ:kk "dict" "dict"=some true:=by decide +kernel
def Zu2{H:Hp}{x:V}{t:String}(e:tyN H x=some t):t="int"\/t="bool"\/t="str"\/t="NoneType"\/t="list"\/t="tuple"\/t="dict":=by
 unfold tyN at e;split at e<;>(first | (cases e;simp) | (split at e<;>(first | (cases e;simp) | cases e)) | cases e)
def Zvk{t n:String}{k:Bool}(e:vN t n=some k):n="int"\/n="bool"\/n="str"\/n="list"\/n="tuple"\/n="dict":=by
 unfold vN at e
 by_cases h:(["int","bool","str","list","tuple","dict"].contains n)=true
 ·simpa using h
 ·rw[if_neg h]at e;cases e
def Zxp{H:Hp}{x:V}{t n:String}{k:Bool}(ht:tyN H x=some t)(e:vN t n=some k):kk t n=some k:=by
 rcases Zu2 ht with rfl | rfl | rfl | rfl | rfl | rfl | rfl<;>rcases Zvk e with rfl | rfl | rfl | rfl | rfl | rfl
 ·rw[NT]at e;rw[Zgz];exact e
 ·rw[Je]at e;rw[Zd5];exact e
 ·rw[Zdc]at e;rw[Zgy];exact e
 ·rw[Z4]at e;rw[Zd3];exact e
 ·rw[Ve]at e;rw[ZM];exact e
 ·rw[Z5]at e;rw[Zd4];exact e
 ·rw[Z9]at e;rw[Zd9];exact e
 ·rw[Vk]at e;rw[ZW];exact e
 ·rw[Z8]at e;rw[Zd8];exact e
 ·rw[Vi]at e;rw[ZS];exact e
 ·rw[R1]at e;rw[U7];exact e
 ·rw[Vj]at e;rw[ZV];exact e
 ·rw[Zdb]at e;rw[Zgx];exact e
 ·rw[Z1]at e;rw[Zd0];exact e
 ·rw[NQ]at e;rw[Zgw];exact e
 ·rw[ZZ]at e;rw[Zcy];exact e
 ·rw[Vb]at e;rw[ZG];exact e
 ·rw[Z0]at e;rw[Zcz];exact e
 ·rw[Lx]at e;rw[O1];exact e
 ·rw[Jh]at e;rw[Li];exact e
 ·rw[Lw]at e;rw[OJ];exact e
 ·rw[Jf]at e;rw[Lg];exact e
 ·rw[GP]at e;rw[Jb];exact e
 ·rw[Jg]at e;rw[Lh];exact e
 ·rw[Z3]at e;rw[Zd2];exact e
 ·rw[Vd]at e;rw[ZL];exact e
 ·rw[Z2]at e;rw[Zd1];exact e
 ·rw[FT]at e;rw[ZJ];exact e
 ·rw[RZ]at e;rw[U5];exact e
 ·rw[Vc]at e;rw[ZK];exact e
 ·rw[Va]at e;rw[ZF];exact e
 ·rw[RX]at e;rw[U4];exact e
 ·rw[U9]at e;rw[ZD];exact e
 ·rw[RV]at e;rw[U0];exact e
 ·rw[Bt]at e;rw[RN];exact e
 ·rw[RW]at e;rw[U3];exact e
 ·rw[Z7]at e;rw[Zd7];exact e
 ·rw[Vh]at e;rw[ZR];exact e
 ·rw[Z6]at e;rw[Zd6];exact e
 ·rw[Vf]at e;rw[ZP];exact e
 ·rw[R0]at e;rw[U6];exact e
 ·rw[Vg]at e;rw[ZQ];exact e
def tyOf{K:aB}{H:Hp}{x:V}{t:String}(e:tyN H x=some t):Mr K H x (.type t):=by
 cases x with
 | non=>cases e;exact .non
 | bl y=>cases e;exact .bl y
 | int y=>cases e;exact .int y
 | str y=>cases e;exact .str y
 | byt y=>cases e
 | flt y=>cases e
 | ty y=>cases e
 | ref a=>
  have e':(match H a with | some (.lst _)=>some "list" | some (.zp _ (.lst _))=>some "list" | some (.tup _)=>some "tuple" | some (.dK _)=>some "dict" | some (.dT _)=>some "dict" | _=>none)=some t:=e;split at e'
  ·rename_i h;cases e';exact .lst h
  ·rename_i h;cases e';exact .zp h
  ·rename_i h;cases e';exact .tup h
  ·rename_i h;cases e';exact .dK h
  ·rename_i h;cases e';exact .dT h
  ·cases e'
def vA:Oc X (.builtin "isinstance") Mq:=by
 intro pins s σ H xs us Q I r h;obtain⟨x,n,t,k,rfl,ht,hk,q⟩:=h;obtain⟨u,w',rfl,rx,rn⟩:=vals2 r;have rn':w'=Value.type n:=rn;subst rn';exact Zkq (t:=.type t) (b:=k) I rx (tyOf ht) ((Zvd _ _ _).trans (Zxp ht hk)) λtk=>⟨.bl k,H,I.tok _,rfl,q⟩
end
end G
namespace G
open PySem L2 PySem.Spec PyProof.Rows
section
variable {X:Cx}
def GC(mg:Str->Option Value)(x:Str)(v:V):Prop:=∃u,mg x=some u/\RelV v u
def GC.pe{x:Str}{v:V}{pos:Pos}(h:GC X.mg x v)(hg:Gl X x)(hd:(x == ("__debug__":Str))=false:=by decide):PE X (.Name x pos) (tC v):=by
 obtain⟨u,hm,r⟩:=h;exact Zr9 hg hm r hd
end
end G
namespace G
open PySem L2 PySem.Spec PyProof.Rows
section
variable {X:Cx}
def Zrr(z:Str)(k:Int):Txt.mul z k=Zjv z k:=by
 unfold Txt.mul Zjv;have fl:∀(n:Nat) (acc:List Nat),List.foldl (λx1 x2=>x1++x2) acc.toArray (List.replicate n z.cps)=(acc++(List.replicate n z.cps.toList).flatten).toArray:=by
  intro n
  induction n with
  | zero=>intro acc;simp
  | succ n ih=>
   intro acc;rw[List.replicate_succ,List.replicate_succ,List.foldl_cons,List.flatten_cons];have e:acc.toArray++z.cps=(acc++z.cps.toList).toArray:=by simp
   rw[e,ih,List.append_assoc]
 split
 ·rename_i h
  have e:k.toNat=0:=by omega
  rw[e];rfl
 ·rename_i h
  split
  ·rename_i h2
   rw[Bool.or_eq_true]at h2;rcases h2 with h2 | h2
   ·have e:k.toNat=1:=by have:=beq_iff_eq.mp h2;omega
    rw[e];simp
   ·have e:z.cps=#[]:=Array.eq_empty_of_size_eq_zero (beq_iff_eq.mp h2);obtain⟨zc⟩:=z;dsimp only at e;subst e;have:∀n:Nat,(List.replicate n ([]:List Nat)).flatten=[]:=λn=>by
     induction n with
     | zero=>rfl
     | succ n ih=>rw[List.replicate_succ,List.flatten_cons,ih];rfl
    simp[this]
  ·have:=fl k.toNat [];simp only[List.nil_append]at this;show(⟨List.foldl (λx1 x2=>x1++x2) #[] (List.replicate k.toNat z.cps)⟩:Str)=_;rw[this]
def QS(z:Str)(k:Int):(Zjv z k).length=k.toNat * z.length:=by
 show(List.toArray _).size=_;rw[List.size_toArray];have:∀n:Nat,(List.replicate n z.cps.toList).flatten.length=n * z.length:=λn=>by
  induction n with
  | zero=>simp
  | succ n ih=>rw[List.replicate_succ,List.flatten_cons,List.length_append,ih,str_len,Nat.succ_mul,Nat.add_comm]
 exact this _
def Zil:yW X (binaryOp .Mult) Zih:=by
 intro pins s σ H x y v u Q I rx ry h;obtain⟨z,k,rfl,rfl,h0,h1,h2,q⟩:=h;obtain⟨t,rfl⟩:=rx;obtain⟨t',rfl⟩:=ry;have hb:k.toNat * z.length<=1000000:=Nat.le_trans (Nat.mul_le_mul (show k.toNat<=1000 by omega) h2) (by decide);refine SB.mul ⟨?_,λh3 _=>?_,λh3 _=>?_⟩ λt'' kk=>?_
 ·simp;omega
 ·intro z1;have:(z.length:Int)<=1000:=by omega
  have e:(1000:Int)<(2 ^ 63 - 1) / k:=by
   have hk:0<k:=by omega
   rw[Int.lt_iff_add_one_le,Int.le_ediv_iff_mul_le hk];omega
  omega
 ·unfold Builtin.Str.tooLong;have:z.length * k.toNat<=1000000:=by rw[Nat.mul_comm];exact hb
  simp;exact Nat.le_trans this (by decide)
 ·rw[Zrr];exact⟨.str (Zjv z k),H,I.tok _,⟨_,rfl⟩,q _ (by rw[QS];exact hb) rfl⟩
end
end G
namespace G
open PySem L2
end G
namespace G
open PySem L2 PySem.Spec PyProof.Rows
section
variable {X:Cx}{pins:List (Addr×Obj)}{σ:L2.St}{H:Hp}{s:Shared}{acc:Addr}{ys:List V}{its:List Value}{n:Nat}
def adopt(I:Inv X pins σ H s)(hf:vR X pins H acc)(ho:s.heap.get? acc=some { cls:=.type "list",data:=.seq its.toArray n })(hv:Vals ys its)(hz:ys.length<=sizeLine):Inv X pins σ (upd H acc (.lst ys)) s:=by
 obtain⟨f0,f1,f2,f3,f4,f5⟩:=hf;have ne:∀b u,H b=some u->b≠acc:=λb u e=>aG e f0;refine I.step (h':=s.heap) (g':=s.gens) (t':=s.toks) (d':=s.drawn) (ch:=[acc]) (λb hb=>?_) (λ_ _ _ _ _ e _=>e) (λb o _ _ _ e _=>⟨o.slots,e⟩) (λb o hb e h0=>?_) (λb o _ e=>⟨o,e⟩)
  (λb xs e=>by rw[aC (ne b _ e)];exact e) (λb o u e=>by rw[aC (ne b _ e)];exact e) (λb ps e=>⟨#[],by rw[aC (ne b _ e),e];simp⟩) (λm hm=>hm) (λb u e=>?_) I.bare
 ·have e:b=acc:=by simpa using hb
  subst e;exact⟨f3,f1,f4,f5⟩
 ·have e:b≠acc:=by simpa using hb
  rw[aC e];exact h0
 ·by_cases hb:b=acc
  ·subst hb;rw[aq]at e;cases e;exact⟨hz,its,n,hv,ho⟩
  ·rw[aC hb]at e;exact(I.hok b u e).stay (λ_ _ _ q=>q) (λc q=>by rw[aC (ne c _ q)];exact q) λc xs q=>by rw[aC (ne c _ q)];exact q
def disown(I:Inv X pins σ (upd H acc (.lst ys)) s)(hf:vR X pins H acc):Inv X pins σ H s:=by
 obtain⟨f0,f1,f2,f3,f4,f5⟩:=hf;have back:∀b u,upd H acc (.lst ys) b=some u->u≠.lst ys->H b=some u:=λb u e hne=>by
  by_cases hb:b=acc
  ·subst hb;rw[aq]at e;cases e;exact absurd rfl hne
  ·rw[aC hb]at e;exact e
 refine I.step (h':=s.heap) (g':=s.gens) (t':=s.toks) (d':=s.drawn) (ch:=[acc]) (λb hb=>?_) (λ_ _ _ _ _ e _=>e) (λb o _ _ _ e _=>⟨o.slots,e⟩) (λb o hb e h0=>?_) (λb o _ e=>⟨o,e⟩)
  (λb xs e=>back b _ e (λz=>nomatch z)) (λb o u e=>back b _ e (λz=>nomatch z)) (λb ps e=>⟨#[],by rw[back b _ e (λz=>nomatch z)];simp⟩) (λm hm=>hm) (λb u e=>?_) I.bare
 ·have e:b=acc:=by simpa using hb
  subst e;exact⟨f3,f1,f4,f5⟩
 ·have e:b≠acc:=by simpa using hb
  rw[aC e]at h0;exact h0
 ·have hb:b≠acc:=aG e f0;have e':upd H acc (.lst ys) b=some u:=by rw[aC hb];exact e
  exact(I.hok b u e').stay (λ_ _ _ q=>q) (λc q=>back c _ q (λz=>nomatch z)) λc xs q=>back c _ q (λz=>nomatch z)
end
def PF(X:Cx)(ifs:List Expr)(t:TT):Prop:=
 ∀(pins:List (Addr×Obj)) (s:Shared) (σ:L2.St) (H:Hp) (Q:Bool->Hp->Prop),Inv X pins σ H s->t σ H Q->
  wpAny (model X.prog X.w) X.A (forIn ifs true λc r=>if r=true then do let ok <- isTrue c X.env (eval c X.env);pure (ForInStep.yield ok)else pure (ForInStep.yield r)) (TP X pins σ Q) X.xe s
def Dg{X:Cx}:PF X [] vW:=λ_ _ _ H _ I h=>wpAny_tests_nil ⟨H,I,h⟩
def Zg1{X:Cx}{c:Expr}{t:TT}(h:PT X c t):PF X [c] t:=λpins s σ H Q I q=>wpAny_tests_one (h pins s σ H Q I q)
def Zdy(X:Cx)(scope:Scope)(cl:List (Str×Addr))(N:List Str)(C:Addr)(s:Shared)(H:Hp)(ex:List Addr)(pn:List (Addr×Obj)):Cx:=
 { X with N:=N,s₀:=s,H₀:=H,env:=compEnvC scope cl C X.env,outer:=X.stack,ex:=ex,fn:=λ_=>false,pn:=pn,xe:=λ_ _=>False }
def AllIn(cells:List (Str×Addr)):List (Str×Addr)->Prop
 | []=>True
 | p::r=>cells.lookup p.1=some p.2/\AllIn cells r
def AllIn.get{cells:List (Str×Addr)}:∀{cl:List (Str×Addr)},AllIn cells cl->∀{x:Str}{c:Addr},cl.lookup x=some c->cells.lookup x=some c
 | [],_,x,c,h=>by cases h
 | (y,d)::r,a,x,c,h=>by
  cases e:(x == y)with
  | true=>
   rw[List.lookup_cons,e]at h;have e':x=y:=beq_iff_eq.mp e;subst e';cases h;exact a.1
  | false=>
   rw[List.lookup_cons,e]at h;exact AllIn.get a.2 h
def Gg(X:Cx):List Str->List Nat->Prop
 | [],[]=>True
 | y::r,j::js=>X.N[j]? =some y/\X.env.kindOf y=some .cell/\Gg X r js
 | _,_=>False
def Gg.len{X:Cx}:∀{ns:List Str}{js:List Nat},Gg X ns js->ns.length=js.length
 | [],[],_=>rfl
 | [],_::_,h=>h.elim
 | _::_,[],h=>h.elim
 | _::r,_::js,h=>by rw[List.length_cons,List.length_cons,Gg.len h.2.2]
def Gg.get{X:Cx}{σ:L2.St}:∀{ns:List Str}{js:List Nat},Gg X ns js->∀{i:Nat}{x:Str}{v:V},ns[i]? =some x->(js.map (pick σ))[i]? =some (some v)->∃j:Nat,X.N[j]? =some x/\X.env.kindOf x=some .cell/\σ[j]? =some (some v)
 | [],_,_,i,x,v,h,_=>by simp at h
 | _::_,[],h,_,_,_,_,_=>h.elim
 | y::r,j::js,h,0,x,v,h1,h2=>by
  simp at h1 h2;subst h1;refine⟨j,h.1,h.2.1,?_⟩;unfold pick at h2;split at h2
  ·rename_i e;rw[e,h2]
  ·cases h2
 | y::r,j::js,h,i+1,x,v,h1,h2=>Gg.get (i:=i) h.2.2 (by simpa using h1) (by simpa using h2)
def Zo6{x n:Str}{k:NameKind}{r:List (Str×NameKind)}(h:(x == n)=false):List.lookup x ((n,k)::r)=List.lookup x r:=by rw[List.lookup_cons,h]
def Zo7{x n:Str}{k:NameKind}{r:List (Str×NameKind)}(h:(x == n)=true):List.lookup x ((n,k)::r)=some k:=by rw[List.lookup_cons,h]
def QT(env:Env)(x:Str)(k:NameKind):NameKind:=if (k == NameKind.free && env.scope.kind == .function && env.kindOf x == some .cell)=true then .cell else k
def vf{env:Env}{x:Str}:∀{names:List (Str×NameKind)},
  (names.map λ(n,k)=>if (k == NameKind.free && env.scope.kind == .function && env.kindOf n == some .cell)then(n,NameKind.cell)else(n,k)).lookup x=(names.lookup x).map (QT env x)
 | []=>rfl
 | (n,k')::r=>by
  have ih:=@vf env x r;show List.lookup x ((if (k' == NameKind.free && env.scope.kind == .function && env.kindOf n == some .cell)=true then(n,NameKind.cell)else(n,k'))::r.map λ(n,k)=>if (k == NameKind.free && env.scope.kind == .function && env.kindOf n == some .cell)then(n,NameKind.cell)else(n,k))=_;cases hx:x == n with
  | true=>
   have e:=beq_iff_eq.mp hx;subst e;rw[Zo7 (k:=k') hx]
   by_cases hc:(k' == NameKind.free && env.scope.kind == .function && env.kindOf x == some .cell)=true
   ·rw[if_pos hc,Zo7 hx];show some NameKind.cell=some (QT env x k');unfold QT;rw[if_pos hc]
   ·rw[if_neg hc,Zo7 hx];show some k'=some (QT env x k');unfold QT;rw[if_neg hc]
  | false=>
   rw[Zo6 (k:=k') (r:=r) hx]
   by_cases hc:(k' == NameKind.free && env.scope.kind == .function && env.kindOf n == some .cell)=true
   ·rw[if_pos hc,Zo6 hx];exact ih
   ·rw[if_neg hc,Zo6 hx];exact ih
def lookup_all{names:List (Str×NameKind)}{p:Str×NameKind->Bool}:∀{x:Str}{k:NameKind},names.all p=true->names.lookup x=some k->p (x,k)=true:=by
 induction names with
 | nil=>intro x k _ h;simp at h
 | cons y r ih=>
  intro x k ha h;obtain⟨n,k'⟩:=y;rw[List.all_cons,Bool.and_eq_true]at ha;cases hx:x == n with
  | true=>
   rw[List.lookup_cons,hx]at h;have e1:x=n:=beq_iff_eq.mp hx;have e2:k'=k:=Option.some.inj h;rw[e1,<- e2];exact ha.1
  | false=>
   rw[List.lookup_cons,hx]at h;exact ih ha.2 h
def Zdz{prog:Program}{w:World}{A:Around}{R:Result->Shared->Prop}{s:Shared}{elt target iter:Expr}{ifs:List Expr}{scope:Scope}{pos:Pos}{it acc:Value}{env:Env}(I:Nat->Shared->Prop)
  (turn:∀n s,I n s->wpAny (model prog w) A (pyNext it) (λr s₁=>match r with
   | none=>R (.ok .next) s₁
   | some v=>wpAny (model prog w) A (letOwnedTupleGo target it v) (λ_ s₁'=>wpAny (model prog w) A (assign target env v) (λ_ s₂=>
     wpAny (model prog w) A (forIn ifs true λc r=>if r=true then do let ok <- isTrue c env (eval c env);pure (ForInStep.yield ok)else pure (ForInStep.yield r)) (λok s₃=>
      if ok=true then wpAny (model prog w) A (eval elt env) (λx s₄=>
       wpAny (model prog w) A (call (.builtin "list.append") [acc,x]) (λ_ s₅=>∃m,m<n/\I m s₅) (λ_ _=>False) s₄) (λ_ _=>False) s₃
      else ∃m,m<n/\I m s₃) (λ_ _=>False) s₂) (λ_ _=>False) s₁') (λ_ _=>False) s₁) (λ_ _=>False) s)
  (n:Nat) (h:I n s):
  codeAny (model prog w) A (.compLoop (.ListComp elt [⟨target,iter,ifs,0⟩] scope pos) 0 it acc env) R s:=by
 refine codeAny_loop rfl I (λn s hI=>?_) n h;show wpAny _ A ((compTurn (.ListComp elt [⟨target,iter,ifs,0⟩] scope pos) 0 it acc env).onRaise (λx=>do noteFrame x env;theTreesLotGoes x)) _ _ s;refine wpAny_noted ?_;rw[compTurn_list];refine wpAny_bind (wpAny_standAt (wpAny_bind (wpAny_mono (turn n s hI) (λr s₁ h₁=>?_) λ_ _ h'=>h'.elim)));cases r with
 | none=>exact wpAny_pure h₁
 | some v=>
  refine wpAny_bind (wpAny_mono h₁ (λ_ s₁' h₁'=>?_) λ_ _ h'=>h'.elim);refine wpAny_bind (wpAny_mono h₁' (λ_ s₂ h₂=>wpAny_bind (wpAny_mono h₂ (λok s₃ h₃=>?_) λ_ _ h'=>h'.elim)) λ_ _ h'=>h'.elim);cases ok with
  | false=>exact wpAny_pure ⟨rfl,h₃⟩
  | true=>
   exact wpAny_bind (wpAny_bind (wpAny_mono h₃ (λx s₄ h₄=>wpAny_bind (wpAny_mono h₄ (λ_ s₅ h₅=>wpAny_pure (wpAny_pure ⟨rfl,h₅⟩)) λ_ _ h'=>h'.elim)) λ_ _ h'=>h'.elim))
def Zn5{X:Cx}{elt iter tg:Expr}{pos:Pos}{ifs:List Expr}{scope:Scope}{cl:List (Str×Addr)}{wi:TI}{tc:TT}{te:TE}{cns:List Str}{ns:List Str}{gt:TG}{R:It->L2.St->Hp->VK->Prop}(caps:List Nat)
  (hR:∀J σ H Q,R J σ H Q->∃W:Nat->Nat->List V->Hp->Prop,(∃m,W 0 m [] H)/\∀i m ys H,W i m ys H->
   (J.stop i H/\∀p,H p=none->Q (.ref p) (upd H p (.lst ys)))\/
   (J.go i H/\ys.length<sizeLine/\∀x H',J.yld i H x H'->∀vs:L2.St,vs.length=ns.length->∃us:L2.St,us.length=ns.length/\gt x (vs++caps.map (pick σ)) H' (λσ2 H2=>σ2=us++caps.map (pick σ)/\H2=H')/\tc (us++caps.map (pick σ)) H' λk H2=>if k=true then te (us++caps.map (pick σ)) H2 (λy H3=>∃m',m'<m/\W (i+1) m' (ys++[y]) H3)else ∃m',m'<m/\W (i+1) m' ys H2))
  (hi:PI X tg iter wi) (hg:∀C s H ex pn,PG (Zdy X scope cl (ns++cns) C s H ex pn) tg gt)
  (hf:∀C s H ex pn,PF (Zdy X scope cl (ns++cns) C s H ex pn) ifs tc) (he:∀C s H ex pn,PE (Zdy X scope cl (ns++cns) C s H ex pn) elt te) (hc:X.calm=true)
  (hclos:closureFor scope X.env=pure cl) (hcl:AllIn X.env.cells cl) (hcap:Gg X cns caps)
  (hkind:scope.kind=.function) (hcell:(scope.names.all λp=>p.2 != .cell)=true) (hfree:(scope.names.all λp=>p.2 != .free || (cl.lookup p.1).isSome)=true)
  (hcf:(cns.all λy=>scope.names.lookup y == some .free)=true) (hnames:∀y∈scope.names,y.2=.local->scope.names.lookup y.1=some .local)
  (hs:∀v,foldedSetIterable iter X.env v=pure v):
  PE X (.ListComp elt [⟨tg,iter,ifs,0⟩] scope pos) (λσ H Q=>wi σ H λJ H1=>R J σ H1 Q):=by
 intro pins s σ H Q I h;rw[eval_ListComp];refine wpAny_comprehension_free (use:=none) rfl hs hclos hkind hnames (jV (hi pins s σ H _ I h) λxv s1 h1=>jV h1 λitv s2 h2=>?_);obtain⟨it,fp,tn,J,H2,rfl,I2,T,st2,f2,hr⟩:=h2;obtain⟨W,⟨m0,w0⟩,turn⟩:=hR _ _ _ _ hr;have hne:∀y∈scope.names,y.2≠.cell:=λy hy e=>by
  have:=List.all_eq_true.mp hcell y hy;rw[e]at this;simp at this
 refine wpAny_newObj_type (wpAny_newFunctionEnv hne (by intro y hy;simp at hy) (λh₁ hns₁ hsb₁=>?_) hkind);dsimp only at hns₁ hsb₁ ⊢;generalize hacc:s2.heap.objs.size=acc;generalize hH3:s2.heap.push { cls:=.type "list",dict:=none,data:=.seq ([]:List Value).toArray }=h3 at hns₁ hsb₁ ⊢;have hC:h3.objs.size=acc+1:=by rw[<- hH3,Heap.size_push,hacc]
 have k23:∀b o,s2.heap.get? b=some o->h3.get? b=some o:=λb o e=>hH3 ▸ Heap.get?_push_of_some _ e;have k34:∀b o,h3.get? b=some o->h₁.get? b=some o:=λb o e=>hsb₁.extBut b o (Nat.ne_of_lt (Heap.lt_size e)) (Heap.get?_push_of_some _ e);have Zz7:h3.get? acc=some { cls:=.type "list",dict:=none,data:=.seq ([]:List Value).toArray }:=by
  rw[<- hH3,<- hacc];exact Heap.get?_push_size _ rfl
 have I3:Inv X pins σ H2 { s2 with heap:=h3 }:=I2.kept (t':=s2.toks) k23;have Zwh:vR X pins H2 acc:=I2.Zlb (Nat.le_of_eq hacc) (I2.hok.fresh (Nat.le_of_eq hacc));have fpl:∀b∈fp,b<acc:=λb hb=>by
  obtain⟨o,e,_⟩:=T.obj _ _ st2 b hb;rw[<- hacc];exact Heap.lt_size e
 have Zlg:∀b∈acc::fp,vR X pins H2 b:=λb hb=>(List.mem_cons.mp hb).elim (λe=>e ▸ Zwh) (f2 b);have exC:∀b∈acc::fp,b≠h3.objs.size:=λb hb=>by
  rcases List.mem_cons.mp hb with e | hb
  ·rw[hC,e];exact Nat.ne_of_lt (Nat.lt_succ_self _)
  ·rw[hC];exact Nat.ne_of_lt (Nat.lt_succ_of_lt (fpl b hb))
 have Zev:∀b∈acc::fp,b∉frs X.stack:=λb hb hm=>by
  obtain⟨_,g1,g2,_⟩:=Zlg b hb;exact(List.mem_cons.mp (I2.JS b hm)).elim g1 g2
 let Y:Cx:=Zdy X scope cl (ns++cns) h3.objs.size { s2 with heap:=h3 } H2 (acc::fp) (X.pn++pins)
 have cellsOf:∀y c,cl.lookup y=some c->X.env.cells.lookup y=some c:=λy c e=>hcl.get e;have Zit:∀y k,Y.env.kindOf y=some k->(k=.cell\/k=.free)->∃c,cl.lookup y=some c:=λy k e hk=>by
  have e0:(scope.names.lookup y).map (QT X.env y)=some k:=vf.symm.trans e;obtain⟨k0,e1,e2⟩:=Option.map_eq_some_iff.mp e0;have e3:=lookup_all hfree e1;have e4:=lookup_all hcell e1
  by_cases hf:k0=.free
  ·subst hf;rw[Bool.or_eq_true]at e3;rcases e3 with e3 | e3
   ·exact absurd rfl (bne_iff_ne.mp e3)
   ·exact Option.isSome_iff_exists.mp e3
  ·exfalso
   have e5:QT X.env y k0=k0:=by
    unfold QT;rw[if_neg];intro z;rw[Bool.and_eq_true,Bool.and_eq_true]at z;exact hf (beq_iff_eq.mp z.1.1)
   rw[e5]at e2;subst e2;rcases hk with rfl | rfl
   ·simp at e4
   ·exact hf rfl
 have okY:Y.Ok:={
  mod:=I2.ok.mod
  kind:=hkind
  glob:=I2.ok.glob
  blt:=I2.ok.blt
  above:=Nat.le_refl _
  inj:=λa b c e1 e2=>I2.ok.inj a b c (cellsOf _ _ e1) (cellsOf _ _ e2)
  has:=λy hy=>hy.elim (λe=>Zit y _ e (.inl rfl)) (λe=>Zit y _ e (.inr rfl))
  cab:=λy c e=>nomatch e
  hd:=I2.ok.hd
  frames:=I2.ok.frames
  stk:=.inl rfl
  exf:=λb hb=>⟨exC b hb,λy c e=>(Zlg b hb).2.2.2.2.1 y c (cellsOf _ _ e)⟩
  bs:=λb o e=>⟨k23 b o (I2.bs b o e).1,(I2.bs b o e).2⟩
  bsz:=by
   show X.base.objs.size<=h3.objs.size;rw[hC,<- hacc];exact Nat.le_succ_of_le (Nat.le_trans I2.ok.bsz I2.sz)
  Zcl:=λb o e hb=>by
   rcases(Zlg b hb).2.2.2.1 with z | z
   ·exact I2.ok.Zcl b o e z
   ·exact absurd (Nat.lt_of_lt_of_le (Heap.lt_size e) (Nat.le_trans I2.ok.bsz z)) (Nat.lt_irrefl _)
  Zhn:=Zev
  Bf:=I3.stack
  frf:=I3.XR }
 have Zzd:(List.replicate ns.length none++caps.map (pick σ):L2.St).length=(ns++cns).length:=by rw[List.length_append,List.length_append,List.length_replicate,aY,hcap.len]
 have I4:Inv Y [] (List.replicate ns.length none++caps.map (pick σ)) H2 { s2 with heap:=h₁,toks:=s2.toks+([]:List (Str×Value)).length }:={
  ok:=okY
  os:=rfl
  bare:=I2.bare
  base:=Un.kept k34
  loc:=by
   refine⟨_,hns₁,λi y v e1 e2 e3=>?_⟩
   by_cases hlt:i<ns.length
   ·have e2:(List.replicate ns.length none++caps.map (pick σ):L2.St)[i]? =some (some v):=e2;rw[List.getElem?_append_left (by rw[List.length_replicate];exact hlt),List.getElem?_replicate,if_pos hlt]at e2;cases e2
   ·have e1':cns[i - ns.length]? =some y:=by
     have e1':(ns++cns)[i]? =some y:=e1;rw[List.getElem?_append_right (by omega)]at e1';exact e1'
    have e2':(caps.map (pick σ):L2.St)[i - ns.length]? =some (some v):=by
     have e2:(List.replicate ns.length none++caps.map (pick σ):L2.St)[i]? =some (some v):=e2;rw[List.getElem?_append_right (by rw[List.length_replicate];omega),List.length_replicate]at e2;exact e2
    obtain⟨j,j1,j2,j3⟩:=hcap.get (σ:=σ) (i:=i - ns.length) (x:=y) (v:=v) e1' e2';obtain⟨m,hn,hl⟩:=I2.loc;obtain⟨u,r,l⟩:=hl j y v j1 j3 (.inr (.inl j2));rcases l with ⟨l,_⟩ | ⟨_,c,l1,l2⟩
    ·rw[j2]at l;cases l
    ·refine⟨u,r,.inr ?_⟩;rcases e3 with e3 | e3 | e3
     ·exfalso
      have hm:y∈cns:=List.mem_of_getElem? e1';have hl:scope.names.lookup y=some .free:=beq_iff_eq.mp (List.all_eq_true.mp hcf y hm);have e0:(scope.names.lookup y).map (QT X.env y)=some .local:=vf.symm.trans e3;rw[hl]at e0;have e5:QT X.env y .free=.local:=Option.some.inj e0;unfold QT at e5;split at e5<;>cases e5
     ·obtain⟨c',hc'⟩:=Zit y _ e3 (.inl rfl);have:=cellsOf _ _ hc';rw[l1]at this;cases this;exact⟨.inl e3,c,hc',l2.keeps λb o e=>k34 _ _ (k23 _ _ e)⟩
     ·obtain⟨c',hc'⟩:=Zit y _ e3 (.inr rfl);have:=cellsOf _ _ hc';rw[l1]at this;cases this;exact⟨.inr e3,c,hc',l2.keeps λb o e=>k34 _ _ (k23 _ _ e)⟩
  cell:=λy c e=>by
   obtain⟨v,z⟩:=I2.cell y c (cellsOf _ _ e);exact⟨v,z.keeps λb o e=>k34 _ _ (k23 _ _ e)⟩
  free:=I2.hok.fresh (by rw[hacc];show acc<=h3.objs.size;rw[hC];exact Nat.le_succ _)
  vh:=λy c e=>I2.vh y c (cellsOf _ _ e)
  pin:=λp hp=>by
   have hp2:p∈(X.pn++pins)++[]:=hp;have hp':p∈X.pn++pins:=by rw[List.append_nil]at hp2;exact hp2
   obtain⟨p1,p2,p3,p4,p5⟩:=I2.pin p hp';refine⟨k34 _ _ (k23 _ _ p1),p2,?_,λhm=>(List.mem_cons.mp (I2.JS _ hm)).elim p3 p4,p5⟩;exact Nat.ne_of_lt (by show p.1<h3.objs.size;exact Heap.lt_size (k23 _ _ p1))
  hok:=I2.hok.kept λb u e=>k34 _ _ (k23 _ _ e)
  len:=Zzd }
 have fpY:∀{H':Hp}{pl:List (Addr×Obj)}{b:Addr},b∈acc::fp->H' b=none->(∀p∈pl,p.1≠b)->vR Y pl H' b:=λ{H' pl b} hb hn hp=>
  ⟨hn,exC b hb,Zev b hb,.inl hb,λy c e=>(Zlg b hb).2.2.2.2.1 y c (cellsOf _ _ e),λp hm=>(List.mem_append.mp hm).elim (λz=>(Zlg b hb).2.2.2.2.2 p z) (hp p)⟩
 have fin:∀{σ':L2.St}{H':Hp}{s':Shared}{ys:List V}{its:List Value}{kk:Nat}{pl:List (Addr×Obj)},Inv Y pl σ' H' s'->H' acc=none->Vals ys its->ys.length<=sizeLine->
   s'.heap.get? acc=some { cls:=.type "list",data:=.seq its.toArray kk }->(∀p,H' p=none->Q (.ref p) (upd H' p (.lst ys)))->
   ∀h',Heap.SameBut h3.objs.size s'.heap h'->EP X pins σ Q (.ref acc) { s' with heap:=h' }:=λ{σ' H' s' ys its kk pl} J ha hv hz ho hq h' hs'=>by
  have ZAa:acc≠h3.objs.size:=exC acc (List.mem_cons_self);have Zda:∀b o,b≠h3.objs.size->s'.heap.get? b=some o->h'.get? b=some o:=λb o hb e=>hs'.extBut b o hb e;have ltC:∀b o,s2.heap.get? b=some o->b≠h3.objs.size:=λb o e=>Nat.ne_of_lt (Heap.lt_size (k23 b o e));have Zp1:H' h3.objs.size=none:=J.free;have un:Un (frs X.stack) (acc::fp) H2 H' s2.heap h':={
   keep:=λb o e n hb hx=>Zda b o (ltC b o e) (J.base.keep b o (k23 b o e) n hb hx)
   slot:=λb o e n hb hx=>by
    obtain⟨sl,q⟩:=J.base.slot b o (k23 b o e) n hb hx;exact⟨sl,Zda b _ (ltC b o e) q⟩
   free:=λb o e n hx=>J.base.free b o (k23 b o e) n hx
   there:=λb o e hx=>by
    obtain⟨o',q⟩:=J.base.there b o (k23 b o e) hx;exact⟨o',Zda b o' (ltC b o e) q⟩
   tups:=J.base.tups
   Ma:=J.base.Ma
   Od:=J.base.Od }
  have hok:Ei X.prog X.w H' h':=λb u e=>by
   refine(J.hok b u e).stay (λc v hc q=>Zda c v ?_ q) (λ_ q=>q) λ_ _ q=>q;rintro rfl;rcases hc with rfl | hc
   ·rw[Zp1]at e;cases e
   ·rw[Zp1]at hc;cases hc
  have I5:Inv X pins σ H' { s' with heap:=h' }:=I2.call' (ch:=acc::fp) J.os un hok J.bare λb hb=>by
   obtain⟨g0,g1,g2,g3,g4,g5⟩:=Zlg b hb;exact⟨g3,g1,g4,g5⟩
  refine⟨.ref acc,_,adopt (acc:=acc) I5 ?_ (Zda _ _ ZAa ho) hv hz,rfl,hq acc ha⟩;obtain⟨g0,g1,g2,g3,g4,g5⟩:=Zwh;exact⟨ha,g1,g2,g3,g4,g5⟩
 have loop:codeAny (model X.prog X.w) X.A (.compLoop (.ListComp elt [⟨tg,iter,ifs,0⟩] scope pos) 0 (.ref it) (.ref acc) Y.env) (compPost (model X.prog X.w) X.A X.xe none (EP X pins σ Q) (.ref acc) h3.objs.size)
   { s2 with heap:=h₁,toks:=s2.toks+([]:List (Str×Value)).length }:=by
  refine Zdz (λn s'=>∃(i:Nat) (v:L2.St) (ys:List V) (its:List Value) (kk:Nat) (H':Hp),v.length=ns.length/\Inv Y [] (v++caps.map (pick σ)) H' s'/\tn i s'.heap/\(∀b∈fp,H' b=none)/\H' acc=none/\Vals ys its/\ys.length<=sizeLine/\
   s'.heap.get? acc=some { cls:=.type "list",data:=.seq its.toArray kk }/\W i n ys H') ?_ m0 ⟨0,List.replicate ns.length none,[],[],0,H2,List.length_replicate,I4,T.keep _ _ _ st2 (λb _ o e=>k34 _ _ (k23 _ _ e)),λb hb=>(f2 b hb).1,Zwh.1,.nil,Nat.zero_le _,k34 _ _ Zz7,w0⟩
  rintro n s5 ⟨i,v,ys,its,kk,H5,lv,I5,st5,fr5,ha5,hv5,hz5,ho5,w5⟩;have Zxf:Inv Y [(acc,{ cls:=.type "list",data:=.seq its.toArray kk })] (v++caps.map (pick σ)) H5 s5:=I5.HR λp hp=>by
   have e:p=(acc,{ cls:=.type "list",data:=.seq its.toArray kk }):=by simpa using hp
   subst e;exact⟨ho5,ha5,exC acc List.mem_cons_self,Zev acc List.mem_cons_self,λv=>by intro z;cases z⟩
  have fpA:∀{H':Hp},(∀b∈fp,H' b=none)->∀b∈fp,vR Y [(acc,{ cls:=.type "list",data:=.seq its.toArray kk })] H' b:=λhn b hb=>fpY (List.mem_cons_of_mem _ hb) (hn b hb) λp hp=>by
   have e:p=(acc,{ cls:=.type "list",data:=.seq its.toArray kk }):=by simpa using hp
   subst e;exact(Nat.ne_of_lt (fpl b hb)).symm
  rcases turn i n ys H5 w5 with ⟨stop,qn⟩ | ⟨go,hlt,step⟩
  ·refine jV (T.done Y rfl rfl rfl hc i _ s5 _ H5 (λ_ _=>False) Zxf (fpA fr5) st5 stop) λr s6 ⟨hr,I6⟩=>?_;subst hr;obtain⟨m,hm,_⟩:=I6.loc;have ho6:=(I6.pin (acc,{ cls:=.type "list",data:=.seq its.toArray kk }) (List.mem_append_right _ List.mem_cons_self)).1;exact⟨m,hm,fin I6 ha5 hv5 hz5 ho6 qn⟩
  ·refine jV (T.item Y rfl rfl rfl hc i _ s5 _ H5 (λ_ _=>False) Zxf (fpA fr5) st5 go) λr s6 ⟨u,hr,h6⟩=>?_;subst hr;refine jV h6 λ_ s7 ⟨z,H7,I7,r7,y7,st7,fr7⟩=>?_;have I7':=I7.pinned (fpA fr7) (T.obj _ _ st7);obtain⟨us,lu,hgt,step⟩:=step z H7 y7 v lv;have pg:PG Y tg gt:=hg _ _ _ _ _;refine jV (pg _ s7 _ H7 z u (λσ2 H2'=>σ2=us++caps.map (pick σ)/\H2'=H7) I7' r7 hgt) λ_ s8 ⟨σ8,H8,I8,e8,e8'⟩=>?_;subst e8 e8';refine jV (hf _ _ _ _ _ _ s8 _ H8 _ I8 step) λok s9 ⟨H9,I9,q9⟩=>?_;have stat:∀{H':Hp}{s':Shared}{σ':L2.St},Inv Y ([(acc,{ cls:=.type "list",data:=.seq its.toArray kk })]++GF fp s7.heap) σ' H' s'->tn (i+1) s'.heap/\(∀b∈fp,H' b=none)/\H' acc=none/\s'.heap.get? acc=some { cls:=.type "list",data:=.seq its.toArray kk }:=λ{H' s' σ'} J=>by
    have pa:=J.pin (acc,{ cls:=.type "list",data:=.seq its.toArray kk }) (List.mem_append_right _ (List.mem_append_left _ List.mem_cons_self));refine⟨T.keep _ _ _ st7 λb hb o e=>(J.pin (b,o) (List.mem_append_right _ (List.mem_append_right _ (u6 hb e)))).1,λb hb=>?_,pa.2.1,pa.1⟩;obtain⟨o,e,d⟩:=T.obj _ _ st7 b hb;exact(J.pin (b,o) (List.mem_append_right _ (List.mem_append_right _ (u6 hb e)))).2.1
   have Ztp:∀{H':Hp}{s':Shared}{σ':L2.St}{pl:List (Addr×Obj)},Inv Y pl σ' H' s'->Inv Y [] σ' H' s':=λJ=>J.HR λp hp=>nomatch hp;cases ok with
   | false=>
    obtain⟨m',hm,w9⟩:=q9;obtain⟨t1,t2,t3,t4⟩:=stat I9;exact⟨m',hm,i+1,us,ys,its,kk,H9,lu,Ztp I9,t1,t2,t3,hv5,hz5,t4,w9⟩
   | true=>
    show wpAny _ _ (eval elt Y.env) _ _ s9;refine jV (he _ _ _ _ _ _ s9 _ H9 _ I9 q9) λy s10 ⟨yv,H10,I10,r10,m',hm,w10⟩=>?_;obtain⟨t1,t2,t3,t4⟩:=stat I10;have ZHr:Inv Y (GF fp s7.heap) (us++caps.map (pick σ)) H10 s10:=I10.HR λp hp=>I10.pin p (List.mem_append_right _ (List.mem_append_right _ hp));have fA:vR Y (GF fp s7.heap) H10 acc:=fpY List.mem_cons_self t3 λp hp=>Nat.ne_of_lt (fpl _ (WQ hp).1);have Ja:=adopt ZHr fA t4 hv5 hz5;refine jV (uJ (X:=Y) _ s10 _ _ (.ref acc) [yv] (.ref acc) [y] (λ_ H'=>H'=upd (upd H10 acc (.lst ys)) acc (.lst (ys++[yv]))) Ja rfl (.cons r10 .nil) ⟨acc,ys,yv,rfl,rfl,aq,hlt,rfl⟩) λ_ s11 ⟨_,H11,I11,_,e11⟩=>?_;rw[eY]at e11;subst e11;obtain⟨ZA2,its',kk',ZA3,ZA6⟩:=I11.hok acc _ aq;have Jd:=disown I11 fA;have Zz3:tn (i+1) s11.heap:=T.keep _ _ _ st7 λb hb o e=>(Jd.pin (b,o) (List.mem_append_right _ (u6 hb e))).1;exact⟨m',hm,i+1,us,ys++[yv],its',kk',H10,lu,Ztp Jd,Zz3,t2,t3,ZA3,ZA2,ZA6,w10⟩
 exact codeAny_compStart_list loop (T.self X.A 0 _ _ _ (T.keep _ _ _ st2 (λb _ o e=>k34 _ _ (k23 _ _ e))) loop)
def M9{X:Cx}{elt iter:Expr}{x:Str}{px pos:Pos}{ifs:List Expr}{scope:Scope}{cl:List (Str×Addr)}{wi:TI}{tc:TT}{te:TE}{cns:List Str}(caps:List Nat)
  (hi:PI X (.Name x px) iter wi)
  (hf:∀C s H ex pn,PF (Zdy X scope cl (x::cns) C s H ex pn) ifs tc) (he:∀C s H ex pn,PE (Zdy X scope cl (x::cns) C s H ex pn) elt te) (hc:X.calm=true)
  (hclos:closureFor scope X.env=pure cl) (hcl:AllIn X.env.cells cl) (hcap:Gg X cns caps)
  (hkind:scope.kind=.function) (hcell:(scope.names.all λp=>p.2 != .cell)=true) (hfree:(scope.names.all λp=>p.2 != .free || (cl.lookup p.1).isSome)=true)
  (hcf:(cns.all λy=>scope.names.lookup y == some .free)=true) (hnames:∀y∈scope.names,y.2=.local->scope.names.lookup y.1=some .local) (hx:scope.names.lookup x=some .local) (hnd:(x::cns).Nodup)
  (hs:∀v,foldedSetIterable iter X.env v=pure v:=by intro _;rfl):
  PE X (.ListComp elt [⟨.Name x px,iter,ifs,0⟩] scope pos) (tLC wi caps tc te):=by
 refine Zn5 (ns:=[x]) (gt:=aO 0) caps (λJ σ H Q h=>?_) hi (λC s H ex pn=>gk hnd rfl (.inl (lookup_relabel_local hx)) (.inr (lookup_relabel_local hx))) hf he hc hclos hcl hcap hkind hcell hfree hcf hnames hs;obtain⟨W,w0,turn⟩:=h;refine⟨W,w0,λi m ys H hw=>(turn i m ys H hw).imp id λ⟨g,l,st⟩=>⟨g,l,λz H' y vs hv=>?_⟩⟩
 match vs,hv with
 | [v],_=>exact⟨[some z],rfl,⟨rfl,rfl⟩,st z H' y⟩
end G
namespace G
open PySem L2 PySem.Spec PyProof.Rows
def K5{P:Program}{w:World}{H:Hp}{h:Heap}{a:Addr}{o:HO}(x:kE P w H h a o):∃ob,h.get? a=some ob:=by
 induction o with
 | lst xs=>obtain⟨_,_,_,_,e⟩:=x;exact⟨_,e⟩
 | tup xs=>obtain⟨_,_,_,ob,e,_⟩:=x;exact⟨ob,e⟩
 | dK kvs=>obtain⟨_,_,_,_,ob,_,_,e,_⟩:=x;exact⟨ob,e⟩
 | dT kvs=>obtain⟨_,_,_,_,ob,_,_,e,_⟩:=x;exact⟨ob,e⟩
 | set S n=>obtain⟨ob,_,_,_,e,_⟩:=x;exact⟨ob,e⟩
 | ins C dx fs=>obtain⟨_,_,_,e,_⟩:=x;exact⟨_,e⟩
 | own y=>exact x
 | xd fs=>obtain⟨_,⟨ob,_,_,e,_⟩,_⟩:=x;exact⟨ob,e⟩
 | rng lo hi=>obtain⟨_,_,_,e⟩:=x;exact⟨_,e⟩
 | zp ob u ih=>exact⟨_,x.1⟩
 | Qj ps=>exact⟨_,x⟩
 | met f y=>exact⟨_,x⟩
 | ext φ=>obtain⟨_,e,_⟩:=x;exact e
def XC{P:Program}{w:World}{fs:List Addr}{H0 H1:Hp}{h0 h1 h2:Heap}(u:Un fs [] H0 H1 h0 h1)(ok:Ei P w H1 h1)(fr:∀b∈fs,H1 b=none)
  (kp:∀b o,h1.get? b=some o->((∃v,h0.get? b=some v)\/∃v,H1 b=some v)->b∉fs->h2.get? b=some o) (sl:∀b o,h1.get? b=some o->b∈fs->∃z,h2.get? b=some { o with slots:=z }):
  Un fs [] H0 H1 h0 h2/\Ei P w H1 h2:=by
 refine⟨⟨λb o e n hb hx=>kp b o (u.keep b o e n hb hx) (.inl ⟨o,e⟩) hb,λb o e n hb hx=>?_,u.free,λb o e hx=>?_,u.tups,u.Ma,u.Od⟩,λa o e=>?_⟩
 ·obtain⟨z,e1⟩:=u.slot b o e n hb hx;obtain⟨z2,e2⟩:=sl b _ e1 hb;exact⟨z2,e2⟩
 ·obtain⟨o',e1⟩:=u.there b o e hx
  by_cases hb:b∈fs
  ·obtain⟨z,e2⟩:=sl b _ e1 hb;exact⟨_,e2⟩
  ·exact⟨o',kp b o' e1 (.inl ⟨o,e⟩) hb⟩
 ·refine(ok a o e).stay (λb v hb q=>?_) (λ_ q=>q) λ_ _ q=>q;have hs:∃v,H1 b=some v:=by
   rcases hb with z | z
   ·exact⟨o,by rw[z];exact e⟩
   ·exact⟨_,z⟩
  refine kp b v q (.inr hs) λz=>?_;obtain⟨v',e'⟩:=hs;rw[fr b z]at e';cases e'
def Tf(P:Program)(w:World):CXT:=λouter H s E e s'=>
 ∃(ea:Addr) (cls a0:Value) (B:Heap) (H':Hp),e=.ref ea/\s'.os=s.os/\AllBare s'.gens/\Un (frs outer) [] H H' s.heap s'.heap/\Ei P w H' s'.heap/\Heap.FlyingW B outer ea cls a0 s'.heap/\
  (∀b o,s'.heap.get? b=some o->((∃v,s.heap.get? b=some v)\/∃v,H' b=some v)->b∉frs outer->B.get? b=some o)/\E cls none H'
def fZ{P:Program}{w:World}{X:Cx}:Passes (Tf P w) X E0:=λ_ _ _ _ _ _ _ h=>by
 obtain⟨_,_,_,_,_,_,_,_,_,_,_,_,z⟩:=h;exact z.elim
section
variable {P:Program}{w:World}{K:aB}{mg:Str->Option Value}{base:Heap}{N:List Str}{qual:Str}{scope:Scope}{f:Addr}{cd:Value}{A:Around}{outer:List Env}{s:Shared}{H:Hp}{E:XK}
def HW:Passes (Tf P w) (Mm (Tf P w) P w K mg base N qual scope f cd A outer s H E) E:=by
 intro pins σ H1 s1 e s2 I h;obtain⟨ea,cls,a0,B,H2,rfl,os,bare,un,ok,fl,hB,hE⟩:=h;have J:Inv (Mm (Tf P w) P w K mg base N qual scope f cd A outer s H E) pins σ H2 s2:=I.call' os un ok bare (λb z=>nomatch z);have L0:∀b o,s.heap.get? b=some o->b≠(envOfC qual scope s.heap.objs.size f cd).locals:=λb o e=>Nat.ne_of_lt (Nat.lt_of_lt_of_le (Heap.lt_size e) I.ok.above);have nin:∀b,((∃v,s.heap.get? b=some v)\/∃v,H2 b=some v)->b∉frs outer->b∉frs (envOfC qual scope s.heap.objs.size f cd::outer):=λb hb hn hm=>by
  rcases List.mem_cons.mp (J.JS b hm)with z | z
  ·rcases hb with ⟨v,e⟩ | ⟨v,e⟩
   ·exact L0 b v e z
   ·rw[z]at e;have:=J.free;rw[e]at this;cases this
  ·exact hn z
 have was:∀b,((∃v,s.heap.get? b=some v)\/∃v,H2 b=some v)->(∃v,s1.heap.get? b=some v)\/∃v,H2 b=some v:=λb hb=>by
  rcases hb with ⟨v,e⟩ | hb
  ·exact .inl (I.base.there b v e (λz=>nomatch z))
  ·exact .inr hb
 refine wpAny_leaves_onW I.ok.frames rfl fl λh' fl' sm=>?_;have dat:∀b o,s2.heap.get? b=some o->b∈frs outer->∀vs,o.data≠.fields vs:=λb o e hb=>by
  obtain⟨_,o',ho',hd⟩:=J.Bf.mem hb;rw[e]at ho';cases ho';exact hd
 have inB:∀b o,s2.heap.get? b=some o->((∃v,s.heap.get? b=some v)\/∃v,H2 b=some v)->b∉frs outer->B.get? b=some o:=λb o e hb hn=>hB b o e (was b hb) (nin b hb hn);have U:=XC (P:=P) (w:=w) (h2:=h') J.base J.hok (λb hb=>by
   obtain⟨_,o,ho,_⟩:=J.ok.Bf.mem hb;exact J.base.free b o ho (J.ok.frf b hb) (λz=>nomatch z)) (λb o e hb hn=>fl'.1 _ _ (inB b o e hb hn)) λb o e hb=>sm b o e (dat b o e hb)
 refine⟨ea,cls,a0,B,H2,rfl,J.os,J.bare,U.1,U.2,fl',λb o e hb hn=>?_,hE⟩;have there:∃v,s2.heap.get? b=some v:=by
  rcases hb with ⟨v,z⟩ | ⟨v,z⟩
  ·exact J.base.there b v z (λz=>nomatch z)
  ·exact K5 (J.hok b v z)
 obtain⟨v,z⟩:=there;have q:=inB b v z hb hn;have:=fl'.1 _ _ q;rw[e]at this;cases this;exact q
def YQ{pins:List (Addr×Obj)}{σ:L2.St}{H1:Hp}{s1:Shared}{C e:Addr}{vs:List Value}{h1:Heap}(I:Inv (Mm (Tf P w) P w K mg base N qual scope f cd A outer s H E) pins σ H1 s1)
  (hx:Heap.MadeExcOf s1.heap h1 e (.ref C) vs) (hE:E (.ref C) none H1):(Mm (Tf P w) P w K mg base N qual scope f cd A outer s H E).xe (.ref e) { s1 with heap:=h1 }:=by
 have L0:∀b o,s.heap.get? b=some o->b≠(envOfC qual scope s.heap.objs.size f cd).locals:=λb o e=>Nat.ne_of_lt (Nat.lt_of_lt_of_le (Heap.lt_size e) I.ok.above);have nin:∀b,((∃v,s.heap.get? b=some v)\/∃v,H1 b=some v)->b∉frs outer->b∉frs (envOfC qual scope s.heap.objs.size f cd::outer):=λb hb hn hm=>by
  rcases List.mem_cons.mp (I.JS b hm)with z | z
  ·rcases hb with ⟨v,e⟩ | ⟨v,e⟩
   ·exact L0 b v e z
   ·rw[z]at e;have:=I.free;rw[e]at this;cases this
  ·exact hn z
 have fh:s1.heap.FunFrames (PySem.W.hideAll s1.heap (frs (envOfC qual scope s.heap.objs.size f cd::outer))) (envOfC qual scope s.heap.objs.size f cd::outer):=
  PySem.W.funFrames_hide I.stack λenv he b hb=>List.mem_filterMap.mpr ⟨env,he,hb⟩
 refine wpAny_leaves_madeW (s:={ s1 with heap:=h1 }) I.ok.frames rfl (λb o q=>PySem.W.of_hideAll _ q) fh hx λh' t fl _ _ sm=>?_;have inB:∀b o,s1.heap.get? b=some o->((∃v,s.heap.get? b=some v)\/∃v,H1 b=some v)->b∉frs outer->(PySem.W.hideAll s1.heap (frs (envOfC qual scope s.heap.objs.size f cd::outer))).get? b=some o:=
  λb o e hb hn=>PySem.W.hideAll_get _ e (nin b hb hn)
 have dat:∀b o,s1.heap.get? b=some o->b∈frs outer->∀vs,o.data≠.fields vs:=λb o e hb=>by
  obtain⟨_,o',ho',hd⟩:=I.Bf.mem hb;rw[e]at ho';cases ho';exact hd
 have U:=XC (P:=P) (w:=w) (h2:=h') I.base I.hok (λb hb=>by
   obtain⟨_,o,ho,_⟩:=I.ok.Bf.mem hb;exact I.base.free b o ho (I.ok.frf b hb) (λz=>nomatch z)) (λb o e hb hn=>fl.1 _ _ (inB b o e hb hn)) λb o e hb=>sm b o (hx.keeps b o e) (dat b o e hb)
 refine⟨e,.ref C,.ref t,_,H1,rfl,I.os,I.bare,U.1,U.2,fl,λb o q hb hn=>?_,hE⟩;have there:∃v,s1.heap.get? b=some v:=by
  rcases hb with ⟨v,z⟩ | ⟨v,z⟩
  ·exact I.base.there b v z (λz=>nomatch z)
  ·exact K5 (I.hok b v z)
 obtain⟨v,z⟩:=there;have q2:=inB b v z hb hn;have:=fl.1 _ _ q2;rw[q]at this;cases this;exact q2
end
abbrev Zpy(K:aB)(C:Addr):Prop:=PySem.W.excIn K C [.type "ValueError",.type "Exception",.type "BaseException",.type "object"] "ValueError.__new__"=true
def Zt1{K:aB}{h:Heap}{C:Addr}{ms:List Value}{ni:String}(X:K.In h)(q:PySem.W.excIn K C ms ni=true):
  ∃tl N nm ql bs hd sn sub ab col dd j0 j1 j2 j3 j5 mN,h.get? C=some (excClassObj nm ql C N bs tl hd sn sub ab col dd j0 j1 j2 j3 j5 ni)/\h.Ns N mN/\mN "__init__"=none/\OwnTail h ms tl:=by
 unfold PySem.W.excIn at q;split at q
 ·rename_i dd ZHk slots hob
  split at q
  ·rename_i C2 tl j0 j1 j2 j3 n2 j5 em es
   simp only[Bool.and_eq_true,beq_iff_eq,Bool.not_eq_true']at q;obtain⟨⟨⟨⟨⟨e1,e2⟩,e3⟩,e4⟩,e5⟩,e6⟩:=q;subst e1 e2;obtain⟨c1,c2,c3,c4,c5,c6,c7,c8,c9,c10,c11⟩:=ZHk;dsimp only at em e3 e5 e6;subst em e3;have Zwi:slots=#[j0,j1,j2,j3,some (.builtin n2),j5]:=by
    obtain⟨ls⟩:=slots;simp only at es;rw[es]
   subst Zwi;refine⟨tl,c4,c1,c5,c2,c6,c7,c8,c9,c10,dd,j0,j1,j2,j3,j5,h.nsMap c4,X _ _ hob,?_,PySem.W.nsMap_none_of_in X e5 e6,PySem.W.tail_of_in X e4⟩;exact .of_isNs (PySem.W.isNs_of_in X e5)
  ·cases q
 ·cases q
section
variable {X:Cx}{x:Str}{C:Addr}{np cpos pos:Pos}{e:Expr}{es:List Expr}{ta:TA}{E:XK}
def HN(hc:X.calm=true)(hg:Gl X x)(hm:X.mg x=some (.ref C))(hx:Zpy X.K C)(ha:PA X (e::es) ta)
  (hE:∀(pins:List (Addr×Obj)) (σ:L2.St) (H:Hp) (s:Shared) (ea:Addr) (vs:List Value) (h1:Heap),Inv X pins σ H s->Heap.MadeExcOf s.heap h1 ea (.ref C) vs->E (.ref C) none H->X.xe (.ref ea) { s with heap:=h1 })
  (hs:starEach (e::es) X.env=(false,eval e X.env)::starEach es X.env:=by rfl) (hpl:(backTo cpos (starEach es X.env)).any (·.1)=false:=by rfl) (hd:(x == ("__debug__":Str))=false:=by decide):
  PS X (.Raise (some (.Call (.Name x np) (e::es) [] cpos)) none pos) (JN C E ta):=by
 intro pins s σ H D I h;obtain⟨tl,N,nm,ql,bs,hdd,sn,sub,ab,col,dd,j0,j1,j2,j3,j5,mN,hC,hN,hni,T⟩:=Zt1 I.ok.mod.kin hx;refine wpAny_Raise_call_subT (C:=C) (nm:=nm) (q:=ql) (N:=N) (bs:=bs) (bm:=tl) (hdct:=hdd) (sn:=sn) (sub:=sub) (ab:=ab) (col:=col) (dd:=dd) (k0:=j0) (k1:=j1) (k2:=j2) (k3:=j3) (k5:=j5) PySem.F.excBase_ValueError (mN:=mN)
  (T.hasType PySem.F.excBase_ValueError.hasBase) (I.ok.hd hc) ?_ hni (uA I hg hm ⟨rfl,?_⟩ hd)
 ·rw[hs];show(false || (backTo cpos (starEach es X.env)).any (·.1))=false;rw[hpl];rfl
 ·have q:=ha cpos pins s σ H _ I h;rw[hs]at q ⊢;refine Calls.evalArgs_plain (jV q λus s1 ⟨vs,H1,I1,r,l1,hE1⟩=>⟨rfl,?_,I1.bk _ _ hC,hN.keeps I1.bk,T.keeps I1.bk,λh1 ea hmade=>hE pins σ H1 s1 ea _ h1 I1 hmade hE1⟩);rw[<- r.length];exact Nat.le_trans l1 (by decide)
end
end G
namespace G
open PySem L2 PySem.Spec PyProof.Rows
def Zje(CX:CXT)(X:Cx)(E:L2.St->XK):Prop:=∀(pins:List (Addr×Obj)) (σ:L2.St) (H:Hp) (s:Shared) (e:Value) (s':Shared),Inv X pins σ H s->CX X.stack H s (E σ) e s'->X.xe e s'
section
variable {X:Cx}{CX:CXT}{k:Nat}{f C:Addr}{fd:FuncData}{ps:List Str}{sp:Sp}{vP:List V}{ds:List Value}{E:L2.St->XK}{x m:Str}{p pos apos:Pos}{e o:Expr}{es:List Expr}{ta:TE}{t:TA}
def Zql{pins:List (Addr×Obj)}{σ:L2.St}{H:Hp}{s:Shared}{Q:VK}{us:List Value}{vs:List V}(F:vM X.prog X.w X.K X.mg X.base CX k f fd ps sp)(hr:Room k X.A)(hb:Binds X.K fd ps ds)(hd:Vals vP ds)(hx:Zje CX X E)
  (I:Inv X pins σ H s) (r:Vals vs us) (h:sp (vs++vP) H Q (E σ)):wpAny (model X.prog X.w) X.A (call (.ref f) us) (EP X pins σ Q) X.xe s:=by
 have r2:Vals (vs++vP) (us++ds):=r.append hd;have hl:(us++ds).length=ps.length:=by rw[<- r2.length];exact F.len _ _ _ _ h
 refine wpAny_call (codeAny_mono (F.run X.A X.stack s H ⟨us,[]⟩ (us++ds) (vs++vP) Q (E σ) hr I.env0 (hb s us I.DR hl) r2 h) λr s' hq=>?_);cases r with
 | error e=>exact hx pins σ H s e s' I hq
 | ok fl=>
  cases fl with
  | ret u=>exact I.after hq
  | next=>exact False.elim hq
  | brk=>exact False.elim hq
  | cont=>exact False.elim hq
def Zn8(F:vM X.prog X.w X.K X.mg X.base CX k f fd ps sp)(hr:Room k X.A)(hg:Gl X x)(hm:X.mg x=some (.ref f))(hk:PySem.W.keepIn X.K (.ref f)=true)(hb:Binds X.K fd ps ds)(hd:Vals vP ds)(hx:Zje CX X E)
  (ha:PA X (e::es) t) (hdb:(x == ("__debug__":Str))=false:=by decide) (he:starEach (e::es) X.env=(false,eval e X.env)::starEach es X.env:=by rfl) (hpl:(backTo pos (starEach es X.env)).any (·.1)=false:=by rfl):
  PE X (.Call (.Name x p) (e::es) [] pos) (Zeu sp vP E t):=by
 intro pins s σ H Q I h;refine wpAny_Call_Name_kw (uA I hg hm ?_ hdb);refine PySem.W.callWith_K (h₀:=X.base) I.ok.mod.kin hk (jV (ha pos pins s σ H _ I h) λus s1 ⟨vs,H1,I1,r,q⟩=>⟨I1.DR,?_⟩) he hpl;exact Zql F hr hb hd hx I1 r q
end
abbrev cxB(X:Cx)(pn:List (Addr×Obj))(xe:Value->Shared->Prop):Cx:={ X with pn:=pn,xe:=xe }
abbrev cxH(X:Cx)(ea:Value)(pn:List (Addr×Obj)):Cx:={ X with A:=X.A.mark (some ea),calm:=false,pn:=pn,xe:=λ_ _=>False }
section
variable {X:Cx}{pins:List (Addr×Obj)}{σ:L2.St}{H:Hp}{s:Shared}
def Zuz(ok:X.Ok)(pn:List (Addr×Obj))(xe:Value->Shared->Prop):(cxB X pn xe).Ok:=
 ⟨ok.mod,ok.kind,ok.glob,ok.blt,ok.above,ok.inj,ok.has,ok.cab,ok.hd,ok.frames,ok.stk,ok.exf,ok.bs,ok.bsz,ok.Zcl,ok.Zhn,ok.Bf,ok.frf⟩
def Zuy(ok:X.Ok)(ea:Value)(pn:List (Addr×Obj)):(cxH X ea pn).Ok:=
 ⟨ok.mod,ok.kind,ok.glob,ok.blt,ok.above,ok.inj,ok.has,ok.cab,λz=>(nomatch z),ok.frames,ok.stk,ok.exf,ok.bs,ok.bsz,ok.Zcl,ok.Zhn,ok.Bf,ok.frf⟩
def Zu5(I:Inv X pins σ H s)(xe:Value->Shared->Prop):Inv (cxB X (X.pn++pins) xe) [] σ H s:=
 ⟨Zuz I.ok _ _,I.os,I.bare,I.base,I.loc,I.cell,I.free,I.vh,λp hp=>I.pin p (by simpa using hp),I.hok,I.len⟩
def Rn{xe:Value->Shared->Prop}{pl:List (Addr×Obj)}(ok:X.Ok)(I:Inv (cxB X (X.pn++pins) xe) pl σ H s):Inv X pins σ H s:=
 ⟨ok,I.os,I.bare,I.base,I.loc,I.cell,I.free,I.vh,λp hp=>I.pin p (List.mem_append_left _ hp),I.hok,I.len⟩
def Zm1(I:Inv X pins σ H s)(ea:Value):Inv (cxH X ea (X.pn++pins)) [] σ H s:=
 ⟨Zuy I.ok _ _,I.os,I.bare,I.base,I.loc,I.cell,I.free,I.vh,λp hp=>I.pin p (by simpa using hp),I.hok,I.len⟩
def Zr{ea:Value}{pl:List (Addr×Obj)}(ok:X.Ok)(I:Inv (cxH X ea (X.pn++pins)) pl σ H s):Inv X pins σ H s:=
 ⟨ok,I.os,I.bare,I.base,I.loc,I.cell,I.free,I.vh,λp hp=>I.pin p (List.mem_append_left _ hp),I.hok,I.len⟩
def Zue{xe:Value->Shared->Prop}{D:Ends}{f:Flow}(ok:X.Ok)(h:SP (cxB X (X.pn++pins) xe) [] D f s):SP X pins D f s:=by
 cases f with
 | next=>obtain⟨σ',H',I,q⟩:=h;exact⟨σ',H',Rn ok I,q⟩
 | brk=>obtain⟨σ',H',I,q⟩:=h;exact⟨σ',H',Rn ok I,q⟩
 | cont=>obtain⟨σ',H',I,q⟩:=h;exact⟨σ',H',Rn ok I,q⟩
 | ret u=>obtain⟨v,σ',H',I,r,q⟩:=h;exact⟨v,σ',H',Rn ok I,r,q⟩
def Zud{ea:Value}{D:Ends}{f:Flow}(ok:X.Ok)(h:SP (cxH X ea (X.pn++pins)) [] D f s):SP X pins D f s:=by
 cases f with
 | next=>obtain⟨σ',H',I,q⟩:=h;exact⟨σ',H',Zr ok I,q⟩
 | brk=>obtain⟨σ',H',I,q⟩:=h;exact⟨σ',H',Zr ok I,q⟩
 | cont=>obtain⟨σ',H',I,q⟩:=h;exact⟨σ',H',Zr ok I,q⟩
 | ret u=>obtain⟨v,σ',H',I,r,q⟩:=h;exact⟨v,σ',H',Zr ok I,r,q⟩
def flown{ea:Addr}{cls a0:Value}{B:Heap}{H2:Hp}{s2:Shared}{h3:Heap}(I:Inv X pins σ H s)(os:s2.os=s.os)(bare:AllBare s2.gens)(un:Un (frs X.stack) [] H H2 s.heap s2.heap)(ok:Ei X.prog X.w H2 s2.heap)
  (fl:Heap.FlyingW B X.stack ea cls a0 s2.heap) (hB:∀b o,s2.heap.get? b=some o->((∃v,s.heap.get? b=some v)\/∃v,H2 b=some v)->b∉frs X.stack->B.get? b=some o)
  (st:B.StaysIn h3) (sm:s2.heap.UpToSlots h3):Inv X pins σ H2 { s2 with heap:=h3 }:=by
 have fr:∀b∈frs X.stack,H2 b=none:=λb hb=>by
  obtain⟨_,o,ho,_⟩:=I.stack.mem hb;exact un.free b o ho (I.XR b hb) (λz=>nomatch z)
 have U:=XC (P:=X.prog) (w:=X.w) (h2:=h3) un ok fr (λb o e hb hn=>st _ _ (hB b o e hb hn)) λb o e hb=>by
  obtain⟨_,o',ho',hd⟩:=fl.2.2.1.mem hb;rw[e]at ho';cases ho';exact sm b o e hd
 exact I.call' (s':={ s2 with heap:=h3 }) (ch:=[]) os U.1 U.2 bare (λb z=>nomatch z)
end
section
variable {X:Cx}{x:Str}{C:Addr}{np pos hpos:Pos}{body suite:List Stmt}{b₀:Stmt}{Mt:Value->Prop}{tb:(L2.St->XK)->TS}{th:TS}
def Zuo(hst:X.stack=X.env::X.outer/\X.env.frame=some X.env.locals)(hg:Gl X x)(hm:X.mg x=some (.ref C))(hMt:∀c,Mt c->PySem.W.exmOne X.K c (.ref C)=some true)
  (hb:∀(E:L2.St->XK) (pn:List (Addr×Obj)) (xe:Value->Shared->Prop),Zje (Tf X.prog X.w) (cxB X pn xe) E->PSs (cxB X pn xe) body (tb E))
  (hs:∀(ea:Value) (pn:List (Addr×Obj)),PSs (cxH X ea pn) (b₀::suite) th) (hd:(x == ("__debug__":Str))=false:=by decide):
  PS X (.Try body [.ExceptHandler (some (.Name x np)) none (b₀::suite) hpos] [] [] pos) (Zu6 Mt tb th):=by
 intro pins s σ H D I h;refine wpAny_Try_except ?_;have hx:Zje (Tf X.prog X.w) (cxB X (X.pn++pins) λe s'=>∃ σ H s,Inv X pins σ H s/\Tf X.prog X.w X.stack H s (λcls _ H'=>Mt cls/\th D σ H') e s') (λσ' cls _ H'=>Mt cls/\th D σ' H'):=
  λpl σ H s e s' J z=>⟨σ,H,s,Rn I.ok J,z⟩
 refine wpAny_mono (hb _ _ _ hx [] s σ H D (Zu5 I _) h) (λf s1 q=>?_) λe s1 q=>?_
 ·have q:=Zue I.ok q;cases f with
  | next=>exact wpAny_execs_nil q
  | ret v=>exact q
  | brk=>exact q
  | cont=>exact q
 ·obtain⟨σ1,H1,s0,J,ea,cls,a0,B,H2,rfl,os,bare,un,ok,fl,hB,hM,hth⟩:=q;have fl0:=fl;rw[hst.1]at fl0;refine wpAny_looks_onW (hst.1 ▸ J.ok.frames) hst.2 fl0 λh4 Zyh sm4=>?_;refine wpAny_landsW Zyh λh5 fl5 sm5=>?_;have Zx9:s1.heap.UpToSlots h5:=sm4.trans sm5;have J5:=flown J os bare un ok fl hB fl5.1 Zx9;refine wpAny_handleBy_cons (codeAny_handlers_test (uA (X:=cxH X (.ref ea) (X.pn++pins)) (Zm1 J5 (.ref ea)) hg hm ?_ hd)) (by intro z;cases z);obtain⟨ob,hob,hoc⟩:=fl5.there;have LT:PySem.W.Looks (model X.prog X.w) h5 (typeOf (.ref ea)) cls:=hoc ▸ (PySem.W.Looks.ld hob).andThen .now;refine(PySem.W.exm_one J5.DR LT (hMt cls hM)).here ?_;refine codeAny_handlers_suite ?_;refine lands_againW fl5 λh6 fl6 sm6=>?_;have J6:=flown J os bare un ok fl hB fl6.1 (Zx9.trans sm6);refine wpAny_mono (hs (.ref ea) (X.pn++pins) [] _ σ1 H2 D (Zm1 J6 (.ref ea)) hth) (λf s2 q=>Zud I.ok q) λ_ _ z=>z.elim
end
end G
namespace G
open PySem L2 PySem.Spec PyProof.Rows
section
variable {P:Program}{w:World}{K:aB}{mg:Str->Option Value}{base:Heap}{x qual:Str}{st:Stmt}{f:Addr}{fd:FuncData}{N ps:List Str}{k:Nat}{sp:Sp}
def fok(F:jw K x qual st f fd)(S:aP N ps (aF st))(len:∀vs H Q E,sp vs H Q E->vs.length=ps.length)
  (hbody:∀(cdv:Value) (A:Around) (outer:List Env) (s:Shared) (H:Hp) (vs:List V) (Q:VK) (E:XK),Room k (A.deeper (envOfC qual (aF st) s.heap.objs.size f cdv))->sp vs H Q E->
   ∃t,PSs (Mm (Tf P w) P w K mg base N qual (aF st) f cdv A outer s H E).nox (kW st) t/\t { nx:=λ_ H'=>Q .non H',rt:=Q } (start N vs) H):vM P w K mg base (Tf P w) (k+1) f fd ps sp:=by
 obtain⟨oc,od,kV,doc,pm,an,cdv,ct,osl,rfl,lk,hcd⟩:=F.ex;refine Zpa lk hcd S len λA outer s H vs Q E hr hsp=>?_;obtain⟨t,h,q⟩:=hbody cdv A outer s H vs Q E hr hsp;exact⟨t,h.nox,q⟩
def ZHj(F:jw K x qual st f fd)(S:aP N ps (aF st))(len:∀vs H Q E,sp vs H Q E->vs.length=ps.length)
  (hbody:∀(cdv:Value) (A:Around) (outer:List Env) (s:Shared) (H:Hp) (vs:List V) (Q:VK) (E:XK),Room k (A.deeper (envOfC qual (aF st) s.heap.objs.size f cdv))->sp vs H Q E->
   ∃t,PSs (Mm (Tf P w) P w K mg base N qual (aF st) f cdv A outer s H E) (kW st) t/\t { nx:=λ_ H'=>Q .non H',rt:=Q } (start N vs) H):vM P w K mg base (Tf P w) (k+1) f fd ps sp:=by
 obtain⟨oc,od,kV,doc,pm,an,cdv,ct,osl,rfl,lk,hcd⟩:=F.ex;exact Zpa lk hcd S len λA outer s H vs Q E hr hsp=>hbody cdv A outer s H vs Q E hr hsp
def Zyj(F:Zx3 K x qual st f fd)(S:aP N ps (aF st))(len:∀vs H Q E,sp vs H Q E->vs.length=ps.length)
  (hbody:∀(cdv:Value) (A:Around) (outer:List Env) (s:Shared) (H:Hp) (vs:List V) (Q:VK) (E:XK),Room k (A.deeper (envOfC qual (aF st) s.heap.objs.size f cdv))->sp vs H Q E->
   ∃t,PSs (Mm (Tf P w) P w K mg base N qual (aF st) f cdv A outer s H E) (kW st) t/\t { nx:=λ_ H'=>Q .non H',rt:=Q } (start N vs) H):vM P w K mg base (Tf P w) (k+1) f fd ps sp:=by
 obtain⟨oc,od,dV,kV,doc,pm,an,cdv,ct,osl,rfl,lk,hcd⟩:=F.ex;exact Zpa lk hcd S len λA outer s H vs Q E hr hsp=>hbody cdv A outer s H vs Q E hr hsp
end
end G
namespace G
open PySem L2 PySem.Spec PyProof.Rows
structure ZI6(K:aB)(C:Addr):Prop where
 ga:PySem.W.findIn K (.ref C) "__getattribute__"=some (some (.builtin "BaseException.__getattribute__"))
 no:PySem.W.findIn K (.ref C) "__getattr__"=some none
 cl:PySem.W.findIn K (.ref C) "__class__"=some (some (.builtin "object.__class__"))
 so:PySem.W.mroIn K C (.type "object")=some true
 sb:PySem.W.mroIn K C (.type "BaseException")=some true
 is:PySem.W.hasDictIn K C=true
section
variable {prog:Program}{w:World}{A:Around}{E:Value->Shared->Prop}{h:Heap}{g:Array GenState}{d:Drawn}{t:Nat}{os:OsState}{a:Addr}{o:Obj}{C:Addr}{K:aB}
end
section
variable {X:Cx}
def Bj:Oc X (.type "list") (Mp X.K):=by
 intro pins s σ H xs us Q I r h;obtain⟨p,ys,rfl,hs,q⟩:=h;exact Jz pins s σ H [.ref p] us Q I r ⟨p,ys,rfl,.inl hs,q⟩
def Xo{xs ys:List V}{us ws:List Value}(rx:Vals xs us)(ry:Vals ys ws)(fx:xs.all pW=true)(fy:ys.all pW=true)(hl:xs.length=ys.length):
  (∀(A:Around) (s:Shared) (j:Nat) (h1:j<us.toArray.size) (h2:j<ws.toArray.size),SeqAt.EqAt A s us.toArray[j] ws.toArray[j] (match xs[j]?,ys[j]? with | some a,some b=>Xn a b | _,_=>false))/\
  (List.range us.toArray.size).all (λj=>match xs[j]?,ys[j]? with | some a,some b=>Xn a b | _,_=>false)=eqL xs ys:=by
 refine⟨λA s j h1 h2=>?_,?_⟩
 ·rw[List.size_toArray]at h1 h2;have l1:=rx.length;have l2:=ry.length;have a1:xs[j]? =some xs[j]:=bL (by omega);have a2:ys[j]? =some ys[j]:=bL (by omega);obtain⟨u,e1,r1⟩:=rx.get a1;obtain⟨w',e2,r2⟩:=ry.get a2;rw[bL h1]at e1;rw[bL h2]at e2;cases e1;cases e2;rw[a1,a2];exact Bh r1 r2 (List.all_eq_true.mp fx _ (List.getElem_mem (by omega))) (List.all_eq_true.mp fy _ (List.getElem_mem (by omega)))
 ·rw[List.size_toArray,<- rx.length];unfold eqL;rw[beq_iff_eq.mpr hl,Bool.true_and,Bool.eq_iff_iff,List.all_eq_true,List.all_eq_true];constructor
  ·intro h p hp;obtain⟨j,hj,e⟩:=List.getElem_of_mem hp;rw[List.length_zip]at hj;have:=h j (List.mem_range.mpr (by omega));rw[bL (show j<xs.length by omega),bL (show j<ys.length by omega)]at this;rw[List.getElem_zip]at e;rw[<- e];exact this
  ·intro h j hj;have hj:=List.mem_range.mp hj;rw[bL (show j<xs.length by omega),bL (show j<ys.length by omega)];have hz:j<(xs.zip ys).length:=by rw[List.length_zip];omega
   have:=h _ (List.getElem_mem hz);rw[List.getElem_zip]at this;exact this
def Zj0{xs ys:List V}(h:xs.length≠ys.length):eqL xs ys=false:=by
 unfold eqL;rw[show(xs.length == ys.length)=false by simpa using h,Bool.false_and]
def Zuv(hu:X.A.units+1<cLine):yW X (compareOp .Eq) (Zjx X.K false):=by
 intro pins s σ H x y v u Q I rx ry h;obtain⟨p,q',xs,ys,rfl,rfl,hx,hy,ff,q⟩:=h;cases rx;cases ry;obtain⟨us,r1,pl1,_⟩:=I.list hx;obtain⟨ws,r2,pl2,_⟩:=I.list hy;have hu':X.A.units<cLine:=by omega
 by_cases hl:xs.length=ys.length
 ·obtain⟨e1,e2⟩:=Xo r1 r2 (ff hl).1 (ff hl).2 hl;refine SeqAt.eq_listAt pl1.isList pl2.isList (by rw[List.size_toArray,List.size_toArray,<- r1.length,<- r2.length];exact hl) hu' (λj h1 h2=>e1 _ _ j h1 h2) ?_;rw[e2];exact⟨.bl _,H,I,rfl,q⟩
 ·refine SeqAt.eq_list_lengthsAt pl1.isList pl2.isList ?_ hu' ?_
  ·rw[List.size_toArray,List.size_toArray,<- r1.length,<- r2.length];simpa using hl
  ·refine⟨.bl _,H,I,rfl,?_⟩;have:=q;rw[Zj0 hl]at this;exact this
end
end G
namespace G
open PySem L2 PySem.Spec PyProof.Rows
def Zng:fastBuiltinMro "NoneType"=some [.type "NoneType",.type "object"]:=by decide +kernel
section
variable {K:aB}{A:Around}{a C:Addr}{o:Obj}
def Zwj{M:Model}{E:Value->Shared->Prop}{s:Shared}{Q:Unit->Shared->Prop}(LI:PySem.W.Looks M s.heap (isInstance (.ref a) (.type "object")) true)(hq:Q () s):wpAny M A (checkBuiltinCall "object.__eq__" ⟨[.ref a,.none],[]⟩) Q E s:=by
 have ha:=PySem.F.cmpArgs_eq (.ref a) .none;simp only[checkBuiltinCall,PySem.F.cmpKind_eq,PySem.F.cmpSplit_eq];refine wpAny_bind (LI.here ?_);simp only[Bool.not_true,Bool.false_eq_true,if_false];cases hsig:Manifest.signature? "object.__eq__" with
 | none=>exact wpAny_pure hq
 | some sig=>
  simp only[argsOk,hsig]at ha;have h2:Bind.checkArgs "object.__eq__" sig ⟨[.ref a,.none],[]⟩=pure ():=ha;show wpAny M A (Bind.checkArgs "object.__eq__" sig ⟨[.ref a,.none],[]⟩) Q E _;rw[h2];exact wpAny_pure hq
def Zt3{prog:Program}{w:World}{E:Value->Shared->Prop}{s:Shared}{Q:Value->Shared->Prop}(LI:PySem.W.Looks (model prog w) s.heap (isInstance (.ref a) (.type "object")) true)(hq:Q .notImplemented s):
  wpAny (model prog w) A (call (.builtin "object.__eq__") [.ref a,.none]) Q E s:=by
 refine wpAny_call (codeAny_call_builtin PySem.F.cmp_object.eq.plain PySem.F.cmpEntry_eq (Zwj LI ?_));obtain⟨h,g,d,t,os⟩:=s;unfold Builtin.«object.__eq__»
 repeat (first | with_reducible refine wpAny_bind (m:=isSame (.ref a) .none) (wpAny_pure ?_) | wp_step)
 exact hq
def Zu3{prog:Program}{w:World}{E:Value->Shared->Prop}{s:Shared}{Q:Option Value->Shared->Prop}(X:K.In s.heap)(hx:s.heap.get? a=some o)(hc:o.cls=.ref C)(hE:EqD K C)(hq:Q none s):
  wpAny (model prog w) A (tryCompare (.ref a) "__eq__" .none) Q E s:=by
 have LT:PySem.W.Looks (model prog w) s.heap (typeOf (.ref a)) (.ref C):=hc ▸ (PySem.W.Looks.ld hx).andThen .now;have LI:PySem.W.Looks (model prog w) s.heap (isInstance (.ref a) (.type "object")) true:=LT.andThen (PySem.W.looks_mroIn X hE.ob);have LS:PySem.W.Looks (model prog w) s.heap (specialOf (.ref a) "__eq__") (some (.builtin "object.__eq__")):=LT.andThen (PySem.W.looks_findIn X hE.eq);simp only[tryCompare];refine wpAny_bind ?_;simp only[callSpecialIfBound?,bindSpecialIfBound?];refine wpAny_holding (wpAny_bind (wpAny_bind (LS.here ?_)));simp only[PySem.F.cmp_object.eq.bind];have fin:wpAny (model prog w) A (call (.builtin "object.__eq__") ([.ref a]++[.none]) >>= λv=>pure (some v)) (λr s'=>wpAny (model prog w) A (match r with | some .notImplemented | none=>pure none | some v=>pure (some v)) Q E s') E s:=
  wpAny_bind (Zt3 LI (wpAny_pure (wpAny_pure hq)))
 refine wpAny_bind (wpAny_askSetting (wpAny_ite ?_));split
 ·exact wpAny_bind (wpAny_pure (wpAny_pure fin))
 ·exact wpAny_tryCatch (wpAny_bind (wpAny_pure (wpAny_pure fin)))
def Zqo{s:Shared}(X:K.In s.heap)(hx:s.heap.get? a=some o)(hc:o.cls=.ref C)(hE:EqD K C)(hu:A.units<cLine):SeqAt.RcAt A s (.ref a) .none false:=λprog w E Q h=>by
 have LT:PySem.W.Looks (model prog w) s.heap (typeOf (.ref a)) (.ref C):=hc ▸ (PySem.W.Looks.ld hx).andThen .now;have hi:cmpInfo CmpOp.Eq=("==",("__eq__":Str),("__eq__":Str)):=rfl;have ho:oneThing? .Eq (.ref a) .none=none:=rfl;simp only[richCompare,hi,ho]
 try with_reducible refine wpAny_holding ?_
 refine wpAny_bind (wpAny_cRoomFor_or (.inr hu) ?_);refine wpAny_bind (LT.here (wpAny_bind (m:=typeOf .none) (wpAny_pure ?_)));have hne:(Value.ref C != Value.type "NoneType")=true:=by simp
 simp only[hne,if_true];have hs:isSubtype (.type "NoneType") (.ref C)=pure false:=by
  rw[isSubtype_type,Zng];rfl
 refine wpAny_bind (wpAny_of_eq hs ?_);simp only[Bool.false_eq_true,if_false,Bool.not_false,if_true];refine wpAny_bind (m:=tryCompare (.ref a) _ .none) (Zu3 X hx hc hE ?_);refine wpAny_bind (m:=tryCompare .none _ (.ref a)) (wpAny_tryCompare_declines (T:="NoneType") rfl PySem.F.slot_NoneType_eq_refl (call_gives PySem.F.slot_NoneType_eq_refl rfl PySem.F.entry_NoneType_eq (PySem.F.args_NoneType_eq_2 _ _) (SeqAt.NoneType___eq___none_ref_0 a) ⟨rfl,?_⟩));exact wpAny_bind (wpAny_rule (wpAny_bind (wpAny_of_eq (rfl:isSame (.ref a) .none=pure false) (wpAny_pure h))))
def Zt2{s:Shared}(X:K.In s.heap)(hx:s.heap.get? a=some o)(hc:o.cls=.ref C)(hE:EqD K C)(hu:A.units<cLine):SeqAt.EqAt A s (.ref a) .none false:=λprog w E Q h=>by
 unfold eqBool;refine wpAny_holding ?_;refine wpAny_ite_split (λhab=>absurd (eq_of_beq hab) nofun) (λ_=>?_);exact wpAny_bind (Zqo X hx hc hE hu prog w E _ (wpAny_truthy_bool h))
end
section
variable {X:Cx}
def Dy(u:Value):Bool:=match u with
 | .none=>true
 | _=>false
def Zck{H:Hp}{y:V}{u:Value}(r:RelV y u)(h:y=.non\/∃a C dx fs,y=.ref a/\H a=some (.ins C dx fs)/\Gf X.K C/\EqD X.K C):Dy u=decide (y=.non):=by
 rcases h with rfl | ⟨a,_,_,_,rfl,_⟩
 ·obtain rfl:u=Value.none:=r;rfl
 ·obtain rfl:u=Value.ref a:=r;rfl
def Zni{pins:List (Addr×Obj)}{σ:L2.St}{H:Hp}{s:Shared}{A:Around}{y:V}{u:Value}(I:Inv X pins σ H s)(hu:A.units<cLine)(r:RelV y u)(h:y=.non\/∃a C dx fs,y=.ref a/\H a=some (.ins C dx fs)/\Gf X.K C/\EqD X.K C):SeqAt.EqAt A s u .none (Dy u):=by
 rcases h with rfl | ⟨a,C,dx,fs,rfl,ha,hc,he⟩
 ·obtain rfl:u=Value.none:=r;exact SeqAt.EqAt.same .none
 ·obtain rfl:u=Value.ref a:=r;obtain⟨_,_,_,e,_⟩:=(show kE X.prog X.w H s.heap a (.ins C dx fs)from I.hok a _ ha);exact Zt2 I.DR e rfl he hu
def Zcj{H:Hp}:∀{xs:List V}{us:List Value},Vals xs us->OkN X.K H xs->us.any Dy=decide (V.non∈xs)
 | _,_,.nil,_=>rfl
 | y::xs,u::us,.cons r t,h=>by
  rw[List.any_cons,Zcj t λz hz=>h z (List.mem_cons_of_mem _ hz),Zck r (h y List.mem_cons_self),Bool.eq_iff_iff];simp only[Bool.or_eq_true,decide_eq_true_eq,List.mem_cons];constructor
  ·rintro(z | z)
   ·exact .inl z.symm
   ·exact .inr z
  ·rintro(z | z)
   ·exact .inl z.symm
   ·exact .inr z
def Zch{H:Hp}{pins:List (Addr×Obj)}{σ:L2.St}{s:Shared}{A:Around}{xs:List V}{us:List Value}(I:Inv X pins σ H s)(hu:A.units<cLine)(r:Vals xs us)(h:OkN X.K H xs):∀u∈us,SeqAt.EqAt A s u .none (Dy u):=by
 intro u hm;obtain⟨i,hi,rfl⟩:=List.getElem_of_mem hm;have hl:=r.length;have hx:xs[i]? =some xs[i]:=bL (by omega);obtain⟨u',e,ru⟩:=r.get hx;rw[bL hi]at e;cases e;exact Zni I hu ru (h _ (List.getElem_mem (by omega)))
def Zk5(hu:X.A.units+1<cLine):yW X (compareOp .NotIn) (Zum X.K true):=by
 intro pins s σ H x y v u Q I rx ry h;obtain⟨p,xs,rfl,rfl,hs,hk,q⟩:=h;obtain rfl:v=Value.none:=rx;cases ry;obtain⟨us,r,pl,_⟩:=I.list hs;refine SeqAt.notIn_listAt Dy pl.isList (λw hw=>Zch I (by show X.A.units+1<cLine;exact hu) r hk w (by simpa using hw)) ⟨.bl _,H,I,rfl,?_⟩;rw[show us.toArray.any Dy=us.any Dy by simp,Zcj r hk];exact q
def Zci{H:Hp}{xs:List V}{us:List Value}(r:Vals xs us)(h:OkN X.K H xs)(j:Nat)(hj:j<us.length)(hj':j<xs.length):Dy us[j]=decide (xs[j]=V.non):=by
 obtain⟨u',e,ru⟩:=r.get (bL hj');rw[bL hj]at e;cases e;exact Zck ru (h _ (List.getElem_mem hj'))
def Zkd(hu:X.A.units+1<cLine):MtR X "list.index" (Zii X.K):=by
 intro pins s σ H x xs v us Q I rx rs h;obtain⟨p,ys,rfl,rfl,hs,hk,hn,q⟩:=h;obtain rfl:v=Value.ref p:=rx;obtain⟨u,rfl,ru⟩:=Vals.one rs;obtain rfl:u=Value.none:=ru;obtain⟨ws,r,pl,hz⟩:=I.list hs;obtain⟨⟨cls,dd,data,sl⟩,ho,hc,n,hd⟩:=pl.isList;simp only at hc hd;subst hc hd;have hl:=r.length;have hj:ys.idxOf V.non<ys.length:=List.idxOf_lt_length_iff.mpr hn;have hz2:ys.length<2 ^ 62:=Nat.lt_of_le_of_lt hz (by decide);refine call_meets PySem.F.slot_list_index ⟨_,ho,rfl⟩ PySem.F.entry_list_index (PySem.F.args_list_index_2 _ _)
  (SeqAt.list_indexAt p ws.toArray n dd sl .none Dy (ys.idxOf V.non) (by simpa[hl]using hj) (by omega) ?_ ?_) ⟨ho,λy hy=>Zch I (by show X.A.units+1<cLine;exact hu) r hk y (by simpa using hy),⟨.int _,H,I.tok _,⟨_,rfl⟩,q⟩⟩
 ·show Dy ws[ys.idxOf V.non]=true;rw[Zci r hk _ (by omega) hj,decide_eq_true_eq];exact List.getElem_idxOf hj
 ·intro j hjs hlt;show Dy ws[j]=false;rw[Zci r hk j (by simpa using hjs) (by omega),decide_eq_false_iff_not];intro e;have:=List.not_of_lt_findIdx (p:=(· == V.non)) (xs:=ys) hlt;simp[e]at this
def Zus(hu:X.A.units+1<cLine):yW X (compareOp .NotEq) (Zjx X.K true):=by
 intro pins s σ H x y v u Q I rx ry h;obtain⟨p,q',xs,ys,rfl,rfl,hx,hy,ff,q⟩:=h;cases rx;cases ry;obtain⟨us,r1,pl1,_⟩:=I.list hx;obtain⟨ws,r2,pl2,_⟩:=I.list hy;have hu':X.A.units<cLine:=by omega
 by_cases hl:xs.length=ys.length
 ·obtain⟨e1,e2⟩:=Xo r1 r2 (ff hl).1 (ff hl).2 hl;refine SeqAt.RcNeAt.lists pl1.isList pl2.isList (by rw[List.size_toArray,List.size_toArray,<- r1.length,<- r2.length];exact hl) hu' (λj h1 h2=>e1 _ _ j h1 h2) X.prog X.w X.xe _ ?_;rw[e2];exact⟨.bl _,H,I,rfl,q⟩
 ·refine SeqAt.RcNeAt.lists_lengths pl1.isList pl2.isList ?_ hu' X.prog X.w X.xe _ ?_
  ·rw[List.size_toArray,List.size_toArray,<- r1.length,<- r2.length];simpa using hl
  ·refine⟨.bl _,H,I,rfl,?_⟩;have:=q;rw[Zj0 hl]at this;exact this
end
end G
namespace G
open PySem L2
def JQ(C:Addr):TE:=λ_ H Q=>∀x dx,H x=none->H dx=none->dx≠x->Q (.ref x) (upd (upd H dx (.own x)) x (.ins C dx []))
def Zsa{C:Addr}{σ:St}{H:Hp}{Q:VK}(h:∀x dx,H x=none->H dx=none->dx≠x->Q (.ref x) (upd (upd H dx (.own x)) x (.ins C dx []))):JQ C σ H Q:=h
def JP(t u:TE):TE:=λσ H Q=>t σ H Q\/u σ H Q
def W8{t u:TE}{σ:St}{H:Hp}{Q:VK}(h:t σ H Q):JP t u σ H Q:=.inl h
def Jj{t u:TE}{σ:St}{H:Hp}{Q:VK}(h:u σ H Q):JP t u σ H Q:=.inr h
end G
namespace G
open PySem L2 PySem.Spec PyProof.Rows
section
variable {X:Cx}
def wu{e:Expr}{t u:TE}(h1:PE X e t)(h2:PE X e u):PE X e (JP t u):=by
 intro pins s σ H Q I h;rcases h with h | h
 ·exact h1 pins s σ H Q I h
 ·exact h2 pins s σ H Q I h
structure Mk0(K:aB)(C:Addr):Prop where
 makes:PySem.W.makesIn K C=true
 init:PySem.W.findIn K (.ref C) "__init__"=some (some (.builtin "object.__init__"))
 kp:PySem.W.keepIn K (.ref C)=true
def Zfq{C:Addr}{pins:List (Addr×Obj)}{σ:L2.St}{H:Hp}{s:Shared}{Q:VK}(M:Mk0 X.K C)(I:Inv X pins σ H s)
  (h:∀x dx,H x=none->H dx=none->dx≠x->Q (.ref x) (upd (upd H dx (.own x)) x (.ins C dx []))):wpAny (model X.prog X.w) X.A (call (.ref C) []) (EP X pins σ Q) X.xe s:=by
 have hq:=h (s.heap.objs.size+1) s.heap.objs.size (I.hok.fresh (Nat.le_succ _)) (I.hok.fresh (Nat.le_refl _)) (Nat.ne_of_lt (Nat.lt_succ_self _));have I2:=Inv.made (C:=C) I;have Y:=PySem.W.makes_of (M:=model X.prog X.w) I.DR M.makes;refine wpAny_call (Zke I.DR M.makes M.init (λself=>PySem.W.Looks.of_pure (PySem.W.oi_bind self)) ?_);have e2:((s.heap.push PySem.W.emptyDict).push (PySem.W.instObj C s.heap.objs.size)).get? (s.heap.objs.size+1)=some (PySem.W.instObj C s.heap.objs.size):=by
  have:=Heap.get?_push_size (s.heap.push PySem.W.emptyDict) (o:=PySem.W.instObj C s.heap.objs.size) rfl;rw[Heap.size_push]at this;exact this
 have t1:PySem.W.Looks (model X.prog X.w) ((s.heap.push PySem.W.emptyDict).push (PySem.W.instObj C s.heap.objs.size)) (typeOf (.ref (s.heap.objs.size+1))) (.ref C):=(PySem.W.Looks.ld e2).andThen .now;have t2:PySem.W.Looks (model X.prog X.w) ((s.heap.push PySem.W.emptyDict).push (PySem.W.instObj C s.heap.objs.size)) (isInstance (.ref (s.heap.objs.size+1)) (.type "object")) true:=t1.andThen (Y.top.keeps λb o e=>Heap.get?_push_of_some _ (Heap.get?_push_of_some _ e));refine codeAny_call_builtin PySem.W.oi_plain PySem.W.entry_oi (@PySem.W.check_slot (model X.prog X.w) _ _ _ "object.__init__" "object" "__init__" (.ref (s.heap.objs.size+1)) [] [] _ PySem.W.oi_kind PySem.W.oi_split t2 (PySem.W.oi_args (.ref (s.heap.objs.size+1))) ?_);rw[PySem.W.oi_run];exact wpAny_pure (And.intro rfl ⟨V.ref (s.heap.objs.size+1),_,I2,rfl,hq⟩)
def Ks{C:Addr}{x:Str}{p pos:Pos}(M:Mk0 X.K C)(hg:Gl X x)(hm:X.mg x=some (.ref C))(hdb:(x == ("__debug__":Str))=false:=by decide):PE X (.Call (.Name x p) [] [] pos) (JQ C):=by
 intro pins s σ H Q I h;refine wpAny_Call_Name_kw (uA I hg hm ?_ hdb);exact PySem.W.callWith_K0 I.DR M.kp (Zfq M I h)
structure ZI5(K:aB)(C:Addr):Prop where
 pg:PySem.W.plainGet K C "__class__"=true
 hd:PySem.W.hasDictIn K C=true
 cl:PySem.W.findIn K (.ref C) "__class__"=some (some (.builtin "object.__class__"))
 sp:PySem.W.specialIn K (.builtin "object.__class__") "__get__"=some (some (.builtin "getset_descriptor.__get__"))
 tk:PySem.W.takesIn K (.builtin "object.__class__")=some true
 so:PySem.W.mroIn K C (.type "object")=some true
end
end G
namespace G
open PySem L2
end G
namespace G
open PySem L2 PySem.Spec PyProof.Rows
end G
namespace G
open PySem L2 PySem.Spec PyProof.Rows
def Ze7(w:World):List DictEntry->List (Str×Addr)->Prop
 | [],[]=>True
 | e::es,p::t=>e.hash=hashStr w p.1/\(∃tk,e.key=.str p.1 tk)/\e.val=.ref p.2/\Ze7 w es t
 | _,_=>False
def Tab(K:aB)(w:World)(mg:Str->Option Value)(nm:Str)(Qj:List (Str×Addr)):Prop:=
 ∃dd o es ep,mg nm=some (.ref dd)/\K.lookup dd=some o/\o.ExactDict/\o.data=.dict es ep/\Ze7 w es.toList Qj
def Ze7.keys{prog:Program}{w:World}:∀{es:List DictEntry}{Qj:List (Str×Addr)},Ze7 w es Qj->∀e∈es,∃k,(strKind prog w).is k e.key=true/\e.hash=(strKind prog w).hash k
 | [],_,_=>λe he=>absurd he List.not_mem_nil
 | e::es,[],h=>h.elim
 | e::es,p::t,h=>λx hx=>by
  obtain⟨h1,⟨tk,h2⟩,_,h4⟩:=h;rcases List.mem_cons.mp hx with rfl | hx
  ·refine⟨p.1,?_,h1⟩;rw[h2];show Value.isStrOf p.1 (.str p.1 tk)=true;simp[Value.isStrOf]
  ·exact Ze7.keys h4 x hx
def Ze7.find{w:World}:∀{es:List DictEntry}{Qj:List (Str×Addr)}{k:Str}{f:Addr},Ze7 w es Qj->Qj.lookup k=some f->(es.find? λe=>Value.isStrOf k e.key).map (·.val)=some (.ref f)
 | [],[],_,_,_,h=>by cases h
 | [],_::_,_,_,h,_=>h.elim
 | _::_,[],_,_,h,_=>h.elim
 | e::es,p::t,k,f,h,hl=>by
  obtain⟨_,⟨tk,h2⟩,h3,h4⟩:=h;rw[List.find?_cons,h2]
  by_cases hk:k=p.1
  ·subst hk;have e1:Value.isStrOf p.1 (.str p.1 tk)=true:=by simp[Value.isStrOf]
   rw[e1];have e2:List.lookup p.1 (p::t)=some p.2:=by
    obtain⟨a,b⟩:=p;simp[List.lookup]
   rw[e2]at hl;cases hl;show some e.val=_;rw[h3]
  ·have e1:Value.isStrOf k (.str p.1 tk)=false:=by
    simp only[Value.isStrOf,beq_eq_false_iff_ne,ne_eq];exact λz=>hk z.symm
   rw[e1];have e2:List.lookup k (p::t)=List.lookup k t:=by
    obtain⟨a,b⟩:=p;simp only[List.lookup];rw[beq_eq_false_iff_ne.mpr hk]
   rw[e2]at hl;exact Ze7.find h4 hl
def Zq3(Qj:List (Str×Addr))(ti:TE):TE:=λσ H Q=>ti σ H λy H1=>∃k f,y=.str k/\Qj.lookup k=some f/\Q (.ref f) H1
def Zxx{Qj:List (Str×Addr)}{ti:TE}{σ:L2.St}{H:Hp}{Q:VK}(h:ti σ H λy H1=>∃k f,y=.str k/\Qj.lookup k=some f/\Q (.ref f) H1):Zq3 Qj ti σ H Q:=h
def Zn1{X:Cx}{nm:Str}{Qj:List (Str×Addr)}{i:Expr}{ti:TE}{p pos:Pos}(T:Tab X.K X.w X.mg nm Qj)(hg:Gl X nm)(hi:PE X i ti)(hs:Ztd i)(hd:(nm == ("__debug__":Str))=false:=by decide):
  PE X (.Subscript (.Name nm p) i pos) (Zq3 Qj ti):=by
 intro pins s σ H Q I h;obtain⟨dd,o,es,ep,hm,hk,ho,hda,te⟩:=T;refine Zif PySem.F.slot_dict_getitem.lookup hs (uA I hg hm ?_ hd);refine jV (hi pins s σ H _ I h) λiv s2 ⟨y,H2,I2,ry,k,f,ey,l,q2⟩=>?_;subst ey;have hh:=I2.DR dd o hk;refine⟨⟨o,hh,ho.1⟩,?_⟩;obtain⟨tk,rfl⟩:∃tk,iv=.str k tk:=ry;refine wpAny_getItem_of (knd:=strKind X.prog X.w) (k:=k) (f:=λk=>findBy Value.isStrOf es k) (by show Value.isStrOf k (.str k tk)=true;simp[Value.isStrOf]) ⟨o,es,ep,hh,ho,hda,λe he=>te.keys e (by simpa using he),λ_=>rfl⟩ (v:=.ref f) ?_ ⟨.ref f,H2,I2.tok _,rfl,q2⟩;show Option.map (λx=>x.val) (Array.find? (λe=>Value.isStrOf k e.key) es)=_;rw[<- Array.find?_toList];exact te.find l
def Tj(P:Program)(w:World)(K:aB)(mg:Str->Option Value)(base:Heap)(CX:CXT)(k:Nat)(ps:List Str)(L:List (Addr×Sp)):Prop:=
 ∀f sp,(f,sp)∈L->∃k' fd,k'<=k/\vM P w K mg base CX k' f fd ps sp/\PySem.W.keepIn K (.ref f)=true/\L2.Binds K fd ps []
def Tj.nil{P:Program}{w:World}{K:aB}{mg:Str->Option Value}{base:Heap}{CX:CXT}{k:Nat}{ps:List Str}:Tj P w K mg base CX k ps []:=λ_ _ h=>absurd h List.not_mem_nil
def Tj.cons{P:Program}{w:World}{K:aB}{mg:Str->Option Value}{base:Heap}{CX:CXT}{k k':Nat}{ps:List Str}{L:List (Addr×Sp)}{f:Addr}{fd:FuncData}{sp:Sp}(hk:k'<=k)(F:vM P w K mg base CX k' f fd ps sp)(hb:L2.Binds K fd ps [])(hp:PySem.W.keepIn K (.ref f)=true)(t:Tj P w K mg base CX k ps L):Tj P w K mg base CX k ps ((f,sp)::L):=λg sp' h=>by
 rcases List.mem_cons.mp h with e | h
 ·cases e;exact⟨k',fd,hk,F,hp,hb⟩
 ·exact t g sp' h
def XN(i:Nat)(L:List (Addr×Sp))(E:XK)(t:TA):TE:=λσ H Q=>∃f sp,σ[i]? =some (some (.ref f))/\(f,sp)∈L/\t σ H λvs H1=>sp vs H1 Q E
def nJ{i:Nat}{L:List (Addr×Sp)}{E:XK}{t:TA}{σ:L2.St}{H:Hp}{Q:VK}{f:Addr}(sp:Sp)(hf:σ[i]? =some (some (.ref f)))(hm:(f,sp)∈L)(h:t σ H λvs H1=>sp vs H1 Q E):XN i L E t σ H Q:=⟨f,sp,hf,hm,h⟩
def Zbz{X:Cx}{CX:CXT}{k i:Nat}{ps:List Str}{L:List (Addr×Sp)}{x:Str}{E:XK}{e:Expr}{es:List Expr}{t:TA}{p pos:Pos}(F:Tj X.prog X.w X.K X.mg X.base CX k ps L)(hr:Room k X.A)(hN:X.N[i]? =some x)(hv:Vis X.env.scope x)(hx:Passes CX X E)
  (ha:PA X (e::es) t) (hd:(x == ("__debug__":Str))=false:=by decide) (hcd:(x == ("__classdict__":Str))=false:=by decide) (he:starEach (e::es) X.env=(false,eval e X.env)::starEach es X.env:=by rfl) (hpl:(backTo pos (starEach es X.env)).any (·.1)=false:=by rfl):
  PE X (.Call (.Name x p) (e::es) [] pos) (XN i L E t):=by
 intro pins s σ H Q I h;obtain⟨f,sp,ef,hm,h⟩:=h;obtain⟨k',fd,hk,FO,hp,hb⟩:=F f sp hm;refine wpAny_Call_Name_kw (jV (Zn0 hN hv hd hcd pins s σ H (λv H'=>v=.ref f/\H'=H) I ⟨_,ef,rfl,rfl⟩) λu s1 ⟨v,H1,I1,r,e1,e2⟩=>?_);subst e1 e2;obtain rfl:u=Value.ref f:=r;refine PySem.W.callWith_K (h₀:=X.base) I1.ok.mod.kin hp (jV (ha pos pins s1 σ H1 _ I1 h) λus s2 ⟨vs,H2,I2,r2,q2⟩=>⟨I2.DR,?_⟩) he hpl;refine YG (vP:=[]) FO (hr.mono hk) hb .nil hx I2 r2 ?_;rw[List.append_nil];exact q2
section
variable {σ:L2.St}{H:Hp}{Q:VK}{td ty tv:TE}{n bk ct:L2.St->Hp->Prop}{r:VK}
def Zw6(h:td σ H λx H1=>ty σ H1 λy H2=>∃a v,x=.ref a/\MP H2 a y (some v)/\Q v H2):Ql td ty σ H Q:=h
def Zop(h:ty σ H λy H1=>td σ H1 λx H2=>∃a o,x=.ref a/\MP H2 a y o/\Q (.bl (!o.isSome)) H2):XM ty td σ H Q:=h
def Zw4(h:tv σ H λv H1=>td σ H1 λx H2=>ty σ H2 λy H3=>∃a H4,x=.ref a/\V7 H3 a y v H4/\n σ H4):QL td ty tv ⟨n,r,bk,ct⟩ σ H:=h
def Zpo{a:Addr}{kvs:List (L2.Key×V)}{z:Str}(e:H a=some (.dK kvs)):MP H a (.str z) (nP kvs (Sum.inr z)):=MP.k (k:=Sum.inr z) e
def Zyn{a:Addr}{kvs:List (L2.Key×V)}{z:Str}{v:V}(e:H a=some (.dK kvs))(hl:kvs.length<sizeLine):V7 H a (.str z) v (upd H a (.dK (putK kvs (Sum.inr z) v))):=V7.k (k:=Sum.inr z) e hl
end
end G
namespace G
open PySem L2 PySem.Spec PyProof.Rows
def Zte(K:aB)(J:It)(caps:List Nat)(tc:TT)(te:TE)(σ:L2.St)(H1:Hp)(Q:VK):Prop:=∃W:Nat->Nat->List V->Hp->Prop,(∃m,W 0 m [] H1)/\∀i m ys H,W i m ys H->
 (J.stop i H/\∀p,H p=none->Q (.ref p) (upd H p (.lst ys)))\/
 (J.go i H/\ys.length<sizeLine/\∀x H',J.yld i H x H'->∃a u v,x=.ref a/\gZ K H' a [u,v]/\tc (some u::some v::caps.map (pick σ)) H' λk H2=>if k=true then te (some u::some v::caps.map (pick σ)) H2 (λy H3=>∃m',m'<m/\W (i+1) m' (ys++[y]) H3)else ∃m',m'<m/\W (i+1) m' ys H2)
def Zm7(K:aB)(wi:TI)(caps:List Nat)(tc:TT)(te:TE):TE:=λσ H Q=>wi σ H λJ H1=>Zte K J caps tc te σ H1 Q
def Zvv{K:aB}{wi:TI}{caps:List Nat}{tc:TT}{te:TE}{σ:L2.St}{H:Hp}{Q:VK}(h:wi σ H λJ H1=>Zte K J caps tc te σ H1 Q):Zm7 K wi caps tc te σ H Q:=h
def Zz2(K:aB)(te:TE):TE:=λσ H Q=>∃a u v r,σ=some (.ref a)::r/\gZ K H a [u,v]/\te (some u::some v::r) H Q
def Zis{K:aB}{J:It}{caps:List Nat}{te:TE}{σ:L2.St}{H:Hp}{Q:VK}(h:LCg J caps vW (Zz2 K te) σ H Q):Zte K J caps vW te σ H Q:=by
 obtain⟨W,w0,step⟩:=h;refine⟨W,w0,λi m ys H hw=>?_⟩;rcases step i m ys H hw with z | ⟨g,l,st⟩
 ·exact .inl z
 ·refine .inr ⟨g,l,λx H' y=>?_⟩;have h1:=st x H' y;simp only[vW,↓reduceIte]at h1;obtain⟨a,u,v,r,e,hs,q⟩:=h1;cases e;refine⟨a,u,v,rfl,hs,?_⟩;simp only[vW,↓reduceIte];exact q
def Zg2{X:Cx}{elt iter:Expr}{x y:Str}{px py pt pos:Pos}{kt:Nat}{ifs:List Expr}{scope:Scope}{cl:List (Str×Addr)}{wi:TI}{tc:TT}{te:TE}{cns:List Str}(caps:List Nat)
  (hi:PI X (.Tuple [.Name x px,.Name y py] kt pt) iter wi)
  (hf:∀C s H ex pn,PF (Zdy X scope cl (x::y::cns) C s H ex pn) ifs tc) (he:∀C s H ex pn,PE (Zdy X scope cl (x::y::cns) C s H ex pn) elt te) (hc:X.calm=true)
  (hclos:closureFor scope X.env=pure cl) (hcl:AllIn X.env.cells cl) (hcap:Gg X cns caps)
  (hkind:scope.kind=.function) (hcell:(scope.names.all λp=>p.2 != .cell)=true) (hfree:(scope.names.all λp=>p.2 != .free || (cl.lookup p.1).isSome)=true)
  (hcf:(cns.all λy=>scope.names.lookup y == some .free)=true) (hnames:∀y∈scope.names,y.2=.local->scope.names.lookup y.1=some .local) (hx:scope.names.lookup x=some .local) (hy:scope.names.lookup y=some .local) (hnd:(x::y::cns).Nodup)
  (hs:∀v,foldedSetIterable iter X.env v=pure v:=by intro _;rfl):
  PE X (.ListComp elt [⟨.Tuple [.Name x px,.Name y py] kt pt,iter,ifs,0⟩] scope pos) (Zm7 X.K wi caps tc te):=by
 refine Zn5 (ns:=[x,y]) (gt:=Zp5 X.K 2 (Jm (aO 0) (Jm (aO 1) Zp6))) caps (λJ σ H Q h=>?_) hi (λC s H ex pn=>YW hc (sZ (gk hnd rfl (.inl (lookup_relabel_local hx)) (.inr (lookup_relabel_local hx))) (sZ (gk hnd rfl (.inl (lookup_relabel_local hy)) (.inr (lookup_relabel_local hy))) Pj))) hf he hc hclos hcl hcap hkind hcell hfree hcf hnames hs;obtain⟨W,w0,turn⟩:=h;refine⟨W,w0,λi m ys H hw=>(turn i m ys H hw).imp id λ⟨g,l,st⟩=>⟨g,l,λz H' y vs hv=>?_⟩⟩;obtain⟨ta,u1,u2,ez,hst,st⟩:=st z H' y
 match vs,hv with
 | [v,v'],_=>exact⟨[some u1,some u2],rfl,⟨ta,_,ez,hst,rfl,_,_,rfl,_,_,rfl,rfl,rfl,rfl⟩,st⟩
end G
namespace G
open PySem L2 PySem.Spec PyProof.Rows
end G
namespace G
open PySem L2 PySem.Spec PyProof.Rows
end G
namespace G
open PySem L2
def Ite(K:aB)(a:Addr):It:=
 ⟨λi H=>∃xs x,cL K H a xs/\xs[i]? =some x,λi H x H'=>∃t v,x=.ref t/\H t=none/\H'=upd H t (.tup [.int i,v])/\∀xs,cL K H a xs->xs[i]? =some v,λi H=>∃xs,cL K H a xs/\xs.length<=i⟩
def Zdg(K:aB)(ta:TA):TI:=λσ H R=>ta σ H λvs H1=>∃a,vs=[.ref a]/\(∃xs,cL K H1 a xs)/\R (Ite K a) H1
def Zzt{K:aB}{ta:TA}{σ:L2.St}{H:Hp}{R:It->Hp->Prop}(h:ta σ H λvs H1=>∃a,vs=[.ref a]/\(∃xs,cL K H1 a xs)/\R (Ite K a) H1):Zdg K ta σ H R:=h
def Ln(v d:Addr):HO:=.ext λh=>h.IsItemsView v d
def Zes(td:TE):TE:=λσ H Q=>td σ H λx H1=>∃a kvs,x=.ref a/\Rd H1 a (.dK kvs)/\∀v,H1 v=none->Q (.ref v) (upd H1 v (Ln v a))
def Zsd{td:TE}{σ:L2.St}{H:Hp}{Q:VK}(h:td σ H λx H1=>∃a kvs,x=.ref a/\Rd H1 a (.dK kvs)/\∀v,H1 v=none->Q (.ref v) (upd H1 v (Ln v a))):Zes td σ H Q:=h
def Ze8(H:Hp):List Addr->List (Key×V)->Prop
 | [],[]=>True
 | t::ts,kv::kvs=>H t=some (.tup [kV kv.1,kv.2])/\Ze8 H ts kvs
 | _,_=>False
def Zi3:List V->Hp->VK->Prop:=λxs H Q=>∃v a kvs,xs=[.ref v]/\H v=some (Ln v a)/\Rd H a (.dK kvs)/\∀l ts H',H l=none->aX H H'->H' l=some (.lst (ts.map V.ref))->Ze8 H' ts kvs->Q (.ref l) H'
def Zsc{H:Hp}{Q:VK}{v a:Addr}{kvs:List (Key×V)}(h1:H v=some (Ln v a))(h2:Rd H a (.dK kvs))(h:∀l ts H',H l=none->aX H H'->H' l=some (.lst (ts.map V.ref))->Ze8 H' ts kvs->Q (.ref l) H'):Zi3 [.ref v] H Q:=⟨v,a,kvs,rfl,h1,h2,h⟩
def Zsq(kvs:List (Key×V)):V->Option Bool
 | .int i=>some (nP kvs (.inl i)).isSome
 | .str x=>some (nP kvs (.inr x)).isSome
 | .non=>some false
 | _=>none
def Zm8(neg:Bool)(ty td:TE):TE:=λσ H Q=>ty σ H λy H1=>td σ H1 λx H2=>∃a kvs b,x=.ref a/\Rd H2 a (.dK kvs)/\Zsq kvs y=some b/\Q (.bl (if neg then !b else b)) H2
def Zw5{neg:Bool}{ty td:TE}{σ:L2.St}{H:Hp}{Q:VK}(h:ty σ H λy H1=>td σ H1 λx H2=>∃a kvs b,x=.ref a/\Rd H2 a (.dK kvs)/\Zsq kvs y=some b/\Q (.bl (if neg then !b else b)) H2):Zm8 neg ty td σ H Q:=h
section
variable {K:aB}{a:Addr}{g:TG}{tb:TS}{σ:L2.St}{H:Hp}{n:L2.St->Hp->Prop}{r:VK}
def Zyi(xs:List V)(Pv:Nat->L2.St->Hp->Prop)(h0:Pv 0 σ H)(hl:∀i σ H,i<=xs.length->Pv i σ H->cL K H a xs)
  (hs:∀i x t σ H,xs[i]? =some x->Pv i σ H->H t=none->g (.ref t) σ (upd H t (.tup [.int i,x])) λσ2 H2=>tb ⟨Pv (i+1),r,n,Pv (i+1)⟩ σ2 H2) (hd:∀ σ H,Pv xs.length σ H->n σ H):
  ∃W:Nat->Nat->L2.St->Hp->Prop,(∃m,W 0 m σ H)/\∀i m σ H,W i m σ H->
   ((Ite K a).stop i H/\n σ H)\/((Ite K a).go i H/\∃N:L2.St->Hp->Prop,(∀ σ' H',N σ' H'->∃m',m'<m/\W (i+1) m' σ' H')/\∀x H',(Ite K a).yld i H x H'->g x σ H' λσ2 H2=>tb ⟨N,r,n,N⟩ σ2 H2):=by
 refine⟨λi m σ H=>i<=xs.length/\m=xs.length - i/\Pv i σ H,⟨xs.length,Nat.zero_le _,rfl,h0⟩,?_⟩;rintro i m σ H ⟨hi,rfl,p⟩;have hq:=hl i σ H hi p
 by_cases hk:i=xs.length
 ·subst hk;exact .inl ⟨⟨xs,hq,Nat.le_refl _⟩,hd σ H p⟩
 ·have hlt:i<xs.length:=by omega
  have hx:xs[i]? =some xs[i]:=bL hlt;refine .inr ⟨⟨xs,_,hq,hx⟩,Pv (i+1),λσ' H' p'=>⟨xs.length - (i+1),by omega,by omega,rfl,p'⟩,?_⟩;rintro x H' ⟨t,v,rfl,ht,rfl,hv⟩;exact hs i v t σ H (hv xs hq) p ht
def Zrw{caps:List Nat}{tc:TT}{te:TE}{Q:VK}{xs:List V}(hs:cL K H a xs)(hz:xs.length<=1000000)(W:Nat->List V->Hp->Prop)(h0:W 0 [] H)(hst:∀i ys H1,W i ys H1->aX H H1/\ys.length<=i)
  (step:∀i x ys H1 t (C:List V->Hp->Prop),(∀zs H3,W (i+1) zs H3->C zs H3)->xs[i]? =some x->W i ys H1->H1 t=none->tc (some (.int i)::some x::caps.map (pick σ)) (upd H1 t (.tup [.int i,x])) λk H2=>if k=true then te (some (.int i)::some x::caps.map (pick σ)) H2 (λy H3=>C (ys++[y]) H3)else C ys H2)
  (q:∀ys H1,W xs.length ys H1->∀p,H1 p=none->Q (.ref p) (upd H1 p (.lst ys))):Zte K (Ite K a) caps tc te σ H Q:=by
 refine⟨λi m ys H1=>i<=xs.length/\m=xs.length - i/\W i ys H1,⟨xs.length,Nat.zero_le _,rfl,h0⟩,?_⟩;rintro i m ys H1 ⟨hi,rfl,w⟩;obtain⟨sm,hl⟩:=hst i ys H1 w;have hq:cL K H1 a xs:=sm.seq hs
 by_cases hk:i=xs.length
 ·subst hk;exact .inl ⟨⟨xs,hq,Nat.le_refl _⟩,q ys H1 w⟩
 ·have hlt:i<xs.length:=by omega
  refine .inr ⟨⟨xs,_,hq,bL hlt⟩,Nat.lt_of_le_of_lt (show ys.length<=1000000 by omega) (show 1000000<sizeLine by decide),?_⟩;rintro x H' ⟨t,v,rfl,ht,rfl,hv⟩;exact⟨t,_,_,rfl,gZ.of aq,step i v ys H1 t (λzs H3=>∃m',m'<xs.length - i/\i+1<=xs.length/\m'=xs.length - (i+1)/\W (i+1) zs H3) (λzs H3 w'=>⟨xs.length - (i+1),by omega,by omega,rfl,w'⟩) (hv xs hq) w ht⟩
end
end G
namespace G
open PySem L2 PySem.Spec PyProof.Rows
def Zkr{X:Cx}{pins:List (Addr×Obj)}{σ:L2.St}{H:Hp}{s:Shared}{h':Heap}{t':Nat}{e it:Addr}(I:Inv X pins σ H s)(k:∀b u,b≠e->b≠it->s.heap.get? b=some u->h'.get? b=some u)(fe:vR X pins H e)(fi:vR X pins H it):
  Inv X pins σ H { s with heap:=h',toks:=t' }:=by
 have ne:∀b u,H b=some u->b≠e:=λb u q z=>by rw[z,fe.1]at q;cases q
 have ni:∀b u,H b=some u->b≠it:=λb u q z=>by rw[z,fi.1]at q;cases q
 have nm:∀b,b∉[e,it]->b≠e/\b≠it:=λb hb=>⟨λz=>hb (by simp[z]),λz=>hb (by simp[z])⟩;refine I.step (g':=s.gens) (d':=s.drawn) (ch:=[e,it]) (λb hb=>?_) (λb o _ _ hc q _=>k b o (nm b hc).1 (nm b hc).2 q) (λb o _ _ hc q _=>⟨o.slots,k b o (nm b hc).1 (nm b hc).2 q⟩) (λ_ _ _ _ n=>n)
  (λb o hc q=>⟨o,k b o (nm b hc).1 (nm b hc).2 q⟩) (λ_ _ q=>q) (λ_ _ _ q=>q) (λb ps q=>⟨#[],by rw[q];simp⟩) (λm hm=>?_) (λb u q=>?_) I.bare
 ·rcases List.mem_cons.mp hb with z | z
  ·rw[z];exact⟨fe.2.2.2.1,fe.2.1,fe.2.2.2.2.1,fe.2.2.2.2.2⟩
  ·have z':b=it:=by simpa using z
   rw[z'];exact⟨fi.2.2.2.1,fi.2.1,fi.2.2.2.2.1,fi.2.2.2.2.2⟩
 ·obtain⟨o,es,ep,ho,r⟩:=hm;exact⟨o,es,ep,k _ o (Ne.symm fe.2.1) (Ne.symm fi.2.1) ho,r⟩
 ·refine(I.hok b u q).stay (λc v hc z=>?_) (λ_ z=>z) λ_ _ z=>z;rcases hc with y | y
  ·rw[y]at z ⊢;exact k b v (ne b u q) (ni b u q) z
  ·exact k c v (ne c _ y) (ni c _ y) z
def R4{X:Cx}{pins:List (Addr×Obj)}{σ:L2.St}{H:Hp}{s:Shared}{h':Heap}{t':Nat}{e it a:Addr}{o:HO}(I:Inv X pins σ H s)(k:∀b u,b≠e->b≠it->s.heap.get? b=some u->h'.get? b=some u)(fe:vR X pins H e)(fi:vR X pins H it)
  (ha:s.heap.objs.size<=a) (new:kE X.prog X.w (upd H a o) h' a o):Inv X pins σ (upd H a o) { s with heap:=h',toks:=t' }:=by
 have hn:=I.hok.fresh ha;have ne:∀b u,H b=some u->b≠e:=λb u q z=>by rw[z,fe.1]at q;cases q
 have ni:∀b u,H b=some u->b≠it:=λb u q z=>by rw[z,fi.1]at q;cases q
 have nm:∀b,b∉[e,it]->b≠e/\b≠it:=λb hb=>⟨λz=>hb (by simp[z]),λz=>hb (by simp[z])⟩;have na:∀b u,s.heap.get? b=some u->b≠a:=λb u q=>Nat.ne_of_lt (Nat.lt_of_lt_of_le (Heap.lt_size q) ha);refine I.step (g':=s.gens) (d':=s.drawn) (ch:=[e,it]) (λb hb=>?_) (λb o _ _ hc q _=>k b o (nm b hc).1 (nm b hc).2 q) (λb o _ _ hc q _=>⟨o.slots,k b o (nm b hc).1 (nm b hc).2 q⟩) (λb u _ q n=>(aC (na b u q)).trans n)
  (λb o hc q=>⟨o,k b o (nm b hc).1 (nm b hc).2 q⟩) (λb xs q=>(aC (aG q hn)).trans q) (λb o xs q=>(aC (aG q hn)).trans q) (λb ps q=>⟨#[],by rw[aC (aG q hn),q];simp⟩) (λm hm=>?_) (λb u q=>?_) I.bare
 ·rcases List.mem_cons.mp hb with z | z
  ·rw[z];exact⟨fe.2.2.2.1,fe.2.1,fe.2.2.2.2.1,fe.2.2.2.2.2⟩
  ·have z':b=it:=by simpa using z
   rw[z'];exact⟨fi.2.2.2.1,fi.2.1,fi.2.2.2.2.1,fi.2.2.2.2.2⟩
 ·obtain⟨o,es,ep,ho,r⟩:=hm;exact⟨o,es,ep,k _ o (Ne.symm fe.2.1) (Ne.symm fi.2.1) ho,r⟩
 ·by_cases hb:b=a
  ·subst hb;rw[aq]at q;cases q;exact new
  ·rw[aC hb]at q;refine(I.hok b u q).stay (λc v hc z=>?_) (λc z=>by rw[aC (aG z hn)];exact z) λc xs z=>by rw[aC (aG z hn)];exact z
   rcases hc with y | y
   ·rw[y]at z ⊢;exact k b v (ne b u q) (ni b u q) z
   ·exact k c v (ne c _ y) (ni c _ y) z
def Zji{P:Program}{w:World}{K:aB}{elts:List Expr}{x1:Nat}{pt:Pos}(a e it:Addr)(hne:e≠it):
    Turn P w K (.Tuple elts x1 pt) (Ite K a) [e,it] e (λi h=>(∃old,IsEnum h e it ((i:Nat):Int) old)/\h.IsListIter it a i) where
  mem:=by simp
  obj:=λi h st b hb=>by
    obtain⟨⟨old,he⟩,o,ho,c,d⟩:=st;rcases List.mem_cons.mp hb with z | z
    · rw[z];exact⟨_,he,λv z=>by cases z⟩
    · have z':b=it:=by simpa using z
      rw[z'];exact⟨o,ho,λv z=>by rw[d]at z;cases z⟩
  keep:=λi h h' st k=>⟨let ⟨old,he⟩:=st.1;⟨old,k e (by simp) _ he⟩,st.2.at λo q=>k it (by simp) o q⟩
  item:=by
    intro X hP hw hK hc i pins s σ H E I hf st hg;subst hP hw hK;obtain⟨xs,x,hq,hx⟩:=hg;obtain⟨its,rv,p,hz⟩:=I.list hq;obtain⟨u,hu,ru⟩:=rv.get hx;obtain⟨⟨old,he⟩,hit⟩:=st;have fe:=hf e (by simp);have fi:=hf it (by simp);have hes:e<s.heap.objs.size:=Heap.lt_size he;have his:it<s.heap.objs.size:=by obtain⟨o,q,_⟩:=hit;exact Heap.lt_size q
    refine wpAny_pyNext_enum_item he hit p.isList (x:=u) (by simpa using hu) hne λh1 ho1 hit1 ht1 hz1 hk1=>?_;refine⟨_,rfl,wpAny_letOwnedTupleGo_enum (s:={ s with heap:=h1,toks:=s.toks+1 }) ho1 λh2 he2 hs2=>?_⟩
    replace hs2:Heap.SameBut e h1 h2:=hs2
    have hn:H s.heap.objs.size=none:=I.hok.fresh (Nat.le_refl _);have I2:Inv X pins σ (upd H s.heap.objs.size (.tup [.int ((i:Nat):Int),x])) { s with heap:=h2,toks:=s.toks+1 }:=by
      refine R4 I (λb v hb hb' q=>hs2.extBut b v hb (hk1 b v hb hb' q)) fe fi (Nat.le_refl _) ?_;refine⟨by show 2<=sizeLine;decide,[.int ((i:Nat):Int) s.toks,u],.cons ⟨_,rfl⟩ (.cons ru .nil),⟨_,hs2.extBut _ _ (Nat.ne_of_gt hes) ht1,rfl,_,rfl⟩⟩
    refine⟨.ref s.heap.objs.size,_,I2,rfl,⟨_,x,rfl,hn,rfl,λys hy=>by rw[I.Zcw hy hq];exact hx⟩,⟨⟨u,?_⟩,hit1.extBut hs2.extBut (Ne.symm hne)⟩,λb hb=>?_⟩
    · have e1:(((i+1:Nat)):Int)=(i:Int)+1:=by omega
      show IsEnum h2 e it (((i+1:Nat)):Int) u;rw[e1];exact he2
    · rcases List.mem_cons.mp hb with z | z
      · rw[z,aC (Nat.ne_of_lt hes)];exact fe.1
      · have z':b=it:=by simpa using z
        rw[z',aC (Nat.ne_of_lt his)];exact fi.1
  done:=by
    intro X hP hw hK hc i pins s σ H E I hf st hg;subst hP hw hK;obtain⟨xs,hq,hx⟩:=hg;obtain⟨its,rv,p,hz⟩:=I.list hq;obtain⟨⟨old,he⟩,hit⟩:=st;have hl:=rv.length;exact wpAny_pyNext_enum_end (I.ok.hd hc) he hit p.isList (by simp;omega) λh' hx'=>⟨rfl,Zkr (t':=s.toks) I (λb o _ hb' q=>hx' b o hb' q) (hf e (by simp)) (hf it (by simp))⟩
  self:=λA i s Q E st h=>let ⟨_,he⟩:=st.1;wpAny_pyIter_enum he h
def YT{X:Cx}{elts:List Expr}{x1:Nat}{pt:Pos}{l:Expr}{ta:TA}{p pos:Pos}(hg:Gl X "enumerate")(hm:X.mg "enumerate"=none)(ha:PA X [l] ta)(hs:starEach [l] X.env=[(false,eval l X.env)]:=by rfl):
  PI X (.Tuple elts x1 pt) (.Call (.Name "enumerate" p) [l] [] pos) (Zdg X.K ta):=by
 intro pins s σ H R I h;refine Call_ (RK I hg hm boot_enumerate (PyProof.Rows.callWith_type1 (jV (ha pos pins s σ H _ I h) λus s1 ⟨vs,H1,I1,r1,q1⟩=>?_) hs rfl));obtain⟨a,e,⟨xs,hq⟩,q⟩:=q1;subst e;cases r1 with
 | cons r rr=>
  cases rr;obtain rfl:_=Value.ref a:=r;obtain⟨its,rv,pl,hz⟩:=I1.list hq;refine call_enumerate_list pl.isList λh' he hit hsz hk=>?_;have I2:Inv X pins σ H1 { s1 with heap:=h' }:=I1.kept (t':=s1.toks) hk
  refine wpAny_pyIter_enum (s:={ s1 with heap:=h' }) he ?_;have hf:∀b,s1.heap.objs.size<=b->vR X pins H1 b:=λb hb=>I1.Zlb hb (I1.hok.fresh hb);refine⟨_,[s1.heap.objs.size+1,s1.heap.objs.size],_,_,H1,rfl,I2,Zji a _ _ (Nat.succ_ne_self _),⟨⟨_,he⟩,hit⟩,λb hb=>?_,q⟩;rcases List.mem_cons.mp hb with z | z
  ·rw[z];exact hf _ (Nat.le_succ _)
  ·have z':b=s1.heap.objs.size:=by simpa using z
   rw[z'];exact hf _ (Nat.le_refl _)
end G
namespace G
open PySem L2 PySem.Spec PyProof.Rows
def Zks{X:Cx}{pins:List (Addr×Obj)}{σ:L2.St}{H:Hp}{s:Shared}{a:Addr}{o:HO}(I:Inv X pins σ H s)(f:vR X pins H a)(new:kE X.prog X.w (upd H a o) s.heap a o):Inv X pins σ (upd H a o) s:=by
 have hn:=f.1;have r:Inv X pins σ (upd H a o) { s with heap:=s.heap,gens:=s.gens,drawn:=s.drawn,toks:=s.toks }:=by
  refine I.step (g':=s.gens) (t':=s.toks) (d':=s.drawn) (ch:=[a]) (λb hb=>?_) (λb u _ _ _ q _=>q) (λb u _ _ _ q _=>⟨u.slots,q⟩) (λb u hc q n=>(aC (λz=>hc (by simp[z]))).trans n) (λb u _ q=>⟨u,q⟩)
   (λb xs q=>(aC (aG q hn)).trans q) (λb u xs q=>(aC (aG q hn)).trans q) (λb ps q=>⟨#[],by rw[aC (aG q hn),q];simp⟩) (λm hm=>hm) (λb u q=>?_) I.bare
  ·have z:b=a:=by simpa using hb
   rw[z];exact⟨f.2.2.2.1,f.2.1,f.2.2.2.2.1,f.2.2.2.2.2⟩
  ·by_cases hb:b=a
   ·subst hb;rw[aq]at q;cases q;exact new
   ·rw[aC hb]at q;exact(I.hok b u q).stay (λc v _ z=>z) (λc z=>by rw[aC (aG z hn)];exact z) λc xs z=>by rw[aC (aG z hn)];exact z
 exact r
def Zhc{X:Cx}{pins:List (Addr×Obj)}{H:Hp}{a b:Addr}{o:HO}(f:vR X pins H b)(h:b≠a):vR X pins (upd H a o) b:=⟨(aC h).trans f.1,f.2⟩
def Zxr{P:Program}{w:World}{k:Key}{u:Value}(h:(fH P w).is k u=true):RelV (kV k) u:=by
 rcases fJ h with ⟨i,t,rfl,rfl⟩ | ⟨x,t,rfl,rfl⟩
 ·exact⟨t,rfl⟩
 ·exact⟨t,rfl⟩
def Zn6{X:Cx}{o:Expr}{td:TE}{apos cpos:Pos}(ho:PE X o td)(hbase:attributeBase o "items" X.env (eval o X.env)=eval o X.env:=by rfl)(hline:(apos.endLine == cpos.line)=true:=by rfl):
  PE X (.Call (.Attribute o "items" apos) [] [] cpos) (Zes td):=by
 intro pins s σ H Q I h;refine wpAny_Call_method0_late hbase hline (jV (ho pins s σ H _ I h) λu s1 ⟨x,H1,I1,rx,a,kvs,ex,rd,q⟩=>?_);subst ex;obtain rfl:u=Value.ref a:=rx;obtain⟨t1,t2,hd⟩:=Zoi I1 (.inl ⟨kvs,rd⟩);obtain⟨z,_,vs,rel,dd⟩:=Jw I1.hok rd;refine⟨"dict","dict.items",PySem.F.plainAttrs_dict,PySem.F.slot_dict_items,PySem.F.type_dict_items,t1,t2,Calls.callWith_builtin rfl (PySem.evalArgs_none ?_)⟩;refine call_meetsIn PySem.F.slot_dict_items t1 PySem.F.entry_dict_items (PySem.F.args_dict_items_1 _) (meets_dict_items (fH X.prog X.w) a hd) ⟨⟨vs,dd⟩,?_⟩;have hn:=I1.hok.fresh (Nat.le_refl _);refine⟨.ref s1.heap.objs.size,_,I1.laid (t':=s1.toks) (λb u e=>Heap.get?_push_of_some _ e) (Nat.le_refl _) ?_,rfl,q _ hn⟩;exact⟨⟨_,Heap.get?_push_size _ rfl,rfl,rfl⟩,⟨_,Heap.get?_push_size _ rfl⟩,λh1 h2 ⟨o,ho,r⟩ k=>⟨o,k o ho,r⟩⟩
def M7{X:Cx}{pins:List (Addr×Obj)}{σ:L2.St}{s:Shared}:∀(as:List Addr) (kvs:List (Key×V)) (vs:List (Key×Value)) (H:Hp),Inv X pins σ H s->as.Nodup->(∀a∈as,vR X pins H a)->as.length=kvs.length->KV kvs vs->
  (∀(j:Nat) (a:Addr),as[j]? =some a->∃key k x,vs[j]? =some (k,x)/\(fH X.prog X.w).is k key=true/\s.heap.get? a=some { cls:=.type "tuple",data:=.seq #[key,x] })->
  ∃H',Inv X pins σ H' s/\aX H H'/\Ze8 H' as kvs
 | [],[],_,H,I,_,_,_,_,_=>⟨H,I,λ_ _ h=>h,trivial⟩
 | [],_::_,_,_,_,_,_,hl,_,_=>by simp at hl
 | _::_,[],_,_,_,_,_,hl,_,_=>by simp at hl
 | a::as,kv::kvs,vs,H,I,nd,fp,hl,r,pr=>by
  cases r with
  | cons rv rs=>
   rename_i q ws
   obtain⟨key,k,x,e,hk,hg⟩:=pr 0 a rfl;have e':q=(k,x):=by simpa using e
   subst e';obtain⟨rk,rx⟩:=rv;have fa:=fp a (by simp);have na:a∉as:=(List.nodup_cons.mp nd).1;have rk':kv.1=k:=rk;have I1:Inv X pins σ (L2.upd H a (.tup [kV kv.1,kv.2])) s:=Zks I fa ⟨by show 2<=sizeLine;decide,[key,x],.cons (by rw[rk'];exact Zxr hk) (.cons rx .nil),⟨_,hg,rfl,_,rfl⟩⟩;obtain⟨H',I',sm,ps⟩:=M7 as kvs ws _ I1 (List.nodup_cons.mp nd).2 (λb hb=>Zhc (fp b (by simp[hb])) λz=>na (z ▸ hb)) (by simpa using hl) rs (λj b hb=>by simpa using pr (j+1) b (by simpa using hb));refine⟨H',I',λb o hb=>sm b o ?_,sm _ _ aq,ps⟩;rw[aC (aG hb fa.1)];exact hb
def WK:∀as:List Addr,Vals (as.map V.ref) (as.map Value.ref)
 | []=>.nil
 | _::as=>.cons rfl (WK as)
def Zi2{X:Cx}(hc:X.calm=true):Oc X (.type "list") Zi3:=by
 intro pins s σ H xs us Q I r h;obtain⟨v,a,kvs,rfl,hv,rd,q⟩:=h;obtain⟨u,rfl,ru⟩:=Vals.one r;obtain rfl:u=Value.ref v:=ru;have hvw:s.heap.IsItemsView v a:=(show kE X.prog X.w H s.heap v (Ln v a)from I.hok v _ hv).1;obtain⟨z,hd,vs,rel,dd⟩:=Jw I.hok rd;obtain⟨ep,hm⟩:=dd.dictAt;have hl:=rel.length;refine PySem.W.kdx_call (I.ok.hd hc) hvw hm (by rw[<- hl];exact z) λh' tk acc c as hk hS hal hG hacc=>?_;have hn:=I.hok.fresh (Nat.le_refl s.heap.objs.size);have I1:Inv X pins σ (upd H s.heap.objs.size (.lst (as.map V.ref))) { s with heap:=h',toks:=tk }:=by
  refine I.laid hk (Nat.le_refl _) ⟨by rw[aY,hal,<- hl];exact z,acc.toList,c,by rw[hacc];exact WK as,by rw[Array.toArray_toList];exact hS⟩
 have nd:as.Nodup:=hG.rise.imp λh=>Nat.ne_of_lt h;obtain⟨H',I',sm,ps⟩:=M7 as kvs vs _ I1 nd (λb hb=>Zhc (I.Zlb (Nat.le_of_lt (hG.above b hb)) (I.hok.fresh (Nat.le_of_lt (hG.above b hb)))) (Nat.ne_of_gt (hG.above b hb))) (by rw[hal,hl]) rel (λj b hb=>hG.pairs j b hb);refine⟨.ref s.heap.objs.size,H',I',rfl,q _ as H' hn (λb o hb=>sm b o ?_) (sm _ _ aq) ps⟩;rw[aC (aG hb hn)];exact hb
def Zp8{X:Cx}{pins:List (Addr×Obj)}{σ:L2.St}{H:Hp}{s:Shared}{a:Addr}{o:Obj}{kvs:List (Key×V)}(I:Inv X pins σ H s)(h:H a=some (.dK kvs))(ho:s.heap.get? a=some o):Inv X pins σ (upd H a (.zp o (.dK kvs))) s:=by
 have ne:∀b u,H b=some u->u≠.dK kvs->b≠a:=λb u q n z=>n (by rw[z,h]at q;exact(Option.some.inj q).symm);have r:Inv X pins σ (upd H a (.zp o (.dK kvs))) { s with heap:=s.heap,gens:=s.gens,drawn:=s.drawn,toks:=s.toks }:=by
  refine I.step (g':=s.gens) (t':=s.toks) (d':=s.drawn) (ch:=[]) (λb hb=>nomatch hb) (λb u _ _ _ q _=>q) (λb u _ _ _ q _=>⟨u.slots,q⟩) (λb u hc q n=>(aC (λz=>by rw[z,h]at n;cases n)).trans n) (λb u _ q=>⟨u,q⟩)
   (λb xs q=>(aC (ne b _ q (λz=>by cases z))).trans q) (λb u xs q=>(aC (ne b _ q (λz=>by cases z))).trans q) (λb ps q=>⟨#[],by rw[aC (ne b _ q (λz=>by cases z)),q];simp⟩) (λm hm=>hm) (λb u q=>?_) I.bare
  have hs:∀c u,H c=some u->u≠.dK kvs->upd H a (.zp o (.dK kvs)) c=some u:=λc u z n=>by rw[aC (ne c u z n)];exact z
  by_cases hb:b=a
  ·subst hb;rw[aq]at q;cases q;exact⟨ho,(I.hok b _ h).stay (λc v _ z=>z) (λc z=>hs c _ z (λy=>by cases y)) λc xs z=>hs c _ z (λy=>by cases y)⟩
  ·rw[aC hb]at q;exact(I.hok b u q).stay (λc v _ z=>z) (λc z=>hs c _ z (λy=>by cases y)) λc xs z=>hs c _ z (λy=>by cases y)
 exact r
def Zvi:Option Key->Value->Bool
 | none,.none=>true
 | none,_=>false
 | some k,v=>Jc k v
def mR{k:Option Key}{v:Value}(h:Zvi k v=true):(k=none/\v=.none)\/∃j,k=some j/\Jc j v=true:=by
 cases k with
 | none=>cases v<;>first | exact .inl ⟨rfl,rfl⟩ | cases h
 | some j=>exact .inr ⟨j,rfl,h⟩
def RT{j:Key}(h:Jc j Value.none=true):False:=by
 rcases fJ h with ⟨i,t,_,e⟩ | ⟨x,t,_,e⟩<;>cases e
def Zv8(P:Program)(w:World):PySem.KeyKind P w (Option Key) where
  is:=Zvi
  hash:=λk=>match k with | none=>reduceHash 0xFCA86420 | some k=>Zxq w k
  inj:=λv a b ha hb=>by
    rcases mR ha with ⟨rfl,rfl⟩ | ⟨i,rfl,h1⟩
    · rcases mR hb with ⟨rfl,_⟩ | ⟨j,rfl,h2⟩
      · rfl
      · exact(RT h2).elim
    · rcases mR hb with ⟨rfl,rfl⟩ | ⟨j,rfl,h2⟩
      · exact(RT h1).elim
      · rw[(fH P w).inj v i j h1 h2]
  byValue:=λk v h=>by
    rcases mR h with ⟨rfl,rfl⟩ | ⟨i,rfl,h1⟩
    · rfl
    · exact(fH P w).byValue i v h1
  pyHash:=λ{A E s k v Q} hv h=>by
    rcases mR hv with ⟨rfl,rfl⟩ | ⟨i,rfl,h1⟩
    · exact PySem.W.pyHash_slot (T:="NoneType") rfl F.slot_NoneType_hash F.entry_NoneType_hash (F.args_NoneType_hash_1 _) (beq_builtin_none _) (.inl rfl) (wpAny_bind (wpAny_pure (wpAny_bind (wpAny_mkInt (wpAny_pure ⟨_,_,rfl,h⟩)))))
    · exact(fH P w).pyHash h1 h
  eqBool:=λ{A E s a b u v Q} hu hv h=>by
    rcases mR hu with ⟨rfl,rfl⟩ | ⟨i,rfl,h1⟩
    · rcases mR hv with ⟨rfl,rfl⟩ | ⟨j,rfl,h2⟩
      · exact Bh (A:=A) (s:=s) (y:=.non) (x:=.non) rfl rfl rfl rfl P w E Q h
      · rcases fJ h2 with ⟨n,t,rfl,rfl⟩ | ⟨x,t,rfl,rfl⟩
        · exact Bh (A:=A) (s:=s) (y:=.non) (x:=.int n) rfl ⟨t,rfl⟩ rfl rfl P w E Q h
        · exact Bh (A:=A) (s:=s) (y:=.non) (x:=.str x) rfl ⟨t,rfl⟩ rfl rfl P w E Q h
    · rcases mR hv with ⟨rfl,rfl⟩ | ⟨j,rfl,h2⟩
      · rcases fJ h1 with ⟨n,t,rfl,rfl⟩ | ⟨x,t,rfl,rfl⟩
        · exact Bh (A:=A) (s:=s) (y:=.int n) (x:=.non) ⟨t,rfl⟩ rfl rfl rfl P w E Q h
        · exact Bh (A:=A) (s:=s) (y:=.str x) (x:=.non) ⟨t,rfl⟩ rfl rfl rfl P w E Q h
      · refine(fH P w).eqBool h1 h2 ?_
        have e:decide (i=j)=decide (some i=some j):=by
          by_cases z:i=j
          · subst z;simp
          · rw[decide_eq_false z,decide_eq_false (λy=>z (Option.some.inj y))]
        rw[e];exact h
  «strs»:=λk x t v h=>by
    rcases mR h with ⟨_,e⟩ | ⟨i,rfl,h1⟩
    · cases e
    · exact(fH P w).strs i x t v h1
def Znh{P:Program}{w:World}{h:Heap}{a:Addr}{vs:List (Key×Value)}(dd:h.DictOf (fH P w) a vs):∃f,h.MapOf (Zv8 P w) a f/\f none=none:=by
 obtain⟨o,es,ep,ho,hc,hd,hk,hp,hn⟩:=dd;refine⟨λk=>findBy (Zv8 P w).is es k,⟨o,es,ep,ho,hc,hd,λe he=>?_,λ_=>rfl⟩,?_⟩
 ·obtain⟨k,h1,h2⟩:=hk e he;exact⟨some k,h1,h2⟩
 ·show Option.map (λx=>x.val) (Array.find? (λe=>Zvi none e.key) es)=none;rw[Option.map_eq_none_iff,Array.find?_eq_none];intro e he;obtain⟨k,h1,_⟩:=hk e he;rcases fJ h1 with ⟨n,t,_,z⟩ | ⟨x,t,_,z⟩<;>rw[z]<;>exact λy=>nomatch y
section
variable {X:Cx}{i o:Expr}{ty td:TE}
def Zha{kvs:List (Key×V)}{y:V}{b:Bool}(h:Zsq kvs y=some b):(∃k,y=kV k/\b=(nP kvs k).isSome)\/(y=.non/\b=false):=by
 cases y<;>simp only[Zsq,Option.some.injEq]at h<;>first | cases h
 ·exact .inr ⟨rfl,rfl⟩
 ·exact .inl ⟨.inl _,rfl,rfl⟩
 ·exact .inl ⟨.inr _,rfl,rfl⟩
def Zg3(hu:X.A.units+1<cLine)(hi:PE X i ty)(ho:PE X o td):PC X .NotIn i o (Zm8 true ty td):=by
 intro pins s σ H Q I h;refine jV (hi pins s σ H _ I h) λiv s1 ⟨y,H1,I1,ry,h1⟩=>?_;refine jV (ho pins s1 σ H1 _ I1 h1) λov s2 ⟨x,H2,I2,rx,a,kvs,b,ex,rd,hb,q⟩=>?_;subst ex;obtain rfl:ov=Value.ref a:=rx;rcases Zha hb with ⟨k,rfl,rfl⟩ | ⟨rfl,rfl⟩
 ·exact Zj6 hu I2 (.inl ⟨kvs,k,rd,rfl,rfl⟩) ry λs' I'=>⟨.bl _,H2,I',rfl,q⟩
 ·obtain rfl:iv=Value.none:=ry;obtain⟨z,hd,vs,rel,dd⟩:=Jw I2.hok rd;obtain⟨f,hm,hf⟩:=Znh dd;refine wpAny_notIn_of (knd:=Zv8 X.prog X.w) (k:=none) rfl hd hm ?_;rw[hf];exact⟨.bl _,H2,I2.tok _,rfl,q⟩
end
end G
namespace G
open PySem L2 PySem.Spec PyProof.Rows
section
variable {X:Cx}
end
end G
namespace G
open PySem L2 PySem.Spec PyProof.Rows
end G
namespace G
open PySem L2 PySem.Spec PyProof.Rows
section
variable {X:Cx}{x1 x2 x3 x4:Str}{C1 C2 C3 C4:Addr}{pos np1 np2 np3 np4 hp1 hp2 hp3 hp4:Pos}{body su1 su2 su3 su4:List Stmt}{b1 b2 b3 b4:Stmt}{M1 M2 M3 M4:Value->Prop}{tb:(L2.St->XK)->TS}{t1 t2 t3 t4:TS}
end
end G
namespace G
open PySem L2 PySem.Spec PyProof.Rows
end G
namespace G
open PySem L2
end G
namespace G
open PySem L2 PySem.Spec PyProof.Rows
def M6(v d:Addr):HO:=.ext λh=>h.IsValuesView v d
def Zm4(td:TE):TE:=λσ H Q=>td σ H λx H1=>∃a kvs,x=.ref a/\Rd H1 a (.dK kvs)/\∀v,H1 v=none->Q (.ref v) (upd H1 v (M6 v a))
def Zvm{td:TE}{σ:L2.St}{H:Hp}{Q:VK}(h:td σ H λx H1=>∃a kvs,x=.ref a/\Rd H1 a (.dK kvs)/\∀v,H1 v=none->Q (.ref v) (upd H1 v (M6 v a))):Zm4 td σ H Q:=h
def Zk2{X:Cx}{o:Expr}{td:TE}{apos cpos:Pos}(ho:PE X o td)(hbase:attributeBase o "values" X.env (eval o X.env)=eval o X.env:=by rfl)(hline:(apos.endLine == cpos.line)=true:=by rfl):
  PE X (.Call (.Attribute o "values" apos) [] [] cpos) (Zm4 td):=by
 intro pins s σ H Q I h;refine wpAny_Call_method0_late hbase hline (jV (ho pins s σ H _ I h) λu s1 ⟨x,H1,I1,rx,a,kvs,ex,rd,q⟩=>?_);subst ex;obtain rfl:u=Value.ref a:=rx;obtain⟨t1,t2,hd⟩:=Zoi I1 (.inl ⟨kvs,rd⟩);obtain⟨z,_,vs,rel,dd⟩:=Jw I1.hok rd;refine⟨"dict","dict.values",PySem.F.plainAttrs_dict,PySem.F.slot_dict_values,PySem.F.type_dict_values,t1,t2,Calls.callWith_builtin rfl (PySem.evalArgs_none ?_)⟩;refine call_meetsIn PySem.F.slot_dict_values t1 PySem.F.entry_dict_values (PySem.F.args_dict_values_1 _) (meets_dict_values (fH X.prog X.w) a hd) ⟨⟨vs,dd⟩,?_⟩;have hn:=I1.hok.fresh (Nat.le_refl _);refine⟨.ref s1.heap.objs.size,_,I1.laid (t':=s1.toks) (λb u e=>Heap.get?_push_of_some _ e) (Nat.le_refl _) ?_,rfl,q _ hn⟩;exact⟨⟨_,Heap.get?_push_size _ rfl,rfl,rfl⟩,⟨_,Heap.get?_push_size _ rfl⟩,λh1 h2 ⟨o,ho,r⟩ k=>⟨o,k o ho,r⟩⟩
def Itv(a:Addr)(o:Obj)(kvs:List (Key×V)):It:=
 ⟨λi H=>H a=some (.zp o (.dK kvs))/\i<kvs.length,λi H x H'=>H'=H/\∃kv,kvs[i]? =some kv/\x=kv.2,λi H=>H a=some (.zp o (.dK kvs))/\kvs.length<=i⟩
def Zos(te:TE):TI:=λσ H R=>te σ H λx H1=>∃v a kvs,x=.ref v/\H1 v=some (M6 v a)/\H1 a=some (.dK kvs)/\∀o,R (Itv a o kvs) (upd H1 a (.zp o (.dK kvs)))
def Zzq{te:TE}{σ:L2.St}{H:Hp}{R:It->Hp->Prop}(h:te σ H λx H1=>∃v a kvs,x=.ref v/\H1 v=some (M6 v a)/\H1 a=some (.dK kvs)/\∀o,R (Itv a o kvs) (upd H1 a (.zp o (.dK kvs)))):Zos te σ H R:=h
def WL{α β:Type}{R:α->β->Prop}:∀{xs:List α}{ys:List β},Paired R xs ys->∀(i:Nat) x y,xs[i]? =some x->ys[i]? =some y->R x y
 | _,_,.nil,_,_,_,h,_=>by simp at h
 | _,_,.cons r rs,0,_,_,h1,h2=>by
  cases h1;cases h2;exact r
 | _,_,.cons r rs,i+1,_,_,h1,h2=>WL rs i _ _ (by simpa using h1) (by simpa using h2)
def Zjg{P:Program}{w:World}{K:aB}{tg:Expr}(a it:Addr)(o:Obj)(kvs:List (Key×V))(ep:Nat)(hep:∃es,o.data=.dict es ep):Turn P w K tg (Itv a o kvs) [it] it (λi h=>h.IsValIter it a i kvs.length ep) where
  mem:=by simp
  obj:=λi h st b hb=>by
    have e:b=it:=by simpa using hb
    subst e;obtain⟨o,e,c,d⟩:=st;exact⟨o,e,λv z=>by rw[d]at z;cases z⟩
  keep:=λi h h' st k=>by
    obtain⟨o,e,r⟩:=st;exact⟨o,k it (by simp) o e,r⟩
  item:=by
    intro X hP hw hK hc i pins s σ H E I hf st hg;subst hP hw hK;obtain⟨hz,hi⟩:=hg;obtain⟨ho,z,hd,vs,rel,dd⟩:s.heap.get? a=some o/\kvs.length<=sizeLine/\(a == sysModules)=false/\∃vs,KV kvs vs/\s.heap.DictOf (fH X.prog X.w) a vs:=I.hok a _ hz;obtain⟨ep',hm⟩:=dd.dictAt;obtain⟨es,hes⟩:=hep;have he:ep'=ep:=by
      obtain⟨o',es',ho',_,hd',_⟩:=id hm;rw[ho]at ho';cases ho';rw[hes]at hd';injection hd' with _ e;exact e.symm
    subst he;have hl:=rel.length;have hv:vs[i]? =some vs[i]:=bL (by omega);have hv2:kvs[i]? =some kvs[i]:=bL hi;have hk:RelV kvs[i].2 vs[i].2:=(WL rel i _ _ hv2 hv).2;obtain⟨f0,f1,f2,f3,f4,f5⟩:=hf it (by simp);rw[hl]at st;refine wpAny_pyNext_values_item st hm (k:=vs[i].1) (v:=vs[i].2) (by rw[hv]) λh' st' sb=>?_;have I1:Inv X pins σ H { s with heap:=h' }:=I.turned (t':=s.toks) (λb o hb e=>(sb.2 b hb).trans e) f0 f1 f3 f4 f5;obtain⟨oi,e,c,d⟩:=id st';exact⟨_,rfl,Zp3 (s:={ s with heap:=h' }) e c d (by decide) ⟨kvs[i].2,H,I1,hk,⟨rfl,_,hv2,rfl⟩,by rw[hl];exact st',λb hb=>(hf b hb).1⟩⟩
  done:=by
    intro X hP hw hK hc i pins s σ H E I hf st hg;subst hP hw hK;obtain⟨hz,hi⟩:=hg;obtain⟨ho,z,hd,vs,rel,dd⟩:s.heap.get? a=some o/\kvs.length<=sizeLine/\(a == sysModules)=false/\∃vs,KV kvs vs/\s.heap.DictOf (fH X.prog X.w) a vs:=I.hok a _ hz;obtain⟨ep',hm⟩:=dd.dictAt;obtain⟨es,hes⟩:=hep;have he:ep'=ep:=by
      obtain⟨o',es',ho',_,hd',_⟩:=id hm;rw[ho]at ho';cases ho';rw[hes]at hd';injection hd' with _ e;exact e.symm
    subst he;have hl:=rel.length;obtain⟨f0,f1,f2,f3,f4,f5⟩:=hf it (by simp);rw[hl]at st;exact wpAny_pyNext_values_end (I.ok.hd hc) st hm (by rw[List.getElem?_eq_none];omega) λh' eb=>⟨rfl,I.turned (t':=s.toks) (λb o hb e=>eb b o hb e) f0 f1 f3 f4 f5⟩
  self:=λ_ _ _ _ _ st h=>wpAny_pyIter_valiter st h
def Zr1{X:Cx}{tg:Expr}{e:Expr}{te:TE}(he:PE X e te):PI X tg e (Zos te):=by
 intro pins s σ H R I h;refine jV (he pins s σ H _ I h) λu s1 ⟨x,H1,I1,r1,q1⟩=>?_;obtain⟨v,a,kvs,e,hv,hq,q⟩:=q1;subst e;obtain rfl:u=Value.ref v:=r1;have Zyd:s1.heap.IsValuesView v a:=(I1.hok v _ hv).1;obtain⟨z,hs,vs,rel,dd⟩:=Ztz I1.hok hq;obtain⟨ep,hm⟩:=dd.dictAt;obtain⟨o,es,ho,_,hes,_⟩:=id hm;refine wpAny_pyIter_values Zyd hm ?_;have I2:=Zp8 I1 hq ho;have hne:s1.heap.objs.size≠a:=Nat.ne_of_gt (Heap.lt_size ho);refine⟨s1.heap.objs.size,[s1.heap.objs.size],_,_,_,rfl,I2.kept (t':=s1.toks) λb o e=>Heap.get?_push_of_some _ e,Zjg a _ o kvs ep ⟨es,hes⟩,?_,λb hb=>?_,q o⟩
 ·rw[rel.length];exact⟨_,Heap.get?_push_size _ rfl,rfl,rfl⟩
 ·have e:b=s1.heap.objs.size:=by simpa using hb
  subst e;exact Zhc (I1.Zlb (Nat.le_refl _) (I1.hok.fresh (Nat.le_refl _))) hne
def Zjj{X:Cx}{pins:List (Addr×Obj)}{σ:L2.St}{H:Hp}{s:Shared}{a:Addr}{o:Obj}{kvs:List (Key×V)}(I:Inv X pins σ H s)(h:H a=some (.zp o (.dK kvs)))(hn:∀o' u,X.H₀ a≠some (.zp o' u)):Inv X pins σ (upd H a (.dK kvs)) s:=by
 have ne:∀b u,H b=some u->u≠.zp o (.dK kvs)->b≠a:=λb u q n z=>n (by rw[z,h]at q;exact(Option.some.inj q).symm);have n0:∀b,H b=none->upd H a (.dK kvs) b=none:=λb q=>(aC (λz=>by rw[z,h]at q;cases q)).trans q;have hs:∀c u,H c=some u->u≠.zp o (.dK kvs)->upd H a (.dK kvs) c=some u:=λc u z n=>by rw[aC (ne c u z n)];exact z
 obtain⟨i1,i2,i3,i4,i5,i6,i7,i8,i9,i10,i11⟩:=I;refine⟨i1,i2,i3,⟨i4.keep,i4.slot,λb ob e n hx=>n0 b (i4.free b ob e n hx),i4.there,λb xs e=>hs b _ (i4.tups b xs e) (λz=>by cases z),λb ob u e=>(aC (a:=a) (b:=b) (λz=>hn ob u (by rw[<- z];exact e))).trans (i4.Ma b ob u e),λb ps e=>?_⟩,i5,i6,n0 _ i7,λx c e=>n0 _ (i8 x c e),λp hp=>?_,λb u q=>?_,i11⟩
 ·obtain⟨more,q⟩:=i4.Od b ps e;exact⟨more,hs b _ q (λz=>by cases z)⟩
 ·obtain⟨p1,p2,p3⟩:=i9 p hp;exact⟨p1,n0 _ p2,p3⟩
 ·by_cases hb:b=a
  ·subst hb;rw[aq]at q;cases q;exact(i10 b _ h).2.stay (λc v _ z=>z) (λc z=>hs c _ z (λy=>by cases y)) λc xs z=>hs c _ z (λy=>by cases y)
  ·rw[aC hb]at q;exact(i10 b u q).stay (λc v _ z=>z) (λc z=>hs c _ z (λy=>by cases y)) λc xs z=>hs c _ z (λy=>by cases y)
def Zm5(H0:Hp)(te:TE):TE:=λσ H Q=>te σ H λx H1=>∃a o kvs,H1 a=some (.zp o (.dK kvs))/\(∀o' u,H0 a≠some (.zp o' u))/\Q x (upd H1 a (.dK kvs))
def Zvn{H0:Hp}{te:TE}{σ:L2.St}{H:Hp}{Q:VK}(h:te σ H λx H1=>∃a o kvs,H1 a=some (.zp o (.dK kvs))/\(∀o' u,H0 a≠some (.zp o' u))/\Q x (upd H1 a (.dK kvs))):Zm5 H0 te σ H Q:=h
def Zr8{X:Cx}{e:Expr}{te:TE}(he:PE X e te):PE X e (Zm5 X.H₀ te):=by
 intro pins s σ H Q I h;refine jV (he pins s σ H _ I h) λu s1 ⟨x,H1,I1,r1,a,o,kvs,ha,hn,q⟩=>?_;exact⟨x,_,Zjj I1 ha hn,r1,q⟩
end G
namespace G
open PySem L2 PySem.Spec PyProof.Rows
def Zu7(K:aB)(te:TE):TT:=λσ H Q=>te σ H λx H'=>∃k,Zpv K x H' k/\Q k H'
def Ztt{K:aB}{te:TE}{σ:L2.St}{H:Hp}{Q:Bool->Hp->Prop}(h:te σ H λx H'=>∃k,Zpv K x H' k/\Q k H'):Zu7 K te σ H Q:=h
def Zx7{K:aB}{H:Hp}{a:Addr}{xs:List V}{P:Bool->Prop}(h:cL K H a xs)(q:P (!xs.isEmpty)):∃k,Zpv K (.ref a) H k/\P k:=⟨_,.inl ⟨xs,h,rfl⟩,q⟩
def Zor{i:Nat}{c x:Int}{f:Int->Int->Int}{n:L2.St->Hp->Prop}{r:VK}{b ct:L2.St->Hp->Prop}{σ:L2.St}{H:Hp}(e:σ[i]? =some (some (.int x)))(h:n (σ.set i (some (.int (f x c)))) H):Zu8 i (tC (.int c)) (ipI f) ⟨n,r,b,ct⟩ σ H:=⟨_,e,x,c,rfl,rfl,h⟩
def Zps(K:aB):List V->Hp->VK->Prop:=λxs H Q=>∃p ys,xs=[.ref p]/\(cL K H p ys\/gZ K H p ys)/\∀l,H l=none->Q (.ref l) (upd H l (.lst ys))
def Zsb{K:aB}{H:Hp}{Q:VK}{p:Addr}{ys:List V}(h1:gZ K H p ys)(h:∀l,H l=none->Q (.ref l) (upd H l (.lst ys))):Zps K [.ref p] H Q:=⟨p,ys,rfl,.inr h1,h⟩
def Dq(K:aB)(H:Hp):Nat->V->V->Prop
 | 0,x,y=>x=y/\pW x=true
 | d+1,x,y=>(x=y/\pW x=true)\/∃a b,x=.ref a/\y=.ref b/\(a=b\/∃xs ys,((cL K H a xs/\cL K H b ys)\/(gZ K H a xs/\gZ K H b ys))/\Al (Dq K H d) xs ys)
def Zt4{K:aB}{H:Hp}{d:Nat}{x:V}(h:pW x=true):Dq K H d x x:=by
 cases d with
 | zero=>exact⟨rfl,h⟩
 | succ d=>exact .inl ⟨rfl,h⟩
def Jv{K:aB}{H:Hp}{d:Nat}:∀{xs:List V},xs.all pW=true->Al (Dq K H d) xs xs
 | [],_=>.nil
 | x::xs,h=>by
  rw[List.all_cons,Bool.and_eq_true]at h;exact .cons (Zt4 h.1) (Jv h.2)
def Zjw(K:aB)(neg:Bool):R2:=λx y H Q=>∃a b xs ys,x=.ref a/\y=.ref b/\((cL K H a xs/\cL K H b ys)\/(gZ K H a xs/\gZ K H b ys))/\Al (Dq K H 6) xs ys/\Q (.bl (!neg)) H
section
variable {X:Cx}
def Zdn:∀{x:V},pW x=true->Xn x x=true
 | .non,_=>rfl
 | .bl b,_=>by cases b<;>rfl
 | .int i,_=>by simp[Xn]
 | .str z,_=>by simp[Xn]
def Zym{pins:List (Addr×Obj)}{σ:L2.St}{H:Hp}{s:Shared}(I:Inv X pins σ H s):∀(d:Nat) {A:Around}{x y:V}{u v:Value},A.units+d<cLine->RelV x u->RelV y v->Dq X.K H d x y->SeqAt.EqAt A s u v true:=by
 intro d
 induction d with
 | zero=>
  intro A x y u v hu rx ry h;obtain⟨rfl,hf⟩:=h;have:=Bh (A:=A) (s:=s) rx ry hf hf;rw[Zdn hf]at this;exact this
 | succ d ih=>
  intro A x y u v hu rx ry h;rcases h with ⟨rfl,hf⟩ | ⟨a,b,rfl,rfl,h⟩
  ·have:=Bh (A:=A) (s:=s) rx ry hf hf;rw[Zdn hf]at this;exact this
  ·obtain rfl:u=Value.ref a:=rx;obtain rfl:v=Value.ref b:=ry
   by_cases e:a=b
   ·subst e;exact SeqAt.EqAt.same _
   rcases h with rfl | ⟨xs,ys,hs,al⟩
   ·exact absurd rfl e
   ·refine SeqAt.EqAt.of_refs e ?_;have hl:=al.length;have hu':A.units<cLine:=by omega
    have item:∀{us ws:List Value},Vals xs us->Vals ys ws->∀(j:Nat) (h1:j<us.toArray.size) (h2:j<ws.toArray.size),SeqAt.EqAt A.in1 s us.toArray[j] ws.toArray[j] true:=by
     intro us ws r1 r2 j h1 h2;rw[List.size_toArray]at h1 h2;have l1:=r1.length;have l2:=r2.length;have a1:xs[j]? =some xs[j]:=bL (by omega);have a2:ys[j]? =some ys[j]:=bL (by omega);obtain⟨u',e1,q1⟩:=r1.get a1;obtain⟨w',e2,q2⟩:=r2.get a2;rw[bL h1]at e1;rw[bL h2]at e2;cases e1;cases e2;obtain⟨x',e3,dq⟩:=al.get a2;rw[a1]at e3;cases e3;exact ih (A:=A.in1) (by show A.units+1+d<cLine;omega) q1 q2 dq
    rcases hs with ⟨ha,hb⟩ | ⟨ha,hb⟩
    ·obtain⟨us,r1,pl1,_⟩:=I.list ha;obtain⟨ws,r2,pl2,_⟩:=I.list hb;have:=SeqAt.RcAt.lists (A:=A) (e:=λ_=>true) pl1.isList pl2.isList (by rw[List.size_toArray,List.size_toArray,<- r1.length,<- r2.length];exact hl) hu' (λj h1 h2=>item r1 r2 j h1 h2);rw[show(List.range us.toArray.size).all (λ_=>true)=true from by rw[List.all_eq_true];intros;rfl]at this;exact this
    ·obtain⟨us,r1,pl1,_⟩:=I.tuple ha;obtain⟨ws,r2,pl2,_⟩:=I.tuple hb;have e0:us.toArray.size=ws.toArray.size:=by rw[List.size_toArray,List.size_toArray,<- r1.length,<- r2.length];exact hl
     have:=SeqAt.RcAt.tuples (A:=A) (e:=λ_=>true) pl1 pl2 hu' (λj h1 h2=>item r1 r2 j h1 h2);rw[show(List.range (min us.toArray.size ws.toArray.size)).all (λ_=>true)=true from by rw[List.all_eq_true];intros;rfl,e0]at this;simpa using this
def Es{pins:List (Addr×Obj)}{σ:L2.St}{H:Hp}{s:Shared}(I:Inv X pins σ H s){A:Around}(hu:A.units+8<cLine){xs ys:List V}{us ws:List Value}(al:Al (Dq X.K H 6) xs ys)(r1:Vals xs us)(r2:Vals ys ws)(j:Nat)(h1:j<us.toArray.size)(h2:j<ws.toArray.size):SeqAt.EqAt A.in1 s us.toArray[j] ws.toArray[j] true:=by
 rw[List.size_toArray]at h1 h2;have l1:=r1.length;have l2:=r2.length;have a1:xs[j]? =some xs[j]:=bL (by omega);have a2:ys[j]? =some ys[j]:=bL (by omega);obtain⟨u',e1,q1⟩:=r1.get a1;obtain⟨w',e2,q2⟩:=r2.get a2;rw[bL h1]at e1;rw[bL h2]at e2;cases e1;cases e2;obtain⟨x',e3,dq⟩:=al.get a2;rw[a1]at e3;cases e3;exact Zym I 6 (A:=A.in1) (by show A.units+1+6<cLine;omega) q1 q2 dq
def Zuu(hu:X.A.units+64<cLine):yW X (compareOp .Eq) (Zjw X.K false):=by
 intro pins s σ H x y v u Q I rx ry h;obtain⟨p,q',xs,ys,rfl,rfl,hs,al,q⟩:=h;obtain rfl:v=Value.ref p:=rx;obtain rfl:u=Value.ref q':=ry;have hl:=al.length;rcases hs with ⟨ha,hb⟩ | ⟨ha,hb⟩
 ·obtain⟨us,r1,pl1,_⟩:=I.list ha;obtain⟨ws,r2,pl2,_⟩:=I.list hb;refine SeqAt.eq_listAt (e:=λ_=>true) pl1.isList pl2.isList (by rw[List.size_toArray,List.size_toArray,<- r1.length,<- r2.length];exact hl) (by omega) (Es I (by omega) al r1 r2) ?_;rw[show(List.range us.toArray.size).all (λ_=>true)=true from by rw[List.all_eq_true];intros;rfl];exact⟨.bl _,H,I,rfl,q⟩
 ·obtain⟨us,r1,pl1,_⟩:=I.tuple ha;obtain⟨ws,r2,pl2,_⟩:=I.tuple hb;have e0:us.toArray.size=ws.toArray.size:=by rw[List.size_toArray,List.size_toArray,<- r1.length,<- r2.length];exact hl
  refine SeqAt.eq_tupleAt (e:=λ_=>true) pl1 pl2 (by omega) (Es I (by omega) al r1 r2) ?_;rw[show(List.range (min us.toArray.size ws.toArray.size)).all (λ_=>true)=true from by rw[List.all_eq_true];intros;rfl,e0];simp only[beq_self_eq_true,Bool.and_self];exact⟨.bl _,H,I,rfl,q⟩
def Znb(hu:X.A.units+64<cLine):yW X (compareOp .NotEq) (Zjw X.K true):=by
 intro pins s σ H x y v u Q I rx ry h;obtain⟨p,q',xs,ys,rfl,rfl,hs,al,q⟩:=h;obtain rfl:v=Value.ref p:=rx;obtain rfl:u=Value.ref q':=ry;have hl:=al.length;rcases hs with ⟨ha,hb⟩ | ⟨ha,hb⟩
 ·obtain⟨us,r1,pl1,_⟩:=I.list ha;obtain⟨ws,r2,pl2,_⟩:=I.list hb;have:=SeqAt.RcNeAt.lists (A:=X.A) (s:=s) (e:=λ_=>true) pl1.isList pl2.isList (by rw[List.size_toArray,List.size_toArray,<- r1.length,<- r2.length];exact hl) (by omega) (Es I (by omega) al r1 r2);rw[show(List.range us.toArray.size).all (λ_=>true)=true from by rw[List.all_eq_true];intros;rfl]at this;exact this _ _ _ _ ⟨.bl _,H,I,rfl,q⟩
 ·obtain⟨us,r1,pl1,_⟩:=I.tuple ha;obtain⟨ws,r2,pl2,_⟩:=I.tuple hb;have e0:us.toArray.size=ws.toArray.size:=by rw[List.size_toArray,List.size_toArray,<- r1.length,<- r2.length];exact hl
  have:=SeqAt.RcNeAt.tuples (A:=X.A) (s:=s) (e:=λ_=>true) pl1 pl2 (by omega) (Es I (by omega) al r1 r2);rw[show(List.range (min us.toArray.size ws.toArray.size)).all (λ_=>true)=true from by rw[List.all_eq_true];intros;rfl,e0]at this;simp only[beq_self_eq_true,Bool.and_self]at this;exact this _ _ _ _ ⟨.bl _,H,I,rfl,q⟩
def Zoo{K:aB}{neg:Bool}{H:Hp}{Q:VK}{a b:Addr}{xs ys:List V}(hs:(cL K H a xs/\cL K H b ys)\/(gZ K H a xs/\gZ K H b ys))(al:Al (Dq K H 6) xs ys)(q:Q (.bl (!neg)) H):Zjw K neg (.ref a) (.ref b) H Q:=⟨a,b,xs,ys,rfl,rfl,hs,al,q⟩
end
end G
local macro_rules | `(tactic| walk_at "g2")=>`(tactic| with_reducible first | refine G.vg ?_ | refine G.Zw3 ?_ | refine G.Ziw ?_ | refine G.Zvz ?_ | refine G.R6 ?_ | refine G.i_C ?_ | refine G.Zh4 ?_ | refine G.Zzn ?_ | refine G.i_B ?_ | refine G.Zvo ?_ | refine G.Zxy ?_ | refine G.Zyb ?_ | refine G.Zxz ?_ | refine G.Ztu ?_ | refine G.Zw9 ?_ | refine G.Zvr ?_ | refine G.Zy5 ?_ | refine G.Zyc ?_ | refine G.i_U ?_ | refine G.Zya ?_ | refine G.Zy9 ?_ | refine G.Zy2 ?_ | refine G.Zy1 ?_ | refine G.Zvy ?_ | refine G.Zvx ?_ | refine G.Zvw ?_ | refine G.Zs9 ?_ | refine G.Zs8 ?_ | refine G.Zs7 ?_ | refine G.Zh6 ?_ | refine G.Za0 ?_ | refine G.Zse ?_ | refine G.Zsf ?_ | refine G.Zy0 ?_ | refine G.Zw7 ?_ | refine G.Zy3 ?_ | refine G.Zxv ?_ | refine G.Zw8 ?_ | refine G.ZA1 ?_ | refine G.Zvu ?_ | refine G.Zy8 ?_ | refine G.Zvp ?_ | refine G.Zvt ?_ | refine G.Zom ?_ | refine G.Zvq ?_ | refine G.Zzp ?_ | refine G.Zzo ?_ | refine G.ZA0 ?_ | refine G.Zy7 ?_ | refine G.Zzs ?_ | refine G.Zzr ?_ | refine G.Zzm ?_ | refine G.Zzl ?_ | refine G.Zzk ?_ | refine G.Zh3 ?_ | refine G.Zzj ?_ | refine G.Zzi ?_ | refine G.Zzh ?_ | refine G.Zzg ?_ | refine G.Zzf ?_ | refine G.Zze ?_ | refine G.Zxu ?_ | refine G.Zzz ?_ | refine G.Zw1 ?_ | refine G.Zdf ?_ | refine G.Zsg ?_ | refine G.Zzy ?_ | refine G.Zzx ?_ | refine G.Zzw ?_ | refine G.Zzv ?_ | refine G.Zzu ?_ | refine G.Zy6 ?_ | refine G.Be ?_ | refine G.Zsh ?_ | refine G.Zs6 ?_ | refine G.Zsi ?_ | refine G.Zxw ?_ | refine G.Zw0 ?_ | refine G.Zsa ?_ | refine G.Zxx ?_ | refine G.Zw6 ?_ | refine G.Zop ?_ | refine G.Zw4 ?_ | refine G.Zvv ?_ | refine G.Zh8 ?_ | refine G.Zde ?_ | refine G.Zh7 ?_ | refine G.Zvm ?_ | refine G.Zzq ?_ | refine G.Zvn ?_ | refine G.Ztt ?_ | refine G.Zzt ?_ | refine G.Zsd ?_ | refine G.Zw5 ?_)
local macro_rules | `(tactic| walk_at "g1")=>`(tactic| first | (with_reducible refine G.Ji ?_) | walk_at "g2")
local macro_rules | `(tactic| walk_at "ne")=>`(tactic| first | assumption | (exact Ne.symm (by assumption)) | exact L2.aG (by assumption) (by assumption) | exact Ne.symm (L2.aG (by assumption) (by assumption)) | exact Nat.ne_of_lt (by assumption))
local macro_rules | `(tactic| walk_at "hp")=>`(tactic| first | assumption | exact L2.aq | (refine Eq.trans (L2.aC ?hne) ?_;(case hne=>walk_at "ne");walk_at "hp"))
local macro_rules | `(tactic| walk_at"d")=>`(tactic| first | omega | decide | (show (_:Int)<_;decide) | exact ⟨by decide,by decide⟩ | exact ⟨by decide,by decide,by decide⟩ | (unfold L2.Th;omega) | exact .inl (by unfold L2.Th;omega))
local macro_rules | `(tactic| walk_at"e")=>`(tactic| repeat (first | walk_at "g1" | ((with_reducible refine G.i_I ?hc ?_);(case hc=>walk_at"d"))))
local macro_rules | `(tactic| walk_at"s")=>`(tactic| repeat (first | walk_at "g2" | ((with_reducible refine G.i_I ?hc ?_);(case hc=>walk_at"d"))))
local macro_rules | `(tactic| walk_at"c")=>`(tactic| simp only [List.map_cons,List.map_nil,G.pick,List.getElem?_cons_zero,List.getElem?_cons_succ])
namespace K24
open PySem L2 G
def nO(birth:Int)(bulk:Int)(tone:Int)(load:Int)(fa:Addr):List (Str×V):=[("birth",.int birth),("bulk",.int bulk),("tone",.int tone),("load",.int load),("fields",.ref fa)]
def gM{birth:Int}{bulk:Int}{tone:Int}{load:Int}{fa:Addr}:List.lookup ("birth":Str) (nO birth bulk tone load fa)=some (.int birth:V):=rfl
def Gb{birth:Int}{bulk:Int}{tone:Int}{load:Int}{fa:Addr}:List.lookup ("bulk":Str) (nO birth bulk tone load fa)=some (.int bulk:V):=rfl
def VJ{birth:Int}{bulk:Int}{tone:Int}{load:Int}{fa:Addr}:List.lookup ("tone":Str) (nO birth bulk tone load fa)=some (.int tone:V):=rfl
def yE{birth:Int}{bulk:Int}{tone:Int}{load:Int}{fa:Addr}:List.lookup ("load":Str) (nO birth bulk tone load fa)=some (.int load:V):=rfl
def lD{birth:Int}{bulk:Int}{tone:Int}{load:Int}{fa:Addr}:List.lookup ("fields":Str) (nO birth bulk tone load fa)=some (.ref fa:V):=rfl
def SJ{birth:Int}{bulk:Int}{tone:Int}{load:Int}{fa:Addr}(y:Int):cB "tone" (.int y) (nO birth bulk tone load fa)=nO birth bulk y load fa:=rfl
def SM{birth:Int}{bulk:Int}{tone:Int}{load:Int}{fa:Addr}(y:Int):cB "load" (.int y) (nO birth bulk tone load fa)=nO birth bulk tone y fa:=rfl
def Zpr{birth:Int}{bulk:Int}{tone:Int}{load:Int}{fa:Addr}:(cB "fields" (.ref fa) (cB "load" (.int load) (cB "tone" (.int tone) (cB "bulk" (.int bulk) (cB "birth" (.int birth) [])))))=nO birth bulk tone load fa:=rfl
def vq{birth:Int}{bulk:Int}{tone:Int}{load:Int}{fa:Addr}:List.lookup ("units":Str) (nO birth bulk tone load fa)=none:=rfl
def GR{birth:Int}{bulk:Int}{tone:Int}{load:Int}{fa:Addr}:List.lookup ("has_field":Str) (nO birth bulk tone load fa)=none:=rfl
def lg(room:Int)(ca:Addr)(used:Int)(born:Int):List (Str×V):=[("room",.int room),("cells",.ref ca),("used",.int used),("born",.int born)]
def Vp{room:Int}{ca:Addr}{used:Int}{born:Int}:List.lookup ("room":Str) (lg room ca used born)=some (.int room:V):=rfl
def bT{room:Int}{ca:Addr}{used:Int}{born:Int}:List.lookup ("cells":Str) (lg room ca used born)=some (.ref ca:V):=rfl
def yq{room:Int}{ca:Addr}{used:Int}{born:Int}:List.lookup ("used":Str) (lg room ca used born)=some (.int used:V):=rfl
def Vq{room:Int}{ca:Addr}{used:Int}{born:Int}:List.lookup ("born":Str) (lg room ca used born)=some (.int born:V):=rfl
def DW{room:Int}{ca:Addr}{used:Int}{born:Int}(y:Int):cB "used" (.int y) (lg room ca used born)=lg room ca y born:=rfl
def R7{room:Int}{ca:Addr}{used:Int}{born:Int}(y:Int):cB "born" (.int y) (lg room ca used born)=lg room ca used y:=rfl
def Zow{room:Int}{ca:Addr}{used:Int}{born:Int}:(cB "born" (.int born) (cB "used" (.int used) (cB "cells" (.ref ca) (cB "room" (.int room) []))))=lg room ca used born:=rfl
def Vm{room:Int}{ca:Addr}{used:Int}{born:Int}:List.lookup ("make":Str) (lg room ca used born)=none:=rfl
def Za2{room:Int}{ca:Addr}{used:Int}{born:Int}:List.lookup ("lay":Str) (lg room ca used born)=none:=rfl
def Vo{room:Int}{ca:Addr}{used:Int}{born:Int}:List.lookup ("back":Str) (lg room ca used born)=none:=rfl
def Vn{room:Int}{ca:Addr}{used:Int}{born:Int}:List.lookup ("free":Str) (lg room ca used born)=none:=rfl
def DX{room:Int}{ca:Addr}{used:Int}{born:Int}:List.lookup ("there":Str) (lg room ca used born)=none:=rfl
def RQ(lk:Addr)(tl:Int):List (Str×V):=[("looking",.ref lk),("tells",.int tl)]
def oK{lk:Addr}{tl:Int}:List.lookup ("looking":Str) (RQ lk tl)=some (.ref lk:V):=rfl
def DQ{lk:Addr}{tl:Int}:List.lookup ("tells":Str) (RQ lk tl)=some (.int tl:V):=rfl
def Zoe{lk:Addr}{tl:Int}:(cB "tells" (.int tl) (cB "looking" (.ref lk) []))=RQ lk tl:=rfl
def Zdh(nm:Str)(sa:Addr):List (Str×V):=[("name",.str nm),("slots",.ref sa)]
def qJ{nm:Str}{sa:Addr}:List.lookup ("slots":Str) (Zdh nm sa)=some (.ref sa:V):=rfl
def Zp0{nm:Str}{sa:Addr}:(cB "slots" (.ref sa) (cB "name" (.str nm) []))=Zdh nm sa:=rfl
def BP(hp:Addr)(ki:Addr)(hl:Addr)(nm:Addr)(sw:Addr):List (Str×V):=[("heap",.ref hp),("kind",.ref ki),("hands",.ref hl),("names",.ref nm),("sweeper",.ref sw)]
def bD{hp:Addr}{ki:Addr}{hl:Addr}{nm:Addr}{sw:Addr}:List.lookup ("heap":Str) (BP hp ki hl nm sw)=some (.ref hp:V):=rfl
def mj{hp:Addr}{ki:Addr}{hl:Addr}{nm:Addr}{sw:Addr}:List.lookup ("kind":Str) (BP hp ki hl nm sw)=some (.ref ki:V):=rfl
def eV{hp:Addr}{ki:Addr}{hl:Addr}{nm:Addr}{sw:Addr}:List.lookup ("hands":Str) (BP hp ki hl nm sw)=some (.ref hl:V):=rfl
def m7{hp:Addr}{ki:Addr}{hl:Addr}{nm:Addr}{sw:Addr}:List.lookup ("names":Str) (BP hp ki hl nm sw)=some (.ref nm:V):=rfl
def bx{hp:Addr}{ki:Addr}{hl:Addr}{nm:Addr}{sw:Addr}:List.lookup ("sweeper":Str) (BP hp ki hl nm sw)=some (.ref sw:V):=rfl
def Zjf{hp:Addr}{ki:Addr}{hl:Addr}{nm:Addr}{sw:Addr}:(cB "sweeper" (.ref sw) (cB "names" (.ref nm) (cB "hands" (.ref hl) (cB "kind" (.ref ki) (cB "heap" (.ref hp) [])))))=BP hp ki hl nm sw:=rfl
def cA(se:Int)(ph:Str)(gr:Addr)(lo:Int)(tu:Int)(at_:Int)(st:Int)(wa:Int)(ls:Int)(pa:Int)(lx:V):List (Str×V):=[("sense",.int se),("phase",.str ph),("grey",.ref gr),("looked",.int lo),("turn",.int tu),("at",.int at_),("stop",.int st),("walks",.int wa),("looks",.int ls),("passes",.int pa),("loss",lx)]
def lC{se:Int}{ph:Str}{gr:Addr}{lo:Int}{tu:Int}{at_:Int}{st:Int}{wa:Int}{ls:Int}{pa:Int}{lx:V}:List.lookup ("sense":Str) (cA se ph gr lo tu at_ st wa ls pa lx)=some (.int se:V):=rfl
def fQ{se:Int}{ph:Str}{gr:Addr}{lo:Int}{tu:Int}{at_:Int}{st:Int}{wa:Int}{ls:Int}{pa:Int}{lx:V}:List.lookup ("phase":Str) (cA se ph gr lo tu at_ st wa ls pa lx)=some (.str ph:V):=rfl
def mq{se:Int}{ph:Str}{gr:Addr}{lo:Int}{tu:Int}{at_:Int}{st:Int}{wa:Int}{ls:Int}{pa:Int}{lx:V}:List.lookup ("grey":Str) (cA se ph gr lo tu at_ st wa ls pa lx)=some (.ref gr:V):=rfl
def iG{se:Int}{ph:Str}{gr:Addr}{lo:Int}{tu:Int}{at_:Int}{st:Int}{wa:Int}{ls:Int}{pa:Int}{lx:V}:List.lookup ("looked":Str) (cA se ph gr lo tu at_ st wa ls pa lx)=some (.int lo:V):=rfl
def nQ{se:Int}{ph:Str}{gr:Addr}{lo:Int}{tu:Int}{at_:Int}{st:Int}{wa:Int}{ls:Int}{pa:Int}{lx:V}:List.lookup ("turn":Str) (cA se ph gr lo tu at_ st wa ls pa lx)=some (.int tu:V):=rfl
def uq{se:Int}{ph:Str}{gr:Addr}{lo:Int}{tu:Int}{at_:Int}{st:Int}{wa:Int}{ls:Int}{pa:Int}{lx:V}:List.lookup ("at":Str) (cA se ph gr lo tu at_ st wa ls pa lx)=some (.int at_:V):=rfl
def uM{se:Int}{ph:Str}{gr:Addr}{lo:Int}{tu:Int}{at_:Int}{st:Int}{wa:Int}{ls:Int}{pa:Int}{lx:V}:List.lookup ("stop":Str) (cA se ph gr lo tu at_ st wa ls pa lx)=some (.int st:V):=rfl
def tQ{se:Int}{ph:Str}{gr:Addr}{lo:Int}{tu:Int}{at_:Int}{st:Int}{wa:Int}{ls:Int}{pa:Int}{lx:V}:List.lookup ("walks":Str) (cA se ph gr lo tu at_ st wa ls pa lx)=some (.int wa:V):=rfl
def o9{se:Int}{ph:Str}{gr:Addr}{lo:Int}{tu:Int}{at_:Int}{st:Int}{wa:Int}{ls:Int}{pa:Int}{lx:V}:List.lookup ("looks":Str) (cA se ph gr lo tu at_ st wa ls pa lx)=some (.int ls:V):=rfl
def qU{se:Int}{ph:Str}{gr:Addr}{lo:Int}{tu:Int}{at_:Int}{st:Int}{wa:Int}{ls:Int}{pa:Int}{lx:V}:List.lookup ("passes":Str) (cA se ph gr lo tu at_ st wa ls pa lx)=some (.int pa:V):=rfl
def Qm{se:Int}{ph:Str}{gr:Addr}{lo:Int}{tu:Int}{at_:Int}{st:Int}{wa:Int}{ls:Int}{pa:Int}{lx:V}:List.lookup ("loss":Str) (cA se ph gr lo tu at_ st wa ls pa lx)=some (lx:V):=rfl
def JR{se:Int}{ph:Str}{gr:Addr}{lo:Int}{tu:Int}{at_:Int}{st:Int}{wa:Int}{ls:Int}{pa:Int}{lx:V}(y:Int):cB "sense" (.int y) (cA se ph gr lo tu at_ st wa ls pa lx)=cA y ph gr lo tu at_ st wa ls pa lx:=rfl
def oG{se:Int}{ph:Str}{gr:Addr}{lo:Int}{tu:Int}{at_:Int}{st:Int}{wa:Int}{ls:Int}{pa:Int}{lx:V}(y:Str):cB "phase" (.str y) (cA se ph gr lo tu at_ st wa ls pa lx)=cA se y gr lo tu at_ st wa ls pa lx:=rfl
def Oi{se:Int}{ph:Str}{gr:Addr}{lo:Int}{tu:Int}{at_:Int}{st:Int}{wa:Int}{ls:Int}{pa:Int}{lx:V}(y:Addr):cB "grey" (.ref y) (cA se ph gr lo tu at_ st wa ls pa lx)=cA se ph y lo tu at_ st wa ls pa lx:=rfl
def vZ{se:Int}{ph:Str}{gr:Addr}{lo:Int}{tu:Int}{at_:Int}{st:Int}{wa:Int}{ls:Int}{pa:Int}{lx:V}(y:Int):cB "looked" (.int y) (cA se ph gr lo tu at_ st wa ls pa lx)=cA se ph gr y tu at_ st wa ls pa lx:=rfl
def Oe{se:Int}{ph:Str}{gr:Addr}{lo:Int}{tu:Int}{at_:Int}{st:Int}{wa:Int}{ls:Int}{pa:Int}{lx:V}(y:Int):cB "turn" (.int y) (cA se ph gr lo tu at_ st wa ls pa lx)=cA se ph gr lo y at_ st wa ls pa lx:=rfl
def Fv{se:Int}{ph:Str}{gr:Addr}{lo:Int}{tu:Int}{at_:Int}{st:Int}{wa:Int}{ls:Int}{pa:Int}{lx:V}(y:Int):cB "at" (.int y) (cA se ph gr lo tu at_ st wa ls pa lx)=cA se ph gr lo tu y st wa ls pa lx:=rfl
def Og{se:Int}{ph:Str}{gr:Addr}{lo:Int}{tu:Int}{at_:Int}{st:Int}{wa:Int}{ls:Int}{pa:Int}{lx:V}(y:Int):cB "stop" (.int y) (cA se ph gr lo tu at_ st wa ls pa lx)=cA se ph gr lo tu at_ y wa ls pa lx:=rfl
def yL{se:Int}{ph:Str}{gr:Addr}{lo:Int}{tu:Int}{at_:Int}{st:Int}{wa:Int}{ls:Int}{pa:Int}{lx:V}(y:Int):cB "walks" (.int y) (cA se ph gr lo tu at_ st wa ls pa lx)=cA se ph gr lo tu at_ st y ls pa lx:=rfl
def qT{se:Int}{ph:Str}{gr:Addr}{lo:Int}{tu:Int}{at_:Int}{st:Int}{wa:Int}{ls:Int}{pa:Int}{lx:V}(y:Int):cB "looks" (.int y) (cA se ph gr lo tu at_ st wa ls pa lx)=cA se ph gr lo tu at_ st wa y pa lx:=rfl
def vY{se:Int}{ph:Str}{gr:Addr}{lo:Int}{tu:Int}{at_:Int}{st:Int}{wa:Int}{ls:Int}{pa:Int}{lx:V}(y:Int):cB "passes" (.int y) (cA se ph gr lo tu at_ st wa ls pa lx)=cA se ph gr lo tu at_ st wa ls y lx:=rfl
def Oh{se:Int}{ph:Str}{gr:Addr}{lo:Int}{tu:Int}{at_:Int}{st:Int}{wa:Int}{ls:Int}{pa:Int}{lx:V}(y:V):cB "loss" (y) (cA se ph gr lo tu at_ st wa ls pa lx)=cA se ph gr lo tu at_ st wa ls pa y:=rfl
def Zjl{se:Int}{ph:Str}{gr:Addr}{lo:Int}{tu:Int}{at_:Int}{st:Int}{wa:Int}{ls:Int}{pa:Int}{lx:V}:(cB "loss" (lx) (cB "passes" (.int pa) (cB "looks" (.int ls) (cB "walks" (.int wa) (cB "stop" (.int st) (cB "at" (.int at_) (cB "turn" (.int tu) (cB "looked" (.int lo) (cB "grey" (.ref gr) (cB "phase" (.str ph) (cB "sense" (.int se) [])))))))))))=cA se ph gr lo tu at_ st wa ls pa lx:=rfl
def rG(K:aB):TS:=
 (aN (ie K (ak 0) (ak 1) "birth")
   (aN (ie K (ak 0) (ak 3) "bulk")
   (aN (ie K (ak 0) (ak 4) "tone")
   (aN (ie K (ak 0) (tC (.int 0)) "load")
   (ie K (ak 0) (bC (Zbw) (iz (aj (tC .non) aD)) (ak 2)) "fields")))))
def xZ(K:aB):TS:=
 (bG (bC (oN λi j=>.int (i+j)) (bC (oN λi j=>.int (i+j)) (tC (.int 1)) (wX (G.lN K) (aj (bw K (ak 0) "fields") aD))) (bw K (ak 0) "bulk")))
def qt(K:aB):TS:=
 (bG (Zet (oN λi j=>.bl (decide (i<=j))) (oN λi j=>.bl (decide (i<j))) (tC (.int 0)) (ak 1) (wX (G.lN K) (aj (bw K (ak 0) "fields") aD))))
def rE(K:aB):TS:=
 (aN (ie K (ak 0) (ak 1) "room")
   (aN (ie K (ak 0) (iz aD) "cells")
   (aN (ie K (ak 0) (tC (.int 0)) "used")
   (ie K (ak 0) (tC (.int 0)) "born"))))
def Ae(K:aB)(bz bR bh:Addr)(JX sr Yg Zbl:Sp)(E:XK):TS:=
 (aN (bF (Bs bz JX [] E0 (aj (bC (oN λi j=>.int (i+j)) (bw K (ak 0) "born") (tC (.int 1))) (aj (ak 1) (aj (ak 2) (aj (ak 3) aD))))) (aO 4))
   (aN (eE (cg (bC (oN λi j=>.bl (decide (j<i))) (lX bz "units" sr [] E0 (ak 4) aD) (lX bh "free" Yg [] E0 (ak 0) aD))) (G.JN bR E (aj (tC (.str "the room does not suffice")) aD)) cu)
   (aN (ie K (ak 0) (bw K (ak 4) "birth") "born")
   (aN (ie K (ak 0) (bC (oN λi j=>.int (i+j)) (bw K (ak 0) "used") (lX bz "units" sr [] E0 (ak 4) aD)) "used")
   (bG (lX bh "lay" Zbl [] E0 (ak 0) (aj (ak 4) aD)))))))
def Dd(K:aB):TS:=
 (aN (eE (cg (bC (G.Zum K true) (tC .non) (bw K (ak 0) "cells"))) (aN (vX (tBM K "list" Ah (bw K (ak 0) "cells") (aj (ak 1) aD)))
   (bG (bC (oN λi j=>.int (i - j)) (wX (G.lN K) (aj (bw K (ak 0) "cells") aD)) (tC (.int 1))))) cu)
   (aN (bF (tBM K "list" (G.Zii K) (bw K (ak 0) "cells") (aj (tC .non) aD)) (aO 2))
   (aN (bF (ak 1) (R9 (bw K (ak 0) "cells") (ak 2) Fw))
   (bG (ak 2)))))
def Ag(K:aB)(bz:Addr)(sr:Sp):TS:=
 (aN (bF (bC (mO K) (bw K (ak 0) "cells") (ak 1)) (aO 2))
   (aN (ie K (ak 0) (bC (oN λi j=>.int (i - j)) (bw K (ak 0) "used") (lX bz "units" sr [] E0 (ak 2) aD)) "used")
   (aN (bF (tC .non) (R9 (bw K (ak 0) "cells") (ak 1) Fw))
   (bG (bw K (ak 2) "birth")))))
def Af(K:aB):TS:=
 (bG (bC (oN λi j=>.int (i - j)) (bw K (ak 0) "room") (bw K (ak 0) "used")))
def xY(K:aB):TS:=
 (bG (G.tLC (FW (aj (wX (G.lN K) (aj (bw K (ak 0) "cells") aD)) aD)) [0] (cg (bC (G.De) (bC (mO K) (bw K (ak 1) "cells") (ak 0)) (tC .non))) (ak 0)))
def GD(K:aB):TS:=
 (aN (eE ((XJ (cg (bC (G.Um) (ak 1) (tC .non))) (XJ (cg (bC (oN λi j=>.bl (decide (i<j))) (ak 1) (tC (.int 0)))) (cg (bC (oN λi j=>.bl (decide (j<=i))) (ak 1) (wX (G.lN K) (aj (bw K (ak 0) "cells") aD))))))) (bG (tC .non)) cu)
   (bG (bC (mO K) (bw K (ak 0) "cells") (ak 1))))
def Dc(K:aB)(jW:Sp):TS:=
 (aN (bF (aQ jW [] E0 (aj (ak 0) (aj (ak 1) aD))) (aO 2))
   (aN (eE (cg (bC (G.Um) (ak 2) (tC .non))) (bG (tC .non)) cu)
   (bG (bw K (ak 2) "birth"))))
def zR(K:aB)(Wy:Sp):TS:=
 (aN (bF (iz aD) (aO 2))
   (aN (yK (G.Zdg K (aj (ak 1) aD)) (Zp5 K 2 (Jm (aO 3) (Jm (aO 4) Zp6)))
   (vX (tBM K "list" Pa (ak 2) (aj (aQ Wy [] E0 (aj (ak 0) (aj (ak 4) (aj (gf (aj (ak 3) aD)) aD)))) aD))))
   (aN (bF (Qk) (aO 5))
   (aN (bF (tC (.int 0)) (aO 6))
   (aN (Zm3 (cg (bC (oN λi j=>.bl (decide (i<j))) (ak 6) (wX (G.lN K) (aj (ak 2) aD)))) (aN (bF (bC (fL K) (bC (mO K) (ak 2) (ak 6)) (tC (.int 0))) (aO 7))
   (aN (bF (bC (fL K) (bC (mO K) (ak 2) (ak 6)) (tC (.int 1))) (aO 8))
   (aN (bF (bC (oN λi j=>.int (i+j)) (ak 6) (tC (.int 1))) (aO 6))
   (eE (tB (G.Zm8 true (ak 7) (ak 5))) (aN (QL (ak 5) (ak 7) (ak 8))
   (vX (tBM K "list" Pa (ak 2) (aj (aQ Wy [] E0 (aj (ak 0) (aj (bw K (bC (mO K) (bw K (ak 0) "cells") (ak 7)) "fields") (aj (ak 8) aD)))) aD)))) cu)))))
   (bG (wX (G.Zi3) (aj (G.Zes (ak 5)) aD))))))))
def El(K:aB)(jW:Sp):TS:=
 (bG (G.Zm7 K (G.Zdg K (aj (ak 1) aD)) [0,2] (cg (bC (G.De) (aQ jW [] E0 (aj (ak 2) (aj (ak 1) aD))) (tC .non))) (gf (aj (ak 1) (aj (bC (Ztm K) (ak 3) (gf (aj (ak 0) aD))) aD)))))
def rF(K:aB):TS:=
 (aN (ie K (ak 0) (ak 1) "name")
   (ie K (ak 0) (bC (Zbw) (iz (aj (tC .non) aD)) (ak 2)) "slots"))
def oU(K:aB):TS:=
 (aN (ie K (ak 0) (tC (.int 0)) "sense")
   (aN (ie K (ak 0) (tC (.str "rest")) "phase")
   (aN (ie K (ak 0) (iz aD) "grey")
   (aN (ie K (ak 0) (tC (.int 0)) "looked")
   (aN (ie K (ak 0) (tC (.int 0)) "turn")
   (aN (ie K (ak 0) (tC (.int 0)) "at")
   (aN (ie K (ak 0) (tC (.int 0)) "stop")
   (aN (ie K (ak 0) (tC (.int 0)) "walks")
   (aN (ie K (ak 0) (tC (.int 0)) "looks")
   (aN (ie K (ak 0) (tC (.int 0)) "passes")
   (ie K (ak 0) (tC .non) "loss")))))))))))
def qi(K:aB)(lW bh bJ:Addr)(JW JV Ey:Sp):TS:=
 (aN (ie K (ak 0) (Bs bh JV [] E0 (aj (ak 1) aD)) "heap")
   (aN (ie K (ak 0) (ak 2) "kind")
   (aN (ie K (ak 0) (G.Zm7 K (qI K (ak 3)) [] G.vW (Bs lW JW [] E0 (aj (ak 0) (aj (ak 1) aD)))) "hands")
   (aN (ie K (ak 0) (Qk) "names")
   (ie K (ak 0) (Bs bJ Ey [] E0 aD) "sweeper")))))
def YL(K:aB):TS:=
 (bG (G.tLC (qI K (bw K (ak 0) "hands")) [] G.vW (wX (G.Mp K) (aj (bw K (ak 0) "slots") aD))))
def uX(K:aB)(p7:Sp):TS:=
 (bG (G.tLC (qI K (bw K (ak 0) "hands")) [0] G.vW (aQ p7 [] E0 (aj (bw K (ak 1) "heap") (aj (bw K (ak 0) "slots") aD)))))
def zW(K:aB)(eN:Sp):TS:=
 (bG (G.tLC (qI K (ak 1)) [0] G.vW (aQ eN [] E0 (aj (ak 1) (aj (ak 0) aD)))))
def zT(K:aB):TS:=
 (bG (bC (By) (bC (oN λi j=>.int (Builtin.bitAnd i j)) (bC (rI (λ_ j=>0<=j) λi j=>.int (i / 2 ^ j.toNat)) (bw K (bw K (ak 0) "sweeper") "looked") (ak 1)) (tC (.int 1))) (tC (.int 1))))
def zU(K:aB):TS:=
 (bG (bC (By) (bw K (ak 1) "tone") (bw K (bw K (ak 0) "sweeper") "sense")))
def xO(K:aB):TS:=
 (bG (bC (rIn K false) (bw K (bw K (ak 0) "sweeper") "phase") (gf (aj (tC (.str "walk")) (aj (tC (.str "lost")) aD)))))
def Gq(K:aB)(eZ:Sp):TS:=
 (aN (bF (bw K (ak 0) "sweeper") (aO 2))
   (aN (bF (aQ eZ [] E0 (aj (ak 0) (aj (bC (mO K) (bw K (bw K (ak 0) "heap") "cells") (ak 1)) aD))) (aO 3))
   (aN (eE (cg (bC (By) (bw K (ak 2) "phase") (tC (.str "rest")))) (bG (tC (.str "kept"))) cu)
   (aN (eE (cg (bC (By) (bw K (ak 2) "phase") (tC (.str "give")))) (bG (tIf (tB (ak 3)) (tC (.str "kept")) (tC (.str "doomed")))) cu)
   (aN (eE (zq (tB (ak 3))) (bG (tC (.str "pale"))) cu)
   (bG (tIf (cg (bC (rIn K false) (ak 1) (bw K (ak 2) "grey"))) (tC (.str "grey")) (tC (.str "dark")))))))))
def xJ(K:aB)(bh:Addr)(xj XS:Sp):TS:=
 (bG (G.tLC (qI K (lX bh "there" xj [] E0 (bw K (ak 0) "heap") aD)) [0] G.vW (aQ XS [] E0 (aj (ak 1) (aj (ak 0) aD)))))
def zQ(K:aB)(p7 Zey:Sp):TS:=
 (aN (bF (bC (mO K) (bw K (bw K (ak 0) "heap") "cells") (ak 1)) (aO 2))
   (aN (bF (aQ p7 [] E0 (aj (bw K (ak 0) "heap") (aj (bw K (ak 2) "fields") aD))) (aO 3))
   (bG (gf (aj (ak 1) (aj (bw K (ak 2) "birth") (aj (bw K (ak 2) "bulk") (aj (bw K (ak 2) "load") (aj (ak 3) (aj (aQ Zey [] E0 (aj (ak 0) (aj (ak 1) aD))) aD))))))))))
def QW(K:aB)(fB dN gq:Addr)(Ht um:Sp):TS:=
 (aN (bF (bw K (ak 0) "sweeper") (aO 1))
   (aN (ie K (ak 1) (bC (oN λi j=>.int (i - j)) (tC (.int 1)) (bw K (ak 1) "sense")) "sense")
   (aN (ie K (ak 1) (bC (oN λi j=>.int (i+j)) (bw K (ak 1) "turn") (tC (.int 1))) "turn")
   (aN (ie K (ak 1) (tC (.str "walk")) "phase")
   (aN (ie K (ak 1) (iz aD) "grey")
   (aN (ie K (ak 1) (G.JP (lX dN "at_begin" Ht [] E0 (bw K (bw K (ak 0) "kind") "looking") (aj (wX (G.lN K) (aj (bw K (ak 0) "hands") aD)) aD)) (G.JP (lX fB "at_begin" um [] E0 (bw K (bw K (ak 0) "kind") "looking") (aj (wX (G.lN K) (aj (bw K (ak 0) "hands") aD)) aD)) (lX gq "at_begin" um [] E0 (bw K (bw K (ak 0) "kind") "looking") (aj (wX (G.lN K) (aj (bw K (ak 0) "hands") aD)) aD)))) "looked")
   (aN (ie K (ak 1) (tC (.int 0)) "walks")
   (aN (ie K (ak 1) (tC (.int 0)) "looks")
   (ie K (ak 1) (tC (.int 0)) "passes")))))))))
def YK(K:aB)(jW eZ:Sp):TS:=
 (aN (bF (bw K (ak 0) "sweeper") (aO 2))
   (aN (bF (aQ jW [] E0 (aj (bw K (ak 0) "heap") (aj (ak 1) aD))) (aO 3))
   (aN (eE ((XJ (cg (bC (rNe) (bw K (ak 2) "phase") (tC (.str "walk")))) (XJ (cg (bC (G.Um) (ak 3) (tC .non))) (tB (aQ eZ [] E0 (aj (ak 0) (aj (ak 3) aD))))))) (bG (tC .non)) cu)
   (aN (ie K (ak 3) (bw K (ak 2) "sense") "tone")
   (aN (vX (tBM K "list" Ah (bw K (ak 2) "grey") (aj (ak 1) aD)))
   (bG (bw K (ak 3) "birth")))))))
def CV(K:aB)(Zq6:Sp):TS:=
 (aN (bF (iz aD) (aO 2))
   (aN (yK (qI K (ak 1)) (aO 3)
   (aN (bF (aQ Zq6 [] E0 (aj (ak 0) (aj (ak 3) aD))) (aO 4))
   (eE (cg (bC (G.De) (ak 4) (tC .non))) (vX (tBM K "list" Ah (ak 2) (aj (ak 4) aD))) cu)))
   (bG (ak 2))))
def YM(K:aB)(jW eZ:Sp):TS:=
 (aN (bF (aQ jW [] E0 (aj (bw K (ak 0) "heap") (aj (ak 1) aD))) (aO 3))
   (aN (eE ((XJ (cg (bC (G.Um) (ak 3) (tC .non))) (cg (bC (rNe) (bw K (ak 3) "birth") (ak 2))))) (bG (tC (.bl true))) cu)
   (bG ((Zie (bC (By) (bw K (bw K (ak 0) "sweeper") "phase") (tC (.str "give"))) (Zid (aQ eZ [] E0 (aj (ak 0) (aj (ak 3) aD)))))))))
def QV(K:aB)(Zq7 Zew:Sp)(H0:Hp):TS:=
 (bG (bC (yc) (aQ Zq7 [] E0 (aj (ak 0) aD)) (iz (aj (G.Zm5 H0 (G.Zm7 K (G.Zos (G.Zm4 (bw K (ak 0) "names"))) [0] G.vW (aQ Zew [] E0 (aj (ak 2) (aj (ak 0) (aj (ak 1) aD)))))) aD))))
def Gp(K:aB)(X3 eZ Tu:Sp):TS:=
 (aN (eE (tB (aQ X3 [] E0 (aj (ak 0) (aj (ak 1) (aj (ak 2) aD))))) (bG (tC .non)) cu)
   (aN (eE ((Zbh (tB (aQ Tu [] E0 (aj (ak 0) aD))) (zq (tB (aQ eZ [] E0 (aj (ak 0) (aj (bC (mO K) (bw K (bw K (ak 0) "heap") "cells") (ak 1)) aD))))))) (bG (tC .non)) cu)
   (bG (ak 1))))
def xN(K:aB)(lF:Sp):TS:=
 (aN (bF (iz aD) (aO 2))
   (aN (yK (G.Zdg K (aj (bw K (ak 0) "hands") aD)) (Zp5 K 2 (Jm (aO 3) (Jm (aO 4) Zp6)))
   (eE (cg (bC (By) (bC (oN λi j=>.int (Builtin.bitAnd i j)) (bC (rI (λ_ j=>0<=j) λi j=>.int (i / 2 ^ j.toNat)) (ak 1) (ak 3)) (tC (.int 1))) (tC (.int 1)))) (vX (tBM K "list" Pa (ak 2) (aj (aQ lF [] E0 (aj (ak 0) (aj (bw K (ak 4) "slots") aD))) aD))) cu))
   (bG (ak 2))))
def t7(K:aB)(Zmc oZ:Sp):TS:=
 (aN (vX (aQ Zmc [] E0 (aj (ak 0) aD)))
   (aN (bF (aQ oZ [] E0 (aj (ak 0) (aj (bw K (bw K (ak 0) "sweeper") "looked") aD))) (aO 1))
   (bG (gf (aj (tC (.str "begin")) (aj (bw K (bw K (ak 0) "sweeper") "turn") (aj (ak 1) aD)))))))
def tY(K:aB)(Qs Zq5:Sp):TS:=
 (aN (eE (G.Zu7 K (bw K (bw K (ak 0) "sweeper") "grey")) (bG (aQ Zq5 [] E0 (aj (ak 0) aD))) cu)
   (bG (aQ Qs [] E0 (aj (ak 0) aD))))
def YH(K:aB)(lF:Sp):TS:=
 (aN (bF (bw K (ak 0) "sweeper") (aO 1))
   (aN (bF (bC (mO K) (bw K (bw K (ak 0) "heap") "cells") (tBM K "list" Zmm (bw K (ak 1) "grey") (aj (tC (.int 0)) aD))) (aO 2))
   (aN (ie K (ak 1) (bC (oN λi j=>.int (i+j)) (bw K (ak 1) "walks") (tC (.int 1))) "walks")
   (bG (gf (aj (tC (.str "walk")) (aj (bw K (ak 2) "birth") (aj (aQ lF [] E0 (aj (ak 0) (aj (bw K (ak 2) "fields") aD))) aD))))))))
def oR(K:aB)(fB dN gq:Addr)(rZ jQ Zf6 oZ:Sp):TS:=
 (aN (bF (aQ oZ [] E0 (aj (ak 0) (aj (ak 3) aD))) (aO 4))
   (aN (eE ((XJ (cg (bC (By) (ak 3) (tC (.int 0)))) (zq ((XJ (tB (G.JP (lX dN "stays" jQ [] E0 (ak 2) aD) (G.JP (lX fB "stays" jQ [] E0 (ak 2) aD) (lX gq "stays" rZ [] E0 (ak 2) aD)))) (G.Zu7 K (ak 4))))))) (bG (aQ Zf6 [] E0 (aj (ak 0) aD))) cu)
   (aN (ie K (ak 1) (bC (oN λi j=>.int (i+j)) (bw K (ak 1) "looks") (tC (.int 1))) "looks")
   (aN (eE (tB (G.JP (lX dN "stays" jQ [] E0 (ak 2) aD) (G.JP (lX fB "stays" jQ [] E0 (ak 2) aD) (lX gq "stays" rZ [] E0 (ak 2) aD)))) (ie K (ak 1) (bC (oN λi j=>.int (Builtin.bitOr i j)) (bw K (ak 1) "looked") (ak 3)) "looked") cu)
   (bG (gf (aj (tC (.str "look")) (aj (ak 3) (aj (ak 4) aD)))))))))
def uW(K:aB)(fB dN gq:Addr)(Hu Hs rZ BX jQ Zf6 oZ:Sp):TS:=
 (aN (bF (bw K (ak 0) "sweeper") (aO 1))
   (aN (bF (bw K (bw K (ak 0) "kind") "looking") (aO 2))
   (aN (bF (G.JP (lX dN "next_look" BX [] E0 (ak 2) (aj (bw K (ak 1) "looked") (aj (wX (G.lN K) (aj (bw K (ak 0) "hands") aD)) aD))) (G.JP (lX fB "next_look" Hu [] E0 (ak 2) (aj (bw K (ak 1) "looked") (aj (wX (G.lN K) (aj (bw K (ak 0) "hands") aD)) aD))) (lX gq "next_look" Hs [] E0 (ak 2) (aj (bw K (ak 1) "looked") (aj (wX (G.lN K) (aj (bw K (ak 0) "hands") aD)) aD))))) (aO 3))
   (oR K fB dN gq rZ jQ Zf6 oZ))))
def Zfw(K:aB)(p7 Tv Zbj wY:Sp):TS:=
 (aN (bF (bw K (ak 0) "sweeper") (aO 1))
   (aN (ie K (ak 1) (wX (G.lN K) (aj (bw K (bw K (ak 0) "heap") "cells") aD)) "stop")
   (aN (ie K (ak 1) (tC (.int 0)) "at")
   (aN (bF (aQ Tv [] E0 (aj (ak 0) aD)) (aO 2))
   (aN (eE (cg (bC (G.De) (ak 2) (tC .non))) (aN (ie K (ak 1) (tC (.str "lost")) "phase")
   (aN (ie K (ak 1) (ak 2) "loss")
   (bG (aQ wY [] E0 (aj (ak 2) aD))))) cu)
   (aN (ie K (ak 1) (tC (.str "give")) "phase")
   (aN (bF (aQ p7 [] E0 (aj (bw K (ak 0) "heap") (aj (aQ Zbj [] E0 (aj (ak 0) aD)) aD))) (aO 3))
   (bG (gf (aj (tC (.str "cut")) (aj (wX (G.lN K) (aj (ak 3) aD)) (aj (ak 3) aD))))))))))))
def xP(K:aB)(eZ Zex Zmb:Sp):TS:=
 (aN (yK (qI K (aQ Zex [] E0 (aj (bw K (ak 0) "heap") (aj (aQ Zmb [] E0 (aj (ak 0) aD)) aD)))) (Zp5 K 2 (Jm (aO 1) (Jm (aO 2) Zp6)))
   (aN (bF (bC (mO K) (bw K (bw K (ak 0) "heap") "cells") (ak 1)) (aO 3))
   (eE (zq (tB (aQ eZ [] E0 (aj (ak 0) (aj (ak 3) aD))))) (bG (gf (aj (tC (.str "lost")) (aj (bw K (ak 3) "birth") (aj (wX (G.Zps K) (aj (ak 2) aD)) aD))))) cu)))
   (bG (tC .non)))
def CW(K:aB)(bh:Addr)(xj eZ:Sp):TS:=
 (aN (bF (bw K (ak 0) "heap") (aO 1))
   (bG (G.tLC (qI K (lX bh "there" xj [] E0 (ak 1) aD)) [0,1] (zq (tB (aQ eZ [] E0 (aj (ak 1) (aj (bC (mO K) (bw K (ak 2) "cells") (ak 0)) aD))))) (ak 0))))
def xK(K:aB):TS:=
 (bG (gf (aj (bC (fL K) (ak 0) (tC (.int 0))) (aj (bC (fL K) (ak 0) (tC (.int 1))) (aj (wX (G.Mp K) (aj (bC (fL K) (ak 0) (tC (.int 2))) aD)) aD)))))
def tZ(K:aB)(Zuc Tt:Sp):TS:=
 (aN (eE (cg (bC (oN λi j=>.bl (decide (i<j))) (bw K (bw K (ak 0) "sweeper") "at") (bw K (bw K (ak 0) "sweeper") "stop"))) (bG (aQ Tt [] E0 (aj (ak 0) aD))) cu)
   (bG (aQ Zuc [] E0 (aj (ak 0) aD))))
def xM(K:aB)(bh:Addr)(Yh jW eZ:Sp):TS:=
 (aN (bF (bw K (ak 0) "sweeper") (aO 1))
   (aN (bF (bw K (ak 1) "at") (aO 2))
   (aN (ie K (ak 1) (bC (oN λi j=>.int (i+j)) (ak 2) (tC (.int 1))) "at")
   (aN (ie K (ak 1) (bC (oN λi j=>.int (i+j)) (bw K (ak 1) "passes") (tC (.int 1))) "passes")
   (aN (bF (aQ jW [] E0 (aj (bw K (ak 0) "heap") (aj (ak 2) aD))) (aO 3))
   (aN (eE ((XJ (cg (bC (G.Um) (ak 3) (tC .non))) (tB (aQ eZ [] E0 (aj (ak 0) (aj (ak 3) aD)))))) (bG (gf (aj (tC (.str "pass")) (aj (ak 2) (aj (iz aD) aD))))) cu)
   (bG (gf (aj (tC (.str "back")) (aj (lX bh "back" Yh [] E0 (bw K (ak 0) "heap") (aj (ak 2) aD)) (aj (iz (aj (ak 2) aD)) aD)))))))))))
def Zfv(K:aB):TS:=
 (aN (bF (bw K (ak 0) "sweeper") (aO 1))
   (aN (ie K (ak 1) (tC (.str "rest")) "phase")
   (bG (gf (aj (tC (.str "end")) (aj (bw K (ak 1) "turn") (aj (iz (aj (bw K (ak 1) "walks") (aj (bw K (ak 1) "looks") (aj (bw K (ak 1) "passes") aD)))) aD)))))))
def qb(K:aB)(wY:Sp):TS:=
 (bG (aQ wY [] E0 (aj (bw K (bw K (ak 0) "sweeper") "loss") aD)))
def YJ(K:aB)(cT cR cQ bV:Addr)(Ot Oq Oo Hq:Sp):TS:=
 (aN (bF (G.Zq3 [("rest",cT),("walk",cQ),("give",cR),("lost",bV)] (bw K (bw K (ak 0) "sweeper") "phase")) (aO 1))
   (bG (G.XN 1 [(cT,Ot),(cQ,Oo),(cR,Oq),(bV,Hq)] E0 (aj (ak 0) aD))))
def Kr:TS:=
 (bG (bC (oN λi j=>.int (i - j)) (bC (rI Wb λi j=>.int (i * 2 ^ j.toNat)) (tC (.int 1)) (ak 0)) (tC (.int 1))))
def oW:TS:=
 (bG (tC (.int 0)))
def nR:TS:=
 (bG (tC (.int 0)))
def rC:TS:=
 (bG (tC (.bl true)))
def qm(JT:Sp):TS:=
 (bG (aQ JT [] E0 (aj (ak 1) aD)))
def qp:TS:=
 (aN (yK (FW (aj (ak 2) aD)) (aO 3)
   (eE (cg (bC (By) (bC (oN λi j=>.int (Builtin.bitAnd i j)) (bC (rI (λ_ j=>0<=j) λi j=>.int (i / 2 ^ j.toNat)) (ak 1) (ak 3)) (tC (.int 1))) (tC (.int 0)))) (bG (bC (rI Wb λi j=>.int (i * 2 ^ j.toNat)) (tC (.int 1)) (ak 3))) cu))
   (bG (tC (.int 0))))
def qj(JT:Sp):TS:=
 (bG (aQ JT [] E0 (aj (ak 2) aD)))
def xX:TS:=
 (bG (tC (.bl false)))
def rD(K:aB):TS:=
 (aN (ie K (ak 0) (ak 1) "looking")
   (ie K (ak 0) (ak 2) "tells"))
def CT(K:aB):TS:=
 (bG (bw K (bC (mO K) (bw K (ak 0) "hands") (ak 1)) "slots"))
def Gz(K:aB)(aK:Addr)(jW dz:Sp)(E:XK):TS:=
 (aN (bF (aQ jW [] E0 (aj (bw K (ak 0) "heap") (aj (bC (mO K) (aQ dz [] E0 (aj (ak 0) (aj (ak 1) aD))) (ak 2)) aD))) (aO 3))
   (aN (eE (cg (bC (G.Um) (ak 3) (tC .non))) (G.JN aK E (aj (tC (.str "the slot holds no cell")) aD)) cu)
   (bG (ak 3))))
def zV(K:aB)(bz aR:Addr)(Hv pF:Sp)(E:XK):TS:=
 (aN (bF (aQ pF [] E (aj (ak 0) (aj (ak 1) (aj (ak 2) aD)))) (aO 4))
   (aN (eE (zq (tB (lX bz "has_field" Hv [] E0 (ak 4) (aj (ak 3) aD)))) (G.JN aR E (aj (tC (.str "the cell does not have the field")) aD)) cu)
   (bG (bw K (ak 4) "fields"))))
def uT(K:aB):TS:=
 (aN (eE (cg (bC (By) (bC (oN λi j=>.int (Builtin.bitAnd i j)) (bw K (bw K (ak 0) "kind") "tells") (tC (.int 1))) (tC (.int 0)))) (bG (iz aD)) cu)
   (bG (iz (aj (ak 1) aD))))
def uU(K:aB)(XX:Sp):TS:=
 (aN (eE ((XJ (cg (bC (By) (bC (oN λi j=>.int (Builtin.bitAnd i j)) (bw K (bw K (ak 0) "kind") "tells") (tC (.int 2))) (tC (.int 0)))) (tB (aQ XX [] E0 (aj (ak 0) (aj (ak 1) aD)))))) (bG (iz aD)) cu)
   (bG (iz (aj (ak 2) aD))))
def Gv(K:aB)(bh:Addr)(Ye eN dz:Sp)(E:XK):TS:=
 (aN (bF (aQ dz [] E0 (aj (ak 0) (aj (bC (fL K) (ak 1) (tC (.int 1))) aD))) (aO 2))
   (aN (bF (bC (fL K) (ak 1) (tC (.int 3))) (aO 3))
   (aN (bF (bC (fL K) (ak 1) (tC (.int 4))) (aO 4))
   (aN (bF (lX bh "make" Ye [] E (bw K (ak 0) "heap") (aj (ak 3) (aj (ak 4) (aj (bw K (bw K (ak 0) "sweeper") "sense") aD)))) (aO 5))
   (aN (bF (ak 5) (R9 (ak 2) (bC (fL K) (ak 1) (tC (.int 2))) Fw))
   (bG (gf (aj (tC (.str "made")) (aj (aQ eN [] E0 (aj (bw K (ak 0) "heap") (aj (ak 5) aD))) (aj (iz aD) aD))))))))))
def Kq(K:aB)(eN zx dz:Sp)(E:XK):TS:=
 (aN (bF (bC (fL K) (ak 1) (tC (.int 1))) (aO 2))
   (aN (bF (bC (fL K) (ak 1) (tC (.int 3))) (aO 3))
   (aN (bF (bC (fL K) (ak 1) (tC (.int 4))) (aO 4))
   (aN (bF (bC (mO K) (aQ zx [] E (aj (ak 0) (aj (ak 2) (aj (ak 3) (aj (ak 4) aD))))) (ak 4)) (aO 5))
   (aN (bF (ak 5) (R9 (aQ dz [] E0 (aj (ak 0) (aj (ak 2) aD))) (bC (fL K) (ak 1) (tC (.int 2))) Fw))
   (bG (gf (aj (tC (.str "got")) (aj (aQ eN [] E0 (aj (bw K (ak 0) "heap") (aj (ak 5) aD))) (aj (iz aD) aD))))))))))
def Ko(K:aB)(eN zx lF dz uN Qp:Sp)(E:XK):TS:=
 (aN (bF (bC (fL K) (ak 1) (tC (.int 1))) (aO 2))
   (aN (bF (bC (fL K) (ak 1) (tC (.int 3))) (aO 3))
   (aN (bF (aQ zx [] E (aj (ak 0) (aj (ak 2) (aj (bC (fL K) (ak 1) (tC (.int 2))) (aj (ak 3) aD))))) (aO 4))
   (aN (bF (bC (mO K) (ak 4) (ak 3)) (aO 5))
   (aN (bF (bC (mO K) (aQ dz [] E0 (aj (ak 0) (aj (ak 2) aD))) (bC (fL K) (ak 1) (tC (.int 4)))) (aO 6))
   (aN (bF (ak 6) (R9 (ak 4) (ak 3) Fw))
   (aN (bF (aQ lF [] E0 (aj (ak 0) (aj (bC (yc) (aQ Qp [] E0 (aj (ak 0) (aj (ak 5) aD))) (aQ uN [] E0 (aj (ak 0) (aj (ak 2) (aj (ak 6) aD))))) aD))) (aO 7))
   (bG (gf (aj (tC (.str "put")) (aj (aQ eN [] E0 (aj (bw K (ak 0) "heap") (aj (ak 5) aD))) (aj (ak 7) aD))))))))))))
def Gy(K:aB)(eN dz:Sp):TS:=
 (aN (bF (aQ dz [] E0 (aj (ak 0) (aj (bC (fL K) (ak 1) (tC (.int 1))) aD))) (aO 2))
   (aN (bF (bC (mO K) (ak 2) (bC (fL K) (ak 1) (tC (.int 3)))) (aO 3))
   (aN (bF (ak 3) (R9 (ak 2) (bC (fL K) (ak 1) (tC (.int 2))) Fw))
   (bG (gf (aj (tC (.str "copied")) (aj (aQ eN [] E0 (aj (bw K (ak 0) "heap") (aj (ak 3) aD))) (aj (iz aD) aD))))))))
def Gx(K:aB)(eN dz:Sp):TS:=
 (aN (bF (aQ dz [] E0 (aj (ak 0) (aj (bC (fL K) (ak 1) (tC (.int 1))) aD))) (aO 2))
   (aN (bF (bC (mO K) (ak 2) (bC (fL K) (ak 1) (tC (.int 2)))) (aO 3))
   (aN (bF (tC .non) (R9 (ak 2) (bC (fL K) (ak 1) (tC (.int 2))) Fw))
   (bG (gf (aj (tC (.str "dropped")) (aj (aQ eN [] E0 (aj (bw K (ak 0) "heap") (aj (ak 3) aD))) (aj (iz aD) aD))))))))
def Gw(K:aB)(eN lF dz uN:Sp):TS:=
 (aN (bF (bC (fL K) (ak 1) (tC (.int 1))) (aO 2))
   (aN (bF (bC (fL K) (ak 1) (tC (.int 3))) (aO 3))
   (aN (bF (bC (mO K) (aQ dz [] E0 (aj (ak 0) (aj (ak 2) aD))) (bC (fL K) (ak 1) (tC (.int 2)))) (aO 4))
   (aN (bF (ak 4) (R9 (aQ dz [] E0 (aj (ak 0) (aj (ak 3) aD))) (bC (fL K) (ak 1) (tC (.int 4))) Fw))
   (aN (bF (aQ lF [] E0 (aj (ak 0) (aj (aQ uN [] E0 (aj (ak 0) (aj (ak 2) (aj (ak 4) aD)))) aD))) (aO 5))
   (bG (gf (aj (tC (.str "given")) (aj (aQ eN [] E0 (aj (bw K (ak 0) "heap") (aj (ak 4) aD))) (aj (ak 5) aD))))))))))
def CZ(K:aB)(pF:Sp)(E:XK):TS:=
 (aN (bF (aQ pF [] E (aj (ak 0) (aj (bC (fL K) (ak 1) (tC (.int 1))) (aj (bC (fL K) (ak 1) (tC (.int 2))) aD)))) (aO 2))
   (aN (bF (bw K (ak 2) "load") (aO 3))
   (aN (ie K (ak 2) (bC (fL K) (ak 1) (tC (.int 3))) "load")
   (bG (gf (aj (tC (.str "wrote")) (aj (ak 3) (aj (iz aD) aD))))))))
def Gs(K:aB)(pF:Sp)(E:XK):TS:=
 (aN (bF (aQ pF [] E (aj (ak 0) (aj (bC (fL K) (ak 1) (tC (.int 1))) (aj (bC (fL K) (ak 1) (tC (.int 2))) aD)))) (aO 2))
   (bG (gf (aj (tC (.str "read")) (aj (bw K (ak 2) "load") (aj (iz aD) aD))))))
def Gu(K:aB)(pF dz:Sp)(E:XK):TS:=
 (aN (bF (bC (fL K) (ak 1) (tC (.int 1))) (aO 2))
   (aN (bF (bC (fL K) (ak 1) (tC (.int 2))) (aO 3))
   (aN (bF (bw K (aQ pF [] E (aj (ak 0) (aj (ak 2) (aj (ak 3) aD)))) "birth") (aO 4))
   (aN (QL (bw K (ak 0) "names") (bC (fL K) (ak 1) (tC (.int 3))) (gf (aj (bC (mO K) (aQ dz [] E0 (aj (ak 0) (aj (ak 2) aD))) (ak 3)) (aj (ak 4) aD))))
   (bG (gf (aj (tC (.str "named")) (aj (ak 4) (aj (iz aD) aD)))))))))
def Gr(K:aB)(eN lF Qq dz:Sp)(E:XK):TS:=
 (aN (bF (aQ Qq [] E (aj (ak 0) (aj (bC (fL K) (ak 1) (tC (.int 3))) aD))) (aO 2))
   (aN (bF (ak 2) (R9 (aQ dz [] E0 (aj (ak 0) (aj (bC (fL K) (ak 1) (tC (.int 1))) aD))) (bC (fL K) (ak 1) (tC (.int 2))) Fw))
   (aN (bF (aQ lF [] E0 (aj (ak 0) (aj (iz (aj (ak 2) aD)) aD))) (aO 3))
   (bG (gf (aj (tC (.str "sought")) (aj (aQ eN [] E0 (aj (bw K (ak 0) "heap") (aj (ak 2) aD))) (aj (ak 3) aD))))))))
def uV(K:aB)(bA:Addr)(X3:Sp)(E:XK):TS:=
 (aN (eE (tB (XM (ak 1) (bw K (ak 0) "names"))) (G.JN bA E (aj (tC (.str "the weak name was never given")) aD)) cu)
   (aN (bF (bC (fL K) (Ql (bw K (ak 0) "names") (ak 1)) (tC (.int 0))) (aO 2))
   (aN (bF (bC (fL K) (Ql (bw K (ak 0) "names") (ak 1)) (tC (.int 1))) (aO 3))
   (aN (eE (tB (aQ X3 [] E0 (aj (ak 0) (aj (ak 2) (aj (ak 3) aD))))) (bG (tC .non)) cu)
   (bG (ak 2))))))
def Zmk(K:aB)(gY gW jz gU gR gQ jx gP gO fD:Addr)(Zf5 Zf4 Zjo Zf3 Zf2 Zf1 Zjn Zf0 Zez Zbk:Sp)(E:XK):TS:=
 (aN (bF (G.Zq3 [("make",gR),("get",jz),("put",jx),("copy",gY),("drop",gW),("give",gU),("write",fD),("read",gP),("name",gQ),("seek",gO)] (bC (fL K) (ak 1) (tC (.int 0)))) (aO 2))
   (bG (G.XN 2 [(gR,Zf2),(jz,Zjo),(jx,Zjn),(gY,Zf5),(gW,Zf4),(gU,Zf3),(fD,Zbk),(gP,Zf0),(gQ,Zf1),(gO,Zez)] E (aj (ak 0) (aj (ak 1) aD)))))
def Ad(K:aB):TS:=
 (aN (eE (cg (bC (oN λi j=>.bl (decide (i<j))) (ak 1) (wX (G.lN K) (aj (ak 0) aD)))) (bG (bC (mO K) (ak 0) (ak 1))) cu)
   (bG (tC (.int 0))))
def Ab:TS:=
 (bG (bC (rI (λ_ j=>0<j) λi j=>.int (i % j)) (bC (rI (λ_ j=>0<j) λi j=>.int (i % j)) (bC (rI Th λi j=>.int (i * j)) (bC (rI (λ_ j=>0<j) λi j=>.int (i % j)) (ak 0) (ak 1)) (tC (.int 48271))) (ak 1)) (ak 2)))
def zX:TS:=
 (aN (bF (tC (.str "abcdefghijklmnopqrstuvwxyz")) (aO 2))
   (aN (bF (bC (oN λi j=>.int (i+j)) (tC (.int 1)) (bC (rI (λ_ j=>0<j) λi j=>.int (i % j)) (ak 0) (tC (.int 12)))) (aO 3))
   (aN (bF (bC (rI (λ_ j=>0<j) λi j=>.int (i % j)) (bC (rI M5 λi j=>.int (i / j)) (ak 0) (tC (.int 12))) (ak 3)) (aO 4))
   (aN (bF (bC (Zmn) (ak 2) (bC (rI (λ_ j=>0<j) λi j=>.int (i % j)) (bC (rI M5 λi j=>.int (i / j)) (ak 0) (tC (.int 5))) (tC (.int 26)))) (aO 5))
   (aN (bF (bC (Zmn) (ak 2) (bC (rI (λ_ j=>0<j) λi j=>.int (i % j)) (bC (oN λi j=>.int (i+j)) (bC (rI M5 λi j=>.int (i / j)) (ak 0) (tC (.int 7))) (bC (rI Th λi j=>.int (i * j)) (tC (.int 5)) (ak 1))) (tC (.int 26)))) (aO 6))
   (bG (bC (G.Zmo) (bC (G.Zmo) (bC (G.Zih) (ak 5) (ak 4)) (ak 6)) (bC (G.Zih) (ak 5) (bC (oN λi j=>.int (i - j)) (bC (oN λi j=>.int (i - j)) (ak 3) (tC (.int 1))) (ak 4))))))))))
def xT(K:aB)(fU bI mL:Sp):TS:=
 (aN (bF (aQ fU [] E0 (aj (ak 0) (aj (tC (.int 1)) aD))) (aO 1))
   (aN (bF (iz aD) (aO 2))
   (aN (yK (FW (aj (bC (oN λi j=>.int (i+j)) (tC (.int 1)) (aQ bI [] E0 (aj (ak 1) (aj (tC (.int 104729)) (aj (tC (.int 5)) aD))))) aD)) (aO 3)
   (aN (bF (tC (.int 3)) (aO 4))
   (aN (eE (cg (bC (By) (bC (rI (λ_ j=>0<j) λi j=>.int (i % j)) (ak 1) (tC (.int 3))) (tC (.int 1)))) (bF (bC (oN λi j=>.int (i+j)) (tC (.int 3)) (aQ bI [] E0 (aj (bC (oN λi j=>.int (i+j)) (ak 1) (bC (rI Th λi j=>.int (i * j)) (bC (rI Th λi j=>.int (i * j)) (tC (.int 7)) (ak 3)) (ak 3))) (aj (tC (.int 224737)) (aj (tC (.int 7)) aD))))) (aO 4)) cu)
   (vX (tBM K "list" Ah (ak 2) (aj (gf (aj (aQ mL [] E0 (aj (ak 1) (aj (ak 3) aD))) (aj (ak 4) aD))) aD))))))
   (bG (ak 2)))))
def z6(fU bI:Sp):TS:=
 (aN (bF (aQ fU [] E0 (aj (ak 0) (aj (tC (.int 2)) aD))) (aO 1))
   (aN (eE (cg (bC (By) (aQ bI [] E0 (aj (ak 1) (aj (tC (.int 7919)) (aj (tC (.int 4)) aD)))) (tC (.int 1)))) (bG (bC (oN λi j=>.int (i+j)) (tC (.int 4)) (bC (rI (λ_ j=>0<j) λi j=>.int (i % j)) (bC (rI M5 λi j=>.int (i / j)) (ak 1) (tC (.int 4))) (tC (.int 60))))) cu)
   (bG (bC (oN λi j=>.int (i - j)) (bC (rI Wb λi j=>.int (i ^ j.toNat)) (tC (.int 10)) (tC (.int 15))) (bC (rI (λ_ j=>0<j) λi j=>.int (i % j)) (ak 1) (bC (rI Wb λi j=>.int (i ^ j.toNat)) (tC (.int 10)) (tC (.int 12))))))))
def z9(fB dN kJ gq:Addr)(qW:Sp):TS:=
 (aN (eE (cg (bC (By) (bC (rI (λ_ j=>0<j) λi j=>.int (i % j)) (ak 0) (tC (.int 3))) (tC (.int 0)))) (bG (Bs kJ qW [] E0 (aj (G.JQ dN) (aj (bC (rI (λ_ j=>0<j) λi j=>.int (i % j)) (bC (rI M5 λi j=>.int (i / j)) (ak 0) (tC (.int 3))) (tC (.int 4))) aD)))) cu)
   (aN (eE (cg (bC (By) (bC (rI (λ_ j=>0<j) λi j=>.int (i % j)) (ak 0) (tC (.int 3))) (tC (.int 1)))) (bG (Bs kJ qW [] E0 (aj (G.JQ fB) (aj (bC (rI (λ_ j=>0<j) λi j=>.int (i % j)) (bC (rI M5 λi j=>.int (i / j)) (ak 0) (tC (.int 3))) (tC (.int 4))) aD)))) cu)
   (bG (Bs kJ qW [] E0 (aj (G.JQ gq) (aj (bC (rI (λ_ j=>0<j) λi j=>.int (i % j)) (bC (rI M5 λi j=>.int (i / j)) (ak 0) (tC (.int 3))) (tC (.int 4))) aD))))))
def z7(K:aB)(bI:Sp):TS:=
 (aN (bF (bC (mO K) (iz (aj (tC (.int 1)) (aj (tC (.int 2)) (aj (tC (.int 2)) (aj (tC (.int 3)) (aj (tC (.int 0)) (aj (tC (.int 8)) aD))))))) (aQ bI [] E0 (aj (ak 0) (aj (tC (.int 611953)) (aj (tC (.int 6)) aD))))) (aO 3))
   (aN (bF (tC (.int 0)) (aO 4))
   (aN (eE (cg (bC (By) (bC (rI (λ_ j=>0<j) λi j=>.int (i % j)) (ak 0) (tC (.int 3))) (tC (.int 1)))) (bF (bC (rI (λ_ j=>0<j) λi j=>.int (i % j)) (ak 0) (tC (.int 7))) (aO 4)) cu)
   (aN (eE (cg (bC (By) (bC (rI (λ_ j=>0<j) λi j=>.int (i % j)) (ak 0) (tC (.int 3))) (tC (.int 2)))) (bF (bC (rI (λ_ j=>0<j) λi j=>.int (i % j)) (ak 0) (bC (oN λi j=>.int (i+j)) (bC (rI Wb λi j=>.int (i ^ j.toNat)) (tC (.int 10)) (tC (.int 12))) (tC (.int 1)))) (aO 4)) cu)
   (bG (gf (aj (tC (.str "make")) (aj (ak 1) (aj (ak 2) (aj (ak 3) (aj (ak 4) aD)))))))))))
def z8:TS:=
 (aN (bF (bC (rI (λ_ j=>0<j) λi j=>.int (i % j)) (ak 0) (bC (rI Wb λi j=>.int (i ^ j.toNat)) (tC (.int 10)) (tC (.int 60)))) (aO 1))
   (aN (eE (cg (bC (By) (bC (rI (λ_ j=>0<j) λi j=>.int (i % j)) (bC (rI M5 λi j=>.int (i / j)) (ak 0) (tC (.int 7))) (tC (.int 2))) (tC (.int 1)))) (bG (tUn (rU λi=>.int (-i)) (ak 1))) cu)
   (bG (ak 1))))
def Ac(K:aB)(bI X8 X7 mL:Sp):TS:=
 (aN (bF (aQ bI [] E0 (aj (ak 0) (aj (tC (.int 104729)) (aj (wX (G.lN K) (aj (ak 1) aD)) aD)))) (aO 3))
   (aN (bF (aQ bI [] E0 (aj (ak 0) (aj (tC (.int 224737)) (aj (bC (fL K) (bC (mO K) (ak 1) (ak 3)) (tC (.int 1))) aD)))) (aO 4))
   (aN (bF (aQ bI [] E0 (aj (ak 0) (aj (tC (.int 350377)) (aj (bC (fL K) (bC (mO K) (ak 1) (ak 3)) (tC (.int 1))) aD)))) (aO 5))
   (aN (bF (aQ bI [] E0 (aj (ak 0) (aj (tC (.int 479909)) (aj (bC (mO K) (iz (aj (tC (.int 3)) (aj (tC (.int 8)) aD))) (bC (rI M5 λi j=>.int (i / j)) (bC (rI (λ_ j=>0<j) λi j=>.int (i % j)) (ak 0) (tC (.int 5))) (tC (.int 4)))) aD)))) (aO 6))
   (aN (bF (aQ bI [] E0 (aj (ak 0) (aj (tC (.int 7919)) (aj (tC (.int 20)) aD)))) (aO 7))
   (aN (eE (cg (bC (oN λi j=>.bl (decide (i<j))) (ak 7) (tC (.int 5)))) (bG (aQ X7 [] E0 (aj (ak 0) (aj (ak 3) (aj (ak 4) aD))))) cu)
   (aN (eE (cg (bC (oN λi j=>.bl (decide (i<j))) (ak 7) (tC (.int 8)))) (bG (gf (aj (tC (.str "get")) (aj (ak 3) (aj (ak 4) (aj (ak 5) (aj (ak 6) aD))))))) cu)
   (aN (eE (cg (bC (oN λi j=>.bl (decide (i<j))) (ak 7) (tC (.int 11)))) (bG (gf (aj (tC (.str "put")) (aj (ak 3) (aj (ak 5) (aj (ak 6) (aj (ak 4) aD))))))) cu)
   (aN (eE (cg (bC (By) (ak 7) (tC (.int 11)))) (bG (gf (aj (tC (.str "copy")) (aj (ak 3) (aj (ak 4) (aj (ak 5) aD)))))) cu)
   (aN (eE (cg (bC (By) (ak 7) (tC (.int 12)))) (bG (gf (aj (tC (.str "drop")) (aj (ak 3) (aj (ak 4) aD))))) cu)
   (aN (eE (cg (bC (oN λi j=>.bl (decide (i<j))) (ak 7) (tC (.int 15)))) (aN (bF (aQ bI [] E0 (aj (ak 0) (aj (tC (.int 746773)) (aj (wX (G.lN K) (aj (ak 1) aD)) aD)))) (aO 8))
   (bG (gf (aj (tC (.str "give")) (aj (ak 3) (aj (ak 4) (aj (ak 8) (aj (aQ bI [] E0 (aj (ak 0) (aj (tC (.int 882377)) (aj (bC (fL K) (bC (mO K) (ak 1) (ak 8)) (tC (.int 1))) aD)))) aD)))))))) cu)
   (aN (eE (cg (bC (By) (ak 7) (tC (.int 15)))) (bG (gf (aj (tC (.str "write")) (aj (ak 3) (aj (ak 5) (aj (aQ X8 [] E0 (aj (ak 0) aD)) aD)))))) cu)
   (aN (bF (aQ mL [] E0 (aj (ak 2) (aj (aQ bI [] E0 (aj (ak 0) (aj (tC (.int 1299709)) (aj (tC (.int 2)) aD)))) aD))) (aO 9))
   (aN (eE (cg (bC (oN λi j=>.bl (decide (i<j))) (ak 7) (tC (.int 18)))) (bG (gf (aj (tC (.str "name")) (aj (ak 3) (aj (ak 5) (aj (ak 9) aD)))))) cu)
   (bG (gf (aj (tC (.str "seek")) (aj (ak 3) (aj (ak 4) (aj (ak 9) aD))))))))))))))))))))
def xW(K:aB)(Yd bI:Sp):TS:=
 (aN (bF (aQ Yd [] E0 (aj (ak 0) (aj (ak 1) (aj (ak 2) aD)))) (aO 3))
   (aN (eE ((Zbh (cg (bC (By) (bC (fL K) (ak 3) (tC (.int 0))) (tC (.str "put")))) (cg (bC (By) (bC (rI (λ_ j=>0<j) λi j=>.int (i % j)) (bC (rI M5 λi j=>.int (i / j)) (ak 0) (tC (.int 5))) (tC (.int 2))) (tC (.int 0)))))) (bG (iz (aj (ak 3) (aj (gf (aj (tC (.str "drop")) (aj (bC (fL K) (ak 3) (tC (.int 1))) (aj (bC (fL K) (ak 3) (tC (.int 4))) aD)))) aD)))) cu)
   (aN (eE ((Zbh (cg (bC (By) (bC (fL K) (ak 3) (tC (.int 0))) (tC (.str "get")))) (cg (bC (By) (bC (rI (λ_ j=>0<j) λi j=>.int (i % j)) (bC (rI M5 λi j=>.int (i / j)) (ak 0) (tC (.int 5))) (tC (.int 2))) (tC (.int 0)))))) (bG (iz (aj (ak 3) (aj (gf (aj (tC (.str "put")) (aj (bC (fL K) (ak 3) (tC (.int 1))) (aj (bC (fL K) (ak 3) (tC (.int 3))) (aj (bC (fL K) (ak 3) (tC (.int 4))) (aj (aQ bI [] E0 (aj (ak 0) (aj (tC (.int 1159523)) (aj (tC (.int 3)) aD)))) aD)))))) aD)))) cu)
   (bG (iz (aj (ak 3) aD))))))
def pJ(K:aB)(mL:Sp):TS:=
 (aN (yK (FW (aj (wX (G.lN K) (aj (ak 0) aD)) aD)) (aO 4)
   (aN (eE (cg (bC (By) (ak 5) (tC (.int 1)))) (bF (bC (yc) (ak 3) (iz (aj (gf (aj (tC (.str "get")) (aj (ak 4) (aj (tC (.int 1)) (aj (tC (.int 0)) (aj (bC (rI (λ_ j=>0<j) λi j=>.int (i % j)) (ak 4) (tC (.int 2))) aD)))))) (aj (gf (aj (tC (.str "put")) (aj (ak 4) (aj (tC (.int 0)) (aj (bC (rI (λ_ j=>0<j) λi j=>.int (i % j)) (ak 4) (tC (.int 2))) (aj (tC (.int 2)) aD)))))) aD)))) (aO 3)) cu)
   (aN (eE (cg (bC (oN λi j=>.bl (decide (j<i))) (ak 5) (tC (.int 1)))) (bF (bC (yc) (ak 3) (iz (aj (gf (aj (tC (.str "make")) (aj (ak 4) (aj (tC (.int 0)) (aj (tC (.int 1)) (aj (tC (.int 0)) aD)))))) (aj (gf (aj (tC (.str "put")) (aj (ak 4) (aj (tC (.int 0)) (aj (tC (.int 0)) (aj (tC (.int 1)) aD)))))) (aj (gf (aj (tC (.str "drop")) (aj (ak 4) (aj (tC (.int 1)) aD)))) aD))))) (aO 3)) cu)
   (eE (cg (bC (By) (ak 5) (tC (.int 3)))) (bF (bC (yc) (ak 3) (iz (aj (gf (aj (tC (.str "name")) (aj (ak 4) (aj (tC (.int 0)) (aj (aQ mL [] E0 (aj (ak 2) (aj (bC (rI (λ_ j=>0<j) λi j=>.int (i % j)) (ak 4) (tC (.int 2))) aD))) aD))))) (aj (gf (aj (tC (.str "drop")) (aj (ak 4) (aj (tC (.int 0)) aD)))) aD)))) (aO 3)) cu))))
   (bG (ak 3)))
def xR(K:aB)(bI mL:Sp):TS:=
 (aN (bF (iz aD) (aO 3))
   (aN (yK (FW (aj (wX (G.lN K) (aj (ak 0) aD)) aD)) (aO 4)
   (aN (bF (bC (yc) (ak 3) (iz (aj (gf (aj (tC (.str "make")) (aj (ak 4) (aj (tC (.int 0)) (aj (tC (.int 2)) (aj (tC (.int 0)) aD)))))) (aj (gf (aj (tC (.str "make")) (aj (ak 4) (aj (tC (.int 1)) (aj (tC (.int 1)) (aj (tC (.int 0)) aD)))))) aD)))) (aO 3))
   (bF (bC (yc) (ak 3) (iz (aj (gf (aj (tC (.str "put")) (aj (ak 4) (aj (tC (.int 0)) (aj (bC (rI (λ_ j=>0<j) λi j=>.int (i % j)) (ak 4) (tC (.int 2))) (aj (tC (.int 1)) aD)))))) (aj (gf (aj (tC (.str "drop")) (aj (ak 4) (aj (tC (.int 1)) aD)))) aD)))) (aO 3))))
   (aN (bF (aQ bI [] E0 (aj (ak 1) (aj (tC (.int 746773)) (aj (tC (.int 4)) aD)))) (aO 5))
   (aN (eE (cg (bC (oN λi j=>.bl (decide (j<i))) (ak 5) (tC (.int 1)))) (bF (bC (yc) (ak 3) (G.tLC (FW (aj (wX (G.lN K) (aj (ak 0) aD)) aD)) [] G.vW (gf (aj (tC (.str "make")) (aj (ak 0) (aj (tC (.int 1)) (aj (tC (.int 0)) (aj (tC (.int 0)) aD)))))))) (aO 3)) cu)
   (aN (bF (bC (yc) (ak 3) (bC (Zbw) (iz (aj (tC .non) aD)) (bC (oN λi j=>.int (i+j)) (tC (.int 1)) (aQ bI [] E0 (aj (ak 1) (aj (tC (.int 882377)) (aj (tC (.int 4)) aD))))))) (aO 3))
   (pJ K mL))))))
def qg(K:aB)(fU xg bI:Sp):TS:=
 (aN (bF (aQ fU [] E0 (aj (ak 0) (aj (tC (.int 2)) aD))) (aO 3))
   (aN (bF (tC (.int 0)) (aO 4))
   (aN (yK (qI K (tSl (Zxd K) (ak 0) (Wx (tC (.int 3))) (Wx (tC (.int 63))))) (aO 5)
   (aN (bF (bC (oN λi j=>.int (i+j)) (ak 5) (bC (rI Th λi j=>.int (i * j)) (bC (rI Th λi j=>.int (i * j)) (ak 4) (ak 4)) (tC (.int 1000003)))) (aO 6))
   (aN (eE (cg (bC (By) (aQ bI [] E0 (aj (ak 6) (aj (tC (.int 1020379)) (aj (tC (.int 3)) aD)))) (tC (.int 0)))) (bF (bC (yc) (ak 2) (bC (Zbw) (iz (aj (tC .non) aD)) (bC (oN λi j=>.int (i+j)) (tC (.int 1)) (aQ bI [] E0 (aj (ak 6) (aj (tC (.int 1159523)) (aj (tC (.int 6)) aD))))))) (aO 2)) (bF (bC (yc) (ak 2) (aQ xg [] E0 (aj (ak 6) (aj (ak 1) (aj (ak 3) aD))))) (aO 2)))
   (Zu8 4 (tC (.int 1)) (ipI λi j=>i+j)))))
   (bG (bC (yc) (ak 2) (bC (Zbw) (iz (aj (tC .non) aD)) (bC (oN λi j=>.int (i+j)) (tC (.int 12)) (aQ bI [] E0 (aj (ak 3) (aj (tC (.int 1020379)) (aj (tC (.int 12)) aD)))))))))))
def zZ(K:aB)(fU xg bI Tw:Sp):TS:=
 (aN (bF (iz aD) (aO 2))
   (aN (eE (cg (bC (oN λi j=>.bl (decide (j<i))) (aQ bI [] E0 (aj (aQ fU [] E0 (aj (ak 0) (aj (tC (.int 0)) aD))) (aj (tC (.int 611953)) (aj (tC (.int 4)) aD)))) (tC (.int 0)))) (bF (aQ Tw [] E0 (aj (ak 1) (aj (aQ fU [] E0 (aj (ak 0) (aj (tC (.int 0)) aD))) (aj (aQ fU [] E0 (aj (ak 0) (aj (tC (.int 2)) aD))) aD)))) (aO 2)) cu)
   (qg K fU xg bI)))
def uZ:TS:=
 (bG ((Zie (wX (G.Mq) (aj (ak 0) (aj (tC (.ty "int")) aD))) (Zid (wX (G.Mq) (aj (ak 0) (aj (tC (.ty "bool")) aD)))))))
def xV(K:aB)(p8:Sp):TS:=
 (aN (eE ((XJ (zq (tB (wX (G.Mq) (aj (ak 0) (aj (tC (.ty "tuple")) aD))))) (XJ (cg (bC (rNe) (wX (G.lN K) (aj (ak 0) aD)) (tC (.int 3)))) (zq (tB (wX (G.Mq) (aj (bC (fL K) (ak 0) (tC (.int 0))) (aj (tC (.ty "str")) aD)))))))) (bG (tC (.bl false))) cu)
   (aN (eE ((XJ (zq (tB (aQ p8 [] E0 (aj (bC (fL K) (ak 0) (tC (.int 1))) aD)))) (zq (tB (wX (G.Mq) (aj (bC (fL K) (ak 0) (tC (.int 2))) (aj (tC (.ty "list")) aD))))))) (bG (tC (.bl false))) cu)
   (aN (yK (qI K (bC (fL K) (ak 0) (tC (.int 2)))) (aO 2)
   (eE (zq (tB (aQ p8 [] E0 (aj (ak 2) aD)))) (bG (tC (.bl false))) cu))
   (bG (bC (G.Zjw K false) (ak 0) (ak 1))))))
def Aa(aK bR aR bA:Addr)(Zx8:Sp):TS:=
 (aN (bF (tC .non) (aO 2))
   (aN (G.Zu6 (λcls=>cls=Value.ref aK\/cls=Value.ref aR\/cls=Value.ref bR\/cls=Value.ref bA) (λEx=>(bF (G.Zeu Zx8 [] Ex (aj (ak 0) (aj (ak 1) aD))) (aO 2))) (bF (tC .non) (aO 2)))
   (bG (ak 2))))
def xU(K:aB):TS:=
 (aN (bF (iz aD) (aO 2))
   (aN (yK (FW (aj (wX (G.lN K) (aj (ak 0) aD)) aD)) (aO 3)
   (yK (qI K (bC (mO K) (ak 0) (ak 3))) (aO 4)
   (eE ((Zbh (cg (bC (By) (bC (oN λi j=>.int (Builtin.bitAnd i j)) (bC (rI (λ_ j=>0<=j) λi j=>.int (i / 2 ^ j.toNat)) (ak 1) (ak 3)) (tC (.int 1))) (tC (.int 1)))) (Zbh (cg (bC (G.De) (ak 4) (tC .non))) (cg (bC (rIn K true) (ak 4) (ak 2)))))) (vX (tBM K "list" Ah (ak 2) (aj (ak 4) aD))) cu)))
   (bG (ak 2))))
def u5(K:aB):TS:=
 (aN (eE ((XJ (zq (tB (wX (G.Mq) (aj (ak 0) (aj (tC (.ty "list")) aD))))) (cg (bC (rNe) (wX (G.lN K) (aj (ak 0) aD)) (wX (G.lN K) (aj (ak 1) aD)))))) (bG (tC (.bl false))) cu)
   (aN (yK (FW (aj (wX (G.lN K) (aj (ak 1) aD)) aD)) (aO 3)
   (aN (eE ((XJ (zq (tB (wX (G.Mq) (aj (bC (mO K) (ak 0) (ak 3)) (aj (tC (.ty "tuple")) aD))))) (cg (bC (rNe) (wX (G.lN K) (aj (bC (mO K) (ak 0) (ak 3)) aD)) (tC (.int 6)))))) (bG (tC (.bl false))) cu)
   (eE ((XJ (cg (bC (G.Zjw K true) (tSl (Zul K) (bC (mO K) (ak 0) (ak 3)) O8 (Wx (tC (.int 5)))) (tSl (Zul K) (bC (mO K) (ak 1) (ak 3)) O8 (Wx (tC (.int 5)))))) (cg (bC (rNe) (bC (fL K) (bC (mO K) (ak 0) (ak 3)) (tC (.int 5))) (Ql (ak 2) (bC (fL K) (bC (mO K) (ak 1) (ak 3)) (tC (.int 1)))))))) (bG (tC (.bl false))) cu)))
   (bG (tC (.bl true)))))
def uY(K:aB):TS:=
 (aN (bF (Qk) (aO 2))
   (aN (yK (qI K (ak 0)) (aO 3)
   (QL (ak 2) (bC (fL K) (ak 3) (tC (.int 1))) (bC (fL K) (ak 3) (tC (.int 0)))))
   (bG (G.tLC (qI K (ak 1)) [2] G.vW (Ql (ak 1) (ak 0))))))
def xQ(K:aB)(p8:Sp):TS:=
 (aN (bF (iz (aj (bw K (ak 0) "sense") (aj (bw K (ak 0) "turn") (aj (bw K (ak 0) "looked") aD)))) (aO 1))
   (aN (bF (bC (yc) (ak 1) (iz (aj (bw K (ak 0) "walks") (aj (bw K (ak 0) "looks") (aj (bw K (ak 0) "passes") (aj (bw K (ak 0) "at") (aj (bw K (ak 0) "stop") aD))))))) (aO 1))
   (aN (yK (qI K (bC (yc) (ak 1) (bw K (ak 0) "grey"))) (aO 2)
   (eE (zq (tB (aQ p8 [] E0 (aj (ak 2) aD)))) (bG (iz aD)) cu))
   (bG (ak 1)))))
def pI(K:aB)(jY jX lQ jf jB:Sp):TS:=
 (aN (eE ((XJ (zq (tB (aQ jY [] E0 (aj (aQ jB [] E0 (aj (ak 0) aD)) (aj (ak 3) (aj (ak 8) aD)))))) (cg (bC (G.Zjw K true) (aQ jf [] E0 (aj (ak 0) aD)) (ak 4))))) (bG (tC (.bl false))) cu)
   (aN (eE ((XJ (cg (bC (rNe) (bw K (ak 2) "phase") (tC (.str "walk")))) (cg (bC (G.Zjx K true) (aQ lQ [] E0 (aj (ak 2) aD)) (ak 7))))) (bG (tC (.bl false))) cu)
   (bG (bC (G.Zjx K false) (bw K (ak 2) "grey") (aQ jX [] E0 (aj (ak 3) (aj (ak 6) aD)))))))
def qd(K:aB)(jY jX lQ jf jB:Sp):TS:=
 (aN (bF (Qk) (aO 8))
   (aN (yK (qI K (ak 3)) (aO 9)
   (QL (ak 8) (bC (fL K) (ak 9) (tC (.int 1))) (tC (.str "pale"))))
   (aN (yK (qI K (ak 6)) (aO 10)
   (QL (ak 8) (ak 10) (tC (.str "grey"))))
   (pI K jY jX lQ jf jB))))
def qe(K:aB)(w6 wZ jY jX lQ jf O9 jB:Sp):TS:=
 (aN (bF (aQ wZ [] E0 (aj (ak 4) (aj (ak 5) aD))) (aO 6))
   (aN (bF (iz (aj (bC (oN λi j=>.int (i - j)) (tC (.int 1)) (bw K (ak 2) "sense")) (aj (bC (oN λi j=>.int (i+j)) (bw K (ak 2) "turn") (tC (.int 1))) (aj (ak 5) (aj (tC (.int 0)) (aj (tC (.int 0)) (aj (tC (.int 0)) (aj (bw K (ak 2) "at") (aj (bw K (ak 2) "stop") aD))))))))) (aO 7))
   (aN (eE (zq (tB (aQ w6 [] E0 (aj (aQ O9 [] E0 (aj (ak 0) aD)) (aj (gf (aj (tC (.str "begin")) (aj (bC (mO K) (ak 7) (tC (.int 1))) (aj (wX (G.Mp K) (aj (ak 6) aD)) aD)))) aD))))) (bG (tC (.bl false))) cu)
   (qd K jY jX lQ jf jB))))
def zY(K:aB)(w6 wZ jY jX lQ jf O9 jB:Sp):TS:=
 (aN (bF (bw K (ak 0) "sweeper") (aO 2))
   (aN (eE (cg (bC (rNe) (bw K (ak 2) "phase") (tC (.str "rest")))) (aN (vX (aQ O9 [] E0 (aj (ak 0) aD)))
   (bG (tC (.bl true)))) cu)
   (aN (bF (aQ jB [] E0 (aj (ak 0) aD)) (aO 3))
   (aN (bF (aQ jf [] E0 (aj (ak 0) aD)) (aO 4))
   (aN (bF (tC (.int 0)) (aO 5))
   (aN (eE (cg (bC (By) (ak 1) (tC (.int 0)))) (bF (bC (oN λi j=>.int (i - j)) (bC (rI Wb λi j=>.int (i * 2 ^ j.toNat)) (tC (.int 1)) (wX (G.lN K) (aj (ak 4) aD))) (tC (.int 1))) (aO 5)) cu)
   (qe K w6 wZ jY jX lQ jf O9 jB)))))))
def Zfu(K:aB)(fu:Addr)(Hr fU Yc Tz Yb X6 X5 X4:Sp):TS:=
 (aN (bF (bC (rI (λ_ j=>0<j) λi j=>.int (i % j)) (aQ fU [] E0 (aj (ak 0) (aj (tC (.int 0)) aD))) (tC (.int 12))) (aO 1))
   (aN (bF (aQ Tz [] E0 (aj (ak 0) aD)) (aO 2))
   (aN (bF (Bs fu Hr [] E0 (aj (aQ X6 [] E0 (aj (ak 0) aD)) (aj (aQ Yb [] E0 (aj (ak 1) aD)) (aj (wX (G.Mp K) (aj (ak 2) aD)) aD)))) (aO 3))
   (aN (yK (qI K (aQ X5 [] E0 (aj (ak 0) (aj (ak 2) aD)))) (aO 4)
   (aN (eE (cg (bC (By) (bw K (bw K (ak 3) "sweeper") "phase") (tC (.str "lost")))) (bG (tC (.bl true))) cu)
   (eE (cg (bC (G.De) (ak 4) (tC .non))) (vX (aQ Yc [] E0 (aj (ak 3) (aj (ak 4) aD)))) (eE (zq (tB (aQ X4 [] E0 (aj (ak 3) (aj (bC (rI (λ_ j=>0<j) λi j=>.int (i % j)) (ak 1) (tC (.int 3))) aD))))) (bG (tC (.bl false))) cu))))
   (bG (tC (.bl true)))))))
structure TxC(K:aB)(bz bh:Addr):Prop where
 cZ:Gf K bz
 dU:bK K bz "birth"
 mH:bK K bz "bulk"
 mG:bK K bz "tone"
 jC:bK K bz "load"
 eX:bK K bz "fields"
 cN:Gf K bh
 nU:bK K bh "room"
 bM:bK K bh "cells"
 jg:bK K bh "used"
 mF:bK K bh "born"
 PB:EqD K bz
structure zm(CC:Addr)(H:Hp)(p fa:Addr)(birth bulk tone load:Int)(fl:List V):Prop where
 o:∃dx,H p=some (.ins CC dx (nO birth bulk tone load fa))
 f:H fa=some (.lst fl)
def zm.same{CC:Addr}{H H':Hp}{p fa:Addr}{birth bulk tone load:Int}{fl:List V}(h:zm CC H p fa birth bulk tone load fl)(s:aX H H'):zm CC H' p fa birth bulk tone load fl:=by
 obtain⟨⟨dx,h1⟩,h2⟩:=h;exact⟨⟨dx,s _ _ h1⟩,s _ _ h2⟩
structure HpO(CH:Addr)(H:Hp)(hp ca:Addr)(room used born:Int)(cs:List V):Prop where
 o:∃dx,H hp=some (.ins CH dx (lg room ca used born))
 c:H ca=some (.lst cs)
def SN{a b c d e f g:Int}{x y:Addr}:nO a b c d x≠lg e y f g:=λz=>by
 have:=congrArg List.length z;cases this
def wW(CC:Addr):Sp:=λvs H Q E=>∃p birth many bulk tone,vs=[.ref p,.int birth,.int many,.int bulk,.int tone]/\∃dx,H p=some (.ins CC dx [])/\0<=many/\many<=1000/\
 ∀fa H',H fa=none->H' p=some (.ins CC dx (nO birth bulk tone 0 fa))->H' fa=some (.lst (List.replicate many.toNat V.non))->(∀b o,H b=some o->b≠p->H' b=some o)->Q .non H'
def mY(CC:Addr):Sp:=λvs H Q E=>∃p,vs=[.ref p]/\∃fa birth bulk tone load fl,zm CC H p fa birth bulk tone load fl/\Q (.int (1+fl.length+bulk)) H
def wR(CH:Addr):Sp:=λvs H Q E=>∃p room,vs=[.ref p,.int room]/\∃dx,H p=some (.ins CH dx [])/\
 ∀ca H',H ca=none->H' p=some (.ins CH dx (lg room ca 0 0))->H' ca=some (.lst [])->(∀b o,H b=some o->b≠p->H' b=some o)->Q .non H'
def wU(CH:Addr):Sp:=λvs H Q E=>∃hp,vs=[.ref hp]/\∃ca room used born cs,HpO CH H hp ca room used born cs/\Q (.int (room - used)) H
def plc(cs:List V):List Int:=((List.range cs.length).filter λi=>!decide (cs[i]? =some V.non)).map λ(i:Nat)=>(i:Int)
def mX(CH:Addr):Sp:=λvs H Q E=>∃hp,vs=[.ref hp]/\∃ca room used born cs,HpO CH H hp ca room used born cs/\cs.length<=1000/\∀l,H l=none->Q (.ref l) (upd H l (.lst ((plc cs).map V.int)))
def putN(cs:List V)(v:V):List V:=if V.non∈cs then cs.set (cs.idxOf V.non) v else cs++[v]
def Bp(K:aB)(CH:Addr):Sp:=λvs H Q E=>∃hp v,vs=[.ref hp,v]/\∃ca room used born cs,HpO CH H hp ca room used born cs/\OkN K H cs/\cs.length<=1000/\Q (.int (cs.idxOf V.non)) (upd H ca (.lst (putN cs v)))
def tL(CC CH:Addr):Sp:=λvs H Q E=>∃hp i,vs=[.ref hp,.int i]/\∃ca dx room used born cs p fa birth bulk tone load fl,0<=i/\H hp=some (.ins CH dx (lg room ca used born))/\H ca=some (.lst cs)/\cs[i.toNat]? =some (.ref p)/\zm CC H p fa birth bulk tone load fl/\
 Q (.int birth) (upd (upd H hp (.ins CH dx (lg room ca (used - (1+fl.length+bulk)) born))) ca (.lst (cs.set i.toNat V.non)))
def wQ(K:aB)(CC CH CF:Addr):Sp:=λvs H Q E=>∃hp many bulk tone,vs=[.ref hp,.int many,.int bulk,.int tone]/\∃ca dx room used born cs,H hp=some (.ins CH dx (lg room ca used born))/\H ca=some (.lst cs)/\OkN K H cs/\cs.length<=1000/\0<=many/\many<=1000/\
 (room - used<1+many+bulk->∀H',aX H H'->E (.ref CF) none H')/\
 (1+many+bulk<=room - used->∀p fa H',H p=none->H fa=none->Fm [hp,ca] H H'->H' hp=some (.ins CH dx (lg room ca (used+(1+many+bulk)) (born+1)))->H' ca=some (.lst (putN cs (.ref p)))->
  zm CC H' p fa (born+1) bulk tone 0 (List.replicate many.toNat V.non)->Q (.int (cs.idxOf V.non)) H')
section
variable {K:aB}{bz bh bR:Addr}{H:Hp}{Q:VK}{E:XK}{n:St->Hp->Prop}{bk ct:St->Hp->Prop}
def V8{p:Addr}(T:TxC K bz bh)(q:∃fa birth bulk tone load fl,zm bz H p fa birth bulk tone load fl/\Q (.int (1+fl.length+bulk)) H):xZ K ⟨n,Q,bk,ct⟩ [some (.ref p)] H:=by
 obtain⟨fa,birth,bulk,tone,load,fl,⟨⟨dx,h1⟩,h2⟩,h⟩:=q;unfold xZ;walk_at"e";refine aH h1 T.cZ T.eX lD ?_;walk_at"e";refine jt (cL.of h2) ?_;walk_at"e";refine aH h1 T.cZ T.mH Gb ?_;walk_at"e";exact h
def MT{p:Addr}{birth many bulk tone:Int}(T:TxC K bz bh)(q:∃dx,H p=some (.ins bz dx [])/\0<=many/\many<=1000/\
 ∀fa H',H fa=none->H' p=some (.ins bz dx (nO birth bulk tone 0 fa))->H' fa=some (.lst (List.replicate many.toNat V.non))->(∀b o,H b=some o->b≠p->H' b=some o)->Q .non H'):
  rG K ⟨λ_ H'=>Q .non H',Q,bk,ct⟩ [some (.ref p),some (.int birth),some (.int many),some (.int bulk),some (.int tone)] H:=by
 obtain⟨dx,hp,h0,h1,h⟩:=q;unfold rG;walk_at"e";refine⟨p,bz,dx,[],rfl,hp,T.cZ,T.dU,by decide,?_⟩;walk_at"e";refine⟨p,bz,dx,_,rfl,aq,T.cZ,T.mH,by show 1<1000;decide,?_⟩;rw[eY];walk_at"e";refine⟨p,bz,dx,_,rfl,aq,T.cZ,T.mG,by show 2<1000;decide,?_⟩;rw[eY];walk_at"e";refine⟨p,bz,dx,_,rfl,aq,T.cZ,T.jC,by show 3<1000;decide,?_⟩;rw[eY];walk_at"e";refine⟨by decide,λl0 hl0=>?_⟩;walk_at"e";refine⟨l0,many,_,rfl,rfl,aq,by omega,by omega,?_,λfa hfa=>?_⟩
 ·show 1 * many.toNat<=sizeLine;exact aV (by omega)
 have npl:p≠l0:=aG aq hl0;have npf:p≠fa:=aG ((aC npl).trans aq) hfa;walk_at"e";refine⟨p,bz,dx,_,rfl,(aC npf).trans ((aC npl).trans aq),T.cZ,T.eX,by show 4<1000;decide,?_⟩;have nfa:H fa=none:=by
  have e:=hfa;have n1:fa≠l0:=λz=>by rw[z,aq]at e;cases e
  rw[aC n1,aC npf.symm]at e;exact e
 refine h fa _ nfa (aq.trans (congrArg (λl=>some (HO.ins bz dx l)) Zpr)) ?_ λb o hb hne=>?_
 ·rw[aC npf.symm,aq];have e:(List.replicate many.toNat [V.non]).flatten=List.replicate many.toNat V.non:=by
   generalize many.toNat=k
   induction k with
   | zero=>rfl
   | succ k ih=>rw[List.replicate_succ,List.replicate_succ,List.flatten_cons,ih];rfl
  rw[e]
 ·have e1:upd H p (HO.ins bz dx (cB "load" (V.int 0) (cB "tone" (V.int tone) (cB "bulk" (V.int bulk) (cB "birth" (V.int birth) []))))) b=some o:=(aC hne).trans hb;have n1:b≠l0:=aG e1 hl0;have n2:b≠fa:=aG ((aC n1).trans e1) hfa;rw[aC hne,aC n2,aC n1];exact e1
def Mv{p:Addr}{room:Int}(T:TxC K bz bh)(q:∃dx,H p=some (.ins bh dx [])/\
 ∀ca H',H ca=none->H' p=some (.ins bh dx (lg room ca 0 0))->H' ca=some (.lst [])->(∀b o,H b=some o->b≠p->H' b=some o)->Q .non H'):
  rE K ⟨λ_ H'=>Q .non H',Q,bk,ct⟩ [some (.ref p),some (.int room)] H:=by
 obtain⟨dx,hp,h⟩:=q;unfold rE;walk_at"e";refine⟨p,bh,dx,[],rfl,hp,T.cN,T.nU,by decide,?_⟩;walk_at"e";refine⟨by decide,λca hca=>?_⟩;walk_at"e";have npc:p≠ca:=aG aq hca;refine⟨p,bh,dx,_,rfl,(aC npc).trans aq,T.cN,T.bM,by show 1<1000;decide,?_⟩;walk_at"e";refine⟨p,bh,dx,_,rfl,aq,T.cN,T.jg,by show 2<1000;decide,?_⟩;rw[eY];walk_at"e";refine⟨p,bh,dx,_,rfl,aq,T.cN,T.mF,by show 3<1000;decide,?_⟩;rw[eY];have nca:H ca=none:=by
  have e:=hca;rw[aC npc.symm]at e;exact e
 refine h ca _ nca (aq.trans (congrArg (λl=>some (HO.ins bh dx l)) Zow)) ?_ λb o hb hne=>?_
 ·rw[aC npc.symm,aq]
 ·rw[aC hne,aC (aG ((aC hne).trans hb) hca),aC hne];exact hb
def Zb5{hp:Addr}(T:TxC K bz bh)(q:∃ca room used born cs,HpO bh H hp ca room used born cs/\Q (.int (room - used)) H):Af K ⟨n,Q,bk,ct⟩ [some (.ref hp)] H:=by
 obtain⟨ca,room,used,born,cs,⟨⟨dx,h1⟩,h2⟩,h⟩:=q;unfold Af;walk_at"e";refine aH h1 T.cN T.nU Vp ?_;walk_at"e";refine aH h1 T.cN T.jg yq ?_;walk_at"e";exact h
def V2{hp:Addr}(T:TxC K bz bh)(q:∃ca room used born cs,HpO bh H hp ca room used born cs/\cs.length<=1000/\∀l,H l=none->Q (.ref l) (upd H l (.lst ((plc cs).map V.int)))):xY K ⟨n,Q,bk,ct⟩ [some (.ref hp)] H:=by
 obtain⟨ca,room,used,born,cs,⟨⟨dx,h1⟩,h2⟩,hl,h⟩:=q;unfold xY;walk_at"e";refine NZ ?_;walk_at"e";refine aH h1 T.cN T.bM bT ?_;walk_at"e";refine jt (cL.of h2) ?_;walk_at"e";refine⟨_,rfl,by omega,by omega,?_⟩;refine Zob (n:=cs.length) (by omega) (p:=λi=>!decide (cs[i]? =some V.non)) (f:=λi=>.int i) (by omega) ?_ ?_ ?_
 ·intro i hi k hk;walk_at"c";walk_at"e";refine aH h1 T.cN T.bM bT ?_;walk_at"e";refine ji (cL.of h2) (iB (bL hi)) ?_;walk_at"e";refine Zh5 ?_;rw[bL hi]at hk;walk_at"e";simpa using hk
 ·intro i hi _ k hk;walk_at"c";walk_at"e";exact hk
 ·have e:((plc cs).map V.int)=((List.range cs.length).filter λi=>!decide (cs[i]? =some V.non)).map λ(i:Nat)=>V.int i:=by
   unfold plc;rw[List.map_map];rfl
  rw[<- e];exact h
def Ze9{hp:Addr}{v:V}(T:TxC K bz bh)(q:∃ca room used born cs,HpO bh H hp ca room used born cs/\OkN K H cs/\cs.length<=1000/\Q (.int (cs.idxOf V.non)) (upd H ca (.lst (putN cs v)))):Dd K ⟨n,Q,bk,ct⟩ [some (.ref hp),some v,none] H:=by
 obtain⟨ca,room,used,born,cs,⟨⟨dx,h1⟩,h2⟩,ho,hl,h⟩:=q;unfold Dd;walk_at"e";refine aH h1 T.cN T.bM bT ?_;walk_at"e";refine Zol (cL.of h2) ho ?_;walk_at"e";refine LR (λhn=>?_) (λhn=>?_)
 ·walk_at"e";refine aH h1 T.cN T.bM bT ?_;refine⟨.inl ⟨rfl,_,cL.of h2⟩,?_⟩;walk_at"e";refine⟨ca,cs,v,rfl,rfl,h2,Nat.lt_of_le_of_lt hl (by decide),?_⟩;walk_at"e";have hne:hp≠ca:=qz h1 h2 (λz=>by cases z);refine aH ((aC hne).trans h1) T.cN T.bM bT ?_;walk_at"e";refine jt (cL.of aq) ?_;walk_at"e";have e1:(((cs++[v]).length:Int) - 1)=(cs.idxOf V.non:Nat):=by
   rw[List.length_append,List.idxOf_eq_length hn];simp
  have e2:putN cs v=cs++[v]:=by unfold putN;rw[if_neg hn]
  rw[e1,<- e2];exact h
 ·walk_at"e";refine aH h1 T.cN T.bM bT ?_;refine⟨.inl ⟨rfl,_,cL.of h2⟩,?_⟩;walk_at"e";refine⟨ca,cs,rfl,rfl,cL.of h2,ho,hn,?_⟩;walk_at"e";refine aH h1 T.cN T.bM bT ?_;walk_at"e";have hi:cs.idxOf V.non<cs.length:=List.idxOf_lt_length_iff.mpr hn;refine⟨ca,cs,_,_,rfl,rfl,h2,uB hi,?_⟩;have e2:putN cs v=cs.set (cs.idxOf V.non) v:=by unfold putN;rw[if_pos hn]
  rw[<- e2];walk_at"e";exact h
def Zb6{hp:Addr}{i:Int}(T:TxC K bz bh)(q:∃ca dx room used born cs p fa birth bulk tone load fl,0<=i/\H hp=some (.ins bh dx (lg room ca used born))/\H ca=some (.lst cs)/\cs[i.toNat]? =some (.ref p)/\zm bz H p fa birth bulk tone load fl/\
 Q (.int birth) (upd (upd H hp (.ins bh dx (lg room ca (used - (1+fl.length+bulk)) born))) ca (.lst (cs.set i.toNat V.non)))):Ag K bz (mY bz) ⟨n,Q,bk,ct⟩ [some (.ref hp),some (.int i),none] H:=by
 obtain⟨ca,dx,room,used,born,cs,p,fa,birth,bulk,tone,load,fl,h0,h1,h2,hi,co,h⟩:=q;obtain⟨⟨dp,c1⟩,c2⟩:=id co;unfold Ag;walk_at"e";refine aH h1 T.cN T.bM bT ?_;walk_at"e";refine ji (cL.of h2) (qM h0 hi) ?_;walk_at"e";refine aH h1 T.cN T.jg yq ?_;walk_at"e";refine⟨p,dp,_,rfl,c1,vq,?_⟩;walk_at"e";refine⟨p,rfl,fa,birth,bulk,tone,load,fl,co,?_⟩;walk_at"e";refine⟨hp,bh,dx,_,rfl,h1,T.cN,T.jg,by show 4<1000;decide,?_⟩;rw[DW];have hne:hp≠ca:=qz h1 h2 (λz=>by cases z);walk_at"e";refine aH aq T.cN T.bM bT ?_;walk_at"e";have hlt:i.toNat<cs.length:=(dY hi).1;refine⟨ca,cs,_,_,rfl,rfl,(aC hne.symm).trans h2,Zs3 h0 hlt,?_⟩;walk_at"e";refine aH (C:=bz) (a:=p) (dx:=dp) (fs:=nO birth bulk tone load fa) ?_ T.cZ T.dU gM ?_
 ·have n1:p≠ca:=qz c1 h2 (λz=>by cases z);have n2:p≠hp:=qz c1 h1 (λz=>by injection z with _ _ z;exact SN z);rw[aC n1,aC n2];exact c1
 exact h
def Zb4{hp:Addr}{many bulk tone:Int}(T:TxC K bz bh)(q:∃ca dx room used born cs,H hp=some (.ins bh dx (lg room ca used born))/\H ca=some (.lst cs)/\OkN K H cs/\cs.length<=1000/\0<=many/\many<=1000/\
 (room - used<1+many+bulk->∀H',aX H H'->E (.ref bR) none H')/\
 (1+many+bulk<=room - used->∀p fa H',H p=none->H fa=none->Fm [hp,ca] H H'->H' hp=some (.ins bh dx (lg room ca (used+(1+many+bulk)) (born+1)))->H' ca=some (.lst (putN cs (.ref p)))->
  zm bz H' p fa (born+1) bulk tone 0 (List.replicate many.toNat V.non)->Q (.int (cs.idxOf V.non)) H')):
  Ae K bz bR bh (wW bz) (mY bz) (wU bh) (Bp K bh) E ⟨n,Q,bk,ct⟩ [some (.ref hp),some (.int many),some (.int bulk),some (.int tone),none] H:=by
 obtain⟨ca,dx,room,used,born,cs,h1,h2,ho,hl,m0,m1,hE,hQ⟩:=q;have hne:hp≠ca:=qz h1 h2 (λz=>by cases z);unfold Ae;walk_at"e";refine aH h1 T.cN T.mF Vq ?_;walk_at"e";intro p dp np ndp ned;refine⟨p,_,many,_,_,rfl,dp,aq,m0,m1,λfa H1 nfa c1 c2 f3=>⟨rfl,?_⟩⟩;have Zv6:H fa=none:=by
  have e:=nfa
  by_cases z1:fa=p
  ·rw[z1,aq]at e;cases e
  ·rw[aC z1]at e
   by_cases z2:fa=dp
   ·rw[z2,aq]at e;cases e
   ·rw[aC z2]at e;exact e
 have sm:aX H H1:=λb o hb=>by
  refine f3 b o ?_ (aG hb np);rw[aC (aG hb np),aC (aG hb ndp)];exact hb
 have co:zm bz H1 p fa (born+1) bulk tone 0 (List.replicate many.toNat V.non):=⟨⟨dp,c1⟩,c2⟩;have el:((List.replicate many.toNat V.non).length:Int)=many:=by rw[List.length_replicate];omega
 walk_at"e";refine⟨p,dp,_,rfl,c1,vq,?_⟩;walk_at"e";refine⟨p,rfl,fa,_,_,_,_,_,co,?_⟩;walk_at"e";refine⟨hp,dx,_,rfl,sm _ _ h1,Vn,?_⟩;walk_at"e";refine⟨hp,rfl,ca,room,used,born,cs,⟨⟨dx,sm _ _ h1⟩,sm _ _ h2⟩,?_⟩;walk_at"e";rw[el];refine vO (λhf=>?_) (λhf=>?_)
 ·walk_at"e";exact⟨by decide,hE hf H1 sm⟩
 ·walk_at"e";refine aH c1 T.cZ T.dU gM ?_;walk_at"e";refine⟨hp,bh,dx,_,rfl,sm _ _ h1,T.cN,T.mF,by show 4<1000;decide,?_⟩;rw[R7];walk_at"e";refine aH aq T.cN T.jg yq ?_;walk_at"e";have n1:p≠hp:=(aG h1 np).symm;have n2:fa≠hp:=(aG h1 Zv6).symm;have n3:p≠ca:=(aG h2 np).symm;have n4:fa≠ca:=(aG h2 Zv6).symm;refine⟨p,dp,_,rfl,(aC n1).trans c1,vq,?_⟩;walk_at"e";refine⟨p,rfl,fa,_,_,_,_,_,⟨⟨dp,(aC n1).trans c1⟩,(aC n2).trans c2⟩,?_⟩;walk_at"e";rw[el];refine⟨hp,bh,dx,_,rfl,aq,T.cN,T.jg,by show 4<1000;decide,?_⟩;rw[DW,eY];walk_at"e";refine⟨hp,dx,_,rfl,aq,Za2,?_⟩;walk_at"e";refine⟨hp,.ref p,rfl,ca,room,_,_,cs,⟨⟨dx,aq⟩,(aC hne.symm).trans (sm _ _ h2)⟩,?_,hl,?_⟩
  ·intro y hy;rcases ho y hy with e | ⟨a,C,d,fs,e,ha,hc,he⟩
   ·exact .inl e
   ·refine .inr ?_
    by_cases z:a=hp
    ·rw[z]at ha e;rw[h1]at ha;cases ha;exact⟨hp,_,_,_,e,aq,hc,he⟩
    ·exact⟨a,C,d,fs,e,(aC z).trans (sm _ _ ha),hc,he⟩
  ·refine hQ (by omega) p fa _ np Zv6 ?_ ((aC hne).trans aq) aq ⟨⟨dp,?_⟩,?_⟩
   ·intro b o hb hn;have b1:b≠hp:=λz=>hn (by rw[z];exact List.mem_cons_self);have b2:b≠ca:=λz=>hn (by rw[z];exact List.mem_cons_of_mem _ List.mem_cons_self);rw[aC b2,aC b1];exact sm _ _ hb
   ·rw[aC n3,aC n1];exact c1
   ·rw[aC n4,aC n2];exact c2
end
structure Ce where
 birth:Int
 bulk:Int
 tone:Int
 load:Int
 fl:List (Option Int)
 deriving DecidableEq
structure Sw where
 sense:Int
 phase:Str
 grey:List Int
 looked:Int
 turn:Int
 at':Int
 stop:Int
 walks:Int
 looks:Int
 passes:Int
 loss:V
structure Wm where
 room:Int
 used:Int
 born:Int
 cells:List (Option Ce)
 hands:List (Str×List (Option Int))
 names:List (Str×(Int×Int))
 w:Int
 tells:Int
 sw:Sw
structure Wa where
 wo:Addr
 hp:Addr
 ca:Addr
 ki:Addr
 lk:Addr
 hl:Addr
 nm:Addr
 sw:Addr
 gr:Addr
 hs:List (Addr×Addr)
 cs:List (Option (Addr×Addr))
 ns:List Addr
def oV:Option Int->V
 | none=>.non
 | some i=>.int i
def pV:Option (Addr×Addr)->V
 | none=>.non
 | some p=>.ref p.1
structure yI(s:Nat)(t0:Nat->Prop)(H H':Hp)(T T':Tg):Prop where
 kp:∀b o,H b=some o->(T b).1=s->¬ t0 (T b).2->H' b=some o
 tg:∀b o,H b=some o->T' b=T b
section
variable {CHd CC:Addr}{H H':Hp}{T T':Tg}{s j i:Nat}{t0:Nat->Prop}
def yI.at{a:Addr}{o:HO}{m:Nat}(f:yI s t0 H H' T T')(ht:T a=(s,m))(n:¬ t0 m)(h:H a=some o):H' a=some o:=f.kp a o h (by rw[ht]) (by rw[ht];exact n)
def yI.tag{a:Addr}{o:HO}{x:Nat×Nat}(f:yI s t0 H H' T T')(h:H a=some o)(ht:T a=x):T' a=x:=(f.tg a o h).trans ht
def yI.Dw{a:Addr}{o:HO}{m:Nat}(ht:T a=(s,m)):yI s (·=m) H (upd H a o) T T:=⟨λb u h e n=>by
  have:b≠a:=λz=>n (by rw[z,ht]);rw[aC this];exact h,λ_ _ _=>rfl⟩
def yI.of_same(e:aX H H'):yI s (λ_=>False) H H' T T:=⟨λb o h _ _=>e b o h,λ_ _ _=>rfl⟩
def yI.Znf{s':Nat}(e:jo s' H H' T T')(n:s≠s'):yI s (λ_=>False) H H' T T':=⟨λb o h z _=>e.kp b o h (by rw[z];exact n),e.tg⟩
structure HdO(CHd:Addr)(H:Hp)(T:Tg)(s j:Nat)(p:Addr×Addr)(m:Str×List (Option Int)):Prop where
 t1:T p.1=(s,20+2 * j)
 t2:T p.2=(s,21+2 * j)
 o1:∃dx,H p.1=some (.ins CHd dx (Zdh m.1 p.2))
 o2:H p.2=some (.lst (m.2.map oV))
def HdO.mv{p:Addr×Addr}{m:Str×List (Option Int)}(h:HdO CHd H T s j p m)(f:yI s t0 H H' T T')(n1:¬ t0 (20+2 * j))(n2:¬ t0 (21+2 * j)):HdO CHd H' T' s j p m:=by
 obtain⟨a1,a2,⟨dx,b1⟩,b2⟩:=h;exact⟨f.tag b1 a1,f.tag b2 a2,⟨dx,f.at a1 n1 b1⟩,f.at a2 n2 b2⟩
structure V9(CC:Addr)(H:Hp)(T:Tg)(s i:Nat)(p:Addr×Addr)(c:Ce):Prop where
 t1:T p.1=(s,100+2 * i)
 t2:T p.2=(s,101+2 * i)
 o1:∃dx,H p.1=some (.ins CC dx (nO c.birth c.bulk c.tone c.load p.2))
 o2:H p.2=some (.lst (c.fl.map oV))
def V9.mv{p:Addr×Addr}{c:Ce}(h:V9 CC H T s i p c)(f:yI s t0 H H' T T')(n1:¬ t0 (100+2 * i))(n2:¬ t0 (101+2 * i)):V9 CC H' T' s i p c:=by
 obtain⟨a1,a2,⟨dx,b1⟩,b2⟩:=h;exact⟨f.tag b1 a1,f.tag b2 a2,⟨dx,f.at a1 n1 b1⟩,f.at a2 n2 b2⟩
def CeP(CC:Addr)(H:Hp)(T:Tg)(s i:Nat):Option (Addr×Addr)->Option Ce->Prop
 | none,none=>True
 | some p,some c=>V9 CC H T s i p c
 | _,_=>False
def CeP.mv{p:Option (Addr×Addr)}{c:Option Ce}(h:CeP CC H T s i p c)(f:yI s t0 H H' T T')(n1:¬ t0 (100+2 * i))(n2:¬ t0 (101+2 * i)):CeP CC H' T' s i p c:=by
 cases p with
 | none=>cases c with
  | none=>trivial
  | some c=>exact h.elim
 | some p=>cases c with
  | none=>exact h.elim
  | some c=>exact V9.mv h f n1 n2
end
def NmO(H:Hp)(T:Tg)(t:Addr)(m:Str×(Int×Int)):Prop:=T t=(0,0)/\H t=some (.tup [.int m.2.1,.int m.2.2])
structure Cs where
 W:Addr
 H:Addr
 C:Addr
 K:Addr
 D:Addr
 S:Addr
 F:Addr
 E:Addr
 L:Addr
structure WB(X:Cs)(H:Hp)(T:Tg)(s:Nat)(A:Wa)(w tells:Int):Prop where
 tw:T A.wo=(s,0)
 tk:T A.ki=(0,0)
 tl:T A.lk=(0,0)
 tn:T A.hl=(s,5)
 ow:∃dx,H A.wo=some (.ins X.W dx (BP A.hp A.ki A.hl A.nm A.sw))
 ok:∃dx,H A.ki=some (.ins X.K dx (RQ A.lk tells))
 ol:∃dx,(w=0/\H A.lk=some (.ins X.F dx []))\/(w=1/\H A.lk=some (.ins X.E dx []))\/(w=2/\H A.lk=some (.ins X.L dx []))
 on:H A.hl=some (.lst (A.hs.map λp=>V.ref p.1))
structure WH(X:Cs)(H:Hp)(T:Tg)(s:Nat)(A:Wa)(room used born:Int):Prop where
 th:T A.hp=(s,1)
 tc:T A.ca=(s,2)
 oh:∃dx,H A.hp=some (.ins X.H dx (lg room A.ca used born))
 oc:H A.ca=some (.lst (A.cs.map pV))
def BJ(M:List (Str×(Int×Int)))(ns:List Addr):List ((Int ⊕ Str)×V):=List.zipWith (λ(m:Str×(Int×Int)) (t:Addr)=>(Sum.inr m.1,V.ref t)) M ns
structure WN(H:Hp)(T:Tg)(s:Nat)(A:Wa)(names:List (Str×(Int×Int))):Prop where
 tm:T A.nm=(s,6)
 om:H A.nm=some (.dK (BJ names A.ns))
 nms:Al (NmO H T) A.ns names
structure WS(X:Cs)(H:Hp)(T:Tg)(s:Nat)(A:Wa)(S:Sw):Prop where
 ts:T A.sw=(s,7)
 tg:T A.gr=(s,8)
 os:∃dx,H A.sw=some (.ins X.S dx (cA S.sense S.phase A.gr S.looked S.turn S.at' S.stop S.walks S.looks S.passes S.loss))
 og:H A.gr=some (.lst (S.grey.map V.int))
structure WD(X:Cs)(H:Hp)(T:Tg)(s:Nat)(hs:List (Addr×Addr))(hands:List (Str×List (Option Int))):Prop where
 lh:hs.length=hands.length
 l5:hs.length<=30
 hd:∀(j:Nat) p m,hs[j]? =some p->hands[j]? =some m->HdO X.D H T s j p m
structure WC(X:Cs)(H:Hp)(T:Tg)(s:Nat)(cs:List (Option (Addr×Addr)))(cells:List (Option Ce)):Prop where
 lc:cs.length=cells.length
 ce:∀(i:Nat) p c,cs[i]? =some p->cells[i]? =some c->CeP X.C H T s i p c
structure WJ(X:Cs)(H:Hp)(T:Tg)(s:Nat)(A:Wa)(M:Wm):Prop where
 jb:WB X H T s A M.w M.tells
 jh:WH X H T s A M.room M.used M.born
 jn:WN H T s A M.names
 js:WS X H T s A M.sw
 jd:WD X H T s A.hs M.hands
 jc:WC X H T s A.cs M.cells
section
variable {X:Cs}{H H':Hp}{T T':Tg}{s:Nat}{t0:Nat->Prop}{A:Wa}{M:Wm}
def WB.mv{w tells:Int}(j:WB X H T s A w tells)(f:yI s t0 H H' T T')(f0:∀b o,H b=some o->T b=(0,0)->H' b=some o)(n0:¬ t0 0)(n5:¬ t0 5):WB X H' T' s A w tells:=by
 obtain⟨tw,tk,tl,tn,⟨d1,ow⟩,⟨d3,ok⟩,⟨d4,ol⟩,on⟩:=j;have hlk:∃o,H A.lk=some o:=by
  rcases ol with ⟨_,e⟩ | ⟨_,e⟩ | ⟨_,e⟩
  ·exact⟨_,e⟩
  ·exact⟨_,e⟩
  ·exact⟨_,e⟩
 obtain⟨olk,elk⟩:=hlk;refine⟨f.tag ow tw,f.tag ok tk,f.tag elk tl,f.tag on tn,⟨d1,f.at tw n0 ow⟩,⟨d3,f0 _ _ ok tk⟩,⟨d4,?_⟩,f.at tn n5 on⟩;rcases ol with ⟨z,e⟩ | ⟨z,e⟩ | ⟨z,e⟩
 ·exact .inl ⟨z,f0 _ _ e tl⟩
 ·exact .inr (.inl ⟨z,f0 _ _ e tl⟩)
 ·exact .inr (.inr ⟨z,f0 _ _ e tl⟩)
def WH.mv{room used born:Int}(j:WH X H T s A room used born)(f:yI s t0 H H' T T')(n1:¬ t0 1)(n2:¬ t0 2):WH X H' T' s A room used born:=by
 obtain⟨th,tc,⟨d,oh⟩,oc⟩:=j;exact⟨f.tag oh th,f.tag oc tc,⟨d,f.at th n1 oh⟩,f.at tc n2 oc⟩
def WN.mv{names:List (Str×(Int×Int))}(j:WN H T s A names)(f:yI s t0 H H' T T')(f0:∀b o,H b=some o->T b=(0,0)->H' b=some o)(n6:¬ t0 6):WN H' T' s A names:=by
 obtain⟨tm,om,nms⟩:=j;exact⟨f.tag om tm,f.at tm n6 om,nms.mono λt m ⟨z1,z2⟩=>⟨f.tag z2 z1,f0 _ _ z2 z1⟩⟩
def WS.mv{S:Sw}(j:WS X H T s A S)(f:yI s t0 H H' T T')(n7:¬ t0 7)(n8:¬ t0 8):WS X H' T' s A S:=by
 obtain⟨ts,tg,⟨d,os⟩,og⟩:=j;exact⟨f.tag os ts,f.tag og tg,⟨d,f.at ts n7 os⟩,f.at tg n8 og⟩
def WD.mv{hs:List (Addr×Addr)}{hands:List (Str×List (Option Int))}(j:WD X H T s hs hands)(f:yI s t0 H H' T T')(n:∀k,20<=k->k<100->¬ t0 k):WD X H' T' s hs hands:=by
 obtain⟨lh,l5,hd⟩:=j;refine⟨lh,l5,λj p m e1 e2=>?_⟩;have hl:j<hs.length:=(dY e1).1;exact(hd j p m e1 e2).mv f (n _ (by omega) (by omega)) (n _ (by omega) (by omega))
def WC.mv{cs:List (Option (Addr×Addr))}{cells:List (Option Ce)}(j:WC X H T s cs cells)(f:yI s t0 H H' T T')(n:∀k,100<=k->¬ t0 k):WC X H' T' s cs cells:=by
 obtain⟨lc,ce⟩:=j;exact⟨lc,λi p c e1 e2=>(ce i p c e1 e2).mv f (n _ (by omega)) (n _ (by omega))⟩
def WJ.mv(j:WJ X H T s A M)(f:yI s (λ_=>False) H H' T T')(f0:∀b o,H b=some o->T b=(0,0)->H' b=some o):WJ X H' T' s A M:=
 ⟨j.jb.mv f f0 id id,j.jh.mv f id id,j.jn.mv f f0 id,j.js.mv f id id,j.jd.mv f λ_ _ _=>id,j.jc.mv f λ_ _=>id⟩
def WJ.same(j:WJ X H T s A M)(e:aX H H'):WJ X H' T s A M:=j.mv (yI.of_same e) λb o h _=>e b o h
def WJ.other{s':Nat}(j:WJ X H T s A M)(e:jo s' H H' T T')(n:s≠s')(n0:s'≠0):WJ X H' T' s A M:=j.mv (yI.Znf e n) λb o h t=>e.kp b o h (by rw[t];exact λz=>n0 z.symm)
def pN{a:Addr}{o':HO}{m:Nat}(h0:s≠0)(ta:T a=(s,m)):∀b o,H b=some o->T b=(0,0)->upd H a o' b=some o:=λb o e t=>by
 rw[aC (Rv t ta (λz=>h0 (congrArg Prod.fst z).symm))];exact e
def WJ.slot(j:WJ X H T s A M)(w:WT H T)(h0:s≠0){h k:Nat}{p:Addr×Addr}{m:Str×List (Option Int)}{x:Option Int}(hp:A.hs[h]? =some p)(hm:M.hands[h]? =some m):
  jo s H (upd H p.2 (.lst ((m.2.map oV).set k (oV x)))) T T/\WJ X (upd H p.2 (.lst ((m.2.map oV).set k (oV x)))) T s A { M with hands:=M.hands.set h (m.1,m.2.set k x) }:=by
 have hl:=j.jd.l5;have hh:h<A.hs.length:=(dY hp).1;have hh':h<M.hands.length:=(dY hm).1;have d:=j.jd.hd h p m hp hm;refine⟨jo.upd w d.o2 (by rw[d.t2]),?_⟩;have f:yI s (·=21+2 * h) H (upd H p.2 (.lst ((m.2.map oV).set k (oV x)))) T T:=yI.Dw d.t2;have b2:upd H p.2 (.lst ((m.2.map oV).set k (oV x))) p.2=some (.lst ((m.2.set k x).map oV)):=by rw[aq,List.map_set]
 refine⟨j.jb.mv f (pN h0 d.t2) (by omega) (by omega),j.jh.mv f (by omega) (by omega),j.jn.mv f (pN h0 d.t2) (by omega),j.js.mv f (by omega) (by omega),⟨by rw[List.length_set];exact j.jd.lh,hl,λj' p' m' e1 e2=>?_⟩,j.jc.mv f λ_ _=>by omega⟩
 by_cases hj:j'=h
 ·subst hj;dsimp only at e2;rw[List.getElem?_set_self hh']at e2;rw[hp]at e1;cases e1;cases e2;obtain⟨dd,o1⟩:=d.o1;exact⟨d.t1,d.t2,⟨dd,f.at d.t1 (by omega) o1⟩,b2⟩
 ·dsimp only at e2;rw[List.getElem?_set_ne (λz=>hj z.symm)]at e2;exact(j.jd.hd j' p' m' e1 e2).mv f (by omega) (by omega)
def WC.at(j:WC X H T s A.cs M.cells){i:Nat}{c:Ce}(h:M.cells[i]? =some (some c)):∃p,A.cs[i]? =some (some p)/\V9 X.C H T s i p c:=by
 have hl:i<A.cs.length:=by rw[j.lc];exact(dY h).1
 have e:=j.ce i _ _ (bL hl) h;cases hg:A.cs[i]with
 | none=>rw[hg]at e;exact e.elim
 | some g=>rw[hg]at e;exact⟨g,by rw[bL hl,hg],e⟩
def WC.at0(j:WC X H T s A.cs M.cells){i:Nat}(h:M.cells[i]? =some none):A.cs[i]? =some none:=by
 have hl:i<A.cs.length:=by rw[j.lc];exact(dY h).1
 have e:=j.ce i _ _ (bL hl) h;cases hg:A.cs[i]with
 | none=>rw[bL hl,hg]
 | some g=>rw[hg]at e;exact e.elim
def WC.chg(j:WC X H T s A.cs M.cells){i:Nat}{p:Addr×Addr}{c':Ce}(f:yI s t0 H H' T T')(hp:A.cs[i]? =some (some p))(n:∀k,100<=k->k≠100+2 * i->k≠101+2 * i->¬ t0 k)(e:V9 X.C H' T' s i p c'):
  WC X H' T' s A.cs (M.cells.set i (some c')):=by
 have hl:i<A.cs.length:=(dY hp).1;refine⟨by rw[List.length_set];exact j.lc,λk g c e1 e2=>?_⟩
 by_cases hk:k=i
 ·subst hk;rw[List.getElem?_set_self (by rw[<- j.lc];exact hl)]at e2;rw[hp]at e1;cases e1;cases e2;exact e
 ·rw[List.getElem?_set_ne (λz=>hk z.symm)]at e2;exact(j.ce k g c e1 e2).mv f (n _ (by omega) (by omega) (by omega)) (n _ (by omega) (by omega) (by omega))
def WJ.field(j:WJ X H T s A M)(w:WT H T)(h0:s≠0){i k:Nat}{p:Addr×Addr}{c:Ce}{x:Option Int}(hp:A.cs[i]? =some (some p))(e:V9 X.C H T s i p c):
  jo s H (upd H p.2 (.lst ((c.fl.map oV).set k (oV x)))) T T/\WJ X (upd H p.2 (.lst ((c.fl.map oV).set k (oV x)))) T s A { M with cells:=M.cells.set i (some { c with fl:=c.fl.set k x }) }:=by
 refine⟨jo.upd w e.o2 (by rw[e.t2]),?_⟩;have f:yI s (·=101+2 * i) H (upd H p.2 (.lst ((c.fl.map oV).set k (oV x)))) T T:=yI.Dw e.t2;have b2:upd H p.2 (.lst ((c.fl.map oV).set k (oV x))) p.2=some (.lst ((c.fl.set k x).map oV)):=by rw[aq,List.map_set]
 obtain⟨dd,o1⟩:=e.o1;exact⟨j.jb.mv f (pN h0 e.t2) (by omega) (by omega),j.jh.mv f (by omega) (by omega),j.jn.mv f (pN h0 e.t2) (by omega),j.js.mv f (by omega) (by omega),j.jd.mv f λ_ _ _=>by omega,
  j.jc.chg f hp (λk _ _ n2 z=>n2 z) ⟨e.t1,e.t2,⟨dd,f.at e.t1 (by omega) o1⟩,b2⟩⟩
def WJ.cell(j:WJ X H T s A M)(w:WT H T)(h0:s≠0){i:Nat}{p:Addr×Addr}{c:Ce}{dx:Addr}{tone load:Int}(hp:A.cs[i]? =some (some p))(e:V9 X.C H T s i p c):
  jo s H (upd H p.1 (.ins X.C dx (nO c.birth c.bulk tone load p.2))) T T/\WJ X (upd H p.1 (.ins X.C dx (nO c.birth c.bulk tone load p.2))) T s A { M with cells:=M.cells.set i (some { c with tone:=tone,load:=load }) }:=by
 obtain⟨dd,o1⟩:=e.o1;refine⟨jo.upd w o1 (by rw[e.t1]),?_⟩;have f:yI s (·=100+2 * i) H (upd H p.1 (.ins X.C dx (nO c.birth c.bulk tone load p.2))) T T:=yI.Dw e.t1;exact⟨j.jb.mv f (pN h0 e.t1) (by omega) (by omega),j.jh.mv f (by omega) (by omega),j.jn.mv f (pN h0 e.t1) (by omega),j.js.mv f (by omega) (by omega),j.jd.mv f λ_ _ _=>by omega,
  j.jc.chg f hp (λk _ n1 _ z=>n1 z) ⟨e.t1,e.t2,⟨dx,aq⟩,f.at e.t2 (by omega) e.o2⟩⟩
def WJ.sweep(j:WJ X H T s A M)(w:WT H T)(h0:s≠0){dx:Addr}(S:Sw)(e9:S.grey=M.sw.grey):
  jo s H (upd H A.sw (.ins X.S dx (cA S.sense S.phase A.gr S.looked S.turn S.at' S.stop S.walks S.looks S.passes S.loss))) T T/\
  WJ X (upd H A.sw (.ins X.S dx (cA S.sense S.phase A.gr S.looked S.turn S.at' S.stop S.walks S.looks S.passes S.loss))) T s A { M with sw:=S }:=by
 obtain⟨ts,tg,⟨dd,os⟩,og⟩:=j.js;refine⟨jo.upd w os (by rw[ts]),?_⟩;have f:yI s (·=7) H (upd H A.sw (.ins X.S dx (cA S.sense S.phase A.gr S.looked S.turn S.at' S.stop S.walks S.looks S.passes S.loss))) T T:=yI.Dw ts;exact⟨j.jb.mv f (pN h0 ts) (by omega) (by omega),j.jh.mv f (by omega) (by omega),j.jn.mv f (pN h0 ts) (by omega),⟨ts,tg,⟨dx,aq⟩,by rw[e9];exact f.at tg (by omega) og⟩,j.jd.mv f λ_ _ _=>by omega,j.jc.mv f λ_ _=>by omega⟩
def WJ.Ztv(j:WJ X H T s A M)(w:WT H T)(h0:s≠0){g:List Int}:jo s H (upd H A.gr (.lst (g.map V.int))) T T/\WJ X (upd H A.gr (.lst (g.map V.int))) T s A { M with sw:={ M.sw with grey:=g } }:=by
 obtain⟨ts,tg,⟨dd,os⟩,og⟩:=j.js;refine⟨jo.upd w og (by rw[tg]),?_⟩;have f:yI s (·=8) H (upd H A.gr (.lst (g.map V.int))) T T:=yI.Dw tg;exact⟨j.jb.mv f (pN h0 tg) (by omega) (by omega),j.jh.mv f (by omega) (by omega),j.jn.mv f (pN h0 tg) (by omega),⟨ts,tg,⟨dd,f.at ts (by omega) os⟩,aq⟩,j.jd.mv f λ_ _ _=>by omega,j.jc.mv f λ_ _=>by omega⟩
def WJ.back(j:WJ X H T s A M)(w:WT H T)(h0:s≠0){i:Nat}{dx:Addr}{used':Int}(hi:i<A.cs.length)(H':Hp)(kp:∀b o,H b=some o->b≠A.hp->b≠A.ca->H' b=some o)(a1:H' A.hp=some (.ins X.H dx (lg M.room A.ca used' M.born)))(a2:H' A.ca=some (.lst ((A.cs.map pV).set i V.non))):
  jo s H H' T T/\WJ X H' T s { A with cs:=A.cs.set i none } { M with used:=used',cells:=M.cells.set i none }:=by
 obtain⟨th,tc,⟨dd,oh⟩,oc⟩:=j.jh;have al:∀b o,H b=some o->∃o',H' b=some o':=λb o h=>by
  by_cases z1:b=A.hp
  ·exact⟨_,by rw[z1];exact a1⟩
  ·by_cases z2:b=A.ca
   ·exact⟨_,by rw[z2];exact a2⟩
   ·exact⟨o,kp b o h z1 z2⟩
 have f:yI s (λk=>k=1\/k=2) H H' T T:=⟨λb o h e n=>kp b o h (λz=>n (.inl (by rw[z,th]))) (λz=>n (.inr (by rw[z,tc]))),λ_ _ _=>rfl⟩;have f0:∀b o,H b=some o->T b=(0,0)->H' b=some o:=λb o h t=>kp b o h (Rv t th (λz=>h0 (congrArg Prod.fst z).symm)) (Rv t tc (λz=>h0 (congrArg Prod.fst z).symm));refine⟨⟨λb o h n=>kp b o h (λz=>n (by rw[z,th])) (λz=>n (by rw[z,tc])),al,λ_ _ _=>rfl,λb h=>w b ?_⟩,?_⟩
 ·cases z:H b with
  | none=>rfl
  | some o=>obtain⟨o',z'⟩:=al b o z;rw[h]at z';cases z'
 ·refine⟨?_,⟨th,tc,⟨dx,a1⟩,by rw[List.map_set];exact a2⟩,?_,?_,j.jd.mv f λ_ _ _=>by omega,⟨by rw[List.length_set,List.length_set];exact j.jc.lc,λk g c e1 e2=>?_⟩⟩
  ·obtain⟨b1,b2,b3,b4,b5,b6,b7,b8⟩:=j.jb.mv f f0 (by omega) (by omega);exact⟨b1,b2,b3,b4,b5,b6,b7,b8⟩
  ·obtain⟨b1,b2,b3⟩:=j.jn.mv f f0 (by omega);exact⟨b1,b2,b3⟩
  ·obtain⟨b1,b2,b3,b4⟩:=j.js.mv f (by omega) (by omega);exact⟨b1,b2,b3,b4⟩
  ·by_cases hk:k=i
   ·subst hk;dsimp only at e1 e2;rw[List.getElem?_set_self hi]at e1;rw[List.getElem?_set_self (by rw[<- j.jc.lc];exact hi)]at e2;cases e1;cases e2
    trivial
   ·dsimp only at e1 e2;rw[List.getElem?_set_ne (λz=>hk z.symm)]at e1 e2;exact(j.jc.ce k g c e1 e2).mv f (by omega) (by omega)
end
def mD{α:Type}:List (Option α)->Nat
 | []=>0
 | none::_=>0
 | some _::l=>mD l+1
def pY{α:Type}(l:List (Option α))(x:α):List (Option α):=if mD l<l.length then l.set (mD l) (some x)else l++[some x]
def Za4{α:Type}(l:List (Option α)):mD l<=l.length:=by
 induction l with
 | nil=>exact Nat.le_refl _
 | cons a l ih=>cases a with
  | none=>exact Nat.zero_le _
  | some a=>exact Nat.succ_le_succ ih
def Zsv{α:Type}{l:List (Option α)}(h:mD l<l.length):l[mD l]? =some none:=by
 induction l with
 | nil=>exact absurd h (Nat.lt_irrefl _)
 | cons a l ih=>cases a with
  | none=>rfl
  | some a=>exact ih (Nat.lt_of_succ_lt_succ h)
def Zdj{α:Type}{f:Option α->V}(hf:∀x,f x=V.non↔x=none)(l:List (Option α)):(l.map f).idxOf V.non=mD l/\(V.non∈l.map f↔mD l<l.length):=by
 induction l with
 | nil=>exact⟨rfl,⟨λz=>(nomatch z),λz=>absurd z (Nat.lt_irrefl _)⟩⟩
 | cons a l ih=>
  rw[List.map_cons,List.idxOf_cons];cases a with
  | none=>
   have e:f none=V.non:=(hf none).mpr rfl;rw[e];exact⟨rfl,⟨λ_=>Nat.zero_lt_succ _,λ_=>List.mem_cons_self⟩⟩
  | some a=>
   have e:f (some a)≠V.non:=λz=>by cases (hf (some a)).mp z
   have b:(f (some a) == V.non)=false:=beq_eq_false_iff_ne.mpr e;rw[b];refine⟨congrArg (· + 1) ih.1,?_⟩;show _↔mD l+1<l.length+1;rw[List.mem_cons,ih.2];constructor
   ·rintro(z | z)
    ·exact absurd z.symm e
    ·omega
   ·intro z;exact .inr (by omega)
def Zmp{α:Type}{f:Option α->V}(hf:∀x,f x=V.non↔x=none)(l:List (Option α))(x:α):putN (l.map f) (f (some x))=(pY l x).map f:=by
 obtain⟨e1,e2⟩:=Zdj hf l;unfold putN pY
 by_cases z:mD l<l.length
 ·rw[if_pos z,if_pos (e2.mpr z),List.map_set];exact congrArg (λk=>(l.map f).set k (f (some x))) e1
 ·rw[if_neg z,if_neg (λw=>z (e2.mp w)),List.map_append];rfl
def Zna(p:Option (Addr×Addr)):pV p=V.non↔p=none:=by cases p<;>simp[pV]
def Pg{α:Type}(l:List (Option α))(x:α):(pY l x)[mD l]? =some (some x):=by
 unfold pY
 by_cases z:mD l<l.length
 ·rw[if_pos z,List.getElem?_set_self z]
 ·have e:mD l=l.length:=Nat.le_antisymm (Za4 l) (by omega);rw[if_neg z,e,List.getElem?_append_right (Nat.le_refl _),Nat.sub_self];rfl
def Zij{α:Type}{l:List (Option α)}{x:α}{i:Nat}{y:Option α}(hi:i≠mD l)(h:(pY l x)[i]? =some y):l[i]? =some y:=by
 unfold pY at h
 by_cases z:mD l<l.length
 ·rw[if_pos z,List.getElem?_set_ne (λw=>hi w.symm)]at h;exact h
 ·rw[if_neg z]at h;have e:mD l=l.length:=Nat.le_antisymm (Za4 l) (by omega);have hl:=(dY h).1;rw[List.length_append,List.length_singleton]at hl;rw[List.getElem?_append_left (by omega)]at h;exact h
def Zmq{α β:Type}{l:List (Option α)}{m:List (Option β)}{x:α}{y:β}(hl:l.length=m.length)(hf:mD l=mD m):(pY l x).length=(pY m y).length:=by
 unfold pY
 by_cases z:mD l<l.length
 ·rw[if_pos z,if_pos (by omega),List.length_set,List.length_set];exact hl
 ·rw[if_neg z,if_neg (by omega),List.length_append,List.length_append,hl];rfl
def Zqr{α:Type}(l:List (Option α))(x:α):(pY l x).length<=l.length+1:=by
 unfold pY
 by_cases z:mD l<l.length
 ·rw[if_pos z,List.length_set];omega
 ·rw[if_neg z,List.length_append];exact Nat.le_refl _
def Zsu{α β:Type}:∀(l:List (Option α)) (m:List (Option β)),l.length=m.length->(∀(i:Nat) x y,l[i]? =some x->m[i]? =some y->(x=none↔y=none))->mD l=mD m:=by
 intro l
 induction l with
 | nil=>
  intro m hl _;cases m with
  | nil=>rfl
  | cons b m=>simp at hl
 | cons a l ih=>
  intro m hl h;cases m with
  | nil=>simp at hl
  | cons b m=>
   have ih':=ih m (by simpa using hl) λi x y h1 h2=>h (i+1) x y (by simpa using h1) (by simpa using h2);have e:=h 0 a b rfl rfl;cases a with
   | none=>rw[e.mp rfl];rfl
   | some a=>cases b with
    | none=>exact absurd (e.mpr rfl) (λz=>by cases z)
    | some b=>exact congrArg (· + 1) ih'
section
variable {X:Cs}{H H':Hp}{T T':Tg}{s:Nat}{A:Wa}{M:Wm}
def WC.fst(j:WC X H T s A.cs M.cells):mD A.cs=mD M.cells:=Zsu _ _ j.lc λi p c e1 e2=>by
 have e:=j.ce i p c e1 e2;cases p with
 | none=>cases c with
  | none=>exact⟨λ_=>rfl,λ_=>rfl⟩
  | some c=>exact e.elim
 | some p=>cases c with
  | none=>exact e.elim
  | some c=>exact⟨λz=>(by cases z),λz=>(by cases z)⟩
def WJ.put(j:WJ X H T s A M)(w:WT H T)(h0:s≠0){dx:Addr}{used':Int}{p fa:Addr}{c:Ce}(kp:∀b o,H b=some o->b≠A.hp->b≠A.ca->H' b=some o)(a1:H' A.hp=some (.ins X.H dx (lg M.room A.ca used' (M.born+1))))(a2:H' A.ca=some (.lst (putN (A.cs.map pV) (.ref p))))
  (n1:H p=none) (n2:H fa=none) (m1:p≠fa) (o1:∃dx,H' p=some (.ins X.C dx (nO c.birth c.bulk c.tone c.load fa))) (o2:H' fa=some (.lst (c.fl.map oV))):
  ∃T',jo s H H' T T'/\WJ X H' T' s { A with cs:=pY A.cs (p,fa) } { M with used:=used',born:=M.born+1,cells:=pY M.cells c }:=by
 obtain⟨th,tc,⟨dd,oh⟩,oc⟩:=j.jh;have i1:=j.jc.fst
 let k:=mD A.cs
 let T':Tg:=jZ (jZ T p (s,100+2 * k)) fa (s,101+2 * k)
 have told:∀b o,H b=some o->T' b=T b:=λb o h=>by
  show jZ _ _ _ b=_;rw[lY (aG h n2),lY (aG h n1)]
 have t1:T' p=(s,100+2 * k):=by show jZ _ _ _ p=_;rw[lY m1,jq]
 have t2:T' fa=(s,101+2 * k):=by show jZ _ _ _ fa=_;rw[jq]
 have al:∀b o,H b=some o->∃o',H' b=some o':=λb o h=>by
  by_cases z1:b=A.hp
  ·exact⟨_,by rw[z1];exact a1⟩
  ·by_cases z2:b=A.ca
   ·exact⟨_,by rw[z2];exact a2⟩
   ·exact⟨o,kp b o h z1 z2⟩
 have f:yI s (λk=>k=1\/k=2) H H' T T':=⟨λb o h e n=>kp b o h (λz=>n (.inl (by rw[z,th]))) (λz=>n (.inr (by rw[z,tc]))),told⟩;have f0:∀b o,H b=some o->T b=(0,0)->H' b=some o:=λb o h t=>kp b o h (Rv t th (λz=>h0 (congrArg Prod.fst z).symm)) (Rv t tc (λz=>h0 (congrArg Prod.fst z).symm));refine⟨T',⟨λb o h nn=>kp b o h (λz=>nn (by rw[z,th])) (λz=>nn (by rw[z,tc])),al,told,λb h=>?_⟩,?_⟩
 ·have b1:b≠p:=λe=>by obtain⟨d,z⟩:=o1;rw[e,z]at h;cases h
  have b2:b≠fa:=λe=>by rw[e,o2]at h;cases h
  have hb:H b=none:=by
   cases z:H b with
   | none=>rfl
   | some o=>obtain⟨o',z'⟩:=al b o z;rw[h]at z';cases z'
  show jZ _ _ _ b=_;rw[lY b2,lY b1];exact w b hb
 ·refine⟨?_,⟨f.tag oh th,f.tag oc tc,⟨dx,a1⟩,?_⟩,?_,?_,j.jd.mv f λ_ _ _=>by omega,⟨Zmq j.jc.lc i1,λi g cc e1 e2=>?_⟩⟩
  ·obtain⟨b1,b2,b3,b4,b5,b6,b7,b8⟩:=j.jb.mv f f0 (by omega) (by omega);exact⟨b1,b2,b3,b4,b5,b6,b7,b8⟩
  ·show H' A.ca=some (.lst ((pY A.cs (p,fa)).map pV));rw[<- Zmp Zna];exact a2
  ·obtain⟨b1,b2,b3⟩:=j.jn.mv f f0 (by omega);exact⟨b1,b2,b3⟩
  ·obtain⟨b1,b2,b3,b4⟩:=j.js.mv f (by omega) (by omega);exact⟨b1,b2,b3,b4⟩
  ·dsimp only at e1 e2
   by_cases hk:i=mD A.cs
   ·subst hk;rw[Pg]at e1;rw[i1,Pg]at e2;cases e1;cases e2;exact⟨t1,t2,o1,o2⟩
   ·exact(j.jc.ce i g cc (Zij hk e1) (Zij (by rw[<- i1];exact hk) e2)).mv f (by omega) (by omega)
end
def cellAt(M:Wm)(x:Int):Option Ce:=if 0<=x then(M.cells[x.toNat]?).join else none
def vQ(M:Wm):Option Int->Option Int
 | none=>none
 | some x=>(cellAt M x).map (·.birth)
def aW(M:Wm)(h k:Nat):Option Int:=((M.hands[h]?).bind λm=>m.2[k]?).join
def setSlot(M:Wm)(h k:Nat)(x:Option Int):Wm:={ M with hands:=M.hands.modify h λm=>(m.1,m.2.set k x) }
def setCell(M:Wm)(i:Int)(c:Ce):Wm:={ M with cells:=M.cells.set i.toNat (some c) }
def bO(M:Wm):Option Int->Option Int×Wm
 | none=>(none,M)
 | some i=>match cellAt M i with
  | none=>(none,M)
  | some c=>if M.sw.phase="walk"/\c.tone≠M.sw.sense then(some c.birth,{ setCell M i { c with tone:=M.sw.sense }with sw:={ M.sw with grey:=M.sw.grey++[i] } })else(none,M)
def dO(M:Wm)(h:Nat):Bool:=decide (M.sw.looked / 2 ^ h % 2=1)
def tH(M:Wm)(place birth:Int):Bool:=match cellAt M place with
 | none=>true
 | some c=>if c.birth=birth then decide (M.sw.phase="give"/\c.tone≠M.sw.sense)else true
def wj(l:List (Str×(Int×Int)))(k:Str)(v:Int×Int):List (Str×(Int×Int)):=if (l.any λm=>decide (m.1=k))=true then l.map (λm=>if m.1=k then(m.1,v)else m)else l++[(k,v)]
def yV(l:List (Str×(Int×Int)))(k:Str):Option (Int×Int):=(l.find? λm=>decide (m.1=k)).map (·.2)
inductive Rf where
 | full | empty | sH | Rt
 deriving DecidableEq
structure Ev where
 word:Str
 thing:Option Int
 notes:List Int
inductive o7 where
 | make (h s:Nat) (many bulk:Int)
 | get (h s t f:Nat)
 | put (h t f s:Nat)
 | copy (h s t:Nat)
 | drop (h s:Nat)
 | give (h s g t:Nat)
 | write (h t:Nat) (load:Int)
 | read (h t:Nat)
 | name (h t:Nat) (word:Str)
 | seek (h s:Nat) (word:Str)
def old?(M:Wm):Bool:=decide (M.tells % 2=1)
def rO(M:Wm):Bool:=decide (M.tells / 2 % 2=1)
def ofN:Option Int->List Int
 | none=>[]
 | some b=>[b]
def aU(M:Wm):List (Option Int)->List Int×Wm
 | []=>([],M)
 | x::l=>(ofN (bO M x).1++(aU (bO M x).2 l).1,(aU (bO M x).2 l).2)
def yJ(M:Wm):o7->Except Rf (Ev×Wm)
 | .make h s many bulk=>
  if M.used+(1+many+bulk)<=M.room then
   .ok (⟨"made",some (M.born+1),[]⟩,setSlot { M with used:=M.used+(1+many+bulk),born:=M.born+1,cells:=pY M.cells ⟨M.born+1,bulk,M.sw.sense,0,List.replicate many.toNat none⟩ } h s (some (mD M.cells)))
  else .error .full
 | .get h s t f=>match aW M h t with
  | none=>.error .empty
  | some x=>match cellAt M x with
   | none=>.error .empty
   | some c=>match c.fl[f]? with
    | none=>.error .sH
    | some v=>.ok (⟨"got",vQ M v,[]⟩,setSlot M h s v)
 | .put h t f s=>match aW M h t with
  | none=>.error .empty
  | some x=>match cellAt M x with
   | none=>.error .empty
   | some c=>match c.fl[f]? with
    | none=>.error .sH
    | some v=>
     let M1:=setCell M x { c with fl:=c.fl.set f (aW M h s) }
     let r:=aU M1 ((if old? M=true then [v]else [])++if (rO M && !dO M h)=true then [aW M h s]else [])
     .ok (⟨"put",vQ M v,r.1⟩,r.2)
 | .copy h s t=>.ok (⟨"copied",vQ M (aW M h t),[]⟩,setSlot M h s (aW M h t))
 | .drop h s=>.ok (⟨"dropped",vQ M (aW M h s),[]⟩,setSlot M h s none)
 | .give h s g t=>
  let r:=aU (setSlot M g t (aW M h s)) (if (rO M && !dO M h)=true then [aW M h s]else [])
  .ok (⟨"given",vQ M (aW M h s),r.1⟩,r.2)
 | .write h t load=>match aW M h t with
  | none=>.error .empty
  | some x=>match cellAt M x with
   | none=>.error .empty
   | some c=>.ok (⟨"wrote",some c.load,[]⟩,setCell M x { c with load:=load })
 | .read h t=>match aW M h t with
  | none=>.error .empty
  | some x=>match cellAt M x with
   | none=>.error .empty
   | some c=>.ok (⟨"read",some c.load,[]⟩,M)
 | .name h t word=>match aW M h t with
  | none=>.error .empty
  | some x=>match cellAt M x with
   | none=>.error .empty
   | some c=>.ok (⟨"named",some c.birth,[]⟩,{ M with names:=wj M.names word (x,c.birth) })
 | .seek h s word=>match yV M.names word with
  | none=>.error .Rt
  | some (p,b)=>
   if tH M p b=true then .ok (⟨"sought",none,[]⟩,setSlot M h s none)
   else
    let r:=aU (setSlot M h s (some p)) [some p]
    .ok (⟨"sought",some b,r.1⟩,r.2)
def dV:o7->List V
 | .make h s many bulk=>[.str "make",.int h,.int s,.int many,.int bulk]
 | .get h s t f=>[.str "get",.int h,.int s,.int t,.int f]
 | .put h t f s=>[.str "put",.int h,.int t,.int f,.int s]
 | .copy h s t=>[.str "copy",.int h,.int s,.int t]
 | .drop h s=>[.str "drop",.int h,.int s]
 | .give h s g t=>[.str "give",.int h,.int s,.int g,.int t]
 | .write h t load=>[.str "write",.int h,.int t,.int load]
 | .read h t=>[.str "read",.int h,.int t]
 | .name h t word=>[.str "name",.int h,.int t,.str word]
 | .seek h s word=>[.str "seek",.int h,.int s,.str word]
def BL(M:Wm)(h s:Nat):Prop:=∃m,M.hands[h]? =some m/\s<m.2.length
def okD(M:Wm):o7->Prop
 | .make h s many bulk=>BL M h s/\0<=many/\many<=1000/\0<=bulk
 | .get h s t _=>BL M h s/\BL M h t
 | .put h t _ s=>BL M h t/\BL M h s
 | .copy h s t=>BL M h s/\BL M h t
 | .drop h s=>BL M h s
 | .give h s g t=>BL M h s/\BL M g t
 | .write h t _=>BL M h t
 | .read h t=>BL M h t
 | .name h t _=>BL M h t
 | .seek h s _=>BL M h s
structure Ok(M:Wm):Prop where
 sl:∀m∈M.hands,∀x,some x∈m.2->∃c,cellAt M x=some c
 fl:∀c,some c∈M.cells->∀x,some x∈c.fl->∃d,cellAt M x=some d
 tn:∀c,some c∈M.cells->c.tone=0\/c.tone=1
def BK(Zyz Zx4 Zpz Zth:Addr):Rf->Addr
 | .full=>Zyz
 | .empty=>Zx4
 | .sH=>Zpz
 | .Rt=>Zth
def EvN(H0 H:Hp)(a:Addr)(e:Ev):Prop:=∃l,H0 l=none/\H a=some (.tup [.str e.word,oV e.thing,.ref l])/\H l=some (.lst (e.notes.map V.int))
def cj(X:Cs)(rf:Rf->Addr)(P:o7->Prop):Sp:=λvs H Q E=>∃wo dd,vs=[.ref wo,.ref dd]/\∃T s A M d,P d/\WT H T/\s≠0/\WJ X H T s A M/\A.wo=wo/\H dd=some (.tup (dV d))/\okD M d/\M.cells.length<=900/\(M.sw.phase="walk"->M.sw.grey.length<=10000)/\(0<=M.tells/\M.tells<4)/\M.names.length<=1000/\
 (∀r,yJ M d=.error r->∀H',aX H H'->E (.ref (rf r)) none H')/\
 (∀e M',yJ M d=.ok (e,M')->∀H' T' A' a,jo s H H' T T'->WJ X H' T' s A' M'->A'.wo=wo->EvN H H' a e->Q (.ref a) H')
abbrev ZHp(X:Cs)(rf:Rf->Addr):Sp:=cj X rf λ_=>True
def Zjy{α:Type}{l:List (Option α)}{x a:α}{i:Nat}(h:l[i]? =some (some a)):(pY l x)[i]? =some (some a):=by
 have hl:=(dY h).1;unfold pY
 by_cases z:mD l<l.length
 ·have hi:i≠mD l:=λe=>by rw[e,Zsv z]at h;cases h
  rw[if_pos z,List.getElem?_set_ne (λw=>hi w.symm)];exact h
 ·rw[if_neg z,List.getElem?_append_left hl];exact h
def dm{M:Wm}{x:Int}{c:Ce}:cellAt M x=some c↔0<=x/\M.cells[x.toNat]? =some (some c):=by
 unfold cellAt
 by_cases z:0<=x
 ·rw[if_pos z];cases e:M.cells[x.toNat]? with
  | none=>simp
  | some y=>cases y with
   | none=>simp
   | some d=>simp[z]
 ·rw[if_neg z];simp[z]
def vz{M:Wm}{x:Int}{c:Ce}(h:cellAt M x=some c):some c∈M.cells:=List.mem_of_getElem? (dm.mp h).2
def Zi0{M:Wm}{x u b:Int}{c d:Ce}(h:cellAt M x=some d):cellAt { M with used:=u,born:=b,cells:=pY M.cells c } x=some d:=by
 obtain⟨h0,h1⟩:=dm.mp h;exact dm.mpr ⟨h0,Zjy h1⟩
def Zi1{M:Wm}{u b:Int}{c:Ce}:cellAt { M with used:=u,born:=b,cells:=pY M.cells c } (mD M.cells)=some c:=
 dm.mpr ⟨by omega,by rw[Int.toNat_natCast];exact Pg _ _⟩
def Zns{α:Type}{l:List (Option α)}{x:α}{y:Option α}(h:y∈pY l x):y∈l\/y=some x:=by
 unfold pY at h
 by_cases z:mD l<l.length
 ·rw[if_pos z]at h;rcases List.mem_or_eq_of_mem_set h with h | h
  ·exact .inl h
  ·exact .inr h
 ·rw[if_neg z]at h;rcases List.mem_append.mp h with h | h
  ·exact .inl h
  ·exact .inr (List.mem_singleton.mp h)
def Zjp{M:Wm}{h k:Nat}{m:Str×List (Option Int)}{x:Option Int}(hm:M.hands[h]? =some m)(hk:m.2[k]? =some x):aW M h k=x:=by
 unfold aW;rw[hm];show(m.2[k]?).join=x;rw[hk];rfl
def Zcc{M:Wm}{h k:Nat}(o:BL M h k):∃m,M.hands[h]? =some m/\m.2[k]? =some (aW M h k)/\k<m.2.length:=by
 obtain⟨m,hm,hk⟩:=o;refine⟨m,hm,?_,hk⟩;rw[Zjp hm (bL hk)];exact bL hk
def TJ{M:Wm}{h k:Nat}{x:Option Int}{m:Str×List (Option Int)}(hm:M.hands[h]? =some m):(setSlot M h k x).hands=M.hands.set h (m.1,m.2.set k x):=by
 show M.hands.modify h _=_;apply List.ext_getElem?;intro i;rw[List.getElem?_modify]
 by_cases e:h=i
 ·subst e;rw[List.getElem?_set_self (dY hm).1,hm];simp
 ·rw[List.getElem?_set_ne e];simp[e]
def pX{M:Wm}{h k:Nat}{x:Option Int}{y:Option Int}:vQ (setSlot M h k x) y=vQ M y:=by cases y<;>rfl
def rowsOf(M:Wm):List (List (Option Int)):=M.hands.map λm=>m.2.map (vQ M)
def Zgl{M:Wm}(h:M.sw.phase≠"walk")(x:Option Int):bO M x=(none,M):=by
 cases x with
 | none=>rfl
 | some x=>
  unfold bO;dsimp only;cases cellAt M x with
  | none=>rfl
  | some c=>
   dsimp only;rw[if_neg (λz=>h z.1)]
def Zdt{M:Wm}{h s:Nat}{many bulk:Int}(hf:M.used+(1+many+bulk)<=M.room):yJ M (.make h s many bulk)=.ok (⟨"made",some (M.born+1),[]⟩,setSlot { M with used:=M.used+(1+many+bulk),born:=M.born+1,cells:=pY M.cells ⟨M.born+1,bulk,M.sw.sense,0,List.replicate many.toNat none⟩ } h s (some (mD M.cells))):=by
 show(if _ then _ else _)=_;rw[if_pos hf]
structure pZ(K:aB)(X:Cs):Prop where
 c:TxC K X.C X.H
 cW:Gf K X.W
 Nh:bK K X.W "heap"
 nWk:bK K X.W "kind"
 nWd:bK K X.W "hands"
 nWn:bK K X.W "names"
 Rx:bK K X.W "sweeper"
 cD:Gf K X.D
 nDn:bK K X.D "name"
 nDs:bK K X.D "slots"
 cK:Gf K X.K
 nKl:bK K X.K "looking"
 nKt:bK K X.K "tells"
 cS:Gf K X.S
 n1:bK K X.S "sense"
 n2:bK K X.S "phase"
 n3:bK K X.S "grey"
 n4:bK K X.S "looked"
 n5:bK K X.S "turn"
 n6:bK K X.S "at"
 n7:bK K X.S "stop"
 n8:bK K X.S "walks"
 n9:bK K X.S "looks"
 n10:bK K X.S "passes"
 n11:bK K X.S "loss"
structure WJ0(X:Cs)(H:Hp)(T:Tg)(s:Nat)(A:Wa)(M:Wm):Prop where
 jb:WB X H T s A M.w M.tells
 jh:WH X H T s A M.room M.used M.born
 js:WS X H T s A M.sw
 jd:WD X H T s A.hs M.hands
 jc:WC X H T s A.cs M.cells
def WJ.w0{X:Cs}{H:Hp}{T:Tg}{s:Nat}{A:Wa}{M:Wm}(j:WJ X H T s A M):WJ0 X H T s A M:=⟨j.jb,j.jh,j.js,j.jd,j.jc⟩
def WJ.names{X:Cs}{H:Hp}{T:Tg}{s:Nat}{A:Wa}{M:Wm}{o:HO}(j:WJ X H T s A M)(h0:s≠0):WJ0 X (upd H A.nm o) T s A M:=by
 have f:yI s (·=6) H (upd H A.nm o) T T:=yI.Dw j.jn.tm;exact⟨j.jb.mv f (pN h0 j.jn.tm) (by omega) (by omega),j.jh.mv f (by omega) (by omega),j.js.mv f (by omega) (by omega),j.jd.mv f λ_ _ _=>by omega,j.jc.mv f λ_ _=>by omega⟩
def WJ0.same{X:Cs}{H H':Hp}{T:Tg}{s:Nat}{A:Wa}{M:Wm}(j:WJ0 X H T s A M)(e:aX H H'):WJ0 X H' T s A M:=by
 have f:yI s (λ_=>False) H H' T T:=yI.of_same e;exact⟨j.jb.mv f (λb o h _=>e b o h) id id,j.jh.mv f id id,j.js.mv f id id,j.jd.mv f λ_ _ _=>id,j.jc.mv f λ_ _=>id⟩
def atO(cs:List V):V->V
 | .int i=>if 0<=i then(cs[i.toNat]?).getD .non else .non
 | _=>.non
def dX(CH:Addr):Sp:=λvs H Q E=>∃hp pl,vs=[.ref hp,pl]/\(pl=.non\/∃i,pl=.int i)/\∃ca room used born cs,HpO CH H hp ca room used born cs/\Q (atO cs pl) H
def cO(M:Wm)(x:Option Int):Option Ce:=x.bind (cellAt M)
def cI(X:Cs):Sp:=λvs H Q E=>∃hp pl,vs=[.ref hp,pl]/\∃x,pl=oV x/\∃T s A M,WJ X H T s A M/\A.hp=hp/\Q (oV (vQ M x)) H
def wO(X:Cs):Sp:=λvs H Q E=>∃p f,vs=[.ref p,.int f]/\∃T s i q c,V9 X.C H T s i q c/\q.1=p/\Q (.bl (decide (0<=f) && decide (f<c.fl.length))) H
def bZ(X:Cs):Sp:=λvs H Q E=>∃wo h,vs=[.ref wo,.int h]/\∃T s A M k p,WJ X H T s A M/\A.wo=wo/\h=((k:Nat):Int)/\A.hs[k]? =some p/\Q (.ref p.2) H
def cM(X:Cs):Sp:=λvs H Q E=>∃wo p,vs=[.ref wo,.ref p]/\∃T s A M i q c,WJ0 X H T s A M/\A.wo=wo/\V9 X.C H T s i q c/\q.1=p/\Q (.bl (decide (c.tone=M.sw.sense))) H
def wN(X:Cs):Sp:=λvs H Q E=>∃wo h,vs=[.ref wo,.int h]/\∃T s A M k,WJ X H T s A M/\A.wo=wo/\h=((k:Nat):Int)/\Q (.bl (dO M k)) H
def Bm(X:Cs):Sp:=λvs H Q E=>∃wo v,vs=[.ref wo,v]/\∃T s A M,WJ X H T s A M/\A.wo=wo/\(0<=M.tells/\M.tells<4)/\∀l,H l=none->Q (.ref l) (upd H l (.lst (if old? M=true then [v]else [])))
def pO(X:Cs):Sp:=λvs H Q E=>∃wo h v,vs=[.ref wo,.int h,v]/\∃T s A M k,WJ X H T s A M/\A.wo=wo/\(0<=M.tells/\M.tells<4)/\h=((k:Nat):Int)/\∀l,H l=none->Q (.ref l) (upd H l (.lst (if (rO M && !dO M k)=true then [v]else [])))
def jT(X:Cs)(CE:Addr):Sp:=λvs H Q E=>∃wo h t,vs=[.ref wo,.int h,.int t]/\∃T s A M hn tn,WJ X H T s A M/\A.wo=wo/\h=((hn:Nat):Int)/\t=((tn:Nat):Int)/\BL M hn tn/\
 (cO M (aW M hn tn)=none->E (.ref CE) none H)/\
 (∀i c p,aW M hn tn=some i->0<=i->cellAt M i=some c->A.cs[i.toNat]? =some (some p)->V9 X.C H T s i.toNat p c->Q (.ref p.1) H)
def oA(X:Cs)(CE CF:Addr):Sp:=λvs H Q E=>∃wo h t f,vs=[.ref wo,.int h,.int t,.int f]/\∃T s A M hn tn fn,WJ X H T s A M/\A.wo=wo/\h=((hn:Nat):Int)/\t=((tn:Nat):Int)/\f=((fn:Nat):Int)/\BL M hn tn/\
 (cO M (aW M hn tn)=none->E (.ref CE) none H)/\
 (∀i c,aW M hn tn=some i->0<=i->cellAt M i=some c->c.fl[fn]? =none->E (.ref CF) none H)/\
 (∀i c p,aW M hn tn=some i->0<=i->cellAt M i=some c->A.cs[i.toNat]? =some (some p)->V9 X.C H T s i.toNat p c->fn<c.fl.length->Q (.ref p.2) H)
def Zb0(X:Cs):Sp:=λvs H Q E=>∃wo pl,vs=[.ref wo,pl]/\∃x,pl=oV x/\∃T s A M,WT H T/\s≠0/\WJ X H T s A M/\A.wo=wo/\(M.sw.phase="walk"->M.sw.grey.length<=20000)/\
 ∀H',jo s H H' T T->WJ X H' T s A (bO M x).2->Q (oV (bO M x).1) H'
def PlO(H:Hp)(T:Tg)(A:Wa)(M:Wm)(pl:Addr)(xs:List (Option Int)):Prop:=(H pl=some (.lst (xs.map oV))/\T pl=(0,0))\/(∃(k:Nat) (p:Addr×Addr) (m:Str×List (Option Int)),A.hs[k]? =some p/\M.hands[k]? =some m/\pl=p.2/\xs=m.2)\/(∃(k:Nat) (p:Addr×Addr) (c:Ce),A.cs[k]? =some (some p)/\M.cells[k]? =some (some c)/\pl=p.2/\xs=c.fl)
def PlO.get{X:Cs}{H:Hp}{T:Tg}{s:Nat}{A:Wa}{M:Wm}{pl:Addr}{xs:List (Option Int)}(h:PlO H T A M pl xs)(j:WJ X H T s A M):H pl=some (.lst (xs.map oV)):=by
 rcases h with ⟨h,_⟩ | ⟨k,p,m,h1,h2,rfl,rfl⟩ | ⟨k,p,c,h1,h2,rfl,rfl⟩
 ·exact h
 ·exact(j.jd.hd k p m h1 h2).o2
 ·have e:=j.jc.ce k _ _ h1 h2;exact(show V9 X.C H T s k p c from e).o2
def fG(X:Cs):Sp:=λvs H Q E=>∃wo pl,vs=[.ref wo,.ref pl]/\∃xs T s A M,WT H T/\s≠0/\WJ X H T s A M/\A.wo=wo/\PlO H T A M pl xs/\xs.length<=100/\(M.sw.phase="walk"->M.sw.grey.length<=10000)/\
 ∀H' T' l,jo s H H' T T'->WJ X H' T' s A (aU M xs).2->H' l=some (.lst ((aU M xs).1.map V.int))->H l=none->Q (.ref l) H'
def GZ(X:Cs):Sp:=λvs H Q E=>∃wo p b,vs=[.ref wo,.int p,.int b]/\∃T s A M,WJ0 X H T s A M/\A.wo=wo/\Q (.bl (tH M p b)) H
def sW(X:Cs)(CN:Addr):Sp:=λvs H Q E=>∃wo z,vs=[.ref wo,.str z]/\∃T s A M,WJ X H T s A M/\A.wo=wo/\(yV M.names z=none->E (.ref CN) none H)/\(∀p b,yV M.names z=some (p,b)->Q (if tH M p b=true then .non else .int p) H)
def yQ(x:Option Int):oV x=.non\/∃i,oV x=.int i:=by cases x with
 | none=>exact .inl rfl
 | some i=>exact .inr ⟨i,rfl⟩
section
variable {X:Cs}{H H':Hp}{T T':Tg}{s:Nat}{A:Wa}{M:Wm}
def WJ0.hpO(j:WJ0 X H T s A M):HpO X.H H A.hp A.ca M.room M.used M.born (A.cs.map pV):=⟨j.jh.oh,j.jh.oc⟩
def WJ0.look(j:WJ0 X H T s A M)(x:Option Int):(cO M x=none/\atO (A.cs.map pV) (oV x)=.non)\/∃i c p,x=some i/\0<=i/\cellAt M i=some c/\M.cells[i.toNat]? =some (some c)/\A.cs[i.toNat]? =some (some p)/\atO (A.cs.map pV) (oV x)=.ref p.1/\V9 X.C H T s i.toNat p c:=by
 cases x with
 | none=>exact .inl ⟨rfl,rfl⟩
 | some i=>
  show(cellAt M i=none/\atO _ (.int i)=_)\/_
  by_cases h0:0<=i
  ·cases hc:M.cells[i.toNat]? with
   | none=>
    have hl:A.cs[i.toNat]? =none:=by
     rw[List.getElem?_eq_none_iff]at hc ⊢;rw[j.jc.lc];exact hc
    refine .inl ⟨by unfold cellAt;rw[if_pos h0,hc];rfl,?_⟩;show(if 0<=i then _ else _)=_;rw[if_pos h0,cz,hl];rfl
   | some y=>cases y with
    | none=>
     refine .inl ⟨by unfold cellAt;rw[if_pos h0,hc];rfl,?_⟩;show(if 0<=i then _ else _)=_;rw[if_pos h0,cz,j.jc.at0 hc];rfl
    | some c=>
     obtain⟨p,hp,e⟩:=j.jc.at hc;refine .inr ⟨i,c,p,rfl,h0,by unfold cellAt;rw[if_pos h0,hc];rfl,hc,hp,?_,e⟩;show(if 0<=i then _ else _)=_;rw[if_pos h0,cz,hp];rfl
  ·refine .inl ⟨by unfold cellAt;rw[if_neg h0],?_⟩;show(if 0<=i then _ else _)=_;rw[if_neg h0]
def WJ.hpO(j:WJ X H T s A M):HpO X.H H A.hp A.ca M.room M.used M.born (A.cs.map pV):=j.w0.hpO
def WJ.look(j:WJ X H T s A M)(x:Option Int):(cO M x=none/\atO (A.cs.map pV) (oV x)=.non)\/∃i c p,x=some i/\0<=i/\cellAt M i=some c/\M.cells[i.toNat]? =some (some c)/\A.cs[i.toNat]? =some (some p)/\atO (A.cs.map pV) (oV x)=.ref p.1/\V9 X.C H T s i.toNat p c:=j.w0.look x
def WJ.hand(j:WJ X H T s A M){k:Nat}{p:Addr×Addr}(hp:A.hs[k]? =some p):∃m,M.hands[k]? =some m/\HdO X.D H T s k p m:=by
 have hl:k<M.hands.length:=by rw[<- j.jd.lh];exact(dY hp).1
 exact⟨_,bL hl,j.jd.hd k p _ hp (bL hl)⟩
def WJ.handOf(j:WJ X H T s A M){h t:Nat}(o:BL M h t):∃p m,A.hs[h]? =some p/\M.hands[h]? =some m/\m.2[t]? =some (aW M h t)/\t<m.2.length/\HdO X.D H T s h p m:=by
 obtain⟨m,hm,hk,hl⟩:=Zcc o;have hh:h<A.hs.length:=by rw[j.jd.lh];exact(dY hm).1
 exact⟨_,m,bL hh,hm,hk,hl,j.jd.hd h _ m (bL hh) hm⟩
def WJ.fresh(j:WJ X H T s A M){l:Addr}{o:HO}{v:Nat×Nat}(h:H l=none):WJ X (upd H l o) (jZ T l v) s A M:=
 j.mv (H':=upd H l o) (T':=jZ T l v) ⟨λb u e _ _=>by rw[aC (aG e h)];exact e,λb u e=>lY (aG e h)⟩ λb u e _=>by rw[aC (aG e h)];exact e
end
def Zyu{t:Int}(h:0<=t/\t<4):Builtin.bitAnd t 1=t % 2/\(Builtin.bitAnd t 2=0↔¬ t / 2 % 2=1):=by
 have:t=0\/t=1\/t=2\/t=3:=by omega
 rcases this with rfl | rfl | rfl | rfl<;>decide
section
variable {K:aB}{X:Cs}{H:Hp}{Q:VK}{E:XK}{n:St->Hp->Prop}{bk ct:St->Hp->Prop}
def Zhz{hp:Addr}{pl:V}(T:pZ K X)(q:(pl=.non\/∃i,pl=.int i)/\∃ca room used born cs,HpO X.H H hp ca room used born cs/\Q (atO cs pl) H):GD K ⟨n,Q,bk,ct⟩ [some (.ref hp),some pl] H:=by
 obtain⟨hpl,ca,room,used,born,cs,⟨⟨dx,h1⟩,h2⟩,q⟩:=q;unfold GD;rcases hpl with rfl | ⟨i,rfl⟩
 ·walk_at"e";exact q
 ·walk_at"e";refine vO (λz=>?_) (λz=>?_)
  ·walk_at"e";rw[show atO cs (.int i)=.non from if_neg (by omega)]at q;exact q
  ·rw[show atO cs (.int i)=(cs[i.toNat]?).getD .non from if_pos (by omega)]at q;walk_at"e";refine aH h1 T.c.cN T.c.bM bT ?_;walk_at"e";refine jt (cL.of h2) ?_;walk_at"e";refine vO (λy=>?_) (λy=>?_)
   ·walk_at"e";rw[List.getElem?_eq_none_iff.mpr (by omega)]at q;exact q
   ·walk_at"e";refine aH h1 T.c.cN T.c.bM bT ?_;walk_at"e";have hl:i.toNat<cs.length:=by omega
    refine ji (cL.of h2) (qM (by omega) (bL hl)) ?_;rw[bL hl]at q;exact q
def Ze2{hp:Addr}{pl:V}(T:pZ K X)(q:∃x,pl=oV x/\∃T s A M,WJ X H T s A M/\A.hp=hp/\Q (oV (vQ M x)) H):Dc K (dX X.H) ⟨n,Q,bk,ct⟩ [some (.ref hp),some pl,none] H:=by
 obtain⟨x,rfl,Tg,s,A,M,j,rfl,q⟩:=q;unfold Dc;walk_at"e";refine⟨_,_,rfl,yQ x,_,_,_,_,_,j.hpO,?_⟩;rcases j.look x with ⟨e1,e2⟩ | ⟨i,c,p,rfl,h0,ec,_,_,e2,⟨t1,t2,⟨dx,o1⟩,o2⟩⟩
 ·rw[e2];have:vQ M x=none:=by
   cases x with
   | none=>rfl
   | some i=>show(cellAt M i).map _=none;rw[show cellAt M i=none from e1];rfl
  rw[this]at q;walk_at"e";exact q
 ·rw[e2];have:vQ M (some i)=some c.birth:=by show(cellAt M i).map _=_;rw[ec];rfl
  rw[this]at q;walk_at"e";refine aH o1 T.c.cZ T.c.dU gM ?_;exact q
def JM{p:Addr}{f:Int}(T:pZ K X)(q:∃T s i q c,V9 X.C H T s i q c/\q.1=p/\Q (.bl (decide (0<=f) && decide (f<c.fl.length))) H):qt K ⟨n,Q,bk,ct⟩ [some (.ref p),some (.int f)] H:=by
 obtain⟨Tg,s,i,r,c,⟨t1,t2,⟨dx,o1⟩,o2⟩,rfl,q⟩:=q;unfold qt;walk_at"e";refine vO (λz=>?_) (λz=>?_)
 ·rw[decide_eq_true z,Bool.true_and]at q;walk_at"e";refine aH o1 T.c.cZ T.c.eX lD ?_;walk_at"e";refine jt (cL.of o2) ?_;walk_at"e";rw[aY];exact q
 ·rw[decide_eq_false z,Bool.false_and]at q;walk_at"e";exact q
def Zbm{wo:Addr}{h:Int}(T:pZ K X)(q:∃T s A M k p,WJ X H T s A M/\A.wo=wo/\h=((k:Nat):Int)/\A.hs[k]? =some p/\Q (.ref p.2) H):CT K ⟨n,Q,bk,ct⟩ [some (.ref wo),some (.int h)] H:=by
 obtain⟨Tg,s,A,M,k,p,j,rfl,rfl,hp,q⟩:=q;obtain⟨d1,ow⟩:=j.jb.ow;obtain⟨m,hm,⟨t1,t2,⟨dx,o1⟩,o2⟩⟩:=j.hand hp;unfold CT;walk_at"e";refine aH ow T.cW T.nWd eV ?_;walk_at"e";refine ji (cL.of j.jb.on) (iB (v:=.ref p.1) (by rw[cz,hp];rfl)) ?_;refine aH o1 T.cD T.nDs qJ ?_;exact q
def Za3{wo p:Addr}(T:pZ K X)(q:∃T s A M i q c,WJ0 X H T s A M/\A.wo=wo/\V9 X.C H T s i q c/\q.1=p/\Q (.bl (decide (c.tone=M.sw.sense))) H):zU K ⟨n,Q,bk,ct⟩ [some (.ref wo),some (.ref p)] H:=by
 obtain⟨Tg,s,A,M,i,r,c,j,rfl,⟨t1,t2,⟨dx,o1⟩,o2⟩,rfl,q⟩:=q;obtain⟨d1,ow⟩:=j.jb.ow;obtain⟨d2,os⟩:=j.js.os;unfold zU;walk_at"e";refine aH o1 T.c.cZ T.c.mG VJ ?_;walk_at"e";refine aH ow T.cW T.Rx bx ?_;walk_at"e";refine aH os T.cS T.n1 lC ?_;walk_at"e";exact q
end
def Zt6{y:Int}:Builtin.bitAnd y 1=y % 2:=by
 unfold Builtin.bitAnd
 by_cases h:0<=y
 ·rw[decide_eq_true h,decide_eq_true (show(0:Int)<=1 by decide)];show((y.toNat &&& 1:Nat):Int)=_;rw[Nat.and_one_is_mod];omega
 ·rw[decide_eq_false h,decide_eq_true (show(0:Int)<=1 by decide)];show(1:Int) - ((1 &&& (Builtin.bitNot y).toNat:Nat):Int)=_;rw[Nat.and_comm,Nat.and_one_is_mod];unfold Builtin.bitNot;omega
section
variable {K:aB}{X:Cs}{H:Hp}{Q:VK}{E:XK}{n:St->Hp->Prop}{bk ct:St->Hp->Prop}{CE CF CN:Addr}
def Zz{wo:Addr}{h:Int}(T:pZ K X)(q:∃T s A M k,WJ X H T s A M/\A.wo=wo/\h=((k:Nat):Int)/\Q (.bl (dO M k)) H):zT K ⟨n,Q,bk,ct⟩ [some (.ref wo),some (.int h)] H:=by
 obtain⟨Tg,s,A,M,k,j,rfl,rfl,q⟩:=q;obtain⟨d1,ow⟩:=j.jb.ow;obtain⟨d2,os⟩:=j.js.os;unfold zT;walk_at"e";refine aH ow T.cW T.Rx bx ?_;walk_at"e";refine aH os T.cS T.n4 iG ?_;walk_at"e";rw[Zt6,Int.toNat_natCast];exact q
def Qh{wo:Addr}{v:V}(T:pZ K X)(q:∃T s A M,WJ X H T s A M/\A.wo=wo/\(0<=M.tells/\M.tells<4)/\∀l,H l=none->Q (.ref l) (upd H l (.lst (if old? M=true then [v]else [])))):
  uT K ⟨n,Q,bk,ct⟩ [some (.ref wo),some v] H:=by
 obtain⟨Tg,s,A,M,j,rfl,ht,q⟩:=q;obtain⟨d1,ow⟩:=j.jb.ow;obtain⟨d2,ok⟩:=j.jb.ok;obtain⟨b1,_⟩:=Zyu ht;unfold uT;walk_at"e";refine aH ow T.cW T.nWk mj ?_;walk_at"e";refine aH ok T.cK T.nKt DQ ?_;walk_at"e";rw[b1];refine vO (λz=>?_) (λz=>?_)
 ·walk_at"e";refine⟨aV (by simp),λl hl=>?_⟩;have:=q l hl;rw[if_neg (by unfold old?;rw[decide_eq_true_iff];omega)]at this;exact this
 ·walk_at"e";refine⟨aV (by simp),λl hl=>?_⟩;have:=q l hl;rw[if_pos (by unfold old?;rw[decide_eq_true_iff];omega)]at this;exact this
def Qi{wo:Addr}{h:Int}{v:V}(T:pZ K X)(q:∃T s A M k,WJ X H T s A M/\A.wo=wo/\(0<=M.tells/\M.tells<4)/\h=((k:Nat):Int)/\∀l,H l=none->Q (.ref l) (upd H l (.lst (if (rO M && !dO M k)=true then [v]else [])))):
  uU K (wN X) ⟨n,Q,bk,ct⟩ [some (.ref wo),some (.int h),some v] H:=by
 obtain⟨Tg,s,A,M,k,j,rfl,ht,rfl,q⟩:=q;obtain⟨d1,ow⟩:=j.jb.ow;obtain⟨d2,ok⟩:=j.jb.ok;obtain⟨_,b1⟩:=Zyu ht;unfold uU;walk_at"e";refine aH ow T.cW T.nWk mj ?_;walk_at"e";refine aH ok T.cK T.nKt DQ ?_;walk_at"e";refine vO (λz=>?_) (λz=>?_)
 ·walk_at"e";refine⟨aV (by simp),λl hl=>?_⟩;have:=q l hl;have e:rO M=false:=by unfold rO;exact decide_eq_false (b1.mp z)
  rw[e,Bool.false_and,if_neg (by decide)]at this;exact this
 ·have e:rO M=true:=by unfold rO;exact decide_eq_true (Decidable.not_not.mp λw=>z (b1.mpr w))
  rw[e,Bool.true_and]at q;walk_at"e";refine⟨_,_,rfl,Tg,s,A,M,k,j,rfl,rfl,?_⟩;cases hl:dO M k with
  | true=>
   rw[hl]at q;walk_at"e";refine⟨aV (by simp),λl hl=>?_⟩;exact q l hl
  | false=>
   rw[hl]at q;walk_at"e";refine⟨aV (by simp),λl hl=>?_⟩;exact q l hl
def Zhy{wo:Addr}{h t:Int}(T:pZ K X)(q:∃T s A M hn tn,WJ X H T s A M/\A.wo=wo/\h=((hn:Nat):Int)/\t=((tn:Nat):Int)/\BL M hn tn/\
 (cO M (aW M hn tn)=none->E (.ref CE) none H)/\
 (∀i c p,aW M hn tn=some i->0<=i->cellAt M i=some c->A.cs[i.toNat]? =some (some p)->V9 X.C H T s i.toNat p c->Q (.ref p.1) H)):
  Gz K CE (dX X.H) (bZ X) E ⟨n,Q,bk,ct⟩ [some (.ref wo),some (.int h),some (.int t),none] H:=by
 obtain⟨Tg,s,A,M,hn,tn,j,rfl,rfl,rfl,ok,hE,hQ⟩:=q;obtain⟨d1,ow⟩:=j.jb.ow;obtain⟨p,m,hp,hm,hs,hl,⟨t1,t2,o1,o2⟩⟩:=j.handOf ok;unfold Gz;walk_at"e";refine aH ow T.cW T.Nh bD ?_;walk_at"e";refine⟨_,_,rfl,Tg,s,A,M,hn,p,j,rfl,rfl,hp,?_⟩;walk_at"e";refine ji (cL.of o2) (iB (v:=oV (aW M hn tn)) (by rw[cz,hs];rfl)) ?_;walk_at"e";refine⟨_,_,rfl,yQ _,_,_,_,_,_,j.hpO,?_⟩;rcases j.look (aW M hn tn)with ⟨e1,e2⟩ | ⟨i,c,p',e0,h0,ec,_,hp',e2,ce⟩
 ·rw[e2];walk_at"e";exact⟨by decide,hE e1⟩
 ·rw[e2];walk_at"e";exact hQ i c p' e0 h0 ec hp' ce
def Za6{wo:Addr}{h t f:Int}(T:pZ K X)(q:∃T s A M hn tn fn,WJ X H T s A M/\A.wo=wo/\h=((hn:Nat):Int)/\t=((tn:Nat):Int)/\f=((fn:Nat):Int)/\BL M hn tn/\
 (cO M (aW M hn tn)=none->E (.ref CE) none H)/\
 (∀i c,aW M hn tn=some i->0<=i->cellAt M i=some c->c.fl[fn]? =none->E (.ref CF) none H)/\
 (∀i c p,aW M hn tn=some i->0<=i->cellAt M i=some c->A.cs[i.toNat]? =some (some p)->V9 X.C H T s i.toNat p c->fn<c.fl.length->Q (.ref p.2) H)):
  zV K X.C CF (wO X) (jT X CE) E ⟨n,Q,bk,ct⟩ [some (.ref wo),some (.int h),some (.int t),some (.int f),none] H:=by
 obtain⟨Tg,s,A,M,hn,tn,fn,j,rfl,rfl,rfl,rfl,ok,hE,hF,hQ⟩:=q;unfold zV;walk_at"e";refine⟨_,_,_,rfl,Tg,s,A,M,hn,tn,j,rfl,rfl,rfl,ok,hE,λi c p e0 h0 ec hp ce=>?_⟩;obtain⟨t1,t2,⟨dx,o1⟩,o2⟩:=id ce;walk_at"e";refine⟨p.1,dx,_,rfl,o1,GR,?_⟩;walk_at"e";refine⟨_,_,rfl,Tg,s,_,p,c,ce,rfl,?_⟩
 by_cases z:fn<c.fl.length
 ·rw[show(decide ((0:Int)<=(fn:Int)) && decide ((fn:Int)<c.fl.length))=true from by simp;omega];walk_at"e";refine aH o1 T.c.cZ T.c.eX lD ?_;exact hQ i c p e0 h0 ec hp ce z
 ·rw[show(decide ((0:Int)<=(fn:Int)) && decide ((fn:Int)<c.fl.length))=false from by simp;omega];walk_at"e";exact⟨by decide,hF i c e0 h0 ec (List.getElem?_eq_none_iff.mpr (by omega))⟩
def Zss{wo:Addr}{pl b:Int}(T:pZ K X)(q:∃T s A M,WJ0 X H T s A M/\A.wo=wo/\Q (.bl (tH M pl b)) H):YM K (dX X.H) (cM X) ⟨n,Q,bk,ct⟩ [some (.ref wo),some (.int pl),some (.int b),none] H:=by
 obtain⟨Tg,s,A,M,j,rfl,q⟩:=q;obtain⟨d1,ow⟩:=j.jb.ow;obtain⟨d2,os⟩:=j.js.os;unfold YM;walk_at"e";refine aH ow T.cW T.Nh bD ?_;walk_at"e";refine⟨_,_,rfl,yQ (some pl),_,_,_,_,_,j.hpO,?_⟩;unfold tH at q;rcases j.look (some pl)with ⟨e1,e2⟩ | ⟨i,c,p,ei,h0,ec,_,hp,e2,ce⟩
 ·rw[show atO (A.cs.map pV) (.int pl)=.non from e2];rw[show cellAt M pl=none from e1]at q;walk_at"e";exact q
 ·cases ei;rw[show atO (A.cs.map pV) (.int pl)=.ref p.1 from e2];rw[ec]at q;dsimp only at q;obtain⟨t1,t2,⟨dx,o1⟩,o2⟩:=id ce;walk_at"e";refine aH o1 T.c.cZ T.c.dU gM ?_;walk_at"e";refine LR (λz=>?_) (λz=>?_)
  ·rw[if_neg z]at q;walk_at"e";exact q
  ·rw[if_pos z]at q;walk_at"e";refine aH ow T.cW T.Rx bx ?_;walk_at"e";refine aH os T.cS T.n2 fQ ?_;walk_at"e";refine vO (λy=>?_) (λy=>?_)
   ·walk_at"e";refine⟨_,_,rfl,Tg,s,A,M,_,p,c,j,rfl,ce,rfl,?_⟩;walk_at"e";have:decide (M.sw.phase="give"/\c.tone≠M.sw.sense)=!decide (c.tone=M.sw.sense):=by simp[y]
    rw[this]at q;exact q
   ·have:decide (M.sw.phase="give"/\c.tone≠M.sw.sense)=false:=decide_eq_false λw=>y w.1;rw[this]at q;exact q
def Zro{wo:Addr}{pl:V}(T:pZ K X)(q:∃x,pl=oV x/\∃T s A M,WT H T/\s≠0/\WJ X H T s A M/\A.wo=wo/\(M.sw.phase="walk"->M.sw.grey.length<=20000)/\
 ∀H',jo s H H' T T->WJ X H' T s A (bO M x).2->Q (oV (bO M x).1) H'):YK K (dX X.H) (cM X) ⟨n,Q,bk,ct⟩ [some (.ref wo),some pl,none,none] H:=by
 obtain⟨x,rfl,Tg,s,A,M,w,s0,j,rfl,hg,q⟩:=q;obtain⟨d1,ow⟩:=j.jb.ow;obtain⟨d2,os⟩:=j.js.os;unfold YK;walk_at"e";refine aH ow T.cW T.Rx bx ?_;walk_at"e";refine aH ow T.cW T.Nh bD ?_;walk_at"e";refine⟨_,_,rfl,yQ x,_,_,_,_,_,j.hpO,?_⟩;walk_at"e";refine aH os T.cS T.n2 fQ ?_;walk_at"e";have stay:bO M x=(none,M)->Q .non H:=λe=>by
  have:=q H (jo.refl w);rw[e]at this;exact this j
 refine LR (λz=>?_) (λz=>?_)
 ·walk_at"e";exact stay (Zgl z x)
 ·rcases j.look x with ⟨e1,e2⟩ | ⟨i,c,p,rfl,h0,ec,hc,hp,e2,ce⟩
  ·rw[e2];walk_at"e";refine stay ?_;cases x with
   | none=>rfl
   | some i=>unfold bO;dsimp only;rw[show cellAt M i=none from e1]
  ·rw[e2];obtain⟨t1,t2,⟨dx,o1⟩,o2⟩:=id ce;walk_at"e";refine⟨_,_,rfl,Tg,s,A,M,_,p,c,j.w0,rfl,ce,rfl,?_⟩
   by_cases y:c.tone=M.sw.sense
   ·rw[decide_eq_true y];walk_at"e";refine stay ?_;unfold bO;dsimp only;rw[ec];dsimp only;rw[if_neg λw=>w.2 y]
   ·rw[decide_eq_false y];have en:bO M (some i)=(some c.birth,{ setCell M i { c with tone:=M.sw.sense }with sw:={ M.sw with grey:=M.sw.grey++[i] } }):=by
     unfold bO;dsimp only;rw[ec];dsimp only;rw[if_pos ⟨z,y⟩]
    rw[en]at q;walk_at"e";refine aH os T.cS T.n1 lC ?_;walk_at"e";refine⟨p.1,X.C,dx,_,rfl,o1,T.c.cZ,T.c.mG,by show 5<1000;decide,?_⟩;rw[SJ];obtain⟨st1,j1⟩:=j.cell w s0 (dx:=dx) (tone:=M.sw.sense) (load:=c.load) hp ce;generalize upd H p.1 (.ins X.C dx (nO c.birth c.bulk M.sw.sense c.load p.2))=H1 at st1 j1 ⊢;obtain⟨d3,os1⟩:=j1.js.os;obtain⟨p1,hp1,ce1⟩:=j1.jc.at (i:=i.toNat) (c:={ c with tone:=M.sw.sense,load:=c.load }) (by rw[List.getElem?_set_self (dY hc).1]);rw[hp]at hp1;cases hp1;walk_at"e";refine aH os1 T.cS T.n3 mq ?_;walk_at"e";have hgl:=hg z;refine⟨.inl ⟨rfl,_,cL.of j1.js.og⟩,?_⟩;walk_at"e";refine⟨_,_,_,rfl,rfl,j1.js.og,?_,?_⟩
    ·rw[aY];exact Nat.lt_of_le_of_lt hgl (by decide)
    obtain⟨st2,j2⟩:=j1.Ztv st1.wt s0 (g:=M.sw.grey++[i]);have eg:(M.sw.grey.map V.int++[V.int i])=(M.sw.grey++[i]).map V.int:=by rw[List.map_append];rfl
    show bG _ _ _ (upd H1 A.gr (.lst (M.sw.grey.map V.int++[oV (some i)])));rw[show(M.sw.grey.map V.int++[oV (some i)])=(M.sw.grey++[i]).map V.int from eg];generalize upd H1 A.gr (.lst ((M.sw.grey++[i]).map V.int))=H2 at st2 j2 ⊢;obtain⟨p2,hp2,ce2⟩:=j2.jc.at (i:=i.toNat) (c:={ c with tone:=M.sw.sense,load:=c.load }) (by show(M.cells.set _ _)[_]? =_;rw[List.getElem?_set_self (dY hc).1]);rw[hp]at hp2;cases hp2;obtain⟨_,_,⟨dx2,o3⟩,_⟩:=ce2;walk_at"e";refine aH o3 T.c.cZ T.c.dU gM ?_;exact q H2 (st1.trans st2) j2
def Zv4{Tg:Tg}{z:Str}:∀{ns:List Addr}{names:List (Str×(Int×Int))},Al (NmO H Tg) ns names->(yV names z=none/\nP (BJ names ns) (Sum.inr z)=none)\/∃p b t,yV names z=some (p,b)/\nP (BJ names ns) (Sum.inr z)=some (.ref t)/\H t=some (.tup [.int p,.int b])/\Tg t=(0,0):=by
 intro ns names h
 induction h with
 | nil=>exact .inl ⟨rfl,rfl⟩
 | @cons t m ns names h1 _ ih=>
  by_cases e:m.1=z
  ·refine .inr ⟨m.2.1,m.2.2,t,?_,?_,h1.2,h1.1⟩
   ·unfold yV;rw[List.find?_cons_of_pos (by simpa using e)];rfl
   ·show(List.find? _ ((Sum.inr m.1,V.ref t)::BJ names ns)).map _=_;rw[List.find?_cons_of_pos (by simpa using e)];rfl
  ·have g:yV (m::names) z=yV names z:=by unfold yV;rw[List.find?_cons_of_neg (by simpa using e)]
   have v:nP (BJ (m::names) (t::ns)) (Sum.inr z)=nP (BJ names ns) (Sum.inr z):=by
    show(List.find? _ ((Sum.inr m.1,V.ref t)::BJ names ns)).map _=_;rw[List.find?_cons_of_neg (by simpa using e)];rfl
   rw[g,v];exact ih
def Q3{wo:Addr}{z:Str}(T:pZ K X)(q:∃T s A M,WJ X H T s A M/\A.wo=wo/\(yV M.names z=none->E (.ref CN) none H)/\(∀p b,yV M.names z=some (p,b)->Q (if tH M p b=true then .non else .int p) H)):
  uV K CN (GZ X) E ⟨n,Q,bk,ct⟩ [some (.ref wo),some (.str z),none,none] H:=by
 obtain⟨Tg,s,A,M,j,rfl,hE,hQ⟩:=q;obtain⟨d1,ow⟩:=j.jb.ow;obtain⟨tm,om,nms⟩:=j.jn;unfold uV;walk_at"e";refine aH ow T.cW T.nWn m7 ?_;refine⟨_,_,rfl,Zpo om,?_⟩;rcases Zv4 (z:=z) nms with ⟨e1,e2⟩ | ⟨p,b,t,e1,e2,ot,_⟩
 ·rw[e2];walk_at"e";exact⟨by decide,hE e1⟩
 ·rw[e2,show(!(some (V.ref t)).isSome)=false from rfl];walk_at"e";refine aH ow T.cW T.nWn m7 ?_;walk_at"e";refine⟨_,_,rfl,by have:=Zpo (z:=z) om;rw[e2]at this;exact this,?_⟩;walk_at"e";refine⟨t,_,0,_,rfl,rfl,gZ.of ot,rfl,?_⟩;walk_at"e";refine aH ow T.cW T.nWn m7 ?_;walk_at"e";refine⟨_,_,rfl,by have:=Zpo (z:=z) om;rw[e2]at this;exact this,?_⟩;walk_at"e";refine⟨t,_,1,_,rfl,rfl,gZ.of ot,rfl,?_⟩;walk_at"e";refine⟨_,_,_,rfl,Tg,s,A,M,j.w0,rfl,?_⟩;have:=hQ p b e1;cases hg:tH M p b with
  | true=>
   rw[hg]at this;walk_at"e";exact this
  | false=>
   rw[hg]at this;walk_at"e";exact this
def jo.new{s:Nat}{H Hx:Hp}{T Tx:Tg}{l:Addr}{o o0:HO}(e:jo s H Hx T Tx)(hl:H l=none)(hx:Hx l=some o0):jo s H (upd Hx l o) T Tx where
 kp:=λb u h z=>by rw[aC (aG h hl)];exact e.kp b u h z
 al:=λb u h=>by rw[aC (aG h hl)];exact e.al b u h
 tg:=e.tg
 wt:=λb h=>e.wt b (by
  by_cases z:b=l
  ·rw[z,aq]at h;cases h
  ·rw[aC z]at h;exact h)
def jo.fresh{s:Nat}{H:Hp}{T:Tg}{l:Addr}{o:HO}{v:Nat×Nat}(w:WT H T)(hl:H l=none):jo s H (upd H l o) T (jZ T l v) where
 kp:=λb u h z=>by rw[aC (aG h hl)];exact h
 al:=λb u h=>⟨u,by rw[aC (aG h hl)];exact h⟩
 tg:=λb u h=>lY (aG h hl)
 wt:=λb h=>by
  by_cases z:b=l
  ·rw[z,aq]at h;cases h
  ·rw[aC z]at h;rw[lY z];exact w b h
def Zgm{M:Wm}{x:Option Int}:(bO M x).2.sw.phase=M.sw.phase/\(bO M x).2.sw.grey.length<=M.sw.grey.length+1/\(bO M x).2.tells=M.tells/\(bO M x).2.names=M.names:=by
 cases x with
 | none=>exact⟨rfl,Nat.le_succ _,rfl,rfl⟩
 | some i=>
  unfold bO;dsimp only;cases cellAt M i with
  | none=>exact⟨rfl,Nat.le_succ _,rfl,rfl⟩
  | some c=>
   dsimp only
   by_cases z:M.sw.phase="walk"/\c.tone≠M.sw.sense
   ·rw[if_pos z];exact⟨rfl,by show(M.sw.grey++[i]).length<=_;rw[List.length_append];exact Nat.le_refl _,rfl,rfl⟩
   ·rw[if_neg z];exact⟨rfl,Nat.le_succ _,rfl,rfl⟩
def Nf{M:Wm}{x:Option Int}:(bO M x).2.hands=M.hands:=by
 cases x with
 | none=>rfl
 | some i=>
  unfold bO;dsimp only;cases cellAt M i with
  | none=>rfl
  | some c=>
   dsimp only;split<;>rfl
def Zgn{M:Wm}{x:Option Int}{k:Nat}{c:Ce}(h:M.cells[k]? =some (some c)):∃c',(bO M x).2.cells[k]? =some (some c')/\c'.fl=c.fl/\c'.birth=c.birth/\c'.bulk=c.bulk/\c'.load=c.load:=by
 cases x with
 | none=>exact⟨c,h,rfl,rfl,rfl,rfl⟩
 | some i=>
  unfold bO;dsimp only;cases hc:cellAt M i with
  | none=>exact⟨c,h,rfl,rfl,rfl,rfl⟩
  | some d=>
   dsimp only;split
   ·show ∃c',(M.cells.set i.toNat _)[k]? =_/\_
    by_cases z:i.toNat=k
    ·subst z;obtain⟨_,hd⟩:=dm.mp hc;rw[h]at hd;cases hd;exact⟨_,List.getElem?_set_self (dY h).1,rfl,rfl,rfl,rfl⟩
    ·rw[List.getElem?_set_ne z];exact⟨c,h,rfl,rfl,rfl,rfl⟩
   ·exact⟨c,h,rfl,rfl,rfl,rfl⟩
def lU:∀{l:List (Option Int)}{M:Wm}{x:Option Int},aU M (l++[x])=((aU M l).1++ofN (bO (aU M l).2 x).1,(bO (aU M l).2 x).2)
 | [],M,x=>by
  show(ofN (bO M x).1++[],(bO M x).2)=([]++ofN (bO M x).1,(bO M x).2);rw[List.append_nil,List.nil_append]
 | y::l,M,x=>by
  show(ofN (bO M y).1++(aU (bO M y).2 (l++[x])).1,(aU (bO M y).2 (l++[x])).2)=_;rw[lU];show _=((ofN (bO M y).1++(aU (bO M y).2 l).1)++_,_);rw[List.append_assoc];rfl
def wC:∀{l:List (Option Int)}{M:Wm},(aU M l).2.sw.phase=M.sw.phase/\(aU M l).2.sw.grey.length<=M.sw.grey.length+l.length
 | [],M=>⟨rfl,Nat.le_refl _⟩
 | y::l,M=>by
  obtain⟨a,b,_⟩:=Zgm (M:=M) (x:=y);obtain⟨c,d⟩:=wC (l:=l) (M:=(bO M y).2);refine⟨c.trans a,?_⟩;show(aU (bO M y).2 l).2.sw.grey.length<=_;rw[List.length_cons];omega
def Ay:∀{l:List (Option Int)}{M:Wm},(aU M l).1.length<=l.length
 | [],M=>Nat.le_refl _
 | y::l,M=>by
  have:=Ay (l:=l) (M:=(bO M y).2);show(ofN (bO M y).1++(aU (bO M y).2 l).1).length<=_;rw[List.length_append,List.length_cons];have:(ofN (bO M y).1).length<=1:=by cases (bO M y).1<;>simp[ofN]
  omega
def Zcd{wo pl:Addr}(T:pZ K X)(q:∃xs T s A M,WT H T/\s≠0/\WJ X H T s A M/\A.wo=wo/\PlO H T A M pl xs/\xs.length<=100/\(M.sw.phase="walk"->M.sw.grey.length<=10000)/\
 ∀H' T' l,jo s H H' T T'->WJ X H' T' s A (aU M xs).2->H' l=some (.lst ((aU M xs).1.map V.int))->H l=none->Q (.ref l) H'):CV K (Zb0 X) ⟨n,Q,bk,ct⟩ [some (.ref wo),some (.ref pl),none,none,none] H:=by
 obtain⟨xs,Tg,s,A,M,w,s0,j,rfl,plo,hx,hg,q⟩:=q;have opl:=plo.get j;unfold CV;walk_at"e";refine⟨aV (by simp),λl hl=>?_⟩;have npl:pl≠l:=aG opl hl;have st1:jo s H (upd H l (.lst [])) Tg (jZ Tg l (s+1,0)):=jo.fresh w hl;have j1:WJ X (upd H l (.lst [])) (jZ Tg l (s+1,0)) s A M:=j.fresh hl;have g1:upd H l (.lst []) l=some (.lst []):=aq;have tl:jZ Tg l (s+1,0) l=(s+1,0):=jq;have po1:PlO (upd H l (.lst [])) (jZ Tg l (s+1,0)) A M pl xs:=by
  rcases plo with ⟨h1,h2⟩ | h
  ·exact .inl ⟨(aC npl).trans h1,(lY npl).trans h2⟩
  ·exact .inr h
 have op1:upd H l (.lst []) pl=some (.lst (xs.map oV)):=(aC npl).trans opl;generalize upd H l (.lst [])=H1 at st1 j1 g1 op1 po1 ⊢;generalize jZ Tg l (s+1,0)=T1 at st1 j1 tl po1;walk_at"e";refine⟨pl,rfl,⟨_,cL.of op1⟩,forL (xs.map oV) (λi σ Hx=>∃v3 v4,σ=[some (.ref A.wo),some (.ref pl),some (.ref l),v3,v4]/\jo s H Hx Tg T1/\WJ X Hx T1 s A (aU M (xs.take i)).2/\Hx l=some (.lst ((aU M (xs.take i)).1.map V.int))/\PlO Hx T1 A (aU M (xs.take i)).2 pl xs) ⟨_,_,rfl,st1,j1,g1,po1⟩ (λ_ _ _ _ ⟨_,_,_,_,j,_,e⟩=>cL.of (e.get j)) ?_ ?_⟩
 ·rintro i x σ Hx hi ⟨v3,v4,rfl,st2,j2,g2,op2⟩;obtain⟨y,hy,rfl⟩:∃y,xs[i]? =some y/\oV y=x:=by
   rw[cz]at hi;obtain⟨y,a,b⟩:=Option.map_eq_some_iff.mp hi;exact⟨y,a,b⟩
  have il:=(dY hy).1;have et:xs.take (i+1)=xs.take i++[y]:=by
   rw[List.take_add_one,hy];rfl
  obtain⟨gp,gl⟩:=wC (l:=xs.take i) (M:=M);have nl:=Ay (l:=xs.take i) (M:=M);have tk:(xs.take i).length<=100:=by rw[List.length_take];omega
  walk_at"e";refine⟨_,_,rfl,y,rfl,T1,s,A,_,st2.wt,s0,j2,rfl,λz=>?_,λHy sty jy=>?_⟩
  ·have:=hg (gp.symm.trans z);omega
  have gy:Hy l=some (.lst ((aU M (xs.take i)).1.map V.int)):=sty.kp _ _ g2 (by rw[tl];show s+1≠s;omega);have oy:PlO Hy T1 A (bO (aU M (xs.take i)).2 y).2 pl xs:=by
   rcases op2 with ⟨h1,h2⟩ | ⟨k,p,m,h1,h2,h3,h4⟩ | ⟨k,p,c,h1,h2,h3,h4⟩
   ·exact .inl ⟨sty.kp _ _ h1 (by rw[h2];exact λz=>s0 z.symm),h2⟩
   ·exact .inr (.inl ⟨k,p,m,h1,by rw[Nf];exact h2,h3,h4⟩)
   ·obtain⟨c',e1,e2,_⟩:=Zgn (x:=y) h2;exact .inr (.inr ⟨k,p,c',h1,e1,h3,by rw[e2];exact h4⟩)
  have stt:=st2.trans sty;walk_at"e";cases hn:(bO (aU M (xs.take i)).2 y).1 with
  | none=>
   dsimp only[oV];walk_at"e";refine⟨_,_,rfl,stt,?_,?_,by rw[et,lU];exact oy⟩
   ·rw[et,lU];exact jy
   ·rw[et,lU];show Hy l=some (.lst (((aU M (xs.take i)).1++ofN (bO (aU M (xs.take i)).2 y).1).map V.int));rw[hn];show Hy l=some (.lst (((aU M (xs.take i)).1++[]).map V.int));rw[List.append_nil];exact gy
  | some b=>
   dsimp only[oV];walk_at"e";refine⟨.inl ⟨rfl,_,cL.of gy⟩,?_⟩;walk_at"e";refine⟨_,_,_,rfl,rfl,gy,?_,?_⟩
   ·rw[aY];exact Nat.lt_of_le_of_lt (show _<=100 by omega) (by decide)
   walk_at"e";refine⟨_,_,rfl,jo.new stt hl gy,?_,?_,?_⟩
   ·rw[et,lU];exact jy.other (s':=s+1) (jo.upd sty.wt gy (by rw[tl])) (by omega) (by omega)
   ·rw[et,lU,aq];show some (HO.lst _)=some (HO.lst (((aU M (xs.take i)).1++ofN (bO (aU M (xs.take i)).2 y).1).map V.int));rw[hn,List.map_append];rfl
   ·rw[et,lU];rcases oy with ⟨h1,h2⟩ | h
    ·exact .inl ⟨by rw[aC npl];exact h1,h2⟩
    ·exact .inr h
 ·rintro σ Hx ⟨v3,v4,rfl,st2,j2,g2,op2⟩;walk_at"e";rw[show(xs.map oV).length=xs.length from aY _,List.take_length]at j2 g2;exact q Hx T1 l st2 j2 g2 hl
end
def qX{M:Wm}{h k:Nat}{x:Option Int}{m:Str×List (Option Int)}(hm:M.hands[h]? =some m):{ M with hands:=M.hands.set h (m.1,m.2.set k x) }=setSlot M h k x:=by
 have e:=TJ (k:=k) (x:=x) hm;show _={ M with hands:=_ };rw[show(M.hands.modify h λm=>(m.1,m.2.set k x))=M.hands.set h (m.1,m.2.set k x)from e]
def Ls(d:o7):Prop:=∃h s many bulk,d=.make h s many bulk
def W7(d:o7):Prop:=∃h s t f,d=.get h s t f
def W6(d:o7):Prop:=∃h t f s,d=.put h t f s
def LC(d:o7):Prop:=∃h s t,d=.copy h s t
def Lz(d:o7):Prop:=∃h s,d=.drop h s
def Ly(d:o7):Prop:=∃h s g t,d=.give h s g t
def Er(d:o7):Prop:=∃h t load,d=.write h t load
def Lr(d:o7):Prop:=∃h t,d=.read h t
def isName(d:o7):Prop:=∃h t word,d=.name h t word
def Lq(d:o7):Prop:=∃h s word,d=.seek h s word
abbrev Ej(X:Cs)(rf:Rf->Addr)(P:o7->Prop)(wo dd:Addr)(H:Hp)(Q:VK)(E:XK):Prop:=∃T s A M d,P d/\WT H T/\s≠0/\WJ X H T s A M/\A.wo=wo/\H dd=some (.tup (dV d))/\okD M d/\M.cells.length<=900/\(M.sw.phase="walk"->M.sw.grey.length<=10000)/\(0<=M.tells/\M.tells<4)/\M.names.length<=1000/\
 (∀r,yJ M d=.error r->∀H',aX H H'->E (.ref (rf r)) none H')/\
 (∀e M',yJ M d=.ok (e,M')->∀H' T' A' a,jo s H H' T T'->WJ X H' T' s A' M'->A'.wo=wo->EvN H H' a e->Q (.ref a) H')
section
variable {X:Cs}{H Hx:Hp}{T Tx:Tg}{s:Nat}{A Ax:Wa}{M M':Wm}{d:o7}{e:Ev}{wo:Addr}{Q:VK}
def jo.free{s:Nat}{H Hx:Hp}{T Tx:Tg}{l:Addr}(e:jo s H Hx T Tx)(h:Hx l=none):H l=none:=by
 cases z:H l with
 | none=>rfl
 | some o=>obtain⟨o',z'⟩:=e.al l o z;rw[h]at z';cases z'
def ev0(hQ:∀e M',yJ M d=.ok (e,M')->∀H' T' A' a,jo s H H' T T'->WJ X H' T' s A' M'->A'.wo=wo->EvN H H' a e->Q (.ref a) H')(he:yJ M d=.ok (e,M'))(hn:e.notes=[])(st:jo s H Hx T Tx)(j:WJ X Hx Tx s Ax M')(aw:Ax.wo=wo){l a:Addr}(hl:Hx l=none)(ha:upd Hx l (.lst []) a=none):
  Q (.ref a) (upd (upd Hx l (.lst [])) a (.tup [.str e.word,oV e.thing,.ref l])):=by
 have s1:=aL hl (.lst []);have s2:=aL ha (.tup [.str e.word,oV e.thing,.ref l]);have s3:=s1.trans s2;refine hQ e M' he _ Tx Ax a (st.trans (jo.same st.wt s3)) (j.same s3) aw ⟨l,jo.free st hl,aq,?_⟩;rw[hn];exact s2 _ _ aq
def ev1{l a:Addr}(hl0:H l=none)(hQ:∀e M',yJ M d=.ok (e,M')->∀H' T' A' a,jo s H H' T T'->WJ X H' T' s A' M'->A'.wo=wo->EvN H H' a e->Q (.ref a) H')(he:yJ M d=.ok (e,M'))(st:jo s H Hx T Tx)(j:WJ X Hx Tx s Ax M')(aw:Ax.wo=wo)(hl:Hx l=some (.lst (e.notes.map V.int)))(ha:Hx a=none):
  Q (.ref a) (upd Hx a (.tup [.str e.word,oV e.thing,.ref l])):=by
 have s2:=aL ha (.tup [.str e.word,oV e.thing,.ref l]);exact hQ e M' he _ Tx Ax a (st.trans (jo.same st.wt s2)) (j.same s2) aw ⟨l,hl0,aq,s2 _ _ hl⟩
end
def M8{M:Wm}{i:Int}{c c':Ce}(h:cellAt M i=some c)(hb:c'.birth=c.birth)(x:Option Int):vQ (setCell M i c') x=vQ M x:=by
 cases x with
 | none=>rfl
 | some y=>
  obtain⟨h0,h1⟩:=dm.mp h;show(cellAt (setCell M i c') y).map _=(cellAt M y).map _
  by_cases e:y=i
  ·subst e;rw[h,show cellAt (setCell M y c') y=some c' from dm.mpr ⟨h0,by show(M.cells.set _ _)[_]? =_;rw[List.getElem?_set_self (dY h1).1]⟩];show some c'.birth=some c.birth;rw[hb]
  ·have:cellAt (setCell M i c') y=cellAt M y:=by
    unfold cellAt setCell
    by_cases z:0<=y
    ·rw[if_pos z,if_pos z];show((M.cells.set _ _)[_]?).join=_;rw[List.getElem?_set_ne (by omega)]
    ·rw[if_neg z,if_neg z]
   rw[this]
def Zkc{M:Wm}{y:Option Int}(x:Option Int):vQ (bO M y).2 x=vQ M x:=by
 cases y with
 | none=>rfl
 | some i=>
  unfold bO;dsimp only;cases hc:cellAt M i with
  | none=>rfl
  | some c=>
   dsimp only
   by_cases z:M.sw.phase="walk"/\c.tone≠M.sw.sense
   ·rw[if_pos z];have e:=M8 (M:=M) (i:=i) (c:=c) (c':={ c with tone:=M.sw.sense }) hc rfl x;cases x with
    | none=>rfl
    | some y=>exact e
   ·rw[if_neg z]
def Az:∀{l:List (Option Int)}{M:Wm} (x:Option Int),vQ (aU M l).2 x=vQ M x
 | [],_,_=>rfl
 | y::l,M,x=>(Az (l:=l) (M:=(bO M y).2) x).trans (Zkc x)
def Zoj{b:Bool}{x:Option Int}:(if b=true then [oV x]else [])=(if b=true then [x]else []).map oV:=by cases b<;>rfl
section
variable {K:aB}{X:Cs}{H:Hp}{Q:VK}{E:XK}{n:St->Hp->Prop}{bk ct:St->Hp->Prop}{rf:Rf->Addr}
def Zhu{wo dd:Addr}(T:pZ K X)(q:Ej X rf LC wo dd H Q E):Gy K (cI X) (bZ X) ⟨n,Q,bk,ct⟩ [some (.ref wo),some (.ref dd),none,none] H:=by
 obtain⟨Tg,s,A,M,_,⟨h,sl,t,rfl⟩,w,s0,j,rfl,od,⟨o1,o2⟩,hc,hg,ht,hn,hE,hQ⟩:=q;obtain⟨p,m,hp,hm,hs,hl,hd⟩:=j.handOf o2;obtain⟨m',hm',_,hl'⟩:=Zcc o1;rw[hm]at hm';cases hm';unfold Gy;walk_at"e";refine⟨dd,_,1,_,rfl,rfl,gZ.of od,rfl,?_⟩;walk_at"e";refine⟨_,_,rfl,Tg,s,A,M,h,p,j,rfl,rfl,hp,?_⟩;walk_at"e";refine⟨dd,_,3,_,rfl,rfl,gZ.of od,rfl,?_⟩;refine ji (cL.of hd.o2) (iB (v:=oV (aW M h t)) (by rw[cz,hs];rfl)) ?_;walk_at"e";refine⟨dd,_,2,_,rfl,rfl,gZ.of od,rfl,?_⟩;refine⟨p.2,_,_,sl,rfl,rfl,hd.o2,uB (by rw[aY];exact hl'),?_⟩;obtain⟨st1,j1⟩:=j.slot w s0 (k:=sl) (x:=aW M h t) hp hm;rw[qX hm]at j1;generalize upd H p.2 (.lst ((m.2.map oV).set sl (oV (aW M h t))))=H1 at st1 j1 ⊢;obtain⟨d1,ow⟩:=j1.jb.ow;walk_at"e";refine aH ow T.cW T.Nh bD ?_;walk_at"e";refine⟨_,_,rfl,aW M h t,rfl,Tg,s,A,_,j1,rfl,?_⟩;rw[pX];walk_at"e";refine⟨aV (by simp),λl hl=>⟨aV (by simp),λa ha=>?_⟩⟩;exact ev0 hQ (d:=.copy h sl t) rfl rfl st1 j1 rfl hl ha
def Zht{wo dd:Addr}(T:pZ K X)(q:Ej X rf Lz wo dd H Q E):Gx K (cI X) (bZ X) ⟨n,Q,bk,ct⟩ [some (.ref wo),some (.ref dd),none,none] H:=by
 obtain⟨Tg,s,A,M,_,⟨h,sl,rfl⟩,w,s0,j,rfl,od,o1,hc,hg,ht,hn,hE,hQ⟩:=q;obtain⟨p,m,hp,hm,hs,hl,hd⟩:=j.handOf o1;unfold Gx;walk_at"e";refine⟨dd,_,1,_,rfl,rfl,gZ.of od,rfl,?_⟩;walk_at"e";refine⟨_,_,rfl,Tg,s,A,M,h,p,j,rfl,rfl,hp,?_⟩;walk_at"e";refine⟨dd,_,2,_,rfl,rfl,gZ.of od,rfl,?_⟩;refine ji (cL.of hd.o2) (iB (v:=oV (aW M h sl)) (by rw[cz,hs];rfl)) ?_;walk_at"e";refine⟨dd,_,2,_,rfl,rfl,gZ.of od,rfl,?_⟩;refine⟨p.2,_,_,sl,rfl,rfl,hd.o2,uB (by rw[aY];exact hl),?_⟩;obtain⟨st1,j1⟩:=j.slot w s0 (k:=sl) (x:=none) hp hm;rw[qX hm]at j1;show bG _ _ _ (upd H p.2 (.lst ((m.2.map oV).set sl (oV none))));generalize upd H p.2 (.lst ((m.2.map oV).set sl (oV none)))=H1 at st1 j1 ⊢;obtain⟨d1,ow⟩:=j1.jb.ow;walk_at"e";refine aH ow T.cW T.Nh bD ?_;walk_at"e";refine⟨_,_,rfl,aW M h sl,rfl,Tg,s,A,_,j1,rfl,?_⟩;rw[pX];walk_at"e";refine⟨aV (by simp),λl hl=>⟨aV (by simp),λa ha=>?_⟩⟩;exact ev0 hQ (d:=.drop h sl) rfl rfl st1 j1 rfl hl ha
def Zhs{wo dd:Addr}(T:pZ K X)(q:Ej X rf Ly wo dd H Q E):Gw K (cI X) (fG X) (bZ X) (pO X) ⟨n,Q,bk,ct⟩ [some (.ref wo),some (.ref dd),none,none,none,none] H:=by
 obtain⟨Tg,s,A,M,_,⟨h,sl,g,t,rfl⟩,w,s0,j,rfl,od,⟨o1,o2⟩,hc,hg,ht,hn,hE,hQ⟩:=q;obtain⟨p,m,hp,hm,hs,hl,hd⟩:=j.handOf o1;obtain⟨p',m',hp',hm',hs',hl',hd'⟩:=j.handOf o2;unfold Gw;walk_at"e";refine⟨dd,_,1,_,rfl,rfl,gZ.of od,rfl,?_⟩;walk_at"e";refine⟨dd,_,3,_,rfl,rfl,gZ.of od,rfl,?_⟩;walk_at"e";refine⟨_,_,rfl,Tg,s,A,M,h,p,j,rfl,rfl,hp,?_⟩;walk_at"e";refine⟨dd,_,2,_,rfl,rfl,gZ.of od,rfl,?_⟩;refine ji (cL.of hd.o2) (iB (v:=oV (aW M h sl)) (by rw[cz,hs];rfl)) ?_;walk_at"e";refine⟨_,_,rfl,Tg,s,A,M,g,p',j,rfl,rfl,hp',?_⟩;walk_at"e";refine⟨dd,_,4,_,rfl,rfl,gZ.of od,rfl,?_⟩;refine⟨p'.2,_,_,t,rfl,rfl,hd'.o2,uB (by rw[aY];exact hl'),?_⟩;obtain⟨st1,j1⟩:=j.slot w s0 (k:=t) (x:=aW M h sl) hp' hm';rw[qX hm']at j1;generalize upd H p'.2 (.lst ((m'.2.map oV).set t (oV (aW M h sl))))=H1 at st1 j1 ⊢;walk_at"e";refine⟨_,_,_,rfl,Tg,s,A,_,h,j1,rfl,ht,rfl,λl1 hl1=>?_⟩;rw[show(rO (setSlot M g t (aW M h sl)) && !dO (setSlot M g t (aW M h sl)) h)=(rO M && !dO M h)from rfl,Zoj];have s1:=aL hl1 (.lst ((if (rO M && !dO M h)=true then [aW M h sl]else []).map oV));have g1:upd H1 l1 (.lst ((if (rO M && !dO M h)=true then [aW M h sl]else []).map oV)) l1=some (.lst ((if (rO M && !dO M h)=true then [aW M h sl]else []).map oV)):=aq;generalize upd H1 l1 (.lst ((if (rO M && !dO M h)=true then [aW M h sl]else []).map oV))=H2 at s1 g1 ⊢;walk_at"e";refine⟨_,_,rfl,_,Tg,s,A,_,st1.wt.same s1,s0,j1.same s1,rfl,.inl ⟨g1,st1.wt _ hl1⟩,by cases (rO M && !dO M h)<;>simp,hg,λH3 T3 l3 st3 j3 g3 nl3=>?_⟩;obtain⟨d1,ow⟩:=j3.jb.ow;walk_at"e";refine aH ow T.cW T.Nh bD ?_;walk_at"e";refine⟨_,_,rfl,aW M h sl,rfl,T3,s,A,_,j3,rfl,?_⟩;rw[Az,pX];walk_at"e";refine⟨aV (by simp),λa ha=>?_⟩;exact ev1 (jo.free st1 (s1.free nl3)) hQ (d:=.give h sl g t) rfl (st1.trans ((jo.same st1.wt s1).trans st3)) j3 rfl g3 ha
def Zhr{wo dd CF:Addr}(T:pZ K X)(hF:rf .full=CF)(q:Ej X rf Ls wo dd H Q E):Gv K X.H (wQ K X.C X.H CF) (cI X) (bZ X) E ⟨n,Q,bk,ct⟩ [some (.ref wo),some (.ref dd),none,none,none,none] H:=by
 obtain⟨Tg,s,A,M,_,⟨h,sl,many,bulk,rfl⟩,w,s0,j,rfl,od,⟨o1,m0,m1,b0⟩,hc,hg,ht,hn,hE,hQ⟩:=q;obtain⟨p,m,hp,hm,hs,hl,hd⟩:=j.handOf o1;obtain⟨d1,ow⟩:=j.jb.ow;obtain⟨d2,os⟩:=j.js.os;obtain⟨th,tc,⟨d3,oh⟩,oc⟩:=j.jh;have hcs:A.cs.length<=900:=by rw[j.jc.lc];exact hc
 unfold Gv;walk_at"e";refine⟨dd,_,1,_,rfl,rfl,gZ.of od,rfl,?_⟩;walk_at"e";refine⟨_,_,rfl,Tg,s,A,M,h,p,j,rfl,rfl,hp,?_⟩;walk_at"e";refine⟨dd,_,3,_,rfl,rfl,gZ.of od,rfl,?_⟩;walk_at"e";refine⟨dd,_,4,_,rfl,rfl,gZ.of od,rfl,?_⟩;walk_at"e";refine aH ow T.cW T.Nh bD ?_;refine⟨A.hp,d3,_,rfl,oh,Vm,?_⟩;walk_at"e";refine aH ow T.cW T.Rx bx ?_;walk_at"e";refine aH os T.cS T.n1 lC ?_;walk_at"e";refine⟨_,_,_,_,rfl,A.ca,d3,_,_,_,_,oh,oc,?_,by rw[aY];omega,m0,m1,λhf H' sm=>?_,λhf pc fa H1 npc nfa fm a1 a2 co=>?_⟩
 ·intro y hy;obtain⟨o,ho,rfl⟩:=List.mem_map.mp hy;cases o with
  | none=>exact .inl rfl
  | some g=>
   obtain⟨i,hi,ei⟩:=List.getElem_of_mem ho;have e:=j.jc.ce i _ _ (bL hi) (bL (by rw[<- j.jc.lc];exact hi));rw[ei]at e;cases hcc:M.cells[i]'(by rw[<- j.jc.lc];exact hi)with
   | none=>rw[hcc]at e;exact e.elim
   | some c=>
    rw[hcc]at e;obtain⟨_,_,⟨dx,o1⟩,_⟩:=(show V9 X.C H Tg s i g c from e);exact .inr ⟨g.1,X.C,dx,_,rfl,o1,T.c.cZ,T.c.PB⟩
 ·rw[<- hF];refine hE .full ?_ H' sm;show(if _ then _ else _)=_;rw[if_neg (by omega)]
 ·obtain⟨⟨dp,c1⟩,c2⟩:=co;have npf:pc≠fa:=qz c1 c2 (λz=>by cases z);obtain⟨T1,st1,j1⟩:=j.put w s0 (H':=H1) (dx:=d3) (used':=M.used+(1+many+bulk)) (p:=pc) (fa:=fa) (c:=⟨M.born+1,bulk,M.sw.sense,0,List.replicate many.toNat none⟩)
   (λb o hb n1 n2=>fm b o hb (by simp[n1,n2])) a1 a2 npc nfa npf ⟨dp,c1⟩ (by rw[c2,List.map_replicate];rfl)
  have ei:((A.cs.map pV).idxOf V.non:Int)=(mD M.cells:Nat):=by rw[(Zdj Zna A.cs).1,j.jc.fst]
  walk_at"e";rw[ei];refine⟨dd,_,2,_,rfl,rfl,gZ.of (fm _ _ od ?_),rfl,?_⟩
  ·intro z;rcases List.mem_cons.mp z with z | z
   ·rw[z,oh]at od;cases od
   ·rw[List.mem_singleton.mp z,oc]at od;cases od
  have hd1:=j1.jd.hd h p m hp hm;refine⟨p.2,_,_,sl,rfl,rfl,hd1.o2,uB (by rw[aY];exact hl),?_⟩;obtain⟨st2,j2⟩:=j1.slot st1.wt s0 (k:=sl) (x:=some (mD M.cells:Nat)) hp hm;rw[qX (M:={ M with used:=M.used+(1+many+bulk),born:=M.born+1,cells:=pY M.cells ⟨M.born+1,bulk,M.sw.sense,0,List.replicate many.toNat none⟩ }) hm]at j2;show bG _ _ _ (upd H1 p.2 (.lst ((m.2.map oV).set sl (oV (some (mD M.cells:Nat))))));generalize upd H1 p.2 (.lst ((m.2.map oV).set sl (oV (some (mD M.cells:Nat)))))=H2 at st2 j2 ⊢;obtain⟨d5,ow2⟩:=j2.jb.ow;walk_at"e";refine aH ow2 T.cW T.Nh bD ?_;walk_at"e";refine⟨_,_,rfl,some (mD M.cells:Nat),rfl,T1,s,_,_,j2,rfl,?_⟩;rw[pX];rw[show vQ { M with used:=M.used+(1+many+bulk),born:=M.born+1,cells:=pY M.cells ⟨M.born+1,bulk,M.sw.sense,0,List.replicate many.toNat none⟩ } (some (mD M.cells:Nat))=some (M.born+1)from by
   show(cellAt _ _).map _=_;rw[Zi1];rfl]
  walk_at"e";refine⟨aV (by simp),λl hl=>⟨aV (by simp),λa ha=>?_⟩⟩;exact ev0 hQ (d:=.make h sl many bulk) (Zdt (by omega)) rfl (st1.trans st2) j2 rfl hl ha
end
def Zlm{M:Wm}{h s t f:Nat}(e:cO M (aW M h t)=none):yJ M (.get h s t f)=.error .empty:=by
 show(match aW M h t with | none=>_ | some x=>_)=_;cases hs:aW M h t with
 | none=>rfl
 | some x=>
  rw[hs]at e;show(match cellAt M x with | none=>_ | some c=>_)=_;rw[show cellAt M x=none from e]
def Zlk{M:Wm}{h s t f:Nat}(e:cO M (aW M h t)=none):yJ M (.put h t f s)=.error .empty:=by
 show(match aW M h t with | none=>_ | some x=>_)=_;cases hs:aW M h t with
 | none=>rfl
 | some x=>
  rw[hs]at e;show(match cellAt M x with | none=>_ | some c=>_)=_;rw[show cellAt M x=none from e]
def Zdu{M:Wm}{h t:Nat}{l:Int}(e:cO M (aW M h t)=none):yJ M (.write h t l)=.error .empty:=by
 show(match aW M h t with | none=>_ | some x=>_)=_;cases hs:aW M h t with
 | none=>rfl
 | some x=>
  rw[hs]at e;show(match cellAt M x with | none=>_ | some c=>_)=_;rw[show cellAt M x=none from e]
def Zhw{M:Wm}{h t:Nat}(e:cO M (aW M h t)=none):yJ M (.read h t)=.error .empty:=by
 show(match aW M h t with | none=>_ | some x=>_)=_;cases hs:aW M h t with
 | none=>rfl
 | some x=>
  rw[hs]at e;show(match cellAt M x with | none=>_ | some c=>_)=_;rw[show cellAt M x=none from e]
def Zhx{M:Wm}{h t:Nat}{z:Str}(e:cO M (aW M h t)=none):yJ M (.name h t z)=.error .empty:=by
 show(match aW M h t with | none=>_ | some x=>_)=_;cases hs:aW M h t with
 | none=>rfl
 | some x=>
  rw[hs]at e;show(match cellAt M x with | none=>_ | some c=>_)=_;rw[show cellAt M x=none from e]
def Zpm{M:Wm}{h s t f:Nat}{i:Int}{c:Ce}(e0:aW M h t=some i)(ec:cellAt M i=some c)(hf:c.fl[f]? =none):yJ M (.get h s t f)=.error .sH:=by
 show(match aW M h t with | none=>_ | some x=>_)=_;rw[e0];show(match cellAt M i with | none=>_ | some c=>_)=_;rw[ec];show(match c.fl[f]? with | none=>_ | some v=>_)=_;rw[hf]
def Zpk{M:Wm}{h s t f:Nat}{i:Int}{c:Ce}(e0:aW M h t=some i)(ec:cellAt M i=some c)(hf:c.fl[f]? =none):yJ M (.put h t f s)=.error .sH:=by
 show(match aW M h t with | none=>_ | some x=>_)=_;rw[e0];show(match cellAt M i with | none=>_ | some c=>_)=_;rw[ec];show(match c.fl[f]? with | none=>_ | some v=>_)=_;rw[hf]
def Zpl{M:Wm}{h s t f:Nat}{i:Int}{c:Ce}{v:Option Int}(e0:aW M h t=some i)(ec:cellAt M i=some c)(hf:c.fl[f]? =some v):yJ M (.get h s t f)=.ok (⟨"got",vQ M v,[]⟩,setSlot M h s v):=by
 show(match aW M h t with | none=>_ | some x=>_)=_;rw[e0];show(match cellAt M i with | none=>_ | some c=>_)=_;rw[ec];show(match c.fl[f]? with | none=>_ | some v=>_)=_;rw[hf]
def putL(M:Wm)(h s:Nat)(v:Option Int):List (Option Int):=(if old? M=true then [v]else [])++if (rO M && !dO M h)=true then [aW M h s]else []
def Zpj{M:Wm}{h s t f:Nat}{i:Int}{c:Ce}{v:Option Int}(e0:aW M h t=some i)(ec:cellAt M i=some c)(hf:c.fl[f]? =some v):yJ M (.put h t f s)=.ok (⟨"put",vQ M v,(aU (setCell M i { c with fl:=c.fl.set f (aW M h s) }) (putL M h s v)).1⟩,(aU (setCell M i { c with fl:=c.fl.set f (aW M h s) }) (putL M h s v)).2):=by
 show(match aW M h t with | none=>_ | some x=>_)=_;rw[e0];show(match cellAt M i with | none=>_ | some c=>_)=_;rw[ec];show(match c.fl[f]? with | none=>_ | some v=>_)=_;rw[hf];rfl
def Zhv{M:Wm}{h t:Nat}{l i:Int}{c:Ce}(e0:aW M h t=some i)(ec:cellAt M i=some c):yJ M (.write h t l)=.ok (⟨"wrote",some c.load,[]⟩,setCell M i { c with load:=l }):=by
 show(match aW M h t with | none=>_ | some x=>_)=_;rw[e0];show(match cellAt M i with | none=>_ | some c=>_)=_;rw[ec]
def Zlj{M:Wm}{h t:Nat}{i:Int}{c:Ce}(e0:aW M h t=some i)(ec:cellAt M i=some c):yJ M (.read h t)=.ok (⟨"read",some c.load,[]⟩,M):=by
 show(match aW M h t with | none=>_ | some x=>_)=_;rw[e0];show(match cellAt M i with | none=>_ | some c=>_)=_;rw[ec]
def Zll{M:Wm}{h t:Nat}{z:Str}{i:Int}{c:Ce}(e0:aW M h t=some i)(ec:cellAt M i=some c):yJ M (.name h t z)=.ok (⟨"named",some c.birth,[]⟩,{ M with names:=wj M.names z (i,c.birth) }):=by
 show(match aW M h t with | none=>_ | some x=>_)=_;rw[e0];show(match cellAt M i with | none=>_ | some c=>_)=_;rw[ec]
section
variable {X:Cs}{H H':Hp}{T T':Tg}{s:Nat}{A:Wa}{M:Wm}
def Zv3{z:Str}{v:Int×Int}{t:Addr}(ht:NmO H T t (z,v)):∀{ns:List Addr}{names:List (Str×(Int×Int))},Al (NmO H T) ns names->(∃ns',(BJ names ns).map (λkv=>if kv.1=Sum.inr z then(kv.1,V.ref t)else kv)=BJ (names.map λm=>if m.1=z then(m.1,v)else m) ns'/\Al (NmO H T) ns' (names.map λm=>if m.1=z then(m.1,v)else m))/\
  ((BJ names ns).any λkv=>decide (kv.1=Sum.inr z))=(names.any λm=>decide (m.1=z))/\BJ names ns++[(Sum.inr z,V.ref t)]=BJ (names++[(z,v)]) (ns++[t])/\Al (NmO H T) (ns++[t]) (names++[(z,v)]):=by
 intro ns names h
 induction h with
 | nil=>exact⟨⟨[],rfl,.nil⟩,rfl,rfl,.cons ht .nil⟩
 | @cons a m ns names h1 _ ih=>
  obtain⟨⟨ns',e1,e2⟩,e3,e4,e5⟩:=ih;refine⟨?_,?_,?_,.cons h1 e5⟩
  ·by_cases e:m.1=z
   ·refine⟨t::ns',?_,?_⟩
    ·show(if (Sum.inr m.1:Int ⊕ Str)=Sum.inr z then _ else _)::_=_;rw[if_pos (by rw[e]),List.map_cons,if_pos e];show _::_=(Sum.inr m.1,V.ref t)::BJ _ ns';rw[<- e1];rfl
    ·rw[List.map_cons,if_pos e];exact .cons (by rw[e];exact ht) e2
   ·refine⟨a::ns',?_,?_⟩
    ·show(if (Sum.inr m.1:Int ⊕ Str)=Sum.inr z then _ else _)::_=_;rw[if_neg (λw=>e (Sum.inr.inj w)),List.map_cons,if_neg e];show _::_=(Sum.inr m.1,V.ref a)::BJ _ ns';rw[<- e1];rfl
    ·rw[List.map_cons,if_neg e];exact .cons h1 e2
  ·show(decide ((Sum.inr m.1:Int ⊕ Str)=Sum.inr z) || (BJ names ns).any _)=(decide (m.1=z) || names.any _);rw[e3];congr 1
   by_cases e:m.1=z<;>simp[e]
  ·show(Sum.inr m.1,V.ref a)::(BJ names ns++_)=(Sum.inr m.1,V.ref a)::BJ (names++_) (ns++_);rw[e4]
def Znk{ns:List Addr}{names:List (Str×(Int×Int))}(h:Al (NmO H T) ns names):(BJ names ns).length=names.length:=by
 induction h with
 | nil=>rfl
 | @cons a m ns names h1 _ ih=>show(_::BJ names ns).length=_;rw[List.length_cons,List.length_cons,ih]
def WJ.named(j:WJ X H T s A M)(w:WT H T)(h0:s≠0){z:Str}{v:Int×Int}{t:Addr}(ht:NmO H T t (z,v)):∃ns',jo s H (upd H A.nm (.dK (putK (BJ M.names A.ns) (Sum.inr z) (.ref t)))) T T/\
  WJ X (upd H A.nm (.dK (putK (BJ M.names A.ns) (Sum.inr z) (.ref t)))) T s { A with ns:=ns' } { M with names:=wj M.names z v }:=by
 obtain⟨tm,om,nms⟩:=j.jn;obtain⟨⟨n1,e1,e2⟩,e3,e4,e5⟩:=Zv3 ht nms;have f:yI s (·=6) H (upd H A.nm (.dK (putK (BJ M.names A.ns) (Sum.inr z) (.ref t)))) T T:=yI.Dw tm;have mvn:∀{ns:List Addr}{names:List (Str×(Int×Int))},Al (NmO H T) ns names->Al (NmO (upd H A.nm (.dK (putK (BJ M.names A.ns) (Sum.inr z) (.ref t)))) T) ns names:=λh=>h.mono λt m ⟨z1,z2⟩=>⟨z1,pN h0 tm _ _ z2 z1⟩;have go:∀ns',putK (BJ M.names A.ns) (Sum.inr z) (.ref t)=BJ (wj M.names z v) ns'->Al (NmO H T) ns' (wj M.names z v)->WJ X (upd H A.nm (.dK (putK (BJ M.names A.ns) (Sum.inr z) (.ref t)))) T s { A with ns:=ns' } { M with names:=wj M.names z v }:=λns' g1 g2=>by
  refine⟨?_,?_,⟨tm,by show upd _ A.nm _ A.nm=_;rw[aq,g1],mvn g2⟩,?_,j.jd.mv f λ_ _ _=>by omega,j.jc.mv f λ_ _=>by omega⟩
  ·obtain⟨b1,b2,b3,b4,b5,b6,b7,b8⟩:=j.jb.mv f (pN h0 tm) (by omega) (by omega);exact⟨b1,b2,b3,b4,b5,b6,b7,b8⟩
  ·obtain⟨b1,b2,b3,b4⟩:=j.jh.mv f (by omega) (by omega);exact⟨b1,b2,b3,b4⟩
  ·obtain⟨b1,b2,b3,b4⟩:=j.js.mv f (by omega) (by omega);exact⟨b1,b2,b3,b4⟩
 by_cases ha:(M.names.any λm=>decide (m.1=z))=true
 ·refine⟨n1,jo.upd w om (by rw[tm]),go n1 ?_ ?_⟩
  ·unfold putK wj;rw[if_pos (e3.trans ha),if_pos ha,e1]
  ·unfold wj;rw[if_pos ha];exact e2
 ·refine⟨A.ns++[t],jo.upd w om (by rw[tm]),go _ ?_ ?_⟩
  ·unfold putK wj;rw[if_neg (λy=>ha (e3.symm.trans y)),if_neg ha,e4]
  ·unfold wj;rw[if_neg ha];exact e5
end
section
variable {K:aB}{X:Cs}{H:Hp}{Q:VK}{E:XK}{n:St->Hp->Prop}{bk ct:St->Hp->Prop}{rf:Rf->Addr}{CE CF CN:Addr}
def Zli{wo dd:Addr}(T:pZ K X)(hE':rf .empty=CE)(hF':rf .sH=CF)(q:Ej X rf W7 wo dd H Q E):Kq K (cI X) (oA X CE CF) (bZ X) E ⟨n,Q,bk,ct⟩ [some (.ref wo),some (.ref dd),none,none,none,none] H:=by
 obtain⟨Tg,s,A,M,_,⟨h,sl,t,f,rfl⟩,w,s0,j,rfl,od,⟨o1,o2⟩,hc,hg,ht,hn,hE,hQ⟩:=q;obtain⟨p,m,hp,hm,hs,hl,hd⟩:=j.handOf o1;unfold Kq;walk_at"e";refine⟨dd,_,1,_,rfl,rfl,gZ.of od,rfl,?_⟩;walk_at"e";refine⟨dd,_,3,_,rfl,rfl,gZ.of od,rfl,?_⟩;walk_at"e";refine⟨dd,_,4,_,rfl,rfl,gZ.of od,rfl,?_⟩;walk_at"e";refine⟨_,_,_,_,rfl,Tg,s,A,M,h,t,f,j,rfl,rfl,rfl,rfl,o2,λe=>?_,λi c e0 h0 ec hf=>?_,λi c pc e0 h0 ec hpc ce hf=>?_⟩
 ·rw[<- hE'];exact hE .empty (Zlm e) H (aX.refl _)
 ·rw[<- hF'];exact hE .sH (Zpm e0 ec hf) H (aX.refl _)
 ·have hv:=bL hf;walk_at"e";refine ji (cL.of ce.o2) (iB (v:=oV (c.fl[f])) (by rw[cz,hv];rfl)) ?_;walk_at"e";refine⟨_,_,rfl,Tg,s,A,M,h,p,j,rfl,rfl,hp,?_⟩;walk_at"e";refine⟨dd,_,2,_,rfl,rfl,gZ.of od,rfl,?_⟩;refine⟨p.2,_,_,sl,rfl,rfl,hd.o2,uB (by rw[aY];exact hl),?_⟩;obtain⟨st1,j1⟩:=j.slot w s0 (k:=sl) (x:=c.fl[f]) hp hm;rw[qX hm]at j1;generalize upd H p.2 (.lst ((m.2.map oV).set sl (oV c.fl[f])))=H1 at st1 j1 ⊢;obtain⟨d1,ow⟩:=j1.jb.ow;walk_at"e";refine aH ow T.cW T.Nh bD ?_;walk_at"e";refine⟨_,_,rfl,c.fl[f],rfl,Tg,s,A,_,j1,rfl,?_⟩;rw[pX];walk_at"e";refine⟨aV (by simp),λl hl=>⟨aV (by simp),λa ha=>?_⟩⟩;exact ev0 hQ (d:=.get h sl t f) (Zpl e0 ec hv) rfl st1 j1 rfl hl ha
def Zlh{wo dd:Addr}(T:pZ K X)(hE':rf .empty=CE)(hF':rf .sH=CF)(q:Ej X rf W6 wo dd H Q E):Ko K (cI X) (oA X CE CF) (fG X) (bZ X) (pO X) (Bm X) E ⟨n,Q,bk,ct⟩ [some (.ref wo),some (.ref dd),none,none,none,none,none,none] H:=by
 obtain⟨Tg,s,A,M,_,⟨h,t,f,sl,rfl⟩,w,s0,j,rfl,od,⟨o2,o1⟩,hc,hg,ht,hn,hE,hQ⟩:=q;obtain⟨p,m,hp,hm,hs,hl,hd⟩:=j.handOf o1;unfold Ko;walk_at"e";refine⟨dd,_,1,_,rfl,rfl,gZ.of od,rfl,?_⟩;walk_at"e";refine⟨dd,_,3,_,rfl,rfl,gZ.of od,rfl,?_⟩;walk_at"e";refine⟨dd,_,2,_,rfl,rfl,gZ.of od,rfl,?_⟩;walk_at"e";refine⟨_,_,_,_,rfl,Tg,s,A,M,h,t,f,j,rfl,rfl,rfl,rfl,o2,λe=>?_,λi c e0 h0 ec hf=>?_,λi c pc e0 h0 ec hpc ce hf=>?_⟩
 ·rw[<- hE'];exact hE .empty (Zlk e) H (aX.refl _)
 ·rw[<- hF'];exact hE .sH (Zpk e0 ec hf) H (aX.refl _)
 ·have hv:=bL hf;walk_at"e";refine ji (cL.of ce.o2) (iB (v:=oV (c.fl[f])) (by rw[cz,hv];rfl)) ?_;walk_at"e";refine⟨_,_,rfl,Tg,s,A,M,h,p,j,rfl,rfl,hp,?_⟩;walk_at"e";refine⟨dd,_,4,_,rfl,rfl,gZ.of od,rfl,?_⟩;refine ji (cL.of hd.o2) (iB (v:=oV (aW M h sl)) (by rw[cz,hs];rfl)) ?_;walk_at"e";refine⟨pc.2,_,_,f,rfl,rfl,ce.o2,uB (by rw[aY];exact hf),?_⟩;obtain⟨st1,j1⟩:=j.field w s0 (k:=f) (x:=aW M h sl) hpc ce;have j1:WJ X _ Tg s A (setCell M i { c with fl:=c.fl.set f (aW M h sl) }):=j1;generalize upd H pc.2 (.lst ((c.fl.map oV).set f (oV (aW M h sl))))=H1 at st1 j1 ⊢;walk_at"e";refine⟨_,_,rfl,Tg,s,A,_,j1,rfl,ht,λl1 hl1=>?_⟩;rw[show old? (setCell M i { c with fl:=c.fl.set f (aW M h sl) })=old? M from rfl,Zoj];have s1:=aL hl1 (.lst ((if old? M=true then [c.fl[f]]else []).map oV));have g1:upd H1 l1 (.lst ((if old? M=true then [c.fl[f]]else []).map oV)) l1=some (.lst ((if old? M=true then [c.fl[f]]else []).map oV)):=aq;generalize upd H1 l1 (.lst ((if old? M=true then [c.fl[f]]else []).map oV))=H2 at s1 g1 ⊢;walk_at"e";refine⟨_,_,_,rfl,Tg,s,A,_,h,j1.same s1,rfl,ht,rfl,λl2 hl2=>?_⟩;rw[show(rO (setCell M i { c with fl:=c.fl.set f (aW M h sl) }) && !dO (setCell M i { c with fl:=c.fl.set f (aW M h sl) }) h)=(rO M && !dO M h)from rfl,Zoj];have s2:=aL hl2 (.lst ((if (rO M && !dO M h)=true then [aW M h sl]else []).map oV));have g2:upd H2 l2 (.lst ((if (rO M && !dO M h)=true then [aW M h sl]else []).map oV)) l2=some (.lst ((if (rO M && !dO M h)=true then [aW M h sl]else []).map oV)):=aq;generalize upd H2 l2 (.lst ((if (rO M && !dO M h)=true then [aW M h sl]else []).map oV))=H3 at s2 g2 ⊢;walk_at"e";refine⟨l1,l2,_,_,rfl,rfl,s2 _ _ g1,g2,?_,λl3 hl3=>?_⟩
  ·refine aV ?_;cases old? M<;>cases (rO M && !dO M h)<;>simp
  rw[<- List.map_append];have s3:=aL hl3 (.lst (((if old? M=true then [c.fl[f]]else [])++if (rO M && !dO M h)=true then [aW M h sl]else []).map oV));have g3:upd H3 l3 (.lst (((if old? M=true then [c.fl[f]]else [])++if (rO M && !dO M h)=true then [aW M h sl]else []).map oV)) l3=some (.lst ((putL M h sl c.fl[f]).map oV)):=aq;generalize upd H3 l3 (.lst (((if old? M=true then [c.fl[f]]else [])++if (rO M && !dO M h)=true then [aW M h sl]else []).map oV))=H4 at s3 g3 ⊢;have s14:=s1.trans (s2.trans s3);walk_at"e";refine⟨_,_,rfl,putL M h sl c.fl[f],Tg,s,A,_,st1.wt.same s14,s0,j1.same s14,rfl,.inl ⟨g3,(st1.wt.same (s1.trans s2)) _ hl3⟩,?_,hg,λH5 T5 l5 st5 j5 g5 nl5=>?_⟩
  ·unfold putL;cases old? M<;>cases (rO M && !dO M h)<;>simp
  obtain⟨d1,ow⟩:=j5.jb.ow;walk_at"e";refine aH ow T.cW T.Nh bD ?_;walk_at"e";refine⟨_,_,rfl,c.fl[f],rfl,T5,s,A,_,j5,rfl,?_⟩;rw[Az,M8 (c':={ c with fl:=c.fl.set f (aW M h sl) }) ec rfl];walk_at"e";refine⟨aV (by simp),λa ha=>?_⟩;exact ev1 (jo.free st1 (s14.free nl5)) hQ (d:=.put h t f sl) (Zpj e0 ec hv) (st1.trans ((jo.same st1.wt s14).trans st5)) j5 rfl g5 ha
def Zds{wo dd:Addr}(T:pZ K X)(hE':rf .empty=CE)(q:Ej X rf Er wo dd H Q E):CZ K (jT X CE) E ⟨n,Q,bk,ct⟩ [some (.ref wo),some (.ref dd),none,none] H:=by
 obtain⟨Tg,s,A,M,_,⟨h,t,load,rfl⟩,w,s0,j,rfl,od,o1,hc,hg,ht,hn,hE,hQ⟩:=q;unfold CZ;walk_at"e";refine⟨dd,_,1,_,rfl,rfl,gZ.of od,rfl,?_⟩;walk_at"e";refine⟨dd,_,2,_,rfl,rfl,gZ.of od,rfl,?_⟩;walk_at"e";refine⟨_,_,_,rfl,Tg,s,A,M,h,t,j,rfl,rfl,rfl,o1,λe=>?_,λi c pc e0 h0 ec hpc ce=>?_⟩
 ·rw[<- hE'];exact hE .empty (Zdu e) H (aX.refl _)
 ·obtain⟨t1,t2,⟨dx,oo1⟩,oo2⟩:=id ce;walk_at"e";refine aH oo1 T.c.cZ T.c.jC yE ?_;walk_at"e";refine⟨dd,_,3,_,rfl,rfl,gZ.of od,rfl,?_⟩;walk_at"e";refine⟨pc.1,X.C,dx,_,rfl,oo1,T.c.cZ,T.c.jC,by show 5<1000;decide,?_⟩;rw[SM];obtain⟨st1,j1⟩:=j.cell w s0 (dx:=dx) (tone:=c.tone) (load:=load) hpc ce;generalize upd H pc.1 (.ins X.C dx (nO c.birth c.bulk c.tone load pc.2))=H1 at st1 j1 ⊢;walk_at"e";refine⟨aV (by simp),λl hl=>⟨aV (by simp),λa ha=>?_⟩⟩;exact ev0 hQ (d:=.write h t load) (Zhv e0 ec) rfl st1 j1 rfl hl ha
def Zhp{wo dd:Addr}(T:pZ K X)(hE':rf .empty=CE)(q:Ej X rf Lr wo dd H Q E):Gs K (jT X CE) E ⟨n,Q,bk,ct⟩ [some (.ref wo),some (.ref dd),none] H:=by
 obtain⟨Tg,s,A,M,_,⟨h,t,rfl⟩,w,s0,j,rfl,od,o1,hc,hg,ht,hn,hE,hQ⟩:=q;unfold Gs;walk_at"e";refine⟨dd,_,1,_,rfl,rfl,gZ.of od,rfl,?_⟩;walk_at"e";refine⟨dd,_,2,_,rfl,rfl,gZ.of od,rfl,?_⟩;walk_at"e";refine⟨_,_,_,rfl,Tg,s,A,M,h,t,j,rfl,rfl,rfl,o1,λe=>?_,λi c pc e0 h0 ec hpc ce=>?_⟩
 ·rw[<- hE'];exact hE .empty (Zhw e) H (aX.refl _)
 ·obtain⟨t1,t2,⟨dx,oo1⟩,oo2⟩:=id ce;walk_at"e";refine aH oo1 T.c.cZ T.c.jC yE ?_;walk_at"e";refine⟨aV (by simp),λl hl=>⟨aV (by simp),λa ha=>?_⟩⟩;exact ev0 hQ (d:=.read h t) (Zlj e0 ec) rfl (jo.refl w) j rfl hl ha
def Zhq{wo dd:Addr}(T:pZ K X)(hE':rf .empty=CE)(q:Ej X rf isName wo dd H Q E):Gu K (jT X CE) (bZ X) E ⟨n,Q,bk,ct⟩ [some (.ref wo),some (.ref dd),none,none,none] H:=by
 obtain⟨Tg,s,A,M,_,⟨h,t,z,rfl⟩,w,s0,j,rfl,od,o1,hc,hg,ht,hn,hE,hQ⟩:=q;obtain⟨p,m,hp,hm,hs,hl,hd⟩:=j.handOf o1;unfold Gu;walk_at"e";refine⟨dd,_,1,_,rfl,rfl,gZ.of od,rfl,?_⟩;walk_at"e";refine⟨dd,_,2,_,rfl,rfl,gZ.of od,rfl,?_⟩;walk_at"e";refine⟨_,_,_,rfl,Tg,s,A,M,h,t,j,rfl,rfl,rfl,o1,λe=>?_,λi c pc e0 h0 ec hpc ce=>?_⟩
 ·rw[<- hE'];exact hE .empty (Zhx e) H (aX.refl _)
 ·obtain⟨t1,t2,⟨dx,oo1⟩,oo2⟩:=id ce;walk_at"e";refine aH oo1 T.c.cZ T.c.dU gM ?_;walk_at"e";refine⟨_,_,rfl,Tg,s,A,M,h,p,j,rfl,rfl,hp,?_⟩;walk_at"e";refine ji (cL.of hd.o2) (iB (v:=oV (aW M h t)) (by rw[cz,hs];rfl)) ?_;rw[e0];walk_at"e";refine⟨aV (by simp),λtp htp=>?_⟩;have s1:=aL htp (.tup [oV (some i),.int c.birth]);have g1:upd H tp (.tup [oV (some i),.int c.birth]) tp=some (.tup [.int i,.int c.birth]):=aq;generalize upd H tp (.tup [oV (some i),.int c.birth])=H1 at s1 g1 ⊢;have j1:=j.same s1;have w1:=w.same s1;obtain⟨d1,ow⟩:=j1.jb.ow;walk_at"e";refine aH ow T.cW T.nWn m7 ?_;walk_at"e";refine⟨dd,_,3,_,rfl,rfl,gZ.of (s1 _ _ od),rfl,?_⟩;refine⟨_,_,rfl,Zyn j1.jn.om (by rw[Znk j1.jn.nms];exact Nat.lt_of_le_of_lt hn (by decide)),?_⟩;obtain⟨ns',st2,j2⟩:=j1.named w1 s0 (z:=z) (v:=(i,c.birth)) (t:=tp) ⟨w _ htp,g1⟩;generalize upd H1 A.nm (.dK (putK (BJ M.names A.ns) (Sum.inr z) (.ref tp)))=H2 at st2 j2 ⊢;walk_at"e";refine⟨aV (by simp),λl hl=>⟨aV (by simp),λa ha=>?_⟩⟩;exact ev0 hQ (d:=.name h t z) (Zll e0 ec) rfl ((jo.same w s1).trans st2) j2 rfl hl ha
def Zho{wo dd:Addr}(T:pZ K X)(hN':rf .Rt=CN)(q:Ej X rf Lq wo dd H Q E):Gr K (cI X) (fG X) (sW X CN) (bZ X) E ⟨n,Q,bk,ct⟩ [some (.ref wo),some (.ref dd),none,none] H:=by
 obtain⟨Tg,s,A,M,_,⟨h,sl,z,rfl⟩,w,s0,j,rfl,od,o1,hc,hg,ht,hn,hE,hQ⟩:=q;obtain⟨p,m,hp,hm,hs,hl,hd⟩:=j.handOf o1;unfold Gr;walk_at"e";refine⟨dd,_,3,_,rfl,rfl,gZ.of od,rfl,?_⟩;walk_at"e";refine⟨_,_,rfl,Tg,s,A,M,j,rfl,λe=>?_,λpl b e=>?_⟩
 ·rw[<- hN'];refine hE .Rt ?_ H (aX.refl _);show(match yV M.names z with | none=>_ | some (p,b)=>_)=_;rw[e]
 ·let x:Option Int:=if tH M pl b=true then none else some pl
  have ex:(if tH M pl b=true then V.non else .int pl)=oV x:=by
   show _=oV (if _ then _ else _);cases tH M pl b<;>rfl
  rw[ex];have he:yJ M (.seek h sl z)=.ok (⟨"sought",vQ M x,(aU (setSlot M h sl x) [x]).1⟩,(aU (setSlot M h sl x) [x]).2):=by
   show(match yV M.names z with | none=>_ | some (p,b)=>_)=_;rw[e];dsimp only;cases hgn:tH M pl b with
   | true=>
    have:x=none:=by show(if _ then _ else _)=_;rw[hgn];rfl
    rw[this];rfl
   | false=>
    have hx:x=some pl:=by show(if _ then _ else _)=_;rw[hgn];rfl
    have:vQ M (some pl)=some b:=by
     unfold tH at hgn;show(cellAt M pl).map _=_;cases hcc:cellAt M pl with
     | none=>rw[hcc]at hgn;cases hgn
     | some c=>
      rw[hcc]at hgn;dsimp only at hgn
      by_cases y:c.birth=b
      ·rw[<- y];rfl
      ·rw[if_neg y]at hgn;cases hgn
    rw[hx,this];rfl
  clear_value x;walk_at"e";refine⟨dd,_,1,_,rfl,rfl,gZ.of od,rfl,?_⟩;walk_at"e";refine⟨_,_,rfl,Tg,s,A,M,h,p,j,rfl,rfl,hp,?_⟩;walk_at"e";refine⟨dd,_,2,_,rfl,rfl,gZ.of od,rfl,?_⟩;refine⟨p.2,_,_,sl,rfl,rfl,hd.o2,uB (by rw[aY];exact hl),?_⟩;obtain⟨st1,j1⟩:=j.slot w s0 (k:=sl) (x:=x) hp hm;rw[qX hm]at j1;generalize upd H p.2 (.lst ((m.2.map oV).set sl (oV x)))=H1 at st1 j1 ⊢;walk_at"e";refine⟨aV (by simp),λl1 hl1=>?_⟩;have s1:=aL hl1 (.lst [oV x]);have g1:upd H1 l1 (.lst [oV x]) l1=some (.lst ([x].map oV)):=aq;generalize upd H1 l1 (.lst [oV x])=H2 at s1 g1 ⊢;walk_at"e";refine⟨_,_,rfl,[x],Tg,s,A,_,st1.wt.same s1,s0,j1.same s1,rfl,.inl ⟨g1,st1.wt _ hl1⟩,by simp,hg,λH3 T3 l3 st3 j3 g3 nl3=>?_⟩;obtain⟨d1,ow⟩:=j3.jb.ow;walk_at"e";refine aH ow T.cW T.Nh bD ?_;walk_at"e";refine⟨_,_,rfl,x,rfl,T3,s,A,_,j3,rfl,?_⟩;rw[Az,pX];walk_at"e";refine⟨aV (by simp),λa ha=>?_⟩;exact ev1 (jo.free st1 (s1.free nl3)) hQ (d:=.seek h sl z) he (st1.trans ((jo.same st1.wt s1).trans st3)) j3 rfl g3 ha
end
section
variable {K:aB}{X:Cs}{H:Hp}{Q:VK}{E:XK}{n:St->Hp->Prop}{bk ct:St->Hp->Prop}{rf:Rf->Addr}{f1 f2 f3 f4 f5 f6 f7 f8 f9 f10:Addr}
def Zyo{wo dd:Addr}(T:pZ K X)(q:Ej X rf (λ_=>True) wo dd H Q E):
  Zmk K f1 f2 f3 f4 f5 f6 f7 f8 f9 f10 (cj X rf LC) (cj X rf Lz) (cj X rf W7) (cj X rf Ly) (cj X rf Ls) (cj X rf isName) (cj X rf W6) (cj X rf Lr) (cj X rf Lq) (cj X rf Er) E ⟨n,Q,bk,ct⟩ [some (.ref wo),some (.ref dd),none] H:=by
 obtain⟨Tg,s,A,M,d,_,w,s0,j,rfl,od,r⟩:=q;unfold Zmk;cases d with
 | make h s' many bulk=>
  walk_at"e";refine⟨dd,_,0,_,rfl,rfl,gZ.of od,rfl,?_⟩;refine⟨_,f5,rfl,rfl,?_⟩;walk_at"e";refine nJ (cj X rf Ls) rfl (by simp) ?_;walk_at"e";exact⟨_,_,rfl,Tg,s,A,M,_,⟨_,_,_,_,rfl⟩,w,s0,j,rfl,od,r⟩
 | get h s' t f=>
  walk_at"e";refine⟨dd,_,0,_,rfl,rfl,gZ.of od,rfl,?_⟩;refine⟨_,f3,rfl,rfl,?_⟩;walk_at"e";refine nJ (cj X rf W7) rfl (by simp) ?_;walk_at"e";exact⟨_,_,rfl,Tg,s,A,M,_,⟨_,_,_,_,rfl⟩,w,s0,j,rfl,od,r⟩
 | put h t f s'=>
  walk_at"e";refine⟨dd,_,0,_,rfl,rfl,gZ.of od,rfl,?_⟩;refine⟨_,f7,rfl,rfl,?_⟩;walk_at"e";refine nJ (cj X rf W6) rfl (by simp) ?_;walk_at"e";exact⟨_,_,rfl,Tg,s,A,M,_,⟨_,_,_,_,rfl⟩,w,s0,j,rfl,od,r⟩
 | copy h s' t=>
  walk_at"e";refine⟨dd,_,0,_,rfl,rfl,gZ.of od,rfl,?_⟩;refine⟨_,f1,rfl,rfl,?_⟩;walk_at"e";refine nJ (cj X rf LC) rfl (by simp) ?_;walk_at"e";exact⟨_,_,rfl,Tg,s,A,M,_,⟨_,_,_,rfl⟩,w,s0,j,rfl,od,r⟩
 | drop h s'=>
  walk_at"e";refine⟨dd,_,0,_,rfl,rfl,gZ.of od,rfl,?_⟩;refine⟨_,f2,rfl,rfl,?_⟩;walk_at"e";refine nJ (cj X rf Lz) rfl (by simp) ?_;walk_at"e";exact⟨_,_,rfl,Tg,s,A,M,_,⟨_,_,rfl⟩,w,s0,j,rfl,od,r⟩
 | give h s' g t=>
  walk_at"e";refine⟨dd,_,0,_,rfl,rfl,gZ.of od,rfl,?_⟩;refine⟨_,f4,rfl,rfl,?_⟩;walk_at"e";refine nJ (cj X rf Ly) rfl (by simp) ?_;walk_at"e";exact⟨_,_,rfl,Tg,s,A,M,_,⟨_,_,_,_,rfl⟩,w,s0,j,rfl,od,r⟩
 | write h t load=>
  walk_at"e";refine⟨dd,_,0,_,rfl,rfl,gZ.of od,rfl,?_⟩;refine⟨_,f10,rfl,rfl,?_⟩;walk_at"e";refine nJ (cj X rf Er) rfl (by simp) ?_;walk_at"e";exact⟨_,_,rfl,Tg,s,A,M,_,⟨_,_,_,rfl⟩,w,s0,j,rfl,od,r⟩
 | read h t=>
  walk_at"e";refine⟨dd,_,0,_,rfl,rfl,gZ.of od,rfl,?_⟩;refine⟨_,f8,rfl,rfl,?_⟩;walk_at"e";refine nJ (cj X rf Lr) rfl (by simp) ?_;walk_at"e";exact⟨_,_,rfl,Tg,s,A,M,_,⟨_,_,rfl⟩,w,s0,j,rfl,od,r⟩
 | name h t z=>
  walk_at"e";refine⟨dd,_,0,_,rfl,rfl,gZ.of od,rfl,?_⟩;refine⟨_,f6,rfl,rfl,?_⟩;walk_at"e";refine nJ (cj X rf isName) rfl (by simp) ?_;walk_at"e";exact⟨_,_,rfl,Tg,s,A,M,_,⟨_,_,_,rfl⟩,w,s0,j,rfl,od,r⟩
 | seek h s' z=>
  walk_at"e";refine⟨dd,_,0,_,rfl,rfl,gZ.of od,rfl,?_⟩;refine⟨_,f9,rfl,rfl,?_⟩;walk_at"e";refine nJ (cj X rf Lq) rfl (by simp) ?_;walk_at"e";exact⟨_,_,rfl,Tg,s,A,M,_,⟨_,_,_,rfl⟩,w,s0,j,rfl,od,r⟩
end
def jO(X:Cs):Sp:=λvs H Q E=>∃hp sl,vs=[.ref hp,.ref sl]/\∃T s A M,∃xs:List (Option Int),WJ X H T s A M/\A.hp=hp/\H sl=some (.lst (xs.map oV))/\xs.length<=1000/\∀l,H l=none->Q (.ref l) (upd H l (.lst ((xs.map (vQ M)).map oV)))
def vG(X:Cs):Sp:=λvs H Q E=>∃wo,vs=[.ref wo]/\∃T s A M,WJ X H T s A M/\A.wo=wo/\M.cells.length<=1000/\(∀m∈M.hands,m.2.length<=1000)/\∀(l:Addr) (ls:List Addr) H',aX H H'->H' l=some (.lst (ls.map V.ref))->ls.length=(rowsOf M).length->(∀(j:Nat) r x,ls[j]? =some r->(rowsOf M)[j]? =some x->H' r=some (.lst (x.map oV)))->(H l=none/\(∀r∈ls,H r=none)/\l∉ls)->Q (.ref l) H'
section
variable {K:aB}{X:Cs}{H:Hp}{Q:VK}{E:XK}{n:St->Hp->Prop}{bk ct:St->Hp->Prop}
def Zam{hp sl:Addr}(T:pZ K X)(q:∃T s A M,∃xs:List (Option Int),WJ X H T s A M/\A.hp=hp/\H sl=some (.lst (xs.map oV))/\xs.length<=1000/\∀l,H l=none->Q (.ref l) (upd H l (.lst ((xs.map (vQ M)).map oV)))):
  zW K (cI X) ⟨n,Q,bk,ct⟩ [some (.ref hp),some (.ref sl)] H:=by
 obtain⟨Tg,s,A,M,xs,j,rfl,o,hx,q⟩:=q;unfold zW;walk_at"e";refine NZ ?_;walk_at"e";refine⟨_,rfl,⟨_,cL.of o⟩,?_⟩;refine ZC (cL.of o) (λi=>(xs[i]?).map λx=>oV (vQ M x)) (by rw[aY];omega) (λi x hx=>?_) ?_
 ·rw[cz]at hx;obtain⟨y,hy,rfl⟩:=Option.map_eq_some_iff.mp hx;refine⟨λq hq=>?_,λz q hz hq=>?_⟩
  ·rw[hy]at hq;exact Be hq
  ·rw[hy]at hz;cases hz;walk_at"c";walk_at"e";exact⟨_,_,rfl,y,rfl,Tg,s,A,M,j,rfl,hq⟩
 ·intro p hp;have:(List.range (xs.map oV).length).filterMap (λi=>(xs[i]?).map λx=>oV (vQ M x))=(xs.map (vQ M)).map oV:=by
   rw[aY,List.map_map];clear q o hx
   induction xs with
   | nil=>rfl
   | cons a l ih=>
    rw[List.length_cons,List.range_succ_eq_map,List.filterMap_cons];simp only[List.getElem?_cons_zero,Option.map_some,List.map_cons,List.filterMap_map];congr 1
  rw[this];exact q p hp
def SQ{wo:Addr}(T:pZ K X)(q:∃T s A M,WJ X H T s A M/\A.wo=wo/\M.cells.length<=1000/\(∀m∈M.hands,m.2.length<=1000)/\∀(l:Addr) (ls:List Addr) H',aX H H'->H' l=some (.lst (ls.map V.ref))->ls.length=(rowsOf M).length->(∀(j:Nat) r x,ls[j]? =some r->(rowsOf M)[j]? =some x->H' r=some (.lst (x.map oV)))->(H l=none/\(∀r∈ls,H r=none)/\l∉ls)->Q (.ref l) H'):
  uX K (jO X) ⟨n,Q,bk,ct⟩ [some (.ref wo)] H:=by
 obtain⟨Tg,s,A,M,j,rfl,hc,hh,q⟩:=q;obtain⟨d1,ow⟩:=j.jb.ow;have l5:=j.jd.l5;unfold uX;walk_at"e";refine NZ ?_;walk_at"e";refine aH ow T.cW T.nWd eV ?_;refine⟨_,rfl,⟨_,cL.of j.jb.on⟩,?_⟩;refine RM (cL.of j.jb.on) (by rw[aY];omega) (λi r Hx=>∃x,(rowsOf M)[i]? =some x/\Hx r=some (.lst (x.map oV))) (λ_ _ _ _ ⟨x,e,z⟩ s=>⟨x,e,s _ _ z⟩) (λ_ _ _ ⟨_,_,z⟩=>⟨_,z⟩) (λx H1 q hq=>Be hq) (λi x H1 hi s1 q' hq=>?_) ?_
 ·rw[cz]at hi;obtain⟨p,hp,rfl⟩:=Option.map_eq_some_iff.mp hi;have j1:=j.same s1;obtain⟨m,hm,hd⟩:=j1.hand hp;obtain⟨dx,o1⟩:=hd.o1;obtain⟨d2,ow1⟩:=j1.jb.ow;walk_at"c";walk_at"e";refine aH ow1 T.cW T.Nh bD ?_;walk_at"e";refine aH o1 T.cD T.nDs qJ ?_;walk_at"e";refine⟨_,_,rfl,Tg,s,A,M,m.2,j1,rfl,hd.o2,hh m (List.mem_of_getElem? hm),λl hl=>?_⟩;exact hq l _ (aL hl _) hl ⟨_,by unfold rowsOf;rw[cz,hm];rfl,aq⟩
 ·intro rs H' s1 hl _ nn hr p hp;have s2:=aL hp (.lst (rs.map V.ref));refine q p rs _ (s1.trans s2) aq ?_ (λj' r x e1 e2=>?_) ⟨s1.free hp,nn,λz=>?_⟩
  ·rw[hl,aY];unfold rowsOf;rw[aY,j.jd.lh]
  ·obtain⟨y,e3,z⟩:=hr j' r e1;rw[e2]at e3;cases e3;exact s2 _ _ z
  ·obtain⟨k,hk,e⟩:=List.getElem_of_mem z;obtain⟨_,_,e4⟩:=hr k p (by rw[bL hk,e]);rw[hp]at e4;cases e4
end
def wV(CD:Addr):Sp:=λvs H Q E=>∃p nm many,vs=[.ref p,.str nm,.int many]/\∃dx,H p=some (.ins CD dx [])/\0<=many/\many<=1000/\
 ∀sa H',H sa=none->H' p=some (.ins CD dx (Zdh nm sa))->H' sa=some (.lst (List.replicate many.toNat V.non))->(∀b o,H b=some o->b≠p->H' b=some o)->Q .non H'
def qP(CS:Addr):Sp:=λvs H Q E=>∃p,vs=[.ref p]/\∃dx,H p=some (.ins CS dx [])/\
 ∀gr H',H gr=none->H' p=some (.ins CS dx (cA 0 "rest" gr 0 0 0 0 0 0 0 .non))->H' gr=some (.lst [])->(∀b o,H b=some o->b≠p->H' b=some o)->Q .non H'
section
variable {K:aB}{X:Cs}{H:Hp}{Q:VK}{E:XK}{n:St->Hp->Prop}{bk ct:St->Hp->Prop}
def Mw{p:Addr}{nm:Str}{many:Int}(T:pZ K X)(q:∃dx,H p=some (.ins X.D dx [])/\0<=many/\many<=1000/\
 ∀sa H',H sa=none->H' p=some (.ins X.D dx (Zdh nm sa))->H' sa=some (.lst (List.replicate many.toNat V.non))->(∀b o,H b=some o->b≠p->H' b=some o)->Q .non H'):
  rF K ⟨λ_ H'=>Q .non H',Q,bk,ct⟩ [some (.ref p),some (.str nm),some (.int many)] H:=by
 obtain⟨dx,hp,h0,h1,h⟩:=q;unfold rF;walk_at"e";refine⟨p,X.D,dx,[],rfl,hp,T.cD,T.nDn,by decide,?_⟩;walk_at"e";refine⟨by decide,λl0 hl0=>?_⟩;walk_at"e";refine⟨l0,many,_,rfl,rfl,aq,by omega,by omega,?_,λfa hfa=>?_⟩
 ·show 1 * many.toNat<=sizeLine;exact aV (by omega)
 have npl:p≠l0:=aG aq hl0;have npf:p≠fa:=aG (by rw[aC npl];exact aq) hfa;have Zyg:H fa=none:=by
  by_cases z:fa=l0
  ·rw[z,aq]at hfa;cases hfa
  ·rw[aC z,aC (λe=>npf e.symm)]at hfa;exact hfa
 have ZA8:H l0=none:=by rw[aC (λe=>npl e.symm)]at hl0;exact hl0
 walk_at"e";refine⟨p,X.D,dx,_,rfl,by rw[aC npf,aC npl];exact aq,T.cD,T.nDs,by show 1<1000;decide,?_⟩;refine h fa _ Zyg ?_ ?_ λb o hb nb=>?_
 ·rw[aq,Zp0]
 ·rw[aC npf.symm,aq];congr 2;generalize many.toNat=k
  induction k with
  | zero=>rfl
  | succ k ih=>rw[List.replicate_succ,List.replicate_succ,List.flatten_cons,ih];rfl
 ·rw[aC nb,aC (aG hb Zyg),aC (aG hb ZA8),aC nb];exact hb
def Fp{p:Addr}(T:pZ K X)(q:∃dx,H p=some (.ins X.S dx [])/\
 ∀gr H',H gr=none->H' p=some (.ins X.S dx (cA 0 "rest" gr 0 0 0 0 0 0 0 .non))->H' gr=some (.lst [])->(∀b o,H b=some o->b≠p->H' b=some o)->Q .non H'):
  oU K ⟨λ_ H'=>Q .non H',Q,bk,ct⟩ [some (.ref p)] H:=by
 obtain⟨dx,hp,h⟩:=q;unfold oU;walk_at"e";refine⟨p,X.S,dx,[],rfl,hp,T.cS,T.n1,by decide,?_⟩;walk_at"e";refine⟨p,X.S,dx,_,rfl,aq,T.cS,T.n2,by show 1<1000;decide,?_⟩;rw[eY];walk_at"e";refine⟨by decide,λgr hgr=>?_⟩;have npg:p≠gr:=aG aq hgr;have Zov:H gr=none:=by rw[aC npg.symm]at hgr;exact hgr
 walk_at"e";refine⟨p,X.S,dx,_,rfl,by rw[aC npg];exact aq,T.cS,T.n3,by show 2<1000;decide,?_⟩;walk_at"e";refine⟨p,X.S,dx,_,rfl,aq,T.cS,T.n4,by show 3<1000;decide,?_⟩;rw[eY];walk_at"e";refine⟨p,X.S,dx,_,rfl,aq,T.cS,T.n5,by show 4<1000;decide,?_⟩;rw[eY];walk_at"e";refine⟨p,X.S,dx,_,rfl,aq,T.cS,T.n6,by show 5<1000;decide,?_⟩;rw[eY];walk_at"e";refine⟨p,X.S,dx,_,rfl,aq,T.cS,T.n7,by show 6<1000;decide,?_⟩;rw[eY];walk_at"e";refine⟨p,X.S,dx,_,rfl,aq,T.cS,T.n8,by show 7<1000;decide,?_⟩;rw[eY];walk_at"e";refine⟨p,X.S,dx,_,rfl,aq,T.cS,T.n9,by show 8<1000;decide,?_⟩;rw[eY];walk_at"e";refine⟨p,X.S,dx,_,rfl,aq,T.cS,T.n10,by show 9<1000;decide,?_⟩;rw[eY];walk_at"e";refine⟨p,X.S,dx,_,rfl,aq,T.cS,T.n11,by show 10<1000;decide,?_⟩;rw[eY];refine h gr _ Zov ?_ ?_ λb o hb nb=>?_
 ·rw[aq,Zjl]
 ·rw[aC npg.symm,aq]
 ·rw[aC nb,aC (aG hb Zov),aC nb];exact hb
end
def wd(w:Int):Str:=if w=0 then "first" else if w=1 then "each" else "last"
def tlS(t:Int):Str:=if t=0 then "" else if t=1 then " old" else if t=2 then " new" else " old new"
def words(w t:Int):Str:=wd w++tlS t
structure KdO(X:Cs)(H:Hp)(ki lk:Addr)(w t:Int):Prop where
 ok:∃dx,H ki=some (.ins X.K dx (RQ lk t))
 ol:∃dx,(w=0/\H lk=some (.ins X.F dx []))\/(w=1/\H lk=some (.ins X.E dx []))\/(w=2/\H lk=some (.ins X.L dx []))
def KdO.same{X:Cs}{H H':Hp}{ki lk:Addr}{w t:Int}(k:KdO X H ki lk w t)(s:aX H H'):KdO X H' ki lk w t:=by
 obtain⟨⟨d1,a⟩,⟨d2,b⟩⟩:=k;refine⟨⟨d1,s _ _ a⟩,⟨d2,?_⟩⟩;rcases b with ⟨z,e⟩ | ⟨z,e⟩ | ⟨z,e⟩
 ·exact .inl ⟨z,s _ _ e⟩
 ·exact .inr (.inl ⟨z,s _ _ e⟩)
 ·exact .inr (.inr ⟨z,s _ _ e⟩)
def Zcq(room:Int)(hands:List (Str×Int))(w t:Int):Wm:=⟨room,0,0,[],hands.map λm=>(m.1,List.replicate m.2.toNat none),[],w,t,⟨0,"rest",[],0,0,0,0,0,0,0,.non⟩⟩
def uE(X:Cs):Sp:=λvs H Q E=>∃p room ki hl0,vs=[.ref p,.int room,.ref ki,.ref hl0]/\∃dx T s lk w t ts hands,H p=some (.ins X.W dx [])/\WT H T/\s≠0/\KdO X H ki lk w t/\T ki=(0,0)/\T lk=(0,0)/\ki≠p/\lk≠p/\H hl0=some (.lst (ts.map V.ref))/\
 Al (λ(t:Addr) (m:Str×Int)=>H t=some (.tup [.str m.1,.int m.2])/\0<=m.2/\m.2<=1000) ts hands/\hands.length<=30/\
 ∀H' T' A,(∀b o,H b=some o->b≠p->H' b=some o)->(∀b o,H b=some o->b≠p->T' b=T b)->WT H' T'->A.wo=p->WJ X H' T' s A (Zcq room hands w t)->Q .non H'
def tK(CK:Addr):Sp:=λvs H Q E=>∃p l t,vs=[.ref p,.ref l,.int t]/\∃dx,H p=some (.ins CK dx [])/\∀H',H' p=some (.ins CK dx (RQ l t))->(∀b o,H b=some o->b≠p->H' b=some o)->Q .non H'
def rR(v:V):Sp:=λvs H Q E=>∃a,vs=[.ref a]/\Q v H
section
variable {K:aB}{X:Cs}{H:Hp}{Q:VK}{E:XK}{n:St->Hp->Prop}{bk ct:St->Hp->Prop}
def Mu{p l:Addr}{t:Int}(T:pZ K X)(q:∃dx,H p=some (.ins X.K dx [])/\∀H',H' p=some (.ins X.K dx (RQ l t))->(∀b o,H b=some o->b≠p->H' b=some o)->Q .non H'):
  rD K ⟨λ_ H'=>Q .non H',Q,bk,ct⟩ [some (.ref p),some (.ref l),some (.int t)] H:=by
 obtain⟨dx,hp,h⟩:=q;unfold rD;walk_at"e";refine⟨p,X.K,dx,[],rfl,hp,T.cK,T.nKl,by decide,?_⟩;walk_at"e";refine⟨p,X.K,dx,_,rfl,aq,T.cK,T.nKt,by show 1<1000;decide,?_⟩;rw[eY];refine h _ ?_ λb o hb nb=>?_
 ·rw[aq,Zoe]
 ·rw[aC nb];exact hb
def w0{w:Int}(hw:w=0\/w=1\/w=2):words w 0=wd w:=by rcases hw with rfl | rfl | rfl<;>decide +kernel
def w3{w:Int}(hw:w=0\/w=1\/w=2):words w 3=(wd w++" old")++" new":=by rcases hw with rfl | rfl | rfl<;>decide +kernel
end
structure Ex(p:Addr)(H H':Hp)(T T':Tg):Prop where
 kp:∀b o,H b=some o->b≠p->H' b=some o
 al:∀b o,H b=some o->∃o',H' b=some o'
 tg:∀b o,H b=some o->T' b=T b
 wt:WT H' T'
section
variable {p:Addr}{H H1 H2 H':Hp}{T T1 T2 T':Tg}
def Ex.trans(a:Ex p H H1 T T1)(b:Ex p H1 H2 T1 T2):Ex p H H2 T T2 where
 kp:=λx o h n=>b.kp x o (a.kp x o h n) n
 al:=λx o h=>by obtain⟨o1,h1⟩:=a.al x o h;exact b.al x o1 h1
 tg:=λx o h=>by obtain⟨o1,h1⟩:=a.al x o h;rw[b.tg x o1 h1,a.tg x o h]
 wt:=b.wt
def Zx6(w:WT H T)(al:∀b o,H b=some o->∃o',H' b=some o'):WT H' T:=λb h=>w b (by
 cases z:H b with
 | none=>rfl
 | some o=>obtain⟨o',e⟩:=al b o z;rw[h]at e;cases e)
def Zel{a:Addr}{o:HO}{v:Nat×Nat}(w:WT H T)(h:H a=some o):WT H (jZ T a v):=λb hb=>by
 rw[lY (λe=>by rw[e,h]at hb;cases hb)];exact w b hb
def Ex.Zlx{o o0:HO}(w:WT H T)(h:H p=some o0):Ex p H (upd H p o) T T where
 kp:=λx u hx n=>by rw[aC n];exact hx
 al:=λx u hx=>by
  by_cases e:x=p
  ·exact⟨o,by rw[e,aq]⟩
  ·exact⟨u,by rw[aC e];exact hx⟩
 tg:=λ_ _ _=>rfl
 wt:=Zx6 w λx u hx=>by
  by_cases e:x=p
  ·exact⟨o,by rw[e,aq]⟩
  ·exact⟨u,by rw[aC e];exact hx⟩
def Ex.news{vs:List (Addr×(Nat×Nat))}(w:WT H T)(s:aX H H')(hn:∀v∈vs,H v.1=none/\∃o,H' v.1=some o):Ex p H H' T (vs.foldr (λv t=>jZ t v.1 v.2) T):=by
 have tg:∀b o,H b=some o->(vs.foldr (λv t=>jZ t v.1 v.2) T) b=T b:=by
  intro b o hb
  induction vs with
  | nil=>rfl
  | cons v vs ih=>
   show jZ _ v.1 v.2 b=_;rw[lY (aG hb (hn v List.mem_cons_self).1)];exact ih λu hu=>hn u (List.mem_cons_of_mem _ hu)
 refine⟨λb o hb _=>s _ _ hb,λb o hb=>⟨o,s _ _ hb⟩,tg,?_⟩;clear tg
 induction vs with
 | nil=>exact w.same s
 | cons v vs ih=>
  obtain⟨o,ho⟩:=(hn v List.mem_cons_self).2;exact Zel (ih λu hu=>hn u (List.mem_cons_of_mem _ hu)) ho
end
section
variable {K:aB}{X:Cs}{H:Hp}{Q:VK}{E:XK}{n:St->Hp->Prop}{bk ct:St->Hp->Prop}
def JC{p ki hl0:Addr}{room:Int}(T:pZ K X)(q:∃dx T s lk w t,∃ts:List Addr,∃hands,H p=some (.ins X.W dx [])/\WT H T/\s≠0/\KdO X H ki lk w t/\T ki=(0,0)/\T lk=(0,0)/\ki≠p/\lk≠p/\H hl0=some (.lst (ts.map V.ref))/\
 Al (λ(t:Addr) (m:Str×Int)=>H t=some (.tup [.str m.1,.int m.2])/\0<=m.2/\m.2<=1000) ts hands/\hands.length<=30/\
 ∀H' T' A,(∀b o,H b=some o->b≠p->H' b=some o)->(∀b o,H b=some o->b≠p->T' b=T b)->WT H' T'->A.wo=p->WJ X H' T' s A (Zcq room hands w t)->Q .non H'):
  qi K X.D X.H X.S (wV X.D) (wR X.H) (qP X.S) ⟨λ_ H'=>Q .non H',Q,bk,ct⟩ [some (.ref p),some (.int room),some (.ref ki),some (.ref hl0)] H:=by
 obtain⟨dx,T0,s,lk,w,t,ts,hands,hp,wt0,s0,kd,tki,tlk,nki,nlk,oh0,al,hn,hQ⟩:=q;have x0:WT H (jZ T0 p (s,0)):=Zel wt0 hp;have tp:jZ T0 p (s,0) p=(s,0):=jq;have to0:∀b o,H b=some o->b≠p->jZ T0 p (s,0) b=T0 b:=λb _ _ hb=>lY hb;generalize hT:jZ T0 p (s,0)=Ta at x0 tp to0;unfold qi;walk_at"e";intro hq dh nh ndh neh;refine⟨hq,room,rfl,dh,aq,λca H1 nca a1 a2 k1=>⟨rfl,?_⟩⟩;have Zv7:H ca=none:=by
  by_cases z:ca=hq
  ·rw[z,aq]at nca;cases nca
  ·rw[aC z]at nca
   by_cases y:ca=dh
   ·rw[y,aq]at nca;cases nca
   ·rw[aC y]at nca;exact nca
 have sm1:aX H H1:=λb o hb=>k1 b o (by rw[aC (aG hb nh),aC (aG hb ndh)];exact hb) (aG hb nh);have e1:Ex p H H1 Ta _:=Ex.news (vs:=[(hq,(s,1)),(ca,(s,2))]) x0 sm1 (by
  intro v hv;simp only[List.mem_cons,List.not_mem_nil,or_false]at hv;rcases hv with rfl | rfl
  ·exact⟨nh,_,a1⟩
  ·exact⟨Zv7,_,a2⟩)
 have nhc:hq≠ca:=qz a1 a2 (λz=>by cases z);have th1:([(hq,(s,1)),(ca,(s,2))].foldr (λv t=>jZ t v.1 v.2) Ta) hq=(s,1):=jq;have tc1:([(hq,(s,1)),(ca,(s,2))].foldr (λv t=>jZ t v.1 v.2) Ta) ca=(s,2):=(lY nhc.symm).trans jq;generalize ([(hq,(s,1)),(ca,(s,2))]:List (Addr×(Nat×Nat))).foldr (λv t=>jZ t v.1 v.2) Ta=Tb at e1 th1 tc1;have hp1:=sm1 _ _ hp;have nph:hq≠p:=λz=>by rw[z,hp]at nh;cases nh
 have npc:ca≠p:=λz=>by rw[z,hp]at Zv7;cases Zv7
 clear k1 nca;walk_at"e";refine⟨p,X.W,dx,[],rfl,hp1,T.cW,T.Nh,by decide,?_⟩;have e2:=e1.trans (Ex.Zlx (o:=.ins X.W dx (cB "heap" (.ref hq) [])) e1.wt hp1);have g2:upd H1 p (.ins X.W dx (cB "heap" (.ref hq) [])) p=some (.ins X.W dx (cB "heap" (.ref hq) [])):=aq;have a1:=(aC (o:=.ins X.W dx (cB "heap" (.ref hq) [])) nph).trans a1;have a2:=(aC (o:=.ins X.W dx (cB "heap" (.ref hq) [])) npc).trans a2;generalize upd H1 p (.ins X.W dx (cB "heap" (.ref hq) []))=H2 at e2 g2 a1 a2 ⊢;walk_at"e";refine⟨p,X.W,dx,_,rfl,g2,T.cW,T.nWk,by show 1<1000;decide,?_⟩;have e3:=e2.trans (Ex.Zlx (o:=.ins X.W dx (cB "kind" (.ref ki) (cB "heap" (.ref hq) []))) e2.wt g2);have g3:upd H2 p (.ins X.W dx (cB "kind" (.ref ki) (cB "heap" (.ref hq) []))) p=some (.ins X.W dx (cB "kind" (.ref ki) (cB "heap" (.ref hq) []))):=aq;have a1:=(aC (o:=.ins X.W dx (cB "kind" (.ref ki) (cB "heap" (.ref hq) []))) nph).trans a1;have a2:=(aC (o:=.ins X.W dx (cB "kind" (.ref ki) (cB "heap" (.ref hq) []))) npc).trans a2;generalize upd H2 p (.ins X.W dx (cB "kind" (.ref ki) (cB "heap" (.ref hq) [])))=H3 at e3 g3 a1 a2 ⊢;generalize hF3:(cB "kind" (.ref ki) (cB "heap" (.ref hq) []))=F3 at g3 ⊢;have lF3:F3.length=2:=by rw[<- hF3];rfl
 have oh3:H3 hl0=some (.lst (ts.map V.ref)):=e3.kp _ _ oh0 (λz=>by rw[z,hp]at oh0;cases oh0);have ltl:ts.length=hands.length:=al.length;have Zz1:∀(i:Nat) a,ts[i]? =some a->∃m,hands[i]? =some m/\H3 a=some (.tup [.str m.1,.int m.2])/\0<=m.2/\m.2<=1000:=λi a ha=>by
  have hl:i<hands.length:=by rw[<- ltl];exact(dY ha).1
  obtain⟨a',ha',z1,z2,z3⟩:=al.get (bL hl);rw[ha]at ha';cases ha';exact⟨_,bL hl,e3.kp _ _ z1 (λz=>by rw[z,hp]at z1;cases z1),z2,z3⟩
 have lo:=e3.wt;walk_at"e";refine⟨_,rfl,⟨_,cL.of oh3⟩,Zis ?_⟩;refine⟨λi m ys Hx=>i<=ts.length/\m=ts.length - i/\∃(hs:List (Addr×Addr)) (Tx:Tg),ys=hs.map (λq=>V.ref q.1)/\hs.length=i/\aX H3 Hx/\Ex p H3 Hx Tb Tx/\∀(j:Nat) q m,hs[j]? =some q->hands[j]? =some m->HdO X.D Hx Tx s j q (m.1,List.replicate m.2.toNat none)/\q.1≠p/\q.2≠p,
  ⟨ts.length,Nat.zero_le _,rfl,[],Tb,rfl,rfl,aX.refl _,⟨λ_ _ h _=>h,λ_ o h=>⟨o,h⟩,λ_ _ _=>rfl,lo⟩,λj q m e=>by simp at e⟩,?_⟩
 rintro i m ys Hx ⟨hi,rfl,hs,Tx,rfl,hl,sx,ex,hds⟩
 by_cases hk:i=ts.length
 ·refine .inl ⟨⟨_,cL.of (sx _ _ oh3),by rw[aY];omega⟩,λhla nhl=>?_⟩;have ZI1:H3 hla=none:=sx.free nhl;have s4:=aL nhl (.lst (hs.map λq=>V.ref q.1));have e4:Ex p Hx _ Tx _:=Ex.news (p:=p) (vs:=[(hla,(s,5))]) ex.wt s4 (by
   intro v hv;rw[List.mem_singleton.mp hv];exact⟨nhl,_,aq⟩)
  have t4:([(hla,(s,5))].foldr (λv t=>jZ t v.1 v.2) Tx) hla=(s,5):=jq;have o4:upd Hx hla (.lst (hs.map λq=>V.ref q.1)) hla=some (.lst (hs.map λq=>V.ref q.1)):=aq;have hpx:=sx _ _ g3;have nhp:hla≠p:=λz=>by rw[z,hpx]at nhl;cases nhl
  have hp4:=s4 _ _ hpx;generalize upd Hx hla (.lst (hs.map λq=>V.ref q.1))=H4 at s4 e4 o4 hp4 ⊢;generalize ([(hla,(s,5))]:List (Addr×(Nat×Nat))).foldr (λv t=>jZ t v.1 v.2) Tx=T4 at e4 t4;walk_at"e";refine⟨p,X.W,dx,_,rfl,hp4,T.cW,T.nWd,by rw[lF3];decide,?_⟩;have e5:=Ex.Zlx (p:=p) (o:=.ins X.W dx (cB "hands" (.ref hla) F3)) e4.wt hp4;have hp5:upd H4 p (.ins X.W dx (cB "hands" (.ref hla) F3)) p=some (.ins X.W dx (cB "hands" (.ref hla) F3)):=aq;generalize upd H4 p (.ins X.W dx (cB "hands" (.ref hla) F3))=H5 at e5 hp5 ⊢;walk_at"e";intro nm hnm;have nnp:nm≠p:=λz=>by rw[z,hp5]at hnm;cases hnm
  have s6:=aL hnm (.dK []);have e6:Ex p H5 _ T4 _:=Ex.news (p:=p) (vs:=[(nm,(s,6))]) e5.wt s6 (by
   intro v hv;rw[List.mem_singleton.mp hv];exact⟨hnm,_,aq⟩)
  have t6:([(nm,(s,6))].foldr (λv t=>jZ t v.1 v.2) T4) nm=(s,6):=jq;have o6:upd H5 nm (.dK []) nm=some (.dK []):=aq;have hp6:=s6 _ _ hp5;generalize upd H5 nm (.dK [])=H6 at s6 e6 o6 hp6 ⊢;generalize ([(nm,(s,6))]:List (Addr×(Nat×Nat))).foldr (λv t=>jZ t v.1 v.2) T4=T6 at e6 t6;walk_at"e";refine⟨p,X.W,dx,_,rfl,hp6,T.cW,T.nWn,by rw[<- hF3];show 3<1000;decide,?_⟩;have e7:=Ex.Zlx (p:=p) (o:=.ins X.W dx (cB "names" (.ref nm) (cB "hands" (.ref hla) F3))) e6.wt hp6;have hp7:upd H6 p (.ins X.W dx (cB "names" (.ref nm) (cB "hands" (.ref hla) F3))) p=some (.ins X.W dx (cB "names" (.ref nm) (cB "hands" (.ref hla) F3))):=aq;generalize upd H6 p (.ins X.W dx (cB "names" (.ref nm) (cB "hands" (.ref hla) F3)))=H7 at e7 hp7 ⊢;walk_at"e";intro sw ds nsw nds nes;refine⟨sw,rfl,ds,aq,λgr H8 ngr b1 b2 k8=>⟨rfl,?_⟩⟩;have Zv5:H7 gr=none:=by
   by_cases z:gr=sw
   ·rw[z,aq]at ngr;cases ngr
   ·rw[aC z]at ngr
    by_cases y:gr=ds
    ·rw[y,aq]at ngr;cases ngr
    ·rw[aC y]at ngr;exact ngr
  have s8:aX H7 H8:=λb o hb=>k8 b o (by rw[aC (aG hb nsw),aC (aG hb nds)];exact hb) (aG hb nsw);have e8:Ex p H7 H8 T6 _:=Ex.news (p:=p) (vs:=[(sw,(s,7)),(gr,(s,8))]) e7.wt s8 (by
   intro v hv;simp only[List.mem_cons,List.not_mem_nil,or_false]at hv;rcases hv with rfl | rfl
   ·exact⟨nsw,_,b1⟩
   ·exact⟨Zv5,_,b2⟩)
  have nsg:sw≠gr:=qz b1 b2 (λz=>by cases z);have ts8:([(sw,(s,7)),(gr,(s,8))].foldr (λv t=>jZ t v.1 v.2) T6) sw=(s,7):=jq;have tg8:([(sw,(s,7)),(gr,(s,8))].foldr (λv t=>jZ t v.1 v.2) T6) gr=(s,8):=(lY nsg.symm).trans jq;generalize ([(sw,(s,7)),(gr,(s,8))]:List (Addr×(Nat×Nat))).foldr (λv t=>jZ t v.1 v.2) T6=T8 at e8 ts8 tg8;have hp8:=s8 _ _ hp7;have nsp:sw≠p:=λz=>by rw[z,hp7]at nsw;cases nsw
  have ngp:gr≠p:=λz=>by rw[z,hp7]at Zv5;cases Zv5
  clear k8 ngr;walk_at"e";refine⟨p,X.W,dx,_,rfl,hp8,T.cW,T.Rx,by rw[<- hF3];show 4<1000;decide,?_⟩;have e9:=Ex.Zlx (p:=p) (o:=.ins X.W dx (cB "sweeper" (.ref sw) (cB "names" (.ref nm) (cB "hands" (.ref hla) F3)))) e8.wt hp8;have hp9:upd H8 p (.ins X.W dx (cB "sweeper" (.ref sw) (cB "names" (.ref nm) (cB "hands" (.ref hla) F3)))) p=some (.ins X.W dx (BP hq ki hla nm sw)):=by
   rw[aq,<- hF3,Zjf]
  generalize upd H8 p (.ins X.W dx (cB "sweeper" (.ref sw) (cB "names" (.ref nm) (cB "hands" (.ref hla) F3))))=H9 at e9 hp9 ⊢;have f89:=e9;have f69:=e7.trans (e8.trans e9);have f49:=e5.trans (e6.trans f69);have fx9:=e4.trans f49;have f39:=ex.trans fx9;have f09:=e3.trans f39;obtain⟨⟨dk,ok⟩,⟨dl,ol⟩⟩:=kd;have hlk:∃o,H lk=some o:=by
   rcases ol with ⟨_,z⟩ | ⟨_,z⟩ | ⟨_,z⟩
   ·exact⟨_,z⟩
   ·exact⟨_,z⟩
   ·exact⟨_,z⟩
  obtain⟨olk,elk⟩:=hlk;refine hQ H9 T8 ⟨p,hq,ca,ki,lk,hla,nm,sw,gr,hs,[],[]⟩ f09.kp (λb o hb nb=>(f09.tg b o hb).trans (to0 b o hb nb)) f09.wt rfl ⟨⟨(f09.tg _ _ hp).trans tp,(f09.tg _ _ ok).trans ((to0 _ _ ok nki).trans tki),(f09.tg _ _ elk).trans ((to0 _ _ elk nlk).trans tlk),(f49.tg _ _ o4).trans t4,⟨dx,hp9⟩,⟨dk,f09.kp _ _ ok nki⟩,⟨dl,?_⟩,f49.kp _ _ o4 nhp⟩,
   ⟨(f39.tg _ _ a1).trans th1,(f39.tg _ _ a2).trans tc1,⟨dh,f39.kp _ _ a1 nph⟩,f39.kp _ _ a2 npc⟩,⟨(f69.tg _ _ o6).trans t6,f69.kp _ _ o6 nnp,.nil⟩,
   ⟨(f89.tg _ _ b1).trans ts8,(f89.tg _ _ b2).trans tg8,⟨ds,f89.kp _ _ b1 nsp⟩,f89.kp _ _ b2 ngp⟩,⟨?_,by show hs.length<=30;rw[hl,hk,ltl];exact hn,?_⟩,⟨rfl,λi q c z=>by simp at z⟩⟩
  ·rcases ol with ⟨z,y⟩ | ⟨z,y⟩ | ⟨z,y⟩
   ·exact .inl ⟨z,f09.kp _ _ y nlk⟩
   ·exact .inr (.inl ⟨z,f09.kp _ _ y nlk⟩)
   ·exact .inr (.inr ⟨z,f09.kp _ _ y nlk⟩)
  ·show hs.length=(hands.map _).length;rw[aY,hl,hk,ltl]
  ·intro j q m z1 z2;have z2:(hands.map λm=>(m.1,List.replicate m.2.toNat none))[j]? =some m:=z2;rw[cz]at z2;obtain⟨m0,y1,rfl⟩:=Option.map_eq_some_iff.mp z2;obtain⟨⟨u1,u2,⟨du,u3⟩,u4⟩,v1,v2⟩:=hds j q m0 z1 y1;exact⟨(fx9.tg _ _ u3).trans u1,(fx9.tg _ _ u4).trans u2,⟨du,fx9.kp _ _ u3 v1⟩,fx9.kp _ _ u4 v2⟩
 ·have hlt:i<ts.length:=by omega
  refine .inr ⟨⟨_,_,cL.of (sx _ _ oh3),by rw[cz,bL hlt];rfl⟩,?_,λx H' y=>?_⟩
  ·rw[aY,hl];exact Nat.lt_of_lt_of_le hlt (aV (by omega))
  obtain⟨y1,y2⟩:=y;subst y1;have ey:=y2 _ (cL.of (sx _ _ oh3));rw[cz,bL hlt]at ey;have ey:x=.ref ts[i]:=(Option.some.inj ey).symm;subst ey;obtain⟨m,hm,ot,m0,m1⟩:=Zz1 i _ (bL hlt);refine Be (Zh1 ⟨ts[i],.str m.1,.int m.2,_,rfl,gZ.of (sx _ _ ot),?_⟩);walk_at"c";walk_at"e";intro q1 dq nq ndq neq;refine⟨q1,m.1,m.2,rfl,dq,aq,m0,m1,λsa Hy nsa b1 b2 k=>⟨rfl,?_⟩⟩;have Zv1:H' sa=none:=by
   by_cases z:sa=q1
   ·rw[z,aq]at nsa;cases nsa
   ·rw[aC z]at nsa
    by_cases y:sa=dq
    ·rw[y,aq]at nsa;cases nsa
    ·rw[aC y]at nsa;exact nsa
  have sy:aX H' Hy:=λb o hb=>k b o (by rw[aC (aG hb nq),aC (aG hb ndq)];exact hb) (aG hb nq);have ey:Ex p H' Hy Tx _:=Ex.news (p:=p) (vs:=[(q1,(s,20+2 * i)),(sa,(s,21+2 * i))]) ex.wt sy (by
   intro v hv;simp only[List.mem_cons,List.not_mem_nil,or_false]at hv;rcases hv with rfl | rfl
   ·exact⟨nq,_,b1⟩
   ·exact⟨Zv1,_,b2⟩)
  have nqs:q1≠sa:=qz b1 b2 (λz=>by cases z);have hpx:=sx _ _ g3;refine⟨ts.length - (i+1),by omega,by omega,rfl,hs++[(q1,sa)],_,by rw[List.map_append];rfl,by rw[List.length_append,hl];rfl,sx.trans sy,ex.trans ey,λj q m' z1 z2=>?_⟩
  by_cases hj:j<hs.length
  ·rw[List.getElem?_append_left hj]at z1;obtain⟨⟨u1,u2,⟨du,u3⟩,u4⟩,v1,v2⟩:=hds j q m' z1 z2;exact⟨⟨(ey.tg _ _ u3).trans u1,(ey.tg _ _ u4).trans u2,⟨du,sy _ _ u3⟩,sy _ _ u4⟩,v1,v2⟩
  ·have hj':=(dY z1).1;rw[List.length_append,List.length_singleton]at hj';have ej:j=hs.length:=by omega
   subst ej;rw[List.getElem?_append_right (Nat.le_refl _),Nat.sub_self]at z1;cases z1;rw[hl]at z2 ⊢;rw[hm]at z2;cases z2;exact⟨⟨jq,(lY nqs.symm).trans jq,⟨dq,b1⟩,by rw[b2,List.map_replicate];rfl⟩,(λz=>by rw[show q1=p from z,hpx]at nq;cases nq),(λz=>by rw[show sa=p from z,hpx]at Zv1;cases Zv1)⟩
end
def Io(M:Wm)(i:Int)(c:Ce):Str:=if M.sw.phase="rest" then "kept" else if M.sw.phase="give" then(if c.tone=M.sw.sense then "kept" else "doomed")else if c.tone=M.sw.sense then(if i∈M.sw.grey then "grey" else "dark")else "pale"
def iD(M:Wm):List (Int×Ce):=(List.range M.cells.length).filterMap λ(i:Nat)=>((M.cells[i]?).join).map λc=>((i:Int),c)
def Ew(X:Cs):Sp:=λvs H Q E=>∃wo i,vs=[.ref wo,.int i]/\∃T s A M c,WJ X H T s A M/\A.wo=wo/\0<=i/\M.cells[i.toNat]? =some (some c)/\Q (.str (Io M i c)) H
def TcO(M:Wm)(H:Hp)(p:Addr×Addr)(t:Int×Ce):Prop:=H p.1=some (.tup [.int t.1,.int t.2.birth,.int t.2.bulk,.int t.2.load,.ref p.2,.str (Io M t.1 t.2)])/\H p.2=some (.lst ((t.2.fl.map (vQ M)).map oV))
def wM(X:Cs):Sp:=λvs H Q E=>∃wo i,vs=[.ref wo,.int i]/\∃T s A M c,WJ X H T s A M/\A.wo=wo/\0<=i/\M.cells[i.toNat]? =some (some c)/\c.fl.length<=1000/\∀a l H',aX H H'->H a=none->H l=none->TcO M H' (a,l) (i,c)->Q (.ref a) H'
def GX(X:Cs):Sp:=λvs H Q E=>∃wo,vs=[.ref wo]/\∃T s A M,WJ X H T s A M/\A.wo=wo/\M.cells.length<=1000/\(∀c,some c∈M.cells->c.fl.length<=1000)/\
 ∀(l:Addr) (ls:List Addr) H',aX H H'->H' l=some (.lst (ls.map V.ref))->ls.length=(iD M).length->(∀(j:Nat) r t,ls[j]? =some r->(iD M)[j]? =some t->∃f,TcO M H' (r,f) t/\H f=none/\H r=none)->H l=none->Q (.ref l) H'
def Zmw{X:Cs}{H:Hp}{T:Tg}{s:Nat}{A:Wa}{M:Wm}(j:WJ X H T s A M):plc (A.cs.map pV)=(iD M).map (·.1):=by
 have key:∀i,i<M.cells.length->(decide ((A.cs.map pV)[i]? =some V.non)=true↔(M.cells[i]?).join=none):=λi hi=>by
  rw[decide_eq_true_iff,cz];cases hc:M.cells[i]? with
  | none=>rw[List.getElem?_eq_none_iff]at hc;omega
  | some y=>cases y with
   | none=>rw[j.jc.at0 hc];simp[pV]
   | some c=>
    obtain⟨p,hp,_⟩:=j.jc.at hc;rw[hp];simp[pV]
 unfold plc iD;rw[aY,j.jc.lc];generalize hn:M.cells.length=n at key;clear hn
 induction n with
 | zero=>rfl
 | succ n ih=>
  rw[List.range_succ,List.filter_append,List.map_append,List.filterMap_append,List.map_append,ih λi hi=>key i (by omega)];congr 1;have k:=key n (by omega);cases hc:(M.cells[n]?).join with
  | none=>
   have:decide ((A.cs.map pV)[n]? =some V.non)=true:=k.mpr hc;simp only[List.filter_cons,this,Bool.not_true,List.filter_nil,List.filterMap_cons,hc,Option.map_none,List.filterMap_nil];rfl
  | some c=>
   have:decide ((A.cs.map pV)[n]? =some V.non)=false:=by
    cases hd:decide ((A.cs.map pV)[n]? =some V.non)with
    | false=>rfl
    | true=>rw[k.mp hd]at hc;cases hc
   simp only[List.filter_cons,this,Bool.not_false,List.filter_nil,List.filterMap_cons,hc,Option.map_some,List.filterMap_nil];rfl
def Zic{M:Wm}{j:Nat}{t:Int×Ce}(h:(iD M)[j]? =some t):0<=t.1/\M.cells[t.1.toNat]? =some (some t.2):=by
 have hm:=List.mem_of_getElem? h;unfold iD at hm;obtain⟨i,hi,e⟩:=List.mem_filterMap.mp hm;obtain⟨c,hc,rfl⟩:=Option.map_eq_some_iff.mp e;refine⟨by show(0:Int)<=(i:Nat);omega,?_⟩;show M.cells[((i:Nat):Int).toNat]? =some (some c);rw[Int.toNat_natCast];cases hx:M.cells[i]? with
 | none=>rw[hx]at hc;cases hc
 | some y=>rw[hx]at hc;rw[show y=some c from hc]
section
variable {K:aB}{X:Cs}{H:Hp}{Q:VK}{E:XK}{n:St->Hp->Prop}{bk ct:St->Hp->Prop}
def Zdd{i:Int}{l:List Int}:inV (.int i) (l.map V.int)=decide (i∈l):=by
 unfold inV
 induction l with
 | nil=>rfl
 | cons a l ih=>
  rw[List.map_cons,List.any_cons,ih]
  by_cases e:i=a
  ·subst e;simp[Xn]
  ·have e':¬ a=i:=λz=>e z.symm;simp[Xn,e,e']
def Zgo{wo:Addr}{i:Int}(T:pZ K X)(q:∃T s A M c,WJ X H T s A M/\A.wo=wo/\0<=i/\M.cells[i.toNat]? =some (some c)/\Q (.str (Io M i c)) H):Gq K (cM X) ⟨n,Q,bk,ct⟩ [some (.ref wo),some (.int i),none,none] H:=by
 obtain⟨Tg,s,A,M,c,j,rfl,h0,hc,q⟩:=q;obtain⟨d1,ow⟩:=j.jb.ow;obtain⟨d2,os⟩:=j.js.os;obtain⟨th,tc,⟨d3,oh⟩,oc⟩:=j.jh;obtain⟨p,hp,ce⟩:=j.jc.at hc;unfold Gq;walk_at"e";refine aH ow T.cW T.Rx bx ?_;walk_at"e";refine aH ow T.cW T.Nh bD ?_;refine aH oh T.c.cN T.c.bM bT ?_;walk_at"e";refine ji (cL.of oc) (qM (v:=.ref p.1) h0 (by rw[cz,hp];rfl)) ?_;walk_at"e";refine⟨_,_,rfl,Tg,s,A,M,_,p,c,j.w0,rfl,ce,rfl,?_⟩;walk_at"e";refine aH os T.cS T.n2 fQ ?_;walk_at"e";unfold Io at q;refine vO (λz=>?_) (λz=>?_)
 ·rw[if_pos z]at q;walk_at"e";exact q
 ·rw[if_neg z]at q;walk_at"e";refine aH os T.cS T.n2 fQ ?_;walk_at"e";refine vO (λy=>?_) (λy=>?_)
  ·rw[if_pos y]at q;walk_at"e";refine vO (λx=>?_) (λx=>?_)
   ·rw[if_pos x]at q;walk_at"e";exact q
   ·rw[if_neg x]at q;walk_at"e";exact q
  ·rw[if_neg y]at q;walk_at"e";refine LR (λx=>?_) (λx=>?_)
   ·rw[if_neg x]at q;walk_at"e";exact q
   ·rw[if_pos x]at q;walk_at"e";refine aH os T.cS T.n3 mq ?_;refine⟨_,_,rfl,.inl (cL.of j.js.og),rfl,?_,?_⟩
    ·rw[List.all_map,List.all_eq_true];intro a _;rfl
    rw[if_neg (by decide),Zdd];walk_at"e";refine vO (λy=>?_) (λy=>?_)
    ·rw[if_pos y]at q;walk_at"e";exact q
    ·rw[if_neg y]at q;walk_at"e";exact q
def XH{wo:Addr}{i:Int}(T:pZ K X)(q:∃T s A M c,WJ X H T s A M/\A.wo=wo/\0<=i/\M.cells[i.toNat]? =some (some c)/\c.fl.length<=1000/\∀a l H',aX H H'->H a=none->H l=none->TcO M H' (a,l) (i,c)->Q (.ref a) H'):
  zQ K (jO X) (Ew X) ⟨n,Q,bk,ct⟩ [some (.ref wo),some (.int i),none,none] H:=by
 obtain⟨Tg,s,A,M,c,j,rfl,h0,hc,hl,q⟩:=q;obtain⟨d1,ow⟩:=j.jb.ow;obtain⟨th,tc,⟨d3,oh⟩,oc⟩:=j.jh;obtain⟨p,hp,ce⟩:=j.jc.at hc;obtain⟨t1,t2,⟨dx,o1⟩,o2⟩:=id ce;unfold zQ;walk_at"e";refine aH ow T.cW T.Nh bD ?_;refine aH oh T.c.cN T.c.bM bT ?_;walk_at"e";refine ji (cL.of oc) (qM (v:=.ref p.1) h0 (by rw[cz,hp];rfl)) ?_;walk_at"e";refine aH ow T.cW T.Nh bD ?_;walk_at"e";refine aH o1 T.c.cZ T.c.eX lD ?_;walk_at"e";refine⟨_,_,rfl,Tg,s,A,M,c.fl,j,rfl,o2,hl,λl nl=>?_⟩;have s1:=aL nl (.lst ((c.fl.map (vQ M)).map oV));have g1:upd H l (.lst ((c.fl.map (vQ M)).map oV)) l=some (.lst ((c.fl.map (vQ M)).map oV)):=aq;generalize upd H l (.lst ((c.fl.map (vQ M)).map oV))=H1 at s1 g1 ⊢;walk_at"e";refine aH (s1 _ _ o1) T.c.cZ T.c.dU gM ?_;walk_at"e";refine aH (s1 _ _ o1) T.c.cZ T.c.mH Gb ?_;walk_at"e";refine aH (s1 _ _ o1) T.c.cZ T.c.jC yE ?_;walk_at"e";refine⟨_,_,rfl,Tg,s,A,M,c,j.same s1,rfl,h0,hc,?_⟩;walk_at"e";refine⟨aV (by simp),λa na=>?_⟩;have s2:=aL na (.tup [.int i,.int c.birth,.int c.bulk,.int c.load,.ref l,.str (Io M i c)]);exact q a l _ (s1.trans s2) (s1.free na) nl ⟨aq,s2 _ _ g1⟩
def Tp{wo:Addr}(T:pZ K X)(q:∃T s A M,WJ X H T s A M/\A.wo=wo/\M.cells.length<=1000/\(∀c,some c∈M.cells->c.fl.length<=1000)/\
 ∀(l:Addr) (ls:List Addr) H',aX H H'->H' l=some (.lst (ls.map V.ref))->ls.length=(iD M).length->(∀(j:Nat) r t,ls[j]? =some r->(iD M)[j]? =some t->∃f,TcO M H' (r,f) t/\H f=none/\H r=none)->H l=none->Q (.ref l) H'):
  xJ K X.H (mX X.H) (wM X) ⟨n,Q,bk,ct⟩ [some (.ref wo)] H:=by
 obtain⟨Tg,s,A,M,j,rfl,hc,hf,q⟩:=q;obtain⟨d1,ow⟩:=j.jb.ow;obtain⟨th,tc,⟨d3,oh⟩,oc⟩:=j.jh;have hl:(iD M).length<=1000:=by
  have:=List.length_filterMap_le (λ(i:Nat)=>((M.cells[i]?).join).map λc=>((i:Int),c)) (List.range M.cells.length);rw[List.length_range]at this;exact Nat.le_trans this hc
 unfold xJ;walk_at"e";refine NZ ?_;walk_at"e";refine aH ow T.cW T.Nh bD ?_;refine⟨A.hp,d3,_,rfl,oh,DX,?_⟩;walk_at"e";refine⟨_,rfl,_,_,_,_,_,j.hpO,by rw[aY,j.jc.lc];exact hc,λl0 nl0=>?_⟩;rw[Zmw j];have s1:=aL nl0 (.lst (((iD M).map (·.1)).map V.int));have g1:upd H l0 (.lst (((iD M).map (·.1)).map V.int)) l0=some (.lst (((iD M).map (·.1)).map V.int)):=aq;generalize upd H l0 (.lst (((iD M).map (·.1)).map V.int))=H1 at s1 g1 ⊢;refine⟨_,rfl,⟨_,cL.of g1⟩,?_⟩;refine RM (cL.of g1) (by rw[aY,aY];omega) (λi r Hx=>∃t f,(iD M)[i]? =some t/\TcO M Hx (r,f) t/\H f=none) (λ_ _ _ _ ⟨t,f,e,⟨z1,z2⟩,z3⟩ s=>⟨t,f,e,⟨s _ _ z1,s _ _ z2⟩,z3⟩) (λ_ _ _ ⟨_,_,_,⟨z,_⟩,_⟩=>⟨_,z⟩) (λx H1 q hq=>Be hq) (λi x H2 hi s2 q' hq=>?_) ?_
 ·rw[cz,cz]at hi;cases ht:(iD M)[i]? with
  | none=>rw[ht]at hi;cases hi
  | some t=>
   rw[ht]at hi;cases hi;obtain⟨t0,tc'⟩:=Zic ht;walk_at"c";walk_at"e";refine⟨_,_,rfl,Tg,s,A,M,t.2,j.same (s1.trans s2),rfl,t0,tc',hf _ (List.mem_of_getElem? tc'),λa l H3 s3 na nl tco=>?_⟩;exact hq a H3 s3 na ⟨t,l,ht,tco,(s1.trans s2).free nl⟩
 ·intro rs H' s2 hl2 _ nn hr p hp;have s3:=aL hp (.lst (rs.map V.ref));refine q p rs _ (s1.trans (s2.trans s3)) aq (by rw[hl2,aY,aY]) (λk r t e1 e2=>?_) (s1.free (s2.free hp));obtain⟨t',f,e3,⟨z1,z2⟩,z3⟩:=hr k r e1;rw[e2]at e3;cases e3;exact⟨f,⟨s3 _ _ z1,s3 _ _ z2⟩,z3,s1.free (nn r (List.mem_of_getElem? e1))⟩
end
section
variable {K:aB}{X:Cs}{H:Hp}{Q:VK}{E:XK}{T:Tg}{s:Nat}{A:Wa}{M:Wm}
def Zl9{i:Nat}{c:Ce}(j:WJ X H T s A M)(w:WT H T)(h0:s≠0)(hc:M.cells[i]? =some (some c))
  (k:∀H' A',jo s H H' T T->WJ X H' T s A' { M with used:=M.used - (1+c.fl.length+c.bulk),cells:=M.cells.set i none }->A'.wo=A.wo/\A'.sw=A.sw->Q (.int c.birth) H'):
  tL X.C X.H [.ref A.hp,.int i] H Q E:=by
 obtain⟨th,tc,⟨dh,oh⟩,oc⟩:=j.jh;obtain⟨pc,hpc,ce⟩:=j.jc.at hc;obtain⟨_,_,⟨dc,o1⟩,ofl⟩:=id ce;have hl:=(dY hc).1;refine⟨A.hp,i,rfl,A.ca,dh,M.room,M.used,M.born,A.cs.map pV,pc.1,pc.2,c.birth,c.bulk,c.tone,c.load,c.fl.map oV,by omega,oh,oc,by rw[Int.toNat_natCast,cz,hpc];rfl,⟨⟨dc,o1⟩,ofl⟩,?_⟩;rw[Int.toNat_natCast,aY];have nhc:A.hp≠A.ca:=qz oh oc (λz=>by cases z);obtain⟨st5,j5⟩:=j.back w h0 (i:=i) (used':=M.used - (1+c.fl.length+c.bulk)) (by rw[j.jc.lc];exact hl) (upd (upd H A.hp (.ins X.H dh (lg M.room A.ca (M.used - (1+c.fl.length+c.bulk)) M.born))) A.ca (.lst ((A.cs.map pV).set i V.non)))
  (λb o hb n1 n2=>by rw[aC n2,aC n1];exact hb) (by rw[aC nhc];exact aq) aq
 exact k _ _ st5 j5 ⟨rfl,rfl⟩
end
def heldOf(M:Wm):List (List (Option Int)):=M.hands.map (·.2)
def Zb1(X:Cs):Sp:=λvs H Q E=>∃wo,vs=[.ref wo]/\∃T s A M,WJ X H T s A M/\A.wo=wo/\M.hands.length<=1000/\∀(l:Addr) (ls:List Addr) H',aX H H'->H l=none->H' l=some (.lst (ls.map V.ref))->ls.length=(heldOf M).length->ls.Nodup->(∀r∈ls,H r=none)->l∉ls->(∀(j:Nat) r x,ls[j]? =some r->(heldOf M)[j]? =some x->H' r=some (.lst (x.map oV)))->Q (.ref l) H'
section
variable {K:aB}{X:Cs}{H:Hp}{Q:VK}{E:XK}{n:St->Hp->Prop}{bk ct:St->Hp->Prop}
def Zsj{wo:Addr}(T:pZ K X)(q:∃T s A M,WJ X H T s A M/\A.wo=wo/\M.hands.length<=1000/\∀(l:Addr) (ls:List Addr) H',aX H H'->H l=none->H' l=some (.lst (ls.map V.ref))->ls.length=(heldOf M).length->ls.Nodup->(∀r∈ls,H r=none)->l∉ls->(∀(j:Nat) r x,ls[j]? =some r->(heldOf M)[j]? =some x->H' r=some (.lst (x.map oV)))->Q (.ref l) H'):
  YL K ⟨n,Q,bk,ct⟩ [some (.ref wo)] H:=by
 obtain⟨Tg,s,A,M,j,rfl,hl,q⟩:=q;obtain⟨dx,ow⟩:=j.jb.ow;unfold YL;walk_at"e";refine NZ ?_;walk_at"e";refine aH ow T.cW T.nWd eV ?_;have l5:=j.jd.l5;refine⟨_,rfl,⟨_,cL.of j.jb.on⟩,?_⟩;refine RM (cL.of j.jb.on) (by rw[aY];omega) (λi r Hx=>∃x,(heldOf M)[i]? =some x/\Hx r=some (.lst (x.map oV))) (λ_ _ _ _ ⟨x,e,z⟩ s=>⟨x,e,s _ _ z⟩) (λ_ _ _ ⟨_,_,z⟩=>⟨_,z⟩) (λx H1 q hq=>Be hq) (λi x H1 hi s1 q' hq=>?_) ?_
 ·rw[cz]at hi;obtain⟨p,hp,rfl⟩:=Option.map_eq_some_iff.mp hi;have j1:=j.same s1;obtain⟨m,hm,hd⟩:=j1.hand hp;obtain⟨dx,o1⟩:=hd.o1;walk_at"c";walk_at"e";refine aH o1 T.cD T.nDs qJ ?_;walk_at"e";refine Pz (cL.of hd.o2) λl hl=>?_;exact hq l _ (aL hl _) hl ⟨_,by unfold heldOf;rw[cz,hm];rfl,aq⟩
 ·intro rs H' s1 hl nd nn hr p hp;have s2:=aL hp (.lst (rs.map V.ref));refine q p rs _ (s1.trans s2) (s1.free hp) aq ?_ nd nn (λz=>?_) λj' r x e1 e2=>?_
  ·rw[hl,aY];unfold heldOf;rw[aY,j.jd.lh]
  ·obtain⟨k,hk,e⟩:=List.getElem_of_mem z;obtain⟨_,_,e4⟩:=hr k p (by rw[bL hk,e]);rw[hp]at e4;cases e4
  ·obtain⟨y,e3,z⟩:=hr j' r e1;rw[e2]at e3;cases e3;exact s2 _ _ z
end
def iC(w:Int)(h:Nat):Int:=if w=0 then 2 ^ h - 1 else 0
def eF(M:Wm):Wm:={ M with sw:={ M.sw with sense:=1 - M.sw.sense,phase:="walk",grey:=[],looked:=iC M.w M.hands.length,turn:=M.sw.turn+1,walks:=0,looks:=0,passes:=0 } }
def vH:Sp:=λvs H Q E=>∃h,vs=[.int h]/\0<=h/\h<=30/\Q (.int (2 ^ h.toNat - 1)) H
def oE(k:Nat):Sp:=λvs H Q E=>∃a h,vs=[.ref a,.int h]/\0<=h/\h<=30/\Q (.int (if k=0 then 2 ^ h.toNat - 1 else 0)) H
def Z0q (H:Hp)(X:Cs)(wo:Addr)(Q:VK):Prop:=∃T s A M,WT H T/\s≠0/\WJ X H T s A M/\A.wo=wo/\∀H' T' A',jo s H H' T T'->WJ X H' T' s A' (eF M)->A'.wo=wo/\A'.sw=A.sw->Q .non H'
def Qe(X:Cs):Sp:=λvs H Q E=>∃wo,vs=[.ref wo]/\Z0q H X wo Q
section
variable {X:Cs}{H H':Hp}{T T':Tg}{s:Nat}{A:Wa}{M:Wm}
def WJ.Zrq(j:WJ X H T s A M)(w:WT H T)(h0:s≠0){dx l:Addr}(S:Sw)(hl:H l=none)(e9:S.grey=[]):
  jo s H (upd (upd H l (.lst [])) A.sw (.ins X.S dx (cA S.sense S.phase l S.looked S.turn S.at' S.stop S.walks S.looks S.passes S.loss))) T (jZ T l (s,8))/\
  WJ X (upd (upd H l (.lst [])) A.sw (.ins X.S dx (cA S.sense S.phase l S.looked S.turn S.at' S.stop S.walks S.looks S.passes S.loss))) (jZ T l (s,8)) s { A with gr:=l } { M with sw:=S }:=by
 obtain⟨ts,tg,⟨dd,os⟩,og⟩:=id j.js;have nls:l≠A.sw:=(aG os hl).symm;have w1:WT (upd H l (.lst [])) (jZ T l (s,8)):=Zel (w.same (aL hl _)) aq;have st1:jo s H (upd H l (.lst [])) T (jZ T l (s,8)):=⟨λb o h _=>(aL hl _) _ _ h,λb o h=>⟨o,(aL hl _) _ _ h⟩,λb o h=>lY (aG h hl),w1⟩;have j1:WJ X (upd H l (.lst [])) (jZ T l (s,8)) s A M:=j.fresh hl;obtain⟨ts1,tg1,⟨dd1,os1⟩,og1⟩:=id j1.js;refine⟨st1.trans (jo.upd w1 os1 (by rw[ts1])),?_⟩;have f:yI s (·=7) (upd H l (.lst [])) (upd (upd H l (.lst [])) A.sw (.ins X.S dx (cA S.sense S.phase l S.looked S.turn S.at' S.stop S.walks S.looks S.passes S.loss))) (jZ T l (s,8)) (jZ T l (s,8)):=yI.Dw ts1;have b1:=j1.jb.mv f (pN h0 ts1) (by omega) (by omega);have b2:=j1.jh.mv f (by omega) (by omega);have b3:=j1.jn.mv f (pN h0 ts1) (by omega);have b5:=j1.jd.mv f λ_ _ _=>by omega
 have b6:=j1.jc.mv f λ_ _=>by omega
 obtain⟨x1,x2,x3,x4,x5,x6,x7,x8⟩:=b1;obtain⟨y1,y2,y3,y4⟩:=b2;obtain⟨z1,z2,z3⟩:=b3;exact⟨⟨x1,x2,x3,x4,x5,x6,x7,x8⟩,⟨y1,y2,y3,y4⟩,⟨z1,z2,z3⟩,⟨ts1,jq,⟨dx,aq⟩,by rw[aC nls,aq,e9];rfl⟩,b5,b6⟩
end
section
variable {K:aB}{X:Cs}{H:Hp}{Q:VK}{E:XK}{n:St->Hp->Prop}{bk ct:St->Hp->Prop}
def Zpq{j:Int}(h0:0<=j)(h1:j<=1000):Wb 1 j:=⟨h0,by omega,by decide⟩
def Zlp{h:Int}(q:0<=h/\h<=30/\Q (.int (2 ^ h.toNat - 1)) H):Kr ⟨n,Q,bk,ct⟩ [some (.int h)] H:=by
 obtain⟨h0,h1,q⟩:=q;unfold Kr;walk_at"e";refine⟨_,_,rfl,rfl,Zpq h0 (by omega),?_⟩;walk_at"e";rw[Int.one_mul];exact q
def Ft{a:Addr}{h:Int}(q:0<=h/\h<=30/\Q (.int (if (1:Nat)=0 then 2 ^ h.toNat - 1 else 0)) H):oW ⟨n,Q,bk,ct⟩ [some (.ref a),some (.int h)] H:=by
 unfold oW;walk_at"e";exact q.2.2
def JK{a:Addr}{h:Int}(q:0<=h/\h<=30/\Q (.int (if (0:Nat)=0 then 2 ^ h.toNat - 1 else 0)) H):qm vH ⟨n,Q,bk,ct⟩ [some (.ref a),some (.int h)] H:=by
 obtain⟨h0,h1,q⟩:=q;unfold qm;walk_at"e";exact⟨h,rfl,h0,h1,q⟩
def Zpt{wo:Addr}(Tx:pZ K X)(q:Z0q H X wo Q):
  QW K X.E X.F X.L (oE 0) (oE 1) ⟨λ_ H'=>Q .non H',Q,bk,ct⟩ [some (.ref wo),none] H:=by
 obtain⟨T,s,A,M,w,h0,j,rfl,q⟩:=q;obtain⟨dw,ow⟩:=j.jb.ow;obtain⟨ds,os⟩:=j.js.os;obtain⟨dk,ok⟩:=j.jb.ok;obtain⟨dl,ol⟩:=j.jb.ol;have on:=j.jb.on;have lh:=j.jd.lh;have l5:=j.jd.l5;unfold QW;walk_at"e";refine aH ow Tx.cW Tx.Rx bx ?_;walk_at"e";refine aH os Tx.cS Tx.n1 lC ?_;walk_at"e";refine⟨A.sw,X.S,ds,_,rfl,os,Tx.cS,Tx.n1,by show 11<1000;decide,?_⟩;rw[JR];walk_at"e";refine aH aq Tx.cS Tx.n5 nQ ?_;walk_at"e";refine⟨A.sw,X.S,ds,_,rfl,aq,Tx.cS,Tx.n5,by show 11<1000;decide,?_⟩;rw[Oe,eY];walk_at"e";refine⟨A.sw,X.S,ds,_,rfl,aq,Tx.cS,Tx.n2,by show 11<1000;decide,?_⟩;rw[oG,eY];walk_at"e";refine⟨by decide,λgr hgr=>?_⟩;have nsg:A.sw≠gr:=aG aq hgr;have Zov:H gr=none:=by rw[aC nsg.symm]at hgr;exact hgr
 walk_at"e";refine⟨A.sw,X.S,ds,_,rfl,by rw[aC nsg];exact aq,Tx.cS,Tx.n3,by show 11<1000;decide,?_⟩;rw[Oi];have sw2:∀(a b:HO) (o:HO),upd (upd (upd H A.sw a) gr o) A.sw b=upd (upd H gr o) A.sw b:=λa b o=>by
  funext x
  by_cases z:x=A.sw
  ·rw[z,aq,aq]
  ·rw[aC z,aC z]
   by_cases y:x=gr
   ·rw[y,aq,aq]
   ·rw[aC y,aC y,aC z]
 rw[sw2];have fin:∀{lo:Int}{σ:St},σ=[some (.ref A.wo),some (.ref A.sw)]->lo=iC M.w M.hands.length->∀(H3:Hp),H3=upd (upd H gr (.lst [])) A.sw (.ins X.S ds (cA (1 - M.sw.sense) "walk" gr M.sw.looked (M.sw.turn+1) M.sw.at' M.sw.stop M.sw.walks M.sw.looks M.sw.passes M.sw.loss))->
   (∃a C dx fs,V.ref A.sw=.ref a/\H3 a=some (.ins C dx fs)/\Gf K C/\bK K C "looked"/\fs.length<1000/\(aN (ie K (ak 1) (tC (.int 0)) "walks") (aN (ie K (ak 1) (tC (.int 0)) "looks") (ie K (ak 1) (tC (.int 0)) "passes"))) ⟨λ_ H'=>Q .non H',Q,bk,ct⟩ σ (upd H3 a (.ins C dx (cB "looked" (.int lo) fs)))):=by
  rintro lo σ rfl elo H3 rfl;refine⟨A.sw,X.S,ds,_,rfl,aq,Tx.cS,Tx.n4,by show 11<1000;decide,?_⟩;rw[vZ,eY];walk_at"e";refine⟨A.sw,X.S,ds,_,rfl,aq,Tx.cS,Tx.n8,by show 11<1000;decide,?_⟩;rw[yL,eY];walk_at"e";refine⟨A.sw,X.S,ds,_,rfl,aq,Tx.cS,Tx.n9,by show 11<1000;decide,?_⟩;rw[qT,eY];walk_at"e";refine⟨A.sw,X.S,ds,_,rfl,aq,Tx.cS,Tx.n10,by show 11<1000;decide,?_⟩;rw[vY,eY];obtain⟨st,j'⟩:=j.Zrq w h0 (dx:=ds) (l:=gr) { M.sw with sense:=1 - M.sw.sense,phase:="walk",grey:=[],looked:=iC M.w M.hands.length,turn:=M.sw.turn+1,walks:=0,looks:=0,passes:=0 } Zov rfl;subst elo;exact q _ _ _ st j' ⟨rfl,rfl⟩
 have kp:∀b o,H b=some o->b≠A.sw->upd (upd H gr (.lst [])) A.sw (.ins X.S ds (cA (1 - M.sw.sense) "walk" gr M.sw.looked (M.sw.turn+1) M.sw.at' M.sw.stop M.sw.walks M.sw.looks M.sw.passes M.sw.loss)) b=some o:=λb o hb nb=>by
  rw[aC nb,aC (aG hb Zov)];exact hb
 have dS:∀{a:Addr}{C d:Addr}{fs:List (Str×V)},H a=some (.ins C d fs)->fs.length<11->a≠A.sw:=λe hl z=>by
  rw[z,os]at e;have:=Option.some.inj e
  injection this with _ _ e3
  rw[<- e3]at hl;exact absurd hl (by show ¬ 11<11;decide)
 have ow3:=kp _ _ ow (dS ow (by show 5<11;decide));have ok3:=kp _ _ ok (dS ok (by show 2<11;decide));have on3:=kp _ _ on (qz on os (λz=>by cases z));generalize hH3:upd (upd H gr (.lst [])) A.sw (.ins X.S ds (cA (1 - M.sw.sense) "walk" gr M.sw.looked (M.sw.turn+1) M.sw.at' M.sw.stop M.sw.walks M.sw.looks M.sw.passes M.sw.loss))=H3 at kp ow3 ok3 on3 ⊢;have Zcx:((A.hs.map λp=>V.ref p.1).length:Int)=(M.hands.length:Int):=by rw[aY,lh]
 refine Ji ?_;walk_at"s";rcases ol with ⟨ew,o⟩ | ⟨ew,o⟩ | ⟨ew,o⟩
 ·have o3:=kp _ _ o (dS o (by show 0<11;decide));refine W8 ?_;walk_at"s";refine aH ow3 Tx.cW Tx.nWk mj ?_;refine aH ok3 Tx.cK Tx.nKl oK ?_;walk_at"s";refine⟨A.lk,dl,_,rfl,o3,rfl,?_⟩;walk_at"s";refine aH ow3 Tx.cW Tx.nWd eV ?_;walk_at"s";refine jt (cL.of on3) ?_;rw[Zcx];walk_at"s";refine⟨A.lk,_,rfl,by omega,by omega,?_⟩;walk_at"s";exact fin rfl (by unfold iC;rw[if_pos ew,if_pos rfl,Int.toNat_natCast]) _ hH3.symm
 ·have o3:=kp _ _ o (dS o (by show 0<11;decide));refine Jj (W8 ?_);walk_at"s";refine aH ow3 Tx.cW Tx.nWk mj ?_;refine aH ok3 Tx.cK Tx.nKl oK ?_;walk_at"s";refine⟨A.lk,dl,_,rfl,o3,rfl,?_⟩;walk_at"s";refine aH ow3 Tx.cW Tx.nWd eV ?_;walk_at"s";refine jt (cL.of on3) ?_;rw[Zcx];walk_at"s";refine⟨A.lk,_,rfl,by omega,by omega,?_⟩;walk_at"s";exact fin rfl (by unfold iC;rw[if_neg (show ¬ (1:Nat)=0 by decide),if_neg (by omega)]) _ hH3.symm
 ·have o3:=kp _ _ o (dS o (by show 0<11;decide));refine Jj (Jj ?_);walk_at"s";refine aH ow3 Tx.cW Tx.nWk mj ?_;refine aH ok3 Tx.cK Tx.nKl oK ?_;walk_at"s";refine⟨A.lk,dl,_,rfl,o3,rfl,?_⟩;walk_at"s";refine aH ow3 Tx.cW Tx.nWd eV ?_;walk_at"s";refine jt (cL.of on3) ?_;rw[Zcx];walk_at"s";refine⟨A.lk,_,rfl,by omega,by omega,?_⟩;walk_at"s";exact fin rfl (by unfold iC;rw[if_neg (show ¬ (1:Nat)=0 by decide),if_neg (by omega)]) _ hH3.symm
end
def Qf(M:Wm):Bool:=decide (M.sw.phase="walk"\/M.sw.phase="lost")
def QM(M:Wm)(p b:Int):Option Int:=if tH M p b=true then none else match cellAt M p with
 | none=>none
 | some c=>if Qf M=true/\¬ c.tone=M.sw.sense then none else some p
def uC(X:Cs):Sp:=λvs H Q E=>∃wo,vs=[.ref wo]/\∃T s A M,WJ0 X H T s A M/\A.wo=wo/\∀H',aX H H'->Q (.bl (Qf M)) H'
def Et(X:Cs):Sp:=λvs H Q E=>∃wo p b,vs=[.ref wo,.int p,.int b]/\∃T s A M,WJ0 X H T s A M/\A.wo=wo/\∀H',aX H H'->Q (oV (QM M p b)) H'
section
variable {K:aB}{X:Cs}{H:Hp}{Q:VK}{E:XK}{n:St->Hp->Prop}{bk ct:St->Hp->Prop}
def U8{wo:Addr}(T:pZ K X)(q:∃T s A M,WJ0 X H T s A M/\A.wo=wo/\∀H',aX H H'->Q (.bl (Qf M)) H'):xO K ⟨n,Q,bk,ct⟩ [some (.ref wo)] H:=by
 obtain⟨Tg,s,A,M,j,rfl,q⟩:=q;obtain⟨d1,ow⟩:=j.jb.ow;obtain⟨d2,os⟩:=j.js.os;unfold xO;walk_at"e";refine aH ow T.cW T.Rx bx ?_;walk_at"e";refine aH os T.cS T.n2 fQ ?_;walk_at"e";refine⟨aV (by simp),λtp Ti=>?_⟩;have s1:=aL Ti (.tup [V.str "walk",.str "lost"]);have g1:upd H tp (.tup [V.str "walk",.str "lost"]) tp=some (.tup [V.str "walk",.str "lost"]):=aq;generalize upd H tp (.tup [V.str "walk",.str "lost"])=H1 at s1 g1 ⊢;refine⟨tp,_,rfl,.inr (gZ.of g1),rfl,rfl,?_⟩;have q:=q H1 s1;rw[show Qf M=(if false=true then !inV (V.str M.sw.phase) [V.str "walk",.str "lost"]else inV (V.str M.sw.phase) [V.str "walk",.str "lost"])from by
  rw[if_neg Bool.false_ne_true];unfold Qf inV
  by_cases h1:M.sw.phase="walk"
  ·simp[h1,Xn]
  ·by_cases h2:M.sw.phase="lost"
   ·simp[h2,Xn]
   ·have e1:¬ ("walk":Str)=M.sw.phase:=λz=>h1 z.symm;have e2:¬ ("lost":Str)=M.sw.phase:=λz=>h2 z.symm;simp[h1,h2,e1,e2,Xn]]at q
 exact q
def Zfr{wo:Addr}{p b:Int}(T:pZ K X)(q:∃T s A M,WJ0 X H T s A M/\A.wo=wo/\∀H',aX H H'->Q (oV (QM M p b)) H'):Gp K (GZ X) (cM X) (uC X) ⟨n,Q,bk,ct⟩ [some (.ref wo),some (.int p),some (.int b)] H:=by
 obtain⟨Tg,s,A,M,j,rfl,q⟩:=q;unfold Gp;walk_at"e";refine⟨_,_,_,rfl,Tg,s,A,M,j,rfl,?_⟩;have hgo:∀c,cellAt M p=some c->tH M p b=false->QM M p b=if Qf M=true/\¬ c.tone=M.sw.sense then none else some p:=λc hc hg=>by
  unfold QM;rw[hg,if_neg Bool.false_ne_true,hc]
 cases hg:tH M p b with
 | true=>
  walk_at"e";have:=q H (aX.refl _);rw[show QM M p b=none from if_pos hg]at this;exact this
 | false=>
  walk_at"e";refine⟨_,rfl,Tg,s,A,M,j,rfl,λH1 s1=>?_⟩;obtain⟨c,hc⟩:∃c,cellAt M p=some c:=by
   cases e:cellAt M p with
   | none=>
    have:tH M p b=true:=by unfold tH;rw[e]
    rw[this]at hg;cases hg
   | some c=>exact⟨c,rfl⟩
  have q:=q H1 s1;rw[hgo c hc hg]at q;have j1:=j.same s1;cases hw:Qf M with
  | false=>
   walk_at"e";rw[if_neg (λz=>by rw[hw]at z;cases z.1)]at q;exact q
  | true=>
   walk_at"e";obtain⟨d1,ow⟩:=j1.jb.ow;obtain⟨dh,oh⟩:=j1.jh.oh;rcases j1.look (some p)with ⟨e1,_⟩ | ⟨i,c',pp,ei,h0,ec,hci,hp,_,ce⟩
   ·have e1:cellAt M p=none:=e1;rw[hc]at e1;cases e1
   cases ei;rw[hc]at ec;cases ec;refine aH ow T.cW T.Nh bD ?_;walk_at"e";refine aH oh T.c.cN T.c.bM bT ?_;walk_at"e";refine ji (cL.of j1.jh.oc) (qM (v:=.ref pp.1) h0 (by rw[cz,hp];rfl)) ?_;walk_at"e";refine⟨_,_,rfl,Tg,s,A,M,_,pp,c,j1,rfl,ce,rfl,?_⟩;walk_at"e"
   by_cases ht:c.tone=M.sw.sense
   ·rw[if_neg (λz=>z.2 ht)]at q;refine LR (λz=>absurd ht z) (λ_=>?_);walk_at"e";exact q
   ·rw[if_pos ⟨hw,ht⟩]at q;refine LR (λ_=>?_) (λz=>absurd z ht);walk_at"e";exact q
end
def uR(M:Wm):List (Option Int):=M.names.map λm=>QM M m.2.1 m.2.2
def jA(M:Wm):List (List (Option Int)):=heldOf M++[uR M]
def PL(X:Cs):Sp:=λvs H Q E=>∃wo,vs=[.ref wo]/\∃T s A M,s≠0/\WJ X H T s A M/\A.wo=wo/\M.hands.length<=1000/\M.names.length<=1000/\∀(l:Addr) (ls:List Addr) H',aX H H'->H l=none->H' l=some (.lst (ls.map V.ref))->ls.length=(jA M).length->(∀r∈ls,H r=none)->l∉ls->(∀(j:Nat) r x,ls[j]? =some r->(jA M)[j]? =some x->H' r=some (.lst (x.map oV)))->Q (.ref l) H'
section
variable {K:aB}{X:Cs}{H:Hp}{Q:VK}{E:XK}{n:St->Hp->Prop}{bk ct:St->Hp->Prop}
def Ztq{T:Tg}:∀{ns:List Addr}{names:List (Str×(Int×Int))}{i:Nat}{kv:L2.Key×V},Al (NmO H T) ns names->(BJ names ns)[i]? =some kv->∃t m,names[i]? =some m/\kv.2=.ref t/\H t=some (.tup [.int m.2.1,.int m.2.2])/\T t=(0,0)
 | [],[],i,kv,_,e=>by simp[BJ]at e
 | t::ns,m::names,0,kv,.cons h _,e=>by
  cases e;exact⟨t,m,rfl,rfl,h.2,h.1⟩
 | t::ns,m::names,i+1,kv,.cons _ h,e=>by
  obtain⟨t',m',e1,e2⟩:=Ztq h (i:=i) (kv:=kv) (by simpa[BJ]using e);exact⟨t',m',by simpa using e1,e2⟩
def Zmj{wo:Addr}(T:pZ K X)(q:∃T s A M,s≠0/\WJ X H T s A M/\A.wo=wo/\M.hands.length<=1000/\M.names.length<=1000/\∀(l:Addr) (ls:List Addr) H',aX H H'->H l=none->H' l=some (.lst (ls.map V.ref))->ls.length=(jA M).length->(∀r∈ls,H r=none)->l∉ls->(∀(j:Nat) r x,ls[j]? =some r->(jA M)[j]? =some x->H' r=some (.lst (x.map oV)))->Q (.ref l) H'):
  QV K (Zb1 X) (Et X) H ⟨n,Q,bk,ct⟩ [some (.ref wo)] H:=by
 obtain⟨Tg,s,A,M,h0,j,rfl,hh,hn,q⟩:=q;unfold QV;walk_at"e";refine⟨_,rfl,Tg,s,A,M,j,rfl,hh,λl1 ls1 H1 s1 nl1 ol1 hl1 nd1 nn1 ZI0 g1=>?_⟩;have j1:=j.same s1;obtain⟨dw,ow⟩:=j1.jb.ow;have om:=j1.jn.om;walk_at"e";refine aH ow T.cW T.nWn m7 ?_;refine⟨_,_,rfl,.inl om,λvv nvv=>?_⟩;have s2:=aL nvv (M6 vv A.nm);have g2:upd H1 vv (M6 vv A.nm) vv=some (M6 vv A.nm):=aq;generalize upd H1 vv (M6 vv A.nm)=H2 at s2 g2 ⊢;have j2:=j1.same s2;have om2:=j2.jn.om;refine⟨_,_,_,rfl,g2,om2,λo=>?_⟩;have lnm:(BJ M.names A.ns).length=M.names.length:=Znk j2.jn.nms;have w3:=j2.names (o:=.zp o (.dK (BJ M.names A.ns))) h0;have Zrp:∀b u,H2 b=some u->b≠A.nm->upd H2 A.nm (.zp o (.dK (BJ M.names A.ns))) b=some u:=λb u hb nb=>by rw[aC nb];exact hb
 have g3:upd H2 A.nm (.zp o (.dK (BJ M.names A.ns))) A.nm=some (.zp o (.dK (BJ M.names A.ns))):=aq;generalize upd H2 A.nm (.zp o (.dK (BJ M.names A.ns)))=H3 at w3 Zrp g3 ⊢;have nmn:∀t xs,H2 t=some (.tup xs)->t≠A.nm:=λt xs z=>qz z om2 (λy=>by cases y);refine Zis ?_;refine Zoc M.names.length (by omega) (λi y _=>∃m,M.names[i]? =some m/\y=oV (QM M m.2.1 m.2.2)) (λ_ _ _ _ h _=>h) (λH' s=>⟨s _ _ g3,by omega⟩) (λi H' hi s=>⟨s _ _ g3,by omega⟩) (λi x H4 H5 hi s4 y=>?_) ?_
 ·obtain⟨rfl,kv,ekv,rfl⟩:=y;obtain⟨t,m,em,et,ot,tt⟩:=Ztq j2.jn.nms ekv;refine⟨rfl,λq hq=>Be hq,λq hq=>?_⟩;have ot4:=s4 _ _ (Zrp _ _ ot (nmn _ _ ot));refine⟨t,_,_,_,by rw[et],gZ.of ot4,?_⟩;walk_at"c";walk_at"e";exact⟨_,_,_,rfl,Tg,s,A,M,w3.same s4,rfl,λH6 s6=>hq _ _ s6 ⟨m,em,rfl⟩⟩
 ·intro ys H4 s4 ly hy p np;have ey:ys=(uR M).map oV:=by
   refine List.ext_getElem? λi=>?_
   by_cases hi:i<ys.length
   ·obtain⟨m,e1,e2⟩:=hy i ys[i] (bL hi);rw[bL hi,e2];unfold uR;rw[cz,cz,e1];rfl
   ·rw[List.getElem?_eq_none (by omega),List.getElem?_eq_none];unfold uR;rw[aY,aY];omega
  subst ey;have g5:=s4 _ _ g3;have npn:p≠A.nm:=λz=>by rw[z,g5]at np;cases np
  refine⟨A.nm,o,_,by rw[aC npn.symm];exact g5,(λo' u z=>by rw[j.jn.om]at z;cases z),?_⟩;generalize hH5:upd (upd H4 p (.lst ((uR M).map oV))) A.nm (.dK (BJ M.names A.ns))=H5;have s25:aX H2 H5:=λb u hb=>by
   rw[<- hH5]
   by_cases z:b=A.nm
   ·subst z;rw[aq];rw[om2]at hb;exact hb
   ·have h3:=Zrp b u hb z;rw[aC z,aC (aG (s4 _ _ h3) np)];exact s4 _ _ h3
  have np2:H2 p=none:=by
   cases z:H2 p with
   | none=>rfl
   | some u=>
    have:=s4 _ _ (Zrp p u z npn);rw[np]at this;cases this
  have op5:H5 p=some (.lst ((uR M).map oV)):=by rw[<- hH5,aC npn];exact aq
  clear hH5;have s05:=s1.trans (s2.trans s25);have s15:=s2.trans s25;walk_at"e";refine⟨aV (by simp),λl2 nl2=>?_⟩;have s6:=aL nl2 (.lst [.ref p]);have g6:upd H5 l2 (.lst [.ref p]) l2=some (.lst [.ref p]):=aq;generalize upd H5 l2 (.lst [.ref p])=H6 at s6 g6 ⊢;refine⟨l1,l2,_,_,rfl,rfl,s6 _ _ (s15 _ _ ol1),g6,?_,λl3 nl3=>?_⟩
  ·rw[aY];have:(heldOf M).length=M.hands.length:=by unfold heldOf;rw[aY]
   exact aV (by simp;omega)
  have s7:=aL nl3 (.lst (ls1.map V.ref++[.ref p]));have s07:=s05.trans (s6.trans s7);have e7:ls1.map V.ref++[V.ref p]=(ls1++[p]).map V.ref:=by rw[List.map_append];rfl
  rw[e7]at s7 s07 ⊢;have fp:H p=none:=s1.free (s2.free np2);refine q l3 (ls1++[p]) _ s07 (s05.free (s6.free nl3)) aq ?_ (λr hr=>?_) (λhr=>?_) λk r x e1 e2=>?_
  ·unfold jA;rw[List.length_append,List.length_append,hl1];rfl
  ·rcases List.mem_append.mp hr with hr | hr
   ·exact nn1 r hr
   ·rw[List.mem_singleton.mp hr];exact fp
  ·rcases List.mem_append.mp hr with hr | hr
   ·obtain⟨k,hk,e⟩:=List.getElem_of_mem hr;have:=g1 k l3 (heldOf M)[k] (by rw[bL hk,e]) (bL (by omega));rw[s6 _ _ (s15 _ _ this)]at nl3;cases nl3
   ·rw[List.mem_singleton.mp hr,s6 _ _ op5]at nl3;cases nl3
  ·unfold jA at e2
   by_cases hk:k<ls1.length
   ·rw[List.getElem?_append_left hk]at e1;rw[List.getElem?_append_left (by omega)]at e2;exact s7 _ _ (s6 _ _ (s15 _ _ (g1 k r x e1 e2)))
   ·have hk2:=(dY e1).1;rw[List.length_append,List.length_singleton]at hk2;have ek:k=ls1.length:=by omega
    rw[List.getElem?_append_right (by omega)]at e1 e2;rw[ek,Nat.sub_self]at e1;rw[ek,hl1,Nat.sub_self]at e2;cases e1;cases e2;exact s7 _ _ (s6 _ _ op5)
end
namespace KB
abbrev Fd:=List (Option (List (Option Int)))
def fat(F:Fd)(p:Int):Option (List (Option Int)):=if 0<=p then(F[p.toNat]?).join else none
def nxt(F:Fd)(pl:Option Int)(f:Int):Option Int:=match pl with
 | none=>none
 | some p=>match fat F p with
  | none=>none
  | some fl=>if 0<=f then(fl[f.toNat]?).join else none
abbrev Rw:=List (List (Option Int))
def slt(R:Rw)(r s:Int):Option Int:=((R[r.toNat]?).bind λx=>x[s.toNat]?).join
def Zc5(F:Fd)(w:List Int)(x:Option Int×Nat):Option (Int×List Int):=match x.1 with
 | none=>none
 | some q=>if (fat F q).isSome then some (q,w++[(x.2:Int)])else none
def onw(F:Fd)(w:List Int)(n:Nat)(ps:List (Option Int)):List (Int×List Int):=(ps.zipIdx n).filterMap (Zc5 F w)
def q0(F:Fd)(n:Nat)(R:Rw):List (Int×List Int):=(R.zipIdx n).flatMap λx=>onw F [(x.2:Int)] 0 x.1
structure Good(F:Fd)(R:Rw)(p:Int)(w:List Int):Prop where
 ex:∃r s fs row,w=r::s::fs/\0<=r/\0<=s/\R[r.toNat]? =some row/\s.toNat<row.length/\(∀f∈fs,0<=f)/\fs.foldl (nxt F) (slt R r s)=some p
 there:(fat F p).isSome=true
def Px{F:Fd}{w:List Int}{n:Nat}{ps:List (Option Int)}{q:Int}{v:List Int}(h:(q,v)∈onw F w n ps):∃k,ps[k]? =some (some q)/\v=w++[((n+k:Nat):Int)]/\(fat F q).isSome=true:=by
 obtain⟨⟨x,m⟩,hm,e⟩:=List.mem_filterMap.mp h;obtain⟨hk1,hk2⟩:=List.mem_zipIdx_iff_le_and_getElem?_sub.mp hm;unfold Zc5 at e;cases x with
 | none=>cases e
 | some q'=>
  simp only at e;split at e
  ·rename_i hs
   cases e;refine⟨m - n,hk2,?_,hs⟩;have:n+(m - n)=m:=by have:=hk1;simp only at this;omega
   rw[this]
  ·cases e
def Zp2{F:Fd}{R:Rw}{p q:Int}{w v:List Int}{fl:List (Option Int)}(g:Good F R p w)(hf:fat F p=some fl)(h:(q,v)∈onw F w 0 fl):Good F R q v:=by
 obtain⟨k,hk,rfl,hs⟩:=Px h;obtain⟨⟨r,s,fs,row,rfl,h1,h2,h3,h4,h5,h6⟩,_⟩:=g;refine⟨⟨r,s,fs++[((0+k:Nat):Int)],row,rfl,h1,h2,h3,h4,λf hf=>?_,?_⟩,hs⟩
 ·rcases List.mem_append.mp hf with z | z
  ·exact h5 f z
  ·have:f=((0+k:Nat):Int):=by simpa using z
   omega
 ·rw[List.foldl_append,h6];show nxt F (some p) _=some q;unfold nxt;simp only[hf];rw[if_pos (by omega)];have:(((0+k:Nat):Int)).toNat=k:=by omega
  rw[this,hk];rfl
def Zsr{F:Fd}{R:Rw}{q:Int}{v:List Int}(h:(q,v)∈q0 F 0 R):Good F R q v:=by
 obtain⟨⟨row,n⟩,hm,h⟩:=List.mem_flatMap.mp h;have hr:R[n]? =some row:=List.mem_zipIdx_iff_getElem?.mp hm;obtain⟨k,hk,rfl,hs⟩:=Px h;refine⟨⟨(n:Int),((0+k:Nat):Int),[],row,rfl,by omega,by omega,by simpa using hr,?_,(λf hf=>by cases hf),?_⟩,hs⟩
 ·have:k<row.length:=(dY hk).1;omega
 ·show slt R _ _=some q;unfold slt;have e1:((n:Int)).toNat=n:=by omega
  have e2:(((0+k:Nat):Int)).toNat=k:=by omega
  rw[e1,e2,hr];simp only[Option.bind_some,hk,Option.join_some]
inductive Tn(F:Fd)(R:Rw):List (Int×List Int)->Nat->List (Int×List Int)->Prop
 | start:Tn F R (q0 F 0 R) 0 []
 | old {q k l p w}:Tn F R q k l->q[k]? =some (p,w)->p∈l.map (·.1)->Tn F R q (k+1) l
 | new {q k l p w fl}:Tn F R q k l->q[k]? =some (p,w)->p∉l.map (·.1)->fat F p=some fl->Tn F R (q++onw F w 0 fl) (k+1) (l++[(p,w)])
def Tn.good{F:Fd}{R:Rw}{q l:List (Int×List Int)}{k:Nat}(b:Tn F R q k l):(∀x∈q,Good F R x.1 x.2)/\∀x∈l,Good F R x.1 x.2:=by
 induction b with
 | start=>exact⟨λx hx=>Zsr hx,λx hx=>nomatch hx⟩
 | old _ _ _ ih=>exact ih
 | new b hq hn hf ih=>
  have g:=ih.1 _ (List.mem_of_getElem? hq);refine⟨λx hx=>?_,λx hx=>?_⟩
  ·rcases List.mem_append.mp hx with z | z
   ·exact ih.1 x z
   ·exact Zp2 g hf z
  ·rcases List.mem_append.mp hx with z | z
   ·exact ih.2 x z
   ·have z':=List.mem_singleton.mp z;rw[z'];exact g
def wgt:Option (List (Option Int))->Nat
 | none=>0
 | some fl=>fl.length
def Zer(F:Fd)(l:List (Int×List Int)):Nat:=((F.zipIdx).map λx=>if (x.2:Int)∈l.map (·.1)then 0 else wgt x.1).sum
def Zm9{α:Type}(f g:α->Nat):∀(xs:List α),(∀x∈xs,g x<=f x)->(xs.map g).sum<=(xs.map f).sum
 | [],_=>Nat.le_refl _
 | x::xs,h=>by
  have h1:=h x (by simp);have h2:=Zm9 f g xs λy hy=>h y (by simp[hy]);simp only[List.map_cons,List.sum_cons];omega
def Zbi{α:Type}(f g:α->Nat)(d:Nat):∀(xs:List α) (a:α),a∈xs->(∀x∈xs,g x<=f x)->g a+d<=f a->(xs.map g).sum+d<=(xs.map f).sum
 | [],_,h,_,_=>nomatch h
 | x::xs,a,ha,h,hd=>by
  have h1:=h x (by simp);have h2:=Zm9 f g xs λy hy=>h y (by simp[hy]);simp only[List.map_cons,List.sum_cons];rcases List.mem_cons.mp ha with z | z
  ·subst z;omega
  ·have h3:=Zbi f g d xs a z (λy hy=>h y (by simp[hy])) hd;omega
def Pn{F:Fd}{w:List Int}{n:Nat}{ps:List (Option Int)}:(onw F w n ps).length<=ps.length:=by
 unfold onw;have:=List.length_filterMap_le (Zc5 F w) (ps.zipIdx n);rw[List.length_zipIdx]at this;exact this
def Zm0{F:Fd}{l:List (Int×List Int)}{p:Int}{w:List Int}{fl:List (Option Int)}(hn:p∉l.map (·.1))(hf:fat F p=some fl):Zer F (l++[(p,w)])+fl.length<=Zer F l:=by
 unfold fat at hf;split at hf
 ·rename_i h0
  have hp:F[p.toNat]? =some (some fl):=by
   cases e:F[p.toNat]? with
   | none=>rw[e]at hf;cases hf
   | some x=>rw[e]at hf;simp only[Option.join_some]at hf;rw[hf]
  unfold Zer;refine Zbi _ _ fl.length _ (some fl,p.toNat) (List.mem_zipIdx_iff_getElem?.mpr hp) (λx _=>?_) ?_
  ·simp only[List.map_append,List.map_cons,List.map_nil,List.mem_append]
   by_cases h1:(x.2:Int)∈l.map (·.1)
   ·simp only[h1,true_or,↓reduceIte,Nat.le_refl]
   ·simp only[h1,false_or];split
    ·exact Nat.zero_le _
    ·exact Nat.le_refl _
  ·have e:((p.toNat:Nat):Int)=p:=by omega
   simp only[List.map_append,List.map_cons,List.map_nil,List.mem_append,e];rw[if_pos (.inr (by simp)),if_neg hn];show 0+fl.length<=wgt (some fl);show 0+fl.length<=fl.length;omega
 ·cases hf
def total(F:Fd)(R:Rw):Nat:=(q0 F 0 R).length+Zer F []
def Tn.bound{F:Fd}{R:Rw}{q l:List (Int×List Int)}{k:Nat}(b:Tn F R q k l):q.length+Zer F l<=total F R:=by
 induction b with
 | start=>exact Nat.le_refl _
 | old _ _ _ ih=>exact ih
 | new b hq hn hf ih=>
  have h2:=@Pn F;rw[List.length_append];refine Nat.le_trans ?_ ih
  rename_i w fl
  have h3:=h2 (w:=w) (n:=0) (ps:=fl);have h4:=Zm0 (w:=w) hn hf;omega
end KB
def Zt8(cs:List V)(i:Int):V:=if 0<=i then(cs[i.toNat]?).getD .non else .non
def CO(CC:Addr)(H:Hp)(cs:List V)(i:Nat):Option (List (Option Int))->Prop
 | none=>cs[i]? =some .non
 | some fl=>∃p fa b u t l,cs[i]? =some (.ref p)/\zm CC H p fa b u t l (fl.map oV)
structure HV(CC CH:Addr)(H:Hp)(hp:Addr)(F:KB.Fd):Prop where
 ex:∃ca room used born cs,HpO CH H hp ca room used born cs/\cs.length=F.length/\∀(i:Nat) x,F[i]? =some x->CO CC H cs i x
def HpO.same{CH:Addr}{H H':Hp}{hp ca:Addr}{room used born:Int}{cs:List V}(h:HpO CH H hp ca room used born cs)(s:aX H H'):HpO CH H' hp ca room used born cs:=by
 obtain⟨⟨dx,h1⟩,h2⟩:=h;exact⟨⟨dx,s _ _ h1⟩,s _ _ h2⟩
def CO.same{CC:Addr}{H H':Hp}{cs:List V}{i:Nat}{x:Option (List (Option Int))}(h:CO CC H cs i x)(s:aX H H'):CO CC H' cs i x:=by
 cases x with
 | none=>exact h
 | some fl=>
  obtain⟨p,fa,b,u,t,l,e,c⟩:=h;exact⟨p,fa,b,u,t,l,e,c.same s⟩
def HV.same{CC CH:Addr}{H H':Hp}{hp:Addr}{F:KB.Fd}(h:HV CC CH H hp F)(s:aX H H'):HV CC CH H' hp F:=by
 obtain⟨ca,room,used,born,cs,o,l,e⟩:=h;exact⟨ca,room,used,born,cs,o.same s,l,λi x hx=>(e i x hx).same s⟩
def Zpe{CC:Addr}{H:Hp}{cs:List V}{F:KB.Fd}(hl:cs.length=F.length)(e:∀(i:Nat) x,F[i]? =some x->CO CC H cs i x)(i:Int):
  (KB.fat F i=none/\Zt8 cs i=.non)\/∃fl p fa b u t l,KB.fat F i=some fl/\Zt8 cs i=.ref p/\cs[i.toNat]? =some (.ref p)/\0<=i/\zm CC H p fa b u t l (fl.map oV):=by
 unfold KB.fat Zt8
 by_cases h0:0<=i
 ·simp only[h0,↓reduceIte];cases hf:F[i.toNat]? with
  | none=>
   have:cs[i.toNat]? =none:=by rw[List.getElem?_eq_none_iff]at hf ⊢;omega
   exact .inl ⟨rfl,by rw[this];rfl⟩
  | some x=>
   have c:=e _ _ hf;cases x with
   | none=>exact .inl ⟨rfl,by rw[show cs[i.toNat]? =some V.non from c];rfl⟩
   | some fl=>
    obtain⟨p,fa,b,u,t,l,e1,c1⟩:=c;exact .inr ⟨fl,p,fa,b,u,t,l,rfl,by rw[e1];rfl,e1,trivial,c1⟩
 ·simp only[h0,↓reduceIte];exact .inl ⟨trivial,trivial⟩
def Hi(H:Hp):List Addr->List (Int×List Int)->Prop
 | [],[]=>True
 | t::ts,x::qs=>(∃a,H t=some (.tup [.int x.1,.ref a])/\H a=some (.tup (x.2.map V.int)))/\Hi H ts qs
 | _,_=>False
def Hi.same{H H':Hp}(s:aX H H'):∀{ts:List Addr}{qs:List (Int×List Int)},Hi H ts qs->Hi H' ts qs
 | [],[],_=>trivial
 | [],_::_,h=>h.elim
 | _::_,[],h=>h.elim
 | _::_,_::_,⟨⟨a,h1,h2⟩,h3⟩=>⟨⟨a,s _ _ h1,s _ _ h2⟩,Hi.same s h3⟩
def Hi.app{H:Hp}:∀{ts us:List Addr}{qs rs:List (Int×List Int)},Hi H ts qs->Hi H us rs->Hi H (ts++us) (qs++rs)
 | [],_,[],_,_,h=>h
 | [],_,_::_,_,h,_=>h.elim
 | _::_,_,[],_,h,_=>h.elim
 | _::_,_,_::_,_,⟨h1,h3⟩,h=>⟨h1,Hi.app h3 h⟩
def Hi.len{H:Hp}:∀{ts:List Addr}{qs:List (Int×List Int)},Hi H ts qs->ts.length=qs.length
 | [],[],_=>rfl
 | [],_::_,h=>h.elim
 | _::_,[],h=>h.elim
 | _::_,_::_,⟨_,h3⟩=>by rw[List.length_cons,List.length_cons,Hi.len h3]
def Hi.at{H:Hp}:∀{ts:List Addr}{qs:List (Int×List Int)}{i:Nat}{x:Int×List Int},Hi H ts qs->qs[i]? =some x->∃t a,ts[i]? =some t/\H t=some (.tup [.int x.1,.ref a])/\H a=some (.tup (x.2.map V.int))
 | [],[],_,_,_,e=>by simp at e
 | [],_::_,_,_,h,_=>h.elim
 | _::_,[],_,_,h,_=>h.elim
 | t::_,_::_,0,_,⟨⟨a,h1,h2⟩,_⟩,e=>by cases e;exact⟨t,a,rfl,h1,h2⟩
 | _::_,_::_,i+1,_,⟨_,h3⟩,e=>Hi.at (i:=i) h3 e
def Ed(K:aB)(CC CH:Addr):Sp:=λvs H Q E=>∃hp a wt F ps w,vs=[.ref hp,.ref a,.ref wt]/\HV CC CH H hp F/\cL K H a (ps.map oV)/\gZ K H wt (w.map V.int)/\w≠[]/\w.length<=100000/\ps.length<=1000/\
 ∀l ts H',H l=none->aX H H'->H' l=some (.lst (ts.map V.ref))->Hi H' ts (KB.onw F w 0 ps)->Q (.ref l) H'
def Hf(K:aB)(H:Hp):List Addr->KB.Rw->Prop
 | [],[]=>True
 | a::as,r::R=>cL K H a (r.map oV)/\Hf K H as R
 | _,_=>False
def Hf.same{K:aB}{H H':Hp}(s:aX H H'):∀{as:List Addr}{R:KB.Rw},Hf K H as R->Hf K H' as R
 | [],[],_=>trivial
 | [],_::_,h=>h.elim
 | _::_,[],h=>h.elim
 | _::_,_::_,⟨h1,h3⟩=>⟨s.seq h1,Hf.same s h3⟩
def Hf.len{K:aB}{H:Hp}:∀{as:List Addr}{R:KB.Rw},Hf K H as R->as.length=R.length
 | [],[],_=>rfl
 | [],_::_,h=>h.elim
 | _::_,[],h=>h.elim
 | _::_,_::_,⟨_,h3⟩=>by rw[List.length_cons,List.length_cons,Hf.len h3]
def Hf.at{K:aB}{H:Hp}:∀{as:List Addr}{R:KB.Rw}{i:Nat}{a:Addr},Hf K H as R->as[i]? =some a->∃r,R[i]? =some r/\cL K H a (r.map oV)
 | [],[],_,_,_,e=>by simp at e
 | [],_::_,_,_,h,_=>h.elim
 | _::_,[],_,_,h,_=>h.elim
 | _::_,r::_,0,_,⟨h1,_⟩,e=>by cases e;exact⟨r,rfl,h1⟩
 | _::_,_::_,i+1,_,⟨_,h3⟩,e=>Hf.at (i:=i) h3 e
structure Few(F:KB.Fd)(R:KB.Rw):Prop where
 f:F.length<=1000
 g:∀p fl,KB.fat F p=some fl->fl.length<=1000
 r:R.length<=1000
 s:∀x∈R,x.length<=1000
 t:KB.total F R<=90000
def Eu(K:aB)(CC CH:Addr):Sp:=λvs H Q E=>∃hp ra F rs R,vs=[.ref hp,.ref ra]/\HV CC CH H hp F/\cL K H ra (rs.map V.ref)/\Hf K H rs R/\Few F R/\
 ∀l ts q qs H',KB.Tn F R q q.length qs->H l=none->aX H H'->H' l=some (.lst (ts.map V.ref))->Hi H' ts qs->Q (.ref l) H'
def Zyt{CC CH hp:Addr}{H:Hp}{Q:VK}{E:XK}{pl:Option Int}{F:KB.Fd}(v:HV CC CH H hp F)(q1:pl.bind (KB.fat F)=none->Q .non H)(q2:∀fl p fa b u t l,pl.bind (KB.fat F)=some fl->zm CC H p fa b u t l (fl.map oV)->Q (.ref p) H):dX CH [.ref hp,oV pl] H Q E:=by
 obtain⟨ca,room,used,born,cs,o,hl,he⟩:=v;refine⟨hp,oV pl,rfl,yQ pl,ca,room,used,born,cs,o,?_⟩;cases pl with
 | none=>exact q1 rfl
 | some i=>
  show Q (Zt8 cs i) H;rcases Zpe hl he i with ⟨e1,e2⟩ | ⟨fl,p,fa,b,u,t,l,e1,e2,_,_,c⟩
  ·rw[e2];exact q1 e1
  ·rw[e2];exact q2 fl p fa b u t l e1 c
def Zc4(F:KB.Fd)(w:List Int)(n:Nat)(ps:List (Option Int))(x:Option Int):KB.onw F w n (ps++[x])=KB.onw F w n ps++(KB.Zc5 F w (x,n+ps.length)).toList:=by
 unfold KB.onw;rw[List.zipIdx_append,List.filterMap_append];congr 1
def take_snoc{α:Type}{xs:List α}{i:Nat}{x:α}(h:xs[i]? =some x):xs.take (i+1)=xs.take i++[x]:=by
 rw[List.take_add_one,h];rfl
def mz{H:Hp}{a:Addr}{o:HO}(h:H a=none):aX H (upd H a o):=λb u q=>by rw[aC (aG q h)];exact q
section
variable {K:aB}{bz bh bR:Addr}{H:Hp}{Q:VK}{E:XK}{n:St->Hp->Prop}{bk ct:St->Hp->Prop}
def Zg8{hp a wt:Addr}{F:KB.Fd}{ps:List (Option Int)}{w:List Int}(v:HV bz bh H hp F)(ha:cL K H a (ps.map oV))(hw:gZ K H wt (w.map V.int))(hne:w≠[])(hwl:w.length<=100000)(hpl:ps.length<=1000)
  (Zuf:∀{H':Hp},aX H H'->gZ K H' wt (w.map V.int))
  (q:∀l ts H',H l=none->aX H H'->H' l=some (.lst (ts.map V.ref))->Hi H' ts (KB.onw F w 0 ps)->Q (.ref l) H'):
  El K (dX bh) ⟨n,Q,bk,ct⟩ [some (.ref hp),some (.ref a),some (.ref wt)] H:=by
 unfold El;walk_at"e";refine⟨a,rfl,⟨_,ha⟩,Zrw ha (by rw[aY];omega) (λi ys H1=>aX H H1/\i<=ps.length/\∃ts,ys=ts.map V.ref/\Hi H1 ts (KB.onw F w 0 (ps.take i))) ⟨aX.refl _,Nat.zero_le _,[],rfl,trivial⟩ ?_ ?_ ?_⟩
 ·rintro i ys H1 ⟨sm,hi,ts,rfl,qa⟩;refine⟨sm,?_⟩;rw[aY,qa.len];refine Nat.le_trans KB.Pn ?_;rw[List.length_take];omega
 ·rintro i x ys H1 t C hC hx ⟨sm,hi,ts,rfl,qa⟩ ht;walk_at"c";rw[cz]at hx;obtain⟨y,hy,rfl⟩:=Option.map_eq_some_iff.mp hx;have hil:i<ps.length:=(dY hy).1;have hn0:0+(ps.take i).length=i:=by rw[List.length_take];omega
  have s1:aX H1 (upd H1 t (.tup [.int i,oV y])):=mz ht;have sm1:=sm.trans s1;walk_at"e";refine Zyt (v.same sm1) (λe=>?_) (λfl p fa b u t' l e c=>?_)
  ·refine Zh5 ?_;walk_at"e";refine Zs4 (hC _ _ ⟨sm1,hil,ts,rfl,?_⟩);rw[take_snoc hy,Zc4,hn0];have e1:KB.Zc5 F w (y,i)=none:=by
    unfold KB.Zc5;cases y with
    | none=>rfl
    | some q'=>simp only;rw[show KB.fat F q'=none from e];rfl
   rw[e1];simp only[Option.toList_none,List.append_nil];exact qa.same s1
  ·refine Zh5 ?_;walk_at"e";refine Zh1 ?_;obtain⟨q',rfl⟩:∃q',y=some q':=by
    cases y with
    | none=>cases e
    | some q'=>exact⟨q',rfl⟩
   have e':KB.fat F q'=some fl:=e;walk_at"e";refine⟨(by show 1<=sizeLine;decide),λt2 ht2=>?_⟩;have s2:=s1.trans (mz (o:=.tup [.int i]) ht2);refine⟨wt,t2,w.map V.int,[.int i],rfl,rfl,Zuf (sm.trans s2),gZ.of aq,by simpa using hne,by rw[aY];exact aV (by simp only[List.length_cons,List.length_nil];omega),(λz=>nomatch z),(λ_ t3 ht3=>?_)⟩;have s3:=s2.trans (mz (o:=.tup (w.map V.int++[.int i])) ht3);walk_at"e";refine⟨(by show 2<=sizeLine;decide),λt4 ht4=>?_⟩;have s4:=s3.trans (mz (o:=.tup [oV (some q'),.ref t3]) ht4);have n34:t3≠t4:=aG aq ht4;have h3:upd (upd (upd (upd H1 t (.tup [.int i,oV (some q')])) t2 (.tup [.int i])) t3 (.tup (w.map V.int++[.int i]))) t4 (.tup [oV (some q'),.ref t3]) t3=some (.tup (w.map V.int++[.int i])):=by
    rw[aC n34,aq]
   walk_at"e";refine hC _ _ ⟨sm.trans s4,hil,ts++[t4],by simp,?_⟩;rw[take_snoc hy,Zc4,hn0];have e1:KB.Zc5 F w (some q',i)=some (q',w++[(i:Int)]):=by
    unfold KB.Zc5;simp only[e',Option.isSome_some,↓reduceIte]
   rw[e1];refine(qa.same s4).app ⟨⟨t3,aq,?_⟩,trivial⟩;rw[h3,List.map_append];rfl
 ·rintro ys H1 ⟨sm,_,ts,rfl,qa⟩ l hl;walk_at"e";rw[aY,List.take_length]at qa;exact q l ts _ (sm.free hl) (sm.trans (mz hl)) aq (qa.same (mz hl))
end
def Zuf{K:aB}{H H':Hp}{a:Addr}{xs:List V}(e:aX H H')(h:gZ K H a xs):gZ K H' a xs:=by
 rcases h with (h | ⟨o,h⟩) | h
 ·exact .inl (.inl (e _ _ h))
 ·exact .inl (.inr ⟨o,e _ _ h⟩)
 ·exact .inr h
def TK(H H':Hp):Prop:=∀b xs,H b=some (.tup xs)->H' b=some (.tup xs)
def TK.same{H H':Hp}(s:aX H H'):TK H H':=λb _ h=>s b _ h
def TK.upd{H:Hp}{a:Addr}{o:HO}(h:∀xs,H a≠some (.tup xs)):TK H (L2.upd H a o):=λb xs q=>by
 have n:b≠a:=λz=>h xs (by rw[<- z];exact q);rw[aC n];exact q
def TK.trans{H H1 H2:Hp}(a:TK H H1)(b:TK H1 H2):TK H H2:=λc xs h=>b c xs (a c xs h)
def Hi.tk{H H':Hp}(s:TK H H'):∀{ts:List Addr}{qs:List (Int×List Int)},Hi H ts qs->Hi H' ts qs
 | [],[],_=>trivial
 | [],_::_,h=>h.elim
 | _::_,[],h=>h.elim
 | _::_,_::_,⟨⟨a,h1,h2⟩,h3⟩=>⟨⟨a,s _ _ h1,s _ _ h2⟩,Hi.tk s h3⟩
def Xx(H:Hp):List (Key×V)->List (Int×List Int)->Prop
 | [],[]=>True
 | kv::kvs,x::qs=>(kv.1=Sum.inl x.1/\∃a,kv.2=.ref a/\H a=some (.tup (x.2.map V.int)))/\Xx H kvs qs
 | _,_=>False
def Xx.tk{H H':Hp}(s:TK H H'):∀{kvs:List (Key×V)}{qs:List (Int×List Int)},Xx H kvs qs->Xx H' kvs qs
 | [],[],_=>trivial
 | [],_::_,h=>h.elim
 | _::_,[],h=>h.elim
 | _::_,_::_,⟨⟨h0,a,h1,h2⟩,h3⟩=>⟨⟨h0,a,h1,s _ _ h2⟩,Xx.tk s h3⟩
def Xx.app{H:Hp}:∀{ks ls:List (Key×V)}{qs rs:List (Int×List Int)},Xx H ks qs->Xx H ls rs->Xx H (ks++ls) (qs++rs)
 | [],_,[],_,_,h=>h
 | [],_,_::_,_,h,_=>h.elim
 | _::_,_,[],_,h,_=>h.elim
 | _::_,_,_::_,_,⟨h1,h3⟩,h=>⟨h1,Xx.app h3 h⟩
def Xx.len{H:Hp}:∀{ts:List (Key×V)}{qs:List (Int×List Int)},Xx H ts qs->ts.length=qs.length
 | [],[],_=>rfl
 | [],_::_,h=>h.elim
 | _::_,[],h=>h.elim
 | _::_,_::_,⟨_,h3⟩=>by rw[List.length_cons,List.length_cons,Xx.len h3]
def Xx.val{H:Hp}(p:Int):∀{kvs:List (Key×V)}{qs:List (Int×List Int)},Xx H kvs qs->(nP kvs (Sum.inl p)).isSome=decide (p∈qs.map (·.1))
 | [],[],_=>by simp[nP]
 | [],_::_,h=>h.elim
 | _::_,[],h=>h.elim
 | kv::kvs,x::qs,⟨⟨h0,_⟩,h3⟩=>by
  by_cases e:x.1=p
  ·rw[nj (by rw[h0,e])];simp[e]
  ·rw[nA (by rw[h0];exact λz=>e (Sum.inl.inj z)),Xx.val p h3];simp only[List.map_cons,List.mem_cons];have e':¬ p=x.1:=λz=>e z.symm;simp only[e',false_or]
def Xx.prs{H:Hp}:∀{ts:List Addr}{kvs:List (Key×V)}{qs:List (Int×List Int)},Xx H kvs qs->Ze8 H ts kvs->Hi H ts qs
 | [],[],[],_,_=>trivial
 | _,[],_::_,h,_=>h.elim
 | _,_::_,[],h,_=>h.elim
 | [],_::_,_::_,_,h=>h.elim
 | _::_,[],[],_,h=>h.elim
 | t::ts,kv::kvs,x::qs,⟨⟨h0,a,h1,h2⟩,h3⟩,⟨p1,p2⟩=>⟨⟨a,by rw[p1,h0,h1];rfl,h2⟩,Xx.prs h3 p2⟩
def Zqq(F:KB.Fd)(R:KB.Rw)(i:Nat)(r:List (Option Int))(h:R[i]? =some r):KB.q0 F 0 (R.take (i+1))=KB.q0 F 0 (R.take i)++KB.onw F [(i:Int)] 0 r:=by
 unfold KB.q0;rw[take_snoc h,List.zipIdx_append,List.flatMap_append];have hl:(R.take i).length=i:=by
  have:=(dY h).1;rw[List.length_take];omega
 rw[hl];simp only[List.zipIdx_cons,List.zipIdx_nil,List.flatMap_cons,List.flatMap_nil,List.append_nil,Nat.zero_add]
structure RS(K:aB)(CC CH:Addr)(H0 H:Hp)(ql d:Addr)(F:KB.Fd)(R:KB.Rw)(q qs:List (Int×List Int))(k:Nat):Prop where
 sm:aX H0 H
 nq:H0 ql=none
 b:KB.Tn F R q k qs
 hk:k<=q.length
 oq:∃ts,H ql=some (.lst (ts.map V.ref))/\Hi H ts q
 od:∃kvs,H d=some (.dK kvs)/\Xx H kvs qs
 nd:H0 d=none
def Zo5{H:Hp}{a:Addr}{xs:List V}{o:HO}(h:H a=some (.lst xs)):TK H (upd H a o):=TK.upd λys z=>by rw[h]at z;cases z
def Zyp{H:Hp}{a:Addr}{xs:List (Key×V)}{o:HO}(h:H a=some (.dK xs)):TK H (upd H a o):=TK.upd λys z=>by rw[h]at z;cases z
def QD{H0 H:Hp}{a:Addr}{o:HO}(s:aX H0 H)(h:H0 a=none):aX H0 (upd H a o):=λb u q=>by rw[aC (aG q h)];exact s b u q
def Zti{F:KB.Fd}{R:KB.Rw}{q l:List (Int×List Int)}{k:Nat}(b:KB.Tn F R q k l):l.length<=k:=by
 induction b with
 | start=>exact Nat.le_refl _
 | old _ _ _ ih=>omega
 | new _ _ _ _ ih=>rw[List.length_append];simp only[List.length_cons,List.length_nil];omega
def Zq0{F:KB.Fd}{R:KB.Rw}{q l:List (Int×List Int)}{k:Nat}(b:KB.Tn F R q k l):∀x∈q,x.2.length<=k+2:=by
 induction b with
 | start=>
  intro x hx;obtain⟨⟨row,n⟩,hm,h⟩:=List.mem_flatMap.mp hx;obtain⟨j,_,e,_⟩:=KB.Px (q:=x.1) (v:=x.2) h;rw[e];simp
 | old _ _ _ ih=>intro x hx;have:=ih x hx;omega
 | new b hq _ _ ih=>
  intro x hx;rcases List.mem_append.mp hx with z | z
  ·have:=ih x z;omega
  ·obtain⟨j,_,e,_⟩:=KB.Px (q:=x.1) (v:=x.2) z;have:=ih _ (List.mem_of_getElem? hq);rw[e,List.length_append];simp only[List.length_cons,List.length_nil];simp only at this;omega
def Zun(F:KB.Fd):∀(R S:KB.Rw) (n:Nat),(KB.q0 F n R).length<=(KB.q0 F n (R++S)).length:=λR S n=>by
 unfold KB.q0;rw[List.zipIdx_append,List.flatMap_append,List.length_append];omega
def Zqp(F:KB.Fd)(R:KB.Rw)(i:Nat):(KB.q0 F 0 (R.take i)).length<=KB.total F R:=by
 have:=Zun F (R.take i) (R.drop i) 0;rw[List.take_append_drop]at this;unfold KB.total;omega
section
variable {K:aB}{bz bh bR:Addr}{H:Hp}{Q:VK}{E:XK}{n:St->Hp->Prop}{bk ct:St->Hp->Prop}
def Zbu{hp ra:Addr}{F:KB.Fd}{rs:List Addr}{R:KB.Rw}{v2 v3 v4 v5 v6 v7 v8:Option V}(T:TxC K bz bh)(v:HV bz bh H hp F)(hr:cL K H ra (rs.map V.ref))(rw':Hf K H rs R)(fw:Few F R)
  (q:∀l ts q qs H',KB.Tn F R q q.length qs->H l=none->aX H H'->H' l=some (.lst (ts.map V.ref))->Hi H' ts qs->Q (.ref l) H'):
  zR K (Ed K bz bh) ⟨n,Q,bk,ct⟩ [some (.ref hp),some (.ref ra),v2,v3,v4,v5,v6,v7,v8] H:=by
 have hrl:=rw'.len;have f1:=fw.r;unfold zR;walk_at"e";refine⟨(by show 0<=sizeLine;decide),λql hql=>?_⟩;walk_at"e";refine⟨ra,rfl,⟨_,(mz hql).seq hr⟩,Zyi (rs.map V.ref) (λi σ Hx=>i<=rs.length/\aX H Hx/\(∃ts,Hx ql=some (.lst (ts.map V.ref))/\Hi Hx ts (KB.q0 F 0 (R.take i)))/\∃x y,σ=[some (.ref hp),some (.ref ra),some (.ref ql),x,y,v5,v6,v7,v8])
  ⟨Nat.zero_le _,mz hql,⟨[],aq,trivial⟩,_,_,rfl⟩ (λi σ Hx _ ⟨_,sm,_⟩=>sm.seq hr) ?_ ?_⟩
 ·rintro i x t σ Hx hx ⟨hi,sm,⟨ts,hts,qa⟩,y,z,rfl⟩ ht;rw[cz]at hx;obtain⟨r,er,rfl⟩:=Option.map_eq_some_iff.mp hx;obtain⟨row,eR,hrow⟩:=rw'.at er;have hil:i<rs.length:=(dY er).1;have s1:=mz (o:=.tup [.int i,.ref r]) ht;refine⟨t,_,rfl,gZ.of aq,rfl,.int i,_,rfl,?_⟩;walk_at"e";refine⟨.ref r,_,rfl,?_⟩;walk_at"e";refine⟨rfl,?_⟩;walk_at"e";refine⟨.inl ⟨rfl,_,cL.of (s1 _ _ hts)⟩,?_⟩;walk_at"e";refine⟨(by show 1<=sizeLine;decide),λt2 ht2=>?_⟩;have s2:=s1.trans (mz (o:=.tup [.int i]) ht2);walk_at"e";refine⟨hp,r,t2,F,row,[(i:Int)],rfl,v.same (sm.trans s2),(sm.trans s2).seq hrow,gZ.of aq,(λz=>nomatch z),(by show 1<=100000;decide),fw.s _ (List.mem_of_getElem? eR),λl us H' hl s3 hl' qa'=>?_⟩;have s4:=s2.trans s3;have hq':H' ql=some (.lst (ts.map V.ref)):=s4 _ _ hts;walk_at"e";have hlen:ts.length<=100000:=by
   rw[qa.len];exact Nat.le_trans (Nat.le_trans (Zqp F R i) fw.t) (by decide)
  have hlen2:us.length<=1000:=by
   rw[qa'.len];exact Nat.le_trans KB.Pn (fw.s _ (List.mem_of_getElem? eR))
  refine⟨ql,l,_,_,rfl,rfl,hq',hl',by rw[aY,aY];exact aV (by omega),?_⟩;walk_at"e";refine⟨hil,QD (sm.trans s4) hql,⟨ts++us,by rw[aq,List.map_append],?_⟩,_,_,rfl⟩;rw[Zqq F R i row eR];exact((qa.same s4).app qa').tk (Zo5 hq')
 ·rintro σ Hx ⟨hi,sm,⟨ts,hts,qa⟩,y,z,rfl⟩;rw[aY,hrl,List.take_length]at qa;walk_at"e";intro d hd;walk_at"e";have ndq:d≠ql:=λe=>by rw[e,hts]at hd;cases hd
  refine⟨λm σ Hx=>∃q qs k x y v7 v8,m=KB.total F R - k/\σ=[some (.ref hp),some (.ref ra),some (.ref ql),x,y,some (.ref d),some (.int (k:Nat)),v7,v8]/\RS K bz bh H Hx ql d F R q qs k,⟨_,KB.q0 F 0 R,[],0,_,_,_,_,rfl,rfl,?_⟩,?_⟩
  ·exact⟨sm.trans (mz hd),hql,.start,Nat.zero_le _,⟨ts,by rw[aC ndq.symm];exact hts,qa.same (mz hd)⟩,⟨[],aq,trivial⟩,sm.free hd⟩
  ·rintro m σ Hy ⟨q',qs,k,x,y,v7,v8,rfl,rfl,rs'⟩;obtain⟨sm',nq,b,hk,⟨ts,hts,qa⟩,⟨kvs,hkv,la⟩,nd⟩:=rs';have hlq:=qa.len;walk_at"e";refine jt (cL.of hts) ?_;walk_at"e";have hb:=b.bound;refine vO (λz=>?_) (λz=>?_)
   ·rw[aY]at z;have hkq:k<q'.length:=by omega
    have hq:q'[k]? =some q'[k]:=bL hkq;obtain⟨t,a,et,ht,hat⟩:=qa.at hq;generalize hx:q'[k]=pw at hq ht hat;obtain⟨p,w⟩:=pw;refine⟨λσ' H'=>∃q2 qs2 x y v7 v8,σ'=[some (.ref hp),some (.ref ra),some (.ref ql),x,y,some (.ref d),some (.int ((k:Int)+1)),v7,v8]/\RS K bz bh H H' ql d F R q2 qs2 (k+1),?_,?_⟩
    ·rintro σ' H' ⟨q2,qs2,x,y,v7,v8,rfl,r2⟩;exact⟨KB.total F R - (k+1),by omega,q2,qs2,k+1,x,y,v7,v8,rfl,by rw[show((k+1:Nat):Int)=(k:Int)+1 from by omega],r2⟩
    have hix:Xw (ts.map V.ref) ((k:Nat):Int)=some (.ref t):=iB (by rw[cz,et];rfl);walk_at"e";refine ji (cL.of hts) hix ?_;walk_at"e";refine⟨t,_,0,.int p,rfl,rfl,gZ.of ht,qM (by decide) rfl,?_⟩;walk_at"e";refine ji (cL.of hts) hix ?_;walk_at"e";refine⟨t,_,1,.ref a,rfl,rfl,gZ.of ht,qM (by decide) rfl,?_⟩;walk_at"e";refine⟨d,kvs,_,rfl,.inl hkv,rfl,?_⟩;walk_at"e";have gd:=b.good.1 _ (List.mem_of_getElem? hq);refine Zvj (λy=>?_) (λy=>?_)
    ·have hno:nP kvs (Sum.inl p)=none:=by
      cases e:nP kvs (Sum.inl p)with
      | none=>rfl
      | some _=>rw[e]at y;simp at y
     have hnp:p∉qs.map (·.1):=by
      have:=la.val p;rw[hno]at this;simpa using this
     obtain⟨fl,hfl⟩:∃fl,KB.fat F p=some fl:=Option.isSome_iff_exists.mp gd.there;walk_at"e";refine⟨d,_,rfl,V7.k (k:=Sum.inl p) hkv ?_,?_⟩
     ·have h2:=la.len;have h3:=Zti b;have h4:=fw.t;exact Nat.lt_of_le_of_lt (show kvs.length<=1000000 by omega) (show 1000000<sizeLine by decide)
     rw[Zmr _ hno];have nd':ql≠d:=qz hts hkv (λz=>by cases z);have s1:aX H (upd Hy d (.dK (kvs++[(Sum.inl p,.ref a)]))):=QD sm' nd;have k1:TK Hy (upd Hy d (.dK (kvs++[(Sum.inl p,.ref a)]))):=Zyp hkv;have q1:upd Hy d (.dK (kvs++[(Sum.inl p,.ref a)])) ql=some (.lst (ts.map V.ref)):=(aC nd').trans hts;walk_at"e";refine⟨.inl ⟨rfl,_,cL.of q1⟩,?_⟩;walk_at"e";obtain⟨ca,room,used,born,cs,ho,hl,he⟩:=(v.same s1).ex;have ho':=ho;obtain⟨⟨dx,o1⟩,o2⟩:=ho';refine aH o1 T.cN T.bM bT ?_;walk_at"e";rcases Zpe hl he p with ⟨e1,_⟩ | ⟨fl',p',fa,b',u,t',l,e1,_,e3,e4,c⟩
     ·rw[hfl]at e1;cases e1
     rw[hfl]at e1;cases e1;refine ji (cL.of o2) (qM e4 e3) ?_;obtain⟨⟨dc,c1⟩,c2⟩:=c;refine aH c1 T.cZ T.eX lD ?_;walk_at"e";have hw:=Zq0 b _ (List.mem_of_getElem? hq);have hgt:=fw.t;refine⟨hp,fa,a,F,fl,w,rfl,v.same s1,cL.of c2,gZ.of (k1 _ _ hat),?_,?_,fw.g p fl hfl,λl2 us H2 hl2 s2 hl2' qa2=>?_⟩
     ·obtain⟨r0,s0,fs0,_,e0,_⟩:=gd.ex;intro z;rw[show w=(p,w).2 from rfl,e0]at z;cases z
     ·simp only at hw;omega
     have hq2:H2 ql=some (.lst (ts.map V.ref)):=s2 _ _ q1;have hd2:H2 d=some (.dK (kvs++[(Sum.inl p,.ref a)])):=s2 _ _ aq;have k2:=k1.trans (TK.same s2);have k3:TK H2 (upd H2 ql (.lst (ts.map V.ref++us.map V.ref))):=Zo5 hq2;have b2:=KB.Tn.new b hq hnp hfl;have hb2:=b2.bound;rw[List.length_append,<- qa2.len,<- hlq]at hb2;walk_at"e";refine⟨ql,l2,_,_,rfl,rfl,hq2,hl2',by rw[aY,aY];exact aV (by omega),?_⟩;walk_at"e";refine⟨_,_,_,_,_,_,rfl,⟨QD (s1.trans s2) nq,nq,b2,by rw[List.length_append];omega,⟨ts++us,by rw[aq,List.map_append],(((qa.tk k2).app qa2).tk k3)⟩,⟨_,by rw[aC nd'.symm];exact hd2,((la.tk k2).app ?_).tk k3⟩,nd⟩⟩;exact⟨⟨rfl,a,rfl,k2 _ _ hat⟩,trivial⟩
    ·have hin:p∈qs.map (·.1):=by
      have:=la.val p;cases e:nP kvs (Sum.inl p)with
      | none=>rw[e]at y;simp at y
      | some _=>rw[e]at this;simpa using this.symm
     walk_at"e";exact⟨_,_,_,_,_,_,rfl,⟨sm',nq,.old b hq hin,by omega,⟨ts,hts,qa⟩,⟨kvs,hkv,la⟩,nd⟩⟩
   ·rw[aY]at z;have hkq:k=q'.length:=by omega
    subst hkq;walk_at"e";refine⟨d,kvs,rfl,.inl hkv,λvw hvw=>?_⟩;walk_at"e";have s1:=mz (o:=Ln vw d) hvw;refine Zsc aq (.inl (s1 _ _ hkv)) λl us H2 hl s2 hl2 pa=>?_;walk_at"e";exact q l us q' qs H2 b ((sm'.trans s1).free hl) ((sm'.trans s1).trans s2) hl2 ((la.tk (TK.same (s1.trans s2))).prs pa)
end
def fdOf(M:Wm):KB.Fd:=M.cells.map λo=>o.map (·.fl)
def WJ0.hv{X:Cs}{H:Hp}{T:Tg}{s:Nat}{A:Wa}{M:Wm}(j:WJ0 X H T s A M):HV X.C X.H H A.hp (fdOf M):=by
 have hl:=j.jc.lc;refine⟨A.ca,M.room,M.used,M.born,A.cs.map pV,j.hpO,by unfold fdOf;rw[aY,aY];exact hl,λi x hx=>?_⟩;unfold fdOf at hx;rw[cz]at hx;obtain⟨o,ho,rfl⟩:=Option.map_eq_some_iff.mp hx;cases o with
 | none=>
  show(A.cs.map pV)[i]? =some .non;rw[cz,j.jc.at0 ho];rfl
 | some c=>
  obtain⟨p,hp,ce⟩:=j.jc.at ho;obtain⟨_,_,o1,o2⟩:=ce;exact⟨p.1,p.2,c.birth,c.bulk,c.tone,c.load,by rw[cz,hp];rfl,⟨o1,o2⟩⟩
def Zpd{M:Wm}(x:Int):KB.fat (fdOf M) x=(cellAt M x).map (·.fl):=by
 unfold KB.fat fdOf cellAt
 by_cases h:0<=x
 ·rw[if_pos h,if_pos h,cz];cases M.cells[x.toNat]? with
  | none=>rfl
  | some o=>cases o<;>rfl
 ·rw[if_neg h,if_neg h];rfl
section
variable {K:aB}{X:Cs}{H:Hp}{Q:VK}{E:XK}{n:St->Hp->Prop}{bk ct:St->Hp->Prop}
def Zk6{hp a wt:Addr}{F:KB.Fd}{ps:List (Option Int)}{w:List Int}(q:HV X.C X.H H hp F/\cL K H a (ps.map oV)/\gZ K H wt (w.map V.int)/\w≠[]/\w.length<=100000/\ps.length<=1000/\∀l ts H',H l=none->aX H H'->H' l=some (.lst (ts.map V.ref))->Hi H' ts (KB.onw F w 0 ps)->Q (.ref l) H'):
  El K (dX X.H) ⟨n,Q,bk,ct⟩ [some (.ref hp),some (.ref a),some (.ref wt)] H:=by
 obtain⟨v,h1,h2,h3,h4,h5,q⟩:=q;exact Zg8 v h1 h2 h3 h4 h5 (λe=>Zuf e h2) q
def Zft{hp ra:Addr}{F:KB.Fd}{rs:List Addr}{R:KB.Rw}(T:pZ K X)(q:HV X.C X.H H hp F/\cL K H ra (rs.map V.ref)/\Hf K H rs R/\Few F R/\∀l ts q qs H',KB.Tn F R q q.length qs->H l=none->aX H H'->H' l=some (.lst (ts.map V.ref))->Hi H' ts qs->Q (.ref l) H'):
  zR K (Ed K X.C X.H) ⟨n,Q,bk,ct⟩ [some (.ref hp),some (.ref ra),none,none,none,none,none,none,none] H:=by
 obtain⟨v,h1,h2,h3,q⟩:=q;exact Zbu T.c v h1 h2 h3 q
end
def toN{x:Int}(h:0<=x):∃k:Nat,x=k:=⟨x.toNat,by omega⟩
def Wz(c:Nat):(⟨#[c]⟩:Str).length=1:=rfl
def Zxa(a b:Str):(a++b).length=a.length+b.length:=by
 show(a.cps++b.cps).size=_;rw[Array.size_append];rfl
def Zjc{α β:Type}{P:α->β->Prop}:∀{xs:List α}{ys:List β},xs.length=ys.length->(∀(i:Nat) x y,xs[i]? =some x->ys[i]? =some y->P x y)->Al P xs ys
 | [],[],_,_=>.nil
 | [],_::_,h,_=>by simp at h
 | _::_,[],h,_=>by simp at h
 | x::xs,y::ys,h,p=>.cons (p 0 x y rfl rfl) (Zjc (by simpa using h) λi a b h1 h2=>p (i+1) a b (by simpa using h1) (by simpa using h2))
def iH(bits:Int):List (Str×List (Option Int))->Nat->Wm->List Int×Wm
 | [],_,M=>([],M)
 | m::l,k,M=>if bits / 2 ^ k % 2=1 then((aU M m.2).1++(iH bits l (k+1) (aU M m.2).2).1,(iH bits l (k+1) (aU M m.2).2).2)else iH bits l (k+1) M
def lsE(x:Int):Nat->Nat->Int
 | _,0=>0
 | i,n+1=>if x / 2 ^ i % 2=0 then 2 ^ i else lsE x (i+1) n
def Ng(k:Nat)(lo:Int)(n:Nat):Int:=if k=0 then 0 else if k=1 then lsE lo 0 n else 2 ^ n - 1
def Ru(bits:Int)(m:Str×List (Option Int)):∀(l:List (Str×List (Option Int))) (k:Nat) (M:Wm),iH bits (l++[m]) k M=if bits / 2 ^ (k+l.length) % 2=1 then((iH bits l k M).1++(aU (iH bits l k M).2 m.2).1,(aU (iH bits l k M).2 m.2).2)else iH bits l k M
 | [],k,M=>by
  show(if bits / 2 ^ k % 2=1 then((aU M m.2).1++[],(aU M m.2).2)else([],M))=_;rw[List.append_nil];rfl
 | a::l,k,M=>by
  have e:k+(a::l).length=k+1+l.length:=by rw[List.length_cons];omega
  rw[e,List.cons_append];show(if bits / 2 ^ k % 2=1 then((aU M a.2).1++(iH bits (l++[m]) (k+1) (aU M a.2).2).1,(iH bits (l++[m]) (k+1) (aU M a.2).2).2)else iH bits (l++[m]) (k+1) M)=_;show _=if bits / 2 ^ (k+1+l.length) % 2=1 then(((if bits / 2 ^ k % 2=1 then((aU M a.2).1++(iH bits l (k+1) (aU M a.2).2).1,(iH bits l (k+1) (aU M a.2).2).2)else iH bits l (k+1) M)).1++(aU (if bits / 2 ^ k % 2=1 then((aU M a.2).1++(iH bits l (k+1) (aU M a.2).2).1,(iH bits l (k+1) (aU M a.2).2).2)else iH bits l (k+1) M).2 m.2).1,(aU (if bits / 2 ^ k % 2=1 then((aU M a.2).1++(iH bits l (k+1) (aU M a.2).2).1,(iH bits l (k+1) (aU M a.2).2).2)else iH bits l (k+1) M).2 m.2).2)else(if bits / 2 ^ k % 2=1 then((aU M a.2).1++(iH bits l (k+1) (aU M a.2).2).1,(iH bits l (k+1) (aU M a.2).2).2)else iH bits l (k+1) M)
  by_cases h:bits / 2 ^ k % 2=1
  ·simp only[if_pos h];rw[Ru bits m l (k+1)]
   by_cases h2:bits / 2 ^ (k+1+l.length) % 2=1
   ·simp only[if_pos h2,List.append_assoc]
   ·simp only[if_neg h2]
  ·simp only[if_neg h];rw[Ru bits m l (k+1)]
def Ih:∀{l:List (Option Int)}{M:Wm},(aU M l).2.hands=M.hands
 | [],_=>rfl
 | x::l,M=>by
  show(aU (bO M x).2 l).2.hands=_;rw[Ih,Nf]
def Dz(bits:Int)(B:Nat):∀(l:List (Str×List (Option Int))) (k:Nat) (M:Wm),(∀m∈l,m.2.length<=B)->(iH bits l k M).2.sw.phase=M.sw.phase/\(iH bits l k M).2.sw.grey.length<=M.sw.grey.length+l.length * B/\(iH bits l k M).1.length<=l.length * B/\(iH bits l k M).2.hands=M.hands
 | [],_,_,_=>by simp[iH]
 | m::l,k,M,h=>by
  have hm:=h m (by simp);have e:(m::l).length * B=l.length * B+B:=by rw[List.length_cons,Nat.succ_mul]
  unfold iH
  by_cases z:bits / 2 ^ k % 2=1
  ·rw[if_pos z];obtain⟨a1,a2,a3,a4⟩:=Dz bits B l (k+1) (aU M m.2).2 λx hx=>h x (by simp[hx]);obtain⟨b1,b2⟩:=wC (l:=m.2) (M:=M);have b3:=Ay (l:=m.2) (M:=M);exact⟨a1.trans b1,by show(iH bits l (k+1) (aU M m.2).2).2.sw.grey.length<=_;omega,by show((aU M m.2).1++_).length<=_;rw[List.length_append];omega,a4.trans Ih⟩
  ·rw[if_neg z];obtain⟨a1,a2,a3,a4⟩:=Dz bits B l (k+1) M λx hx=>h x (by simp[hx]);exact⟨a1,by omega,by omega,a4⟩
structure NtR(M M':Wm):Prop where
 rm:M'.room=M.room
 us:M'.used=M.used
 bn:M'.born=M.born
 hd:M'.hands=M.hands
 nm:M'.names=M.names
 ww:M'.w=M.w
 tl:M'.tells=M.tells
 sw:∃g,M'.sw={ M.sw with grey:=g }
 ce:M'.cells.map (λo=>o.map λc=>{ c with tone:=0 })=M.cells.map (λo=>o.map λc=>{ c with tone:=0 })
def NtR.refl(M:Wm):NtR M M:=⟨rfl,rfl,rfl,rfl,rfl,rfl,rfl,⟨_,rfl⟩,rfl⟩
def NtR.trans{M M1 M2:Wm}(a:NtR M M1)(b:NtR M1 M2):NtR M M2:=by
 obtain⟨a1,a2,a3,a4,a5,a6,a7,⟨g,a8⟩,a9⟩:=a;obtain⟨b1,b2,b3,b4,b5,b6,b7,⟨g',b8⟩,b9⟩:=b;exact⟨b1.trans a1,b2.trans a2,b3.trans a3,b4.trans a4,b5.trans a5,b6.trans a6,b7.trans a7,⟨g',by rw[b8,a8]⟩,b9.trans a9⟩
def Zce(M:Wm)(x:Option Int):NtR M (bO M x).2:=by
 cases x with
 | none=>exact NtR.refl M
 | some i=>
  unfold bO;dsimp only;cases hc:cellAt M i with
  | none=>exact NtR.refl M
  | some c=>
   dsimp only;split
   ·obtain⟨h0,h1⟩:=dm.mp hc;refine⟨rfl,rfl,rfl,rfl,rfl,rfl,rfl,⟨_,rfl⟩,?_⟩;show(M.cells.set i.toNat _).map _=_;rw[List.map_set];refine List.ext_getElem? λk=>?_
    by_cases z:i.toNat=k
    ·subst z;rw[List.getElem?_set_self (by rw[aY];exact(dY h1).1),cz,h1];rfl
    ·rw[List.getElem?_set_ne z]
   ·exact NtR.refl M
def WR:∀(l:List (Option Int)) (M:Wm),NtR M (aU M l).2
 | [],M=>NtR.refl M
 | x::l,M=>(Zce M x).trans (WR l _)
def Zw(bits:Int):∀(l:List (Str×List (Option Int))) (k:Nat) (M:Wm),NtR M (iH bits l k M).2
 | [],_,M=>NtR.refl M
 | m::l,k,M=>by
  unfold iH;split
  ·exact(WR m.2 M).trans (Zw bits l (k+1) _)
  ·exact Zw bits l (k+1) M
def Znm(bits:Int)(l:List (Str×List (Option Int)))(k:Nat)(M:Wm):(iH bits l k M).2.sw.turn=M.sw.turn/\(iH bits l k M).2.sw.looked=M.sw.looked/\(iH bits l k M).2.sw.looks=M.sw.looks:=by
 obtain⟨g,e⟩:=(Zw bits l k M).sw;rw[e];exact⟨rfl,rfl,rfl⟩
def Zkb{M:Wm}{x:Option Int}(h:(bO M x).1=none):(bO M x).2=M:=by
 cases x with
 | none=>rfl
 | some i=>
  unfold bO at h ⊢;dsimp only at h ⊢;cases hc:cellAt M i with
  | none=>rfl
  | some c=>
   rw[hc]at h;dsimp only at h ⊢;split
   ·rename_i z
    rw[if_pos z]at h;cases h
   ·rfl
def Ro:∀{l:List (Option Int)}{M:Wm},(aU M l).1=[]->(aU M l).2=M
 | [],_,_=>rfl
 | x::l,M,h=>by
  have h:ofN (bO M x).1++(aU (bO M x).2 l).1=[]:=h;obtain⟨h1,h2⟩:=List.append_eq_nil_iff.mp h;have h3:(bO M x).1=none:=by
   cases e:(bO M x).1 with
   | none=>rfl
   | some b=>rw[e]at h1;cases h1
  show(aU (bO M x).2 l).2=M;rw[Ro h2,Zkb h3]
def Zx(bits:Int):∀{l:List (Str×List (Option Int))}{k:Nat}{M:Wm},(iH bits l k M).1=[]->(iH bits l k M).2=M
 | [],_,_,_=>rfl
 | m::l,k,M,h=>by
  unfold iH at h ⊢;split
  ·rename_i z
   rw[if_pos z]at h;obtain⟨h1,h2⟩:=List.append_eq_nil_iff.mp h;show(iH bits l (k+1) (aU M m.2).2).2=M;rw[Zx bits h2,Ro h1]
  ·rename_i z
   rw[if_neg z]at h;exact Zx bits h
def Zcp:∀(l:List (Str×List (Option Int))) (k:Nat) (M:Wm),iH 0 l k M=([],M)
 | [],_,_=>rfl
 | m::l,k,M=>by
  unfold iH;rw[if_neg (by simp),Zcp l (k+1) M]
def Z1q (H:Hp)(X:Cs)(wo:Addr)(bits:Int)(Q:VK):Prop:=∃T s A M,WT H T/\s≠0/\WJ X H T s A M/\A.wo=wo/\(∀m∈M.hands,m.2.length<=100)/\(M.sw.phase="walk"->M.sw.grey.length<=5000)/\
 ∀H' T' l,jo s H H' T T'->WJ X H' T' s A (iH bits M.hands 0 M).2->H' l=some (.lst ((iH bits M.hands 0 M).1.map V.int))->H l=none->Q (.ref l) H'
def lO(X:Cs):Sp:=λvs H Q E=>∃wo bits,vs=[.ref wo,.int bits]/\Z1q H X wo bits Q
def iw(k:Nat):Sp:=λvs H Q E=>∃a lo h,vs=[.ref a,.int lo,.int h]/\0<=h/\h<=30/\Q (.int (Ng k lo h.toNat)) H
section
variable {K:aB}{X:Cs}{H:Hp}{Q:VK}{E:XK}{n:St->Hp->Prop}{bk ct:St->Hp->Prop}
def Ms{a:Addr}(q:Q (.bl true) H):rC ⟨n,Q,bk,ct⟩ [some (.ref a)] H:=by
 unfold rC;walk_at"e";exact q
def V1{a:Addr}(q:Q (.bl false) H):xX ⟨n,Q,bk,ct⟩ [some (.ref a)] H:=by
 unfold xX;walk_at"e";exact q
def Eh{a:Addr}{lo h:Int}(q:0<=h/\h<=30/\Q (.int (Ng 0 lo h.toNat)) H):nR ⟨n,Q,bk,ct⟩ [some (.ref a),some (.int lo),some (.int h)] H:=by
 unfold nR;walk_at"e";exact q.2.2
def JG{a:Addr}{lo h:Int}(q:0<=h/\h<=30/\Q (.int (Ng 2 lo h.toNat)) H):qj vH ⟨n,Q,bk,ct⟩ [some (.ref a),some (.int lo),some (.int h)] H:=by
 obtain⟨h0,h1,q⟩:=q;unfold qj;walk_at"e";exact⟨h,rfl,h0,h1,q⟩
def JL{a:Addr}{lo h:Int}(q:0<=h/\h<=30/\Q (.int (Ng 1 lo h.toNat)) H):qp ⟨n,Q,bk,ct⟩ [some (.ref a),some (.int lo),some (.int h),none] H:=by
 obtain⟨h0,h1,q⟩:=q;have q:Q (.int (lsE lo 0 h.toNat)) H:=q;unfold qp;walk_at"e";refine⟨h,rfl,by omega,by omega,?_⟩;refine forR (λi σ Hx=>∃v,σ=[some (.ref a),some (.int lo),some (.int h),v]/\Hx=H/\(i<=h.toNat->lsE lo 0 h.toNat=lsE lo i (h.toNat - i))) ⟨none,rfl,rfl,λ_=>rfl⟩ ?_ ?_
 ·rintro i σ Hx hi ⟨v,rfl,rfl,el⟩;have el:=el (by omega);have es:h.toNat - i=(h.toNat - (i+1))+1:=by omega
  rw[es]at el;have ei:lsE lo i (h.toNat - (i+1)+1)=if lo / 2 ^ i % 2=0 then 2 ^ i else lsE lo (i+1) (h.toNat - (i+1)):=rfl
  rw[ei]at el;have en:((0:Int)+(i:Int)).toNat=i:=by omega
  walk_at"e";rw[en,Zt6];refine vO (λz=>?_) (λz=>?_)
  ·rw[if_pos z]at el;walk_at"e";refine i_I (Zpq (by omega) (by omega)) ?_;rw[en,Int.one_mul,<- el];exact q
  ·rw[if_neg z]at el;walk_at"e";exact⟨_,rfl,rfl,λ_=>el⟩
 ·rintro σ Hx ⟨v,rfl,rfl,el⟩;have el:=el (Nat.le_refl _);rw[Nat.sub_self]at el;have el:lsE lo 0 h.toNat=0:=el;walk_at"e";rw[el]at q;exact q
def UW{wo:Addr}{bits:Int}(Tx:pZ K X)(q:Z1q H X wo bits Q):
  xN K (fG X) ⟨n,Q,bk,ct⟩ [some (.ref wo),some (.int bits),none,none,none] H:=by
 obtain⟨T,s,A,M,w,s0,j,rfl,hs,hg,q⟩:=q;have lh:=j.jd.lh;have l5:=j.jd.l5;unfold xN;walk_at"e";refine⟨aV (by simp),λl hl=>?_⟩;have st1:jo s H (upd H l (.lst [])) T (jZ T l (s+1,1)):=jo.fresh w hl;have j1:WJ X (upd H l (.lst [])) (jZ T l (s+1,1)) s A M:=j.fresh hl;have g1:upd H l (.lst []) l=some (.lst []):=aq;have tl:jZ T l (s+1,1) l=(s+1,1):=jq;generalize upd H l (.lst [])=H1 at st1 j1 g1 ⊢;generalize jZ T l (s+1,1)=T1 at st1 j1 tl;obtain⟨dw,ow⟩:=j1.jb.ow;walk_at"e";refine aH ow Tx.cW Tx.nWd eV ?_;walk_at"e";refine⟨A.hl,rfl,⟨_,cL.of j1.jb.on⟩,Zyi (A.hs.map λp=>V.ref p.1) (λi σ Hx=>∃T' v3 v4,σ=[some (.ref A.wo),some (.int bits),some (.ref l),v3,v4]/\jo s H Hx T T'/\T' l=(s+1,1)/\WJ X Hx T' s A (iH bits (M.hands.take i) 0 M).2/\Hx l=some (.lst ((iH bits (M.hands.take i) 0 M).1.map V.int))) ⟨T1,_,_,rfl,st1,tl,j1,g1⟩ (λ_ _ _ _ ⟨_,_,_,_,_,_,z,_⟩=>cL.of z.jb.on) ?_ ?_⟩
 ·rintro i x t σ Hx hx ⟨T2,v3,v4,rfl,st2,tl2,j2,g2⟩ ht;rw[cz]at hx;obtain⟨p,hp,rfl⟩:=Option.map_eq_some_iff.mp hx;have hil:i<A.hs.length:=(dY hp).1;obtain⟨m,hm⟩:∃m,M.hands[i]? =some m:=⟨_,bL (by omega)⟩;have etk:M.hands.take (i+1)=M.hands.take i++[m]:=by rw[List.take_add_one,hm];rfl
  have ltk:(M.hands.take i).length=i:=by rw[List.length_take];omega
  obtain⟨n1,n2,n3,n4⟩:=Dz bits 100 (M.hands.take i) 0 M λx hx=>hs x (List.mem_of_mem_take hx);have sn:=Ru bits m (M.hands.take i) 0 M;rw[<- etk,Nat.zero_add,ltk]at sn;have s1:=aL ht (.tup [.int i,.ref p.1]);have g1':upd Hx t (.tup [.int i,.ref p.1]) t=some (.tup [.int i,.ref p.1]):=aq;have j3:=j2.same s1;have st3:=st2.trans (jo.same (s:=s) st2.wt s1);have g3:=s1 _ _ g2;generalize upd Hx t (.tup [.int i,.ref p.1])=H3 at s1 g1' j3 st3 g3 ⊢;refine⟨t,_,rfl,gZ.of g1',rfl,.int i,_,rfl,?_⟩;walk_at"e";refine⟨.ref p.1,_,rfl,?_⟩;walk_at"e";refine⟨rfl,?_⟩;walk_at"e";rw[Zt6,Int.toNat_natCast];refine vO (λz=>?_) (λz=>?_)
  ·rw[if_pos z]at sn;walk_at"e";refine⟨.inl ⟨rfl,_,cL.of g3⟩,?_⟩;have hm3:(iH bits (M.hands.take i) 0 M).2.hands[i]? =some m:=by rw[n4];exact hm
   have hd:=j3.jd.hd i p m hp hm3;obtain⟨dx,o1⟩:=hd.o1;have Zyf:=hs m (List.mem_of_getElem? hm);have hB:(M.hands.take i).length * 100<=3000:=by rw[ltk];omega
   walk_at"e";refine aH o1 Tx.cD Tx.nDs qJ ?_;walk_at"e";refine⟨_,_,rfl,m.2,T2,s,A,_,st3.wt,s0,j3,rfl,.inr (.inl ⟨i,p,m,hp,hm3,rfl,rfl⟩),Zyf,λy=>?_,λH4 T4 l4 st4 j4 g4 nl4=>?_⟩
   ·have:=hg (n1.symm.trans y);omega
   have g5:H4 l=some (.lst ((iH bits (M.hands.take i) 0 M).1.map V.int)):=st4.kp _ _ g3 (by rw[tl2];show s+1≠s;omega);have nl:=Ay (l:=m.2) (M:=(iH bits (M.hands.take i) 0 M).2);walk_at"e";refine⟨l,l4,_,_,rfl,rfl,g5,g4,by rw[aY,aY];exact aV (by omega),?_⟩;walk_at"e";have tl4:T4 l=(s+1,1):=(st4.tg _ _ g3).trans tl2;refine⟨T4,_,_,rfl,jo.new (st3.trans st4) hl g5,tl4,?_,?_⟩
   ·rw[sn];exact j4.other (s':=s+1) (jo.upd st4.wt g5 (by rw[tl4])) (by omega) (by omega)
   ·rw[sn,aq,List.map_append]
  ·rw[if_neg z]at sn;walk_at"e";exact⟨T2,_,_,rfl,st3,tl2,by rw[sn];exact j3,by rw[sn];exact g3⟩
 ·rintro σ Hx ⟨T2,v3,v4,rfl,st2,tl2,j2,g2⟩;walk_at"e";rw[aY,lh,List.take_length]at j2 g2;exact q Hx T2 l st2 j2 g2 hl
end
structure S7(M:Wm):Prop where
 cl:M.cells.length<=900
 hl:∀m∈M.hands,m.2.length<=100
 fl:∀c,some c∈M.cells->c.fl.length<=50
 nl:M.names.length<=900
 gl:M.sw.phase="walk"->M.sw.grey.length<=900
 gc:M.sw.phase="walk"->∀x∈M.sw.grey,∃c,cellAt M x=some c
 ph:M.sw.phase="rest"\/M.sw.phase="walk"\/M.sw.phase="give"\/M.sw.phase="lost"
 a0:0<=M.sw.at'
def Zpw(H:Hp)(T:Tg)(M:Wm)(b:Int)(w:List Int):Prop:=∃a wl,M.sw.loss=.ref a/\T a=(0,0)/\H a=some (.tup [.str "lost",.int b,.ref wl])/\T wl=(0,0)/\H wl=some (.lst (w.map V.int))
def wA(M:Wm)(i:Nat):Option Ce:=((M.cells[i]?).join).bind λc=>if c.tone=M.sw.sense then none else some c
def uc(M:Wm):List Int:=(List.range M.cells.length).filterMap λi=>(wA M i).map λ_=>(i:Int)
def ud(M:Wm):List Int:=(List.range M.cells.length).filterMap λi=>(wA M i).map (·.birth)
def jm(M:Wm):Wm:={ M with sw:={ M.sw with stop:=M.cells.length,at':=0 } }
def cV(M:Wm):Int:=Ng M.w.toNat M.sw.looked M.hands.length
def Ea(M:Wm):Prop:=cV M=0\/(M.w=2/\(iH (cV M) M.hands 0 M).1=[])
inductive vB(lb:Int)(lw:List Int)(M:Wm):Ev->Wm->Prop
 | begin:M.sw.phase="rest"->vB lb lw M ⟨"begin",some (M.sw.turn+1),(iH (iC M.w M.hands.length) M.hands 0 (eF M)).1⟩ (iH (iC M.w M.hands.length) M.hands 0 (eF M)).2
 | walk (x:Int) (g:List Int) (c:Ce):M.sw.phase="walk"->M.sw.grey=x::g->cellAt M x=some c->vB lb lw M ⟨"walk",some c.birth,(aU { M with sw:={ M.sw with grey:=g,walks:=M.sw.walks+1 } } c.fl).1⟩ (aU { M with sw:={ M.sw with grey:=g,walks:=M.sw.walks+1 } } c.fl).2
 | look (N:Wm):M.sw.phase="walk"->M.sw.grey=[]->¬ Ea M->N=(iH (cV M) M.hands 0 M).2->vB lb lw M ⟨"look",some (cV M),(iH (cV M) M.hands 0 M).1⟩ { N with sw:={ N.sw with looks:=N.sw.looks+1,looked:=if M.w=2 then N.sw.looked else Builtin.bitOr N.sw.looked (cV M) } }
 | cut (q qs:List (Int×List Int)):M.sw.phase="walk"->M.sw.grey=[]->Ea M->KB.Tn (fdOf M) (jA M) q q.length qs->(∀x∈qs,∀c,cellAt M x.1=some c->c.tone=M.sw.sense)->vB lb lw M ⟨"cut",some (ud M).length,ud M⟩ { jm M with sw:={ (jm M).sw with phase:="give" } }
 | lost (q qs:List (Int×List Int)) (i:Nat) (x:Int×List Int) (c:Ce) (v:V):M.sw.phase="walk"->M.sw.grey=[]->Ea M->KB.Tn (fdOf M) (jA M) q q.length qs->qs[i]? =some x->(∀(k:Nat) y d,k<i->qs[k]? =some y->cellAt M y.1=some d->d.tone=M.sw.sense)->cellAt M x.1=some c->c.tone≠M.sw.sense->vB lb lw M ⟨"lost",some c.birth,x.2⟩ { jm M with sw:={ (jm M).sw with phase:="lost",loss:=v } }
 | pass:M.sw.phase="give"->M.sw.at'<M.sw.stop->(∀c,cellAt M M.sw.at'=some c->c.tone=M.sw.sense)->vB lb lw M ⟨"pass",some M.sw.at',[]⟩ { M with sw:={ M.sw with at':=M.sw.at'+1,passes:=M.sw.passes+1 } }
 | back (c:Ce):M.sw.phase="give"->M.sw.at'<M.sw.stop->cellAt M M.sw.at'=some c->c.tone≠M.sw.sense->vB lb lw M ⟨"back",some c.birth,[M.sw.at']⟩ { M with used:=M.used - (1+c.fl.length+c.bulk),cells:=M.cells.set M.sw.at'.toNat none,sw:={ M.sw with at':=M.sw.at'+1,passes:=M.sw.passes+1 } }
 | fin:M.sw.phase="give"->¬ M.sw.at'<M.sw.stop->vB lb lw M ⟨"end",some M.sw.turn,[M.sw.walks,M.sw.looks,M.sw.passes]⟩ { M with sw:={ M.sw with phase:="rest" } }
 | again:M.sw.phase="lost"->vB lb lw M ⟨"lost",some lb,lw⟩ M
def Ec(X:Cs)(P:Wm->Prop)(wo:Addr)(H:Hp)(Q:VK):Prop:=∃T s A M lb lw,WT H T/\s≠0/\WJ X H T s A M/\A.wo=wo/\S7 M/\P M/\(M.sw.phase="lost"->Zpw H T M lb lw)/\
 ∀e M',vB lb lw M e M'->∀H' T' A' a,jo s H H' T T'->WJ X H' T' s A' M'->A'.wo=wo/\A'.sw=A.sw->EvN H H' a e->(M'.sw.phase="lost"->∃b,e.thing=some b/\Zpw H' T' M' b e.notes)->Q (.ref a) H'
def bU(X:Cs)(P:Wm->Prop):Sp:=λvs H Q E=>∃wo,vs=[.ref wo]/\Ec X P wo H Q
def Zc1(M:Wm):Prop:=M.sw.phase="walk"/\M.sw.grey≠[]
def Zc3(M:Wm):Prop:=M.sw.phase="walk"/\M.sw.grey=[]
def Zg6(M:Wm):Prop:=M.sw.phase="walk"/\M.sw.grey=[]/\Ea M
def Zc2(M:Wm):Prop:=M.sw.phase="give"/\M.sw.at'<M.sw.stop
def pEnd(M:Wm):Prop:=M.sw.phase="give"/\¬ M.sw.at'<M.sw.stop
def Pk(z:Str)(M:Wm):Prop:=M.sw.phase=z
def Zk4(_:Wm):Prop:=True
def Z2q (H:Hp)(ev:Addr)(Q:VK):Prop:=∃z b l,∃ns:List Int,H ev=some (.tup [.str z,.int b,.ref l])/\H l=some (.lst (ns.map V.int))/\∀a l' H',aX H H'->H l'=none->H' a=some (.tup [.str z,.int b,.ref l'])->H' l'=some (.lst (ns.map V.int))->Q (.ref a) H'
def mW(K:aB):Sp:=λvs H Q E=>∃ev,vs=[.ref ev]/\Z2q H ev Q
def Z3q (X:Cs)(H:Hp)(wo:Addr)(Q:VK):Prop:=∃T s A M,WJ X H T s A M/\A.wo=wo/\M.cells.length<=900/\∀l H',aX H H'->H l=none->H' l=some (.lst ((uc M).map V.int))->Q (.ref l) H'
def Bo(X:Cs):Sp:=λvs H Q E=>∃wo,vs=[.ref wo]/\Z3q X H wo Q
section
variable {K:aB}{X:Cs}{H:Hp}{Q:VK}{E:XK}{n:St->Hp->Prop}{bk ct:St->Hp->Prop}
def Tq{ev:Addr}(q:Z2q H ev Q):
  xK K ⟨n,Q,bk,ct⟩ [some (.ref ev)] H:=by
 obtain⟨z,b,l,ns,o1,o2,q⟩:=q;unfold xK;walk_at"e";refine⟨ev,_,0,_,rfl,rfl,gZ.of o1,rfl,?_⟩;walk_at"e";refine⟨ev,_,1,_,rfl,rfl,gZ.of o1,rfl,?_⟩;walk_at"e";refine⟨ev,_,2,_,rfl,rfl,gZ.of o1,rfl,?_⟩;walk_at"e";refine Pz (cL.of o2) λl' nl'=>?_;have s1:=aL nl' (.lst (ns.map V.int));have g1:upd H l' (.lst (ns.map V.int)) l'=some (.lst (ns.map V.int)):=aq;generalize upd H l' (.lst (ns.map V.int))=H1 at s1 g1 ⊢;walk_at"e";refine⟨aV (by simp),λa na=>?_⟩;have s2:=aL na (.tup [.str z,.int b,.ref l']);exact q a l' _ (s1.trans s2) nl' aq (s2 _ _ g1)
def Jo{α β:Type}{f g:α->Option β}:∀{l:List α},(∀x∈l,f x=g x)->l.filterMap f=l.filterMap g
 | [],_=>rfl
 | x::l,h=>by
  rw[List.filterMap_cons,List.filterMap_cons,h x (by simp),Jo λy hy=>h y (by simp[hy])]
def Zbv{α β:Type}(f:α->Option β):∀(xs:List α),(List.range xs.length).filterMap (λi=>(xs[i]?).bind f)=xs.filterMap f
 | []=>rfl
 | x::xs=>by
  rw[List.length_cons,List.range_succ_eq_map,List.filterMap_cons];simp only[List.getElem?_cons_zero,Option.bind_some,List.filterMap_map,List.filterMap_cons];have e:((λi=>((x::xs)[i]?).bind f) ∘ Nat.succ)=λi=>(xs[i]?).bind f:=by
   funext i
   simp
  rw[e,Zbv f xs]
def Zk1{A:Wa}{M:Wm}{T:Tg}{s:Nat}(j:WJ X H T s A M)(f:V->Option V)(hf:∀(i:Nat) (c:Ce),M.cells[i]? =some (some c)->f (.int i)=(wA M i).map λ_=>V.int i):((plc (A.cs.map pV)).map V.int).filterMap f=(uc M).map V.int:=by
 unfold plc uc;rw[List.filterMap_map,List.filterMap_map,List.filterMap_filter,List.map_filterMap,aY,j.jc.lc];refine Jo λi hi=>?_;have hil:=List.mem_range.mp hi;have e:(A.cs.map pV)[i]? =some V.non↔M.cells[i]? =some none:=by
  constructor
  ·intro z;cases hc:M.cells[i]with
   | none=>rw[bL hil,hc]
   | some c=>
    obtain⟨p,hp,_⟩:=j.jc.at (i:=i) (c:=c) (by rw[bL hil,hc]);rw[cz,hp]at z;cases z
  ·intro z;rw[cz,j.jc.at0 z];rfl
 by_cases z:M.cells[i]? =some none
 ·rw[if_neg (by simp[e.mpr z])];unfold wA;rw[z];rfl
 ·have hne:¬ (A.cs.map pV)[i]? =some V.non:=λy=>z (e.mp y);rw[if_pos (by simp only[hne,decide_false,Bool.not_false])];cases hc:M.cells[i]with
  | none=>exact absurd (by rw[bL hil,hc]) z
  | some c=>
   show f (.int (i:Int))=_;rw[hf i c (by rw[bL hil,hc]),Option.map_map];rfl
def Zdi{wo:Addr}(Tx:pZ K X)(q:Z3q X H wo Q):
  CW K X.H (mX X.H) (cM X) ⟨n,Q,bk,ct⟩ [some (.ref wo),none] H:=by
 obtain⟨T,s,A,M,j,rfl,hc,q⟩:=q;obtain⟨dw,ow⟩:=j.jb.ow;obtain⟨dh,oh⟩:=j.jh.oh;unfold CW;walk_at"e";refine aH ow Tx.cW Tx.Nh bD ?_;walk_at"e";refine NZ ?_;walk_at"e";refine⟨A.hp,dh,_,rfl,oh,DX,?_⟩;walk_at"e";refine⟨_,rfl,A.ca,M.room,M.used,M.born,_,j.hpO,by rw[aY,j.jc.lc];omega,λlt nlt=>?_⟩;have s1:=aL nlt (.lst ((plc (A.cs.map pV)).map V.int));have g1:upd H lt (.lst ((plc (A.cs.map pV)).map V.int)) lt=some (.lst ((plc (A.cs.map pV)).map V.int)):=aq;generalize upd H lt (.lst ((plc (A.cs.map pV)).map V.int))=H1 at s1 g1 ⊢;have j1:=j.same s1;have lp:(plc (A.cs.map pV)).length<=900:=by
  unfold plc;rw[aY];refine Nat.le_trans (List.length_filter_le _ _) ?_;rw[List.length_range,aY,j.jc.lc];exact hc
 refine⟨lt,rfl,⟨_,cL.of g1⟩,?_⟩
 let f:V->Option V:=λv=>match v with
  | .int p=>(wA M p.toNat).map λ_=>V.int p
  | _=>none
 refine ZC (cL.of g1) (λi=>(((plc (A.cs.map pV)).map V.int)[i]?).bind f) (by rw[aY];omega) (λi x hi=>?_) ?_
 ·rw[cz]at hi;obtain⟨p,hp,rfl⟩:=Option.map_eq_some_iff.mp hi;have hm:=List.mem_of_getElem? hp;unfold plc at hm;obtain⟨k,hk,rfl⟩:=List.mem_map.mp hm;obtain⟨hk1,hk2⟩:=List.mem_filter.mp hk;have hkl:k<M.cells.length:=by
   have:=List.mem_range.mp hk1;rw[aY,j.jc.lc]at this;exact this
  obtain⟨c,hcc⟩:∃c,M.cells[k]? =some (some c):=by
   cases h3:M.cells[k]with
   | none=>
    exfalso
    have:(A.cs.map pV)[k]? =some V.non:=by rw[cz,j.jc.at0 (i:=k) (by rw[bL hkl,h3])];rfl
    simp[this]at hk2
   | some c=>exact⟨c,by rw[bL hkl,h3]⟩
  obtain⟨pp,hpp,ce⟩:=j1.jc.at hcc;have ef:(((plc (A.cs.map pV)).map V.int)[i]?).bind f=(wA M k).map λ_=>V.int (k:Int):=by
   rw[cz,hp];show(wA M (Int.toNat k)).map _=_;rw[Int.toNat_natCast]
  have ep:(wA M k)=if c.tone=M.sw.sense then none else some c:=by unfold wA;rw[hcc];rfl
  obtain⟨dh1,oh1⟩:=j1.jh.oh;refine⟨λq hq=>?_,λy q hy hq=>?_⟩
  ·rw[ef,ep]at hq;walk_at"c";walk_at"e";refine aH oh1 Tx.c.cN Tx.c.bM bT ?_;walk_at"e";refine ji (cL.of j1.jh.oc) (iB (v:=.ref pp.1) (by rw[cz,hpp];rfl)) ?_;walk_at"e";refine⟨_,_,rfl,T,s,A,M,_,pp,c,j1.w0,rfl,ce,rfl,?_⟩;walk_at"e"
   by_cases z:c.tone=M.sw.sense
   ·rw[if_pos z]at hq;rw[decide_eq_true z];exact hq
   ·rw[if_neg z]at hq;rw[decide_eq_false z];exact hq
  ·rw[ef]at hy;obtain⟨_,_,rfl⟩:=Option.map_eq_some_iff.mp hy;walk_at"c";walk_at"e";exact hq
 ·intro p np;rw[Zbv f,Zk1 j f (λi c hc=>by show(wA M (Int.toNat i)).map _=_;rw[Int.toNat_natCast])];exact q p _ (s1.trans (aL np _)) (s1.free np) aq
def Om{wo:Addr}(Tx:pZ K X)(q:Ec X (Pk "rest") wo H Q):t7 K (Qe X) (lO X) ⟨n,Q,bk,ct⟩ [some (.ref wo),none] H:=by
 obtain⟨T,s,A,M,lb,lw,w,s0,j,rfl,ok,ph,lo,q⟩:=q;unfold t7;walk_at"e";refine⟨_,rfl,T,s,A,M,w,s0,j,rfl,λH1 T1 A1 st1 j1 aw1=>?_⟩;obtain⟨dw,ow⟩:=j1.jb.ow;obtain⟨ds,os⟩:=j1.js.os;rw[aw1.1]at ow;walk_at"e";refine aH ow Tx.cW Tx.Rx bx ?_;walk_at"e";refine aH os Tx.cS Tx.n4 iG ?_;walk_at"e";refine⟨_,_,rfl,T1,s,A1,_,st1.wt,s0,j1,aw1.1,ok.hl,λ_=>Nat.zero_le _,λH2 T2 l st2 j2 g2 nl2=>?_⟩;have j2:WJ X H2 T2 s A1 (iH (iC M.w M.hands.length) M.hands 0 (eF M)).2:=j2;have g2:H2 l=some (.lst ((iH (iC M.w M.hands.length) M.hands 0 (eF M)).1.map V.int)):=g2;obtain⟨dw2,ow2⟩:=j2.jb.ow;obtain⟨ds2,os2⟩:=j2.js.os;rw[aw1.1]at ow2;have hnt:=Znm (iC M.w M.hands.length) M.hands 0 (eF M);walk_at"e";refine aH ow2 Tx.cW Tx.Rx bx ?_;walk_at"e";refine aH os2 Tx.cS Tx.n5 nQ ?_;walk_at"e";refine⟨aV (by simp),λa na=>?_⟩;rw[hnt.1];have s3:=aL na (.tup [.str "begin",.int (M.sw.turn+1),.ref l]);refine q _ _ (.begin ph) _ T2 A1 a (st1.trans (st2.trans (jo.same st2.wt s3))) (j2.same s3) aw1 ⟨l,jo.free st1 nl2,aq,s3 _ _ g2⟩ λz=>?_;have:=(Dz (iC M.w M.hands.length) 100 M.hands 0 (eF M) ok.hl).1;rw[this]at z;exact absurd z (show ¬ ("walk":Str)="lost" by decide)
end
def Z4q (H:Hp)(X:Cs)(wo:Addr)(Q:VK):Prop:=∃T s A M,WT H T/\s≠0/\WJ X H T s A M/\A.wo=wo/\S7 M/\
 (∀q qs H',KB.Tn (fdOf M) (jA M) q q.length qs->(∀x∈qs,∀c,cellAt M x.1=some c->c.tone=M.sw.sense)->aX H H'->Q .non H')/\
 (∀q qs (i:Nat) x c a wl H',KB.Tn (fdOf M) (jA M) q q.length qs->qs[i]? =some x->(∀(k:Nat) y d,k<i->qs[k]? =some y->cellAt M y.1=some d->d.tone=M.sw.sense)->cellAt M x.1=some c->c.tone≠M.sw.sense->aX H H'->H a=none->H wl=none->H' a=some (.tup [.str "lost",.int c.birth,.ref wl])->H' wl=some (.lst (x.2.map V.int))->Q (.ref a) H')
def uD(X:Cs):Sp:=λvs H Q E=>∃wo,vs=[.ref wo]/\Z4q H X wo Q
section
variable {K:aB}{X:Cs}{H:Hp}{Q:VK}{E:XK}{n:St->Hp->Prop}{bk ct:St->Hp->Prop}
def Zma{α:Type}(f:α->Nat)(B:Nat):∀(xs:List α),(∀x∈xs,f x<=B)->(xs.map f).sum<=xs.length * B
 | [],_=>by simp
 | x::xs,h=>by
  have h1:=h x (by simp);have h2:=Zma f B xs λy hy=>h y (by simp[hy]);rw[List.map_cons,List.sum_cons,List.length_cons,Nat.succ_mul];omega
def Zty{α β:Type}(f:α->List β)(B:Nat):∀(xs:List α),(∀x∈xs,(f x).length<=B)->(xs.flatMap f).length<=xs.length * B
 | [],_=>by simp
 | x::xs,h=>by
  have h1:=h x (by simp);have h2:=Zty f B xs λy hy=>h y (by simp[hy]);rw[List.flatMap_cons,List.length_append,List.length_cons,Nat.succ_mul];omega
def Zwe{M:Wm}{T:Tg}{s:Nat}{A:Wa}(j:WJ X H T s A M)(ok:S7 M):Few (fdOf M) (jA M):=by
 have l5:=j.jd.l5;have lh:=j.jd.lh;have hl:(heldOf M).length=M.hands.length:=by unfold heldOf;rw[aY]
 have hr:(jA M).length<=31:=by unfold jA;rw[List.length_append,hl,<- lh];simp;omega
 have hrow:∀x∈jA M,x.length<=900:=λx hx=>by
  unfold jA at hx;rcases List.mem_append.mp hx with hx | hx
  ·obtain⟨m,hm,rfl⟩:=List.mem_map.mp hx;exact Nat.le_trans (ok.hl m hm) (by decide)
  ·rw[List.mem_singleton.mp hx];unfold uR;rw[aY];exact ok.nl
 have hf:(fdOf M).length=M.cells.length:=by unfold fdOf;rw[aY]
 have hcl:=ok.cl;have hfl:∀(i:Nat) x,(fdOf M)[i]? =some x->KB.wgt x<=50:=λi x hx=>by
  unfold fdOf at hx;rw[cz]at hx;obtain⟨o,ho,rfl⟩:=Option.map_eq_some_iff.mp hx;cases o with
  | none=>exact Nat.zero_le _
  | some c=>exact ok.fl c (List.mem_of_getElem? ho)
 refine⟨by omega,λp fl hp=>?_,by omega,λx hx=>by have:=hrow x hx;omega,?_⟩
 ·rw[Zpd]at hp;obtain⟨c,hc,rfl⟩:=Option.map_eq_some_iff.mp hp;have:=ok.fl c (vz hc);omega
 ·unfold KB.total;have h1:(KB.q0 (fdOf M) 0 (jA M)).length<=31 * 900:=by
   unfold KB.q0;refine Nat.le_trans (Zty _ 900 _ λx hx=>?_) (by rw[List.length_zipIdx];exact Nat.mul_le_mul_right _ hr);refine Nat.le_trans KB.Pn (hrow x.1 ?_);obtain⟨_,h2⟩:=List.mem_zipIdx_iff_le_and_getElem?_sub.mp hx;exact List.mem_of_getElem? h2
  have h2:KB.Zer (fdOf M) []<=900 * 50:=by
   unfold KB.Zer;refine Nat.le_trans (Zma _ 50 _ λx hx=>?_) (by rw[List.length_zipIdx,hf];exact Nat.mul_le_mul_right _ hcl);obtain⟨_,h2⟩:=List.mem_zipIdx_iff_le_and_getElem?_sub.mp hx;simp only[List.map_nil,List.not_mem_nil,↓reduceIte];exact hfl _ _ h2
  omega
def Zig{M:Wm}:∀{rows:List (List (Option Int))}{ls:List Addr},ls.length=rows.length->(∀(j:Nat) r x,ls[j]? =some r->rows[j]? =some x->H r=some (.lst (x.map oV)))->Hf K H ls rows
 | [],[],_,_=>trivial
 | [],_::_,h,_=>by simp at h
 | _::_,[],h,_=>by simp at h
 | x::rows,r::ls,h,g=>⟨cL.of (g 0 r x rfl rfl),Zig (M:=M) (by simpa using h) λj r x e1 e2=>g (j+1) r x (by simpa using e1) (by simpa using e2)⟩
def Vr{wo:Addr}(Tx:pZ K X)(q:Z4q H X wo Q):
  xP K (cM X) (Eu K X.C X.H) (PL X) ⟨n,Q,bk,ct⟩ [some (.ref wo),none,none,none] H:=by
 obtain⟨T,s,A,M,w,s0,j,rfl,ok,q1,q2⟩:=q;obtain⟨dw,ow⟩:=j.jb.ow;have l5:=j.jd.l5;have lh:=j.jd.lh;have nl:=ok.nl;unfold xP;walk_at"e";refine aH ow Tx.cW Tx.Nh bD ?_;walk_at"e";refine⟨_,rfl,T,s,A,M,s0,j,rfl,by omega,by omega,λra rs H1 s1 nra ora lrs nrs nrl g1=>?_⟩;walk_at"e";refine⟨A.hp,ra,fdOf M,rs,jA M,rfl,(j.same s1).w0.hv,cL.of ora,Zig (M:=M) lrs g1,Zwe j ok,λl ts q qs H2 bf nl2 s2 ol qa=>?_⟩;have s02:=s1.trans s2;have j2:=j.same s02;have good:=bf.good.2;have hlq:=qa.len;obtain⟨dw2,ow2⟩:=j2.jb.ow;obtain⟨dh2,oh2⟩:=j2.jh.oh;refine⟨l,rfl,⟨_,cL.of ol⟩,forL (ts.map V.ref) (λi σ Hx=>∃v1 v2 v3,σ=[some (.ref A.wo),v1,v2,v3]/\Hx=H2/\∀(k:Nat) y d,k<i->qs[k]? =some y->cellAt M y.1=some d->d.tone=M.sw.sense) ⟨_,_,_,rfl,rfl,λk y d hk=>absurd hk (Nat.not_lt_zero _)⟩ (λ_ _ _ _ ⟨_,_,_,_,z,_⟩=>by rw[z];exact cL.of ol) ?_ ?_⟩
 ·rintro i x σ Hx hi ⟨v1,v2,v3,rfl,rfl,hno⟩;rw[cz]at hi;obtain⟨t,ht,rfl⟩:=Option.map_eq_some_iff.mp hi;have hil:i<qs.length:=by rw[<- hlq];exact(dY ht).1
  obtain⟨t',wa,et,ot,owa⟩:=qa.at (bL hil);rw[ht]at et;cases et;have hx:qs[i]? =some qs[i]:=bL hil;generalize qs[i]=x at hx ot owa;obtain⟨fl,hfl⟩:=Option.isSome_iff_exists.mp (good x (List.mem_of_getElem? hx)).there;rw[Zpd]at hfl;obtain⟨c,hc,_⟩:=Option.map_eq_some_iff.mp hfl;obtain⟨x0,hcc⟩:=dm.mp hc;obtain⟨pp,hpp,ce⟩:=j2.jc.at hcc;obtain⟨_,_,⟨dc,oc⟩,_⟩:=id ce;refine⟨t,_,rfl,gZ.of ot,rfl,?_⟩;refine⟨_,_,rfl,?_⟩;walk_at"e";refine⟨_,_,rfl,?_⟩;walk_at"e";refine⟨rfl,?_⟩;walk_at"e";refine aH ow2 Tx.cW Tx.Nh bD ?_;refine aH oh2 Tx.c.cN Tx.c.bM bT ?_;walk_at"e";refine ji (cL.of j2.jh.oc) (qM (v:=.ref pp.1) x0 (by rw[cz,hpp];rfl)) ?_;walk_at"e";refine⟨_,_,rfl,T,s,A,M,_,pp,c,j2.w0,rfl,ce,rfl,?_⟩;walk_at"e";refine LR (λz=>?_) (λz=>?_)
  ·walk_at"e";refine aH oc Tx.c.cZ Tx.c.dU gM ?_;walk_at"e";refine Zsb (gZ.of owa) λwl nwl=>?_;have s3:=aL nwl (.lst (x.2.map V.int));have g3:upd Hx wl (.lst (x.2.map V.int)) wl=some (.lst (x.2.map V.int)):=aq;generalize upd Hx wl (.lst (x.2.map V.int))=H3 at s3 g3 ⊢;walk_at"e";refine⟨aV (by simp),λa na=>?_⟩;have s4:=aL na (.tup [.str "lost",.int c.birth,.ref wl]);exact q2 q qs i x c a wl _ bf hx hno hc z (s02.trans (s3.trans s4)) (s02.free (s3.free na)) (s02.free nwl) aq (s4 _ _ g3)
  ·walk_at"e";refine⟨_,_,_,rfl,rfl,λk y d hk e1 e2=>?_⟩
   by_cases h:k<i
   ·exact hno k y d h e1 e2
   ·have:k=i:=by omega
    subst this;rw[hx]at e1;cases e1;rw[hc]at e2;cases e2;exact z
 ·rintro σ Hx ⟨v1,v2,v3,rfl,rfl,hno⟩;rw[aY,hlq]at hno;walk_at"e";refine q1 q qs Hx bf (λx hx c hc=>?_) s02;obtain⟨k,hk,e⟩:=List.getElem_of_mem hx;exact hno k x c hk (by rw[bL hk,e]) hc
def YX{M:Wm}:((uc M).map some).map (vQ M)=(ud M).map some:=by
 unfold uc ud;rw[List.map_map,List.map_filterMap,List.map_filterMap];refine Jo λi hi=>?_;rw[Option.map_map,Option.map_map];cases hp:wA M i with
 | none=>rfl
 | some c=>
  unfold wA at hp;obtain⟨d,hd,e⟩:=Option.bind_eq_some_iff.mp hp;have hdc:d=c:=by
   split at e
   ·cases e
   ·exact Option.some.inj e
  subst hdc;show some (vQ M (some (i:Int)))=some (some d.birth);have:cellAt M (i:Int)=some d:=by
   unfold cellAt;rw[if_pos (by omega),Int.toNat_natCast,hd]
  show some ((cellAt M (i:Int)).map _)=_;rw[this];rfl
def Zg4{M:Wm}(h:M.cells.length<=900):(ud M).length<=900/\(uc M).length<=900:=by
 unfold ud uc;have h1:=List.length_filterMap_le (λi=>(wA M i).map (·.birth)) (List.range M.cells.length);have h2:=List.length_filterMap_le (λ(i:Nat)=>(wA M i).map λ_=>(i:Int)) (List.range M.cells.length);rw[List.length_range]at h1 h2;exact⟨by omega,by omega⟩
def Zwo{wo:Addr}(Tx:pZ K X)(q:Ec X Zg6 wo H Q):Zfw K (jO X) (uD X) (Bo X) (mW K) ⟨n,Q,bk,ct⟩ [some (.ref wo),none,none,none] H:=by
 obtain⟨T,s,A,M,lb,lw,w,s0,j,rfl,ok,⟨ph,gr,cd⟩,lo,q⟩:=q;obtain⟨dw,ow⟩:=j.jb.ow;obtain⟨ds,os⟩:=j.js.os;obtain⟨dh,oh⟩:=j.jh.oh;have hcl:=ok.cl;unfold Zfw;walk_at"e";refine aH ow Tx.cW Tx.Rx bx ?_;walk_at"e";refine aH ow Tx.cW Tx.Nh bD ?_;refine aH oh Tx.c.cN Tx.c.bM bT ?_;walk_at"e";refine jt (cL.of j.jh.oc) ?_;rw[aY,j.jc.lc];walk_at"e";refine⟨A.sw,X.S,ds,_,rfl,os,Tx.cS,Tx.n7,by show 11<1000;decide,?_⟩;rw[Og];walk_at"e";refine⟨A.sw,X.S,ds,_,rfl,aq,Tx.cS,Tx.n6,by show 11<1000;decide,?_⟩;rw[Fv,eY];obtain⟨st1,j1⟩:=j.sweep w s0 (dx:=ds) { M.sw with stop:=M.cells.length,at':=0 } rfl;have j1:WJ X _ T s A (jm M):=j1;generalize upd H A.sw (.ins X.S ds (cA M.sw.sense M.sw.phase A.gr M.sw.looked M.sw.turn 0 M.cells.length M.sw.walks M.sw.looks M.sw.passes M.sw.loss))=H1 at st1 j1 ⊢;have ok1:S7 (jm M):=⟨ok.cl,ok.hl,ok.fl,ok.nl,ok.gl,ok.gc,ok.ph,Int.le_refl _⟩;walk_at"e";refine⟨_,rfl,T,s,A,jm M,st1.wt,s0,j1,rfl,ok1,λq' qs H2 bf hno s2=>?_,λq' qs i x c a wl H2 bf hx hno hc ht s2 na nwl oa owl=>?_⟩
 ·have j2:=j1.same s2;obtain⟨dw2,ow2⟩:=j2.jb.ow;obtain⟨ds2,os2⟩:=j2.js.os;walk_at"e";refine⟨A.sw,X.S,ds2,_,rfl,os2,Tx.cS,Tx.n2,by show 11<1000;decide,?_⟩;rw[oG];obtain⟨st3,j3⟩:=j2.sweep (st1.wt.same s2) s0 (dx:=ds2) { (jm M).sw with phase:="give" } rfl;have j3:WJ X _ T s A { jm M with sw:={ (jm M).sw with phase:="give" } }:=j3;generalize upd H2 A.sw (.ins X.S ds2 (cA (jm M).sw.sense "give" A.gr (jm M).sw.looked (jm M).sw.turn (jm M).sw.at' (jm M).sw.stop (jm M).sw.walks (jm M).sw.looks (jm M).sw.passes (jm M).sw.loss))=H3 at st3 j3 ⊢;obtain⟨dw3,ow3⟩:=j3.jb.ow;obtain⟨ob,ol⟩:=Zg4 hcl;walk_at"e";refine aH ow3 Tx.cW Tx.Nh bD ?_;walk_at"e";refine⟨_,rfl,T,s,A,_,j3,rfl,hcl,λl4 H4 s4 nl4 g4=>?_⟩;have e4:(uc { jm M with sw:={ (jm M).sw with phase:="give" } }).map V.int=((uc M).map some).map oV:=by
   rw[List.map_map];rfl
  rw[e4]at g4;walk_at"e";refine⟨A.hp,l4,rfl,T,s,A,_,(uc M).map some,j3.same s4,rfl,g4,by rw[aY];omega,λl5 nl5=>?_⟩;have e5:(((uc M).map some).map (vQ { jm M with sw:={ (jm M).sw with phase:="give" } })).map oV=(ud M).map V.int:=by
   have:vQ { jm M with sw:={ (jm M).sw with phase:="give" } }=vQ M:=by funext x;cases x<;>rfl
   rw[this,YX,List.map_map];rfl
  rw[e5];have s5:=aL nl5 (.lst ((ud M).map V.int));have g5:upd H4 l5 (.lst ((ud M).map V.int)) l5=some (.lst ((ud M).map V.int)):=aq;generalize upd H4 l5 (.lst ((ud M).map V.int))=H5 at s5 g5 ⊢;walk_at"e";refine jt (cL.of g5) ?_;rw[aY];walk_at"e";refine⟨aV (by simp),λa na=>?_⟩;have s6:=aL na (.tup [.str "cut",.int (ud M).length,.ref l5]);have s35:=s4.trans (s5.trans s6);have fr:H l5=none:=jo.free st1 (s2.free (jo.free st3 (s4.free nl5)));exact q _ _ (.cut q' qs ph gr cd bf hno) _ T A a (st1.trans ((jo.same st1.wt s2).trans (st3.trans (jo.same st3.wt s35)))) (j3.same s35) ⟨rfl,rfl⟩ ⟨l5,fr,aq,s6 _ _ g5⟩ λz=>absurd z (show ¬ ("give":Str)="lost" by decide)
 ·have j2:=j1.same s2;have w2:=st1.wt.same s2;obtain⟨ds2,os2⟩:=j2.js.os;walk_at"e";refine⟨A.sw,X.S,ds2,_,rfl,os2,Tx.cS,Tx.n2,by show 11<1000;decide,?_⟩;rw[oG];walk_at"e";refine⟨A.sw,X.S,ds2,_,rfl,aq,Tx.cS,Tx.n11,by show 11<1000;decide,?_⟩;rw[Oh,eY];obtain⟨st3,j3⟩:=j2.sweep w2 s0 (dx:=ds2) { (jm M).sw with phase:="lost",loss:=.ref a } rfl;have j3:WJ X _ T s A { jm M with sw:={ (jm M).sw with phase:="lost",loss:=.ref a } }:=j3;have ta:T a=(0,0):=st1.wt _ na;have tw:T wl=(0,0):=st1.wt _ nwl;have oa3:upd H2 A.sw (.ins X.S ds2 (cA (jm M).sw.sense "lost" A.gr (jm M).sw.looked (jm M).sw.turn (jm M).sw.at' (jm M).sw.stop (jm M).sw.walks (jm M).sw.looks (jm M).sw.passes (.ref a))) a=some (.tup [.str "lost",.int c.birth,.ref wl]):=(aC (qz oa os2 (λz=>by cases z))).trans oa;have Zur:upd H2 A.sw (.ins X.S ds2 (cA (jm M).sw.sense "lost" A.gr (jm M).sw.looked (jm M).sw.turn (jm M).sw.at' (jm M).sw.stop (jm M).sw.walks (jm M).sw.looks (jm M).sw.passes (.ref a))) wl=some (.lst (x.2.map V.int)):=(aC (qz owl os2 (λz=>by cases z))).trans owl;generalize upd H2 A.sw (.ins X.S ds2 (cA (jm M).sw.sense "lost" A.gr (jm M).sw.looked (jm M).sw.turn (jm M).sw.at' (jm M).sw.stop (jm M).sw.walks (jm M).sw.looks (jm M).sw.passes (.ref a)))=H3 at st3 j3 oa3 Zur ⊢;walk_at"e";refine⟨a,rfl,"lost",c.birth,wl,x.2,oa3,Zur,λa' l' H4 s4 nl' oa' ol'=>?_⟩;have fr:H l'=none:=jo.free st1 (s2.free (jo.free st3 nl'));exact q _ _ (.lost q' qs i x c (.ref a) ph gr cd bf hx hno hc ht) _ T A a' (st1.trans ((jo.same st1.wt s2).trans (st3.trans (jo.same st3.wt s4)))) (j3.same s4) ⟨rfl,rfl⟩ ⟨l',fr,oa',ol'⟩ λ_=>⟨c.birth,rfl,a,wl,rfl,ta,s4 _ _ oa3,tw,s4 _ _ Zur⟩
end
section
variable {K:aB}{X:Cs}{H:Hp}{Q:VK}{E:XK}{n:St->Hp->Prop}{bk ct:St->Hp->Prop}
def Zq1{wo:Addr}(Tx:pZ K X)(q:Ec X Zc1 wo H Q):YH K (fG X) ⟨n,Q,bk,ct⟩ [some (.ref wo),none,none] H:=by
 obtain⟨T,s,A,M,lb,lw,w,s0,j,rfl,ok,⟨ph,gr⟩,lo,q⟩:=q;obtain⟨dw,ow⟩:=j.jb.ow;obtain⟨ds,os⟩:=j.js.os;obtain⟨dh,oh⟩:=j.jh.oh;have og:=j.js.og;cases hg:M.sw.grey with
 | nil=>exact absurd hg gr
 | cons x g=>
  obtain⟨c,hc⟩:=ok.gc ph x (by rw[hg];simp);obtain⟨x0,hcc⟩:=dm.mp hc;have hgl:=ok.gl ph;have hfl:=ok.fl c (vz hc);rw[hg]at og;unfold YH;walk_at"e";refine aH ow Tx.cW Tx.Rx bx ?_;walk_at"e";refine aH ow Tx.cW Tx.Nh bD ?_;refine aH oh Tx.c.cN Tx.c.bM bT ?_;walk_at"e";refine aH os Tx.cS Tx.n3 mq ?_;walk_at"e";refine⟨.inl ⟨rfl,_,cL.of og⟩,?_⟩;walk_at"e";refine⟨A.gr,_,0,0,.int x,rfl,rfl,og,by decide,by decide,by simp[seqIndex?],rfl,?_⟩;obtain⟨st1,j1⟩:=j.Ztv w s0 (g:=g);show mO K _ _ (upd H A.gr (.lst (g.map V.int))) _;generalize upd H A.gr (.lst (g.map V.int))=H1 at st1 j1 ⊢;obtain⟨pp,hpp,ce⟩:=j1.jc.at (i:=x.toNat) (c:=c) hcc;refine ji (cL.of j1.jh.oc) (qM (v:=.ref pp.1) x0 (by rw[cz,hpp];rfl)) ?_;obtain⟨ds1,os1⟩:=j1.js.os;walk_at"e";refine aH os1 Tx.cS Tx.n8 tQ ?_;walk_at"e";refine⟨A.sw,X.S,ds1,_,rfl,os1,Tx.cS,Tx.n8,by show 11<1000;decide,?_⟩;rw[yL];obtain⟨st2,j2⟩:=j1.sweep st1.wt s0 (dx:=ds1) { M.sw with grey:=g,walks:=M.sw.walks+1 } rfl;have j2:WJ X _ T s A { M with sw:={ M.sw with grey:=g,walks:=M.sw.walks+1 } }:=j2;generalize upd H1 A.sw _=H2 at st2 j2 ⊢;obtain⟨pp2,Zye,ce2⟩:=j2.jc.at (i:=x.toNat) (c:=c) hcc;rw[hpp]at Zye;cases Zye;obtain⟨_,_,⟨dc,oc⟩,of'⟩:=id ce2;walk_at"e";refine aH oc Tx.c.cZ Tx.c.dU gM ?_;walk_at"e";refine aH oc Tx.c.cZ Tx.c.eX lD ?_;walk_at"e";refine⟨_,_,rfl,c.fl,T,s,A,_,st2.wt,s0,j2,rfl,.inr (.inr ⟨x.toNat,pp,c,hpp,hcc,rfl,rfl⟩),by omega,λ_=>?_,λH3 T3 l st3 j3 g3 nl3=>?_⟩
  ·show g.length<=10000;rw[hg,List.length_cons]at hgl;omega
  walk_at"e";refine⟨aV (by simp),λa na=>?_⟩;have s4:=aL na (.tup [.str "walk",.int c.birth,.ref l]);refine q _ _ (.walk x g c ph hg hc) _ T3 A a (st1.trans (st2.trans (st3.trans (jo.same st3.wt s4)))) (j3.same s4) ⟨rfl,rfl⟩ ⟨l,jo.free st1 (jo.free st2 nl3),aq,s4 _ _ g3⟩ λz=>?_;rw[(wC (l:=c.fl) (M:={ M with sw:={ M.sw with grey:=g,walks:=M.sw.walks+1 } })).1]at z;exact absurd (ph.symm.trans z) (show ¬ ("walk":Str)="lost" by decide)
def Uo{wo:Addr}(Tx:pZ K X)(q:Ec X Zc2 wo H Q):xM K X.H (tL X.C X.H) (dX X.H) (cM X) ⟨n,Q,bk,ct⟩ [some (.ref wo),none,none,none] H:=by
 obtain⟨T,s,A,M,lb,lw,w,s0,j,rfl,ok,⟨ph,lt⟩,lo,q⟩:=q;obtain⟨dw,ow⟩:=j.jb.ow;obtain⟨ds,os⟩:=j.js.os;unfold xM;walk_at"e";refine aH ow Tx.cW Tx.Rx bx ?_;walk_at"e";refine aH os Tx.cS Tx.n6 uq ?_;walk_at"e";refine⟨A.sw,X.S,ds,_,rfl,os,Tx.cS,Tx.n6,by show 11<1000;decide,?_⟩;rw[Fv];walk_at"e";refine aH aq Tx.cS Tx.n10 qU ?_;walk_at"e";refine⟨A.sw,X.S,ds,_,rfl,aq,Tx.cS,Tx.n10,by show 11<1000;decide,?_⟩;rw[vY,eY];obtain⟨st1,j1⟩:=j.sweep w s0 (dx:=ds) { M.sw with at':=M.sw.at'+1,passes:=M.sw.passes+1 } rfl;generalize upd H A.sw _=H1 at st1 j1 ⊢;obtain⟨dw1,ow1⟩:=j1.jb.ow;obtain⟨dh1,oh1⟩:=j1.jh.oh;walk_at"e";refine aH ow1 Tx.cW Tx.Nh bD ?_;walk_at"e";refine⟨_,_,rfl,yQ (some M.sw.at'),_,_,_,_,_,j1.hpO,?_⟩;have pas:(∀c,cellAt M M.sw.at'=some c->c.tone=M.sw.sense)->∀l a H2,H1 l=none->aX H1 H2->H2 a=some (.tup [.str "pass",.int M.sw.at',.ref l])->H2 l=some (.lst [])->Q (.ref a) H2:=λhp l a H2 nl s2 oa ol=>
  q _ _ (.pass ph lt hp) _ T A a (st1.trans (jo.same st1.wt s2)) (j1.same s2) ⟨rfl,rfl⟩ ⟨l,jo.free st1 nl,oa,ol⟩ λz=>absurd (ph.symm.trans z) (show ¬ ("give":Str)="lost" by decide)
 rcases j1.look (some M.sw.at')with ⟨e1,e2⟩ | ⟨i,c,pp,ei,h0,ec,hcc,hpp,e2,ce⟩
 ·have e1:cellAt M M.sw.at'=none:=e1;rw[show atO (A.cs.map pV) (.int M.sw.at')=.non from e2];walk_at"e";refine⟨aV (by simp),λl nl=>⟨aV (by simp),λa na=>?_⟩⟩;have s2:=aL nl (.lst []);have s3:=aL na (.tup [.str "pass",.int M.sw.at',.ref l]);exact pas (λc hc=>by rw[e1]at hc;cases hc) l a _ nl (s2.trans s3) aq (s3 _ _ aq)
 ·cases ei;have ec:cellAt M M.sw.at'=some c:=ec;rw[show atO (A.cs.map pV) (.int M.sw.at')=.ref pp.1 from e2];walk_at"e";refine⟨_,_,rfl,T,s,A,_,_,pp,c,j1.w0,rfl,ce,rfl,?_⟩
  by_cases z:c.tone=M.sw.sense
  ·rw[decide_eq_true (show c.tone=({ M.sw with at':=M.sw.at'+1,passes:=M.sw.passes+1 }:Sw).sense from z)];walk_at"e";refine⟨aV (by simp),λl nl=>⟨aV (by simp),λa na=>?_⟩⟩;have s2:=aL nl (.lst []);have s3:=aL na (.tup [.str "pass",.int M.sw.at',.ref l]);exact pas (λd hd=>by rw[ec]at hd;cases hd;exact z) l a _ nl (s2.trans s3) aq (s3 _ _ aq)
  ·rw[decide_eq_false (show ¬ c.tone=({ M.sw with at':=M.sw.at'+1,passes:=M.sw.passes+1 }:Sw).sense from z)];obtain⟨k,ek⟩:=toN h0;have hk:M.cells[k]? =some (some c):=by rw[ek,Int.toNat_natCast]at hcc;exact hcc
   walk_at"e";refine aH ow1 Tx.cW Tx.Nh bD ?_;walk_at"e";refine⟨A.hp,dh1,_,rfl,oh1,Vo,?_⟩;walk_at"e";rw[ek];refine Zl9 j1 st1.wt s0 hk λH2 A2 st2 j2 aw2=>?_;walk_at"e";refine⟨aV (by simp),λl nl=>⟨aV (by simp),λa na=>?_⟩⟩;have s3:=aL nl (.lst [.int (k:Int)]);have s4:=aL na (.tup [.str "back",.int c.birth,.ref l]);have s34:=s3.trans s4;have rr:=vB.back (lb:=lb) (lw:=lw) (M:=M) c ph lt ec z;rw[ek,Int.toNat_natCast]at rr;rw[ek]at j2;exact q _ _ rr _ T A2 a (st1.trans (st2.trans (jo.same st2.wt s34))) (j2.same s34) aw2 ⟨l,jo.free st1 (jo.free st2 nl),aq,s4 _ _ aq⟩ λy=>absurd (ph.symm.trans y) (show ¬ ("give":Str)="lost" by decide)
def Zwk{wo:Addr}(Tx:pZ K X)(q:Ec X pEnd wo H Q):Zfv K ⟨n,Q,bk,ct⟩ [some (.ref wo),none] H:=by
 obtain⟨T,s,A,M,lb,lw,w,s0,j,rfl,ok,⟨ph,lt⟩,lo,q⟩:=q;obtain⟨dw,ow⟩:=j.jb.ow;obtain⟨ds,os⟩:=j.js.os;unfold Zfv;walk_at"e";refine aH ow Tx.cW Tx.Rx bx ?_;walk_at"e";refine⟨A.sw,X.S,ds,_,rfl,os,Tx.cS,Tx.n2,by show 11<1000;decide,?_⟩;rw[oG];obtain⟨st1,j1⟩:=j.sweep w s0 (dx:=ds) { M.sw with phase:="rest" } rfl;generalize upd H A.sw _=H1 at st1 j1 ⊢;obtain⟨ds1,os1⟩:=j1.js.os;walk_at"e";refine aH os1 Tx.cS Tx.n5 nQ ?_;walk_at"e";refine aH os1 Tx.cS Tx.n8 tQ ?_;walk_at"e";refine aH os1 Tx.cS Tx.n9 o9 ?_;walk_at"e";refine aH os1 Tx.cS Tx.n10 qU ?_;walk_at"e";refine⟨aV (by simp),λl nl=>⟨aV (by simp),λa na=>?_⟩⟩;have s2:=aL nl (.lst [.int M.sw.walks,.int M.sw.looks,.int M.sw.passes]);have s3:=aL na (.tup [.str "end",.int M.sw.turn,.ref l]);have s23:=s2.trans s3;exact q _ _ (.fin ph lt) _ T A a (st1.trans (jo.same st1.wt s23)) (j1.same s23) ⟨rfl,rfl⟩ ⟨l,jo.free st1 nl,aq,s3 _ _ aq⟩ λz=>absurd z (show ¬ ("rest":Str)="lost" by decide)
def Ol{wo:Addr}(Tx:pZ K X)(q:Ec X (Pk "give") wo H Q):tZ K (bU X pEnd) (bU X Zc2) ⟨n,Q,bk,ct⟩ [some (.ref wo)] H:=by
 obtain⟨T,s,A,M,lb,lw,w,s0,j,rfl,ok,ph,lo,q⟩:=q;obtain⟨dw,ow⟩:=j.jb.ow;obtain⟨ds,os⟩:=j.js.os;unfold tZ;walk_at"e";refine aH ow Tx.cW Tx.Rx bx ?_;walk_at"e";refine aH os Tx.cS Tx.n6 uq ?_;walk_at"e";refine aH ow Tx.cW Tx.Rx bx ?_;walk_at"e";refine aH os Tx.cS Tx.n7 uM ?_;walk_at"e";refine vO (λz=>?_) (λz=>?_)
 ·walk_at"e";exact⟨_,rfl,T,s,A,M,lb,lw,w,s0,j,rfl,ok,⟨ph,z⟩,lo,q⟩
 ·walk_at"e";exact⟨_,rfl,T,s,A,M,lb,lw,w,s0,j,rfl,ok,⟨ph,z⟩,lo,q⟩
def Oj{wo:Addr}(Tx:pZ K X)(q:Ec X (Pk "walk") wo H Q):tY K (bU X Zc3) (bU X Zc1) ⟨n,Q,bk,ct⟩ [some (.ref wo)] H:=by
 obtain⟨T,s,A,M,lb,lw,w,s0,j,rfl,ok,ph,lo,q⟩:=q;obtain⟨dw,ow⟩:=j.jb.ow;obtain⟨ds,os⟩:=j.js.os;unfold tY;walk_at"e";refine aH ow Tx.cW Tx.Rx bx ?_;walk_at"e";refine aH os Tx.cS Tx.n3 mq ?_;refine Zx7 (cL.of j.js.og) ?_;cases hg:M.sw.grey with
 | nil=>
  refine Za0 ?_;walk_at"e";exact⟨_,rfl,T,s,A,M,lb,lw,w,s0,j,rfl,ok,⟨ph,hg⟩,lo,q⟩
 | cons x g=>
  refine Zh6 ?_;walk_at"e";exact⟨_,rfl,T,s,A,M,lb,lw,w,s0,j,rfl,ok,⟨ph,by rw[hg];simp⟩,lo,q⟩
def Ho{wo:Addr}(Tx:pZ K X)(q:Ec X (Pk "lost") wo H Q):qb K (mW K) ⟨n,Q,bk,ct⟩ [some (.ref wo)] H:=by
 obtain⟨T,s,A,M,lb,lw,w,s0,j,rfl,ok,ph,lo,q⟩:=q;obtain⟨dw,ow⟩:=j.jb.ow;obtain⟨ds,os⟩:=j.js.os;obtain⟨la,wl,e1,t1,o1,t2,o2⟩:=lo ph;rw[e1]at os;unfold qb;walk_at"e";refine aH ow Tx.cW Tx.Rx bx ?_;walk_at"e";refine aH os Tx.cS Tx.n11 Qm ?_;walk_at"e";refine⟨la,rfl,"lost",lb,wl,lw,o1,o2,λa l H1 s1 nl oa ol=>?_⟩;exact q _ _ (.again ph) _ T A a (jo.same w s1) (j.same s1) ⟨rfl,rfl⟩ ⟨l,nl,oa,ol⟩ λ_=>⟨lb,rfl,la,wl,e1,t1,s1 _ _ o1,t2,s1 _ _ o2⟩
def Zq4{wo f1 f2 f3 f4:Addr}(Tx:pZ K X)(q:Ec X Zk4 wo H Q):YJ K f1 f2 f3 f4 (bU X (Pk "rest")) (bU X (Pk "give")) (bU X (Pk "walk")) (bU X (Pk "lost")) ⟨n,Q,bk,ct⟩ [some (.ref wo),none] H:=by
 obtain⟨T,s,A,M,lb,lw,w,s0,j,rfl,ok,_,lo,q⟩:=q;obtain⟨dw,ow⟩:=j.jb.ow;obtain⟨ds,os⟩:=j.js.os;unfold YJ;walk_at"e";refine aH ow Tx.cW Tx.Rx bx ?_;walk_at"e";refine aH os Tx.cS Tx.n2 fQ ?_;rcases ok.ph with ph | ph | ph | ph
 ·rw[ph];refine⟨_,f1,rfl,rfl,?_⟩;walk_at"e";refine nJ (bU X (Pk "rest")) rfl (by simp) ?_;walk_at"e";exact⟨_,rfl,T,s,A,M,lb,lw,w,s0,j,rfl,ok,ph,lo,q⟩
 ·rw[ph];refine⟨_,f3,rfl,rfl,?_⟩;walk_at"e";refine nJ (bU X (Pk "walk")) rfl (by simp) ?_;walk_at"e";exact⟨_,rfl,T,s,A,M,lb,lw,w,s0,j,rfl,ok,ph,lo,q⟩
 ·rw[ph];refine⟨_,f2,rfl,rfl,?_⟩;walk_at"e";refine nJ (bU X (Pk "give")) rfl (by simp) ?_;walk_at"e";exact⟨_,rfl,T,s,A,M,lb,lw,w,s0,j,rfl,ok,ph,lo,q⟩
 ·rw[ph];refine⟨_,f4,rfl,rfl,?_⟩;walk_at"e";refine nJ (bU X (Pk "lost")) rfl (by simp) ?_;walk_at"e";exact⟨_,rfl,T,s,A,M,lb,lw,w,s0,j,rfl,ok,ph,lo,q⟩
end
section
variable {K:aB}{X:Cs}{H:Hp}{Q:VK}{E:XK}{n:St->Hp->Prop}{bk ct:St->Hp->Prop}
def Qo{A:Wa}{w:Int}{σ:St}{te:TE}{q:Bool->Hp->Prop}(ol:∃dx,(w=0/\H A.lk=some (.ins X.F dx []))\/(w=1/\H A.lk=some (.ins X.E dx []))\/(w=2/\H A.lk=some (.ins X.L dx [])))(hte:∀Q':VK,Q' (.ref A.lk) H->te σ H Q')(h:q (decide (w≠2)) H):
  tB (G.JP (lX X.F "stays" (rR (.bl true)) [] E0 te aD) (G.JP (lX X.E "stays" (rR (.bl true)) [] E0 te aD) (lX X.L "stays" (rR (.bl false)) [] E0 te aD))) σ H q:=by
 refine Zxy ?_;obtain⟨dl,⟨ew,o⟩ | ⟨ew,o⟩ | ⟨ew,o⟩⟩:=ol
 ·rw[show decide (w≠2)=true from decide_eq_true (by omega)]at h;refine W8 ?_;walk_at"s";refine hte _ ?_;refine⟨A.lk,dl,_,rfl,o,rfl,?_⟩;walk_at"s";exact⟨_,rfl,i_B h⟩
 ·rw[show decide (w≠2)=true from decide_eq_true (by omega)]at h;refine Jj (W8 ?_);walk_at"s";refine hte _ ?_;refine⟨A.lk,dl,_,rfl,o,rfl,?_⟩;walk_at"s";exact⟨_,rfl,i_B h⟩
 ·rw[show decide (w≠2)=false from decide_eq_false (by omega)]at h;refine Jj (Jj ?_);walk_at"s";refine hte _ ?_;refine⟨A.lk,dl,_,rfl,o,rfl,?_⟩;walk_at"s";exact⟨_,rfl,i_B h⟩
def Zkm{T:Tg}{s:Nat}{A:Wa}{M:Wm}{lb:Int}{lw:List Int}(Tx:pZ K X)(w:WT H T)(s0:s≠0)(j:WJ X H T s A M)(ok:S7 M)(ph:M.sw.phase="walk")(gr:M.sw.grey=[])
  (q:∀e M',vB lb lw M e M'->∀H' T' A' a,jo s H H' T T'->WJ X H' T' s A' M'->A'.wo=A.wo/\A'.sw=A.sw->EvN H H' a e->(M'.sw.phase="lost"->∃b,e.thing=some b/\Zpw H' T' M' b e.notes)->Q (.ref a) H'):
  oR K X.E X.F X.L (rR (.bl false)) (rR (.bl true)) (bU X Zg6) (lO X) ⟨n,Q,bk,ct⟩ [some (.ref A.wo),some (.ref A.sw),some (.ref A.lk),some (.int (cV M)),none] H:=by
 unfold oR;walk_at"e";refine⟨_,_,rfl,T,s,A,M,w,s0,j,rfl,ok.hl,λ_=>by rw[gr];exact Nat.zero_le _,λH1 T1 l st1 j1 g1 nl=>?_⟩;have nt:=Zw (cV M) M.hands 0 M;have ww:=nt.ww;have ol:=j1.jb.ol;rw[ww]at ol;have Zyr:Ea M->bU X Zg6 [.ref A.wo] H1 Q E0:=λcd=>by
  have e:(iH (cV M) M.hands 0 M).2=M:=by
   rcases cd with z | ⟨_,z⟩
   ·rw[z,Zcp]
   ·exact Zx _ z
  rw[e]at j1;refine⟨_,rfl,T1,s,A,M,lb,lw,st1.wt,s0,j1,rfl,ok,⟨ph,gr,cd⟩,λz=>absurd (ph.symm.trans z) (by decide),λe' M' r H' T' A' a st' j' aw' ev' lo'=>?_⟩;obtain⟨l',nl',o1,o2⟩:=ev';exact q e' M' r H' T' A' a (st1.trans st') j' aw' ⟨l',jo.free st1 nl',o1,o2⟩ lo'
 have NK:¬ Ea M->∀(lo:Int),lo=(if M.w=2 then(iH (cV M) M.hands 0 M).2.sw.looked else Builtin.bitOr (iH (cV M) M.hands 0 M).2.sw.looked (cV M))->∀H2,jo s H1 H2 T1 T1->WJ X H2 T1 s A { (iH (cV M) M.hands 0 M).2 with sw:={ (iH (cV M) M.hands 0 M).2.sw with looks:=(iH (cV M) M.hands 0 M).2.sw.looks+1,looked:=lo } }->H2 l=some (.lst ((iH (cV M) M.hands 0 M).1.map V.int))->∀a,H2 a=none->Q (.ref a) (upd H2 a (.tup [.str "look",.int (cV M),.ref l])):=λnc lo elo H2 st2 j2 g2 a na=>by
  have s3:=aL na (.tup [.str "look",.int (cV M),.ref l]);subst elo;refine q _ _ (.look _ ph gr nc rfl) _ T1 A a (st1.trans (st2.trans (jo.same st2.wt s3))) (j2.same s3) ⟨rfl,rfl⟩ ⟨l,nl,aq,s3 _ _ g2⟩ λz=>?_;have:=(Dz (cV M) 100 M.hands 0 M ok.hl).1;have z:(iH (cV M) M.hands 0 M).2.sw.phase="lost":=z;rw[this]at z;exact absurd (ph.symm.trans z) (by decide)
 walk_at"e";refine vO (λhz=>?_) (λhz=>?_)
 ·walk_at"e";exact Zyr (.inl hz)
 ·refine Ztu ?_;refine Zxz ?_;refine Qo ol (λQ' h=>by walk_at"s";exact h) ?_
  by_cases w2:M.w=2
  ·rw[show decide (M.w≠2)=false from decide_eq_false (by omega)];refine Za0 ?_;refine Ztt ?_;walk_at"s";refine Zx7 (cL.of g1) ?_;cases hn:(iH (cV M) M.hands 0 M).1 with
   | nil=>
    refine Zh6 ?_;walk_at"e";exact Zyr (.inr ⟨w2,hn⟩)
   | cons b bs=>
    have nc:¬ Ea M:=λz=>by
     rcases z with z | ⟨_,z⟩
     ·exact hz z
     ·rw[hn]at z;cases z
    have NK:=NK nc _ rfl;rw[if_pos w2]at NK;obtain⟨ds1,os1⟩:=j1.js.os;refine Za0 ?_;walk_at"e";refine aH os1 Tx.cS Tx.n9 o9 ?_;walk_at"e";refine⟨A.sw,X.S,ds1,_,rfl,os1,Tx.cS,Tx.n9,by show 11<1000;decide,?_⟩;rw[qT];obtain⟨st2,j2⟩:=j1.sweep st1.wt s0 (dx:=ds1) { (iH (cV M) M.hands 0 M).2.sw with looks:=(iH (cV M) M.hands 0 M).2.sw.looks+1 } rfl;have g2:upd H1 A.sw (.ins X.S ds1 (cA (iH (cV M) M.hands 0 M).2.sw.sense (iH (cV M) M.hands 0 M).2.sw.phase A.gr (iH (cV M) M.hands 0 M).2.sw.looked (iH (cV M) M.hands 0 M).2.sw.turn (iH (cV M) M.hands 0 M).2.sw.at' (iH (cV M) M.hands 0 M).2.sw.stop (iH (cV M) M.hands 0 M).2.sw.walks ((iH (cV M) M.hands 0 M).2.sw.looks+1) (iH (cV M) M.hands 0 M).2.sw.passes (iH (cV M) M.hands 0 M).2.sw.loss)) l=some (.lst ((iH (cV M) M.hands 0 M).1.map V.int)):=(aC (qz g1 os1 (λz=>by cases z))).trans g1;generalize upd H1 A.sw _=H2 at st2 j2 g2 ⊢;have ol2:=j2.jb.ol;have ww2:({ (iH (cV M) M.hands 0 M).2 with sw:={ (iH (cV M) M.hands 0 M).2.sw with looks:=(iH (cV M) M.hands 0 M).2.sw.looks+1 } }:Wm).w=M.w:=ww;rw[ww2]at ol2;refine Ji ?_;refine Zvz ?_;refine Qo ol2 (λQ' h=>by walk_at"s";exact h) ?_;rw[show decide (M.w≠2)=false from decide_eq_false (by omega)];walk_at"e";exact⟨aV (by simp),λa na=>NK H2 st2 j2 g2 a na⟩
  ·rw[show decide (M.w≠2)=true from decide_eq_true (by omega)];have nc:¬ Ea M:=λz=>by
    rcases z with z | ⟨z,_⟩
    ·exact hz z
    ·exact w2 z
   have NK:=NK nc _ rfl;rw[if_neg w2]at NK;obtain⟨ds1,os1⟩:=j1.js.os;walk_at"e";refine aH os1 Tx.cS Tx.n9 o9 ?_;walk_at"e";refine⟨A.sw,X.S,ds1,_,rfl,os1,Tx.cS,Tx.n9,by show 11<1000;decide,?_⟩;rw[qT];obtain⟨ZHz,j1b⟩:=j1.sweep st1.wt s0 (dx:=ds1) { (iH (cV M) M.hands 0 M).2.sw with looks:=(iH (cV M) M.hands 0 M).2.sw.looks+1 } rfl;have ol2:=j1b.jb.ol;have ww2:({ (iH (cV M) M.hands 0 M).2 with sw:={ (iH (cV M) M.hands 0 M).2.sw with looks:=(iH (cV M) M.hands 0 M).2.sw.looks+1 } }:Wm).w=M.w:=ww;rw[ww2]at ol2;refine Ji ?_;refine Zvz ?_;refine Qo ol2 (λQ' h=>by walk_at"s";exact h) ?_;rw[show decide (M.w≠2)=true from decide_eq_true (by omega)];walk_at"e";refine aH aq Tx.cS Tx.n4 iG ?_;walk_at"e";refine⟨A.sw,X.S,ds1,_,rfl,aq,Tx.cS,Tx.n4,by show 11<1000;decide,?_⟩;rw[vZ,eY];obtain⟨st2,j2⟩:=j1.sweep st1.wt s0 (dx:=ds1) { (iH (cV M) M.hands 0 M).2.sw with looks:=(iH (cV M) M.hands 0 M).2.sw.looks+1,looked:=Builtin.bitOr (iH (cV M) M.hands 0 M).2.sw.looked (cV M) } rfl;have g2:upd H1 A.sw (.ins X.S ds1 (cA (iH (cV M) M.hands 0 M).2.sw.sense (iH (cV M) M.hands 0 M).2.sw.phase A.gr (Builtin.bitOr (iH (cV M) M.hands 0 M).2.sw.looked (cV M)) (iH (cV M) M.hands 0 M).2.sw.turn (iH (cV M) M.hands 0 M).2.sw.at' (iH (cV M) M.hands 0 M).2.sw.stop (iH (cV M) M.hands 0 M).2.sw.walks ((iH (cV M) M.hands 0 M).2.sw.looks+1) (iH (cV M) M.hands 0 M).2.sw.passes (iH (cV M) M.hands 0 M).2.sw.loss)) l=some (.lst ((iH (cV M) M.hands 0 M).1.map V.int)):=(aC (qz g1 os1 (λz=>by cases z))).trans g1;generalize upd H1 A.sw _=H2 at st2 j2 g2 ⊢;walk_at"e";exact⟨aV (by simp),λa na=>NK H2 st2 j2 g2 a na⟩
def RJ{wo:Addr}(Tx:pZ K X)(q:Ec X Zc3 wo H Q):uW K X.E X.F X.L (iw 1) (iw 2) (rR (.bl false)) (iw 0) (rR (.bl true)) (bU X Zg6) (lO X) ⟨n,Q,bk,ct⟩ [some (.ref wo),none,none,none,none] H:=by
 obtain⟨T,s,A,M,lb,lw,w,s0,j,rfl,ok,⟨ph,gr⟩,lo,q⟩:=q;obtain⟨dw,ow⟩:=j.jb.ow;obtain⟨ds,os⟩:=j.js.os;obtain⟨dk,ok'⟩:=j.jb.ok;have on:=j.jb.on;have lh:=j.jd.lh;have l5:=j.jd.l5;have Zcx:((A.hs.map λp=>V.ref p.1).length:Int)=(M.hands.length:Int):=by rw[aY,lh]
 have tail:=Zkm (n:=n) (bk:=bk) (ct:=ct) Tx w s0 j ok ph gr q;obtain⟨dl,ol⟩:=j.jb.ol;unfold uW;walk_at"e";refine aH ow Tx.cW Tx.Rx bx ?_;walk_at"e";refine aH ow Tx.cW Tx.nWk mj ?_;refine aH ok' Tx.cK Tx.nKl oK ?_;refine Zw1 ?_;refine Ji ?_;walk_at"s";rcases ol with ⟨ew,o⟩ | ⟨ew,o⟩ | ⟨ew,o⟩
 ·have eb:cV M=Ng 0 M.sw.looked M.hands.length:=by unfold cV;rw[ew];rfl
  refine W8 ?_;walk_at"s";refine⟨A.lk,dl,_,rfl,o,rfl,?_⟩;walk_at"s";refine aH os Tx.cS Tx.n4 iG ?_;walk_at"s";refine aH ow Tx.cW Tx.nWd eV ?_;walk_at"s";refine jt (cL.of on) ?_;rw[Zcx];walk_at"s";refine⟨A.lk,_,_,rfl,by omega,by omega,?_⟩;rw[Int.toNat_natCast,<- eb];walk_at"s";exact tail
 ·have eb:cV M=Ng 1 M.sw.looked M.hands.length:=by unfold cV;rw[ew];rfl
  refine Jj (W8 ?_);walk_at"s";refine⟨A.lk,dl,_,rfl,o,rfl,?_⟩;walk_at"s";refine aH os Tx.cS Tx.n4 iG ?_;walk_at"s";refine aH ow Tx.cW Tx.nWd eV ?_;walk_at"s";refine jt (cL.of on) ?_;rw[Zcx];walk_at"s";refine⟨A.lk,_,_,rfl,by omega,by omega,?_⟩;rw[Int.toNat_natCast,<- eb];walk_at"s";exact tail
 ·have eb:cV M=Ng 2 M.sw.looked M.hands.length:=by unfold cV;rw[ew];rfl
  refine Jj (Jj ?_);walk_at"s";refine⟨A.lk,dl,_,rfl,o,rfl,?_⟩;walk_at"s";refine aH os Tx.cS Tx.n4 iG ?_;walk_at"s";refine aH ow Tx.cW Tx.nWd eV ?_;walk_at"s";refine jt (cL.of on) ?_;rw[Zcx];walk_at"s";refine⟨A.lk,_,_,rfl,by omega,by omega,?_⟩;rw[Int.toNat_natCast,<- eb];walk_at"s";exact tail
end
abbrev O7:=List (Str×Int)
def HsO(H:Hp)(l:Addr)(hs:O7):Prop:=∃ts:List Addr,H l=some (.lst (ts.map V.ref))/\Al (λ(a:Addr) (m:Str×Int)=>H a=some (.tup [.str m.1,.int m.2])) ts hs
def HsO.same{H H':Hp}{l:Addr}{hs:O7}(h:HsO H l hs)(s:aX H H'):HsO H' l hs:=by
 obtain⟨ts,h1,h2⟩:=h;exact⟨ts,s _ _ h1,h2.mono λa m z=>s _ _ z⟩
structure HsB(hs:O7):Prop where
 n1:1<=hs.length
 n5:hs.length<=5
 sb:∀m∈hs,3<=m.2/\m.2<=9
def Rm(hs:O7)(h s:Nat):Prop:=∃m,hs[h]? =some m/\(s:Int)<m.2
def okR(hs:O7):o7->Prop
 | .make h s many bulk=>Rm hs h s/\0<=many/\many<=8/\0<=bulk
 | .get h s t _=>Rm hs h s/\Rm hs h t
 | .put h t _ s=>Rm hs h t/\Rm hs h s
 | .copy h s t=>Rm hs h s/\Rm hs h t
 | .drop h s=>Rm hs h s
 | .give h s g t=>Rm hs h s/\Rm hs g t
 | .write h t _=>Rm hs h t
 | .read h t=>Rm hs h t
 | .name h t _=>Rm hs h t
 | .seek h s _=>Rm hs h s
def HsB.ok{hs:O7}(b:HsB hs){h s:Nat}(hh:h<hs.length)(h3:s<3):Rm hs h s:=by
 have:=b.sb _ (List.getElem_mem hh);exact⟨_,bL hh,by omega⟩
def Zb2(H0 H:Hp)(hs:O7)(vs:List V):Prop:=∀v∈vs,v=.non\/∃t d,v=.ref t/\H0 t=none/\H t=some (.tup (dV d))/\okR hs d
structure RL(H0 H:Hp)(hs:O7)(l:Addr)(N:Nat):Prop where
 s:aX H0 H
 n:H0 l=none
 ex:∃vs,H l=some (.lst vs)/\vs.length<=N/\Zb2 H0 H hs vs
def Zb2.same{H0 H H':Hp}{hs:O7}{vs:List V}(h:Zb2 H0 H hs vs)(s:aX H H'):Zb2 H0 H' hs vs:=λv hv=>by
 rcases h v hv with z | ⟨t,d,e,f,o,k⟩
 ·exact .inl z
 ·exact .inr ⟨t,d,e,f,s _ _ o,k⟩
def RL.same{H0 H H':Hp}{hs:O7}{l:Addr}{N:Nat}(h:RL H0 H hs l N)(s:aX H H'):RL H0 H' hs l N:=by
 obtain⟨s0,n,vs,h1,h2,h3⟩:=h;exact⟨s0.trans s,n,vs,s _ _ h1,h2,h3.same s⟩
def RL.base{H0 H1 H:Hp}{hs:O7}{l:Addr}{N:Nat}(h:RL H1 H hs l N)(s:aX H0 H1):RL H0 H hs l N:=by
 obtain⟨s0,n,vs,h1,h2,h3⟩:=h;refine⟨s.trans s0,s.free n,vs,h1,h2,λv hv=>?_⟩;rcases h3 v hv with z | ⟨t,d,e,f,o,k⟩
 ·exact .inl z
 ·exact .inr ⟨t,d,e,s.free f,o,k⟩
def RL.mono{H0 H:Hp}{hs:O7}{l:Addr}{N N':Nat}(h:RL H0 H hs l N)(n:N<=N'):RL H0 H hs l N':=by
 obtain⟨s0,nn,vs,h1,h2,h3⟩:=h;exact⟨s0,nn,vs,h1,by omega,h3⟩
def yF{H0 H:Hp}{hs:O7}{l1 l2:Addr}{N1 N2:Nat}{Q:VK}(h1:RL H0 H hs l1 N1)(h2:RL H0 H hs l2 N2)(hb:N1+N2<=100000)(k:∀l H',aX H H'->H l=none->RL H0 H' hs l (N1+N2)->Q (.ref l) H'):yc (.ref l1) (.ref l2) H Q:=by
 obtain⟨s0,_,vs,a1,a2,a3⟩:=h1;obtain⟨_,_,ws,b1,b2,b3⟩:=h2;refine⟨l1,l2,_,_,rfl,rfl,a1,b1,aV (by omega),λl nl=>?_⟩;have s:=aL nl (.lst (vs++ws));refine k l _ s nl ⟨s0.trans s,s0.free nl,vs++ws,aq,by rw[List.length_append];omega,λv hv=>?_⟩;rcases List.mem_append.mp hv with hv | hv
 ·exact(a3.same s) v hv
 ·exact(b3.same s) v hv
def Zqn(m:Nat):(List.replicate m [V.non]).flatten=(List.replicate m (none:Option Int)).map oV:=by
 induction m with
 | zero=>rfl
 | succ m ih=>rw[List.replicate_succ,List.flatten_cons,ih];rfl
def Rr{H0 H:Hp}{hs:O7}{Q:VK}{l0:Addr}{k:Int}(s0:aX H0 H)(h0:H l0=some (.lst [V.non]))(k0:0<=k)(k1:k<=1000)(q:∀l H',aX H H'->H l=none->RL H0 H' hs l k.toNat->Q (.ref l) H'):Zbw (.ref l0) (.int k) H Q:=by
 refine⟨l0,k,_,rfl,rfl,h0,by omega,by omega,by show 1 * k.toNat<=sizeLine;exact aV (by omega),λl nl=>?_⟩;rw[Zqn];refine q l _ (aL nl _) nl ⟨s0.trans (aL nl _),s0.free nl,_,aq,by rw[aY,List.length_replicate];exact Nat.le_refl _,λv hv=>?_⟩;rw[List.map_replicate]at hv;rw[List.eq_of_mem_replicate hv];exact .inl rfl
def rl1{H0 H:Hp}{hs:O7}{l t:Addr}{d:o7}(s:aX H0 H)(nl:H0 l=none)(nt:H0 t=none)(h:H l=some (.lst [.ref t]))(o:H t=some (.tup (dV d)))(k:okR hs d):RL H0 H hs l 1:=⟨s,nl,_,h,Nat.le_refl _,λv hv=>by
 rw[List.mem_singleton.mp hv];exact .inr ⟨t,d,rfl,nt,o,k⟩⟩
def rl2{H0 H:Hp}{hs:O7}{l t u:Addr}{d e:o7}(s:aX H0 H)(nl:H0 l=none)(nt:H0 t=none)(nu:H0 u=none)(h:H l=some (.lst [.ref t,.ref u]))(o:H t=some (.tup (dV d)))(k:okR hs d)(o':H u=some (.tup (dV e)))(k':okR hs e):RL H0 H hs l 2:=⟨s,nl,_,h,Nat.le_refl _,λv hv=>by
 rcases List.mem_cons.mp hv with rfl | hv
 ·exact .inr ⟨t,d,rfl,nt,o,k⟩
 ·rw[List.mem_singleton.mp hv];exact .inr ⟨u,e,rfl,nu,o',k'⟩⟩
def rl3{H0 H:Hp}{hs:O7}{l t u w:Addr}{d e f:o7}(s:aX H0 H)(nl:H0 l=none)(nt:H0 t=none)(nu:H0 u=none)(nw:H0 w=none)(h:H l=some (.lst [.ref t,.ref u,.ref w]))(o:H t=some (.tup (dV d)))(k:okR hs d)(o':H u=some (.tup (dV e)))(k':okR hs e)(o2:H w=some (.tup (dV f)))(k2:okR hs f):RL H0 H hs l 3:=⟨s,nl,_,h,Nat.le_refl _,λv hv=>by
 rcases List.mem_cons.mp hv with rfl | hv
 ·exact .inr ⟨t,d,rfl,nt,o,k⟩
 ·rcases List.mem_cons.mp hv with rfl | hv
  ·exact .inr ⟨u,e,rfl,nu,o',k'⟩
  ·rw[List.mem_singleton.mp hv];exact .inr ⟨w,f,rfl,nw,o2,k2⟩⟩
def qO(K:aB):Sp:=λvs H Q E=>∃a k,vs=[.ref a,.int k]/\∃ns:List Int,cL K H a (ns.map V.int)/\0<=k/\∀z:Int,Q (.int z) H
def ju:Sp:=λvs H Q E=>∃c p m,vs=[.int c,.int p,.int m]/\0<p/\p<2 ^ 32/\0<m/\∀z:Int,0<=z->z<m->Q (.int z) H
def qN:Sp:=λvs H Q E=>∃c w,vs=[.int c,.int w]/\0<=w/\w<=1000/\∀z:Str,Q (.str z) H
def Z5q (K:aB)(H:Hp)(a:Addr)(Q:VK):Prop:=∃ns:List Int,cL K H a (ns.map V.int)/\∀l hs H',aX H H'->H l=none->HsO H' l hs->HsB hs->Q (.ref l) H'
def Qa(K:aB):Sp:=λvs H Q E=>∃a,vs=[.ref a]/\Z5q K H a Q
def Zaz(K:aB):Sp:=λvs H Q E=>∃a,vs=[.ref a]/\∃ns:List Int,cL K H a (ns.map V.int)/\∀z:Int,Q (.int z) H
def Z6q (c:Int)(H:Hp)(X:Cs)(Q:VK):Prop:=∀ki lk w t H',0<=t->t<4->w=c % 3->aX H H'->H ki=none->H lk=none->KdO X H' ki lk w t->Q (.ref ki) H'
def P0(X:Cs):Sp:=λvs H Q E=>∃c,vs=[.int c]/\Z6q c H X Q
def Z7q (h:Int)(s:Int)(H:Hp)(Q:VK):Prop:=∃(hn sn:Nat),h=(hn:Int)/\s=(sn:Int)/\∀t many bulk H',aX H H'->H t=none->0<=many->many<=8->0<=bulk->H' t=some (.tup (dV (.make hn sn many bulk)))->Q (.ref t) H'
def PN:Sp:=λvs H Q E=>∃c h s,vs=[.int c,.int h,.int s]/\Z7q h s H Q
def PX:Sp:=λvs H Q E=>∃c,vs=[.int c]/\∀z:Int,Q (.int z) H
def vD:Sp:=λvs H Q E=>∃i,vs=[.int i]/\Q (.bl true) H
def Z8q (H:Hp)(a:Addr)(b:Addr)(Q:VK):Prop:=∃(z:Str) (i:Int) (l l':Addr) (ns:List Int),H a=some (.tup [.str z,.int i,.ref l])/\H b=some (.tup [.str z,.int i,.ref l'])/\H l=some (.lst (ns.map V.int))/\H l'=some (.lst (ns.map V.int))/\Q (.bl true) H
def JF(K:aB):Sp:=λvs H Q E=>∃a b,vs=[.ref a,.ref b]/\Z8q H a b Q
variable {K:aB}{X:Cs}{rf:Rf->Addr}{H:Hp}{Q:VK}{E:XK}{n:St->Hp->Prop}{bk ct:St->Hp->Prop}
section
def Zay{a:Addr}{k:Int}(q:∃ns:List Int,cL K H a (ns.map V.int)/\0<=k/\∀z:Int,Q (.int z) H):Ad K ⟨n,Q,bk,ct⟩ [some (.ref a),some (.int k)] H:=by
 obtain⟨ns,hS,h0,h⟩:=q;unfold Ad;walk_at"e";refine jt hS ?_;walk_at"e";refine vO (λh1=>?_) (λh1=>?_)
 ·walk_at"e";rw[aY]at h1;have hk:k.toNat<ns.length:=by omega
  exact ji hS (qM h0 (by rw[cz,bL hk]<;>rfl)) (h _)
 ·walk_at"e";exact h _
def Zaw{c p m:Int}(q:0<p/\p<2 ^ 32/\0<m/\∀z:Int,0<=z->z<m->Q (.int z) H):Ab ⟨n,Q,bk,ct⟩ [some (.int c),some (.int p),some (.int m)] H:=by
 obtain⟨p0,p1,m0,q⟩:=q;have h1:=Int.emod_nonneg c (show p≠0 by omega);have h2:=Int.emod_lt_of_pos c p0;unfold Ab;walk_at"e";exact q _ (Int.emod_nonneg _ (by omega)) (Int.emod_lt_of_pos _ m0)
def Zao{c w:Int}(q:0<=w/\w<=1000/\∀z:Str,Q (.str z) H):zX ⟨n,Q,bk,ct⟩ [some (.int c),some (.int w),none,none,none,none,none] H:=by
 obtain⟨w0,w1,q⟩:=q;have c1:=Int.emod_nonneg c (show(12:Int)≠0 by decide);have c2:=Int.emod_lt_of_pos c (show(0:Int)<12 by decide);obtain⟨sz,es⟩:=toN (x:=1+c % 12) (by omega);have hs:1<=sz/\sz<=12:=by omega
 have a0:=Int.emod_nonneg (c / 12) (show(1+c % 12)≠0 by omega);have a1:=Int.emod_lt_of_pos (c / 12) (show 0<1+c % 12 by omega);unfold zX;walk_at"e";have d1:=Int.emod_nonneg (c / 5) (show(26:Int)≠0 by decide);have d2:=Int.emod_lt_of_pos (c / 5) (show(0:Int)<26 by decide);refine Zon (by decide) d1 (by show c / 5 % 26<26;exact d2) λch=>?_;walk_at"e";have e1:=Int.emod_nonneg (c / 7+5 * w) (show(26:Int)≠0 by decide);have e2:=Int.emod_lt_of_pos (c / 7+5 * w) (show(0:Int)<26 by decide);refine Zon (by decide) e1 (by show(c / 7+5 * w) % 26<26;exact e2) λch2=>?_;walk_at"e";refine Zok a0 (by omega) (by rw[Wz];decide) λt1 l1 et1=>?_;have lt1:t1.length<=12:=by rw[et1,QS,Wz];omega
 walk_at"e";refine Zoq (by rw[Wz];exact aV (by omega)) ?_;walk_at"e";refine Zok (by omega) (by omega) (by rw[Wz];decide) λt2 l2 et2=>?_;have lt2:t2.length<=12:=by rw[et2,QS,Wz];omega
 walk_at"e";refine Zoq (by rw[Zxa,Wz];exact aV (by omega)) ?_;exact q _
def VN{a:Addr}(q:Z5q K H a Q):xT K (qO K) ju qN ⟨n,Q,bk,ct⟩ [some (.ref a),none,none,none,none] H:=by
 obtain⟨ns,hS,q⟩:=q;unfold xT;walk_at"e";refine⟨a,1,rfl,ns,hS,by decide,λc=>?_⟩;walk_at"e";refine⟨by decide,λl nl=>?_⟩;have s1:=aL nl (.lst []);have g1:upd H l (.lst []) l=some (.lst (([]:List Addr).map V.ref)):=aq;generalize upd H l (.lst [])=H1 at s1 g1 ⊢;walk_at"e";refine⟨_,_,_,rfl,by decide,by decide,by decide,λz z0 z1=>?_⟩;walk_at"e";refine⟨_,rfl,by omega,by omega,?_⟩;refine forR (λk σ Hx=>∃(ts:List Addr) (hs:O7) (v3 v4:Option V),σ=[some (.ref a),some (.int c),some (.ref l),v3,v4]/\aX H Hx/\Hx l=some (.lst (ts.map V.ref))/\Al (λ(a:Addr) (m:Str×Int)=>Hx a=some (.tup [.str m.1,.int m.2])) ts hs/\hs.length=k/\∀m∈hs,3<=m.2/\m.2<=9) ⟨[],[],_,_,rfl,s1,g1,.nil,rfl,λm hm=>(nomatch hm)⟩ ?_ ?_
 ·rintro k σ Hx hk ⟨ts,hs,v3,v4,rfl,s2,g2,al,hl,hb⟩;have hk5:k<5:=by omega
  have lts:=al.length;have fin:∀{many:Int},3<=many->many<=9->∀(nn:St->Hp->Prop) (rr:VK) (bb cc:St->Hp->Prop),(∀ σ H',(∃(ts:List Addr) (hs:O7) (v3 v4:Option V),σ=[some (.ref a),some (.int c),some (.ref l),v3,v4]/\aX H H'/\H' l=some (.lst (ts.map V.ref))/\Al (λ(a:Addr) (m:Str×Int)=>H' a=some (.tup [.str m.1,.int m.2])) ts hs/\hs.length=k+1/\∀m∈hs,3<=m.2/\m.2<=9)->nn σ H')->
    vX (tBM K "list" Ah (ak 2) (aj (gf (aj (aQ qN [] E0 (aj (ak 1) (aj (ak 3) aD))) (aj (ak 4) aD))) aD)) ⟨nn,rr,bb,cc⟩ [some (.ref a),some (.int c),some (.ref l),some (.int ((0:Int)+k)),some (.int many)] Hx:=by
   intro many m3 m9 nn rr bb cc hD;walk_at"e";refine⟨.inl ⟨rfl,_,cL.of g2⟩,?_⟩;walk_at"e";refine⟨_,_,rfl,by omega,by omega,λwd=>?_⟩;walk_at"e";refine⟨aV (by simp),λt nt=>?_⟩;have s3:=aL nt (.tup [.str wd,.int many]);have g3:upd Hx t (.tup [.str wd,.int many]) t=some (.tup [.str wd,.int many]):=aq;have g4:=s3 _ _ g2;generalize upd Hx t (.tup [.str wd,.int many])=H3 at s3 g3 g4 ⊢;walk_at"e";refine⟨l,_,_,rfl,rfl,g4,?_,?_⟩
   ·rw[aY];exact Nat.lt_of_le_of_lt (show _<=1000 by omega) (by decide)
   rw[show ts.map V.ref++[V.ref t]=(ts++[t]).map V.ref from by rw[List.map_append];rfl];have kt:∀b xs,H3 b=some (.tup xs)->upd H3 l (.lst ((ts++[t]).map V.ref)) b=some (.tup xs):=λb xs hb=>by
    rw[aC (qz hb g4 (λz=>by cases z))];exact hb
   walk_at"e";refine hD _ _ ⟨ts++[t],hs++[(wd,many)],_,_,rfl,λb o hb=>by rw[aC (aG hb nl)];exact s3 _ _ (s2 _ _ hb),aq,?_,by rw[List.length_append,hl];rfl,λm hm=>?_⟩
   ·refine Zjc (by rw[List.length_append,List.length_append,lts];rfl) λi x y e1 e2=>?_
    by_cases hi:i<ts.length
    ·rw[List.getElem?_append_left hi]at e1;rw[List.getElem?_append_left (by omega)]at e2;obtain⟨x',e3,z⟩:=al.get e2;rw[e1]at e3;cases e3;exact kt _ _ (s3 _ _ z)
    ·have h1:=(dY e1).1;rw[List.length_append,List.length_singleton]at h1;rw[List.getElem?_append_right (by omega)]at e1 e2;rw[show i - ts.length=0 by omega]at e1;rw[show i - hs.length=0 by omega]at e2;cases e1;cases e2;exact kt _ _ g3
   ·rcases List.mem_append.mp hm with hm | hm
    ·exact hb m hm
    ·rw[List.mem_singleton.mp hm];exact⟨m3,m9⟩
  walk_at"e";refine vO (λ_=>?_) (λ_=>?_)
  ·walk_at"e";refine⟨_,_,_,rfl,by decide,by decide,by decide,λy y0 y1=>?_⟩;refine Zyc ?_;refine Zsg ?_;exact fin (many:=3+y) (by omega) (by omega) _ _ _ _ λσ H' h=>h
  ·refine vg ?_;exact fin (many:=3) (by omega) (by omega) _ _ _ _ λσ H' h=>h
 ·rintro σ Hx ⟨ts,hs,v3,v4,rfl,s2,g2,al,hl,hb⟩;walk_at"e";exact q l hs Hx s2 nl ⟨ts,g2,al⟩ ⟨by omega,by omega,hb⟩
def Zar{a:Addr}(q:∃ns:List Int,cL K H a (ns.map V.int)/\∀z:Int,Q (.int z) H):z6 (qO K) ju ⟨n,Q,bk,ct⟩ [some (.ref a),none] H:=by
 obtain⟨ns,hS,q⟩:=q;unfold z6;walk_at"e";refine⟨a,2,rfl,ns,hS,by decide,λc=>?_⟩;walk_at"e";refine⟨_,_,_,rfl,by decide,by decide,by decide,λz z0 z1=>?_⟩;walk_at"e";refine vO (λ_=>?_) (λ_=>?_)
 ·walk_at"e";exact q _
 ·walk_at"e";exact q _
def RP{C:Addr}{w t:Int}{σ:St}{tt:TE}(ht:∀(H1:Hp) (Q':VK),Q' (.int t) H1->tt σ H1 Q')(hw:∀{H1:Hp}{lk dl:Addr},H1 lk=some (.ins C dl [])->(w=0/\H1 lk=some (.ins X.F dl []))\/(w=1/\H1 lk=some (.ins X.E dl []))\/(w=2/\H1 lk=some (.ins X.L dl [])))
  (q:∀ki lk H',aX H H'->H ki=none->H lk=none->KdO X H' ki lk w t->Q (.ref ki) H'):Bs X.K (tK X.K) [] E0 (aj (G.JQ C) (aj tt aD)) σ H Q:=by
 walk_at"e";intro lk dl nlk ndl nel;have s1:aX H (upd (upd H dl (.own lk)) lk (.ins C dl [])):=λb o hb=>by rw[aC (aG hb nlk),aC (aG hb ndl)];exact hb
 have g1:upd (upd H dl (.own lk)) lk (.ins C dl []) lk=some (.ins C dl []):=aq;generalize upd (upd H dl (.own lk)) lk (.ins C dl [])=H1 at s1 g1 ⊢;walk_at"s";refine ht H1 _ ?_;walk_at"s";intro ki dk nki ndk nek;have s2:aX H1 (upd (upd H1 dk (.own ki)) ki (.ins X.K dk [])):=λb o hb=>by rw[aC (aG hb nki),aC (aG hb ndk)];exact hb
 have g2:upd (upd H1 dk (.own ki)) ki (.ins X.K dk []) ki=some (.ins X.K dk []):=aq;generalize upd (upd H1 dk (.own ki)) ki (.ins X.K dk [])=H2 at s2 g2 ⊢;refine⟨ki,lk,t,rfl,dk,g2,λH3 o3 k3=>⟨rfl,?_⟩⟩;have s3:aX H H3:=λb o hb=>k3 b o (s2 _ _ (s1 _ _ hb)) (aG (s1 _ _ hb) nki);have Zzb:lk≠ki:=aG g1 nki;exact q ki lk H3 s3 (s1.free nki) nlk ⟨⟨dk,o3⟩,⟨dl,hw (k3 _ _ (s2 _ _ g1) Zzb)⟩⟩
def Zau{c:Int}(q:Z6q c H X Q):z9 X.E X.F X.K X.L (tK X.K) ⟨n,Q,bk,ct⟩ [some (.int c)] H:=by
 have t0:=Int.emod_nonneg (c / 3) (show(4:Int)≠0 by decide);have t1:=Int.emod_lt_of_pos (c / 3) (show(0:Int)<4 by decide);have w0:=Int.emod_nonneg c (show(3:Int)≠0 by decide);have w1:=Int.emod_lt_of_pos c (show(0:Int)<3 by decide);unfold z9;walk_at"e";refine vO (λz=>?_) (λz=>?_)
 ·refine Ziw ?_;exact RP (λH1 Q' h=>by walk_at"e";exact h) (λe=>.inl ⟨rfl,e⟩) λki lk H' s n1 n2 kd=>q ki lk 0 (c / 3 % 4) H' t0 t1 z.symm s n1 n2 kd
 ·refine vg ?_;refine Ji ?_;walk_at"s";refine vO (λy=>?_) (λy=>?_)
  ·refine Ziw ?_;exact RP (λH1 Q' h=>by walk_at"e";exact h) (λe=>.inr (.inl ⟨rfl,e⟩)) λki lk H' s n1 n2 kd=>q ki lk 1 (c / 3 % 4) H' t0 t1 y.symm s n1 n2 kd
  ·refine vg ?_;refine Ziw ?_;exact RP (λH1 Q' h=>by walk_at"e";exact h) (λe=>.inr (.inr ⟨rfl,e⟩)) λki lk H' s n1 n2 kd=>q ki lk 2 (c / 3 % 4) H' t0 t1 (by omega) s n1 n2 kd
def Zxm{z:Int}(h0:0<=z)(h1:z<6):∃m:Int,Xw [V.int 1,.int 2,.int 2,.int 3,.int 0,.int 8] z=some (.int m)/\0<=m/\m<=8:=by
 have:z=0\/z=1\/z=2\/z=3\/z=4\/z=5:=by omega
 rcases this with rfl | rfl | rfl | rfl | rfl | rfl
 ·exact⟨1,rfl,by decide,by decide⟩
 ·exact⟨2,rfl,by decide,by decide⟩
 ·exact⟨2,rfl,by decide,by decide⟩
 ·exact⟨3,rfl,by decide,by decide⟩
 ·exact⟨0,rfl,by decide,by decide⟩
 ·exact⟨8,rfl,by decide,by decide⟩
def Zas{c h s:Int}(q:Z7q h s H Q):
  z7 K ju ⟨n,Q,bk,ct⟩ [some (.int c),some (.int h),some (.int s),none,none] H:=by
 obtain⟨hn,sn,rfl,rfl,q⟩:=q;have b1:=Int.emod_nonneg c (show(7:Int)≠0 by decide);have b2:(0:Int)<10 ^ Int.toNat 12+1:=by decide
 have b3:=Int.emod_nonneg c (show(10:Int) ^ Int.toNat 12+1≠0 by decide);unfold z7;walk_at"e";refine⟨aV (by simp),λl nl=>?_⟩;have s1:=aL nl (.lst [.int 1,.int 2,.int 2,.int 3,.int 0,.int 8]);have g1:upd H l (.lst [.int 1,.int 2,.int 2,.int 3,.int 0,.int 8]) l=some (.lst [.int 1,.int 2,.int 2,.int 3,.int 0,.int 8]):=aq;generalize upd H l (.lst [.int 1,.int 2,.int 2,.int 3,.int 0,.int 8])=H1 at s1 g1 ⊢;walk_at"e";refine⟨_,_,_,rfl,by decide,by decide,by decide,λz z0 z1=>?_⟩;obtain⟨m,em,m0,m8⟩:=Zxm z0 z1;walk_at"e";refine ji (cL.of g1) em ?_;have fin:∀{b:Int},0<=b->∀{v:Option V},(bG (gf (aj (tC (.str "make")) (aj (ak 1) (aj (ak 2) (aj (ak 3) (aj (ak 4) aD))))))) ⟨n,Q,bk,ct⟩ [some (.int c),some (.int hn),some (.int sn),some (.int m),some (.int b)] H1:=by
  intro b hb v;walk_at"e";refine⟨aV (by simp),λt nt=>?_⟩;exact q t m b _ (s1.trans (aL nt _)) (s1.free nt) m0 m8 hb aq
 walk_at"e";refine vO (λy=>?_) (λy=>?_)
 ·walk_at"e";refine vO (λx=>absurd (y.symm.trans x) (by decide)) (λx=>?_);refine vg ?_;exact fin b1 (v:=none)
 ·walk_at"e";refine vO (λx=>?_) (λx=>?_)
  ·walk_at"s";exact⟨aV (by simp),λt nt=>q t m _ _ (s1.trans (aL nt _)) (s1.free nt) m0 m8 b3 aq⟩
  ·refine vg ?_;exact fin (Int.le_refl _) (v:=none)
def Zat{c:Int}(q:∀z:Int,Q (.int z) H):z8 ⟨n,Q,bk,ct⟩ [some (.int c),none] H:=by
 have b2:(0:Int)<10 ^ Int.toNat 60:=by decide
 unfold z8;walk_at"e";refine vO (λ_=>?_) (λ_=>?_)
 ·walk_at"e";exact q _
 ·walk_at"e";exact q _
def S5{i:Int}(q:Q (.bl true) H):uZ ⟨n,Q,bk,ct⟩ [some (.int i)] H:=by
 unfold uZ;walk_at"e";exact q
def VR{a b:Addr}(q:Z8q H a b Q):
  xV K vD ⟨n,Q,bk,ct⟩ [some (.ref a),some (.ref b),none] H:=by
 obtain⟨z,i,l,l',ns,oa,ob,ol,ol',q⟩:=q;unfold xV;walk_at"e";refine Jk oa ?_;walk_at"e";refine⟨a,_,rfl,.inr (gZ.of oa),?_⟩;walk_at"e";refine LR (λz=>absurd rfl z) (λ_=>?_);walk_at"e";refine⟨a,_,0,_,rfl,rfl,gZ.of oa,rfl,?_⟩;walk_at"e";refine⟨a,_,1,_,rfl,rfl,gZ.of oa,rfl,?_⟩;walk_at"e";refine⟨_,rfl,?_⟩;walk_at"e";refine⟨a,_,2,_,rfl,rfl,gZ.of oa,rfl,?_⟩;walk_at"e";refine N5 ol ?_;walk_at"e";refine⟨a,_,2,_,rfl,rfl,gZ.of oa,rfl,?_⟩;refine⟨l,rfl,⟨_,cL.of ol⟩,forL (ns.map V.int) (λ_ σ Hx=>∃v,σ=[some (.ref a),some (.ref b),v]/\Hx=H) ⟨_,rfl,rfl⟩ (λ_ _ _ _ ⟨_,_,e⟩=>by rw[e];exact cL.of ol) ?_ ?_⟩
 ·rintro k x σ Hx hk ⟨v,rfl,rfl⟩;obtain⟨y,_,rfl⟩:=List.mem_map.mp (List.mem_of_getElem? hk);walk_at"e";refine⟨_,rfl,?_⟩;walk_at"e";exact⟨_,rfl,rfl⟩
 ·rintro σ Hx ⟨v,rfl,rfl⟩;walk_at"e";refine Zoo (.inr ⟨gZ.of oa,gZ.of ob⟩) (.cons (.inl ⟨rfl,rfl⟩) (.cons (.inl ⟨rfl,rfl⟩) (.cons (.inr ⟨l,l',rfl,rfl,.inr ⟨_,_,.inl ⟨cL.of ol,cL.of ol'⟩,Jv (uK _)⟩⟩) .nil))) ?_;exact q
end
def Z9q (H:Hp)(l:Addr)(Q:VK):Prop:=∃hs,HsO H l hs/\HsB hs/\∀t d H',aX H H'->H t=none->H' t=some (.tup (dV d))->okR hs d->Q (.ref t) H'
def Qd(K:aB):Sp:=λvs H Q E=>∃c l sd,vs=[.int c,.ref l,.int sd]/\Z9q H l Q
def Eg(K:aB):Sp:=λvs H Q E=>∃c l sd,vs=[.int c,.ref l,.int sd]/\∃hs,HsO H l hs/\HsB hs/\∀r H',aX H H'->H r=none->RL H H' hs r 2->Q (.ref r) H'
def JD(K:aB):Sp:=λvs H Q E=>∃l c sd,vs=[.ref l,.int c,.int sd]/\∃hs,HsO H l hs/\HsB hs/\∀r H',aX H H'->RL H H' hs r 200->Q (.ref r) H'
def Z10q (K:aB)(H:Hp)(a:Addr)(l:Addr)(Q:VK):Prop:=∃ns:List Int,∃hs,cL K H a (ns.map V.int)/\ns.length<=63/\HsO H l hs/\HsB hs/\∀r H',aX H H'->RL H H' hs r 700->Q (.ref r) H'
def PK(K:aB):Sp:=λvs H Q E=>∃a l,vs=[.ref a,.ref l]/\Z10q K H a l Q
section
def f38{x:Int}(h0:0<=x)(h1:x<2):∃m:Int,Xw [V.int 3,.int 8] x=some (.int m)/\0<m:=by
 have:x=0\/x=1:=by omega
 rcases this with rfl | rfl
 ·exact⟨3,rfl,by decide⟩
 ·exact⟨8,rfl,by decide⟩
def Zax{c sd:Int}{l:Addr}(q:Z9q H l Q):
  Ac K ju PX PN qN ⟨n,Q,bk,ct⟩ [some (.int c),some (.ref l),some (.int sd),none,none,none,none,none,none,none] H:=by
 obtain⟨hs,ho,hb,q⟩:=q;have n1:=hb.n1;have Zcx:∀{H':Hp}{ts:List Addr},HsO H' l hs->H' l=some (.lst (ts.map V.ref))->ts.length=hs.length:=λ{H' ts} h e=>by
  obtain⟨ts',h1,h2⟩:=h;rw[h1]at e;have:=congrArg (λo=>match o with | some (HO.lst xs)=>xs.length | _=>0) e;simp only[aY]at this;rw[<- this];exact h2.length
 obtain⟨ts,ol,al⟩:=id ho;have lts:=al.length;unfold Ac;walk_at"e";refine jt (cL.of ol) ?_;rw[aY,lts];walk_at"e";refine⟨_,_,_,rfl,by decide,by decide,by omega,λzh h0 h1=>?_⟩;obtain⟨h,rfl⟩:=toN h0;have hh:h<hs.length:=by omega
 obtain⟨m,hm⟩:∃m,hs[h]? =some m:=⟨_,bL hh⟩;have mb:=hb.sb m (List.mem_of_getElem? hm);obtain⟨tt,ett,ott⟩:=al.get hm;have hix:Xw (ts.map V.ref) (h:Int)=some (.ref tt):=iB (by rw[cz,ett];rfl);walk_at"e";refine ji (cL.of ol) hix ?_;refine⟨tt,_,1,_,rfl,rfl,gZ.of ott,rfl,?_⟩;walk_at"e";refine⟨_,_,_,rfl,by decide,by decide,by omega,λzs s0 s1=>?_⟩;obtain⟨s,rfl⟩:=toN s0;walk_at"e";refine ji (cL.of ol) hix ?_;refine⟨tt,_,1,_,rfl,rfl,gZ.of ott,rfl,?_⟩;walk_at"e";refine⟨_,_,_,rfl,by decide,by decide,by omega,λzt t0 t1=>?_⟩;obtain⟨t,rfl⟩:=toN t0;walk_at"e";refine⟨aV (by simp),λl2 nl2=>?_⟩;have s2:=aL nl2 (.lst [.int 3,.int 8]);have g2:upd H l2 (.lst [.int 3,.int 8]) l2=some (.lst [.int 3,.int 8]):=aq;generalize upd H l2 (.lst [.int 3,.int 8])=H2 at s2 g2 ⊢;walk_at"e";obtain⟨mf,emf,mf0⟩:=f38 (x:=c % 5 / 4) (by omega) (by omega);refine ji (cL.of g2) emf ?_;walk_at"e";refine⟨_,_,_,rfl,by decide,by decide,mf0,λzf f0 _=>?_⟩;obtain⟨f,rfl⟩:=toN f0;walk_at"e";refine⟨_,_,_,rfl,by decide,by decide,by decide,λw w0 w1=>?_⟩;have os:Rm hs h s:=⟨m,hm,s1⟩;have ot:Rm hs h t:=⟨m,hm,t1⟩;have tup:∀(d:o7),okR hs d->∀tp,H2 tp=none->Q (.ref tp) (upd H2 tp (.tup (dV d))):=λd ok tp Ti=>q tp d _ (s2.trans (aL Ti _)) (s2.free Ti) aq ok;walk_at"e";refine vO (λ_=>?_) (λw5=>?_)
 ·walk_at"e";exact⟨_,_,_,rfl,h,s,rfl,rfl,λtp many bulk H' sm Ti m0 m8 b0 o=>q tp _ H' (s2.trans sm) (s2.free Ti) o ⟨os,m0,m8,b0⟩⟩
 walk_at"e";refine vO (λ_=>?_) (λw8=>?_)
 ·walk_at"e";exact⟨aV (by simp),λtp Ti=>tup (.get h s t f) ⟨os,ot⟩ tp Ti⟩
 walk_at"e";refine vO (λ_=>?_) (λw11=>?_)
 ·walk_at"e";exact⟨aV (by simp),λtp Ti=>tup (.put h t f s) ⟨ot,os⟩ tp Ti⟩
 walk_at"e";refine vO (λ_=>?_) (λZHy=>?_)
 ·walk_at"e";exact⟨aV (by simp),λtp Ti=>tup (.copy h s t) ⟨os,ot⟩ tp Ti⟩
 walk_at"e";refine vO (λ_=>?_) (λw12=>?_)
 ·walk_at"e";exact⟨aV (by simp),λtp Ti=>tup (.drop h s) os tp Ti⟩
 walk_at"e";refine vO (λ_=>?_) (λw15=>?_)
 ·have ol2:=s2 _ _ ol;walk_at"e";refine jt (cL.of ol2) ?_;rw[aY,lts];walk_at"e";refine⟨_,_,_,rfl,by decide,by decide,by omega,λzg g0 g1=>?_⟩;obtain⟨g,rfl⟩:=toN g0;have hg:g<hs.length:=by omega
  obtain⟨mg,hmg⟩:∃m,hs[g]? =some m:=⟨_,bL hg⟩;have mgb:=hb.sb mg (List.mem_of_getElem? hmg);obtain⟨tg,etg,otg⟩:=al.get hmg;walk_at"e";refine ji (cL.of ol2) (iB (v:=.ref tg) (by rw[cz,etg];rfl)) ?_;refine⟨tg,_,1,_,rfl,rfl,gZ.of (s2 _ _ otg),rfl,?_⟩;walk_at"e";refine⟨_,_,_,rfl,by decide,by decide,by omega,λzu u0 u1=>?_⟩;obtain⟨u,rfl⟩:=toN u0;walk_at"e";exact⟨aV (by simp),λtp Ti=>tup (.give h s g u) ⟨os,mg,hmg,u1⟩ tp Ti⟩
 walk_at"e";refine vO (λ_=>?_) (λZHx=>?_)
 ·walk_at"e";refine⟨_,rfl,λld=>?_⟩;walk_at"e";exact⟨aV (by simp),λtp Ti=>tup (.write h t ld) ot tp Ti⟩
 walk_at"e";refine⟨_,_,_,rfl,by decide,by decide,by decide,λzw a0 a1=>?_⟩;walk_at"e";refine⟨_,_,rfl,a0,by omega,λwd=>?_⟩;walk_at"e";refine vO (λ_=>?_) (λw18=>?_)
 ·walk_at"e";exact⟨aV (by simp),λtp Ti=>tup (.name h t wd) ot tp Ti⟩
 walk_at"e";exact⟨aV (by simp),λtp Ti=>tup (.seek h s wd) os tp Ti⟩
def dW:o7->Str
 | .make .. =>"make"
 | .get .. =>"get"
 | .put .. =>"put"
 | .copy .. =>"copy"
 | .drop .. =>"drop"
 | .give .. =>"give"
 | .write .. =>"write"
 | .read .. =>"read"
 | .name .. =>"name"
 | .seek .. =>"seek"
def dV0(d:o7):∃r,dV d=.str (dW d)::r:=by cases d<;>exact⟨_,rfl⟩
def Zwm{d:o7}(h:dW d="put"):∃h t f s,d=.put h t f s:=by
 cases d<;>first | exact⟨_,_,_,_,rfl⟩ | exact absurd h (by simp only[dW];decide)
def Zwn{d:o7}(h:dW d="get"):∃h s t f,d=.get h s t f:=by
 cases d<;>first | exact⟨_,_,_,_,rfl⟩ | exact absurd h (by simp only[dW];decide)
def V0{c sd:Int}{l:Addr}(q:∃hs,HsO H l hs/\HsB hs/\∀r H',aX H H'->H r=none->RL H H' hs r 2->Q (.ref r) H'):
  xW K (Qd K) ju ⟨n,Q,bk,ct⟩ [some (.int c),some (.ref l),some (.int sd),none] H:=by
 obtain⟨hs,ho,hb,q⟩:=q;unfold xW;walk_at"e";refine⟨_,_,_,rfl,hs,ho,hb,λt d H1 s1 nt ot ok=>?_⟩;obtain⟨r0,e0⟩:=dV0 d;have ix0:Xw (dV d) 0=some (.str (dW d)):=by rw[e0];exact iB (j:=0) rfl
 have one:bG (iz (aj (ak 3) aD)) ⟨n,Q,bk,ct⟩ [some (.int c),some (.ref l),some (.int sd),some (.ref t)] H1:=by
  walk_at"e";refine⟨aV (by simp),λr nr=>?_⟩;have s2:=aL nr (.lst [.ref t]);exact q r _ (s1.trans s2) (s1.free nr) ((rl1 (d:=d) (s1.trans s2) (s1.free nr) nt aq (s2 _ _ ot) ok).mono (by decide))
 have gets:(aN (eE ((Zbh (cg (bC (By) (bC (fL K) (ak 3) (tC (.int 0))) (tC (.str "get")))) (cg (bC (By) (bC (rI (λ_ j=>0<j) λi j=>.int (i % j)) (bC (rI M5 λi j=>.int (i / j)) (ak 0) (tC (.int 5))) (tC (.int 2))) (tC (.int 0)))))) (bG (iz (aj (ak 3) (aj (gf (aj (tC (.str "put")) (aj (bC (fL K) (ak 3) (tC (.int 1))) (aj (bC (fL K) (ak 3) (tC (.int 3))) (aj (bC (fL K) (ak 3) (tC (.int 4))) (aj (aQ ju [] E0 (aj (ak 0) (aj (tC (.int 1159523)) (aj (tC (.int 3)) aD)))) aD)))))) aD)))) cu)
   (bG (iz (aj (ak 3) aD)))) ⟨n,Q,bk,ct⟩ [some (.int c),some (.ref l),some (.int sd),some (.ref t)] H1:=by
  walk_at"e";refine⟨t,_,0,_,rfl,rfl,gZ.of ot,ix0,?_⟩;walk_at"e";refine vO (λhp=>?_) (λ_=>?_)
  ·obtain⟨h,s,tt,f,rfl⟩:=Zwn hp;obtain⟨o1,o2⟩:=ok;walk_at"e";refine vO (λ_=>?_) (λ_=>?_)
   ·walk_at"e";refine⟨t,_,1,_,rfl,rfl,gZ.of ot,rfl,?_⟩;walk_at"e";refine⟨t,_,3,_,rfl,rfl,gZ.of ot,rfl,?_⟩;walk_at"e";refine⟨t,_,4,_,rfl,rfl,gZ.of ot,rfl,?_⟩;walk_at"e";refine⟨_,_,_,rfl,by decide,by decide,by decide,λz z0 z1=>?_⟩;obtain⟨sl,rfl⟩:=toN z0;walk_at"e";refine⟨aV (by simp),λu nu=>⟨aV (by simp),λr nr=>?_⟩⟩;have s2:=aL nu (.tup (dV (.put h tt f sl)));have s3:=aL nr (.lst [.ref t,.ref u]);have hh:h<hs.length:=by obtain⟨m,hm,_⟩:=o1;exact(dY hm).1
    exact q r _ (s1.trans (s2.trans s3)) (s1.free (s2.free nr)) (rl2 (d:=.get h s tt f) (e:=.put h tt f sl) (s1.trans (s2.trans s3)) (s1.free (s2.free nr)) nt (s1.free nu) aq (s3 _ _ (s2 _ _ ot)) ⟨o1,o2⟩ (s3 _ _ aq) ⟨o2,hb.ok hh (by omega)⟩)
   ·exact one
  ·exact one
 walk_at"e";refine⟨t,_,0,_,rfl,rfl,gZ.of ot,ix0,?_⟩;walk_at"e";refine vO (λhp=>?_) (λ_=>?_)
 ·obtain⟨h,tt,f,s,rfl⟩:=Zwm hp;obtain⟨o1,o2⟩:=ok;walk_at"e";refine vO (λ_=>?_) (λ_=>?_)
  ·walk_at"e";refine⟨t,_,1,_,rfl,rfl,gZ.of ot,rfl,?_⟩;walk_at"e";refine⟨t,_,4,_,rfl,rfl,gZ.of ot,rfl,?_⟩;walk_at"e";refine⟨aV (by simp),λu nu=>⟨aV (by simp),λr nr=>?_⟩⟩;have s2:=aL nu (.tup (dV (.drop h s)));have s3:=aL nr (.lst [.ref t,.ref u]);exact q r _ (s1.trans (s2.trans s3)) (s1.free (s2.free nr)) (rl2 (d:=.put h tt f s) (e:=.drop h s) (s1.trans (s2.trans s3)) (s1.free (s2.free nr)) nt (s1.free nu) aq (s3 _ _ (s2 _ _ ot)) ⟨o1,o2⟩ (s3 _ _ aq) o2)
  ·exact gets
 ·exact gets
end
section
def Zls(σ:St)(ta:TE)(d:o7):Prop:=∀(H1:Hp) (Q':VK),(∀t H2,aX H1 H2->H1 t=none->H2 t=some (.tup (dV d))->Q' (.ref t) H2)->ta σ H1 Q'
def XD{σ:St}{ta:TE}{d:o7}(h:∀(H1:Hp) (Q':VK),(∀t,H1 t=none->Q' (.ref t) (upd H1 t (.tup (dV d))))->ta σ H1 Q'):Zls σ ta d:=λH1 Q' k=>h H1 Q' λt nt=>k t _ (aL nt _) nt aq
def Zem{H0:Hp}{hs:O7}{d e:o7}{ta tb:TE}{σ:St}(s0:aX H0 H)(ha:Zls σ ta d)(hb:Zls σ tb e)(kd:okR hs d)(ke:okR hs e)(k:∀l H',aX H H'->RL H0 H' hs l 2->Q (.ref l) H'):iz (aj ta (aj tb aD)) σ H Q:=by
 walk_at"s";refine ha H _ λt H1 s1 nt ot=>?_;walk_at"s";refine hb H1 _ λu H2 s2 nu ou=>?_;walk_at"s";refine⟨aV (by simp),λl nl=>?_⟩;have s3:=aL nl (.lst [.ref t,.ref u]);have s03:=s0.trans (s1.trans (s2.trans s3));exact k l _ (s1.trans (s2.trans s3)) (rl2 s03 (s0.free (s1.free (s2.free nl))) (s0.free nt) (s0.free (s1.free nu)) aq (s3 _ _ (s2 _ _ ot)) kd (s3 _ _ ou) ke)
def Zm2{H0:Hp}{hs:O7}{d e f:o7}{ta tb tc:TE}{σ:St}(s0:aX H0 H)(ha:Zls σ ta d)(hb:Zls σ tb e)(hc:Zls σ tc f)(kd:okR hs d)(ke:okR hs e)(kf:okR hs f)(k:∀l H',aX H H'->RL H0 H' hs l 3->Q (.ref l) H'):iz (aj ta (aj tb (aj tc aD))) σ H Q:=by
 walk_at"s";refine ha H _ λt H1 s1 nt ot=>?_;walk_at"s";refine hb H1 _ λu H2 s2 nu ou=>?_;walk_at"s";refine hc H2 _ λw H3 s3 nw ow=>?_;walk_at"s";refine⟨aV (by simp),λl nl=>?_⟩;have s4:=aL nl (.lst [.ref t,.ref u,.ref w]);have s04:=s0.trans (s1.trans (s2.trans (s3.trans s4)));exact k l _ (s1.trans (s2.trans (s3.trans s4))) (rl3 s04 (s0.free (s1.free (s2.free (s3.free nl)))) (s0.free nt) (s0.free (s1.free nu)) (s0.free (s1.free (s2.free nw))) aq (s4 _ _ (s3 _ _ (s2 _ _ ot))) kd (s4 _ _ (s3 _ _ ou)) ke (s4 _ _ ow) kf)
def VM{l:Addr}{c sd:Int}(q:∃hs,HsO H l hs/\HsB hs/\∀r H',aX H H'->RL H H' hs r 200->Q (.ref r) H'):
  xR K ju qN ⟨n,Q,bk,ct⟩ [some (.ref l),some (.int c),some (.int sd),none,none,none] H:=by
 obtain⟨hs,ho,hb,q⟩:=q;obtain⟨ts,ol,al⟩:=id ho;have lts:=al.length;have n5:=hb.n5;unfold xR;walk_at"e";refine⟨by decide,λr0 nr0=>?_⟩;have s1:=aL nr0 (.lst []);have g1:RL H (upd H r0 (.lst [])) hs r0 0:=⟨s1,nr0,[],aq,Nat.le_refl _,λv hv=>(nomatch hv)⟩;generalize upd H r0 (.lst [])=H1 at s1 g1 ⊢;walk_at"e";refine jt (cL.of (s1 _ _ ol)) ?_;rw[aY,lts];walk_at"e";refine⟨_,rfl,by omega,by omega,?_⟩;refine forR (λk σ Hx=>∃r v4,σ=[some (.ref l),some (.int c),some (.int sd),some (.ref r),v4,none]/\aX H Hx/\RL H Hx hs r (4 * k)) ⟨r0,_,rfl,s1,g1⟩ ?_ ?_
 ·rintro k σ Hx hk ⟨r,v4,rfl,s2,rl⟩;have hk':k<hs.length:=by omega
  rw[Int.zero_add];obtain⟨f,ef⟩:=toN (x:=(k:Int) % 2) (by omega);have o0:Rm hs k 0:=hb.ok hk' (by decide);have o1:Rm hs k 1:=hb.ok hk' (by decide);refine Zsg ?_;refine Ji ?_;refine R6 ?_;refine Zh4 ?_;refine Zh3 ?_;refine Zem (H0:=H) s2 (d:=.make k 0 2 0) (e:=.make k 1 1 0) (XD λH1 Q' h=>by walk_at"e";exact⟨aV (by simp),h⟩) (XD λH1 Q' h=>by walk_at"e";exact⟨aV (by simp),h⟩) ⟨o0,by decide,by decide,by decide⟩ ⟨o1,by decide,by decide,by decide⟩ λl2 H2 sm2 rl2=>?_;refine yF (rl.same sm2) rl2 (by omega) λr3 H3 sm3 _ rl3=>?_;refine Zdf ?_;refine R6 ?_;refine Zh4 ?_;refine Zh3 ?_;refine Zem (H0:=H) rl3.s (d:=.put k 0 f 1) (e:=.drop k 1) (XD λH1 Q' h=>by walk_at"e";rw[ef];exact⟨aV (by simp),h⟩) (XD λH1 Q' h=>by walk_at"e";exact⟨aV (by simp),h⟩) ⟨o0,o1⟩ o1 λl4 H4 sm4 rl4=>?_;refine yF (rl3.same sm4) rl4 (by omega) λr5 H5 sm5 _ Uk=>?_;refine Zdf ?_;exact⟨r5,_,rfl,s2.trans (sm2.trans (sm3.trans (sm4.trans sm5))),Uk.mono (by omega)⟩
 ·rintro σ Hx ⟨r,v4,rfl,s2,rl⟩;have rl:=rl.mono (N':=20) (by omega);walk_at"e";refine⟨_,_,_,rfl,by decide,by decide,by decide,λw w0 w1=>?_⟩;have rest:∀{r1:Addr}{H3:Hp}{v4:Option V},aX H H3->RL H H3 hs r1 30->(aN (bF (bC (yc) (ak 3) (bC (Zbw) (iz (aj (tC .non) aD)) (bC (oN λi j=>.int (i+j)) (tC (.int 1)) (aQ ju [] E0 (aj (ak 1) (aj (tC (.int 882377)) (aj (tC (.int 4)) aD))))))) (aO 3))
   (pJ K qN)) ⟨n,Q,bk,ct⟩ [some (.ref l),some (.int c),some (.int sd),some (.ref r1),v4,some (.int w)] H3:=by
   intro r1 H3 v4 s3 rl1;walk_at"e";refine⟨by decide,λl0 nl0=>?_⟩;have s4:=aL nl0 (.lst [V.non]);have g4:upd H3 l0 (.lst [V.non]) l0=some (.lst [V.non]):=aq;have rl4:=rl1.same s4;generalize upd H3 l0 (.lst [V.non])=H4 at s4 g4 rl4 ⊢;walk_at"e";refine⟨_,_,_,rfl,by decide,by decide,by decide,λz z0 z1=>?_⟩;walk_at"e";refine Rr (H0:=H) (hs:=hs) rl4.s g4 (by omega) (by omega) λl5 H5 s5 _ Uk=>?_;refine yF (rl4.same s5) (Uk.mono (N':=4) (by omega)) (by decide) λr6 H6 s6 _ rl6=>?_;have s06:=s3.trans (s4.trans (s5.trans s6));refine Zdf ?_;unfold pJ;walk_at"e";refine jt (cL.of (s06 _ _ ol)) ?_;rw[aY,lts];walk_at"e";refine⟨_,rfl,by omega,by omega,?_⟩;refine forR (λk σ Hx=>∃r v4,σ=[some (.ref l),some (.int c),some (.int sd),some (.ref r),v4,some (.int w)]/\aX H Hx/\RL H Hx hs r (34+7 * k)) ⟨r6,_,rfl,s06,rl6⟩ ?_ ?_
   ·rintro k σ Hx hk ⟨r,v4,rfl,s2,rl⟩;have hk':k<hs.length:=by omega
    rw[Int.zero_add];obtain⟨f,ef⟩:=toN (x:=(k:Int) % 2) (by omega);have o0:Rm hs k 0:=hb.ok hk' (by decide);have o1:Rm hs k 1:=hb.ok hk' (by decide);have o2:Rm hs k 2:=hb.ok hk' (by decide);refine Zsg ?_;refine Ji ?_;have third:∀{r1:Addr}{H3:Hp},aX H H3->RL H H3 hs r1 (34+7 * k+5)->(eE (cg (bC (By) (ak 5) (tC (.int 3)))) (bF (bC (yc) (ak 3) (iz (aj (gf (aj (tC (.str "name")) (aj (ak 4) (aj (tC (.int 0)) (aj (aQ qN [] E0 (aj (ak 2) (aj (bC (rI (λ_ j=>0<j) λi j=>.int (i % j)) (ak 4) (tC (.int 2))) aD))) aD))))) (aj (gf (aj (tC (.str "drop")) (aj (ak 4) (aj (tC (.int 0)) aD)))) aD)))) (aO 3)) cu) ⟨λσ Hx=>∃r v4,σ=[some (.ref l),some (.int c),some (.int sd),some (.ref r),v4,some (.int w)]/\aX H Hx/\RL H Hx hs r (34+7 * (k+1)),Q,bG (ak 3) ⟨n,Q,bk,ct⟩,λσ Hx=>∃r v4,σ=[some (.ref l),some (.int c),some (.int sd),some (.ref r),v4,some (.int w)]/\aX H Hx/\RL H Hx hs r (34+7 * (k+1))⟩ [some (.ref l),some (.int c),some (.int sd),some (.ref r1),some (.int k),some (.int w)] H3:=by
     intro r1 H3 s3 rl3;walk_at"e";refine vO (λ_=>?_) (λ_=>?_)
     ·refine R6 ?_;refine Zh4 ?_;refine Zh3 ?_;walk_at"s";refine⟨_,_,rfl,by omega,by omega,λwd=>?_⟩;walk_at"s";refine⟨aV (by simp),λt nt=>?_⟩;have s4:=aL nt (.tup (dV (.name k 0 wd)));have g4:upd H3 t (.tup (dV (.name k 0 wd))) t=some (.tup (dV (.name k 0 wd))):=aq;show aj _ _ _ (upd H3 t (.tup (dV (.name k 0 wd)))) _;generalize upd H3 t (.tup (dV (.name k 0 wd)))=H4 at s4 g4 ⊢;walk_at"s";refine⟨aV (by simp),λu nu=>⟨aV (by simp),λl2 nl2=>?_⟩⟩;have s5:=aL nu (.tup (dV (.drop k 0)));have g5:upd H4 u (.tup (dV (.drop k 0))) u=some (.tup (dV (.drop k 0))):=aq;show yc _ _ (upd (upd H4 u (.tup (dV (.drop k 0)))) l2 _) _;have nl2:upd H4 u (.tup (dV (.drop k 0))) l2=none:=nl2;generalize upd H4 u (.tup (dV (.drop k 0)))=H5 at s5 g5 nl2 ⊢;have s6:=aL nl2 (.lst [.ref t,.ref u]);have r6:RL H (upd H5 l2 (.lst [.ref t,.ref u])) hs l2 2:=rl2 (d:=.name k 0 wd) (e:=.drop k 0) (s3.trans (s4.trans (s5.trans s6))) (s3.free (s4.free (s5.free nl2))) (s3.free nt) (s3.free (s4.free nu)) aq (s6 _ _ (s5 _ _ g4)) o0 (s6 _ _ g5) o0;have s36:=s4.trans (s5.trans s6);refine yF (rl3.same s36) r6 (by omega) λr7 H7 s7 _ rl7=>?_;refine Zdf ?_;exact⟨r7,_,rfl,s3.trans (s36.trans s7),rl7.mono (by omega)⟩
     ·refine vg ?_;exact⟨r1,_,rfl,s3,rl3.mono (by omega)⟩
    have second:∀{r1:Addr}{H3:Hp},aX H H3->RL H H3 hs r1 (34+7 * k+2)->(aN (eE (cg (bC (oN λi j=>.bl (decide (j<i))) (ak 5) (tC (.int 1)))) (bF (bC (yc) (ak 3) (iz (aj (gf (aj (tC (.str "make")) (aj (ak 4) (aj (tC (.int 0)) (aj (tC (.int 1)) (aj (tC (.int 0)) aD)))))) (aj (gf (aj (tC (.str "put")) (aj (ak 4) (aj (tC (.int 0)) (aj (tC (.int 0)) (aj (tC (.int 1)) aD)))))) (aj (gf (aj (tC (.str "drop")) (aj (ak 4) (aj (tC (.int 1)) aD)))) aD))))) (aO 3)) cu)
     (eE (cg (bC (By) (ak 5) (tC (.int 3)))) (bF (bC (yc) (ak 3) (iz (aj (gf (aj (tC (.str "name")) (aj (ak 4) (aj (tC (.int 0)) (aj (aQ qN [] E0 (aj (ak 2) (aj (bC (rI (λ_ j=>0<j) λi j=>.int (i % j)) (ak 4) (tC (.int 2))) aD))) aD))))) (aj (gf (aj (tC (.str "drop")) (aj (ak 4) (aj (tC (.int 0)) aD)))) aD)))) (aO 3)) cu)) ⟨λσ Hx=>∃r v4,σ=[some (.ref l),some (.int c),some (.int sd),some (.ref r),v4,some (.int w)]/\aX H Hx/\RL H Hx hs r (34+7 * (k+1)),Q,bG (ak 3) ⟨n,Q,bk,ct⟩,λσ Hx=>∃r v4,σ=[some (.ref l),some (.int c),some (.int sd),some (.ref r),v4,some (.int w)]/\aX H Hx/\RL H Hx hs r (34+7 * (k+1))⟩ [some (.ref l),some (.int c),some (.int sd),some (.ref r1),some (.int k),some (.int w)] H3:=by
     intro r1 H3 s3 rl3;refine Ji ?_;walk_at"s";refine vO (λ_=>?_) (λ_=>?_)
     ·refine R6 ?_;refine Zh4 ?_;refine Zh3 ?_;refine Zm2 (H0:=H) s3 (d:=.make k 0 1 0) (e:=.put k 0 0 1) (f:=.drop k 1) (XD λH1 Q' h=>by walk_at"e";exact⟨aV (by simp),h⟩) (XD λH1 Q' h=>by walk_at"e";exact⟨aV (by simp),h⟩) (XD λH1 Q' h=>by walk_at"e";exact⟨aV (by simp),h⟩) ⟨o0,by decide,by decide,by decide⟩ ⟨o0,o1⟩ o1 λl4 H4 s4 rl4=>?_;refine yF (rl3.same s4) rl4 (by omega) λr5 H5 s5 _ Uk=>?_;refine Zdf ?_;exact third (s3.trans (s4.trans s5)) (Uk.mono (by omega))
     ·refine vg ?_;exact third s3 (rl3.mono (by omega))
    walk_at"s";refine vO (λ_=>?_) (λ_=>?_)
    ·refine R6 ?_;refine Zh4 ?_;refine Zh3 ?_;refine Zem (H0:=H) s2 (d:=.get k 1 0 f) (e:=.put k 0 f 2) (XD λH1 Q' h=>by walk_at"e";rw[ef];exact⟨aV (by simp),h⟩) (XD λH1 Q' h=>by walk_at"e";rw[ef];exact⟨aV (by simp),h⟩) ⟨o1,o0⟩ ⟨o0,o2⟩ λl4 H4 s4 rl4=>?_;refine yF (rl.same s4) rl4 (by omega) λr5 H5 s5 _ Uk=>?_;refine Zdf ?_;exact second (s2.trans (s4.trans s5)) (Uk.mono (by omega))
    ·refine vg ?_;exact second s2 (rl.mono (by omega))
   ·rintro σ Hx ⟨r,v4,rfl,s2,rl⟩;walk_at"e";exact q r Hx s2 (rl.mono (by omega))
  walk_at"e";refine vO (λ_=>?_) (λ_=>?_)
  ·refine R6 ?_;refine Zh4 ?_;refine Zh3 ?_;refine NZ ?_;walk_at"s";refine jt (cL.of (s2 _ _ ol)) ?_;rw[aY,lts];walk_at"s";refine⟨_,rfl,by omega,by omega,?_⟩;refine Zru (n:=hs.length) rfl (by omega) (λi y Hx=>∃t,y=.ref t/\H t=none/\Hx t=some (.tup (dV (.make i 1 0 0)))) (λi y H1 H2 ⟨t,e,f,z⟩ s=>⟨t,e,f,s _ _ z⟩) (λi H1 q hq=>Be hq) (λi H1 hi s3 q hq=>?_) ?_
   ·walk_at"c";walk_at"e";exact⟨aV (by simp),λt nt=>hq _ _ (aL nt _) ⟨t,rfl,s2.free (s3.free nt),aq⟩⟩
   ·intro ys H3 s3 ly hy p np;have s4:=aL np (.lst ys);have r4:RL H (upd H3 p (.lst ys)) hs p 5:=⟨s2.trans (s3.trans s4),s2.free (s3.free np),ys,aq,by omega,λv hv=>by
     obtain⟨i,hi,e⟩:=List.getElem_of_mem hv;obtain⟨t,e2,fz,z⟩:=hy i v (by rw[bL hi,e]);exact .inr ⟨t,_,e2,fz,s4 _ _ z,hb.ok (by omega) (by decide),by decide,by decide,by decide⟩⟩
    refine yF (rl.same (s3.trans s4)) r4 (by decide) λr5 H5 s5 _ Uk=>?_;refine Zdf ?_;exact rest (s2.trans (s3.trans (s4.trans s5))) (Uk.mono (by decide))
  ·refine vg ?_;exact rest s2 (rl.mono (by decide))
def Zaq{a l:Addr}(q:Z10q K H a l Q):
  zZ K (qO K) (Eg K) ju (JD K) ⟨n,Q,bk,ct⟩ [some (.ref a),some (.ref l),none,none,none,none,none] H:=by
 obtain⟨ns,hs,hS,hlen,ho,hb,q⟩:=q;unfold zZ;walk_at"e";refine⟨by decide,λr0 nr0=>?_⟩;have s1:=aL nr0 (.lst []);have g1:RL H (upd H r0 (.lst [])) hs r0 200:=⟨s1,nr0,[],aq,Nat.zero_le _,λv hv=>(nomatch hv)⟩;generalize upd H r0 (.lst [])=H1 at s1 g1 ⊢;have rest:∀{r1:Addr}{H2:Hp},aX H H2->RL H H2 hs r1 200->(qg K (qO K) (Eg K) ju) ⟨n,Q,bk,ct⟩ [some (.ref a),some (.ref l),some (.ref r1),none,none,none,none] H2:=by
  intro r1 H2 s2 rl2;unfold qg;walk_at"e";refine⟨a,2,rfl,ns,s2.seq hS,by decide,λsd=>?_⟩;walk_at"e";refine⟨a,_,rfl,s2.seq hS,λsrc ZA4=>?_⟩;have Zx5:∃zs:List Int,VH (ns.map V.int) (some 3) (some 63)=zs.map V.int/\zs.length<=63:=by
   refine⟨(ns.drop (HT.qR ns.length 0 (some 3))).take (HT.qR ns.length ns.length (some 63) - HT.qR ns.length 0 (some 3)),?_,?_⟩
   ·unfold VH;rw[List.map_take,List.map_drop,aY]
   ·rw[List.length_take,List.length_drop];omega
  obtain⟨zs,ez,lz⟩:=Zx5;rw[ez];have s3:=aL ZA4 (.lst (zs.map V.int));have g3:upd H2 src (.lst (zs.map V.int)) src=some (.lst (zs.map V.int)):=aq;generalize upd H2 src (.lst (zs.map V.int))=H3 at s3 g3 ⊢;refine⟨src,rfl,⟨_,cL.of g3⟩,forL (zs.map V.int) (λi σ Hx=>∃r v5 v6,σ=[some (.ref a),some (.ref l),some (.ref r),some (.int sd),some (.int i),v5,v6]/\aX H3 Hx/\RL H Hx hs r (200+6 * i)) ⟨r1,_,_,rfl,aX.refl _,rl2.same s3⟩ (λ_ _ _ _ ⟨_,_,_,_,z,_⟩=>cL.of (z _ _ g3)) ?_ ?_⟩
  ·rintro i x σ Hx hi ⟨r,v5,v6,rfl,s4,rl⟩;have hil:=(dY hi).1;rw[aY]at hil;obtain⟨c,hc,rfl⟩:=List.mem_map.mp (List.mem_of_getElem? hi);have hii:(i:Int) * i<=3969:=by
    have:=Nat.mul_le_mul (show i<=63 by omega) (show i<=63 by omega);have e:((i * i:Nat):Int)=(i:Int) * i:=by push_cast;rfl
    omega
   have hi0:0<=(i:Int) * i:=Int.mul_nonneg (by omega) (by omega);have s04:=s2.trans (s3.trans s4);walk_at"e";generalize c+(i:Int) * i * 1000003=z;refine⟨_,_,_,rfl,by decide,by decide,by decide,λy y0 y1=>?_⟩;walk_at"e";refine vO (λ_=>?_) (λ_=>?_)
   ·walk_at"e";refine⟨by decide,λl0 nl0=>?_⟩;have s5:=aL nl0 (.lst [V.non]);have g5:upd Hx l0 (.lst [V.non]) l0=some (.lst [V.non]):=aq;have Uk:=rl.same s5;generalize upd Hx l0 (.lst [V.non])=H5 at s5 g5 Uk ⊢;walk_at"e";refine⟨_,_,_,rfl,by decide,by decide,by decide,λw w0 w1=>?_⟩;walk_at"e";refine Rr (H0:=H) (hs:=hs) Uk.s g5 (by omega) (by omega) λl6 H6 s6 _ rl6=>?_;refine yF (Uk.same s6) (rl6.mono (N':=6) (by omega)) (by omega) λr7 H7 s7 _ rl7=>?_;walk_at"e";refine Zor rfl ?_;exact⟨r7,_,_,by rw[show((i+1:Nat):Int)=(i:Int)+1 from by push_cast;rfl];rfl,s4.trans (s5.trans (s6.trans s7)),rl7.mono (by omega)⟩
   ·walk_at"e";refine⟨_,_,_,rfl,hs,ho.same s04,hb,λr5 H5 s5 _ Uk=>?_⟩;have Uk:=Uk.base s04;refine yF (rl.same s5) Uk (by omega) λr7 H7 s7 _ rl7=>?_;walk_at"e";refine Zor rfl ?_;exact⟨r7,_,_,by rw[show((i+1:Nat):Int)=(i:Int)+1 from by push_cast;rfl];rfl,s4.trans (s5.trans s7),rl7.mono (by omega)⟩
  ·rintro σ Hx ⟨r,v5,v6,rfl,s4,rl⟩;rw[aY]at rl;walk_at"e";refine⟨by decide,λl0 nl0=>?_⟩;have s5:=aL nl0 (.lst [V.non]);have g5:upd Hx l0 (.lst [V.non]) l0=some (.lst [V.non]):=aq;have Uk:=rl.same s5;generalize upd Hx l0 (.lst [V.non])=H5 at s5 g5 Uk ⊢;walk_at"e";refine⟨_,_,_,rfl,by decide,by decide,by decide,λw w0 w1=>?_⟩;walk_at"e";refine Rr (H0:=H) (hs:=hs) Uk.s g5 (by omega) (by omega) λl6 H6 s6 _ rl6=>?_;refine yF (Uk.same s6) (rl6.mono (N':=24) (by omega)) (by omega) λr7 H7 s7 _ rl7=>?_;exact q r7 H7 (s2.trans (s3.trans (s4.trans (s5.trans (s6.trans s7))))) (rl7.mono (by omega))
 walk_at"e";refine⟨a,0,rfl,ns,s1.seq hS,by decide,λc0=>?_⟩;walk_at"e";refine⟨_,_,_,rfl,by decide,by decide,by decide,λz z0 z1=>?_⟩;walk_at"e";refine vO (λ_=>?_) (λ_=>?_)
 ·walk_at"e";refine⟨a,0,rfl,ns,s1.seq hS,by decide,λc1=>?_⟩;walk_at"e";refine⟨a,2,rfl,ns,s1.seq hS,by decide,λc2=>?_⟩;walk_at"e";refine⟨_,_,_,rfl,hs,ho.same s1,hb,λr H2 s2 rl2=>?_⟩;refine Zw1 ?_;exact rest (s1.trans s2) (rl2.base s1)
 ·refine vg ?_;exact rest s1 g1
end
def Zwy(M:Wm):Prop:=M.sw.phase="walk"->M.sw.grey.Nodup/\∀x∈M.sw.grey,∃c,cellAt M x=some c/\c.tone=M.sw.sense
structure KW(M:Wm)(hs:O7)(k:Nat):Prop where
 hl:M.hands.length=hs.length
 hn:∀(i:Nat) m n,M.hands[i]? =some m->hs[i]? =some n->m.2.length=n.2.toNat
 cl:M.cells.length<=k
 nl:M.names.length<=k
 fl:∀c,some c∈M.cells->c.fl.length<=8
 gr:Zwy M
 ph:M.sw.phase="rest"\/M.sw.phase="walk"\/M.sw.phase="give"\/M.sw.phase="lost"
 a0:0<=M.sw.at'
 tl:0<=M.tells/\M.tells<4
section
variable {M:Wm}{hs:O7}{k:Nat}
def Zcm:∀(n:Nat) (l:List Int),l.Nodup->(∀x∈l,0<=x/\x<n)->l.length<=n
 | 0,l,_,h=>by
  cases l with
  | nil=>exact Nat.le_refl _
  | cons x l=>have:=h x (by simp);omega
 | n+1,l,nd,h=>by
  have h1:(l.erase (n:Int)).length<=n:=Zcm n _ (nd.erase _) λx hx=>by
   have h2:=h x (List.mem_of_mem_erase hx);have h3:x≠(n:Int):=((nd.mem_erase_iff).mp hx).1
   push_cast at h2
   omega
  have h4:=List.length_erase (a:=(n:Int)) (l:=l);split at h4<;>omega
def Xp{x:Int}{c:Ce}(h:cellAt M x=some c):0<=x/\x<M.cells.length:=by
 obtain⟨h0,h1⟩:=dm.mp h;have:=(dY h1).1;omega
def KW.ok(p:KW M hs k)(hb:HsB hs)(hk:k<=900):S7 M:=by
 have hcl:=p.cl;have hnl:=p.nl;refine⟨by omega,λm hm=>?_,λc hc=>by have:=p.fl c hc;omega,by omega,λph=>?_,λph x hx=>?_,p.ph,p.a0⟩
 ·obtain⟨i,hi,e⟩:=List.getElem_of_mem hm;have hi2:i<hs.length:=by rw[<- p.hl];exact hi
  have h1:=p.hn i m _ (by rw[bL hi,e]) (bL hi2);have h2:=hb.sb _ (List.getElem_mem hi2);omega
 ·obtain⟨nd,h1⟩:=p.gr ph;refine Nat.le_trans (Zcm M.cells.length _ nd λx hx=>?_) (by omega);obtain⟨c,hc,_⟩:=h1 x hx;exact Xp hc
 ·obtain⟨c,hc,_⟩:=(p.gr ph).2 x hx;exact⟨c,hc⟩
def KW.BL(p:KW M hs k){h s:Nat}(o:Rm hs h s):BL M h s:=by
 obtain⟨m,hm,hlt⟩:=o;have hh:h<M.hands.length:=by rw[p.hl];exact(dY hm).1
 refine⟨_,bL hh,?_⟩;have:=p.hn h _ m (bL hh) hm;omega
def KW.okD(p:KW M hs k){d:o7}(o:okR hs d):okD M d:=by
 cases d with
 | make h s many bulk=>exact⟨p.BL o.1,o.2.1,by have:=o.2.2.1;omega,o.2.2.2⟩
 | get h s t f=>exact⟨p.BL o.1,p.BL o.2⟩
 | put h t f s=>exact⟨p.BL o.1,p.BL o.2⟩
 | copy h s t=>exact⟨p.BL o.1,p.BL o.2⟩
 | drop h s=>exact p.BL o
 | give h s g t=>exact⟨p.BL o.1,p.BL o.2⟩
 | write h t l=>exact p.BL o
 | read h t=>exact p.BL o
 | name h t z=>exact p.BL o
 | seek h s z=>exact p.BL o
def KW.mono{k':Nat}(p:KW M hs k)(h:k<=k'):KW M hs k':=by
 obtain⟨a1,a2,a3,a4,a5,a6,a7,a8,a9⟩:=p;exact⟨a1,a2,by omega,by omega,a5,a6,a7,a8,a9⟩
def KW.slot(p:KW M hs k)(h s:Nat)(x:Option Int):KW (setSlot M h s x) hs k:=by
 obtain⟨a1,a2,a3,a4,a5,a6,a7,a8,a9⟩:=p;refine⟨by show(M.hands.modify h _).length=_;rw[List.length_modify];exact a1,λi m n e1 e2=>?_,a3,a4,a5,a6,a7,a8,a9⟩;have e1:(M.hands.modify h λm=>(m.1,m.2.set s x))[i]? =some m:=e1;rw[List.getElem?_modify]at e1;cases em:M.hands[i]? with
 | none=>rw[em]at e1;cases e1
 | some m0=>
  rw[em]at e1
  by_cases z:h=i
  ·have e3:(m0.1,m0.2.set s x)=m:=by simpa[z]using e1
   rw[<- e3];show(m0.2.set s x).length=_;rw[List.length_set];exact a2 i m0 n em e2
  ·have e3:m0=m:=by simpa[z]using e1
   rw[<- e3];exact a2 i m0 n em e2
def nZ{i:Int}{c c':Ce}(h:cellAt M i=some c)(x:Int):cellAt (setCell M i c') x=if x=i then some c' else cellAt M x:=by
 obtain⟨h0,h1⟩:=dm.mp h;unfold cellAt;show(if 0<=x then((M.cells.set i.toNat (some c'))[x.toNat]?).join else none)=_
 by_cases e:x=i
 ·subst e;rw[if_pos h0,if_pos rfl,List.getElem?_set_self (dY h1).1];rfl
 ·rw[if_neg e]
  by_cases x0:0<=x
  ·rw[if_pos x0,if_pos x0,List.getElem?_set_ne (by omega)]
  ·rw[if_neg x0,if_neg x0]
def KW.cell(p:KW M hs k){i:Int}{c c':Ce}(h:cellAt M i=some c)(ht:c'.tone=c.tone)(hf:c'.fl.length=c.fl.length):KW (setCell M i c') hs k:=by
 have h8:=p.fl c (vz h);obtain⟨a1,a2,a3,a4,a5,a6,a7,a8,a9⟩:=p;refine⟨a1,a2,by show(M.cells.set _ _).length<=_;rw[List.length_set];exact a3,a4,λd hd=>?_,λph=>?_,a7,a8,a9⟩
 ·rcases List.mem_or_eq_of_mem_set (show some d∈M.cells.set _ _ from hd)with hd | hd
  ·exact a5 d hd
  ·cases hd;omega
 ·obtain⟨nd,h1⟩:=a6 ph;refine⟨nd,λx hx=>?_⟩;obtain⟨d,hd,td⟩:=h1 x hx;rw[nZ h]
  by_cases e:x=i
  ·subst e;rw[h]at hd;cases hd;exact⟨c',by rw[if_pos rfl],by rw[ht];exact td⟩
  ·exact⟨d,by rw[if_neg e];exact hd,td⟩
def KW.note(p:KW M hs k)(x:Option Int):KW (bO M x).2 hs k:=by
 cases x with
 | none=>exact p
 | some i=>
  unfold bO;dsimp only;cases hc:cellAt M i with
  | none=>exact p
  | some c=>
   dsimp only;split
   ·rename_i z
    obtain⟨z1,z2⟩:=z;have h8:=p.fl c (vz hc);obtain⟨a1,a2,a3,a4,a5,a6,a7,a8,a9⟩:=p;obtain⟨nd,h1⟩:=a6 z1;have hni:i∉M.sw.grey:=λhi=>by
     obtain⟨d,hd,td⟩:=h1 i hi;rw[hc]at hd;cases hd;exact z2 td
    refine⟨a1,a2,by show(M.cells.set _ _).length<=_;rw[List.length_set];exact a3,a4,λd hd=>?_,λ_=>⟨?_,λx hx=>?_⟩,a7,a8,a9⟩
    ·rcases List.mem_or_eq_of_mem_set (show some d∈M.cells.set _ _ from hd)with hd | hd
     ·exact a5 d hd
     ·cases hd;exact h8
    ·show(M.sw.grey++[i]).Nodup;rw[List.nodup_append];exact⟨nd,by simp,λa ha b hb e=>hni (by rw[List.mem_singleton.mp hb]at e;rw[<- e];exact ha)⟩
    ·have e:=nZ (c':={ c with tone:=M.sw.sense }) hc x;show ∃d,cellAt (setCell M i { c with tone:=M.sw.sense }) x=some d/\d.tone=M.sw.sense;rw[e]
     by_cases ex:x=i
     ·exact⟨_,by rw[if_pos ex],rfl⟩
     ·rcases List.mem_append.mp (show x∈M.sw.grey++[i]from hx)with hx | hx
      ·obtain⟨d,hd,td⟩:=h1 x hx;exact⟨d,by rw[if_neg ex];exact hd,td⟩
      ·exact absurd (List.mem_singleton.mp hx) ex
   ·exact p
def KW.notes:∀{l:List (Option Int)}{M:Wm},KW M hs k->KW (aU M l).2 hs k
 | [],_,p=>p
 | x::l,_,p=>KW.notes (l:=l) (p.note x)
def KW.nh(bits:Int):∀{l:List (Str×List (Option Int))}{j:Nat}{M:Wm},KW M hs k->KW (iH bits l j M).2 hs k
 | [],_,_,p=>p
 | m::l,j,M,p=>by
  unfold iH;split
  ·exact KW.nh bits (l:=l) (KW.notes p)
  ·exact KW.nh bits (l:=l) p
def KW.put(p:KW M hs k){u b:Int}{c:Ce}(hf:c.fl.length<=8):KW { M with used:=u,born:=b,cells:=pY M.cells c } hs (k+1):=by
 obtain⟨a1,a2,a3,a4,a5,a6,a7,a8,a9⟩:=p;refine⟨a1,a2,?_,by show M.names.length<=_;omega,λd hd=>?_,λph=>?_,a7,a8,a9⟩
 ·have:=Zqr M.cells c;show(pY M.cells c).length<=_;omega
 ·rcases Zns hd with hd | hd
  ·exact a5 d hd
  ·cases hd;exact hf
 ·obtain⟨nd,h1⟩:=a6 ph;refine⟨nd,λx hx=>?_⟩;obtain⟨d,hd,td⟩:=h1 x hx;exact⟨d,Zi0 hd,td⟩
def Zjz{l:List (Str×(Int×Int))}{z:Str}{v:Int×Int}:(wj l z v).length<=l.length+1:=by
 unfold wj;split
 ·rw[aY];omega
 ·rw[List.length_append];simp
def KW.name(p:KW M hs k){z:Str}{v:Int×Int}:KW { M with names:=wj M.names z v } hs (k+1):=by
 obtain⟨a1,a2,a3,a4,a5,a6,a7,a8,a9⟩:=p;refine⟨a1,a2,by show M.cells.length<=_;omega,?_,a5,a6,a7,a8,a9⟩;have:=Zjz (l:=M.names) (z:=z) (v:=v);show(wj M.names z v).length<=_;omega
def KW.deed(p:KW M hs k){d:o7}{e:Ev}{M':Wm}(o:okR hs d)(h:yJ M d=.ok (e,M')):KW M' hs (k+1):=by
 have le:k<=k+1:=by omega
 cases d with
 | make hh s many bulk=>
  simp only[yJ]at h;split at h
  ·have h2:=(Except.ok.inj h);rw[<- (Prod.mk.inj h2).2];refine KW.slot (KW.put p ?_) _ _ _;show(List.replicate many.toNat none).length<=8;rw[List.length_replicate];have:=o.2.2.1;omega
  ·cases h
 | get hh s t f=>
  simp only[yJ]at h;split at h
  ·cases h
  ·split at h
   ·cases h
   ·split at h
    ·cases h
    ·have h2:=(Except.ok.inj h);rw[<- (Prod.mk.inj h2).2];exact(p.slot _ _ _).mono le
 | put hh t f s=>
  simp only[yJ]at h;split at h
  ·cases h
  ·split at h
   ·cases h
   ·rename_i c hc
    split at h
    ·cases h
    ·have h2:=(Except.ok.inj h);rw[<- (Prod.mk.inj h2).2];exact(KW.notes (p.cell (c':={ c with fl:=c.fl.set f (aW M hh s) }) hc rfl (by show(List.set _ _ _).length=_;rw[List.length_set]))).mono le
 | copy hh s t=>
  have h2:=(Except.ok.inj h);rw[<- (Prod.mk.inj h2).2];exact(p.slot _ _ _).mono le
 | drop hh s=>
  have h2:=(Except.ok.inj h);rw[<- (Prod.mk.inj h2).2];exact(p.slot _ _ _).mono le
 | give hh s g t=>
  have h2:=(Except.ok.inj h);rw[<- (Prod.mk.inj h2).2];exact(KW.notes (p.slot _ _ _)).mono le
 | write hh t l=>
  simp only[yJ]at h;split at h
  ·cases h
  ·split at h
   ·cases h
   ·rename_i c hc
    have h2:=(Except.ok.inj h);rw[<- (Prod.mk.inj h2).2];exact(p.cell (c':={ c with load:=l }) hc rfl rfl).mono le
 | read hh t=>
  simp only[yJ]at h;split at h
  ·cases h
  ·split at h
   ·cases h
   ·have h2:=(Except.ok.inj h);rw[<- (Prod.mk.inj h2).2];exact p.mono le
 | name hh t z=>
  simp only[yJ]at h;split at h
  ·cases h
  ·split at h
   ·cases h
   ·have h2:=(Except.ok.inj h);rw[<- (Prod.mk.inj h2).2];exact p.name
 | seek hh s z=>
  simp only[yJ]at h;split at h
  ·cases h
  ·split at h
   ·have h2:=(Except.ok.inj h);rw[<- (Prod.mk.inj h2).2];exact(p.slot _ _ _).mono le
   ·have h2:=(Except.ok.inj h);rw[<- (Prod.mk.inj h2).2];exact(KW.notes (p.slot _ _ _)).mono le
def KW.step(p:KW M hs k){lb:Int}{lw:List Int}{e:Ev}{M':Wm}(h:vB lb lw M e M'):KW M' hs k:=by
 cases h with
 | begin ph=>
  refine KW.nh _ ?_;obtain⟨a1,a2,a3,a4,a5,a6,a7,a8,a9⟩:=p;exact⟨a1,a2,a3,a4,a5,λ_=>⟨List.nodup_nil,λx hx=>(nomatch hx)⟩,.inr (.inl rfl),a8,a9⟩
 | walk x g c ph hg hc=>
  refine KW.notes ?_;obtain⟨a1,a2,a3,a4,a5,a6,a7,a8,a9⟩:=p;refine⟨a1,a2,a3,a4,a5,λ_=>?_,a7,a8,a9⟩;obtain⟨nd,h1⟩:=a6 ph;rw[hg]at nd h1;exact⟨(List.nodup_cons.mp nd).2,λy hy=>h1 y (List.mem_cons_of_mem _ hy)⟩
 | look N ph hg nc hN=>
  have p':KW N hs k:=by rw[hN];exact KW.nh _ p
  obtain⟨a1,a2,a3,a4,a5,a6,a7,a8,a9⟩:=p';exact⟨a1,a2,a3,a4,a5,a6,a7,a8,a9⟩
 | cut q qs ph hg cd bf hno=>
  obtain⟨a1,a2,a3,a4,a5,a6,a7,a8,a9⟩:=p;exact⟨a1,a2,a3,a4,a5,λz=>absurd z (show ¬ ("give":Str)="walk" by decide),.inr (.inr (.inl rfl)),Int.le_refl _,a9⟩
 | lost q qs i x c v ph hg cd bf hx hno hc ht=>
  obtain⟨a1,a2,a3,a4,a5,a6,a7,a8,a9⟩:=p;exact⟨a1,a2,a3,a4,a5,λz=>absurd z (show ¬ ("lost":Str)="walk" by decide),.inr (.inr (.inr rfl)),Int.le_refl _,a9⟩
 | pass ph lt hp=>
  obtain⟨a1,a2,a3,a4,a5,a6,a7,a8,a9⟩:=p;exact⟨a1,a2,a3,a4,a5,a6,a7,by show 0<=M.sw.at'+1;omega,a9⟩
 | back c ph lt hc ht=>
  obtain⟨a1,a2,a3,a4,a5,a6,a7,a8,a9⟩:=p;refine⟨a1,a2,by show(M.cells.set _ _).length<=_;rw[List.length_set];exact a3,a4,λd hd=>?_,λz=>absurd (ph.symm.trans z) (by decide),a7,by show 0<=M.sw.at'+1;omega,a9⟩;rcases List.mem_or_eq_of_mem_set (show some d∈M.cells.set _ _ from hd)with hd | hd
  ·exact a5 d hd
  ·cases hd
 | fin ph lt=>
  obtain⟨a1,a2,a3,a4,a5,a6,a7,a8,a9⟩:=p;exact⟨a1,a2,a3,a4,a5,λz=>absurd z (show ¬ ("rest":Str)="walk" by decide),.inl rfl,a8,a9⟩
 | again ph=>exact p
def KW.new{room:Int}{w t:Int}(h0:0<=t)(h1:t<4):KW (Zcq room hs w t) hs 0:=by
 refine⟨by show(hs.map _).length=_;rw[aY],λi m n e1 e2=>?_,Nat.le_refl _,Nat.le_refl _,λc hc=>(nomatch hc),λz=>absurd z (show ¬ ("rest":Str)="walk" by decide),.inl rfl,Int.le_refl _,⟨h0,h1⟩⟩;have e1:(hs.map λm=>(m.1,List.replicate m.2.toNat (none:Option Int)))[i]? =some m:=e1;rw[cz,e2]at e1;cases e1;exact List.length_replicate
end
inductive Tr where
 | fl:V->Tr
 | ls:List Tr->Tr
 | tp:List Tr->Tr
structure Kp(H H':Hp)(T T':Tg):Prop where
 k:∀b o,H b=some o->(T b).1=0\/6<=(T b).1->H' b=some o
 tg:∀b o,H b=some o->T' b=T b
 al:∀b o,H b=some o->∃o',H' b=some o'
def Kp.same{H H':Hp}{T:Tg}(s:aX H H'):Kp H H' T T:=⟨λb o h _=>s _ _ h,λ_ _ _=>rfl,λb o h=>⟨o,s _ _ h⟩⟩
def Kp.stp{s:Nat}{H H':Hp}{T T':Tg}(st:jo s H H' T T')(n:s≠0/\s<6):Kp H H' T T':=⟨λb o h t=>st.kp b o h (by omega),st.tg,st.al⟩
def Kp.trans{H H1 H2:Hp}{T T1 T2:Tg}(a:Kp H H1 T T1)(b:Kp H1 H2 T1 T2):Kp H H2 T T2:=
 ⟨λx o h t=>b.k x o (a.k x o h t) (by rw[a.tg x o h];exact t),λx o h=>by
  obtain⟨o1,h1⟩:=a.al x o h;exact(b.tg x o1 h1).trans (a.tg x o h),λx o h=>by
  obtain⟨o1,h1⟩:=a.al x o h;exact b.al x o1 h1⟩
def Zsw(x:Option Int):pW (oV x)=true:=by cases x<;>rfl
def nW(M:Wm)(i:Int):Bool:=match cellAt M i with
 | none=>false
 | some c=>decide (c.tone≠M.sw.sense)
def ntP(M:Wm):List (Option Int)->List Int->List Int
 | [],acc=>acc
 | none::l,acc=>ntP M l acc
 | some i::l,acc=>if nW M i=true/\i∉acc then ntP M l (acc++[i])else ntP M l acc
def fC(M:Wm):List Int->Wm
 | acc=>acc.foldl (λN i=>(bO N (some i)).2) M
def eG(M:Wm)(i:Int):Int:=((cellAt M i).map (·.birth)).getD 0
section
variable {M:Wm}
def Rq(acc:List Int)(i:Int):fC M (acc++[i])=(bO (fC M acc) (some i)).2:=by
 unfold fC;rw[List.foldl_append];rfl
structure NL(M N:Wm)(acc:List Int):Prop where
 sw:N.sw={ M.sw with grey:=M.sw.grey++acc }
 at_:∀i,cellAt N i=if i∈acc then(cellAt M i).map (λc=>{ c with tone:=M.sw.sense })else cellAt M i
 nt:NtR M N
def Zcf(ph:M.sw.phase="walk"):∀(n:Nat) (acc:List Int),acc.length=n->acc.Nodup->(∀i∈acc,nW M i=true)->NL M (fC M acc) acc:=by
 intro n
 induction n with
 | zero=>
  intro acc hl _ _;rw[List.eq_nil_of_length_eq_zero hl];exact⟨by rw[List.append_nil];rfl,λi=>by rw[if_neg (by simp)];rfl,NtR.refl M⟩
 | succ n ih=>
  intro acc hl nd hp;obtain⟨a0,i,rfl⟩:∃a0 i,acc=a0++[i]:=⟨acc.dropLast,acc.getLast (by intro z;rw[z]at hl;cases hl),(List.dropLast_concat_getLast _).symm⟩;rw[List.length_append,List.length_singleton]at hl;rw[List.nodup_append]at nd;obtain⟨nd0,_,nd1⟩:=nd;have hni:i∉a0:=λz=>nd1 i z i (by simp) rfl;obtain⟨s1,a1,n1⟩:=ih a0 (by omega) nd0 λx hx=>hp x (by simp[hx]);have hpi:=hp i (by simp);unfold nW at hpi;cases hc:cellAt M i with
  | none=>rw[hc]at hpi;cases hpi
  | some c=>
   rw[hc]at hpi;have ht:c.tone≠M.sw.sense:=decide_eq_true_iff.mp hpi;have hcN:cellAt (fC M a0) i=some c:=by rw[a1 i,if_neg hni];exact hc
   have phN:(fC M a0).sw.phase="walk":=by rw[s1];exact ph
   have seN:(fC M a0).sw.sense=M.sw.sense:=by rw[s1]
   have en:bO (fC M a0) (some i)=(some c.birth,{ setCell (fC M a0) i { c with tone:=(fC M a0).sw.sense }with sw:={ (fC M a0).sw with grey:=(fC M a0).sw.grey++[i] } }):=by
    unfold bO;dsimp only;rw[hcN];dsimp only;rw[if_pos ⟨phN,by rw[seN];exact ht⟩]
   rw[Rq];have nt2:=n1.trans (Zce (fC M a0) (some i));refine⟨?_,λx=>?_,nt2⟩
   ·rw[en];show { (fC M a0).sw with grey:=(fC M a0).sw.grey++[i] }=_;rw[s1];simp only[List.append_assoc]
   ·rw[en];show cellAt (setCell (fC M a0) i { c with tone:=(fC M a0).sw.sense }) x=_;rw[nZ hcN,seN]
    by_cases e:x=i
    ·subst e;rw[if_pos rfl,if_pos (by simp),hc];rfl
    ·rw[if_neg e,a1 x]
     by_cases h:x∈a0
     ·rw[if_pos h,if_pos (by simp[h])]
     ·rw[if_neg h,if_neg (by simp[h,e])]
def Zt:∀(l:List (Option Int)) (acc:List Int),acc.Nodup->(∀i∈acc,nW M i=true)->(ntP M l acc).Nodup/\∀i∈ntP M l acc,nW M i=true
 | [],acc,h1,h2=>⟨h1,h2⟩
 | none::l,acc,h1,h2=>Zt l acc h1 h2
 | some i::l,acc,h1,h2=>by
  unfold ntP;split
  ·rename_i z
   refine Zt l (acc++[i]) ?_ λx hx=>?_
   ·rw[List.nodup_append];exact⟨h1,by simp,λa ha b hb e=>z.2 (by rw[List.mem_singleton.mp hb]at e;rw[<- e];exact ha)⟩
   ·rcases List.mem_append.mp hx with hx | hx
    ·exact h2 x hx
    ·rw[List.mem_singleton.mp hx];exact z.1
  ·exact Zt l acc h1 h2
def Eo(ph:M.sw.phase="walk"):∀(l:List (Option Int)) (acc:List Int),acc.Nodup->(∀i∈acc,nW M i=true)->(aU (fC M acc) l).2=fC M (ntP M l acc)/\acc.map (eG M)++(aU (fC M acc) l).1=(ntP M l acc).map (eG M)
 | [],acc,_,_=>⟨rfl,by rw[show(aU (fC M acc) []).1=[]from rfl,List.append_nil];rfl⟩
 | none::l,acc,h1,h2=>by
  have e:aU (fC M acc) (none::l)=aU (fC M acc) l:=by
   show(ofN none++(aU (fC M acc) l).1,(aU (fC M acc) l).2)=_;rfl
  rw[e];exact Eo ph l acc h1 h2
 | some i::l,acc,h1,h2=>by
  have nl:=Zcf ph acc.length acc rfl h1 h2;have phN:(fC M acc).sw.phase="walk":=by rw[nl.sw];exact ph
  have seN:(fC M acc).sw.sense=M.sw.sense:=by rw[nl.sw]
  have en:aU (fC M acc) (some i::l)=(ofN (bO (fC M acc) (some i)).1++(aU (bO (fC M acc) (some i)).2 l).1,(aU (bO (fC M acc) (some i)).2 l).2):=rfl;rw[en];unfold ntP
  by_cases z:nW M i=true/\i∉acc
  ·rw[if_pos z];obtain⟨z1,z2⟩:=z;have z1':=z1;unfold nW at z1;cases hc:cellAt M i with
   | none=>rw[hc]at z1;cases z1
   | some c=>
    rw[hc]at z1;have ht:c.tone≠M.sw.sense:=decide_eq_true_iff.mp z1;have hcN:cellAt (fC M acc) i=some c:=by rw[nl.at_ i,if_neg z2];exact hc
    have e1:(bO (fC M acc) (some i)).1=some c.birth:=by
     unfold bO;dsimp only;rw[hcN];dsimp only;rw[if_pos ⟨phN,by rw[seN];exact ht⟩]
    have e2:(bO (fC M acc) (some i)).2=fC M (acc++[i]):=(Rq acc i).symm;rw[e1,e2];have nd:(acc++[i]).Nodup:=by
     rw[List.nodup_append];exact⟨h1,by simp,λa ha b hb e=>z2 (by rw[List.mem_singleton.mp hb]at e;rw[<- e];exact ha)⟩
    obtain⟨r1,r2⟩:=Eo ph l (acc++[i]) nd λx hx=>by
     rcases List.mem_append.mp hx with hx | hx
     ·exact h2 x hx
     ·rw[List.mem_singleton.mp hx];exact z1'
    refine⟨r1,?_⟩;rw[<- r2,List.map_append];have eb:eG M i=c.birth:=by unfold eG;rw[hc];rfl
    simp[ofN,eb]
  ·rw[if_neg z];have e1:bO (fC M acc) (some i)=(none,fC M acc):=by
    unfold bO;dsimp only;rw[nl.at_ i]
    by_cases hi:i∈acc
    ·rw[if_pos hi];cases hc:cellAt M i with
     | none=>rfl
     | some c=>
      show(if _ then _ else _)=_;rw[if_neg (λy=>y.2 (by rw[seN]))]
    ·rw[if_neg hi];cases hc:cellAt M i with
     | none=>rfl
     | some c=>
      have:¬ nW M i=true:=λy=>z ⟨y,hi⟩;unfold nW at this;rw[hc]at this;show(if _ then _ else _)=_;rw[if_neg (λy=>this (decide_eq_true (by rw[<- seN];exact y.2)))]
   rw[e1];obtain⟨r1,r2⟩:=Eo ph l acc h1 h2;exact⟨r1,by simpa[ofN]using r2⟩
def nhL(bits:Int):List (Str×List (Option Int))->Nat->List (Option Int)
 | [],_=>[]
 | m::l,k=>if bits / 2 ^ k % 2=1 then m.2++nhL bits l (k+1)else nhL bits l (k+1)
def Rp:∀(a b:List (Option Int)) (M:Wm),aU M (a++b)=((aU M a).1++(aU (aU M a).2 b).1,(aU (aU M a).2 b).2)
 | [],b,M=>rfl
 | x::a,b,M=>by
  show(ofN (bO M x).1++(aU (bO M x).2 (a++b)).1,(aU (bO M x).2 (a++b)).2)=((ofN (bO M x).1++(aU (bO M x).2 a).1)++(aU (aU (bO M x).2 a).2 b).1,(aU (aU (bO M x).2 a).2 b).2);rw[Rp a b,List.append_assoc]
def Znn(bits:Int):∀(l:List (Str×List (Option Int))) (k:Nat) (M:Wm),iH bits l k M=aU M (nhL bits l k)
 | [],_,_=>rfl
 | m::l,k,M=>by
  unfold iH nhL;split
  ·rw[Rp,Znn bits l (k+1)]
  ·exact Znn bits l (k+1) M
end
structure TB(w0:Int)(M:Wm):Prop where
 bu:∀i j c d,cellAt M i=some c->cellAt M j=some d->c.birth=d.birth->i=j
 bn:∀i c,cellAt M i=some c->1<=c.birth/\c.birth<=M.born
 b0:0<=M.born
 se:M.sw.sense=0\/M.sw.sense=1
 tn:∀i c,cellAt M i=some c->c.tone=0\/c.tone=1
 rs:M.sw.phase="rest"->∀i c,cellAt M i=some c->c.tone=M.sw.sense
 gv:M.sw.phase="give"->∀i c,cellAt M i=some c->c.tone≠M.sw.sense->M.sw.at'<=i/\i<M.sw.stop
 ww:M.w=w0
structure Sb(M M':Wm):Prop where
 ce:∀i,(cellAt M' i).map (·.birth)=(cellAt M i).map (·.birth)
 tn:∀i c c',cellAt M i=some c->cellAt M' i=some c'->c'.tone=c.tone\/(M.sw.phase="walk"/\c'.tone=M.sw.sense)
 bn:M'.born=M.born
 se:M'.sw.sense=M.sw.sense
 ph:M'.sw.phase=M.sw.phase
 at_:M'.sw.at'=M.sw.at'
 st:M'.sw.stop=M.sw.stop
 ww:M'.w=M.w
section
variable {M M':Wm}{w0:Int}
def Sb.get(h:Sb M M'){i:Int}{c':Ce}(e:cellAt M' i=some c'):∃c,cellAt M i=some c/\c'.birth=c.birth/\(c'.tone=c.tone\/(M.sw.phase="walk"/\c'.tone=M.sw.sense)):=by
 have h1:=h.ce i;rw[e]at h1;cases hc:cellAt M i with
 | none=>rw[hc]at h1;cases h1
 | some c=>
  rw[hc]at h1;exact⟨c,rfl,Option.some.inj h1,h.tn i c c' hc e⟩
def Sb.yP(h:M'.cells=M.cells)(bn:M'.born=M.born)(se:M'.sw.sense=M.sw.sense)(ph:M'.sw.phase=M.sw.phase)(at_:M'.sw.at'=M.sw.at')(st:M'.sw.stop=M.sw.stop)(ww:M'.w=M.w):Sb M M':=by
 have e:∀i,cellAt M' i=cellAt M i:=λi=>by unfold cellAt;rw[h]
 exact⟨λi=>by rw[e],λi c c' h1 h2=>by rw[e,h1]at h2;cases h2;exact .inl rfl,bn,se,ph,at_,st,ww⟩
def Sb.refl(M:Wm):Sb M M:=Sb.yP rfl rfl rfl rfl rfl rfl rfl
def Sb.trans{M'':Wm}(a:Sb M M')(b:Sb M' M''):Sb M M'':=by
 refine⟨λi=>(b.ce i).trans (a.ce i),λi c c2 h1 h2=>?_,b.bn.trans a.bn,b.se.trans a.se,b.ph.trans a.ph,b.at_.trans a.at_,b.st.trans a.st,b.ww.trans a.ww⟩;obtain⟨c1,h3,_,h4⟩:=b.get h2;have h5:=a.tn i c c1 h1 h3;rw[a.ph,a.se]at h4;rcases h4 with h4 | h4
 ·rcases h5 with h5 | h5
  ·exact .inl (h4.trans h5)
  ·exact .inr ⟨h5.1,h4.trans h5.2⟩
 ·exact .inr h4
def Sb.slot(M:Wm)(h s:Nat)(x:Option Int):Sb M (setSlot M h s x):=Sb.yP rfl rfl rfl rfl rfl rfl rfl
def Sb.cell{i:Int}{c c':Ce}(h:cellAt M i=some c)(hb:c'.birth=c.birth)(ht:c'.tone=c.tone\/(M.sw.phase="walk"/\c'.tone=M.sw.sense)):Sb M (setCell M i c'):=by
 refine⟨λx=>?_,λx d d' h1 h2=>?_,rfl,rfl,rfl,rfl,rfl,rfl⟩
 ·rw[nZ h]
  by_cases e:x=i
  ·subst e;rw[if_pos rfl,h];exact congrArg some hb
  ·rw[if_neg e]
 ·rw[nZ h]at h2
  by_cases e:x=i
  ·subst e;rw[if_pos rfl]at h2;rw[h]at h1;cases h1;cases h2;exact ht
  ·rw[if_neg e,h1]at h2;cases h2;exact .inl rfl
def Sb.note(M:Wm)(x:Option Int):Sb M (bO M x).2:=by
 cases x with
 | none=>exact Sb.refl M
 | some i=>
  unfold bO;dsimp only;cases hc:cellAt M i with
  | none=>exact Sb.refl M
  | some c=>
   dsimp only;split
   ·rename_i z
    exact(Sb.cell (c':={ c with tone:=M.sw.sense }) hc rfl (.inr ⟨z.1,rfl⟩)).trans (Sb.yP rfl rfl rfl rfl rfl rfl rfl)
   ·exact Sb.refl M
def Sb.notes:∀(l:List (Option Int)) (M:Wm),Sb M (aU M l).2
 | [],M=>Sb.refl M
 | x::l,M=>(Sb.note M x).trans (Sb.notes l _)
def Sb.nh(bits:Int):∀(l:List (Str×List (Option Int))) (j:Nat) (M:Wm),Sb M (iH bits l j M).2
 | [],_,M=>Sb.refl M
 | m::l,j,M=>by
  unfold iH;split
  ·exact(Sb.notes m.2 M).trans (Sb.nh bits l (j+1) _)
  ·exact Sb.nh bits l (j+1) M
def TB.sb(p:TB w0 M)(h:Sb M M'):TB w0 M':=by
 refine⟨λi j c d h1 h2 e=>?_,λi c h1=>?_,by rw[h.bn];exact p.b0,by rw[h.se];exact p.se,λi c h1=>?_,λph i c h1=>?_,λph i c h1 ht=>?_,by rw[h.ww];exact p.ww⟩
 ·obtain⟨c0,e1,b1,_⟩:=h.get h1;obtain⟨d0,e2,b2,_⟩:=h.get h2;exact p.bu i j c0 d0 e1 e2 (by rw[<- b1,<- b2];exact e)
 ·obtain⟨c0,e1,b1,_⟩:=h.get h1;rw[b1,h.bn];exact p.bn i c0 e1
 ·obtain⟨c0,e1,_,t1⟩:=h.get h1;rcases t1 with t1 | t1
  ·rw[t1];exact p.tn i c0 e1
  ·rw[t1.2];exact p.se
 ·obtain⟨c0,e1,_,t1⟩:=h.get h1;rw[h.ph]at ph;rw[h.se];rcases t1 with t1 | t1
  ·rw[t1];exact p.rs ph i c0 e1
  ·exact t1.2
 ·obtain⟨c0,e1,_,t1⟩:=h.get h1;rw[h.ph]at ph;rw[h.se]at ht;rw[h.at_,h.st];rcases t1 with t1 | t1
  ·exact p.gv ph i c0 e1 (by rw[<- t1];exact ht)
  ·exact absurd t1.2 ht
def kj{x u b:Int}{c d:Ce}(h:cellAt { M with used:=u,born:=b,cells:=pY M.cells c } x=some d):(x=mD M.cells/\d=c)\/cellAt M x=some d:=by
 obtain⟨h0,h1⟩:=dm.mp h;have h1:(pY M.cells c)[x.toNat]? =some (some d):=h1
 by_cases z:x.toNat=mD M.cells
 ·rw[z,Pg]at h1;cases h1;exact .inl ⟨by omega,rfl⟩
 ·refine .inr (dm.mpr ⟨h0,?_⟩);unfold pY at h1;split at h1
  ·rw[List.getElem?_set_ne (λe=>z e.symm)]at h1;exact h1
  ·rename_i y
   rw[List.getElem?_append]at h1;split at h1
   ·exact h1
   ·rename_i y2
    have hlt:=(dY h1).1;have hle:=Za4 M.cells;have:x.toNat - M.cells.length<1:=hlt;omega
def TB.put(p:TB w0 M){u:Int}{c:Ce}(hb:c.birth=M.born+1)(ht:c.tone=M.sw.sense):TB w0 { M with used:=u,born:=M.born+1,cells:=pY M.cells c }:=by
 have b0:=p.b0;refine⟨λi j d e h1 h2 eb=>?_,λi d h1=>?_,by show 0<=M.born+1;omega,p.se,λi d h1=>?_,λph i d h1=>?_,λph i d h1 hp=>?_,p.ww⟩
 ·rcases kj h1 with ⟨z1,z2⟩ | z1
  ·rcases kj h2 with ⟨y1,y2⟩ | y1
   ·rw[z1,y1]
   ·have:=p.bn j e y1;rw[z2,hb]at eb;omega
  ·rcases kj h2 with ⟨y1,y2⟩ | y1
   ·have:=p.bn i d z1;rw[y2,hb]at eb;omega
   ·exact p.bu i j d e z1 y1 eb
 ·show 1<=d.birth/\d.birth<=M.born+1;rcases kj h1 with ⟨z1,z2⟩ | z1
  ·rw[z2,hb];omega
  ·have:=p.bn i d z1;omega
 ·rcases kj h1 with ⟨z1,z2⟩ | z1
  ·rw[z2,ht];exact p.se
  ·exact p.tn i d z1
 ·rcases kj h1 with ⟨z1,z2⟩ | z1
  ·rw[z2];exact ht
  ·exact p.rs ph i d z1
 ·rcases kj h1 with ⟨z1,z2⟩ | z1
  ·rw[z2]at hp;exact absurd ht hp
  ·exact p.gv ph i d z1 hp
def TB.deed(p:TB w0 M){d:o7}{e:Ev}(h:yJ M d=.ok (e,M')):TB w0 M':=by
 cases d with
 | make hh s many bulk=>
  simp only[yJ]at h;split at h
  ·have h2:=(Except.ok.inj h);rw[<- (Prod.mk.inj h2).2];exact(TB.put p (c:=⟨M.born+1,bulk,M.sw.sense,0,List.replicate many.toNat none⟩) rfl rfl).sb (Sb.slot _ _ _ _)
  ·cases h
 | get hh s t f=>
  simp only[yJ]at h;split at h
  ·cases h
  ·split at h
   ·cases h
   ·split at h
    ·cases h
    ·have h2:=(Except.ok.inj h);rw[<- (Prod.mk.inj h2).2];exact p.sb (Sb.slot _ _ _ _)
 | put hh t f s=>
  simp only[yJ]at h;split at h
  ·cases h
  ·split at h
   ·cases h
   ·rename_i c hc
    split at h
    ·cases h
    ·have h2:=(Except.ok.inj h);rw[<- (Prod.mk.inj h2).2];exact p.sb ((Sb.cell (c':={ c with fl:=c.fl.set f (aW M hh s) }) hc rfl (.inl rfl)).trans (Sb.notes _ _))
 | copy hh s t=>
  have h2:=(Except.ok.inj h);rw[<- (Prod.mk.inj h2).2];exact p.sb (Sb.slot _ _ _ _)
 | drop hh s=>
  have h2:=(Except.ok.inj h);rw[<- (Prod.mk.inj h2).2];exact p.sb (Sb.slot _ _ _ _)
 | give hh s g t=>
  have h2:=(Except.ok.inj h);rw[<- (Prod.mk.inj h2).2];exact p.sb ((Sb.slot _ _ _ _).trans (Sb.notes _ _))
 | write hh t l=>
  simp only[yJ]at h;split at h
  ·cases h
  ·split at h
   ·cases h
   ·rename_i c hc
    have h2:=(Except.ok.inj h);rw[<- (Prod.mk.inj h2).2];exact p.sb (Sb.cell (c':={ c with load:=l }) hc rfl (.inl rfl))
 | read hh t=>
  simp only[yJ]at h;split at h
  ·cases h
  ·split at h
   ·cases h
   ·have h2:=(Except.ok.inj h);rw[<- (Prod.mk.inj h2).2];exact p
 | name hh t z=>
  simp only[yJ]at h;split at h
  ·cases h
  ·split at h
   ·cases h
   ·have h2:=(Except.ok.inj h);rw[<- (Prod.mk.inj h2).2];exact p.sb (Sb.yP rfl rfl rfl rfl rfl rfl rfl)
 | seek hh s z=>
  simp only[yJ]at h;split at h
  ·cases h
  ·split at h
   ·have h2:=(Except.ok.inj h);rw[<- (Prod.mk.inj h2).2];exact p.sb (Sb.slot _ _ _ _)
   ·have h2:=(Except.ok.inj h);rw[<- (Prod.mk.inj h2).2];exact p.sb ((Sb.slot _ _ _ _).trans (Sb.notes _ _))
def TB.step(p:TB w0 M){lb:Int}{lw:List Int}{e:Ev}(h:vB lb lw M e M'):TB w0 M':=by
 cases h with
 | begin ph=>
  refine TB.sb ?_ (Sb.nh _ _ _ _);obtain⟨a1,a2,a3,a4,a5,a6,a7,a8⟩:=p;exact⟨a1,a2,a3,by show 1 - M.sw.sense=0\/1 - M.sw.sense=1;omega,a5,λz=>absurd z (show ¬ ("walk":Str)="rest" by decide),λz=>absurd z (show ¬ ("walk":Str)="give" by decide),a8⟩
 | walk x g c ph hg hc=>
  have a:Sb M { M with sw:={ M.sw with grey:=g,walks:=M.sw.walks+1 } }:=Sb.yP rfl rfl rfl rfl rfl rfl rfl;exact p.sb (a.trans (Sb.notes c.fl _))
 | look N ph hg nc hN=>
  subst hN;exact p.sb ((Sb.nh _ _ _ _).trans (Sb.yP rfl rfl rfl rfl rfl rfl rfl))
 | cut q qs ph hg cd bf hno=>
  obtain⟨a1,a2,a3,a4,a5,a6,a7,a8⟩:=p;exact⟨a1,a2,a3,a4,a5,λz=>absurd z (show ¬ ("give":Str)="rest" by decide),λ_ i c hc _=>Xp (M:=M) hc,a8⟩
 | lost q qs i x c v ph hg cd bf hx hno hc ht=>
  obtain⟨a1,a2,a3,a4,a5,a6,a7,a8⟩:=p;exact⟨a1,a2,a3,a4,a5,λz=>absurd z (show ¬ ("lost":Str)="rest" by decide),λz=>absurd z (show ¬ ("lost":Str)="give" by decide),a8⟩
 | pass ph lt hp=>
  obtain⟨a1,a2,a3,a4,a5,a6,a7,a8⟩:=p;refine⟨a1,a2,a3,a4,a5,a6,λ_ i c hc ht=>?_,a8⟩;have h1:=a7 ph i c hc ht;have h2:i≠M.sw.at':=λz=>ht (hp c (by rw[<- z];exact hc));show M.sw.at'+1<=i/\i<M.sw.stop;omega
 | back c ph lt hc ht=>
  obtain⟨a1,a2,a3,a4,a5,a6,a7,a8⟩:=p;have gt:∀(u:Int) (w:Sw) (i:Int) (d:Ce),cellAt { M with used:=u,cells:=M.cells.set M.sw.at'.toNat none,sw:=w } i=some d->i≠M.sw.at'/\cellAt M i=some d:=λu w i d hd=>by
   obtain⟨h0,h1⟩:=dm.mp hd;have h1:(M.cells.set M.sw.at'.toNat none)[i.toNat]? =some (some d):=h1;obtain⟨k0,k1⟩:=dm.mp hc
   by_cases z:M.sw.at'.toNat=i.toNat
   ·rw[z,List.getElem?_set_self (by rw[<- z];exact(dY k1).1)]at h1;cases h1
   ·rw[List.getElem?_set_ne z]at h1;exact⟨λe=>z (by rw[e]),dm.mpr ⟨h0,h1⟩⟩
  refine⟨λi j d e h1 h2 eb=>a1 i j d e (gt _ _ i d h1).2 (gt _ _ j e h2).2 eb,λi d h1=>a2 i d (gt _ _ i d h1).2,a3,a4,λi d h1=>a5 i d (gt _ _ i d h1).2,λz=>absurd (ph.symm.trans z) (by decide),λ_ i d h1 hp=>?_,a8⟩;obtain⟨n1,n2⟩:=gt _ _ i d h1;have h3:=a7 ph i d n2 hp;show M.sw.at'+1<=i/\i<M.sw.stop;omega
 | fin ph lt=>
  obtain⟨a1,a2,a3,a4,a5,a6,a7,a8⟩:=p;refine⟨a1,a2,a3,a4,a5,λ_ i c hc=>?_,λz=>absurd z (show ¬ ("rest":Str)="give" by decide),a8⟩;refine Decidable.byContradiction λht=>?_;have h1:=a7 ph i c hc ht;omega
 | again ph=>exact p
def TB.new{room:Int}{hs:O7}{w t:Int}:TB w (Zcq room hs w t):=by
 have e:∀i c,cellAt (Zcq room hs w t) i=some c->False:=λi c h=>nomatch vz h;exact⟨λi _ c _ h=>(e i c h).elim,λi c h=>(e i c h).elim,Int.le_refl _,.inl rfl,λi c h=>(e i c h).elim,λ_ i c h=>(e i c h).elim,λ_ i c h=>(e i c h).elim,rfl⟩
end
def lG(P:Int->Bool):List (Option Int)->List Int->List Int
 | [],acc=>acc
 | none::l,acc=>lG P l acc
 | some b::l,acc=>if P b=true/\b∉acc then lG P l (acc++[b])else lG P l acc
section
variable {M:Wm}
def Bk{i:Int}{c:Ce}(h:cellAt M i=some c):eG M i=c.birth:=by unfold eG;rw[h];rfl
def wF(bu:∀i j c d,cellAt M i=some c->cellAt M j=some d->c.birth=d.birth->i=j){acc:List Int}(ha:∀i∈acc,∃c,cellAt M i=some c){i:Int}{c:Ce}(h:cellAt M i=some c):c.birth∈acc.map (eG M)↔i∈acc:=by
 constructor
 ·intro hm;obtain⟨j,hj,e⟩:=List.mem_map.mp hm;obtain⟨d,hd⟩:=ha j hj;rw[Bk hd]at e;rw[bu i j c d h hd e.symm];exact hj
 ·intro hm;rw[<- Bk h];exact List.mem_map_of_mem hm
def Df(bu:∀i j c d,cellAt M i=some c->cellAt M j=some d->c.birth=d.birth->i=j){P:Int->Bool}(hP:∀i c,cellAt M i=some c->P c.birth=nW M i):∀(l:List (Option Int)) (acc:List Int),(∀i∈acc,∃c,cellAt M i=some c)->lG P (l.map (vQ M)) (acc.map (eG M))=(ntP M l acc).map (eG M)
 | [],acc,_=>rfl
 | none::l,acc,h=>Df bu hP l acc h
 | some i::l,acc,h=>by
  cases hc:cellAt M i with
  | none=>
   have e:vQ M (some i)=none:=by show(cellAt M i).map _=_;rw[hc];rfl
   have z:nW M i=false:=by unfold nW;rw[hc]
   rw[List.map_cons,e];unfold ntP;rw[if_neg (by rw[z];simp)];exact Df bu hP l acc h
  | some c=>
   have e:vQ M (some i)=some c.birth:=by show(cellAt M i).map _=_;rw[hc];rfl
   rw[List.map_cons,e];unfold ntP lG;rw[hP i c hc]
   by_cases z:nW M i=true/\i∉acc
   ·rw[if_pos z,if_pos ⟨z.1,λy=>z.2 ((wF bu h hc).mp y)⟩];have e2:acc.map (eG M)++[c.birth]=(acc++[i]).map (eG M):=by rw[List.map_append,List.map_singleton,Bk hc]
    rw[e2];refine Df bu hP l (acc++[i]) λx hx=>?_;rcases List.mem_append.mp hx with hx | hx
    ·exact h x hx
    ·rw[List.mem_singleton.mp hx];exact⟨c,hc⟩
   ·rw[if_neg z,if_neg (λy=>z ⟨y.1,λhi=>y.2 ((wF bu h hc).mpr hi)⟩)];exact Df bu hP l acc h
def nhR(bits:Int):List (List (Option Int))->Nat->List (Option Int)
 | [],_=>[]
 | m::l,k=>if bits / 2 ^ k % 2=1 then m++nhR bits l (k+1)else nhR bits l (k+1)
def Znl(bits:Int)(f:Option Int->Option Int):∀(l:List (Str×List (Option Int))) (k:Nat),nhR bits (l.map λm=>m.2.map f) k=(nhL bits l k).map f
 | [],_=>rfl
 | m::l,k=>by
  rw[List.map_cons];unfold nhR nhL;split
  ·rw[List.map_append,Znl bits f l (k+1)]
  ·exact Znl bits f l (k+1)
def yM(P:Int->Bool):∀(a b:List (Option Int)) (acc:List Int),lG P (a++b) acc=lG P b (lG P a acc)
 | [],_,_=>rfl
 | none::a,b,acc=>yM P a b acc
 | some x::a,b,acc=>by
  show(if _ then lG P (a++b) _ else lG P (a++b) _)=lG P b (if _ then _ else _);split
  ·exact yM P a b _
  ·exact yM P a b _
end
def Zjd(K:aB):Sp:=λvs H Q E=>∃a,vs=[.ref a]/\∃ns:List Int,cL K H a (ns.map V.int)/\ns.length<=63/\∀H',Q (.bl true) H'
def Qc(X:Cs)(rf:Rf->Addr):Sp:=λvs H Q E=>∃wo dd,vs=[.ref wo,.ref dd]/\∃T s A M d,WT H T/\s≠0/\WJ X H T s A M/\A.wo=wo/\H dd=some (.tup (dV d))/\okD M d/\M.cells.length<=900/\(M.sw.phase="walk"->M.sw.grey.length<=10000)/\(0<=M.tells/\M.tells<4)/\M.names.length<=1000/\
 (∀r,yJ M d=.error r->∀H',aX H H'->Q .non H')/\
 (∀e M',yJ M d=.ok (e,M')->∀H' T' A' a,jo s H H' T T'->WJ X H' T' s A' M'->A'.wo=wo->EvN H H' a e->Q (.ref a) H')
section
def Zav{wo dd CE CN CF CM:Addr}(hE:rf .empty=CE)(hN:rf .sH=CN)(hF:rf .full=CF)(hM:rf .Rt=CM)(q:∃T s A M d,WT H T/\s≠0/\WJ X H T s A M/\A.wo=wo/\H dd=some (.tup (dV d))/\okD M d/\M.cells.length<=900/\(M.sw.phase="walk"->M.sw.grey.length<=10000)/\(0<=M.tells/\M.tells<4)/\M.names.length<=1000/\
 (∀r,yJ M d=.error r->∀H',aX H H'->Q .non H')/\
 (∀e M',yJ M d=.ok (e,M')->∀H' T' A' a,jo s H H' T T'->WJ X H' T' s A' M'->A'.wo=wo->EvN H H' a e->Q (.ref a) H')):
  Aa CE CF CN CM (ZHp X rf) ⟨n,Q,bk,ct⟩ [some (.ref wo),some (.ref dd),none] H:=by
 obtain⟨T,s,A,M,d,w,s0,j,rfl,ed,od,hc,hg,tl,nm,h1,h2⟩:=q;unfold Aa;walk_at"e";refine⟨_,dd,rfl,T,s,A,M,d,trivial,w,s0,j,rfl,ed,od,hc,hg,tl,nm,λr er H' sm=>?_,λe M' he H' T' A' a st j' aw ev=>?_⟩
 ·refine⟨?_,?_⟩
  ·cases r
   ·exact .inr (.inr (.inl (by rw[hF])))
   ·exact .inl (by rw[hE])
   ·exact .inr (.inl (by rw[hN]))
   ·exact .inr (.inr (.inr (by rw[hM])))
  ·walk_at"e";exact h1 r er H' sm
 ·walk_at"e";exact h2 e M' he H' T' A' a st j' aw ev
end
def RwO(H:Hp)(l:Addr)(rows:List (List (Option Int))):Prop:=∃ls:List Addr,H l=some (.lst (ls.map V.ref))/\ls.length=rows.length/\∀(j:Nat) r x,ls[j]? =some r->rows[j]? =some x->H r=some (.lst (x.map oV))
def allB:Int->Bool:=λ_=>true
def Z11q (H:Hp)(Q:VK)(l:Addr)(bits:Int):Prop:=∃rows,RwO H l rows/\rows.length<=30/\(∀x∈rows,x.length<=100)/\
 ∀a H',aX H H'->H a=none->H' a=some (.lst ((lG allB (nhR bits rows 0) []).map V.int))->Q (.ref a) H'
def Ef(K:aB):Sp:=λvs H Q E=>∃l bits,vs=[.ref l,.int bits]/\Z11q H Q l bits
def Zco(bits:Int)(m:List (Option Int)):∀(l:List (List (Option Int))) (k:Nat),nhR bits (l++[m]) k=nhR bits l k++if bits / 2 ^ (k+l.length) % 2=1 then m else []
 | [],k=>by
  show(if bits / 2 ^ k % 2=1 then m++[]else [])=_;rw[List.append_nil];rfl
 | a::l,k=>by
  have e:k+(a::l).length=k+1+l.length:=by rw[List.length_cons];omega
  rw[e,List.cons_append];unfold nhR;rw[Zco bits m l (k+1)];split
  ·rw[List.append_assoc]
  ·rfl
def uG(P:Int->Bool):∀(l:List (Option Int)) (acc:List Int),(lG P l acc).length<=acc.length+l.length
 | [],acc=>Nat.le_refl _
 | none::l,acc=>by have:=uG P l acc;rw[List.length_cons];show(lG P l acc).length<=_;omega
 | some b::l,acc=>by
  unfold lG;rw[List.length_cons];split
  ·have:=uG P l (acc++[b]);rw[List.length_append,List.length_singleton]at this;omega
  ·have:=uG P l acc;omega
def Zv(bits:Int)(B:Nat):∀(l:List (List (Option Int))) (k:Nat),(∀x∈l,x.length<=B)->(nhR bits l k).length<=l.length * B
 | [],_,_=>Nat.zero_le _
 | m::l,k,h=>by
  have h1:=Zv bits B l (k+1) λx hx=>h x (by simp[hx]);have h2:=h m (by simp);rw[List.length_cons,Nat.succ_mul];unfold nhR;split
  ·rw[List.length_append];omega
  ·omega
def Zfz(P:Int->Bool)(a:List (Option Int))(x:Option Int)(acc:List Int):lG P (a++[x]) acc=lG P [x] (lG P a acc):=yM P a [x] acc
def Zs5{b:Int}{l:List Int}:inV (.int b) (l.map V.int)=decide (b∈l):=Zdd
section
def VP{l:Addr}{bits:Int}(q:Z11q H Q l bits):xU K ⟨n,Q,bk,ct⟩ [some (.ref l),some (.int bits),none,none,none] H:=by
 obtain⟨rows,⟨ls,o1,hl,o2⟩,h30,h100,q⟩:=q;unfold xU;walk_at"e";refine⟨aV (by simp),λa na=>?_⟩;have s1:=aL na (.lst []);have g1:upd H a (.lst []) a=some (.lst (([]:List Int).map V.int)):=aq;generalize upd H a (.lst [])=H1 at s1 g1 ⊢;walk_at"e";refine jt (cL.of (s1 _ _ o1)) ?_;rw[aY,hl];walk_at"e";refine⟨_,rfl,by omega,by omega,?_⟩;refine forR (λk σ Hx=>∃v3 v4,σ=[some (.ref l),some (.int bits),some (.ref a),v3,v4]/\aX H Hx/\Hx a=some (.lst ((lG allB (nhR bits (rows.take k) 0) []).map V.int))) ⟨_,_,rfl,s1,g1⟩ ?_ ?_
 ·rintro k σ Hx hk ⟨v3,v4,rfl,s2,g2⟩;have hk:k<rows.length:=by omega
  obtain⟨x,hx⟩:∃x,rows[k]? =some x:=⟨_,bL hk⟩;obtain⟨r,hr⟩:∃r,ls[k]? =some r:=⟨_,bL (by omega)⟩;have etk:rows.take (k+1)=rows.take k++[x]:=by rw[List.take_add_one,hx];rfl
  have ltk:(rows.take k).length=k:=by rw[List.length_take];omega
  have or:=o2 k r x hr hx;have ZHs:=h100 x (List.mem_of_getElem? hx);have lnk:=Zv bits 100 (rows.take k) 0 λy hy=>h100 y (List.mem_of_mem_take hy);rw[ltk]at lnk;generalize hacc:lG allB (nhR bits (rows.take k) 0) []=acc at g2;have ZI2:acc.length<=k * 100:=by
   rw[<- hacc];have:=uG allB (nhR bits (rows.take k) 0) [];rw[List.length_nil]at this;omega
  have en:((0:Int)+(k:Int)).toNat=k:=by omega
  walk_at"e";refine ji (cL.of (s2 _ _ o1)) (v:=.ref r) ?_ ?_
  ·rw[Int.zero_add];exact iB (by rw[cz,hr];rfl)
  refine⟨r,rfl,⟨_,cL.of (s2 _ _ or)⟩,forL (x.map oV) (λi σ Hy=>∃v4,σ=[some (.ref l),some (.int bits),some (.ref a),some (.int ((0:Int)+k)),v4]/\aX H Hy/\Hy a=some (.lst ((lG allB (if bits / 2 ^ k % 2=1 then x.take i else []) acc).map V.int))) ⟨_,rfl,s2,?_⟩ (λ_ _ _ _ ⟨_,_,z,_⟩=>cL.of (z _ _ or)) ?_ ?_⟩
  ·rw[List.take_zero];split<;>exact g2
  ·rintro i y σ Hy hy ⟨v4',rfl,s3,g3⟩;rw[cz]at hy;obtain⟨b,hb,rfl⟩:=Option.map_eq_some_iff.mp hy;have eti:x.take (i+1)=x.take i++[b]:=by rw[List.take_add_one,hb];rfl
   have hi:i<x.length:=(dY hb).1;walk_at"e";rw[en,Zt6];refine vO (λz=>?_) (λz=>?_)
   ·rw[if_pos z]at g3;rw[if_pos z,eti,Zfz];generalize ZAb:lG allB (x.take i) acc=ac2 at g3;have ZI4:ac2.length<=k * 100+100:=by
     rw[<- ZAb];have h1:=uG allB (x.take i) acc;rw[List.length_take]at h1;omega
    cases b with
    | none=>
     rw[show oV none=V.non from rfl];walk_at"e";exact⟨_,rfl,s3,g3⟩
    | some b=>
     rw[show oV (some b)=V.int b from rfl];walk_at"e";refine⟨a,_,rfl,.inl (cL.of g3),rfl,uK _,?_⟩;rw[Zs5]
     by_cases hm:b∈ac2
     ·have e1:lG allB [some b] ac2=ac2:=by show(if allB b=true/\b∉ac2 then _ else _)=_;rw[if_neg (λy=>y.2 hm)];rfl
      rw[show(if true=true then !decide (b∈ac2)else decide (b∈ac2))=false from by simp[hm],e1];walk_at"e";exact⟨_,rfl,s3,g3⟩
     ·have e1:lG allB [some b] ac2=ac2++[b]:=by show(if allB b=true/\b∉ac2 then _ else _)=_;rw[if_pos ⟨rfl,hm⟩];rfl
      rw[show(if true=true then !decide (b∈ac2)else decide (b∈ac2))=true from by simp[hm],e1];walk_at"e";refine⟨.inl ⟨rfl,_,cL.of g3⟩,?_⟩;walk_at"e";refine⟨a,_,_,rfl,rfl,g3,?_,?_⟩
      ·rw[aY];exact Nat.lt_of_le_of_lt (show _<=4000 by omega) (by decide)
      rw[show ac2.map V.int++[V.int b]=(ac2++[b]).map V.int from by rw[List.map_append];rfl];walk_at"e";exact⟨_,rfl,λc o hc=>by rw[aC (aG hc na)];exact s3 _ _ hc,aq⟩
   ·rw[if_neg z]at g3;rw[if_neg z];walk_at"e";exact⟨_,rfl,s3,g3⟩
  ·rintro σ Hy ⟨v4',rfl,s3,g3⟩;rw[aY,List.take_length]at g3;have:lG allB (nhR bits (rows.take (k+1)) 0) []=lG allB (if bits / 2 ^ k % 2=1 then x else []) acc:=by
    rw[etk,Zco,yM,hacc,Nat.zero_add,ltk]
   refine⟨_,_,rfl,s3,?_⟩;rw[this];exact g3
 ·rintro σ Hx ⟨v3,v4,rfl,s2,g2⟩;rw[List.take_of_length_le (by omega)]at g2;walk_at"e";exact q a Hx s2 na g2
end
def MkO(H:Hp)(d:Addr)(f:Int->Option V)(k:Nat):Prop:=∃kvs:List (L2.Key×V),H d=some (.dK kvs)/\kvs.length<=k/\∀b:Int,nP kvs (Sum.inl b)=f b
def MkO.get{H:Hp}{d:Addr}{f:Int->Option V}{k:Nat}(h:MkO H d f k){b:Int}{v:V}(e:f b=some v):MP H d (.int b) (some v):=by
 obtain⟨kvs,h1,_,h2⟩:=h;have:=MP.k (k:=Sum.inl b) h1;rw[h2 b,e]at this;exact this
def MkO.put{H:Hp}{d:Addr}{f:Int->Option V}{k:Nat}(h:MkO H d f k)(hk:k<=100000)(b:Int)(v:V):∃H',V7 H d (.int b) v H'/\MkO H' d (λx=>if x=b then some v else f x) (k+1)/\∃o,H'=upd H d o:=by
 obtain⟨kvs,h1,h3,h2⟩:=h;refine⟨_,V7.k (k:=Sum.inl b) (v:=v) h1 (Nat.lt_of_le_of_lt h3 (Nat.lt_of_le_of_lt hk (by decide))),⟨_,aq,?_,λx=>?_⟩,_,rfl⟩
 ·have:=DP kvs (Sum.inl b) v;omega
 ·rw[Zlw,h2 x];dsimp only
  by_cases e:x=b
  ·rw[if_pos e,if_pos (by rw[e])]
  ·rw[if_neg e,if_neg (λz=>e (Sum.inl.inj z))]
def MkO.same{H H':Hp}{d:Addr}{f:Int->Option V}{k:Nat}(s:aX H H')(h:MkO H d f k):MkO H' d f k:=by
 obtain⟨kvs,h1,h3,h2⟩:=h;exact⟨kvs,s _ _ h1,h3,h2⟩
def TpO(H:Hp)(l:Addr)(rows:List (Int×Int)):Prop:=∃ls:List Addr,H l=some (.lst (ls.map V.ref))/\ls.length=rows.length/\∀(j:Nat) r x,ls[j]? =some r->rows[j]? =some x->∃xs,H r=some (.tup (.int x.1::.int x.2::xs))
def dictOf(rows:List (Int×Int))(b:Int):Option V:=(rows.reverse.find? λx=>decide (x.2=b)).map λx=>V.int x.1
def Zdx(rows:List (Int×Int))(x:Int×Int)(b:Int):dictOf (rows++[x]) b=if b=x.2 then some (.int x.1)else dictOf rows b:=by
 unfold dictOf;rw[List.reverse_append,List.reverse_singleton,List.singleton_append,List.find?_cons]
 by_cases e:b=x.2
 ·rw[if_pos e,decide_eq_true e.symm];rfl
 ·rw[if_neg e,decide_eq_false (λz=>e z.symm)]
def ZHm{x:V}{xs:List V}:Xw (x::xs) 0=some x:=iB (show(x::xs)[0]? =some x from rfl)
def ZHl{x y:V}{xs:List V}:Xw (x::y::xs) 1=some y:=iB (show(x::y::xs)[1]? =some y from rfl)
def Ul(ps:List Int):(List.range ps.length).filterMap (λ(i:Nat)=>(ps[i]?).map V.int)=ps.map V.int:=by
 have e:(λ(i:Nat)=>(ps[i]?).map V.int)=λ(i:Nat)=>ps[i]?.bind (some ∘ V.int):=by funext i;cases ps[i]?<;>rfl
 rw[e,O3,List.filterMap_eq_map]
def Z12q (H:Hp)(Q:VK)(l:Addr)(m:Addr):Prop:=∃(rows:List (Int×Int)) (bs ps:List Int),TpO H l rows/\rows.length<=1000/\H m=some (.lst (bs.map V.int))/\bs.length<=4000/\ps.length=bs.length/\(∀(j:Nat) b p,bs[j]? =some b->ps[j]? =some p->dictOf rows b=some (.int p))/\
 ∀a H',aX H H'->H a=none->H' a=some (.lst (ps.map V.int))->Q (.ref a) H'
def rT(K:aB):Sp:=λvs H Q E=>∃l m,vs=[.ref l,.ref m]/\Z12q H Q l m
section
def SX{l m:Addr}(q:Z12q H Q l m):uY K ⟨n,Q,bk,ct⟩ [some (.ref l),some (.ref m),none,none] H:=by
 obtain⟨rows,bs,ps,⟨ls,o1,hl,o2⟩,hb,om,hbs,hps,hd,q⟩:=q;unfold uY;walk_at"e";intro d nd;have s1:=aL nd (.dK []);have g1:MkO (upd H d (.dK [])) d (dictOf []) 0:=⟨[],aq,Nat.le_refl _,λb=>rfl⟩;generalize upd H d (.dK [])=H1 at s1 g1 ⊢;walk_at"e";refine⟨l,rfl,⟨_,cL.of (s1 _ _ o1)⟩,forL (ls.map V.ref) (λi σ Hx=>∃v3,σ=[some (.ref l),some (.ref m),some (.ref d),v3]/\aX H Hx/\MkO Hx d (dictOf (rows.take i)) i) ⟨_,rfl,s1,g1⟩ (λ_ _ _ _ ⟨_,_,z,_⟩=>cL.of (z _ _ o1)) ?_ ?_⟩
 ·rintro i y σ Hx hy ⟨v3,rfl,s2,g2⟩;rw[cz]at hy;obtain⟨r,hr,rfl⟩:=Option.map_eq_some_iff.mp hy;have hi:i<ls.length:=(dY hr).1;obtain⟨x,hx⟩:∃x,rows[i]? =some x:=⟨_,bL (by omega)⟩;have etk:rows.take (i+1)=rows.take i++[x]:=by rw[List.take_add_one,hx];rfl
  obtain⟨xs,orr⟩:=o2 i r x hr hx;have orr:=s2 _ _ orr;walk_at"e";refine⟨r,_,0,_,rfl,rfl,gZ.of orr,ZHm,?_⟩;walk_at"e";refine⟨r,_,1,_,rfl,rfl,gZ.of orr,ZHl,?_⟩;obtain⟨H4,p1,p2,o,p3⟩:=g2.put (by omega) x.2 (.int x.1);refine⟨d,H4,rfl,p1,?_⟩;refine⟨_,rfl,λc o' hc=>?_,?_⟩
  ·rw[p3,aC (aG hc nd)];exact s2 _ _ hc
  ·rw[etk];obtain⟨kvs,k1,k2,k3⟩:=p2;exact⟨kvs,k1,k2,λb=>by rw[k3 b,Zdx]⟩
 ·rintro σ Hx ⟨v3,rfl,s2,g2⟩;rw[aY,List.take_of_length_le (by omega)]at g2;walk_at"e";refine NZ ?_;walk_at"e";refine⟨_,rfl,⟨_,cL.of (s2 _ _ om)⟩,?_⟩;refine ZC (cL.of (s2 _ _ om)) (λi=>(ps[i]?).map V.int) (by rw[aY];omega) (λi x hx=>?_) ?_
  ·rw[cz]at hx;obtain⟨b,hb2,rfl⟩:=Option.map_eq_some_iff.mp hx;have hi:i<bs.length:=(dY hb2).1;obtain⟨p,hp⟩:∃p,ps[i]? =some p:=⟨_,bL (by omega)⟩;refine⟨λq hq=>?_,λy q hy hq=>?_⟩
   ·rw[hp]at hq;exact Be hq
   ·rw[hp]at hy;cases hy;walk_at"c";walk_at"e";exact⟨d,_,rfl,g2.get (hd i b p hb2 hp),hq⟩
  ·intro a na;rw[aY,<- hps,Ul];exact q a _ (s2.trans (aL na _)) (s2.free na) aq
end
def stL(S:Sw):List Int:=[S.sense,S.turn,S.looked,S.walks,S.looks,S.passes,S.at',S.stop]
def vC(X:Cs):Sp:=λvs H Q E=>∃sw,vs=[.ref sw]/\∃T s A M,WJ X H T s A M/\A.sw=sw/\M.sw.grey.length<=10000/\∀a H',aX H H'->H a=none->H' a=some (.lst ((stL M.sw).map V.int))->Q (.ref a) H'
structure Tc where
 p:Int
 b:Int
 bulk:Int
 load:Int
 fs:List (Option Int)
 tone:Str
def Tc1(H:Hp)(r f:Addr)(x:Tc):Prop:=H r=some (.tup [.int x.p,.int x.b,.int x.bulk,.int x.load,.ref f,.str x.tone])/\H f=some (.lst (x.fs.map oV))
def CtO(H:Hp)(l:Addr)(rows:List Tc):Prop:=∃ls:List Addr,H l=some (.lst (ls.map V.ref))/\ls.length=rows.length/\∀(j:Nat) r x,ls[j]? =some r->rows[j]? =some x->∃f,Tc1 H r f x
def Z13q (H:Hp)(Q:VK)(l':Addr)(l:Addr)(d:Addr):Prop:=∃(rows HJ:List Tc) (f:Int->Option V) (k:Nat),CtO H l' HJ/\CtO H l rows/\MkO H d f k/\HJ.length=rows.length/\rows.length<=1000/\(∀(j:Nat) x x',rows[j]? =some x->HJ[j]? =some x'->x'.p=x.p/\x'.b=x.b/\x'.bulk=x.bulk/\x'.load=x.load/\x'.fs=x.fs/\f x.b=some (.str x'.tone))/\
 ∀H',aX H H'->Q (.bl true) H'
def rW(K:aB):Sp:=λvs H Q E=>∃l' l d,vs=[.ref l',.ref l,.ref d]/\Z13q H Q l' l d
def Ziz(l:List (Option Int)):(l.map oV).all pW=true:=by
 rw[List.all_eq_true];intro v hv;obtain⟨x,_,rfl⟩:=List.mem_map.mp hv;exact Zsw x
section
def VL{sw:Addr}(Tx:pZ K X)(q:∃T s A M,WJ X H T s A M/\A.sw=sw/\M.sw.grey.length<=10000/\∀a H',aX H H'->H a=none->H' a=some (.lst ((stL M.sw).map V.int))->Q (.ref a) H'):xQ K vD ⟨n,Q,bk,ct⟩ [some (.ref sw),none,none] H:=by
 obtain⟨T,s,A,M,j,rfl,hg,q⟩:=q;obtain⟨ds,os⟩:=j.js.os;have og:=j.js.og;unfold xQ;walk_at"e";refine aH os Tx.cS Tx.n1 lC ?_;walk_at"e";refine aH os Tx.cS Tx.n5 nQ ?_;walk_at"e";refine aH os Tx.cS Tx.n4 iG ?_;walk_at"e";refine⟨aV (by simp),λa1 n1=>?_⟩;have s1:=aL n1 (.lst [.int M.sw.sense,.int M.sw.turn,.int M.sw.looked]);have g1:upd H a1 (.lst [.int M.sw.sense,.int M.sw.turn,.int M.sw.looked]) a1=some (.lst [.int M.sw.sense,.int M.sw.turn,.int M.sw.looked]):=aq;generalize upd H a1 (.lst [.int M.sw.sense,.int M.sw.turn,.int M.sw.looked])=H1 at s1 g1 ⊢;have os1:=s1 _ _ os;walk_at"e";refine aH os1 Tx.cS Tx.n8 tQ ?_;walk_at"e";refine aH os1 Tx.cS Tx.n9 o9 ?_;walk_at"e";refine aH os1 Tx.cS Tx.n10 qU ?_;walk_at"e";refine aH os1 Tx.cS Tx.n6 uq ?_;walk_at"e";refine aH os1 Tx.cS Tx.n7 uM ?_;walk_at"e";refine⟨aV (by simp),λa2 n2=>?_⟩;have s2:=aL n2 (.lst [.int M.sw.walks,.int M.sw.looks,.int M.sw.passes,.int M.sw.at',.int M.sw.stop]);have g2:upd H1 a2 (.lst [.int M.sw.walks,.int M.sw.looks,.int M.sw.passes,.int M.sw.at',.int M.sw.stop]) a2=some (.lst [.int M.sw.walks,.int M.sw.looks,.int M.sw.passes,.int M.sw.at',.int M.sw.stop]):=aq;have g12:=s2 _ _ g1;generalize upd H1 a2 (.lst [.int M.sw.walks,.int M.sw.looks,.int M.sw.passes,.int M.sw.at',.int M.sw.stop])=H2 at s2 g2 g12 ⊢;walk_at"e";refine⟨a1,a2,_,_,rfl,rfl,g12,g2,aV (by simp),λa n3=>?_⟩;rw[show([V.int M.sw.sense,.int M.sw.turn,.int M.sw.looked]++[V.int M.sw.walks,.int M.sw.looks,.int M.sw.passes,.int M.sw.at',.int M.sw.stop])=(stL M.sw).map V.int from rfl];have s3:=aL n3 (.lst ((stL M.sw).map V.int));have g3:upd H2 a (.lst ((stL M.sw).map V.int)) a=some (.lst ((stL M.sw).map V.int)):=aq;have s13:=s1.trans (s2.trans s3);have na:H a=none:=s1.free (s2.free n3);generalize upd H2 a (.lst ((stL M.sw).map V.int))=H3 at s3 g3 s13 ⊢;walk_at"e";refine aH (s13 _ _ os) Tx.cS Tx.n3 mq ?_;walk_at"e";refine⟨a,A.gr,_,_,rfl,rfl,g3,s13 _ _ og,by rw[aY,aY];exact aV (by show 8+_<=_;omega),λb n4=>?_⟩;rw[<- List.map_append];have s4:=aL n4 (.lst ((stL M.sw++M.sw.grey).map V.int));have g4:upd H3 b (.lst ((stL M.sw++M.sw.grey).map V.int)) b=some (.lst ((stL M.sw++M.sw.grey).map V.int)):=aq;have g34:=s4 _ _ g3;have s14:=s13.trans s4;generalize upd H3 b (.lst ((stL M.sw++M.sw.grey).map V.int))=H4 at s4 g4 g34 s14 ⊢;refine⟨b,rfl,⟨_,cL.of g4⟩,forL ((stL M.sw++M.sw.grey).map V.int) (λ_ σ Hx=>∃v,σ=[some (.ref A.sw),some (.ref a),v]/\Hx=H4) ⟨_,rfl,rfl⟩ (λ_ _ _ _ ⟨_,_,e⟩=>by rw[e];exact cL.of g4) ?_ ?_⟩
 ·rintro k x σ Hx hk ⟨v,rfl,rfl⟩;obtain⟨y,_,rfl⟩:=List.mem_map.mp (List.mem_of_getElem? hk);walk_at"e";refine⟨_,rfl,?_⟩;walk_at"e";exact⟨_,rfl,rfl⟩
 ·rintro σ Hx ⟨v,rfl,rfl⟩;walk_at"e";exact q a Hx s14 na g34
def S6{l' l d:Addr}(q:Z13q H Q l' l d):u5 K ⟨n,Q,bk,ct⟩ [some (.ref l'),some (.ref l),some (.ref d),none] H:=by
 obtain⟨rows,HJ,f,kk,⟨ls',o1',hl',o2'⟩,⟨ls,o1,hl,o2⟩,om,hle,hb,hx,q⟩:=q;unfold u5;walk_at"e";refine N5 o1' ?_;walk_at"e";refine jt (cL.of o1') ?_;walk_at"e";refine jt (cL.of o1) ?_;rw[aY,aY];walk_at"e";refine LR (λz=>absurd (by rw[hl',hl,hle]) z) (λ_=>?_);walk_at"e";refine jt (cL.of o1) ?_;rw[aY];walk_at"e";refine⟨_,rfl,by omega,by omega,?_⟩;refine forR (λk σ Hx=>∃v3,σ=[some (.ref l'),some (.ref l),some (.ref d),v3]/\aX H Hx) ⟨_,rfl,λ_ _ h=>h⟩ ?_ ?_
 ·rintro k σ Hx hk ⟨v3,rfl,s2⟩;have hk:k<ls.length:=by omega
  obtain⟨r,hr⟩:∃r,ls[k]? =some r:=⟨_,bL hk⟩;obtain⟨r',hr'⟩:∃r,ls'[k]? =some r:=⟨_,bL (by omega)⟩;obtain⟨x,ex⟩:∃x,rows[k]? =some x:=⟨_,bL (by omega)⟩;obtain⟨x',ex'⟩:∃x,HJ[k]? =some x:=⟨_,bL (by omega)⟩;obtain⟨fa,t1,t2⟩:=o2 k r x hr ex;obtain⟨fa',t1',t2'⟩:=o2' k r' x' hr' ex';obtain⟨e1,e2,e3,e4,e5,e6⟩:=hx k x x' ex ex';rw[e1,e2,e3,e4]at t1';rw[e5]at t2';have i1:∀{Hy:Hp},aX H Hy->cL K Hy l (ls.map V.ref):=λz=>cL.of (z _ _ o1);have i1':∀{Hy:Hp},aX H Hy->cL K Hy l' (ls'.map V.ref):=λz=>cL.of (z _ _ o1');have a1:Xw (ls.map V.ref) ((0:Int)+(k:Int))=some (.ref r):=by rw[Int.zero_add];exact iB (by rw[cz,hr];rfl)
  have a1':Xw (ls'.map V.ref) ((0:Int)+(k:Int))=some (.ref r'):=by rw[Int.zero_add];exact iB (by rw[cz,hr'];rfl)
  walk_at"e";refine ji (i1' s2) a1' ?_;walk_at"e";refine Jk (s2 _ _ t1') ?_;walk_at"e";refine ji (i1' s2) a1' ?_;walk_at"e";refine⟨r',_,rfl,.inr (gZ.of (s2 _ _ t1')),?_⟩;walk_at"e";refine LR (λz=>absurd rfl z) (λ_=>?_);walk_at"e";refine ji (i1' s2) a1' ?_;walk_at"e";refine⟨r',_,rfl,gZ.of (s2 _ _ t1'),(show ¬ (HT.qR 6 0 none=0/\HT.qR 6 6 (some 5)=6) by decide),λp1 np1=>?_⟩;have s3:=aL np1 (.tup [.int x.p,.int x.b,.int x.bulk,.int x.load,.ref fa']);have g3:upd Hx p1 (.tup [.int x.p,.int x.b,.int x.bulk,.int x.load,.ref fa']) p1=some (.tup [.int x.p,.int x.b,.int x.bulk,.int x.load,.ref fa']):=aq;rw[show VH [V.int x.p,.int x.b,.int x.bulk,.int x.load,.ref fa',.str x'.tone] none (some 5)=[.int x.p,.int x.b,.int x.bulk,.int x.load,.ref fa']from rfl];generalize upd Hx p1 (.tup [.int x.p,.int x.b,.int x.bulk,.int x.load,.ref fa'])=H3 at s3 g3 ⊢;have s23:=s2.trans s3;walk_at"e";refine ji (i1 s23) a1 ?_;walk_at"e";refine⟨r,_,rfl,gZ.of (s23 _ _ t1),(show ¬ (HT.qR 6 0 none=0/\HT.qR 6 6 (some 5)=6) by decide),λp2 np2=>?_⟩;rw[show VH [V.int x.p,.int x.b,.int x.bulk,.int x.load,.ref fa,.str x.tone] none (some 5)=[.int x.p,.int x.b,.int x.bulk,.int x.load,.ref fa]from rfl];have s4:=aL np2 (.tup [.int x.p,.int x.b,.int x.bulk,.int x.load,.ref fa]);have g4:upd H3 p2 (.tup [.int x.p,.int x.b,.int x.bulk,.int x.load,.ref fa]) p2=some (.tup [.int x.p,.int x.b,.int x.bulk,.int x.load,.ref fa]):=aq;have g34:=s4 _ _ g3;generalize upd H3 p2 (.tup [.int x.p,.int x.b,.int x.bulk,.int x.load,.ref fa])=H4 at s4 g4 g34 ⊢;have s24:=s23.trans s4;refine Zoo (.inr ⟨gZ.of g34,gZ.of g4⟩) (.cons (.inl ⟨rfl,rfl⟩) (.cons (.inl ⟨rfl,rfl⟩) (.cons (.inl ⟨rfl,rfl⟩) (.cons (.inl ⟨rfl,rfl⟩) (.cons (.inr ⟨fa',fa,rfl,rfl,.inr ⟨_,_,.inl ⟨cL.of (s24 _ _ t2'),cL.of (s24 _ _ t2)⟩,Jv (Ziz _)⟩⟩) .nil))))) ?_;walk_at"e";refine ji (i1' s24) a1' ?_;walk_at"e";refine⟨r',_,5,_,rfl,rfl,gZ.of (s24 _ _ t1'),rfl,?_⟩;walk_at"e";refine ji (i1 s24) a1 ?_;walk_at"e";refine⟨r,_,1,_,rfl,rfl,gZ.of (s24 _ _ t1),rfl,?_⟩;refine⟨d,_,rfl,(om.same s24).get e6,?_⟩;walk_at"e";refine LR (λz=>absurd rfl z) (λ_=>?_);walk_at"e";exact⟨_,rfl,s24⟩
 ·rintro σ Hx ⟨v3,rfl,s2⟩;walk_at"e";exact q Hx s2
end
def Zjk(M:Wm)(t:Int×Ce):Tc:=⟨t.1,t.2.birth,t.2.bulk,t.2.load,t.2.fl.map (vQ M),Io M t.1 t.2⟩
def Wu(M:Wm):List Tc:=(iD M).map (Zjk M)
section
variable {M M':Wm}{w0:Int}
def BW{t:Int×Ce}(h:t∈iD M):cellAt M t.1=some t.2:=by
 obtain⟨k,hk,e⟩:=List.getElem_of_mem h;obtain⟨h0,h1⟩:=Zic (M:=M) (j:=k) (t:=t) (by rw[bL hk,e]);exact dm.mpr ⟨h0,h1⟩
def N7{i:Int}{c:Ce}(h:cellAt M i=some c):(i,c)∈iD M:=by
 obtain⟨h0,h1⟩:=dm.mp h;unfold iD;refine List.mem_filterMap.mpr ⟨i.toNat,List.mem_range.mpr (dY h1).1,?_⟩;rw[h1];show some (((i.toNat:Nat):Int),c)=some (i,c);rw[show((i.toNat:Nat):Int)=i from by omega]
def Zlz{g:Int->Ce->Ce}(hl:M'.cells.length=M.cells.length)(h:∀i,cellAt M' i=(cellAt M i).map (g i)):iD M'=(iD M).map λt=>(t.1,g t.1 t.2):=by
 unfold iD;rw[hl,List.map_filterMap];refine Jo λi _=>?_;have hi:(0:Int)<=(i:Nat):=by omega
 have h1:=h (i:Nat);unfold cellAt at h1;rw[if_pos hi,if_pos hi,Int.toNat_natCast]at h1;rw[h1];cases (M.cells[i]?).join<;>rfl
def Zjb{g:Int->Ce->Ce}(h:∀i,cellAt M' i=(cellAt M i).map (g i))(hb:∀i c,(g i c).birth=c.birth):vQ M'=vQ M:=by
 funext x
 cases x with
 | none=>rfl
 | some i=>
  show(cellAt M' i).map _=(cellAt M i).map _;rw[h i];cases cellAt M i with
  | none=>rfl
  | some c=>exact congrArg some (hb i c)
def vV(S:Int)(acc:List Int)(i:Int)(c:Ce):Ce:=if i∈acc then { c with tone:=S }else c
def XF(S:Int)(acc:List Int)(i:Int)(c:Ce):(vV S acc i c).birth=c.birth:=by unfold vV;split<;>rfl
def Zly(S:Int)(acc:List Int)(i:Int)(c:Ce):(vV S acc i c).fl=c.fl:=by unfold vV;split<;>rfl
def Zeq(S:Int)(acc:List Int)(i:Int)(c:Ce):(vV S acc i c).bulk=c.bulk:=by unfold vV;split<;>rfl
def Zep(S:Int)(acc:List Int)(i:Int)(c:Ce):(vV S acc i c).load=c.load:=by unfold vV;split<;>rfl
def NL.map{acc:List Int}(nl:NL M M' acc)(i:Int):cellAt M' i=(cellAt M i).map (vV M.sw.sense acc i):=by
 rw[nl.at_ i];unfold vV;split
 ·rfl
 ·cases cellAt M i<;>rfl
def NL.len{acc:List Int}(nl:NL M M' acc):M'.cells.length=M.cells.length:=by
 have:=congrArg List.length nl.nt.ce;rw[aY,aY]at this;exact this
def NL.told{acc:List Int}(nl:NL M M' acc):Wu M'=(iD M).map λt=>{ Zjk M t with tone:=Io M' t.1 (vV M.sw.sense acc t.1 t.2) }:=by
 unfold Wu;rw[Zlz nl.len nl.map,List.map_map];refine List.map_congr_left λt _=>?_;show Zjk M' (t.1,vV M.sw.sense acc t.1 t.2)=_;unfold Zjk;dsimp only;rw[XF,Zly,Zeq,Zep,Zjb nl.map (XF _ _)]
def Zdw:∀(rows:List (Int×Int)),(∀x∈rows,∀y∈rows,x.2=y.2->x.1=y.1)->∀{p b:Int},(p,b)∈rows->dictOf rows b=some (.int p):=by
 intro rows hu p b hm;unfold dictOf;cases hf:rows.reverse.find? λ(x:Int×Int)=>decide (x.2=b)with
 | none=>
  have:=List.find?_eq_none.mp hf (p,b) (List.mem_reverse.mpr hm);exact absurd (decide_eq_true rfl) this
 | some x=>
  have h1:x.2=b:=of_decide_eq_true (List.find?_some (p:=λ(x:Int×Int)=>decide (x.2=b)) hf);have h2:=List.mem_reverse.mp (List.mem_of_find?_eq_some hf);have h3:=hu x h2 (p,b) hm h1;show some (V.int x.1)=_;rw[h3]
def TB.dict(p:TB w0 M){i:Int}{c:Ce}(h:cellAt M i=some c):dictOf ((iD M).map λt=>(t.1,t.2.birth)) c.birth=some (.int i):=by
 refine Zdw _ (λx hx y hy e=>?_) (List.mem_map.mpr ⟨(i,c),N7 h,rfl⟩);obtain⟨t,ht,rfl⟩:=List.mem_map.mp hx;obtain⟨u,hu,rfl⟩:=List.mem_map.mp hy;exact p.bu t.1 u.1 t.2 u.2 (BW ht) (BW hu) e
def Ze3(p:TB w0 M)(ph:M.sw.phase="rest")(bits:Int):
  ∃acc,(iH bits M.hands 0 (eF M)).2=fC (eF M) acc/\(iH bits M.hands 0 (eF M)).1=acc.map (eG M)/\lG allB (nhR bits (M.hands.map λm=>m.2.map (vQ M)) 0) []=acc.map (eG M)/\
   NL (eF M) (fC (eF M) acc) acc/\∀i∈acc,∃c,cellAt M i=some c:=by
 have pale:∀i c,cellAt (eF M) i=some c->nW (eF M) i=true:=λi c h=>by
  unfold nW;rw[h];have h1:c.tone=M.sw.sense:=p.rs ph i c h;have h2:=p.se;exact decide_eq_true (show c.tone≠1 - M.sw.sense by omega)
 have wk:(eF M).sw.phase="walk":=rfl;obtain⟨a1,a2⟩:=Zt (M:=eF M) (nhL bits M.hands 0) [] List.nodup_nil λi hi=>(nomatch hi);obtain⟨b1,b2⟩:=Eo (M:=eF M) wk (nhL bits M.hands 0) [] List.nodup_nil λi hi=>(nomatch hi);have e:=Znn bits M.hands 0 (eF M);have has:∀i∈ntP (eF M) (nhL bits M.hands 0) [],∃c,cellAt M i=some c:=λi hi=>by
  have h1:=a2 i hi;unfold nW at h1;cases hc:cellAt (eF M) i with
  | none=>rw[hc]at h1;cases h1
  | some c=>exact⟨c,hc⟩
 refine⟨ntP (eF M) (nhL bits M.hands 0) [],by rw[e];exact b1,by rw[e];exact b2,?_,Zcf wk _ _ rfl a1 a2,has⟩;rw[Znl];exact Df (M:=eF M) (P:=allB) p.bu (λi c h=>(pale i c h).symm) (nhL bits M.hands 0) [] λi hi=>(nomatch hi)
end
def CtF(H0 H:Hp)(l:Addr)(rows:List Tc):Prop:=∃ls:List Addr,H l=some (.lst (ls.map V.ref))/\ls.length=rows.length/\(∀(j:Nat) r x,ls[j]? =some r->rows[j]? =some x->∃f,Tc1 H r f x/\H0 f=none/\H0 r=none)/\H0 l=none
def RwF(H0 H:Hp)(l:Addr)(rows:List (List (Option Int))):Prop:=∃ls:List Addr,H l=some (.lst (ls.map V.ref))/\ls.length=rows.length/\(∀(j:Nat) r x,ls[j]? =some r->rows[j]? =some x->H r=some (.lst (x.map oV)))/\H0 l=none/\∀r∈ls,H0 r=none
def Nw(H0 H H':Hp):Prop:=∀b o,H0 b=none->H b=some o->H' b=some o
def CtF.nw{H0 H H':Hp}{l:Addr}{rows:List Tc}(k:Nw H0 H H')(h:CtF H0 H l rows):CtF H0 H' l rows:=by
 obtain⟨ls,h1,h2,h3,h4⟩:=h;refine⟨ls,k _ _ h4 h1,h2,λj r x e1 e2=>?_,h4⟩;obtain⟨f,⟨z1,z2⟩,z3,z4⟩:=h3 j r x e1 e2;exact⟨f,⟨k _ _ z4 z1,k _ _ z3 z2⟩,z3,z4⟩
def CtF.o{H0 H:Hp}{l:Addr}{rows:List Tc}(h:CtF H0 H l rows):CtO H l rows:=by
 obtain⟨ls,h1,h2,h3,_⟩:=h;refine⟨ls,h1,h2,λj r x e1 e2=>?_⟩;obtain⟨f,z,_⟩:=h3 j r x e1 e2;exact⟨f,z⟩
def RwF.nw{H0 H H':Hp}{l:Addr}{rows:List (List (Option Int))}(k:Nw H0 H H')(h:RwF H0 H l rows):RwF H0 H' l rows:=by
 obtain⟨ls,h1,h2,h3,h4,h5⟩:=h;exact⟨ls,k _ _ h4 h1,h2,λj r x e1 e2=>k _ _ (h5 r (List.mem_of_getElem? e1)) (h3 j r x e1 e2),h4,h5⟩
def RwF.o{H0 H:Hp}{l:Addr}{rows:List (List (Option Int))}(h:RwF H0 H l rows):RwO H l rows:=by
 obtain⟨ls,h1,h2,h3,_⟩:=h;exact⟨ls,h1,h2,h3⟩
def Nw.same{H0 H H':Hp}(s:aX H H'):Nw H0 H H':=λb o _ h=>s b o h
def Nw.stp{H0 H H':Hp}{T T':Tg}{s:Nat}(w:WT H0 T)(st:jo s H H' T T')(n:s≠0):Nw H0 H H':=λb o h0 h=>st.kp b o h (by rw[w b h0];exact λz=>n z.symm)
def Zqm{K:aB}{H:Hp}{l l':Addr}{rows:List (List (Option Int))}(h:RwO H l rows)(h':RwO H l' rows):∃xs ys,cL K H l xs/\cL K H l' ys/\Al (Dq K H 6) xs ys:=by
 obtain⟨ls,h1,h2,h3⟩:=h;obtain⟨ls',h1',h2',h3'⟩:=h';refine⟨_,_,cL.of h1,cL.of h1',Zjc (by rw[aY,aY,h2,h2']) λi u v e1 e2=>?_⟩;rw[cz]at e1 e2;obtain⟨r,hr,rfl⟩:=Option.map_eq_some_iff.mp e1;obtain⟨r',hr',rfl⟩:=Option.map_eq_some_iff.mp e2;have hi:i<rows.length:=by rw[<- h2];exact(dY hr).1
 have z:=h3 i r rows[i] hr (bL hi);have z':=h3' i r' rows[i] hr' (bL hi);exact .inr ⟨r,r',rfl,rfl,.inr ⟨_,_,.inl ⟨cL.of z,cL.of z'⟩,Jv (Ziz _)⟩⟩
def PJ(X:Cs):Sp:=λvs H Q E=>∃wo way,vs=[.ref wo,.int way]/\∃T A M hs k,WT H T/\WJ X H T 1 A M/\A.wo=wo/\KW M hs k/\TB way M/\HsB hs/\k<=900/\M.sw.phase≠"lost"/\
 ∀H' T' A' M',Kp H H' T T'->WT H' T'->WJ X H' T' 1 A' M'->A'.wo=wo->KW M' hs k->TB way M'->Q (.bl true) H'
section
def Zu9{H0:Hp}{T:Tg}{A:Wa}{M M':Wm}{w0 bits:Int}{acc:List Int}{lc lr lb ls d:Addr}{way:Int}{v9 v10:Option V}{f:Int->Option V}{kk:Nat}(Tx:pZ K X)(w:WT H T)(j:WJ X H T 1 A M')(ok:S7 M')(ok0:S7 M)
  (p:TB w0 M) (rest:M.sw.phase="rest") (nl:NL (eF M) M' acc) (has:∀i∈acc,∃c,cellAt M i=some c)
  (oc:CtF H0 H lc (Wu M)) (or:RwF H0 H lr (rowsOf M)) (ob:H lb=some (.lst ((acc.map (eG M)).map V.int))) (os:H ls=some (.lst ((stL M'.sw).map V.int)))
  (od:MkO H d f kk) (hf:∀i c,cellAt M i=some c->f c.birth=some (.str (if i∈acc then "grey" else "pale"))) (la:acc.length<=4000)
  (q:∀H',aX H H'->Q (.bl true) H'):
  pI K (rW K) (rT K) (vC X) (vG X) (GX X) ⟨n,Q,bk,ct⟩ [some (.ref A.wo),some (.int way),some (.ref A.sw),some (.ref lc),some (.ref lr),some (.int bits),some (.ref lb),some (.ref ls),some (.ref d),v9,v10] H:=by
 have hcl:=ok.cl;have ZA9:=ok0.cl;have ltl:(iD M).length<=M.cells.length:=by
  unfold iD;exact Nat.le_trans (List.length_filterMap_le _ _) (by rw[List.length_range];exact Nat.le_refl _)
 have ph:M'.sw.phase="walk":=by rw[nl.sw];rfl
 have gr:M'.sw.grey=acc:=by rw[nl.sw];rfl
 unfold pI;walk_at"e";refine⟨_,rfl,T,1,A,M',j,rfl,by omega,λc hc=>by have:=ok.fl c hc;omega,λl rs H1 s1 o1 hl hr _=>?_⟩;have oc':CtO H1 l (Wu M'):=⟨rs,o1,by rw[hl];unfold Wu;rw[aY],λi r x e1 e2=>by
  unfold Wu at e2;rw[cz]at e2;obtain⟨t,ht,rfl⟩:=Option.map_eq_some_iff.mp e2;obtain⟨fa,z,_⟩:=hr i r t e1 ht;exact⟨fa,z⟩⟩
 walk_at"e";refine⟨_,_,_,rfl,Wu M,Wu M',f,kk,oc',(oc.nw (Nw.same s1)).o,od.same s1,?_,?_,λi x x' e1 e2=>?_,λH2 s2=>?_⟩
 ·rw[nl.told];unfold Wu;rw[aY,aY];rfl
 ·unfold Wu;rw[aY];omega
 ·rw[nl.told,cz]at e2;unfold Wu at e1;rw[cz]at e1;obtain⟨t,ht,rfl⟩:=Option.map_eq_some_iff.mp e1;have ht':(iD (eF M))[i]? =some t:=ht;rw[ht']at e2;cases e2;have hc:=BW (List.mem_of_getElem? ht);refine⟨rfl,rfl,rfl,rfl,rfl,?_⟩;show f t.2.birth=some (.str (Io M' t.1 (vV (eF M).sw.sense acc t.1 t.2)));rw[hf t.1 t.2 hc];unfold Io vV;have se:M'.sw.sense=(eF M).sw.sense:=by rw[nl.sw]
  rw[ph,gr,se,if_neg (show ¬ ("walk":Str)="rest" by decide),if_neg (show ¬ ("walk":Str)="give" by decide)]
  by_cases hm:t.1∈acc
  ·rw[if_pos hm,if_pos hm,if_pos rfl,if_pos hm]
  ·rw[if_neg hm,if_neg hm,if_neg (λz=>?_)];have z:t.2.tone=1 - M.sw.sense:=z;have h1:=p.rs rest _ _ hc;have h2:=p.se;omega
 have s12:=s1.trans s2;have er:rowsOf M'=rowsOf M:=by
  unfold rowsOf;rw[nl.nt.hd,Zjb nl.map (XF _ _)];rfl
 walk_at"e";refine⟨_,rfl,T,1,A,M',j.same s12,rfl,by omega,λm hm=>by have:=ok.hl m hm;omega,λl2 rs2 H3 s3 o3 hl3 hr3 _=>?_⟩;rw[er]at hl3 hr3;have s13:=s12.trans s3;obtain⟨xs,ys,a1,a2,al⟩:=Zqm (K:=K) (show RwO H3 l2 (rowsOf M)from⟨rs2,o3,hl3,hr3⟩) (or.nw (Nw.same s13)).o;walk_at"e";refine Zoo (.inl ⟨a1,a2⟩) al ?_;have j3:=j.same s13;obtain⟨ds,os3⟩:=j3.js.os;have og3:=j3.js.og;rw[ph]at os3;rw[gr]at og3;walk_at"e";refine aH os3 Tx.cS Tx.n2 fQ ?_;walk_at"e";refine LR (λz=>absurd rfl z) (λ_=>?_);walk_at"e";refine⟨_,rfl,T,1,A,M',j3,rfl,by rw[gr];omega,λa H4 s4 na oa=>?_⟩;have s14:=s13.trans s4;walk_at"e";refine Zvs (cL.of oa) (cL.of (s14 _ _ os)) ?_;rw[decide_eq_true rfl];walk_at"e";refine aH (s4 _ _ os3) Tx.cS Tx.n3 mq ?_;walk_at"e";obtain⟨cls,c1,c2,c3,_⟩:=oc.nw (Nw.same s14);refine⟨_,_,rfl,(iD M).map (λt=>(t.1,t.2.birth)),acc.map (eG M),acc,⟨cls,c1,by rw[c2];unfold Wu;rw[aY,aY],λi r x e1 e2=>?_⟩,by rw[aY];omega,s14 _ _ ob,by rw[aY];exact la,by rw[aY],λi b x e1 e2=>?_,λa2 H5 s5 na2 oa2=>?_⟩
 ·rw[cz]at e2;obtain⟨t,ht,rfl⟩:=Option.map_eq_some_iff.mp e2;obtain⟨fa,⟨z,_⟩,_⟩:=c3 i r (Zjk M t) e1 (by unfold Wu;rw[cz,ht];rfl);exact⟨_,z⟩
 ·rw[cz,e2]at e1;obtain⟨c,hc⟩:=has x (List.mem_of_getElem? e2);cases e1;rw[Bk hc];exact p.dict hc
 ·refine Zw2 (cL.of (s5 _ _ (s4 _ _ og3))) (cL.of oa2) ?_;rw[decide_eq_true rfl];exact q H5 (s14.trans s5)
end
def Zc0(bs:List Int)(b:Int):Option V:=if b∈bs then some (.str "pale")else none
def Ziy(f:Int->Option V)(bs:List Int)(b:Int):Option V:=if b∈bs then some (.str "grey")else f b
section
def Zua{H0:Hp}{T:Tg}{A:Wa}{M M':Wm}{w0 bits:Int}{acc:List Int}{lc lr lb ls:Addr}{way:Int}{v8 v9 v10:Option V}(Tx:pZ K X)(w:WT H T)(j:WJ X H T 1 A M')(ok:S7 M')(ok0:S7 M)
  (p:TB w0 M) (rest:M.sw.phase="rest") (nl:NL (eF M) M' acc) (has:∀i∈acc,∃c,cellAt M i=some c)
  (oc:CtF H0 H lc (Wu M)) (or:RwF H0 H lr (rowsOf M)) (ob:H lb=some (.lst ((acc.map (eG M)).map V.int))) (os:H ls=some (.lst ((stL M'.sw).map V.int))) (la:acc.length<=4000)
  (q:∀H',aX H H'->Q (.bl true) H'):
  qd K (rW K) (rT K) (vC X) (vG X) (GX X) ⟨n,Q,bk,ct⟩ [some (.ref A.wo),some (.int way),some (.ref A.sw),some (.ref lc),some (.ref lr),some (.int bits),some (.ref lb),some (.ref ls),v8,v9,v10] H:=by
 have ZA9:=ok0.cl;have ltl:(iD M).length<=M.cells.length:=by
  unfold iD;exact Nat.le_trans (List.length_filterMap_le _ _) (by rw[List.length_range];exact Nat.le_refl _)
 obtain⟨cls,c1,c2,c3,c4⟩:=id oc;have c2':cls.length=(iD M).length:=by rw[c2];unfold Wu;rw[aY]
 unfold qd;walk_at"e";intro d nd;have s1:=aL nd (.dK []);have g1:MkO (upd H d (.dK [])) d (Zc0 []) 0:=⟨[],aq,Nat.le_refl _,λb=>rfl⟩;generalize upd H d (.dK [])=H1 at s1 g1 ⊢;walk_at"e";refine⟨lc,rfl,⟨_,cL.of (s1 _ _ c1)⟩,forL (cls.map V.ref) (λi σ Hx=>∃v9,σ=[some (.ref A.wo),some (.int way),some (.ref A.sw),some (.ref lc),some (.ref lr),some (.int bits),some (.ref lb),some (.ref ls),some (.ref d),v9,v10]/\aX H Hx/\MkO Hx d (Zc0 (((iD M).take i).map λt=>t.2.birth)) i) ⟨_,rfl,s1,g1⟩ (λ_ _ _ _ ⟨_,_,z,_⟩=>cL.of (z _ _ c1)) ?_ ?_⟩
 ·rintro i y σ Hx hy ⟨v9',rfl,s2,g2⟩;rw[cz]at hy;obtain⟨r,hr,rfl⟩:=Option.map_eq_some_iff.mp hy;have hi:i<cls.length:=(dY hr).1;obtain⟨t,ht⟩:∃t,(iD M)[i]? =some t:=⟨_,bL (by omega)⟩;have etk:(iD M).take (i+1)=(iD M).take i++[t]:=by rw[List.take_add_one,ht];rfl
  obtain⟨fa,⟨z1,z2⟩,_⟩:=c3 i r (Zjk M t) hr (by unfold Wu;rw[cz,ht];rfl);have z1:=s2 _ _ z1;walk_at"e";refine⟨r,_,1,_,rfl,rfl,gZ.of z1,rfl,?_⟩;obtain⟨H4,p1,⟨kvs,k1,k2,k3⟩,o,p3⟩:=g2.put (by omega) t.2.birth (.str "pale");refine⟨d,H4,rfl,p1,_,rfl,λc o' hc=>?_,kvs,k1,k2,λb=>?_⟩
  ·rw[p3,aC (aG hc nd)];exact s2 _ _ hc
  ·rw[k3 b,etk,List.map_append];unfold Zc0;dsimp only
   by_cases e:b=t.2.birth
   ·rw[if_pos e,if_pos (by simp[e])]
   ·rw[if_neg e]
    by_cases e2:b∈((iD M).take i).map λt=>t.2.birth
    ·rw[if_pos e2,if_pos (List.mem_append.mpr (.inl e2))]
    ·rw[if_neg e2,if_neg (λz=>?_)];rcases List.mem_append.mp z with z | z
     ·exact e2 z
     ·exact e (by simpa using z)
 ·rintro σ Hx ⟨v9',rfl,s2,g2⟩;rw[aY,List.take_of_length_le (by omega)]at g2;have ob2:=s2 _ _ ob;walk_at"e";refine⟨lb,rfl,⟨_,cL.of ob2⟩,forL ((acc.map (eG M)).map V.int) (λi σ Hy=>∃v10,σ=[some (.ref A.wo),some (.int way),some (.ref A.sw),some (.ref lc),some (.ref lr),some (.int bits),some (.ref lb),some (.ref ls),some (.ref d),v9',v10]/\aX H Hy/\MkO Hy d (Ziy (Zc0 ((iD M).map λt=>t.2.birth)) ((acc.map (eG M)).take i)) (cls.length+i)) ⟨_,rfl,s2,?_⟩ (λ_ _ _ _ ⟨_,_,z,_⟩=>cL.of (z _ _ ob)) ?_ ?_⟩
  ·obtain⟨kvs,k1,k2,k3⟩:=g2;exact⟨kvs,k1,by omega,λb=>by rw[k3 b];unfold Ziy;rw[if_neg (by simp)]⟩
  ·rintro i y σ Hy hy ⟨Zz0,rfl,s3,g3⟩;rw[cz]at hy;obtain⟨b0,hb0,rfl⟩:=Option.map_eq_some_iff.mp hy;have hi:i<(acc.map (eG M)).length:=(dY hb0).1;rw[aY]at hi;have etk:(acc.map (eG M)).take (i+1)=(acc.map (eG M)).take i++[b0]:=by rw[List.take_add_one,hb0];rfl
   walk_at"e";obtain⟨H4,p1,⟨kvs,k1,k2,k3⟩,o,p3⟩:=g3.put (by omega) b0 (.str "grey");refine⟨d,H4,rfl,p1,_,rfl,λc o' hc=>?_,kvs,k1,k2,λb=>?_⟩
   ·rw[p3,aC (aG hc nd)];exact s3 _ _ hc
   ·rw[k3 b,etk];unfold Ziy;dsimp only
    by_cases e:b=b0
    ·rw[if_pos e,if_pos (by simp[e])]
    ·rw[if_neg e]
     by_cases e2:b∈(acc.map (eG M)).take i
     ·rw[if_pos e2,if_pos (List.mem_append.mpr (.inl e2))]
     ·rw[if_neg e2,if_neg (λz=>?_)];rcases List.mem_append.mp z with z | z
      ·exact e2 z
      ·exact e (by simpa using z)
  ·rintro σ Hy ⟨Zz0,rfl,s3,g3⟩;rw[aY,List.take_length]at g3;refine Zu9 Tx (w.same s3) (j.same s3) ok ok0 p rest nl has (oc.nw (Nw.same s3)) (or.nw (Nw.same s3)) (s3 _ _ ob) (s3 _ _ os) g3 (λi c hc=>?_) la λH' s'=>q H' (s3.trans s');unfold Ziy Zc0
   by_cases hm:i∈acc
   ·rw[if_pos ((wF p.bu has hc).mpr hm),if_pos hm]
   ·rw[if_neg (λz=>hm ((wF p.bu has hc).mp z)),if_neg hm,if_pos (List.mem_map.mpr ⟨(i,c),N7 hc,rfl⟩)]
def Zfs{M M':Wm}{e:Ev}{lb:Int}{lw:List Int}(r:vB lb lw M e M')(rest:M.sw.phase="rest"):e=⟨"begin",some (M.sw.turn+1),(iH (iC M.w M.hands.length) M.hands 0 (eF M)).1⟩/\M'=(iH (iC M.w M.hands.length) M.hands 0 (eF M)).2:=by
 cases r with
 | begin ph=>exact⟨rfl,rfl⟩
 | walk x g c ph=>exact absurd (rest.symm.trans ph) (by decide)
 | look N ph=>exact absurd (rest.symm.trans ph) (by decide)
 | cut q qs ph=>exact absurd (rest.symm.trans ph) (by decide)
 | lost q qs i x c v ph=>exact absurd (rest.symm.trans ph) (by decide)
 | pass ph=>exact absurd (rest.symm.trans ph) (by decide)
 | back c ph=>exact absurd (rest.symm.trans ph) (by decide)
 | fin ph=>exact absurd (rest.symm.trans ph) (by decide)
 | again ph=>exact absurd (rest.symm.trans ph) (by decide)
def Zub{H0:Hp}{T:Tg}{A:Wa}{M:Wm}{hs:O7}{k:Nat}{w0:Int}{lc lr:Addr}{way:Int}(Tx:pZ K X)(s0:aX H0 H)(w:WT H0 T)(j:WJ X H0 T 1 A M)(kw:KW M hs k)(hb:HsB hs)(hk:k<=900)(p:TB w0 M)(rest:M.sw.phase="rest")
  (oc:CtF H0 H lc (Wu M)) (or:RwF H0 H lr (rowsOf M)) (q:∀H' T' A' M',Kp H0 H' T T'->WT H' T'->WJ X H' T' 1 A' M'->A'.wo=A.wo->KW M' hs k->TB w0 M'->Q (.bl true) H'):
  qe K (JF K) (Ef K) (rW K) (rT K) (vC X) (vG X) (bU X Zk4) (GX X) ⟨n,Q,bk,ct⟩ [some (.ref A.wo),some (.int way),some (.ref A.sw),some (.ref lc),some (.ref lr),some (.int (iC M.w M.hands.length)),none,none,none,none,none] H:=by
 have ok:=kw.ok hb hk;have l5:=j.jd.l5;have lh:=j.jd.lh;obtain⟨acc,f1,f2,f3,f4,f5⟩:=Ze3 p rest (iC M.w M.hands.length);generalize Zoz:iC M.w M.hands.length=bits at f1 f2 f3 f4;have ml:(rowsOf M).length=M.hands.length:=by unfold rowsOf;rw[aY]
 have r100:∀x∈rowsOf M,x.length<=100:=λx hx=>by
  unfold rowsOf at hx;obtain⟨m,hm,rfl⟩:=List.mem_map.mp hx;rw[aY];exact ok.hl m hm
 unfold qe;walk_at"e";refine⟨_,_,rfl,rowsOf M,or.o,by omega,r100,λlb H1 s1 nlb olb=>?_⟩;have f3:lG allB (nhR bits (rowsOf M) 0) []=acc.map (eG M):=f3;have la:acc.length<=4000:=by
  have h1:=uG allB (nhR bits (rowsOf M) 0) [];have h2:=Zv bits 100 (rowsOf M) 0 r100;have h3:(rowsOf M).length * 100<=3000:=by omega
  rw[f3,aY,List.length_nil]at h1;omega
 rw[f3]at olb;have s01:=s0.trans s1;obtain⟨ds,os⟩:=j.js.os;have os1:=s01 _ _ os;walk_at"e";refine aH os1 Tx.cS Tx.n1 lC ?_;walk_at"e";refine aH os1 Tx.cS Tx.n5 nQ ?_;walk_at"e";refine aH os1 Tx.cS Tx.n6 uq ?_;walk_at"e";refine aH os1 Tx.cS Tx.n7 uM ?_;walk_at"e";refine⟨aV (by simp),λls nls=>?_⟩;have hst:stL (fC (eF M) acc).sw=[1 - M.sw.sense,M.sw.turn+1,bits,0,0,0,M.sw.at',M.sw.stop]:=by rw[f4.sw,<- Zoz];rfl
 rw[show([.int (1 - M.sw.sense),.int (M.sw.turn+1),.int bits,.int 0,.int 0,.int 0,.int M.sw.at',.int M.sw.stop]:List V)=(stL (fC (eF M) acc).sw).map V.int from by rw[hst];rfl];have s2:=aL nls (.lst ((stL (fC (eF M) acc).sw).map V.int));have g2:upd H1 ls (.lst ((stL (fC (eF M) acc).sw).map V.int)) ls=some (.lst ((stL (fC (eF M) acc).sw).map V.int)):=aq;generalize upd H1 ls (.lst ((stL (fC (eF M) acc).sw).map V.int))=H2 at s2 g2 ⊢;have s02:=s01.trans s2;have n0b:H0 lb=none:=s0.free nlb;have n0s:H0 ls=none:=s01.free nls;walk_at"e";refine⟨_,rfl,T,1,A,M,0,[],w.same s02,by decide,j.same s02,rfl,ok,trivial,λz=>absurd (rest.symm.trans z) (by decide),λe M' r H3 T3 A3 ev st j3 aw evn lo=>?_⟩;have kw3:=kw.step r;have p3:=p.step r;obtain⟨e1,e2⟩:=Zfs r rest;rw[Zoz,f2]at e1;rw[Zoz,f1]at e2;subst e1 e2;obtain⟨le,nle,oe,ole⟩:=evn;have nw:=Nw.stp w st (by decide);have g3:=nw _ _ n0s g2;have ob3:=nw _ _ n0b (s2 _ _ olb);walk_at"e";refine ji (cL.of g3) (v:=.int (M.sw.turn+1)) (by rw[hst];rfl) ?_;walk_at"e";refine Pz (cL.of ob3) λl4 n4=>?_;have s4:=aL n4 (.lst ((acc.map (eG M)).map V.int));have g4:upd H3 l4 (.lst ((acc.map (eG M)).map V.int)) l4=some (.lst ((acc.map (eG M)).map V.int)):=aq;generalize upd H3 l4 (.lst ((acc.map (eG M)).map V.int))=H4 at s4 g4 ⊢;walk_at"e";refine⟨aV (by simp),λt5 n5=>?_⟩;have s5:=aL n5 (.tup [.str "begin",.int (M.sw.turn+1),.ref l4]);have g5:upd H4 t5 (.tup [.str "begin",.int (M.sw.turn+1),.ref l4]) t5=some (.tup [.str "begin",.int (M.sw.turn+1),.ref l4]):=aq;generalize upd H4 t5 (.tup [.str "begin",.int (M.sw.turn+1),.ref l4])=H5 at s5 g5 ⊢;have s35:=s4.trans s5;walk_at"e";refine⟨_,_,rfl,"begin",M.sw.turn+1,le,l4,acc.map (eG M),s35 _ _ oe,g5,s35 _ _ ole,s5 _ _ g4,?_⟩;obtain⟨aw1,aw2⟩:=aw;have nw5:Nw H0 H H5:=λb o h0 h=>s35 _ _ (nw b o h0 (s2 _ _ (s1 _ _ h)));walk_at"e";rw[<- aw1,<- aw2];refine Zua Tx (st.wt.same s35) (j3.same s35) (kw3.ok hb hk) ok p rest f4 f5 (oc.nw nw5) (or.nw nw5) (s35 _ _ ob3) (s35 _ _ g3) la λH' s'=>?_;exact q H' T3 A3 _ ((Kp.same s02).trans ((Kp.stp st ⟨by decide,by decide⟩).trans (Kp.same (s35.trans s')))) (st.wt.same (s35.trans s')) (j3.same (s35.trans s')) aw1 kw3 p3
def Zap{wo:Addr}{way:Int}(Tx:pZ K X)(q:∃T A M hs k,WT H T/\WJ X H T 1 A M/\A.wo=wo/\KW M hs k/\TB way M/\HsB hs/\k<=900/\M.sw.phase≠"lost"/\
 ∀H' T' A' M',Kp H H' T T'->WT H' T'->WJ X H' T' 1 A' M'->A'.wo=wo->KW M' hs k->TB way M'->Q (.bl true) H'):
  zY K (JF K) (Ef K) (rW K) (rT K) (vC X) (vG X) (bU X Zk4) (GX X) ⟨n,Q,bk,ct⟩ [some (.ref wo),some (.int way),none,none,none,none,none,none,none,none,none] H:=by
 obtain⟨T,A,M,hs,k,w,j,rfl,kw,p,hb,hk,ph,q⟩:=q;have ok:=kw.ok hb hk;have hcl:=ok.cl;have l5:=j.jd.l5;have lh:=j.jd.lh;obtain⟨dw,ow⟩:=j.jb.ow;obtain⟨ds,os⟩:=j.js.os;unfold zY;walk_at"e";refine aH ow Tx.cW Tx.Rx bx ?_;walk_at"e";refine aH os Tx.cS Tx.n2 fQ ?_;walk_at"e";refine LR (λ_=>?_) (λrest=>?_)
 ·walk_at"e";refine⟨_,rfl,T,1,A,M,0,[],w,by decide,j,rfl,ok,trivial,λz=>absurd z ph,λe M' r H3 T3 A3 ev st j3 aw evn lo=>?_⟩;walk_at"e";exact q H3 T3 A3 M' (Kp.stp st ⟨by decide,by decide⟩) st.wt j3 aw.1 (kw.step r) (p.step r)
 ·walk_at"e";refine⟨_,rfl,T,1,A,M,j,rfl,by omega,λc hc=>by have:=ok.fl c hc;omega,λlc rs H1 s1 o1 hl hr nl=>?_⟩;have oc:CtF H H1 lc (Wu M):=⟨rs,o1,by rw[hl];unfold Wu;rw[aY],λi r x e1 e2=>by
   unfold Wu at e2;rw[cz]at e2;obtain⟨t,ht,rfl⟩:=Option.map_eq_some_iff.mp e2;obtain⟨fa,z,z3,z4⟩:=hr i r t e1 ht;exact⟨fa,z,z3,z4⟩,nl⟩
  walk_at"e";refine⟨_,rfl,T,1,A,M,j.same s1,rfl,by omega,λm hm=>by have:=ok.hl m hm;omega,λlr rs2 H2 s2 o2 hl2 hr2 nl2=>?_⟩;have or:RwF H H2 lr (rowsOf M):=⟨rs2,o2,hl2,hr2,s1.free nl2.1,λr hr=>s1.free (nl2.2.1 r hr)⟩;have s12:=s1.trans s2;have fin:=λ(bits:Int) (e:bits=iC M.w M.hands.length)=>Zub (n:=n) (bk:=bk) (ct:=ct) (lc:=lc) (lr:=lr) (way:=way) Tx s12 w j kw hb hk p rest (oc.nw (Nw.same s2)) or q;have ew:=p.ww;walk_at"e";refine vO (λz=>?_) (λz=>?_)
  ·walk_at"e";refine jt (cL.of o2) ?_;rw[aY,hl2];have ml:(rowsOf M).length=M.hands.length:=by unfold rowsOf;rw[aY]
   rw[ml];walk_at"e";refine i_I (Zpq (by omega) (by omega)) ?_;walk_at"e";rw[Int.one_mul,Int.toNat_natCast];have:=fin _ rfl;rw[show iC M.w M.hands.length=2 ^ M.hands.length - 1 from by unfold iC;rw[if_pos (by rw[ew];exact z)]]at this;exact this
  ·walk_at"e";have:=fin _ rfl;rw[show iC M.w M.hands.length=0 from by unfold iC;rw[if_neg (λy=>z (by rw[<- ew];exact y))]]at this;exact this
end
section
def Zvc{a:Addr}(Tx:pZ K X)(q:∃ns:List Int,cL K H a (ns.map V.int)/\ns.length<=63/\∀H',Q (.bl true) H'):
  Zfu K X.W (uE X) (qO K) (Qc X rf) (Qa K) (P0 X) (Zaz K) (PK K) (PJ X) ⟨n,Q,bk,ct⟩ [some (.ref a),none,none,none,none] H:=by
 obtain⟨ns0,hS,hlen,h⟩:=q;unfold Zfu;walk_at"e";refine⟨a,0,rfl,ns0,hS,by decide,λz0=>?_⟩;walk_at"e";generalize z0 % 12=way;refine⟨a,rfl,ns0,hS,λlh hs H1 s1 nlh ho hb=>?_⟩;walk_at"e";refine⟨a,rfl,ns0,s1.seq hS,λroom=>?_⟩;walk_at"e";refine⟨_,rfl,λki lk w t H2 t0 t1 ew s2 nki nlk kd=>?_⟩;have s02:=s1.trans s2;have ho2:=ho.same s2;obtain⟨ts,olh,al⟩:=id ho2;have lts:=al.length;have n5:=hb.n5;walk_at"e";refine Pz (cL.of olh) λhl0 Zzc=>?_;have s3:=aL Zzc (.lst (ts.map V.ref));have g3:upd H2 hl0 (.lst (ts.map V.ref)) hl0=some (.lst (ts.map V.ref)):=aq;generalize upd H2 hl0 (.lst (ts.map V.ref))=H3 at s3 g3 ⊢;have kd3:=kd.same s3;have ho3:=ho2.same s3;have s03:=s02.trans s3;walk_at"e";intro wo dx nwo ndx ned;have s7:aX H3 (upd (upd H3 dx (.own wo)) wo (.ins X.W dx [])):=λb o hb=>by rw[aC (aG hb nwo),aC (aG hb ndx)];exact hb
 have g7:upd (upd H3 dx (.own wo)) wo (.ins X.W dx []) wo=some (.ins X.W dx []):=aq;generalize upd (upd H3 dx (.own wo)) wo (.ins X.W dx [])=H7 at s7 g7 ⊢;have kd7:=kd3.same s7;have nkw:ki≠wo:=by
  obtain⟨⟨_,e⟩,_⟩:=kd3;exact aG e nwo
 have nlw:lk≠wo:=by
  obtain⟨_,⟨_,e⟩⟩:=kd3;rcases e with ⟨_,e⟩ | ⟨_,e⟩ | ⟨_,e⟩
  ·exact aG e nwo
  ·exact aG e nwo
  ·exact aG e nwo
 refine⟨wo,_,ki,hl0,rfl,dx,λ_=>(0,0),1,lk,w,t,ts,hs,g7,λ_ _=>rfl,by decide,kd7,rfl,rfl,nkw,nlw,s7 _ _ g3,Zjc lts λi x m e1 e2=>?_,by omega,λH8 T8 A8 k8 t8 w8 aw8 j8=>⟨rfl,?_⟩⟩
 ·obtain⟨x',e3,z⟩:=al.get e2;rw[e1]at e3;cases e3;have:=hb.sb m (List.mem_of_getElem? e2);exact⟨s7 _ _ (s3 _ _ z),by omega,by omega⟩
 have s38:aX H3 H8:=λb o hb=>k8 b o (s7 _ _ hb) (aG hb nwo);have s08:aX H H8:=s03.trans s38;have ho8:=ho3.same s38;have p0:KW (Zcq room hs w t) hs 0:=KW.new t0 t1;have tb0:TB (way % 3) (Zcq room hs w t):=by rw[<- ew];exact TB.new
 generalize Zcq room hs w t=M at j8 p0 tb0;clear k8 t8 s7 g7 kd7 kd3;walk_at"e";refine⟨a,lh,rfl,ns0,hs,s08.seq hS,hlen,ho8,hb,λlr H9 s9 rl=>?_⟩;obtain⟨_,nlr,vs,olr,lvs,rows⟩:=rl;have rk:∀v∈vs,v=.non\/∃t d,v=.ref t/\T8 t=(0,0)/\H9 t=some (.tup (dV d))/\okR hs d:=λv hv=>by
  rcases rows v hv with z | ⟨t,d,e,f,o,k⟩
  ·exact .inl z
  ·exact .inr ⟨t,d,e,w8 _ f,o,k⟩
 refine⟨lr,rfl,⟨_,cL.of olr⟩,forL vs (λi σ Hx=>∃T A M v4,σ=[some (.ref a),some (.int way),some (.ref lh),some (.ref wo),v4]/\WT Hx T/\WJ X Hx T 1 A M/\A.wo=wo/\KW M hs i/\TB (way % 3) M/\Hx lr=some (.lst vs)/\T lr=(0,0)/\∀v∈vs,v=.non\/∃t d,v=.ref t/\T t=(0,0)/\Hx t=some (.tup (dV d))/\okR hs d) ⟨T8,A8,M,_,rfl,w8.same s9,j8.same s9,aw8,p0,tb0,olr,w8 _ nlr,rk⟩ (λ_ _ _ _ ⟨_,_,_,_,_,_,_,_,_,_,z,_⟩=>cL.of z) ?_ ?_⟩
 ·rintro i x σ Hx hi ⟨T,A,M,v4,rfl,w,j,aw,p,tb,ol,tl,rk⟩;have hil:=(dY hi).1;obtain⟨dw,ow⟩:=j.jb.ow;obtain⟨ds,os⟩:=j.js.os;rw[aw]at ow;have kp:∀{H':Hp}{T':Tg},Kp Hx H' T T'->H' lr=some (.lst vs)/\T' lr=(0,0)/\∀v∈vs,v=.non\/∃t d,v=.ref t/\T' t=(0,0)/\H' t=some (.tup (dV d))/\okR hs d:=λ{H' T'} k=>by
   refine⟨k.k _ _ ol (.inl (by rw[tl])),(k.tg _ _ ol).trans tl,λv hv=>?_⟩;rcases rk v hv with z | ⟨t,d,e,f,o,kk⟩
   ·exact .inl z
   ·exact .inr ⟨t,d,e,(k.tg _ _ o).trans f,k.k _ _ o (.inl (by rw[f])),kk⟩
  walk_at"e";refine aH ow Tx.cW Tx.Rx bx ?_;walk_at"e";refine aH os Tx.cS Tx.n2 fQ ?_;walk_at"e";refine vO (λ_=>?_) (λph=>?_)
  ·walk_at"e";exact h _
  ·rcases rk x (List.mem_of_getElem? hi)with rfl | ⟨t,d,rfl,tt,ot,od⟩
   ·walk_at"e";refine⟨_,_,rfl,T,A,M,hs,i,w,j,aw,p,tb,hb,by omega,ph,λH' T' A' M' k w' j' aw' p' tb'=>?_⟩;walk_at"e";obtain⟨k1,k2,k3⟩:=kp k;exact⟨T',A',M',_,rfl,w',j',aw',p'.mono (by omega),tb',k1,k2,k3⟩
   ·have ok:=p.ok hb (by omega);have hcl:=ok.cl;have hnl:=ok.nl;walk_at"e";refine⟨_,t,rfl,T,1,A,M,d,w,by decide,j,aw,ot,p.okD od,hcl,λz=>by have:=ok.gl z;omega,p.tl,by omega,λr er H' sm=>?_,λe M' he H' T' A' av st j' aw' ev=>?_⟩
    ·walk_at"e";obtain⟨k1,k2,k3⟩:=kp (Kp.same sm);exact⟨T,A,M,_,rfl,w.same sm,j.same sm,aw,p.mono (by omega),tb,k1,k2,k3⟩
    ·walk_at"e";obtain⟨k1,k2,k3⟩:=kp (Kp.stp st ⟨by decide,by decide⟩);exact⟨T',A',M',_,rfl,st.wt,j',aw',p.deed od he,tb.deed he,k1,k2,k3⟩
 ·rintro σ Hx ⟨T,A,M,v4,rfl,w,j,aw,p,tb,ol,tl,rk⟩;walk_at"e";exact h _
end
def top(i:Nat):Stmt:=PySem.Challenge.pw_greywalk_k24_a_round_begins.main.body.getD i (.Pass ⟨0,0,0,0⟩)
abbrev tX:Stmt:=inClass (top 8) 0
abbrev zP:Stmt:=inClass (top 8) 1
abbrev rB:Stmt:=inClass (top 8) 2
abbrev tV:Stmt:=inClass (top 9) 0
abbrev wg:Stmt:=inClass (top 9) 1
abbrev Gn:Stmt:=inClass (top 9) 2
abbrev CQ:Stmt:=inClass (top 9) 3
abbrev CP:Stmt:=inClass (top 9) 4
abbrev zO:Stmt:=inClass (top 9) 5
abbrev Km:Stmt:=top 10
abbrev Gm:Stmt:=top 11
abbrev J8:Stmt:=top 13
abbrev QF:Stmt:=top 14
abbrev tW:Stmt:=inClass (top 16) 0
abbrev pG:Stmt:=inClass (top 17) 0
abbrev qZ:Stmt:=inClass (top 18) 0
abbrev Zfo:Stmt:=top 19
abbrev xx:Stmt:=top 20
abbrev Ck:Stmt:=top 21
abbrev Cd:Stmt:=top 22
abbrev Cg:Stmt:=top 23
abbrev zE:Stmt:=top 24
abbrev J9:Stmt:=top 25
abbrev zy:Stmt:=top 26
abbrev Ca:Stmt:=top 27
abbrev YF:Stmt:=top 28
abbrev Zfn:Stmt:=top 29
abbrev Gi:Stmt:=top 30
abbrev Zfp:Stmt:=top 31
abbrev YD:Stmt:=top 32
abbrev J7:Stmt:=top 33
abbrev zB:Stmt:=top 35
abbrev uQ:Stmt:=top 36
abbrev uO:Stmt:=top 37
abbrev Zfl:Stmt:=top 38
abbrev xu:Stmt:=top 39
abbrev Zmi:Stmt:=top 40
abbrev zF:Stmt:=top 41
abbrev Gj:Stmt:=top 42
abbrev zz:Stmt:=top 43
abbrev uP:Stmt:=top 44
abbrev zA:Stmt:=top 45
abbrev s_end:Stmt:=top 46
abbrev qY:Stmt:=top 47
abbrev Zfm:Stmt:=top 49
abbrev QK:Stmt:=top 53
abbrev pH:Stmt:=inClass (top 54) 2
abbrev oO:Stmt:=inClass (top 54) 3
abbrev tR:Stmt:=inClass (top 54) 4
abbrev rz:Stmt:=inClass (top 55) 2
abbrev rA:Stmt:=inClass (top 56) 2
abbrev q8:Stmt:=inClass (top 57) 2
abbrev zN:Stmt:=inClass (top 57) 3
abbrev tU:Stmt:=inClass (top 58) 0
abbrev Gh:Stmt:=top 60
abbrev Kl:Stmt:=top 61
abbrev Cj:Stmt:=top 62
abbrev xm:Stmt:=top 63
abbrev xq:Stmt:=top 64
abbrev Ke:Stmt:=top 65
abbrev QJ:Stmt:=top 66
abbrev QH:Stmt:=top 67
abbrev Kh:Stmt:=top 68
abbrev Kg:Stmt:=top 69
abbrev Kf:Stmt:=top 70
abbrev Gk:Stmt:=top 71
abbrev Kc:Stmt:=top 72
abbrev Kd:Stmt:=top 73
abbrev Ka:Stmt:=top 74
abbrev xr:Stmt:=top 75
abbrev Zuj:Stmt:=top 77
abbrev CJ:Stmt:=top 79
abbrev Cz:Stmt:=top 80
abbrev Cm:Stmt:=top 81
abbrev zJ:Stmt:=top 82
abbrev Cr:Stmt:=top 83
abbrev Cw:Stmt:=top 84
abbrev Cu:Stmt:=top 85
abbrev Cv:Stmt:=top 86
abbrev CG:Stmt:=top 87
abbrev zM:Stmt:=top 88
abbrev zH:Stmt:=top 89
abbrev Cq:Stmt:=top 90
abbrev xG:Stmt:=top 91
abbrev zL:Stmt:=top 92
abbrev Cy:Stmt:=top 93
abbrev zK:Stmt:=top 94
abbrev xH:Stmt:=top 95
abbrev xF:Stmt:=top 96
abbrev zG:Stmt:=top 97
abbrev Cp:Stmt:=top 98
abbrev QG:Stmt:=top 99
structure Hh(P:Program)(w:World)(K:aB)(mg:Str->Option Value)(base:Heap)(n:Nat)(f:Addr)(fd:FuncData)(ps:List Str)(sp:Sp):Prop where
 g:vM P w K mg base (G.Tf P w) n f fd ps sp
 b:Binds K fd ps []
 k:PySem.W.keepIn K (.ref f)=true
def hh{P:Program}{w:World}{K:aB}{mg:Str->Option Value}{base:Heap}{n:Nat}{f:Addr}{fd:FuncData}{ps:List Str}{sp:Sp}(g:vM P w K mg base (G.Tf P w) n f fd ps sp)(b:Binds K fd ps [])(k:PySem.W.keepIn K (.ref f)=true):Hh P w K mg base n f fd ps sp:=⟨g,b,k⟩
abbrev lA(P:Program)(w:World)(K:aB)(mg:Str->Option Value)(base:Heap)(n:Nat)(f:Addr)(fd:FuncData)(ps:List Str)(sp:Sp):Prop:=vM P w K mg base (G.Tf P w) n f fd ps sp
def gm{X:Cx}{n k:Nat}{f:Addr}{fd:FuncData}{ps:List Str}{sp:Sp}{x:Str}{e:Expr}{es:List Expr}{t:TA}{p pos:Pos}(g0:Hh X.prog X.w X.K X.mg X.base n f fd ps sp)(hr:Room k X.A)(hm:X.mg x=some (.ref f))(ha:PA X (e::es) t)(hn:n<=k:=by decide)(hg:X.env.kindOf x=some .globalImplicit:=by rfl)(hdb:(x == ("__debug__":Str))=false:=by decide)(he:starEach (e::es) X.env=(false,eval e X.env)::starEach es X.env:=by rfl)(hpl:(backTo pos (starEach es X.env)).any (·.1)=false:=by rfl):PE X (.Call (.Name x p) (e::es) [] pos) (aQ sp [] E0 t):=wz g0.g (hr.mono hn) hg hm g0.k g0.b .nil G.fZ ha hdb he hpl
def cY{N P:List Str}{sc:Scope}(a:sc.kind=.function:=by rfl)(b:sc.isCoroutine=false:=by rfl)(c:sc.isGenerator=false:=by rfl)(d:N.Nodup:=by decide +kernel)(e:N.take P.length=P:=by rfl)(f:∀x∈P,sc.names.lookup x=some .local\/sc.names.lookup x=some .cell:=by decide +kernel)(g:∀y∈sc.names,y.2≠.free:=by decide +kernel):aP N P sc:=⟨a,b,c,d,e,f,g⟩
structure Txt(w:World)(K:aB)(mg:Str->Option Value)(bz bh lW bJ fu dN fB gq kJ fK aK aR bR bA dG fW dM dD iu kh jl jk fV iI eU nF o5 dF cG di yD gC ig jE dZ iR nG iM jD sV yC gJ vp sU nD gH cT cQ yx gB Ga iT lV gG cR iQ FZ bV yz nY bN bW cH dI dJ dH gK dB d8 jR jj gw fO gR jz jx gY gW gU fD gP gQ gO gA VG gh d7 ir iW jH jL jJ jK jN je iV jG fP iZ jM iY gF gD iU jF:Addr):Prop where
 Wv:G.Tab K w mg "STEPS" [("rest",cT),("walk",cQ),("give",cR),("lost",bV)]
 Ww:G.Tab K w mg "DEEDS" [("make",gR),("get",jz),("put",jx),("copy",gY),("drop",gW),("give",gU),("write",fD),("read",gP),("name",gQ),("seek",gO)]
 cZ:Gf K bz
 Zo4:mg "Cell"=some (.ref bz)
 Pu:Mk K bz dG
 dU:bK K bz "birth"
 mH:bK K bz "bulk"
 mG:bK K bz "tone"
 jC:bK K bz "load"
 eX:bK K bz "fields"
 PB:G.EqD K bz
 cN:Gf K bh
 Zo0:mg "Heap"=some (.ref bh)
 Pq:Mk K bh dD
 nU:bK K bh "room"
 bM:bK K bh "cells"
 jg:bK K bh "used"
 mF:bK K bh "born"
 Zj9:Gf K lW
 Zo1:mg "Hand"=some (.ref lW)
 Pr:Mk K lW dF
 wD:bK K lW "name"
 uz:bK K lW "slots"
 Sy:Gf K bJ
 W2:mg "Sweeper"=some (.ref bJ)
 Ba:Mk K bJ cG
 pB:bK K bJ "sense"
 pC:bK K bJ "phase"
 qG:bK K bJ "grey"
 oJ:bK K bJ "looked"
 qC:bK K bJ "turn"
 ux:bK K bJ "at"
 qD:bK K bJ "stop"
 pA:bK K bJ "walks"
 pD:bK K bJ "looks"
 oH:bK K bJ "passes"
 qF:bK K bJ "loss"
 Ze0:Gf K fu
 Ziq:mg "World"=some (.ref fu)
 Ii:Mk K fu di
 uw:bK K fu "heap"
 uv:bK K fu "kind"
 sJ:bK K fu "hands"
 sI:bK K fu "names"
 pq:bK K fu "sweeper"
 Eb:Gf K dN
 Zir:mg "First"=some (.ref dN)
 WW:G.Mk0 K dN
 Jy:Gf K fB
 Zo3:mg "Each"=some (.ref fB)
 Zcs:G.Mk0 K fB
 Jx:Gf K gq
 Znz:mg "Last"=some (.ref gq)
 Zcr:G.Mk0 K gq
 Zj8:Gf K kJ
 Zy:mg "Kind"=some (.ref kJ)
 Ep:Mk K kJ dB
 qH:bK K kJ "looking"
 uy:bK K kJ "tells"
 Ny:mg "GreyError"=some (.ref fK)
 Nz:mg "EmptySlot"=some (.ref aK)
 W3:mg "NoField"=some (.ref aR)
 Zo2:mg "Full"=some (.ref bR)
 Zcv:mg "NoName"=some (.ref bA)
 vU:G.Zpy K aK
 Xz:G.Zpy K bR
 Ek:G.Zpy K aR
 Hl:G.Zpy K bA
 kO:PySem.W.exmOne K (.ref aK) (.ref fK)=some true
 lZ:PySem.W.exmOne K (.ref aR) (.ref fK)=some true
 oM:PySem.W.exmOne K (.ref bR) (.ref fK)=some true
 mV:PySem.W.exmOne K (.ref bA) (.ref fK)=some true
 yS:Meth K fB "at_begin" bN
 ym:Meth K fB "stays" cH
 vd:Meth K dN "next_look" bW
 u9:Meth K dN "stays" cH
 yR:Meth K gq "at_begin" bN
 Ld:Meth K bz "__init__" dG
 sO:Meth K bz "units" fW
 wJ:Meth K bz "has_field" dM
 La:Meth K bh "__init__" dD
 Ik:Meth K bh "make" iu
 Ni:Meth K bh "lay" kh
 Im:Meth K bh "back" jl
 Il:Meth K bh "free" jk
 yl:Meth K bh "there" fV
 rQ:mg "cell_at"=some (.ref iI)
 mQ:mg "birth_at"=some (.ref eU)
 WY:mg "reached"=some (.ref nF)
 RC:mg "onward"=some (.ref o5)
 Lb:Meth K lW "__init__" dF
 Ff:Meth K bJ "__init__" cG
 Ij:Meth K fu "__init__" di
 Znw:mg "held"=some (.ref yD)
 yp:mg "births_held"=some (.ref gC)
 wK:mg "births_at"=some (.ref ig)
 Nk:mg "looked_at"=some (.ref jE)
 mJ:mg "has_sense"=some (.ref dZ)
 Ir:mg "is_walking"=some (.ref iR)
 W0:mg "mark_of"=some (.ref nG)
 Bb:mg "told_cells"=some (.ref iM)
 Nj:mg "told_cell"=some (.ref jD)
 Zio:mg "begin"=some (.ref sV)
 Znv:mg "note"=some (.ref yC)
 rP:mg "note_all"=some (.ref gJ)
 Zgt:mg "gone"=some (.ref vp)
 Zin:mg "roots"=some (.ref sU)
 WX:mg "root_of"=some (.ref nD)
 Bd:mg "note_hands"=some (.ref gH)
 RB:mg "step_at_rest"=some (.ref cT)
 Ry:mg "step_in_walk"=some (.ref cQ)
 Znu:mg "walk"=some (.ref yx)
 FN:mg "look_or_cut"=some (.ref gB)
 Zts:mg "cut"=some (.ref Ga)
 Iu:mg "first_loss"=some (.ref iT)
 RD:mg "given_up"=some (.ref lV)
 Bc:mg "told_again"=some (.ref gG)
 Rz:mg "step_in_give"=some (.ref cR)
 Ip:mg "pass_place"=some (.ref iQ)
 Ztr:mg "end"=some (.ref FZ)
 Le:mg "step_when_lost"=some (.ref bV)
 Zgs:mg "step"=some (.ref yz)
 RG:mg "all_of"=some (.ref nY)
 Fg:Meth K fB "at_begin" bN
 DK:Meth K dN "next_look" bW
 K8:Meth K fB "stays" cH
 wH:Meth K dN "at_begin" dI
 wI:Meth K fB "next_look" dJ
 wG:Meth K gq "next_look" dH
 yj:Meth K gq "stays" gK
 K9:Meth K kJ "__init__" dB
 j7:mg "slots_of"=some (.ref d8)
 yU:mg "cell_in"=some (.ref jR)
 DN:mg "fields_in"=some (.ref jj)
 Fz:mg "told_as_old"=some (.ref gw)
 yo:mg "told_as_new"=some (.ref fO)
 Zki:mg "do_make"=some (.ref gR)
 Zny:mg "do_get"=some (.ref jz)
 Znx:mg "do_put"=some (.ref jx)
 Zkl:mg "do_copy"=some (.ref gY)
 Zkk:mg "do_drop"=some (.ref gW)
 Zkj:mg "do_give"=some (.ref gU)
 Zgu:mg "do_write"=some (.ref fD)
 Zkg:mg "do_read"=some (.ref gP)
 Zkh:mg "do_name"=some (.ref gQ)
 Zkf:mg "do_seek"=some (.ref gO)
 FJ:mg "place_named"=some (.ref gA)
 Zxn:mg "do"=some (.ref VG)
 mK:mg "_law_cell"=some (.ref gh)
 cX:mg "_law_draw"=some (.ref d7)
 wL:mg "_law_word"=some (.ref ir)
 Iz:mg "_law_hands"=some (.ref iW)
 Nq:mg "_law_room"=some (.ref jH)
 Nu:mg "_law_kind"=some (.ref jL)
 Nr:mg "_law_made"=some (.ref jJ)
 Nt:mg "_law_load"=some (.ref jK)
 Nx:mg "_law_deed"=some (.ref jN)
 IW:mg "_law_deeds"=some (.ref je)
 Iw:mg "_law_start"=some (.ref iV)
 Np:mg "_law_rows"=some (.ref jG)
 sS:mg "_law_number"=some (.ref fP)
 IV:mg "_law_event"=some (.ref iZ)
 Nv:mg "_law_hand"=some (.ref jM)
 IK:mg "_law_first"=some (.ref iY)
 FQ:mg "_law_marked"=some (.ref gF)
 FP:mg "_law_places"=some (.ref gD)
 Iv:mg "_law_state"=some (.ref iU)
 Nm:mg "_law_step"=some (.ref jF)
 Xy:mg "bool"=none
 pP:mg "enumerate"=none
 Zib:mg "int"=none
 iK:mg "isinstance"=none
 kY:mg "len"=none
 uL:mg "list"=none
 p6:mg "range"=none
 Zia:mg "str"=none
 Hj:mg "tuple"=none
 Ztx:G.GC mg "NEW" (.int 2)
 Ztw:G.GC mg "OLD" (.int 1)
abbrev uh:List Str:=["self","birth","many","bulk","tone"]
abbrev rN:List Str:=["self","field"]
abbrev uf:List Str:=["self","room"]
abbrev Dt:List Str:=["self","many","bulk","tone"]
abbrev GK:List Str:=["self","cell"]
abbrev Du:List Str:=["self","place"]
abbrev pR:List Str:=["heap","place"]
abbrev lR:List Str:=["heap","place"]
abbrev Kv:List Str:=["heap","rows"]
abbrev Q5:List Str:=["heap","places","way"]
abbrev ug:List Str:=["self","name","many"]
abbrev rH:List Str:=["self","room","kind","hands"]
abbrev tE:List Str:=["heap","places"]
abbrev Di:List Str:=["world","hand"]
abbrev lJ:List Str:=["world","cell"]
abbrev Kw:List Str:=["world","place"]
abbrev Dh:List Str:=["world","place"]
abbrev Zg5:List Str:=["world","place"]
abbrev pK:List Str:=["world","places"]
abbrev YZ:List Str:=["world","place","birth"]
abbrev Ku:List Str:=["world","place","birth"]
abbrev ur:List Str:=["world","hands"]
abbrev pL:List Str:=["self","hands"]
abbrev oY:List Str:=["self","looked","hands"]
abbrev rK:List Str:=["self","hands"]
abbrev rM:List Str:=["self","looked","hands"]
abbrev rJ:List Str:=["self","looked","hands"]
abbrev ue:List Str:=["self","looking","tells"]
abbrev j6:List Str:=["world","hand"]
abbrev uI:List Str:=["world","hand","slot"]
abbrev wB:List Str:=["world","hand","slot","field"]
abbrev yd:List Str:=["world","place"]
abbrev sE:List Str:=["world","hand","place"]
abbrev KD:List Str:=["world","deed"]
abbrev Q7:List Str:=["world","deed"]
abbrev Q6:List Str:=["world","deed"]
abbrev KN:List Str:=["world","deed"]
abbrev KJ:List Str:=["world","deed"]
abbrev KH:List Str:=["world","deed"]
abbrev GJ:List Str:=["world","deed"]
abbrev Kz:List Str:=["world","deed"]
abbrev KC:List Str:=["world","deed"]
abbrev Ky:List Str:=["world","deed"]
abbrev ye:List Str:=["world","word"]
abbrev Zuq:List Str:=["world","deed"]
abbrev pU:List Str:=["_law_script","_law_k"]
abbrev lK:List Str:=["_law_cell_here","_law_prime","_law_many"]
abbrev tG:List Str:=["_law_cell_here","_law_w"]
abbrev Aq:List Str:=["_law_script"]
abbrev Dl:List Str:=["_law_script"]
abbrev Dp:List Str:=["_law_number_here"]
abbrev Dm:List Str:=["_law_n","_law_h","_law_s"]
abbrev Dn:List Str:=["_law_n"]
abbrev Ds:List Str:=["_law_n","_law_hands_here","_law_seed"]
abbrev Aw:List Str:=["_law_n","_law_hands_here","_law_seed"]
abbrev Ao:List Str:=["_law_hands_here","_law_cell_here","_law_seed"]
abbrev Dk:List Str:=["_law_script","_law_hands_here"]
abbrev sG:List Str:=["_law_found"]
abbrev Av:List Str:=["_law_found","_law_due"]
abbrev Dr:List Str:=["_law_world","_law_deed_here"]
abbrev Ar:List Str:=["_law_rows_here","_law_bits"]
abbrev yg:List Str:=["_law_after","_law_before","_law_marks"]
abbrev yf:List Str:=["_law_cells","_law_births"]
abbrev An:List Str:=["_law_sweeper"]
abbrev Dj:List Str:=["_law_world","_law_way"]
def J4:aP ["self","birth","many","bulk","tone"] uh (aF tX):=cY
def Uj:aP ["self"] ["self"] (aF zP):=cY
def HH:aP ["self","field"] rN (aF rB):=cY
def J2:aP ["self","room"] uf (aF tV):=cY
def Yz:aP ["self","many","bulk","tone","cell"] Dt (aF wg):=cY
def Zbs:aP ["self","cell","place"] GK (aF Gn):=cY
def YC:aP ["self","place","cell"] Du (aF CQ):=cY
def YB:aP ["self"] ["self"] (aF CP):=cY
def Ui:aP ["self"] ["self"] (aF zO):=cY
def Zfj:aP ["heap","place"] pR (aF Km):=cY
def Zbr:aP ["heap","place","cell"] lR (aF Gm):=cY
def Zf9:aP ["heap","rows","queue","number","row","listed","taken","place","way"] Kv (aF J8):=cY
def Zjr:aP ["heap","places","way"] Q5 (aF QF):=cY
def J3:aP ["self","name","many"] ug (aF tW):=cY
def Ez:aP ["self"] ["self"] (aF pG):=cY
def Hz:aP ["self","room","kind","hands"] rH (aF qZ):=cY
def Zqd:aP ["world"] ["world"] (aF Zfo):=cY
def Qy:aP ["world"] ["world"] (aF xx):=cY
def Yn:aP ["heap","places"] tE (aF Ck):=cY
def Yk:aP ["world","hand"] Di (aF Cd):=cY
def Yl:aP ["world","cell"] lJ (aF Cg):=cY
def T7:aP ["world"] ["world"] (aF zE):=cY
def Zfa:aP ["world","place","sweeper","toned"] Kw (aF J9):=cY
def TQ:aP ["world"] ["world"] (aF zy):=cY
def Yj:aP ["world","place","cell","fields"] Dh (aF Ca):=cY
def Zmf:aP ["world","sweeper"] ["world"] (aF YF):=cY
def Zqc:aP ["world","place","sweeper","cell"] Zg5 (aF Zfn):=cY
def Zbo:aP ["world","places","births","place","birth"] pK (aF Gi):=cY
def Zqe:aP ["world","place","birth","cell"] YZ (aF Zfp):=cY
def Zme:aP ["world"] ["world"] (aF YD):=cY
def Zf8:aP ["world","place","birth"] Ku (aF J7):=cY
def TY:aP ["world","hands","noted","number","hand"] ur (aF zB):=cY
def Ow:aP ["world","noted"] ["world"] (aF uQ):=cY
def Ou:aP ["world"] ["world"] (aF uO):=cY
def Zqa:aP ["world","sweeper","cell"] ["world"] (aF Zfl):=cY
def Qx:aP ["world","sweeper","looking","hands","noted"] ["world"] (aF xu):=cY
def Zui:aP ["world","sweeper","loss","births"] ["world"] (aF Zmi):=cY
def T9:aP ["world","place","way","cell"] ["world"] (aF zF):=cY
def Zbp:aP ["world","heap"] ["world"] (aF Gj):=cY
def TV:aP ["event"] ["event"] (aF zz):=cY
def Ov:aP ["world"] ["world"] (aF uP):=cY
def TX:aP ["world","sweeper","place","cell"] ["world"] (aF zA):=cY
def Zuh:aP ["world","sweeper"] ["world"] (aF s_end):=cY
def Hw:aP ["world"] ["world"] (aF qY):=cY
def Zqb:aP ["world","act"] ["world"] (aF Zfm):=cY
def Zju:aP ["hands"] ["hands"] (aF QK):=cY
def EY:aP ["self","hands"] pL (aF pH):=cY
def BZ:aP ["self","looked","hands"] oY (aF oO):=cY
def J0:aP ["self"] ["self"] (aF tR):=cY
def HD:aP ["self","hands"] rK (aF rz):=cY
def HF:aP ["self","looked","hands","hand"] rM (aF rA):=cY
def HB:aP ["self","looked","hands"] rJ (aF q8):=cY
def Uh:aP ["self"] ["self"] (aF zN):=cY
def J1:aP ["self","looking","tells"] ue (aF tU):=cY
def Zbn:aP ["world","hand"] j6 (aF Gh):=cY
def Zfi:aP ["world","hand","slot","cell"] uI (aF Kl):=cY
def Ym:aP ["world","hand","slot","field","cell"] wB (aF Cj):=cY
def Qu:aP ["world","place"] yd (aF xm):=cY
def Qv:aP ["world","hand","place"] sE (aF xq):=cY
def Zfe:aP ["world","deed","slots","many","bulk","place"] KD (aF Ke):=cY
def Zjt:aP ["world","deed","hand","source","field","place"] Q7 (aF QJ):=cY
def Zjs:aP ["world","deed","hand","field","fields","old","new","noted"] Q6 (aF QH):=cY
def Zfh:aP ["world","deed","slots","place"] KN (aF Kh):=cY
def Zfg:aP ["world","deed","slots","place"] KJ (aF Kg):=cY
def Zff:aP ["world","deed","giver","taker","place","noted"] KH (aF Kf):=cY
def Zbq:aP ["world","deed","cell","before"] GJ (aF Gk):=cY
def Zfc:aP ["world","deed","cell"] Kz (aF Kc):=cY
def Zfd:aP ["world","deed","hand","slot","birth"] KC (aF Kd):=cY
def Zfb:aP ["world","deed","place","noted"] Ky (aF Ka):=cY
def Qw:aP ["world","word","place","birth"] ye (aF xr):=cY
def Zxc:aP ["world","deed","act"] Zuq (aF Zuj):=cY
def Yy:aP ["_law_script","_law_k"] pU (aF CJ):=cY
def Yw:aP ["_law_cell_here","_law_prime","_law_many"] lK (aF Cz):=cY
def Yo:aP ["_law_cell_here","_law_w","_law_letters","_law_size","_law_at","_law_rest","_law_sign"] tG (aF Cm):=cY
def Uc:aP ["_law_script","_law_cell_here","_law_hands_here","_law_h","_law_many"] Aq (aF zJ):=cY
def Yr:aP ["_law_script","_law_cell_here"] Dl (aF Cr):=cY
def Yu:aP ["_law_number_here"] Dp (aF Cw):=cY
def Ys:aP ["_law_n","_law_h","_law_s","_law_many","_law_bulk"] Dm (aF Cu):=cY
def Yt:aP ["_law_n","_law_load_here"] Dn (aF Cv):=cY
def Yx:aP ["_law_n","_law_hands_here","_law_seed","_law_h","_law_s","_law_t","_law_f","_law_what","_law_g","_law_word_here"] Ds (aF CG):=cY
def Ug:aP ["_law_n","_law_hands_here","_law_seed","_law_deed_here"] Aw (aF zM):=cY
def Ub:aP ["_law_hands_here","_law_cell_here","_law_seed","_law_rows_here","_law_h","_law_way"] Ao (aF zH):=cY
def Yq:aP ["_law_script","_law_hands_here","_law_rows_here","_law_seed","_law_k","_law_cell_here","_law_n"] Dk (aF Cq):=cY
def QB:aP ["_law_found"] sG (aF xG):=cY
def Ue:aP ["_law_found","_law_due","_law_number_here"] Av (aF zL):=cY
def Yv:aP ["_law_world","_law_deed_here","_law_event_here"] Dr (aF Cy):=cY
def Ud:aP ["_law_rows_here","_law_bits","_law_births","_law_h","_law_birth"] Ar (aF zK):=cY
def QC:aP ["_law_after","_law_before","_law_marks","_law_k"] yg (aF xH):=cY
def Qz:aP ["_law_cells","_law_births","_law_at","_law_cell_here"] yf (aF xF):=cY
def Ua:aP ["_law_sweeper","_law_told","_law_number_here"] An (aF zG):=cY
def Yp:aP ["_law_world","_law_way","_law_sweeper","_law_cells","_law_rows_here","_law_bits","_law_due","_law_state_here","_law_marks","_law_cell_here","_law_birth"] Dj (aF Cp):=cY
def Zug:aP ["_law_script","_law_way","_law_hands_here","_law_world","_law_row"] ["_law_script"] (aF QG):=cY
section
variable {X:Cx}
def jU{a b:Expr}{ta tb:TE}{pos:Pos}{r:R2}(hr:IxR X r)(ha:PE X a ta)(hb:PE X b tb)(hs:Zb3 b:=by exact λ_ _=>rfl):PE X (.Subscript a b pos) (bC r ta tb):=Zto hr ha hb hs
def pdg{o i:Expr}{td ty:TE}{pos:Pos}{k:Nat}(hr:Room k X.A)(ho:PE X o td)(hi:PE X i ty)(hs:Ztd i:=by exact λ_ _=>rfl):PE X (.Subscript o i pos) (Ql td ty):=Zra (Bu hr) ho hi hs
def oX{a b:Expr}{ta tb:TE}{pos:Pos}{op:CmpOp}{r:R2}(ho:yW X (compareOp op) r)(ha:PE X a ta)(hb:PE X b tb)(hm:behindInMarks op b=false:=by exact K6 _):PT X (.Compare a [op] [b] pos) (cg (bC r ta tb)):=Zqs ho ha hb hm
def fX(i:Nat){x:Str}{e:Expr}{te:TE}{pos' pos:Pos}(hN:X.N.Nodup)(he:PE X e te)(hi:X.N[i]? =some x:=by rfl)(hx:Loc X.env.scope x:=by exact Or.inl rfl)(hs:swapsWith e (some (.Name x pos')) pos.line X.env=pure false:=by rfl)(hf:X.fn x=true\/X.env.scope.names.lookup x=some .local:=by first | exact .inl rfl | exact .inr rfl | assumption):PS X (.Assign [.Name x pos'] e pos) (bF te (aO i)):=YS hN hi hx he hs hf
end
structure PAw(X:Cx)(es:List Expr)(t:TA):Prop where
 h:PA X es t
structure PSw(X:Cx)(st:List Stmt)(t:TS):Prop where
 h:PSs X st t
structure PPw(X:Cx)(pos:Pos)(keys:List (Option Expr))(values:List Expr)(trs:List (TE×TE)):Prop where
 h:PPs X pos keys values trs
structure PEw(X:Cx)(e:Expr)(t:TE):Prop where
 h:PE X e t
section
variable {X:Cx}
def Zrb:PAw X [] aD:=⟨au⟩
def yN{e es te t}(ha:PE X e te)(hr:PAw X es t)(hs:starEach (e::es) X.env=(false,eval e X.env)::starEach es X.env:=by rfl):PAw X (e::es) (aj te t):=⟨aa ha hr.h hs⟩
def QZ{st rest t u}(h1:PS X st t)(h2:PSw X rest u):PSw X (st::rest) (aN t u):=⟨ao h1 h2.h⟩
def Zqt{st t}(h1:PS X st t):PSw X [st] t:=⟨aA h1⟩
def Zqu{i:Nat}{x:Str}{es t b tb p q pos' pos rest u}(hN:X.N.Nodup)(hi:X.N[i]? =some x)(hx:Loc X.env.scope x)(h:PAw X es t)(hb:PE X b tb)(hp:Zb3 b)(h2:PSw X rest u)(hs:swapsWith (.Subscript (.List es p) b q) (some (.Name x pos')) pos.line X.env=pure false:=by rfl)(hf:X.fn x=true\/X.env.scope.names.lookup x=some .local:=by first | exact .inl rfl | exact .inr rfl | assumption):PSw X (.Assign [.Name x pos'] (.Subscript (.List es p) b q) pos::rest) (aN (bF (bC (mO X.K) (iz t) tb) (aO i)) u):=⟨ao (YS hN hi hx (Zto dj (dg h.h) hb hp) hs hf) h2.h⟩
end
open PySem.Spec PyProof.Rows in
def ZHi{P:Program}{w:World}{K:aB}{mg:Str->Option Value}{base:Heap}{x qual:Str}{st:Stmt}{f:Addr}{fd:FuncData}{N ps:List Str}{sp:Sp}{k:Nat}(F:jw K x qual st f fd)(S:aP N ps (aF st))(len:∀vs H Q E,sp vs H Q E->vs.length=ps.length)
  (hbody:∀(cdv:Value) (A:Around) (outer:List Env) (s:Shared) (H:Hp) (vs:List V) (Q:VK) (E:XK),Room k (A.deeper (envOfC qual (aF st) s.heap.objs.size f cdv))->sp vs H Q E->
   ∃t,PSw (Mm (Tf P w) P w K mg base N qual (aF st) f cdv A outer s H E).nox (kW st) t/\t { nx:=λ_ H'=>Q .non H',rt:=Q } (start N vs) H):vM P w K mg base (Tf P w) (k+1) f fd ps sp:=
 G.fok F S len λcdv A outer s H vs Q E hr h=>let ⟨t,p,q⟩:=hbody cdv A outer s H vs Q E hr h;⟨t,p.h,q⟩
set_option hygiene false in
local macro_rules | `(tactic| walk_at "ok")=>`(tactic| (refine G.fok F sc (λvs H Q E h=>?_) (λcdv A outer s H vs Q E hr h=>?_);· (first | (obtain ⟨_,rfl,_⟩:=h;rfl) | (obtain ⟨_,_,rfl,_⟩:=h;rfl) | (obtain ⟨_,_,_,rfl,_⟩:=h;rfl) | (obtain ⟨_,_,_,_,rfl,_⟩:=h;rfl) | (obtain ⟨_,_,_,_,_,rfl,_⟩:=h;rfl) | (obtain ⟨_,_,_,_,_,_,rfl,_⟩:=h;rfl) | (obtain ⟨_,_,_,_,_,_,_,rfl,_⟩:=h;rfl))))
set_option hygiene false in
local macro_rules | `(tactic| walk_at "okw")=>`(tactic| (refine ZHi F sc (λvs H Q E h=>?_) (λcdv A outer s H vs Q E hr h=>?_);· (first | (obtain ⟨_,rfl,_⟩:=h;rfl) | (obtain ⟨_,_,rfl,_⟩:=h;rfl) | (obtain ⟨_,_,_,rfl,_⟩:=h;rfl) | (obtain ⟨_,_,_,_,rfl,_⟩:=h;rfl) | (obtain ⟨_,_,_,_,_,rfl,_⟩:=h;rfl) | (obtain ⟨_,_,_,_,_,_,rfl,_⟩:=h;rfl) | (obtain ⟨_,_,_,_,_,_,_,rfl,_⟩:=h;rfl))))
set_option hygiene false in
local macro_rules | `(tactic| walk_at "okX")=>`(tactic| (refine G.ZHj F sc (λvs H Q E h=>?_) (λcdv A outer s H vs Q E hr h=>?_);· (first | (obtain ⟨_,rfl,_⟩:=h;rfl) | (obtain ⟨_,_,rfl,_⟩:=h;rfl) | (obtain ⟨_,_,_,rfl,_⟩:=h;rfl) | (obtain ⟨_,_,_,_,rfl,_⟩:=h;rfl) | (obtain ⟨_,_,_,_,_,rfl,_⟩:=h;rfl) | (obtain ⟨_,_,_,_,_,_,rfl,_⟩:=h;rfl) | (obtain ⟨_,_,_,_,_,_,_,rfl,_⟩:=h;rfl))))
set_option hygiene false in
local macro_rules | `(tactic| walk_at "okDX")=>`(tactic| (refine G.Zyj F sc (λvs H Q E h=>?_) (λcdv A outer s H vs Q E hr h=>?_);· (first | (obtain ⟨_,rfl,_⟩:=h;rfl) | (obtain ⟨_,_,rfl,_⟩:=h;rfl) | (obtain ⟨_,_,_,rfl,_⟩:=h;rfl) | (obtain ⟨_,_,_,_,rfl,_⟩:=h;rfl) | (obtain ⟨_,_,_,_,_,rfl,_⟩:=h;rfl) | (obtain ⟨_,_,_,_,_,_,rfl,_⟩:=h;rfl) | (obtain ⟨_,_,_,_,_,_,_,rfl,_⟩:=h;rfl))))
section
variable (P:Program){w:World}{K:aB}{mg:Str->Option Value}(base:Heap){fK aK aR bR bA dG fW dM dD iu kh jl jk fV iI eU nF o5 dF cG di yD gC ig jE dZ iR nG iM jD sV yC gJ vp sU nD gH cT cQ yx gB Ga iT lV gG cR iQ FZ bV yz nY bN bW cH dI dJ dH gK dB d8 jR jj gw fO gR jz jx gY gW gU fD gP gQ gO gA VG gh d7 ir iW jH jL jJ jK jN je iV jG fP iZ jM iY gF gD iU jF:Addr}(XQ:Cs)(T:Txt w K mg XQ.C XQ.H XQ.D XQ.S XQ.W XQ.F XQ.E XQ.L XQ.K fK aK aR bR bA dG fW dM dD iu kh jl jk fV iI eU nF o5 dF cG di yD gC ig jE dZ iR nG iM jD sV yC gJ vp sU nD gH cT cQ yx gB Ga iT lV gG cR iQ FZ bV yz nY bN bW cH dI dJ dH gK dB d8 jR jj gw fO gR jz jx gY gW gU fD gP gQ gO gA VG gh d7 ir iW jH jL jJ jK jN je iV jG fP iZ jM iY gF gD iU jF)
include T
theorem o8:pZ K XQ:=⟨⟨T.cZ,T.dU,T.mH,T.mG,T.jC,T.eX,T.cN,T.nU,T.bM,T.jg,T.mF,T.PB⟩,T.Ze0,T.uw,T.uv,T.sJ,T.sI,T.pq,T.Zj9,T.wD,T.uz,T.Zj8,T.qH,T.uy,T.Sy,T.pB,T.pC,T.qG,T.oJ,T.qC,T.ux,T.qD,T.pA,T.pD,T.oH,T.qF⟩
theorem K4{fd:FuncData}(F:jw K "__init__" "Cell.__init__" tX dG fd):lA P w K mg base 1 dG fd uh (wW XQ.C):=by
 have sc:=J4;have tx:=o8 _ T;walk_at "ok"
 ·refine⟨rG K,(ao (cC (pv 0) (pv 1) rfl)
   (ao (cC (pv 0) (pv 3) rfl)
   (ao (cC (pv 0) (pv 4) rfl)
   (ao (cC (pv 0) (az) rfl)
   (aA (cC (pv 0) (aZ Q8 (dg (aa (fY) au)) (pv 2)) rfl)))))),?_⟩
  obtain⟨z0,z1,z2,z3,z4,rfl,q⟩:=h;exact MT tx.c q
theorem UT{fd:FuncData}(F:jw K "units" "Cell.units" zP fW fd):lA P w K mg base 1 fW fd ["self"] (mY XQ.C):=by
 have sc:=Uj;have tx:=o8 _ T;walk_at "ok"
 ·refine⟨xZ K,(aA (aM (aZ lB (aZ lB (az) (cF G.cU (by rfl) T.kY G.boot_len (aa (aJ (pv 0) rfl) au))) (aJ (pv 0) rfl)))),?_⟩;obtain⟨z0,rfl,q⟩:=h;exact V8 tx.c q
theorem Ig{fd:FuncData}(F:jw K "has_field" "Cell.has_field" rB dM fd):lA P w K mg base 1 dM fd rN (wO XQ):=by
 have sc:=HH;have tx:=o8 _ T;walk_at "ok"
 ·refine⟨qt K,(aA (aM (Zn7 Zxi Fy (az) (pv 1) (cF G.cU (by rfl) T.kY G.boot_len (aa (aJ (pv 0) rfl) au))))),?_⟩;obtain⟨z0,z1,rfl,q⟩:=h;exact JM tx q
theorem K1{fd:FuncData}(F:jw K "__init__" "Heap.__init__" tV dD fd):lA P w K mg base 1 dD fd uf (wR XQ.H):=by
 have sc:=J2;have tx:=o8 _ T;walk_at "ok"
 ·refine⟨rE K,(ao (cC (pv 0) (pv 1) rfl)
   (ao (cC (pv 0) (dg au) rfl)
   (ao (cC (pv 0) (az) rfl)
   (aA (cC (pv 0) (az) rfl))))),?_⟩
  obtain⟨z0,z1,rfl,q⟩:=h;exact Mv tx.c q
theorem Zn{fd:FuncData}{Ml yw Zaj Zdm:FuncData}(F:G.Zx3 K "make" "Heap.make" wg iu fd)(Bx:Hh P w K mg base 1 dG Ml uh (wW XQ.C))(m6:Hh P w K mg base 1 fW yw ["self"] (mY XQ.C))(Oa:Hh P w K mg base 1 jk Zaj ["self"] (wU XQ.H))(Te:Hh P w K mg base 1 kh Zdm GK (Bp K XQ.H)):lA P w K mg base 3 iu fd Dt (wQ K XQ.C XQ.H bR):=by
 have sc:=Yz;have tx:=o8 _ T;walk_at "okDX"
 ·refine⟨Ae K XQ.C bR XQ.H (wW XQ.C) (mY XQ.C) (wU XQ.H) (Bp K XQ.H) E,(ao (fX 4 sc.nd (Ak T.Pu Bx.g (hr.mono (by decide)) rfl T.Zo4 Bx.b .nil G.fZ (aa (aZ lB (aJ (pv 0) rfl) (az)) (aa (pv 1) (aa (pv 2) (aa (pv 3) au))))))
   (ao (cJ (oX Zim (nC (pv 4) T.cZ T.sO m6.g (hr.mono (by decide)) m6.b .nil G.fZ) (nC (pv 0) T.cN T.Il Oa.g (hr.mono (by decide)) Oa.b .nil G.fZ)) (aA (G.HN rfl rfl T.Zo2 T.Xz (aa (bH) au) (λ_ _ _ _ _ _ _ I hx hE=>G.YQ I hx hE))) bB)
   (ao (cC (pv 0) (aJ (pv 4) rfl) rfl)
   (ao (cC (pv 0) (aZ lB (aJ (pv 0) rfl) (nC (pv 4) T.cZ T.sO m6.g (hr.mono (by decide)) m6.b .nil G.fZ)) rfl)
   (aA (aM (su (pv 0) T.cN T.Ni Te.g (hr.mono (by decide)) Te.b .nil G.fZ (aa (pv 4) au)))))))),?_⟩
  obtain⟨z0,z1,z2,z3,rfl,q⟩:=h;exact Zb4 tx.c q
theorem Zcb{fd:FuncData}(F:jw K "lay" "Heap.lay" Gn kh fd):lA P w K mg base 1 kh fd GK (Bp K XQ.H):=by
 have sc:=Zbs;have tx:=o8 _ T;walk_at "ok"
 ·refine⟨Dd K,(ao (cJ (oX (G.Zk5 (Bu hr)) (fY) (aJ (pv 0) rfl) (by with_unfolding_all rfl)) (ao (qw (Fx PySem.F.plainAttrs_list PySem.F.slot_list_append PySem.F.type_list_append uJ (aJ (pv 0) rfl) (aa (pv 1) au)))
   (aA (aM (aZ yh (cF G.cU (by rfl) T.kY G.boot_len (aa (aJ (pv 0) rfl) au)) (az))))) bB)
   (ao (fX 2 sc.nd (Fx PySem.F.plainAttrs_list PySem.F.slot_list_index PySem.F.type_list_index (G.Zkd (Bu hr)) (aJ (pv 0) rfl) (aa (fY) au)))
   (ao (Ai (pv 1) (Aj (aJ (pv 0) rfl) (pv 2) set_list))
   (aA (aM (pv 2)))))),?_⟩
  obtain⟨z0,z1,rfl,q⟩:=h;exact Ze9 tx.c q
theorem Zq{fd:FuncData}(F:jw K "back" "Heap.back" CQ jl fd){yw:FuncData}(m6:Hh P w K mg base 1 fW yw ["self"] (mY XQ.C)):lA P w K mg base 2 jl fd Du (tL XQ.C XQ.H):=by
 have sc:=YC;have tx:=o8 _ T;walk_at "ok"
 ·refine⟨Ag K XQ.C (mY XQ.C),(ao (fX 2 sc.nd (jU dj (aJ (pv 0) rfl) (pv 1)))
   (ao (cC (pv 0) (aZ yh (aJ (pv 0) rfl) (nC (pv 2) T.cZ T.sO m6.g (hr.mono (by decide)) m6.b .nil G.fZ)) rfl)
   (ao (Ai (fY) (Aj (aJ (pv 0) rfl) (pv 1) set_list))
   (aA (aM (aJ (pv 2) rfl)))))),?_⟩
  obtain⟨z0,z1,rfl,q⟩:=h;exact Zb6 tx.c q
theorem Zo{fd:FuncData}(F:jw K "free" "Heap.free" CP jk fd):lA P w K mg base 1 jk fd ["self"] (wU XQ.H):=by
 have sc:=YB;have tx:=o8 _ T;walk_at "ok"
 ·refine⟨Af K,(aA (aM (aZ yh (aJ (pv 0) rfl) (aJ (pv 0) rfl)))),?_⟩;obtain⟨z0,rfl,q⟩:=h;exact Zb5 tx.c q
theorem UL{fd:FuncData}(F:jw K "there" "Heap.there" zO fV fd):lA P w K mg base 1 fV fd ["self"] (mX XQ.H):=by
 have sc:=Ui;have tx:=o8 _ T;walk_at "ok"
 ·refine⟨xY K,(aA (aM (G.M9 (cns:=["self"]) [0] (pQ rfl T.p6 (aa (cF G.cU (by rfl) T.kY G.boot_len (aa (aJ (pv 0) rfl) au)) au)) (λ_ _ _ _ _=>(G.Zg1 (oX G.yO (jU dj (aJ (pv 1) rfl) (pv 0)) (fY)))) (λ_ _ _ _ _=>(pv 0)) rfl rfl (by repeat (first | exact trivial | refine⟨rfl,?_⟩)) (by repeat (first | exact trivial | refine⟨rfl,?_⟩)) rfl (by decide +kernel) rfl (by decide +kernel) (by decide +kernel) rfl (by decide +kernel)))),?_⟩;obtain⟨z0,rfl,q⟩:=h;exact V2 tx.c q
theorem Zgk{fd:FuncData}(F:jw K "cell_at" "cell_at" Km iI fd):lA P w K mg base 1 iI fd pR (dX XQ.H):=by
 have sc:=Zfj;have tx:=o8 _ T;walk_at "ok"
 ·refine⟨GD K,(ao (cJ (PW.pt (sY (oX G.En (pv 1) (fY)) (sY (oX Fy (pv 1) (az)) (qu (oX Zxj (pv 1) (cF G.cU (by rfl) T.kY G.boot_len (aa (aJ (pv 0) rfl) au))))))) (aA (aM (fY))) bB)
   (aA (aM (jU dj (aJ (pv 0) rfl) (pv 1))))),?_⟩
  obtain⟨z0,z1,rfl,q⟩:=h;exact Zhz tx q
theorem Zca{fd:FuncData}(F:jw K "birth_at" "birth_at" Gm eU fd){j9:FuncData}(mC:Hh P w K mg base 1 iI j9 pR (dX XQ.H)):lA P w K mg base 2 eU fd lR (cI XQ):=by
 have sc:=Zbr;have tx:=o8 _ T;walk_at "ok"
 ·refine⟨Dc K (dX XQ.H),(ao (fX 2 sc.nd (gm mC hr T.rQ (aa (pv 0) (aa (pv 1) au))))
   (ao (cJ (oX G.En (pv 2) (fY)) (aA (aM (fY))) bB)
   (aA (aM (aJ (pv 2) rfl))))),?_⟩
  obtain⟨z0,z1,rfl,q⟩:=h;exact Ze2 tx q
theorem Zga{fd:FuncData}(F:jw K "reached" "reached" J8 nF fd){Zld:FuncData}(Zeb:Hh P w K mg base 2 o5 Zld Q5 (Ed K XQ.C XQ.H)):lA P w K mg base 3 nF fd Kv (Eu K XQ.C XQ.H):=by
 have sc:=Zf9;have tx:=o8 _ T;walk_at "ok"
 ·refine⟨zR K (Ed K XQ.C XQ.H),(ao (fX 2 sc.nd (dg au))
   (ao (nH PassesOwn.never rfl (G.YT rfl T.pP (aa (pv 1) au)) (YW rfl (sZ (gk (i:=3) sc.nd rfl (Or.inl rfl)) (sZ (gk (i:=4) sc.nd rfl (Or.inl rfl)) Pj)))
   (aA (qw (Fx PySem.F.plainAttrs_list PySem.F.slot_list_extend PySem.F.type_list_extend K7 (pv 2) (aa (gm Zeb hr T.RC (aa (pv 0) (aa (pv 4) (aa (cP (aa (pv 3) au)) au)))) au)))))
   (ao (fX 5 sc.nd (HS))
   (ao (fX 6 sc.nd (az))
   (ao (Zmt PassesOwn.never (oX Fy (pv 6) (cF G.cU (by rfl) T.kY G.boot_len (aa (pv 2) au))) (ao (fX 7 sc.nd (jU bQ (jU dj (pv 2) (pv 6)) (az)))
   (ao (fX 8 sc.nd (jU bQ (jU dj (pv 2) (pv 6)) (az)))
   (ao (fX 6 sc.nd (aZ lB (pv 6) (az)))
   (aA (cJ (Zms (G.Zg3 (Bu hr) (pv 7) (pv 5))) (ao (HQ (Bu hr) (pv 5) (pv 7) (pv 8) rfl)
   (aA (qw (Fx PySem.F.plainAttrs_list PySem.F.slot_list_extend PySem.F.type_list_extend K7 (pv 2) (aa (gm Zeb hr T.RC (aa (pv 0) (aa (aJ (jU dj (aJ (pv 0) rfl) (pv 7)) rfl) (aa (pv 8) au)))) au))))) bB))))))
   (aA (aM (uH (G.Zi2 rfl) (by rfl) T.uL G.boot_list (aa (G.Zn6 (pv 5)) au))))))))),?_⟩
  obtain⟨z0,z1,z2,z3,z4,rfl,q⟩:=h;exact Zft tx q
theorem Zk7{fd:FuncData}(F:jw K "onward" "onward" QF o5 fd){j9:FuncData}(mC:Hh P w K mg base 1 iI j9 pR (dX XQ.H)):lA P w K mg base 2 o5 fd Q5 (Ed K XQ.C XQ.H):=by
 have sc:=Zjr;walk_at "ok"
 ·refine⟨El K (dX XQ.H),(aA (aM (G.Zg2 (cns:=["heap","way"]) [0,2] (G.YT rfl T.pP (aa (pv 1) au)) (λ_ _ _ _ _=>(G.Zg1 (oX G.yO (gm mC hr T.rQ (aa (pv 2) (aa (pv 1) au))) (fY)))) (λ_ _ _ _ _=>(cP (aa (pv 1) (aa (aZ Zrd (pv 3) (cP (aa (pv 0) au))) au)))) rfl rfl (by repeat (first | exact trivial | refine⟨rfl,?_⟩)) (by repeat (first | exact trivial | refine⟨rfl,?_⟩)) rfl (by decide +kernel) rfl (by decide +kernel) (by decide +kernel) rfl rfl (by decide +kernel)))),?_⟩;obtain⟨z0,z1,z2,z3,z4,z5,rfl,q⟩:=h;exact Zk6 q
theorem K3{fd:FuncData}(F:jw K "__init__" "Hand.__init__" tW dF fd):lA P w K mg base 1 dF fd ug (wV XQ.D):=by
 have sc:=J3;have tx:=o8 _ T;walk_at "ok"
 ·refine⟨rF K,(ao (cC (pv 0) (pv 1) rfl)
   (aA (cC (pv 0) (aZ Q8 (dg (aa (fY) au)) (pv 2)) rfl))),?_⟩
  obtain⟨z0,z1,z2,rfl,q⟩:=h;exact Mw tx q
theorem Fb{fd:FuncData}(F:jw K "__init__" "Sweeper.__init__" pG cG fd):lA P w K mg base 1 cG fd ["self"] (qP XQ.S):=by
 have sc:=Ez;have tx:=o8 _ T;walk_at "ok"
 ·refine⟨oU K,(ao (cC (pv 0) (az) rfl)
   (ao (cC (pv 0) (bH) rfl)
   (ao (cC (pv 0) (dg au) rfl)
   (ao (cC (pv 0) (az) rfl)
   (ao (cC (pv 0) (az) rfl)
   (ao (cC (pv 0) (az) rfl)
   (ao (cC (pv 0) (az) rfl)
   (ao (cC (pv 0) (az) rfl)
   (ao (cC (pv 0) (az) rfl)
   (ao (cC (pv 0) (az) rfl)
   (aA (cC (pv 0) (fY) rfl)))))))))))),?_⟩
  obtain⟨z0,rfl,q⟩:=h;exact Fp tx q
theorem HY{fd:FuncData}{Mj Mi Fj:FuncData}(F:jw K "__init__" "World.__init__" qZ di fd)(Bw:Hh P w K mg base 1 dF Mj ug (wV XQ.D))(Bv:Hh P w K mg base 1 dD Mi uf (wR XQ.H))(vL:Hh P w K mg base 1 cG Fj ["self"] (qP XQ.S)):lA P w K mg base 3 di fd rH (uE XQ):=by
 have sc:=Hz;have tx:=o8 _ T;walk_at "ok"
 ·refine⟨qi K XQ.D XQ.H XQ.S (wV XQ.D) (wR XQ.H) (qP XQ.S),(ao (cC (pv 0) (Ak T.Pq Bv.g (hr.mono (by decide)) rfl T.Zo0 Bv.b .nil G.fZ (aa (pv 1) au)) rfl)
   (ao (cC (pv 0) (pv 2) rfl)
   (ao (cC (pv 0) (G.Zg2 (cns:=[]) [] (lH (pv 3)) (λ_ _ _ _ _=>G.Dg) (λ_ _ _ _ _=>(Ak T.Pr Bw.g (hr.mono (by decide)) rfl T.Zo1 Bw.b .nil G.fZ (aa (pv 0) (aa (pv 1) au)))) rfl rfl (by repeat (first | exact trivial | refine⟨rfl,?_⟩)) (by repeat (first | exact trivial | refine⟨rfl,?_⟩)) rfl (by decide +kernel) rfl (by decide +kernel) (by decide +kernel) rfl rfl (by decide +kernel)) rfl)
   (ao (cC (pv 0) (HS) rfl)
   (aA (cC (pv 0) (Zn4 T.Ba vL.g (hr.mono (by decide)) rfl T.W2 vL.b .nil G.fZ) rfl)))))),?_⟩
  obtain⟨z0,z1,z2,z3,rfl,q⟩:=h;exact JC tx q
theorem Zrj{fd:FuncData}(F:jw K "held" "held" Zfo yD fd):lA P w K mg base 1 yD fd ["world"] (Zb1 XQ):=by
 have sc:=Zqd;have tx:=o8 _ T;walk_at "ok"
 ·refine⟨YL K,(aA (aM (G.M9 (cns:=[]) [] (lH (aJ (pv 0) rfl)) (λ_ _ _ _ _=>G.Dg) (λ_ _ _ _ _=>(uH G.Bj (by rfl) T.uL G.boot_list (aa (aJ (pv 0) rfl) au))) rfl rfl (by repeat (first | exact trivial | refine⟨rfl,?_⟩)) (by repeat (first | exact trivial | refine⟨rfl,?_⟩)) rfl (by decide +kernel) rfl (by decide +kernel) (by decide +kernel) rfl (by decide +kernel)))),?_⟩;obtain⟨z0,rfl,q⟩:=h;exact Zsj tx q
theorem Rh{fd:FuncData}(F:jw K "births_held" "births_held" xx gC fd){qK:FuncData}(tM:Hh P w K mg base 3 ig qK tE (jO XQ)):lA P w K mg base 4 gC fd ["world"] (vG XQ):=by
 have sc:=Qy;have tx:=o8 _ T;walk_at "ok"
 ·refine⟨uX K (jO XQ),(aA (aM (G.M9 (cns:=["world"]) [0] (lH (aJ (pv 0) rfl)) (λ_ _ _ _ _=>G.Dg) (λ_ _ _ _ _=>(gm tM hr T.wK (aa (aJ (pv 1) rfl) (aa (aJ (pv 0) rfl) au)))) rfl rfl (by repeat (first | exact trivial | refine⟨rfl,?_⟩)) (by repeat (first | exact trivial | refine⟨rfl,?_⟩)) rfl (by decide +kernel) rfl (by decide +kernel) (by decide +kernel) rfl (by decide +kernel)))),?_⟩;obtain⟨z0,rfl,q⟩:=h;exact SQ tx q
theorem Za{fd:FuncData}(F:jw K "births_at" "births_at" Ck ig fd){eO:FuncData}(gb:Hh P w K mg base 2 eU eO lR (cI XQ)):lA P w K mg base 3 ig fd tE (jO XQ):=by
 have sc:=Yn;have tx:=o8 _ T;walk_at "ok"
 ·refine⟨zW K (cI XQ),(aA (aM (G.M9 (cns:=["heap"]) [0] (lH (pv 1)) (λ_ _ _ _ _=>G.Dg) (λ_ _ _ _ _=>(gm gb hr T.mQ (aa (pv 1) (aa (pv 0) au)))) rfl rfl (by repeat (first | exact trivial | refine⟨rfl,?_⟩)) (by repeat (first | exact trivial | refine⟨rfl,?_⟩)) rfl (by decide +kernel) rfl (by decide +kernel) (by decide +kernel) rfl (by decide +kernel)))),?_⟩;obtain⟨z0,z1,rfl,q⟩:=h;exact Zam tx q
theorem Y7{fd:FuncData}(F:jw K "looked_at" "looked_at" Cd jE fd):lA P w K mg base 1 jE fd Di (wN XQ):=by
 have sc:=Yk;have tx:=o8 _ T;walk_at "ok"
 ·refine⟨zT K,(aA (aM (Em kZ (aZ KR (aZ Y0 (aJ (aJ (pv 0) rfl) rfl) (pv 1)) (az)) (az) (K6 _)))),?_⟩;obtain⟨z0,z1,rfl,q⟩:=h;exact Zz tx q
theorem Y8{fd:FuncData}(F:jw K "has_sense" "has_sense" Cg dZ fd):lA P w K mg base 1 dZ fd lJ (cM XQ):=by
 have sc:=Yl;have tx:=o8 _ T;walk_at "ok"
 ·refine⟨zU K,(aA (aM (Em kZ (aJ (pv 1) rfl) (aJ (aJ (pv 0) rfl) rfl) (K6 _)))),?_⟩;obtain⟨z0,z1,rfl,q⟩:=h;exact Za3 tx q
theorem Ut{fd:FuncData}(F:jw K "is_walking" "is_walking" zE iR fd):lA P w K mg base 1 iR fd ["world"] (uC XQ):=by
 have sc:=T7;have tx:=o8 _ T;walk_at "ok"
 ·refine⟨xO K,(aA (aM (Em WM (aJ (aJ (pv 0) rfl) rfl) (cP (aa (bH) (aa (bH) au))) (by with_unfolding_all rfl)))),?_⟩;obtain⟨z0,rfl,q⟩:=h;exact U8 tx q
theorem Zgb{fd:FuncData}(F:jw K "mark_of" "mark_of" J9 nG fd){fc:FuncData}(gj:Hh P w K mg base 1 dZ fc lJ (cM XQ)):lA P w K mg base 2 nG fd Kw (Ew XQ):=by
 have sc:=Zfa;have tx:=o8 _ T;walk_at "ok"
 ·refine⟨Gq K (cM XQ),(ao (fX 2 sc.nd (aJ (pv 0) rfl))
   (ao (fX 3 sc.nd (gm gj hr T.mJ (aa (pv 0) (aa (jU dj (aJ (aJ (pv 0) rfl) rfl) (pv 1)) au))))
   (ao (cJ (oX kZ (aJ (pv 2) rfl) (bH)) (aA (aM (bH))) bB)
   (ao (cJ (oX kZ (aJ (pv 2) rfl) (bH)) (aA (aM (Zby (jr (pv 3)) (bH) (bH)))) bB)
   (ao (cJ (nT (jr (pv 3))) (aA (aM (bH))) bB)
   (aA (aM (Zby (oX WM (pv 1) (aJ (pv 2) rfl) (by with_unfolding_all rfl)) (bH) (bH))))))))),?_⟩
  obtain⟨z0,z1,rfl,q⟩:=h;exact Zgo tx q
theorem Up{fd:FuncData}{yu Za7:FuncData}(F:jw K "told_cells" "told_cells" zy iM fd)(qQ:Hh P w K mg base 1 fV yu ["self"] (mX XQ.H))(Zea:Hh P w K mg base 4 jD Za7 Dh (wM XQ)):lA P w K mg base 5 iM fd ["world"] (GX XQ):=by
 have sc:=TQ;have tx:=o8 _ T;walk_at "ok"
 ·refine⟨xJ K XQ.H (mX XQ.H) (wM XQ),(aA (aM (G.M9 (cns:=["world"]) [0] (lH (nC (aJ (pv 0) rfl) T.cN T.yl qQ.g (hr.mono (by decide)) qQ.b .nil G.fZ)) (λ_ _ _ _ _=>G.Dg) (λ_ _ _ _ _=>(gm Zea hr T.Nj (aa (pv 1) (aa (pv 0) au)))) rfl rfl (by repeat (first | exact trivial | refine⟨rfl,?_⟩)) (by repeat (first | exact trivial | refine⟨rfl,?_⟩)) rfl (by decide +kernel) rfl (by decide +kernel) (by decide +kernel) rfl (by decide +kernel)))),?_⟩;obtain⟨z0,rfl,q⟩:=h;exact Tp tx q
theorem Y6{fd:FuncData}{qK Zhf:FuncData}(F:jw K "told_cell" "told_cell" Ca jD fd)(tM:Hh P w K mg base 3 ig qK tE (jO XQ))(Zlv:Hh P w K mg base 2 nG Zhf Kw (Ew XQ)):lA P w K mg base 4 jD fd Dh (wM XQ):=by
 have sc:=Yj;have tx:=o8 _ T;walk_at "ok"
 ·refine⟨zQ K (jO XQ) (Ew XQ),(ao (fX 2 sc.nd (jU dj (aJ (aJ (pv 0) rfl) rfl) (pv 1)))
   (ao (fX 3 sc.nd (gm tM hr T.wK (aa (aJ (pv 0) rfl) (aa (aJ (pv 2) rfl) au))))
   (aA (aM (cP (aa (pv 1) (aa (aJ (pv 2) rfl) (aa (aJ (pv 2) rfl) (aa (aJ (pv 2) rfl) (aa (pv 3) (aa (gm Zlv hr T.W0 (aa (pv 0) (aa (pv 1) au))) au))))))))))),?_⟩
  obtain⟨z0,z1,rfl,q⟩:=h;exact XH tx q
theorem Znd{fd:FuncData}{Js Fl:FuncData}(F:jw K "begin" "begin" YF sV fd)(za:Hh P w K mg base 2 dI Js rK (oE 0))(m5:Hh P w K mg base 1 bN Fl pL (oE 1)):lA P w K mg base 3 sV fd ["world"] (Qe XQ):=by
 have sc:=Zmf;have tx:=o8 _ T;walk_at "ok"
 ·refine⟨QW K XQ.E XQ.F XQ.L (oE 0) (oE 1),(ao (fX 1 sc.nd (aJ (pv 0) rfl))
   (ao (cC (pv 1) (aZ yh (az) (aJ (pv 1) rfl)) rfl)
   (ao (cC (pv 1) (aZ lB (aJ (pv 1) rfl) (az)) rfl)
   (ao (cC (pv 1) (bH) rfl)
   (ao (cC (pv 1) (dg au) rfl)
   (ao (cC (pv 1) (G.wu (su (aJ (aJ (pv 0) rfl) rfl) T.Eb T.wH za.g (hr.mono (by decide)) za.b .nil G.fZ (aa (cF G.cU (by rfl) T.kY G.boot_len (aa (aJ (pv 0) rfl) au)) au)) (G.wu (su (aJ (aJ (pv 0) rfl) rfl) T.Jy T.yS m5.g (hr.mono (by decide)) m5.b .nil G.fZ (aa (cF G.cU (by rfl) T.kY G.boot_len (aa (aJ (pv 0) rfl) au)) au)) (su (aJ (aJ (pv 0) rfl) rfl) T.Jx T.yR m5.g (hr.mono (by decide)) m5.b .nil G.fZ (aa (cF G.cU (by rfl) T.kY G.boot_len (aa (aJ (pv 0) rfl) au)) au)))) rfl)
   (ao (cC (pv 1) (az) rfl)
   (ao (cC (pv 1) (az) rfl)
   (aA (cC (pv 1) (az) rfl)))))))))),?_⟩
  obtain⟨z0,rfl,q⟩:=h;exact Zpt tx q
theorem Zri{fd:FuncData}{j9 fc:FuncData}(F:jw K "note" "note" Zfn yC fd)(mC:Hh P w K mg base 1 iI j9 pR (dX XQ.H))(gj:Hh P w K mg base 1 dZ fc lJ (cM XQ)):lA P w K mg base 2 yC fd Zg5 (Zb0 XQ):=by
 have sc:=Zqc;have tx:=o8 _ T;walk_at "ok"
 ·refine⟨YK K (dX XQ.H) (cM XQ),(ao (fX 2 sc.nd (aJ (pv 0) rfl))
   (ao (fX 3 sc.nd (gm mC hr T.rQ (aa (aJ (pv 0) rfl) (aa (pv 1) au))))
   (ao (cJ (PW.pt (sY (oX Nb (aJ (pv 2) rfl) (bH)) (sY (oX G.En (pv 3) (fY)) (qu (jr (gm gj hr T.mJ (aa (pv 0) (aa (pv 3) au)))))))) (aA (aM (fY))) bB)
   (ao (cC (pv 3) (aJ (pv 2) rfl) rfl)
   (ao (qw (Fx PySem.F.plainAttrs_list PySem.F.slot_list_append PySem.F.type_list_append uJ (aJ (pv 2) rfl) (aa (pv 1) au)))
   (aA (aM (aJ (pv 3) rfl)))))))),?_⟩
  obtain⟨z0,z1,rfl,q⟩:=h;exact Zro tx q
theorem Zc7{fd:FuncData}(F:jw K "note_all" "note_all" Gi gJ fd){Zsz:FuncData}(Zx0:Hh P w K mg base 2 yC Zsz Zg5 (Zb0 XQ)):lA P w K mg base 3 gJ fd pK (fG XQ):=by
 have sc:=Zbo;have tx:=o8 _ T;walk_at "ok"
 ·refine⟨CV K (Zb0 XQ),(ao (fX 2 sc.nd (dg au))
   (ao (nH PassesOwn.never rfl (lH (pv 1)) (gk (i:=3) sc.nd rfl (Or.inl rfl))
   (ao (fX 4 sc.nd (gm Zx0 hr T.Znv (aa (pv 0) (aa (pv 3) au))))
   (aA (cJ (oX G.yO (pv 4) (fY)) (aA (qw (Fx PySem.F.plainAttrs_list PySem.F.slot_list_append PySem.F.type_list_append uJ (pv 2) (aa (pv 4) au)))) bB))))
   (aA (aM (pv 2))))),?_⟩
  obtain⟨z0,z1,rfl,q⟩:=h;exact Zcd tx q
theorem Zrk{fd:FuncData}{j9 fc:FuncData}(F:jw K "gone" "gone" Zfp vp fd)(mC:Hh P w K mg base 1 iI j9 pR (dX XQ.H))(gj:Hh P w K mg base 1 dZ fc lJ (cM XQ)):lA P w K mg base 2 vp fd YZ (GZ XQ):=by
 have sc:=Zqe;have tx:=o8 _ T;walk_at "ok"
 ·refine⟨YM K (dX XQ.H) (cM XQ),(ao (fX 3 sc.nd (gm mC hr T.rQ (aa (aJ (pv 0) rfl) (aa (pv 1) au))))
   (ao (cJ (PW.pt (sY (oX G.En (pv 3) (fY)) (qu (oX Nb (aJ (pv 3) rfl) (pv 2))))) (aA (aM (tD))) bB)
   (aA (aM ((Zn9 (Em kZ (aJ (aJ (pv 0) rfl) rfl) (bH) (K6 _)) (Zn2 (Zn3 (gm gj hr T.mJ (aa (pv 0) (aa (pv 3) au))))))))))),?_⟩
  obtain⟨z0,z1,z2,rfl,q⟩:=h;exact Zss tx q
theorem Znc{fd:FuncData}{Zt0 Zhd:FuncData}(F:jw K "roots" "roots" YD sU fd)(Zx1:Hh P w K mg base 1 yD Zt0 ["world"] (Zb1 XQ))(Zlt:Hh P w K mg base 3 nD Zhd Ku (Et XQ)):lA P w K mg base 4 sU fd ["world"] (PL XQ):=by
 have sc:=Zme;have tx:=o8 _ T;walk_at "ok"
 ·refine⟨QV K (Zb1 XQ) (Et XQ) H,(aA (aM (aZ qy (gm Zx1 hr T.Znw (aa (pv 0) au)) (dg (aa (G.Zr8 (G.Zg2 (cns:=["world"]) [0] (G.Zr1 (G.Zk2 (aJ (pv 0) rfl))) (λ_ _ _ _ _=>G.Dg) (λ_ _ _ _ _=>(gm Zlt hr T.WX (aa (pv 2) (aa (pv 0) (aa (pv 1) au))))) rfl rfl (by repeat (first | exact trivial | refine⟨rfl,?_⟩)) (by repeat (first | exact trivial | refine⟨rfl,?_⟩)) rfl (by decide +kernel) rfl (by decide +kernel) (by decide +kernel) rfl rfl (by decide +kernel))) au))))),?_⟩;obtain⟨z0,rfl,q⟩:=h;exact Zmj tx q
theorem Zg9{fd:FuncData}{Za9 fc Vu:FuncData}(F:jw K "root_of" "root_of" J7 nD fd)(Zi7:Hh P w K mg base 2 vp Za9 YZ (GZ XQ))(gj:Hh P w K mg base 1 dZ fc lJ (cM XQ))(Zb8:Hh P w K mg base 1 iR Vu ["world"] (uC XQ)):lA P w K mg base 3 nD fd Ku (Et XQ):=by
 have sc:=Zf8;have tx:=o8 _ T;walk_at "ok"
 ·refine⟨Gp K (GZ XQ) (cM XQ) (uC XQ),(ao (cJ (jr (gm Zi7 hr T.Zgt (aa (pv 0) (aa (pv 1) (aa (pv 2) au))))) (aA (aM (fY))) bB)
   (ao (cJ (PW.pt (QX (jr (gm Zb8 hr T.Ir (aa (pv 0) au))) (Pb (nT (jr (gm gj hr T.mJ (aa (pv 0) (aa (jU dj (aJ (aJ (pv 0) rfl) rfl) (pv 1)) au)))))))) (aA (aM (fY))) bB)
   (aA (aM (pv 1))))),?_⟩
  obtain⟨z0,z1,z2,rfl,q⟩:=h;exact Zfr tx q
theorem Us{fd:FuncData}(F:jw K "note_hands" "note_hands" zB gH fd){lM:FuncData}(mZ:Hh P w K mg base 3 gJ lM pK (fG XQ)):lA P w K mg base 4 gH fd ur (lO XQ):=by
 have sc:=TY;have tx:=o8 _ T;walk_at "ok"
 ·refine⟨xN K (fG XQ),(ao (fX 2 sc.nd (dg au))
   (ao (nH PassesOwn.never rfl (G.YT rfl T.pP (aa (aJ (pv 0) rfl) au)) (YW rfl (sZ (gk (i:=3) sc.nd rfl (Or.inl rfl)) (sZ (gk (i:=4) sc.nd rfl (Or.inl rfl)) Pj)))
   (aA (cJ (oX kZ (aZ KR (aZ Y0 (pv 1) (pv 3)) (az)) (az)) (aA (qw (Fx PySem.F.plainAttrs_list PySem.F.slot_list_extend PySem.F.type_list_extend K7 (pv 2) (aa (gm mZ hr T.rP (aa (pv 0) (aa (aJ (pv 4) rfl) au))) au)))) bB)))
   (aA (aM (pv 2))))),?_⟩
  obtain⟨z0,z1,rfl,q⟩:=h;exact UW tx q
theorem OD{fd:FuncData}{Zpc yt:FuncData}(F:jw K "step_at_rest" "step_at_rest" uQ cT fd)(Ztg:Hh P w K mg base 3 sV Zpc ["world"] (Qe XQ))(Br:Hh P w K mg base 4 gH yt ur (lO XQ)):lA P w K mg base 5 cT fd ["world"] (bU XQ (Pk "rest")):=by
 have sc:=Ow;have tx:=o8 _ T;walk_at "ok"
 ·refine⟨t7 K (Qe XQ) (lO XQ),(ao (qw (gm Ztg hr T.Zio (aa (pv 0) au)))
   (ao (fX 1 sc.nd (gm Br hr T.Bd (aa (pv 0) (aa (aJ (aJ (pv 0) rfl) rfl) au))))
   (aA (aM (cP (aa (bH) (aa (aJ (aJ (pv 0) rfl) rfl) (aa (pv 1) au)))))))),?_⟩
  obtain⟨z0,rfl,q⟩:=h;exact Om tx q
theorem Ox{fd:FuncData}{Sh Zsx:FuncData}(F:jw K "step_in_walk" "step_in_walk" uO cQ fd)(V4:Hh P w K mg base 7 gB Sh ["world"] (bU XQ Zc3))(Zwz:Hh P w K mg base 4 yx Zsx ["world"] (bU XQ Zc1)):lA P w K mg base 8 cQ fd ["world"] (bU XQ (Pk "walk")):=by
 have sc:=Ou;have tx:=o8 _ T;walk_at "ok"
 ·refine⟨tY K (bU XQ Zc3) (bU XQ Zc1),(ao (cJ (Zbx (aJ (aJ (pv 0) rfl) rfl) (λ_=>rfl)) (aA (aM (gm Zwz hr T.Znu (aa (pv 0) au)))) bB)
   (aA (aM (gm V4 hr T.FN (aa (pv 0) au))))),?_⟩
  obtain⟨z0,rfl,q⟩:=h;exact Oj tx q
theorem Zrg{fd:FuncData}(F:jw K "walk" "walk" Zfl yx fd){lM:FuncData}(mZ:Hh P w K mg base 3 gJ lM pK (fG XQ)):lA P w K mg base 4 yx fd ["world"] (bU XQ Zc1):=by
 have sc:=Zqa;have tx:=o8 _ T;walk_at "ok"
 ·refine⟨YH K (fG XQ),(ao (fX 1 sc.nd (aJ (pv 0) rfl))
   (ao (fX 2 sc.nd (jU dj (aJ (aJ (pv 0) rfl) rfl) (Fx PySem.F.plainAttrs_list PySem.F.slot_list_pop PySem.F.type_list_pop Znq (aJ (pv 1) rfl) (aa (az) au))))
   (ao (cC (pv 1) (aZ lB (aJ (pv 1) rfl) (az)) rfl)
   (aA (aM (cP (aa (bH) (aa (aJ (pv 2) rfl) (aa (gm mZ hr T.rP (aa (pv 0) (aa (aJ (pv 2) rfl) au))) au))))))))),?_⟩
  obtain⟨z0,rfl,q⟩:=h;exact Zq1 tx q
theorem Rg{fd:FuncData}{Jt Jr VF DY Mg Zwg yt:FuncData}(F:jw K "look_or_cut" "look_or_cut" xu gB fd)(zb:Hh P w K mg base 1 dJ Jt rM (iw 1))(yZ:Hh P w K mg base 2 dH Jr rJ (iw 2))(uF:Hh P w K mg base 1 gK VF ["self"] (rR (.bl false)))(uo:Hh P w K mg base 1 bW DY oY (iw 0))(iy:Hh P w K mg base 1 cH Mg ["self"] (rR (.bl true)))(Zyy:Hh P w K mg base 6 Ga Zwg ["world"] (bU XQ Zg6))(Br:Hh P w K mg base 4 gH yt ur (lO XQ)):lA P w K mg base 7 gB fd ["world"] (bU XQ Zc3):=by
 have sc:=Qx;have tx:=o8 _ T;walk_at "ok"
 ·refine⟨uW K XQ.E XQ.F XQ.L (iw 1) (iw 2) (rR (.bl false)) (iw 0) (rR (.bl true)) (bU XQ Zg6) (lO XQ),(ao (fX 1 sc.nd (aJ (pv 0) rfl))
   (ao (fX 2 sc.nd (aJ (aJ (pv 0) rfl) rfl))
   (ao (fX 3 sc.nd (G.wu (su (pv 2) T.Eb T.vd uo.g (hr.mono (by decide)) uo.b .nil G.fZ (aa (aJ (pv 1) rfl) (aa (cF G.cU (by rfl) T.kY G.boot_len (aa (aJ (pv 0) rfl) au)) au))) (G.wu (su (pv 2) T.Jy T.wI zb.g (hr.mono (by decide)) zb.b .nil G.fZ (aa (aJ (pv 1) rfl) (aa (cF G.cU (by rfl) T.kY G.boot_len (aa (aJ (pv 0) rfl) au)) au))) (su (pv 2) T.Jx T.wG yZ.g (hr.mono (by decide)) yZ.b .nil G.fZ (aa (aJ (pv 1) rfl) (aa (cF G.cU (by rfl) T.kY G.boot_len (aa (aJ (pv 0) rfl) au)) au))))))
   (ao (fX 4 sc.nd (gm Br hr T.Bd (aa (pv 0) (aa (pv 3) au))))
   (ao (cJ (PW.pt (sY (oX kZ (pv 3) (az)) (qu (nT (PW.pt (sY (jr (G.wu (nC (pv 2) T.Eb T.u9 iy.g (hr.mono (by decide)) iy.b .nil G.fZ) (G.wu (nC (pv 2) T.Jy T.ym iy.g (hr.mono (by decide)) iy.b .nil G.fZ) (nC (pv 2) T.Jx T.yj uF.g (hr.mono (by decide)) uF.b .nil G.fZ)))) (qu (Zbx (pv 4) (λ_=>rfl))))))))) (aA (aM (gm Zyy hr T.Zts (aa (pv 0) au)))) bB)
   (ao (cC (pv 1) (aZ lB (aJ (pv 1) rfl) (az)) rfl)
   (ao (cJ (jr (G.wu (nC (pv 2) T.Eb T.u9 iy.g (hr.mono (by decide)) iy.b .nil G.fZ) (G.wu (nC (pv 2) T.Jy T.ym iy.g (hr.mono (by decide)) iy.b .nil G.fZ) (nC (pv 2) T.Jx T.yj uF.g (hr.mono (by decide)) uF.b .nil G.fZ)))) (aA (cC (pv 1) (aZ Zxh (aJ (pv 1) rfl) (pv 3)) rfl)) bB)
   (aA (aM (cP (aa (bH) (aa (pv 3) (aa (pv 4) au))))))))))))),?_⟩
  obtain⟨z0,rfl,q⟩:=h;exact RJ tx q
theorem Zv0{fd:FuncData}{qK Vv Zdk yr:FuncData}(F:jw K "cut" "cut" Zmi Ga fd)(tM:Hh P w K mg base 3 ig qK tE (jO XQ))(Zb9:Hh P w K mg base 5 iT Vv ["world"] (uD XQ))(Zi8:Hh P w K mg base 2 lV Zdk ["world"] (Bo XQ))(Bq:Hh P w K mg base 1 gG yr ["event"] (mW K)):lA P w K mg base 6 Ga fd ["world"] (bU XQ Zg6):=by
 have sc:=Zui;have tx:=o8 _ T;walk_at "ok"
 ·refine⟨Zfw K (jO XQ) (uD XQ) (Bo XQ) (mW K),(ao (fX 1 sc.nd (aJ (pv 0) rfl))
   (ao (cC (pv 1) (cF G.cU (by rfl) T.kY G.boot_len (aa (aJ (aJ (pv 0) rfl) rfl) au)) rfl)
   (ao (cC (pv 1) (az) rfl)
   (ao (fX 2 sc.nd (gm Zb9 hr T.Iu (aa (pv 0) au)))
   (ao (cJ (oX G.yO (pv 2) (fY)) (ao (cC (pv 1) (bH) rfl)
   (ao (cC (pv 1) (pv 2) rfl)
   (aA (aM (gm Bq hr T.Bc (aa (pv 2) au)))))) bB)
   (ao (cC (pv 1) (bH) rfl)
   (ao (fX 3 sc.nd (gm tM hr T.wK (aa (aJ (pv 0) rfl) (aa (gm Zi8 hr T.RD (aa (pv 0) au)) au))))
   (aA (aM (cP (aa (bH) (aa (cF G.cU (by rfl) T.kY G.boot_len (aa (pv 3) au)) (aa (pv 3) au))))))))))))),?_⟩
  obtain⟨z0,rfl,q⟩:=h;exact Zwo tx q
theorem Uu{fd:FuncData}{fc Zhe Zpb:FuncData}(F:jw K "first_loss" "first_loss" zF iT fd)(gj:Hh P w K mg base 1 dZ fc lJ (cM XQ))(Zlu:Hh P w K mg base 3 nF Zhe Kv (Eu K XQ.C XQ.H))(Ztf:Hh P w K mg base 4 sU Zpb ["world"] (PL XQ)):lA P w K mg base 5 iT fd ["world"] (uD XQ):=by
 have sc:=T9;have tx:=o8 _ T;walk_at "ok"
 ·refine⟨xP K (cM XQ) (Eu K XQ.C XQ.H) (PL XQ),(ao (nH PassesOwn.never rfl (lH (gm Zlu hr T.WY (aa (aJ (pv 0) rfl) (aa (gm Ztf hr T.Zin (aa (pv 0) au)) au)))) (YW rfl (sZ (gk (i:=1) sc.nd rfl (Or.inl rfl)) (sZ (gk (i:=2) sc.nd rfl (Or.inl rfl)) Pj)))
   (ao (fX 3 sc.nd (jU dj (aJ (aJ (pv 0) rfl) rfl) (pv 1)))
   (aA (cJ (nT (jr (gm gj hr T.mJ (aa (pv 0) (aa (pv 3) au))))) (aA (aM (cP (aa (bH) (aa (aJ (pv 3) rfl) (aa (uH Jz (by rfl) T.uL G.boot_list (aa (pv 2) au)) au)))))) bB))))
   (aA (aM (fY)))),?_⟩
  obtain⟨z0,rfl,q⟩:=h;exact Vr tx q
theorem Zc8{fd:FuncData}{yu fc:FuncData}(F:jw K "given_up" "given_up" Gj lV fd)(qQ:Hh P w K mg base 1 fV yu ["self"] (mX XQ.H))(gj:Hh P w K mg base 1 dZ fc lJ (cM XQ)):lA P w K mg base 2 lV fd ["world"] (Bo XQ):=by
 have sc:=Zbp;have tx:=o8 _ T;walk_at "ok"
 ·refine⟨CW K XQ.H (mX XQ.H) (cM XQ),(ao (YS (i:=1) sc.nd rfl (Or.inr rfl) (aJ (pv 0) rfl))
   (aA (aM (G.M9 (cns:=["world","heap"]) [0,1] (lH (nC (pv 1) T.cN T.yl qQ.g (hr.mono (by decide)) qQ.b .nil G.fZ)) (λ_ _ _ _ _=>(G.Zg1 (nT (jr (gm gj hr T.mJ (aa (pv 1) (aa (jU dj (aJ (pv 2) rfl) (pv 0)) au))))))) (λ_ _ _ _ _=>(pv 0)) rfl rfl (by repeat (first | exact trivial | refine⟨rfl,?_⟩)) (by repeat (first | exact trivial | refine⟨rfl,?_⟩)) rfl (by decide +kernel) rfl (by decide +kernel) (by decide +kernel) rfl (by decide +kernel))))),?_⟩
  obtain⟨z0,rfl,q⟩:=h;exact Zdi tx q
theorem Uq{fd:FuncData}(F:jw K "told_again" "told_again" zz gG fd):lA P w K mg base 1 gG fd ["event"] (mW K):=by
 have sc:=TV;walk_at "ok"
 ·refine⟨xK K,(aA (aM (cP (aa (jU bQ (pv 0) (az)) (aa (jU bQ (pv 0) (az)) (aa (uH G.Bj (by rfl) T.uL G.boot_list (aa (jU bQ (pv 0) (az)) au)) au)))))),?_⟩;obtain⟨z0,rfl,q⟩:=h;exact Tq q
theorem Oz{fd:FuncData}{Zwf Vt:FuncData}(F:jw K "step_in_give" "step_in_give" uP cR fd)(Zyx:Hh P w K mg base 1 FZ Zwf ["world"] (bU XQ pEnd))(Zb7:Hh P w K mg base 3 iQ Vt ["world"] (bU XQ Zc2)):lA P w K mg base 4 cR fd ["world"] (bU XQ (Pk "give")):=by
 have sc:=Ov;have tx:=o8 _ T;walk_at "ok"
 ·refine⟨tZ K (bU XQ pEnd) (bU XQ Zc2),(ao (cJ (oX Fy (aJ (aJ (pv 0) rfl) rfl) (aJ (aJ (pv 0) rfl) rfl)) (aA (aM (gm Zb7 hr T.Ip (aa (pv 0) au)))) bB)
   (aA (aM (gm Zyx hr T.Ztr (aa (pv 0) au))))),?_⟩
  obtain⟨z0,rfl,q⟩:=h;exact Ol tx q
theorem Ur{fd:FuncData}{Zak j9 fc:FuncData}(F:jw K "pass_place" "pass_place" zA iQ fd)(Ob:Hh P w K mg base 2 jl Zak Du (tL XQ.C XQ.H))(mC:Hh P w K mg base 1 iI j9 pR (dX XQ.H))(gj:Hh P w K mg base 1 dZ fc lJ (cM XQ)):lA P w K mg base 3 iQ fd ["world"] (bU XQ Zc2):=by
 have sc:=TX;have tx:=o8 _ T;walk_at "ok"
 ·refine⟨xM K XQ.H (tL XQ.C XQ.H) (dX XQ.H) (cM XQ),(ao (fX 1 sc.nd (aJ (pv 0) rfl))
   (ao (fX 2 sc.nd (aJ (pv 1) rfl))
   (ao (cC (pv 1) (aZ lB (pv 2) (az)) rfl)
   (ao (cC (pv 1) (aZ lB (aJ (pv 1) rfl) (az)) rfl)
   (ao (fX 3 sc.nd (gm mC hr T.rQ (aa (aJ (pv 0) rfl) (aa (pv 2) au))))
   (ao (cJ (PW.pt (sY (oX G.En (pv 3) (fY)) (qu (jr (gm gj hr T.mJ (aa (pv 0) (aa (pv 3) au))))))) (aA (aM (cP (aa (bH) (aa (pv 2) (aa (dg au) au)))))) bB)
   (aA (aM (cP (aa (bH) (aa (su (aJ (pv 0) rfl) T.cN T.Im Ob.g (hr.mono (by decide)) Ob.b .nil G.fZ (aa (pv 2) au)) (aa (dg (aa (pv 2) au)) au)))))))))))),?_⟩
  obtain⟨z0,rfl,q⟩:=h;exact Uo tx q
theorem Zux{fd:FuncData}(F:jw K "end" "end" s_end FZ fd):lA P w K mg base 1 FZ fd ["world"] (bU XQ pEnd):=by
 have sc:=Zuh;have tx:=o8 _ T;walk_at "ok"
 ·refine⟨Zfv K,(ao (fX 1 sc.nd (aJ (pv 0) rfl))
   (ao (cC (pv 1) (bH) rfl)
   (aA (aM (cP (aa (bH) (aa (aJ (pv 1) rfl) (aa (dg (aa (aJ (pv 1) rfl) (aa (aJ (pv 1) rfl) (aa (aJ (pv 1) rfl) au)))) au)))))))),?_⟩
  obtain⟨z0,rfl,q⟩:=h;exact Zwk tx q
theorem HX{fd:FuncData}(F:jw K "step_when_lost" "step_when_lost" qY bV fd){yr:FuncData}(Bq:Hh P w K mg base 1 gG yr ["event"] (mW K)):lA P w K mg base 2 bV fd ["world"] (bU XQ (Pk "lost")):=by
 have sc:=Hw;have tx:=o8 _ T;walk_at "ok"
 ·refine⟨qb K (mW K),(aA (aM (gm Bq hr T.Bc (aa (aJ (aJ (pv 0) rfl) rfl) au)))),?_⟩;obtain⟨z0,rfl,q⟩:=h;exact Ho tx q
theorem Zrh{fd:FuncData}{O6 O5 O4 Jp:FuncData}(F:jw K "step" "step" Zfm yz fd)(vK:Hh P w K mg base 5 cT O6 ["world"] (bU XQ (Pk "rest")))(vJ:Hh P w K mg base 4 cR O5 ["world"] (bU XQ (Pk "give")))(vI:Hh P w K mg base 8 cQ O4 ["world"] (bU XQ (Pk "walk")))(rY:Hh P w K mg base 2 bV Jp ["world"] (bU XQ (Pk "lost"))):lA P w K mg base 9 yz fd ["world"] (bU XQ Zk4):=by
 have sc:=Zqb;have tx:=o8 _ T;walk_at "ok"
 ·refine⟨YJ K cT cR cQ bV (bU XQ (Pk "rest")) (bU XQ (Pk "give")) (bU XQ (Pk "walk")) (bU XQ (Pk "lost")),(ao (fX 1 sc.nd (G.Zn1 T.Wv rfl (aJ (aJ (pv 0) rfl) rfl) (λ_ _=>rfl)))
   (aA (aM (G.Zbz (k:=8) (G.Tj.cons (by decide) vK.g vK.b vK.k (G.Tj.cons (by decide) vI.g vI.b vI.k (G.Tj.cons (by decide) vJ.g vJ.b vJ.k (G.Tj.cons (by decide) rY.g rY.b rY.k G.Tj.nil)))) (hr.mono (by decide)) rfl (Or.inl rfl) G.fZ (aa (pv 0) au))))),?_⟩
  obtain⟨z0,rfl,q⟩:=h;exact Zq4 tx q
theorem Zka{fd:FuncData}(F:jw K "all_of" "all_of" QK nY fd):lA P w K mg base 1 nY fd ["hands"] (vH):=by
 have sc:=Zju;walk_at "ok"
 ·refine⟨Kr,(aA (aM (aZ yh (aZ Zg7 (az) (pv 0)) (az)))),?_⟩;obtain⟨z0,rfl,q⟩:=h;exact Zlp q
theorem Fe{fd:FuncData}(F:jw K "at_begin" "Looking.at_begin" pH bN fd):lA P w K mg base 1 bN fd pL (oE 1):=by
 have sc:=EY;walk_at "ok"
 ·refine⟨oW,(aA (aM (az))),?_⟩;obtain⟨z0,z1,rfl,q⟩:=h;exact Ft q
theorem Dv{fd:FuncData}(F:jw K "next_look" "Looking.next_look" oO bW fd):lA P w K mg base 1 bW fd oY (iw 0):=by
 have sc:=BZ;walk_at "ok"
 ·refine⟨nR,(aA (aM (az))),?_⟩;obtain⟨z0,z1,z2,rfl,q⟩:=h;exact Eh q
theorem KY{fd:FuncData}(F:jw K "stays" "Looking.stays" tR cH fd):lA P w K mg base 1 cH fd ["self"] (rR (.bl true)):=by
 have sc:=J0;walk_at "ok"
 ·refine⟨rC,(aA (aM (tD))),?_⟩;obtain⟨z0,rfl,q⟩:=h;exact Ms q
theorem Ib{fd:FuncData}(F:jw K "at_begin" "First.at_begin" rz dI fd){Mf:FuncData}(Td:Hh P w K mg base 1 nY Mf ["hands"] (vH)):lA P w K mg base 2 dI fd rK (oE 0):=by
 have sc:=HD;walk_at "ok"
 ·refine⟨qm (vH),(aA (aM (gm Td hr T.RG (aa (pv 1) au)))),?_⟩;obtain⟨z0,z1,rfl,q⟩:=h;exact JK q
theorem Ie{fd:FuncData}(F:jw K "next_look" "Each.next_look" rA dJ fd):lA P w K mg base 1 dJ fd rM (iw 1):=by
 have sc:=HF;walk_at "ok"
 ·refine⟨qp,(ao (nH PassesOwn.never rfl (pQ rfl T.p6 (aa (pv 2) au)) (gk (i:=3) sc.nd rfl (Or.inl rfl))
   (aA (cJ (oX kZ (aZ KR (aZ Y0 (pv 1) (pv 3)) (az)) (az)) (aA (aM (aZ Zg7 (az) (pv 3)))) bB)))
   (aA (aM (az)))),?_⟩
  obtain⟨z0,z1,z2,rfl,q⟩:=h;exact JL q
theorem Ia{fd:FuncData}(F:jw K "next_look" "Last.next_look" q8 dH fd){Mf:FuncData}(Td:Hh P w K mg base 1 nY Mf ["hands"] (vH)):lA P w K mg base 2 dH fd rJ (iw 2):=by
 have sc:=HB;walk_at "ok"
 ·refine⟨qj (vH),(aA (aM (gm Td hr T.RG (aa (pv 2) au)))),?_⟩;obtain⟨z0,z1,z2,rfl,q⟩:=h;exact JG q
theorem UJ{fd:FuncData}(F:jw K "stays" "Last.stays" zN gK fd):lA P w K mg base 1 gK fd ["self"] (rR (.bl false)):=by
 have sc:=Uh;walk_at "ok"
 ·refine⟨xX,(aA (aM (tD))),?_⟩;obtain⟨z0,rfl,q⟩:=h;exact V1 q
theorem KZ{fd:FuncData}(F:jw K "__init__" "Kind.__init__" tU dB fd):lA P w K mg base 1 dB fd ue (tK XQ.K):=by
 have sc:=J1;have tx:=o8 _ T;walk_at "ok"
 ·refine⟨rD K,(ao (cC (pv 0) (pv 1) rfl)
   (aA (cC (pv 0) (pv 2) rfl))),?_⟩
  obtain⟨z0,z1,z2,rfl,q⟩:=h;exact Mu tx q
theorem Zc6{fd:FuncData}(F:jw K "slots_of" "slots_of" Gh d8 fd):lA P w K mg base 1 d8 fd j6 (bZ XQ):=by
 have sc:=Zbn;have tx:=o8 _ T;walk_at "ok"
 ·refine⟨CT K,(aA (aM (aJ (jU dj (aJ (pv 0) rfl) (pv 1)) rfl))),?_⟩;obtain⟨z0,z1,rfl,q⟩:=h;exact Zbm tx q
theorem Zgj{fd:FuncData}{j9 dR:FuncData}(F:jw K "cell_in" "cell_in" Kl jR fd)(mC:Hh P w K mg base 1 iI j9 pR (dX XQ.H))(d9:Hh P w K mg base 1 d8 dR j6 (bZ XQ)):lA P w K mg base 2 jR fd uI (jT XQ aK):=by
 have sc:=Zfi;have tx:=o8 _ T;walk_at "okX"
 ·refine⟨Gz K aK (dX XQ.H) (bZ XQ) E,(ao (fX 3 sc.nd (gm mC hr T.rQ (aa (aJ (pv 0) rfl) (aa (jU dj (gm d9 hr T.j7 (aa (pv 0) (aa (pv 1) au))) (pv 2)) au))))
   (ao (cJ (oX G.En (pv 3) (fY)) (aA (G.HN rfl rfl T.Nz T.vU (aa (bH) au) (λ_ _ _ _ _ _ _ I hx hE=>G.YQ I hx hE))) bB)
   (aA (aM (pv 3))))),?_⟩
  obtain⟨z0,z1,z2,rfl,q⟩:=h;exact Zhy tx q
theorem Y9{fd:FuncData}{Ju pM:FuncData}(F:jw K "fields_in" "fields_in" Cj jj fd)(zj:Hh P w K mg base 1 dM Ju rN (wO XQ))(iJ:Hh P w K mg base 2 jR pM uI (jT XQ aK)):lA P w K mg base 3 jj fd wB (oA XQ aK aR):=by
 have sc:=Ym;have tx:=o8 _ T;walk_at "okX"
 ·refine⟨zV K XQ.C aR (wO XQ) (jT XQ aK) E,(ao (fX 4 sc.nd (wz iJ.g (hr.mono (by decide)) rfl T.yU iJ.k iJ.b .nil G.HW (aa (pv 0) (aa (pv 1) (aa (pv 2) au)))))
   (ao (cJ (nT (jr (su (pv 4) T.cZ T.wJ zj.g (hr.mono (by decide)) zj.b .nil G.fZ (aa (pv 3) au)))) (aA (G.HN rfl rfl T.W3 T.Ek (aa (bH) au) (λ_ _ _ _ _ _ _ I hx hE=>G.YQ I hx hE))) bB)
   (aA (aM (aJ (pv 4) rfl))))),?_⟩
  obtain⟨z0,z1,z2,z3,rfl,q⟩:=h;exact Za6 tx q
theorem Ra{fd:FuncData}(F:jw K "told_as_old" "told_as_old" xm gw fd):lA P w K mg base 1 gw fd yd (Bm XQ):=by
 have sc:=Qu;have tx:=o8 _ T;walk_at "ok"
 ·refine⟨uT K,(ao (cJ (oX kZ (aZ KR (aJ (aJ (pv 0) rfl) rfl) (T.Ztw.pe rfl)) (az)) (aA (aM (dg au))) bB)
   (aA (aM (dg (aa (pv 1) au))))),?_⟩
  obtain⟨z0,z1,rfl,q⟩:=h;exact Qh tx q
theorem Rb{fd:FuncData}(F:jw K "told_as_new" "told_as_new" xq fO fd){Za8:FuncData}(Zec:Hh P w K mg base 1 jE Za8 Di (wN XQ)):lA P w K mg base 2 fO fd sE (pO XQ):=by
 have sc:=Qv;have tx:=o8 _ T;walk_at "ok"
 ·refine⟨uU K (wN XQ),(ao (cJ (PW.pt (sY (oX kZ (aZ KR (aJ (aJ (pv 0) rfl) rfl) (T.Ztx.pe rfl)) (az)) (qu (jr (gm Zec hr T.Nk (aa (pv 0) (aa (pv 1) au))))))) (aA (aM (dg au))) bB)
   (aA (aM (dg (aa (pv 2) au))))),?_⟩
  obtain⟨z0,z1,z2,rfl,q⟩:=h;exact Qi tx q
theorem Zgf{fd:FuncData}{Zai eO dR:FuncData}(F:jw K "do_make" "do_make" Ke gR fd)(N8:Hh P w K mg base 3 iu Zai Dt (wQ K XQ.C XQ.H bR))(gb:Hh P w K mg base 2 eU eO lR (cI XQ))(d9:Hh P w K mg base 1 d8 dR j6 (bZ XQ)):lA P w K mg base 4 gR fd KD (cj XQ (BK bR aK aR bA) Ls):=by
 have sc:=Zfe;have tx:=o8 _ T;walk_at "okX"
 ·refine⟨Gv K XQ.H (wQ K XQ.C XQ.H bR) (cI XQ) (bZ XQ) E,(ao (fX 2 sc.nd (gm d9 hr T.j7 (aa (pv 0) (aa (jU bQ (pv 1) (az)) au))))
   (ao (fX 3 sc.nd (jU bQ (pv 1) (az)))
   (ao (fX 4 sc.nd (jU bQ (pv 1) (az)))
   (ao (fX 5 sc.nd (su (aJ (pv 0) rfl) T.cN T.Ik N8.g (hr.mono (by decide)) N8.b .nil G.HW (aa (pv 3) (aa (pv 4) (aa (aJ (aJ (pv 0) rfl) rfl) au)))))
   (ao (Ai (pv 5) (Aj (pv 2) (jU bQ (pv 1) (az)) set_list))
   (aA (aM (cP (aa (bH) (aa (gm gb hr T.mQ (aa (aJ (pv 0) rfl) (aa (pv 5) au))) (aa (dg au) au))))))))))),?_⟩
  obtain⟨z0,z1,rfl,q⟩:=h;exact Zhr tx rfl q
theorem Zk9{fd:FuncData}{eO Bg dR:FuncData}(F:jw K "do_get" "do_get" QJ jz fd)(gb:Hh P w K mg base 2 eU eO lR (cI XQ))(oF:Hh P w K mg base 3 jj Bg wB (oA XQ aK aR))(d9:Hh P w K mg base 1 d8 dR j6 (bZ XQ)):lA P w K mg base 4 jz fd Q7 (cj XQ (BK bR aK aR bA) W7):=by
 have sc:=Zjt;have tx:=o8 _ T;walk_at "okX"
 ·refine⟨Kq K (cI XQ) (oA XQ aK aR) (bZ XQ) E,(ao (fX 2 sc.nd (jU bQ (pv 1) (az)))
   (ao (fX 3 sc.nd (jU bQ (pv 1) (az)))
   (ao (fX 4 sc.nd (jU bQ (pv 1) (az)))
   (ao (fX 5 sc.nd (jU dj (wz oF.g (hr.mono (by decide)) rfl T.DN oF.k oF.b .nil G.HW (aa (pv 0) (aa (pv 2) (aa (pv 3) (aa (pv 4) au))))) (pv 4)))
   (ao (Ai (pv 5) (Aj (gm d9 hr T.j7 (aa (pv 0) (aa (pv 2) au))) (jU bQ (pv 1) (az)) set_list))
   (aA (aM (cP (aa (bH) (aa (gm gb hr T.mQ (aa (aJ (pv 0) rfl) (aa (pv 5) au))) (aa (dg au) au))))))))))),?_⟩
  obtain⟨z0,z1,rfl,q⟩:=h;exact Zli tx rfl rfl q
theorem Zk8{fd:FuncData}{eO Bg lM dR vm Sd:FuncData}(F:jw K "do_put" "do_put" QH jx fd)(gb:Hh P w K mg base 2 eU eO lR (cI XQ))(oF:Hh P w K mg base 3 jj Bg wB (oA XQ aK aR))(mZ:Hh P w K mg base 3 gJ lM pK (fG XQ))(d9:Hh P w K mg base 1 d8 dR j6 (bZ XQ))(yG:Hh P w K mg base 2 fO vm sE (pO XQ))(V3:Hh P w K mg base 1 gw Sd yd (Bm XQ)):lA P w K mg base 4 jx fd Q6 (cj XQ (BK bR aK aR bA) W6):=by
 have sc:=Zjs;have tx:=o8 _ T;walk_at "okX"
 ·refine⟨Ko K (cI XQ) (oA XQ aK aR) (fG XQ) (bZ XQ) (pO XQ) (Bm XQ) E,(ao (fX 2 sc.nd (jU bQ (pv 1) (az)))
   (ao (fX 3 sc.nd (jU bQ (pv 1) (az)))
   (ao (fX 4 sc.nd (wz oF.g (hr.mono (by decide)) rfl T.DN oF.k oF.b .nil G.HW (aa (pv 0) (aa (pv 2) (aa (jU bQ (pv 1) (az)) (aa (pv 3) au))))))
   (ao (fX 5 sc.nd (jU dj (pv 4) (pv 3)))
   (ao (fX 6 sc.nd (jU dj (gm d9 hr T.j7 (aa (pv 0) (aa (pv 2) au))) (jU bQ (pv 1) (az))))
   (ao (Ai (pv 6) (Aj (pv 4) (pv 3) set_list))
   (ao (fX 7 sc.nd (gm mZ hr T.rP (aa (pv 0) (aa (aZ qy (gm V3 hr T.Fz (aa (pv 0) (aa (pv 5) au))) (gm yG hr T.yo (aa (pv 0) (aa (pv 2) (aa (pv 6) au))))) au))))
   (aA (aM (cP (aa (bH) (aa (gm gb hr T.mQ (aa (aJ (pv 0) rfl) (aa (pv 5) au))) (aa (pv 7) au))))))))))))),?_⟩
  obtain⟨z0,z1,rfl,q⟩:=h;exact Zlh tx rfl rfl q
theorem Zgi{fd:FuncData}{eO dR:FuncData}(F:jw K "do_copy" "do_copy" Kh gY fd)(gb:Hh P w K mg base 2 eU eO lR (cI XQ))(d9:Hh P w K mg base 1 d8 dR j6 (bZ XQ)):lA P w K mg base 3 gY fd KN (cj XQ (BK bR aK aR bA) LC):=by
 have sc:=Zfh;have tx:=o8 _ T;walk_at "ok"
 ·refine⟨Gy K (cI XQ) (bZ XQ),(ao (fX 2 sc.nd (gm d9 hr T.j7 (aa (pv 0) (aa (jU bQ (pv 1) (az)) au))))
   (ao (fX 3 sc.nd (jU dj (pv 2) (jU bQ (pv 1) (az))))
   (ao (Ai (pv 3) (Aj (pv 2) (jU bQ (pv 1) (az)) set_list))
   (aA (aM (cP (aa (bH) (aa (gm gb hr T.mQ (aa (aJ (pv 0) rfl) (aa (pv 3) au))) (aa (dg au) au))))))))),?_⟩
  obtain⟨z0,z1,rfl,q⟩:=h;exact Zhu tx q
theorem Zgh{fd:FuncData}{eO dR:FuncData}(F:jw K "do_drop" "do_drop" Kg gW fd)(gb:Hh P w K mg base 2 eU eO lR (cI XQ))(d9:Hh P w K mg base 1 d8 dR j6 (bZ XQ)):lA P w K mg base 3 gW fd KJ (cj XQ (BK bR aK aR bA) Lz):=by
 have sc:=Zfg;have tx:=o8 _ T;walk_at "ok"
 ·refine⟨Gx K (cI XQ) (bZ XQ),(ao (fX 2 sc.nd (gm d9 hr T.j7 (aa (pv 0) (aa (jU bQ (pv 1) (az)) au))))
   (ao (fX 3 sc.nd (jU dj (pv 2) (jU bQ (pv 1) (az))))
   (ao (Ai (fY) (Aj (pv 2) (jU bQ (pv 1) (az)) set_list))
   (aA (aM (cP (aa (bH) (aa (gm gb hr T.mQ (aa (aJ (pv 0) rfl) (aa (pv 3) au))) (aa (dg au) au))))))))),?_⟩
  obtain⟨z0,z1,rfl,q⟩:=h;exact Zht tx q
theorem Zgg{fd:FuncData}{eO lM dR vm:FuncData}(F:jw K "do_give" "do_give" Kf gU fd)(gb:Hh P w K mg base 2 eU eO lR (cI XQ))(mZ:Hh P w K mg base 3 gJ lM pK (fG XQ))(d9:Hh P w K mg base 1 d8 dR j6 (bZ XQ))(yG:Hh P w K mg base 2 fO vm sE (pO XQ)):lA P w K mg base 4 gU fd KH (cj XQ (BK bR aK aR bA) Ly):=by
 have sc:=Zff;have tx:=o8 _ T;walk_at "ok"
 ·refine⟨Gw K (cI XQ) (fG XQ) (bZ XQ) (pO XQ),(ao (fX 2 sc.nd (jU bQ (pv 1) (az)))
   (ao (fX 3 sc.nd (jU bQ (pv 1) (az)))
   (ao (fX 4 sc.nd (jU dj (gm d9 hr T.j7 (aa (pv 0) (aa (pv 2) au))) (jU bQ (pv 1) (az))))
   (ao (Ai (pv 4) (Aj (gm d9 hr T.j7 (aa (pv 0) (aa (pv 3) au))) (jU bQ (pv 1) (az)) set_list))
   (ao (fX 5 sc.nd (gm mZ hr T.rP (aa (pv 0) (aa (gm yG hr T.yo (aa (pv 0) (aa (pv 2) (aa (pv 4) au)))) au))))
   (aA (aM (cP (aa (bH) (aa (gm gb hr T.mQ (aa (aJ (pv 0) rfl) (aa (pv 4) au))) (aa (pv 5) au))))))))))),?_⟩
  obtain⟨z0,z1,rfl,q⟩:=h;exact Zhs tx q
theorem Zc9{fd:FuncData}(F:jw K "do_write" "do_write" Gk fD fd){pM:FuncData}(iJ:Hh P w K mg base 2 jR pM uI (jT XQ aK)):lA P w K mg base 3 fD fd GJ (cj XQ (BK bR aK aR bA) Er):=by
 have sc:=Zbq;have tx:=o8 _ T;walk_at "okX"
 ·refine⟨CZ K (jT XQ aK) E,(ao (fX 2 sc.nd (wz iJ.g (hr.mono (by decide)) rfl T.yU iJ.k iJ.b .nil G.HW (aa (pv 0) (aa (jU bQ (pv 1) (az)) (aa (jU bQ (pv 1) (az)) au)))))
   (ao (fX 3 sc.nd (aJ (pv 2) rfl))
   (ao (cC (pv 2) (jU bQ (pv 1) (az)) rfl)
   (aA (aM (cP (aa (bH) (aa (pv 3) (aa (dg au) au))))))))),?_⟩
  obtain⟨z0,z1,rfl,q⟩:=h;exact Zds tx rfl q
theorem Zgd{fd:FuncData}(F:jw K "do_read" "do_read" Kc gP fd){pM:FuncData}(iJ:Hh P w K mg base 2 jR pM uI (jT XQ aK)):lA P w K mg base 3 gP fd Kz (cj XQ (BK bR aK aR bA) Lr):=by
 have sc:=Zfc;have tx:=o8 _ T;walk_at "okX"
 ·refine⟨Gs K (jT XQ aK) E,(ao (fX 2 sc.nd (wz iJ.g (hr.mono (by decide)) rfl T.yU iJ.k iJ.b .nil G.HW (aa (pv 0) (aa (jU bQ (pv 1) (az)) (aa (jU bQ (pv 1) (az)) au)))))
   (aA (aM (cP (aa (bH) (aa (aJ (pv 2) rfl) (aa (dg au) au))))))),?_⟩
  obtain⟨z0,z1,rfl,q⟩:=h;exact Zhp tx rfl q
theorem Zge{fd:FuncData}{pM dR:FuncData}(F:jw K "do_name" "do_name" Kd gQ fd)(iJ:Hh P w K mg base 2 jR pM uI (jT XQ aK))(d9:Hh P w K mg base 1 d8 dR j6 (bZ XQ)):lA P w K mg base 3 gQ fd KC (cj XQ (BK bR aK aR bA) isName):=by
 have sc:=Zfd;have tx:=o8 _ T;walk_at "okX"
 ·refine⟨Gu K (jT XQ aK) (bZ XQ) E,(ao (fX 2 sc.nd (jU bQ (pv 1) (az)))
   (ao (fX 3 sc.nd (jU bQ (pv 1) (az)))
   (ao (fX 4 sc.nd (aJ (wz iJ.g (hr.mono (by decide)) rfl T.yU iJ.k iJ.b .nil G.HW (aa (pv 0) (aa (pv 2) (aa (pv 3) au)))) rfl))
   (ao (HQ (Bu hr) (aJ (pv 0) rfl) (jU bQ (pv 1) (az)) (cP (aa (jU dj (gm d9 hr T.j7 (aa (pv 0) (aa (pv 2) au))) (pv 3)) (aa (pv 4) au))) rfl)
   (aA (aM (cP (aa (bH) (aa (pv 4) (aa (dg au) au)))))))))),?_⟩
  obtain⟨z0,z1,rfl,q⟩:=h;exact Zhq tx rfl q
theorem Zgc{fd:FuncData}{eO lM Sg dR:FuncData}(F:jw K "do_seek" "do_seek" Ka gO fd)(gb:Hh P w K mg base 2 eU eO lR (cI XQ))(mZ:Hh P w K mg base 3 gJ lM pK (fG XQ))(yH:Hh P w K mg base 3 gA Sg ye (sW XQ bA))(d9:Hh P w K mg base 1 d8 dR j6 (bZ XQ)):lA P w K mg base 4 gO fd Ky (cj XQ (BK bR aK aR bA) Lq):=by
 have sc:=Zfb;have tx:=o8 _ T;walk_at "okX"
 ·refine⟨Gr K (cI XQ) (fG XQ) (sW XQ bA) (bZ XQ) E,(ao (fX 2 sc.nd (wz yH.g (hr.mono (by decide)) rfl T.FJ yH.k yH.b .nil G.HW (aa (pv 0) (aa (jU bQ (pv 1) (az)) au))))
   (ao (Ai (pv 2) (Aj (gm d9 hr T.j7 (aa (pv 0) (aa (jU bQ (pv 1) (az)) au))) (jU bQ (pv 1) (az)) set_list))
   (ao (fX 3 sc.nd (gm mZ hr T.rP (aa (pv 0) (aa (dg (aa (pv 2) au)) au))))
   (aA (aM (cP (aa (bH) (aa (gm gb hr T.mQ (aa (aJ (pv 0) rfl) (aa (pv 2) au))) (aa (pv 3) au))))))))),?_⟩
  obtain⟨z0,z1,rfl,q⟩:=h;exact Zho tx rfl q
theorem Rc{fd:FuncData}(F:jw K "place_named" "place_named" xr gA fd){Za9:FuncData}(Zi7:Hh P w K mg base 2 vp Za9 YZ (GZ XQ)):lA P w K mg base 3 gA fd ye (sW XQ bA):=by
 have sc:=Qw;have tx:=o8 _ T;walk_at "okX"
 ·refine⟨uV K bA (GZ XQ) E,(ao (cJ (Zms (Zk3 (Bu hr) (pv 1) (aJ (pv 0) rfl))) (aA (G.HN rfl rfl T.Zcv T.Hl (aa (bH) au) (λ_ _ _ _ _ _ _ I hx hE=>G.YQ I hx hE))) bB)
   (ao (fX 2 sc.nd (jU bQ (pdg hr (aJ (pv 0) rfl) (pv 1)) (az)))
   (ao (fX 3 sc.nd (jU bQ (pdg hr (aJ (pv 0) rfl) (pv 1)) (az)))
   (ao (cJ (jr (gm Zi7 hr T.Zgt (aa (pv 0) (aa (pv 2) (aa (pv 3) au))))) (aA (aM (fY))) bB)
   (aA (aM (pv 2))))))),?_⟩
  obtain⟨z0,z1,rfl,q⟩:=h;exact Q3 tx q
theorem Zxk{fd:FuncData}{Zhm Zhl Zlf Zhk Zhj Zhi Zle Zhh Zhg Zdl:FuncData}(F:jw K "do" "do" Zuj VG fd)(MN:Hh P w K mg base 3 gY Zhm KN (cj XQ (BK bR aK aR bA) LC))(MK:Hh P w K mg base 3 gW Zhl KJ (cj XQ (BK bR aK aR bA) Lz))(S9:Hh P w K mg base 4 jz Zlf Q7 (cj XQ (BK bR aK aR bA) W7))(MJ:Hh P w K mg base 4 gU Zhk KH (cj XQ (BK bR aK aR bA) Ly))(MF:Hh P w K mg base 4 gR Zhj KD (cj XQ (BK bR aK aR bA) Ls))(Mz:Hh P w K mg base 3 gQ Zhi KC (cj XQ (BK bR aK aR bA) isName))(S8:Hh P w K mg base 4 jx Zle Q6 (cj XQ (BK bR aK aR bA) W6))(My:Hh P w K mg base 3 gP Zhh Kz (cj XQ (BK bR aK aR bA) Lr))(Mx:Hh P w K mg base 4 gO Zhg Ky (cj XQ (BK bR aK aR bA) Lq))(Hg:Hh P w K mg base 3 fD Zdl GJ (cj XQ (BK bR aK aR bA) Er)):lA P w K mg base 5 VG fd Zuq (cj XQ (BK bR aK aR bA) (λ_=>True)):=by
 have sc:=Zxc;have tx:=o8 _ T;walk_at "okX"
 ·refine⟨Zmk K gY gW jz gU gR gQ jx gP gO fD (cj XQ (BK bR aK aR bA) LC) (cj XQ (BK bR aK aR bA) Lz) (cj XQ (BK bR aK aR bA) W7) (cj XQ (BK bR aK aR bA) Ly) (cj XQ (BK bR aK aR bA) Ls) (cj XQ (BK bR aK aR bA) isName) (cj XQ (BK bR aK aR bA) W6) (cj XQ (BK bR aK aR bA) Lr) (cj XQ (BK bR aK aR bA) Lq) (cj XQ (BK bR aK aR bA) Er) E,(ao (fX 2 sc.nd (G.Zn1 T.Ww rfl (jU bQ (pv 1) (az)) (λ_ _=>rfl)))
   (aA (aM (G.Zbz (k:=4) (G.Tj.cons (by decide) MF.g MF.b MF.k (G.Tj.cons (by decide) S9.g S9.b S9.k (G.Tj.cons (by decide) S8.g S8.b S8.k (G.Tj.cons (by decide) MN.g MN.b MN.k (G.Tj.cons (by decide) MK.g MK.b MK.k (G.Tj.cons (by decide) MJ.g MJ.b MJ.k (G.Tj.cons (by decide) Hg.g Hg.b Hg.k (G.Tj.cons (by decide) My.g My.b My.k (G.Tj.cons (by decide) Mz.g Mz.b Mz.k (G.Tj.cons (by decide) Mx.g Mx.b Mx.k G.Tj.nil)))))))))) (hr.mono (by decide)) rfl (Or.inl rfl) G.HW (aa (pv 0) (aa (pv 1) au)))))),?_⟩
  obtain⟨z0,z1,rfl,q⟩:=h;exact Zyo tx q
theorem Zm{fd:FuncData}(F:jw K "_law_cell" "_law_cell" CJ gh fd):lA P w K mg base 1 gh fd pU (qO K):=by
 have sc:=Yy;walk_at "ok"
 ·refine⟨Ad K,(ao (cJ (oX Fy (pv 1) (cF G.cU (by rfl) T.kY G.boot_len (aa (pv 0) au))) (aA (aM (jU dj (pv 0) (pv 1)))) bB)
   (aA (aM (az)))),?_⟩
  obtain⟨z0,z1,rfl,q⟩:=h;exact Zay q
theorem Zj{fd:FuncData}(F:jw K "_law_draw" "_law_draw" Cz d7 fd):lA P w K mg base 1 d7 fd lK (ju):=by
 have sc:=Yw;walk_at "ok"
 ·refine⟨Ab,(aA (aM (aZ gn (aZ gn (aZ KQ (aZ gn (pv 0) (pv 1)) (az)) (pv 1)) (pv 2)))),?_⟩;obtain⟨z0,z1,z2,rfl,q⟩:=h;exact Zaw q
theorem Zb{fd:FuncData}(F:jw K "_law_word" "_law_word" Cm ir fd):lA P w K mg base 1 ir fd tG (qN):=by
 have sc:=Yo;walk_at "ok"
 ·refine⟨zX,(ao (fX 2 sc.nd (bH))
   (ao (fX 3 sc.nd (aZ lB (az) (aZ gn (pv 0) (az))))
   (ao (fX 4 sc.nd (aZ gn (aZ qx (pv 0) (az)) (pv 3)))
   (ao (fX 5 sc.nd (jU Zoh (pv 2) (aZ gn (aZ qx (pv 0) (az)) (az))))
   (ao (fX 6 sc.nd (jU Zoh (pv 2) (aZ gn (aZ lB (aZ qx (pv 0) (az)) (aZ KQ (az) (pv 1))) (az))))
   (aA (aM (aZ Q9 (aZ Q9 (aZ G.Zil (pv 5) (pv 4)) (pv 6)) (aZ G.Zil (pv 5) (aZ yh (aZ yh (pv 3) (az)) (pv 4))))))))))),?_⟩
  obtain⟨z0,z1,rfl,q⟩:=h;exact Zao q
theorem Ux{fd:FuncData}{mU fj qL:FuncData}(F:jw K "_law_hands" "_law_hands" zJ iW fd)(jP:Hh P w K mg base 1 gh mU pU (qO K))(bY:Hh P w K mg base 1 d7 fj lK (ju))(tO:Hh P w K mg base 1 ir qL tG (qN)):lA P w K mg base 2 iW fd Aq (Qa K):=by
 have sc:=Uc;walk_at "ok"
 ·refine⟨xT K (qO K) (ju) (qN),(ao (fX 1 sc.nd (gm jP hr T.mK (aa (pv 0) (aa (az) au))))
   (ao (fX 2 sc.nd (dg au))
   (ao (nH PassesOwn.never rfl (pQ rfl T.p6 (aa (aZ lB (az) (gm bY hr T.cX (aa (pv 1) (aa (az) (aa (az) au))))) au)) (gk (i:=3) sc.nd rfl (Or.inl rfl))
   (ao (fX 4 sc.nd (az))
   (ao (cJ (oX kZ (aZ gn (pv 1) (az)) (az)) (aA (fX 4 sc.nd (aZ lB (az) (gm bY hr T.cX (aa (aZ lB (pv 1) (aZ KQ (aZ KQ (az) (pv 3)) (pv 3))) (aa (az) (aa (az) au))))))) bB)
   (aA (qw (Fx PySem.F.plainAttrs_list PySem.F.slot_list_append PySem.F.type_list_append uJ (pv 2) (aa (cP (aa (gm tO hr T.wL (aa (pv 1) (aa (pv 3) au))) (aa (pv 4) au))) au)))))))
   (aA (aM (pv 2)))))),?_⟩
  obtain⟨z0,rfl,q⟩:=h;exact VN q
theorem Ze{fd:FuncData}{mU fj:FuncData}(F:jw K "_law_room" "_law_room" Cr jH fd)(jP:Hh P w K mg base 1 gh mU pU (qO K))(bY:Hh P w K mg base 1 d7 fj lK (ju)):lA P w K mg base 2 jH fd Dl (Zaz K):=by
 have sc:=Yr;walk_at "ok"
 ·refine⟨z6 (qO K) (ju),(ao (fX 1 sc.nd (gm jP hr T.mK (aa (pv 0) (aa (az) au))))
   (ao (cJ (oX kZ (gm bY hr T.cX (aa (pv 1) (aa (az) (aa (az) au)))) (az)) (aA (aM (aZ lB (az) (aZ gn (aZ qx (pv 1) (az)) (az))))) bB)
   (aA (aM (aZ yh (aZ Y4 (az) (az)) (aZ gn (pv 1) (aZ Y4 (az) (az)))))))),?_⟩
  obtain⟨z0,rfl,q⟩:=h;exact Zar q
theorem Zh{fd:FuncData}(F:jw K "_law_kind" "_law_kind" Cw jL fd){Mh:FuncData}(lE:Hh P w K mg base 1 dB Mh ue (tK XQ.K)):lA P w K mg base 3 jL fd Dp (P0 XQ):=by
 have sc:=Yu;walk_at "ok"
 ·refine⟨z9 XQ.E XQ.F XQ.K XQ.L (tK XQ.K),(ao (cJ (oX kZ (aZ gn (pv 0) (az)) (az)) (aA (aM (Ak T.Ep lE.g (hr.mono (by decide)) rfl T.Zy lE.b .nil G.fZ (aa (G.Ks T.WW rfl T.Zir) (aa (aZ gn (aZ qx (pv 0) (az)) (az)) au))))) bB)
   (ao (cJ (oX kZ (aZ gn (pv 0) (az)) (az)) (aA (aM (Ak T.Ep lE.g (hr.mono (by decide)) rfl T.Zy lE.b .nil G.fZ (aa (G.Ks T.Zcs rfl T.Zo3) (aa (aZ gn (aZ qx (pv 0) (az)) (az)) au))))) bB)
   (aA (aM (Ak T.Ep lE.g (hr.mono (by decide)) rfl T.Zy lE.b .nil G.fZ (aa (G.Ks T.Zcr rfl T.Znz) (aa (aZ gn (aZ qx (pv 0) (az)) (az)) au))))))),?_⟩
  obtain⟨z0,rfl,q⟩:=h;exact Zau q
theorem Zf{fd:FuncData}(F:jw K "_law_made" "_law_made" Cu jJ fd){fj:FuncData}(bY:Hh P w K mg base 1 d7 fj lK (ju)):lA P w K mg base 2 jJ fd Dm (PN):=by
 have sc:=Ys;walk_at "okw"
 ·refine⟨z7 K (ju),(Zqu (i:=3) sc.nd rfl (Or.inl rfl) (yN (az) (yN (az) (yN (az) (yN (az) (yN (az) (yN (az) Zrb)))))) (gm bY hr T.cX (aa (pv 0) (aa (az) (aa (az) au)))) (λ_ _=>rfl)
   (QZ (fX 4 sc.nd (az))
   (QZ (cJ (oX kZ (aZ gn (pv 0) (az)) (az)) (aA (fX 4 sc.nd (aZ gn (pv 0) (az)))) bB)
   (QZ (cJ (oX kZ (aZ gn (pv 0) (az)) (az)) (aA (fX 4 sc.nd (aZ gn (pv 0) (aZ lB (aZ Y4 (az) (az)) (az))))) bB)
   (Zqt (aM (cP (aa (bH) (aa (pv 1) (aa (pv 2) (aa (pv 3) (aa (pv 4) au)))))))))))),?_⟩
  obtain⟨z0,z1,z2,rfl,q⟩:=h;exact Zas q
theorem Zg{fd:FuncData}(F:jw K "_law_load" "_law_load" Cv jK fd):lA P w K mg base 1 jK fd Dn (PX):=by
 have sc:=Yt;walk_at "ok"
 ·refine⟨z8,(ao (fX 1 sc.nd (aZ gn (pv 0) (aZ Y4 (az) (az))))
   (ao (cJ (oX kZ (aZ gn (aZ qx (pv 0) (az)) (az)) (az)) (aA (aM (Zxg Zu0 (pv 1)))) bB)
   (aA (aM (pv 1))))),?_⟩
  obtain⟨z0,rfl,q⟩:=h;exact Zat q
theorem Zk{fd:FuncData}{fj Zae Zad qL:FuncData}(F:jw K "_law_deed" "_law_deed" CG jN fd)(bY:Hh P w K mg base 1 d7 fj lK (ju))(Zeh:Hh P w K mg base 1 jK Zae Dn (PX))(Zeg:Hh P w K mg base 2 jJ Zad Dm (PN))(tO:Hh P w K mg base 1 ir qL tG (qN)):lA P w K mg base 3 jN fd Ds (Qd K):=by
 have sc:=Yx;walk_at "ok"
 ·refine⟨Ac K (ju) (PX) (PN) (qN),(ao (fX 3 sc.nd (gm bY hr T.cX (aa (pv 0) (aa (az) (aa (cF G.cU (by rfl) T.kY G.boot_len (aa (pv 1) au)) au)))))
   (ao (fX 4 sc.nd (gm bY hr T.cX (aa (pv 0) (aa (az) (aa (jU bQ (jU dj (pv 1) (pv 3)) (az)) au)))))
   (ao (fX 5 sc.nd (gm bY hr T.cX (aa (pv 0) (aa (az) (aa (jU bQ (jU dj (pv 1) (pv 3)) (az)) au)))))
   (ao (fX 6 sc.nd (gm bY hr T.cX (aa (pv 0) (aa (az) (aa (jU dj (dg (aa (az) (aa (az) au))) (aZ qx (aZ gn (pv 0) (az)) (az))) au)))))
   (ao (fX 7 sc.nd (gm bY hr T.cX (aa (pv 0) (aa (az) (aa (az) au)))))
   (ao (cJ (oX Fy (pv 7) (az)) (aA (aM (gm Zeg hr T.Nr (aa (pv 0) (aa (pv 3) (aa (pv 4) au)))))) bB)
   (ao (cJ (oX Fy (pv 7) (az)) (aA (aM (cP (aa (bH) (aa (pv 3) (aa (pv 4) (aa (pv 5) (aa (pv 6) au)))))))) bB)
   (ao (cJ (oX Fy (pv 7) (az)) (aA (aM (cP (aa (bH) (aa (pv 3) (aa (pv 5) (aa (pv 6) (aa (pv 4) au)))))))) bB)
   (ao (cJ (oX kZ (pv 7) (az)) (aA (aM (cP (aa (bH) (aa (pv 3) (aa (pv 4) (aa (pv 5) au))))))) bB)
   (ao (cJ (oX kZ (pv 7) (az)) (aA (aM (cP (aa (bH) (aa (pv 3) (aa (pv 4) au)))))) bB)
   (ao (cJ (oX Fy (pv 7) (az)) (ao (fX 8 sc.nd (gm bY hr T.cX (aa (pv 0) (aa (az) (aa (cF G.cU (by rfl) T.kY G.boot_len (aa (pv 1) au)) au)))))
   (aA (aM (cP (aa (bH) (aa (pv 3) (aa (pv 4) (aa (pv 8) (aa (gm bY hr T.cX (aa (pv 0) (aa (az) (aa (jU bQ (jU dj (pv 1) (pv 8)) (az)) au)))) au))))))))) bB)
   (ao (cJ (oX kZ (pv 7) (az)) (aA (aM (cP (aa (bH) (aa (pv 3) (aa (pv 5) (aa (gm Zeh hr T.Nt (aa (pv 0) au)) au))))))) bB)
   (ao (fX 9 sc.nd (gm tO hr T.wL (aa (pv 2) (aa (gm bY hr T.cX (aa (pv 0) (aa (az) (aa (az) au)))) au))))
   (ao (cJ (oX Fy (pv 7) (az)) (aA (aM (cP (aa (bH) (aa (pv 3) (aa (pv 5) (aa (pv 9) au))))))) bB)
   (aA (aM (cP (aa (bH) (aa (pv 3) (aa (pv 4) (aa (pv 9) au))))))))))))))))))))),?_⟩
  obtain⟨z0,z1,z2,rfl,q⟩:=h;exact Zax q
theorem UG{fd:FuncData}{Zah fj:FuncData}(F:jw K "_law_deeds" "_law_deeds" zM je fd)(Zek:Hh P w K mg base 3 jN Zah Ds (Qd K))(bY:Hh P w K mg base 1 d7 fj lK (ju)):lA P w K mg base 4 je fd Aw (Eg K):=by
 have sc:=Ug;walk_at "ok"
 ·refine⟨xW K (Qd K) (ju),(ao (fX 3 sc.nd (gm Zek hr T.Nx (aa (pv 0) (aa (pv 1) (aa (pv 2) au)))))
   (ao (cJ (PW.pt (QX (oX kZ (jU bQ (pv 3) (az)) (bH)) (Pb (oX kZ (aZ gn (aZ qx (pv 0) (az)) (az)) (az))))) (aA (aM (dg (aa (pv 3) (aa (cP (aa (bH) (aa (jU bQ (pv 3) (az)) (aa (jU bQ (pv 3) (az)) au)))) au))))) bB)
   (ao (cJ (PW.pt (QX (oX kZ (jU bQ (pv 3) (az)) (bH)) (Pb (oX kZ (aZ gn (aZ qx (pv 0) (az)) (az)) (az))))) (aA (aM (dg (aa (pv 3) (aa (cP (aa (bH) (aa (jU bQ (pv 3) (az)) (aa (jU bQ (pv 3) (az)) (aa (jU bQ (pv 3) (az)) (aa (gm bY hr T.cX (aa (pv 0) (aa (az) (aa (az) au)))) au)))))) au))))) bB)
   (aA (aM (dg (aa (pv 3) au))))))),?_⟩
  obtain⟨z0,z1,z2,rfl,q⟩:=h;exact V0 q
theorem Uw{fd:FuncData}{fj qL:FuncData}(F:jw K "_law_start" "_law_start" zH iV fd)(bY:Hh P w K mg base 1 d7 fj lK (ju))(tO:Hh P w K mg base 1 ir qL tG (qN)):lA P w K mg base 2 iV fd Ao (JD K):=by
 have sc:=Ub;walk_at "ok"
 ·refine⟨xR K (ju) (qN),(ao (fX 3 sc.nd (dg au))
   (ao (nH PassesOwn.never rfl (pQ rfl T.p6 (aa (cF G.cU (by rfl) T.kY G.boot_len (aa (pv 0) au)) au)) (gk (i:=4) sc.nd rfl (Or.inl rfl))
   (ao (fX 3 sc.nd (aZ qy (pv 3) (dg (aa (cP (aa (bH) (aa (pv 4) (aa (az) (aa (az) (aa (az) au)))))) (aa (cP (aa (bH) (aa (pv 4) (aa (az) (aa (az) (aa (az) au)))))) au)))))
   (aA (fX 3 sc.nd (aZ qy (pv 3) (dg (aa (cP (aa (bH) (aa (pv 4) (aa (az) (aa (aZ gn (pv 4) (az)) (aa (az) au)))))) (aa (cP (aa (bH) (aa (pv 4) (aa (az) au)))) au))))))))
   (ao (fX 5 sc.nd (gm bY hr T.cX (aa (pv 1) (aa (az) (aa (az) au)))))
   (ao (cJ (oX Zim (pv 5) (az)) (aA (fX 3 sc.nd (aZ qy (pv 3) (G.M9 (cns:=[]) [] (pQ rfl T.p6 (aa (cF G.cU (by rfl) T.kY G.boot_len (aa (pv 0) au)) au)) (λ_ _ _ _ _=>G.Dg) (λ_ _ _ _ _=>(cP (aa (bH) (aa (pv 0) (aa (az) (aa (az) (aa (az) au))))))) rfl rfl (by repeat (first | exact trivial | refine⟨rfl,?_⟩)) (by repeat (first | exact trivial | refine⟨rfl,?_⟩)) rfl (by decide +kernel) rfl (by decide +kernel) (by decide +kernel) rfl (by decide +kernel))))) bB)
   (ao (fX 3 sc.nd (aZ qy (pv 3) (aZ Q8 (dg (aa (fY) au)) (aZ lB (az) (gm bY hr T.cX (aa (pv 1) (aa (az) (aa (az) au))))))))
   (ao (nH PassesOwn.never rfl (pQ rfl T.p6 (aa (cF G.cU (by rfl) T.kY G.boot_len (aa (pv 0) au)) au)) (gk (i:=4) sc.nd rfl (Or.inl rfl))
   (ao (cJ (oX kZ (pv 5) (az)) (aA (fX 3 sc.nd (aZ qy (pv 3) (dg (aa (cP (aa (bH) (aa (pv 4) (aa (az) (aa (az) (aa (aZ gn (pv 4) (az)) au)))))) (aa (cP (aa (bH) (aa (pv 4) (aa (az) (aa (aZ gn (pv 4) (az)) (aa (az) au)))))) au)))))) bB)
   (ao (cJ (oX Zim (pv 5) (az)) (aA (fX 3 sc.nd (aZ qy (pv 3) (dg (aa (cP (aa (bH) (aa (pv 4) (aa (az) (aa (az) (aa (az) au)))))) (aa (cP (aa (bH) (aa (pv 4) (aa (az) (aa (az) (aa (az) au)))))) (aa (cP (aa (bH) (aa (pv 4) (aa (az) au)))) au))))))) bB)
   (aA (cJ (oX kZ (pv 5) (az)) (aA (fX 3 sc.nd (aZ qy (pv 3) (dg (aa (cP (aa (bH) (aa (pv 4) (aa (az) (aa (gm tO hr T.wL (aa (pv 2) (aa (aZ gn (pv 4) (az)) au))) au))))) (aa (cP (aa (bH) (aa (pv 4) (aa (az) au)))) au)))))) bB)))))
   (aA (aM (pv 3))))))))),?_⟩
  obtain⟨z0,z1,z2,rfl,q⟩:=h;exact VM q
theorem Zd{fd:FuncData}{mU VD fj Vx:FuncData}(F:jw K "_law_rows" "_law_rows" Cq jG fd)(jP:Hh P w K mg base 1 gh mU pU (qO K))(Zbf:Hh P w K mg base 4 je VD Aw (Eg K))(bY:Hh P w K mg base 1 d7 fj lK (ju))(Zbb:Hh P w K mg base 2 iV Vx Ao (JD K)):lA P w K mg base 5 jG fd Dk (PK K):=by
 have sc:=Yq;walk_at "ok"
 ·refine⟨zZ K (qO K) (Eg K) (ju) (JD K),(ao (fX 2 sc.nd (dg au))
   (ao (cJ (oX Zim (gm bY hr T.cX (aa (gm jP hr T.mK (aa (pv 0) (aa (az) au))) (aa (az) (aa (az) au)))) (az)) (aA (fX 2 sc.nd (gm Zbb hr T.Iw (aa (pv 1) (aa (gm jP hr T.mK (aa (pv 0) (aa (az) au))) (aa (gm jP hr T.mK (aa (pv 0) (aa (az) au))) au)))))) bB)
   (ao (fX 3 sc.nd (gm jP hr T.mK (aa (pv 0) (aa (az) au))))
   (ao (fX 4 sc.nd (az))
   (ao (nH PassesOwn.never rfl (lH (Q4 Zq8 (pv 0) (Ph (az)) (Ph (az)))) (gk (i:=5) sc.nd rfl (Or.inl rfl))
   (ao (fX 6 sc.nd (aZ lB (pv 5) (aZ KQ (aZ KQ (pv 4) (pv 4)) (az))))
   (ao (cJ (oX kZ (gm bY hr T.cX (aa (pv 6) (aa (az) (aa (az) au)))) (az)) (aA (fX 2 sc.nd (aZ qy (pv 2) (aZ Q8 (dg (aa (fY) au)) (aZ lB (az) (gm bY hr T.cX (aa (pv 6) (aa (az) (aa (az) au))))))))) (aA (fX 2 sc.nd (aZ qy (pv 2) (gm Zbf hr T.IW (aa (pv 6) (aa (pv 1) (aa (pv 3) au))))))))
   (aA (Zup (i:=4) sc.nd rfl (Or.inl rfl) (az) Zvl)))))
   (aA (aM (aZ qy (pv 2) (aZ Q8 (dg (aa (fY) au)) (aZ lB (az) (gm bY hr T.cX (aa (pv 3) (aa (az) (aa (az) au)))))))))))))),?_⟩
  obtain⟨z0,z1,rfl,q⟩:=h;exact Zaq q
theorem Rj{fd:FuncData}(F:jw K "_law_number" "_law_number" xG fP fd):lA P w K mg base 1 fP fd sG (vD):=by
 have sc:=QB;walk_at "ok"
 ·refine⟨uZ,(aA (aM ((Zn9 (cF G.vA (by rfl) T.iK G.boot_isinstance (aa (pv 0) (aa (Am rfl T.Zib G.boot_int rfl) au))) (Zn2 (Zn3 (cF G.vA (by rfl) T.iK G.boot_isinstance (aa (pv 0) (aa (Am rfl T.Xy G.boot_bool rfl) au))))))))),?_⟩;obtain⟨z0,rfl,q⟩:=h;exact S5 q
theorem Uz{fd:FuncData}(F:jw K "_law_event" "_law_event" zL iZ fd){vo:FuncData}(sX:Hh P w K mg base 1 fP vo sG (vD)):lA P w K mg base 2 iZ fd Av (JF K):=by
 have sc:=Ue;walk_at "ok"
 ·refine⟨xV K (vD),(ao (cJ (PW.pt (sY (nT (jr (cF G.vA (by rfl) T.iK G.boot_isinstance (aa (pv 0) (aa (Am rfl T.Hj G.boot_tuple rfl) au))))) (sY (oX Nb (cF G.cU (by rfl) T.kY G.boot_len (aa (pv 0) au)) (az)) (qu (nT (jr (cF G.vA (by rfl) T.iK G.boot_isinstance (aa (jU bQ (pv 0) (az)) (aa (Am rfl T.Zia G.boot_str rfl) au))))))))) (aA (aM (tD))) bB)
   (ao (cJ (PW.pt (sY (nT (jr (gm sX hr T.sS (aa (jU bQ (pv 0) (az)) au)))) (qu (nT (jr (cF G.vA (by rfl) T.iK G.boot_isinstance (aa (jU bQ (pv 0) (az)) (aa (Am rfl T.uL G.boot_list rfl) au)))))))) (aA (aM (tD))) bB)
   (ao (nH PassesOwn.never rfl (lH (jU bQ (pv 0) (az))) (gk (i:=2) sc.nd rfl (Or.inl rfl))
   (aA (cJ (nT (jr (gm sX hr T.sS (aa (pv 2) au)))) (aA (aM (tD))) bB)))
   (aA (aM (Em (G.Zuu hr.units) (pv 0) (pv 1) (K6 _))))))),?_⟩
  obtain⟨z0,z1,rfl,q⟩:=h;exact VR q
theorem Zi{fd:FuncData}(F:jw K "_law_hand" "_law_hand" Cy jM fd){Zyk:FuncData}(Zx2:Hh P w K mg base 5 VG Zyk Zuq (cj XQ (BK bR aK aR bA) (λ_=>True))):lA P w K mg base 6 jM fd Dr (Qc XQ (BK bR aK aR bA)):=by
 have sc:=Yv;walk_at "ok"
 ·refine⟨Aa aK bR aR bA (cj XQ (BK bR aK aR bA) (λ_=>True)),(ao (fX 2 sc.nd (fY))
   (ao (G.Zuo ⟨rfl,rfl⟩ rfl T.Ny (λcls h=>by rcases h with rfl | rfl | rfl | rfl<;>first | exact T.kO | exact T.lZ | exact T.oM | exact T.mV) (λEx pn xe hx=>(aA (fX 2 sc.nd (G.Zn8 Zx2.g (hr.mono (by decide)) rfl T.Zxn Zx2.k Zx2.b .nil hx (aa (pv 0) (aa (pv 1) au)))))) (λea pn=>(aA (fX 2 sc.nd (fY)))))
   (aA (aM (pv 2))))),?_⟩
  obtain⟨z0,z1,rfl,q⟩:=h;exact Zav rfl rfl rfl rfl q
theorem Uy{fd:FuncData}(F:jw K "_law_first" "_law_first" zK iY fd):lA P w K mg base 1 iY fd Ar (Ef K):=by
 have sc:=Ud;walk_at "ok"
 ·refine⟨xU K,(ao (fX 2 sc.nd (dg au))
   (ao (nH PassesOwn.never rfl (pQ rfl T.p6 (aa (cF G.cU (by rfl) T.kY G.boot_len (aa (pv 0) au)) au)) (gk (i:=3) sc.nd rfl (Or.inl rfl))
   (aA (nH PassesOwn.never rfl (lH (jU dj (pv 0) (pv 3))) (gk (i:=4) sc.nd rfl (Or.inl rfl))
   (aA (cJ (PW.pt (QX (oX kZ (aZ KR (aZ Y0 (pv 1) (pv 3)) (az)) (az)) (QX (oX G.yO (pv 4) (fY)) (Pb (oX Y5 (pv 4) (pv 2) (by with_unfolding_all rfl)))))) (aA (qw (Fx PySem.F.plainAttrs_list PySem.F.slot_list_append PySem.F.type_list_append uJ (pv 2) (aa (pv 4) au)))) bB)))))
   (aA (aM (pv 2))))),?_⟩
  obtain⟨z0,z1,rfl,q⟩:=h;exact VP q
theorem Rk{fd:FuncData}(F:jw K "_law_marked" "_law_marked" xH gF fd):lA P w K mg base 1 gF fd yg (rW K):=by
 have sc:=QC;walk_at "ok"
 ·refine⟨u5 K,(ao (cJ (PW.pt (sY (nT (jr (cF G.vA (by rfl) T.iK G.boot_isinstance (aa (pv 0) (aa (Am rfl T.uL G.boot_list rfl) au))))) (qu (oX Nb (cF G.cU (by rfl) T.kY G.boot_len (aa (pv 0) au)) (cF G.cU (by rfl) T.kY G.boot_len (aa (pv 1) au)))))) (aA (aM (tD))) bB)
   (ao (nH PassesOwn.never rfl (pQ rfl T.p6 (aa (cF G.cU (by rfl) T.kY G.boot_len (aa (pv 1) au)) au)) (gk (i:=3) sc.nd rfl (Or.inl rfl))
   (ao (cJ (PW.pt (sY (nT (jr (cF G.vA (by rfl) T.iK G.boot_isinstance (aa (jU dj (pv 0) (pv 3)) (aa (Am rfl T.Hj G.boot_tuple rfl) au))))) (qu (oX Nb (cF G.cU (by rfl) T.kY G.boot_len (aa (jU dj (pv 0) (pv 3)) au)) (az))))) (aA (aM (tD))) bB)
   (aA (cJ (PW.pt (sY (oX (G.Znb hr.units) (Q4 Zmd (jU dj (pv 0) (pv 3)) Zik (Ph (az))) (Q4 Zmd (jU dj (pv 1) (pv 3)) Zik (Ph (az)))) (qu (oX Nb (jU bQ (jU dj (pv 0) (pv 3)) (az)) (pdg hr (pv 2) (jU bQ (jU dj (pv 1) (pv 3)) (az))))))) (aA (aM (tD))) bB))))
   (aA (aM (tD))))),?_⟩
  obtain⟨z0,z1,z2,rfl,q⟩:=h;exact S6 q
theorem Ri{fd:FuncData}(F:jw K "_law_places" "_law_places" xF gD fd):lA P w K mg base 1 gD fd yf (rT K):=by
 have sc:=Qz;walk_at "ok"
 ·refine⟨uY K,(ao (YS (i:=2) sc.nd rfl (Or.inr rfl) (HS))
   (ao (nH PassesOwn.never rfl (lH (pv 0)) (gk (i:=3) sc.nd rfl (Or.inl rfl))
   (aA (HQ (Bu hr) (pv 2) (jU bQ (pv 3) (az)) (jU bQ (pv 3) (az)) rfl)))
   (aA (aM (G.M9 (cns:=["_law_at"]) [2] (lH (pv 1)) (λ_ _ _ _ _=>G.Dg) (λ_ _ _ _ _=>(pdg hr (pv 1) (pv 0))) rfl rfl (by repeat (first | exact trivial | refine⟨rfl,?_⟩)) (by repeat (first | exact trivial | refine⟨rfl,?_⟩)) rfl (by decide +kernel) rfl (by decide +kernel) (by decide +kernel) rfl (by decide +kernel)))))),?_⟩
  obtain⟨z0,z1,rfl,q⟩:=h;exact SX q
theorem Uv{fd:FuncData}(F:jw K "_law_state" "_law_state" zG iU fd){vo:FuncData}(sX:Hh P w K mg base 1 fP vo sG (vD)):lA P w K mg base 2 iU fd An (vC XQ):=by
 have sc:=Ua;have tx:=o8 _ T;walk_at "ok"
 ·refine⟨xQ K (vD),(ao (fX 1 sc.nd (dg (aa (aJ (pv 0) rfl) (aa (aJ (pv 0) rfl) (aa (aJ (pv 0) rfl) au)))))
   (ao (fX 1 sc.nd (aZ qy (pv 1) (dg (aa (aJ (pv 0) rfl) (aa (aJ (pv 0) rfl) (aa (aJ (pv 0) rfl) (aa (aJ (pv 0) rfl) (aa (aJ (pv 0) rfl) au))))))))
   (ao (nH PassesOwn.never rfl (lH (aZ qy (pv 1) (aJ (pv 0) rfl))) (gk (i:=2) sc.nd rfl (Or.inl rfl))
   (aA (cJ (nT (jr (gm sX hr T.sS (aa (pv 2) au)))) (aA (aM (dg au))) bB)))
   (aA (aM (pv 1)))))),?_⟩
  obtain⟨z0,rfl,q⟩:=h;exact VL tx q
theorem Zc{fd:FuncData}{VB Vz Su Ss Vw Sq Zsy Vs:FuncData}(F:jw K "_law_step" "_law_step" Cp jF fd)(Zbe:Hh P w K mg base 2 iZ VB Av (JF K))(Zbd:Hh P w K mg base 1 iY Vz Ar (Ef K))(V6:Hh P w K mg base 1 gF Su yg (rW K))(V5:Hh P w K mg base 1 gD Ss yf (rT K))(Zba:Hh P w K mg base 2 iU Vw An (vC XQ))(Ge:Hh P w K mg base 4 gC Sq ["world"] (vG XQ))(Zpx:Hh P w K mg base 9 yz Zsy ["world"] (bU XQ Zk4))(JH:Hh P w K mg base 5 iM Vs ["world"] (GX XQ)):lA P w K mg base 10 jF fd Dj (PJ XQ):=by
 have sc:=Yp;have tx:=o8 _ T;walk_at "ok"
 ·refine⟨zY K (JF K) (Ef K) (rW K) (rT K) (vC XQ) (vG XQ) (bU XQ Zk4) (GX XQ),(ao (fX 2 sc.nd (aJ (pv 0) rfl))
   (ao (cJ (oX Nb (aJ (pv 2) rfl) (bH)) (ao (qw (gm Zpx hr T.Zgs (aa (pv 0) au)))
   (aA (aM (tD)))) bB)
   (ao (fX 3 sc.nd (gm JH hr T.Bb (aa (pv 0) au)))
   (ao (fX 4 sc.nd (gm Ge hr T.yp (aa (pv 0) au)))
   (ao (fX 5 sc.nd (az))
   (ao (cJ (oX kZ (pv 1) (az)) (aA (fX 5 sc.nd (aZ yh (aZ Zg7 (az) (cF G.cU (by rfl) T.kY G.boot_len (aa (pv 4) au))) (az)))) bB)
   (ao (fX 6 sc.nd (gm Zbd hr T.IK (aa (pv 4) (aa (pv 5) au))))
   (ao (fX 7 sc.nd (dg (aa (aZ yh (az) (aJ (pv 2) rfl)) (aa (aZ lB (aJ (pv 2) rfl) (az)) (aa (pv 5) (aa (az) (aa (az) (aa (az) (aa (aJ (pv 2) rfl) (aa (aJ (pv 2) rfl) au))))))))))
   (ao (cJ (nT (jr (gm Zbe hr T.IV (aa (gm Zpx hr T.Zgs (aa (pv 0) au)) (aa (cP (aa (bH) (aa (jU dj (pv 7) (az)) (aa (uH G.Bj (by rfl) T.uL G.boot_list (aa (pv 6) au)) au)))) au))))) (aA (aM (tD))) bB)
   (ao (fX 8 sc.nd (HS))
   (ao (nH PassesOwn.never rfl (lH (pv 3)) (gk (i:=9) sc.nd rfl (Or.inl rfl))
   (aA (HQ (Bu hr) (pv 8) (jU bQ (pv 9) (az)) (bH) rfl)))
   (ao (nH PassesOwn.never rfl (lH (pv 6)) (gk (i:=10) sc.nd rfl (Or.inl rfl))
   (aA (HQ (Bu hr) (pv 8) (pv 10) (bH) rfl)))
   (ao (cJ (PW.pt (sY (nT (jr (gm V6 hr T.FQ (aa (gm JH hr T.Bb (aa (pv 0) au)) (aa (pv 3) (aa (pv 8) au)))))) (qu (oX (G.Znb hr.units) (gm Ge hr T.yp (aa (pv 0) au)) (pv 4))))) (aA (aM (tD))) bB)
   (ao (cJ (PW.pt (sY (oX Nb (aJ (pv 2) rfl) (bH)) (qu (oX (G.Zus (Bu hr)) (gm Zba hr T.Iv (aa (pv 2) au)) (pv 7))))) (aA (aM (tD))) bB)
   (aA (aM (Em (G.Zuv (Bu hr)) (aJ (pv 2) rfl) (gm V5 hr T.FP (aa (pv 3) (aa (pv 6) au))) (K6 _)))))))))))))))))),?_⟩
  obtain⟨z0,z1,rfl,q⟩:=h;exact Zap tx q
theorem Zuw{fl:Addr}{fd:FuncData}{Jq mU Zag Vy Zaf Zac Zab Zaa:FuncData}(F:jw K "law" "law" QG fl fd)(yX:Hh P w K mg base 3 di Jq rH (uE XQ))(jP:Hh P w K mg base 1 gh mU pU (qO K))(Zej:Hh P w K mg base 6 jM Zag Dr (Qc XQ (BK bR aK aR bA)))(Zbc:Hh P w K mg base 2 iW Vy Aq (Qa K))(Zei:Hh P w K mg base 3 jL Zaf Dp (P0 XQ))(Zef:Hh P w K mg base 2 jH Zac Dl (Zaz K))(Zee:Hh P w K mg base 5 jG Zab Dk (PK K))(Zed:Hh P w K mg base 10 jF Zaa Dj (PJ XQ)):lA P w K mg base 11 fl fd ["_law_script"] (Zjd K):=by
 have sc:=Zug;have tx:=o8 _ T;walk_at "ok"
 ·refine⟨Zfu K XQ.W (uE XQ) (qO K) (Qc XQ (BK bR aK aR bA)) (Qa K) (P0 XQ) (Zaz K) (PK K) (PJ XQ),(ao (fX 1 sc.nd (aZ gn (gm jP hr T.mK (aa (pv 0) (aa (az) au))) (az)))
   (ao (fX 2 sc.nd (gm Zbc hr T.Iz (aa (pv 0) au)))
   (ao (fX 3 sc.nd (Ak T.Ii yX.g (hr.mono (by decide)) rfl T.Ziq yX.b .nil G.fZ (aa (gm Zef hr T.Nq (aa (pv 0) au)) (aa (gm Zei hr T.Nu (aa (pv 1) au)) (aa (uH G.Bj (by rfl) T.uL G.boot_list (aa (pv 2) au)) au)))))
   (ao (nH PassesOwn.never rfl (lH (gm Zee hr T.Np (aa (pv 0) (aa (pv 2) au)))) (gk (i:=4) sc.nd rfl (Or.inl rfl))
   (ao (cJ (oX kZ (aJ (aJ (pv 3) rfl) rfl) (bH)) (aA (aM (tD))) bB)
   (aA (cJ (oX G.yO (pv 4) (fY)) (aA (qw (gm Zej hr T.Nv (aa (pv 3) (aa (pv 4) au))))) (aA (cJ (nT (jr (gm Zed hr T.Nm (aa (pv 3) (aa (aZ gn (pv 1) (az)) au))))) (aA (aM (tD))) bB))))))
   (aA (aM (tD))))))),?_⟩
  obtain⟨z0,rfl,q⟩:=h;exact Zvc tx q
end
abbrev Fi(K:aB)(c:Addr)(s:Str)(f:Addr):Prop:=PySem.W.findIn K (.ref c) s=some (some (.ref f))
abbrev Fo(K:aB)(c:Addr)(s:Str):Prop:=PySem.W.findIn K (.ref c) s=some none
abbrev Ns(K:aB)(s:Str)(f:Addr):Prop:=PySem.W.nsIn K mainGlobals s=some (some (.ref f))
abbrev Ki(K:aB)(f:Addr):Prop:=PySem.W.keepIn K (.ref f)=true
abbrev Ci(K:aB)(c:Value)(s:Str):Prop:=PySem.W.codeIn K c s=true
abbrev Lk(K:aB)(f:Addr)(a b:Str)(s:Stmt)(d:Value)(oc:Value)(od:Option Addr)(kV dc pm:Value)(an:Option Addr)(cd ct:Value)(sl:Array (Option Value)):Prop:=K.lookup f=some ⟨oc,od,.func (PySem.W.fnOf a b (nM s) (kW s) (aF s) d kV dc pm an cd ct),sl⟩
def lq(K:aB)(x q:Str)(s:Stmt)(f:Addr):Prop:=∃oc od kV dc pm an cd ct sl,Lk K f x q s .none oc od kV dc pm an cd ct sl/\Ci K cd q/\Ki K f
theorem fgm{K:aB}{x q:Str}{s:Stmt}{f:Addr}{oc:Value}{od:Option Addr}{kV dc pm:Value}{an:Option Addr}{cd ct:Value}{sl:Array (Option Value)}(l:Lk K f x q s .none oc od kV dc pm an cd ct sl)(c:Ci K cd q)(k:Ki K f):lq K x q s f:=⟨oc,od,kV,dc,pm,an,cd,ct,sl,l,c,k⟩
theorem fg{K:aB}{x q:Str}{s:Stmt}{f:Addr}(h:lq K x q s f):∃fd,jw K x q s f fd/\Ki K f:=by
 obtain⟨oc,od,kV,dc,pm,an,cd,ct,sl,l,c,k⟩:=h;exact⟨_,Zp7 l c k,k⟩
theorem Gd{K:aB}{x qual:Str}{st:Stmt}{f:Addr}{fd:FuncData}(F:jw K x qual st f fd)(a0:Str)(h:∀(kV doc pm:Value) (an:Option Addr) (cdv ct u0:Value),bindArgs (PySem.W.fnOf x qual (nM st) (kW st) (aF st) .none kV doc pm an cdv ct) ⟨[u0],[]⟩=pure (([a0]:List Str).zip [u0]):=by intros;rfl):Binds K fd [a0] []:=F.binds λkV doc pm an cdv ct us hl=>match us,hl with | [u0],_=>h kV doc pm an cdv ct u0
theorem Bl{K:aB}{x qual:Str}{st:Stmt}{f:Addr}{fd:FuncData}(F:jw K x qual st f fd)(a0 a1:Str)(h:∀(kV doc pm:Value) (an:Option Addr) (cdv ct u0 u1:Value),bindArgs (PySem.W.fnOf x qual (nM st) (kW st) (aF st) .none kV doc pm an cdv ct) ⟨[u0,u1],[]⟩=pure (([a0,a1]:List Str).zip [u0,u1]):=by intros;rfl):Binds K fd [a0,a1] []:=F.binds λkV doc pm an cdv ct us hl=>match us,hl with | [u0,u1],_=>h kV doc pm an cdv ct u0 u1
theorem bd3{K:aB}{x qual:Str}{st:Stmt}{f:Addr}{fd:FuncData}(F:jw K x qual st f fd)(a0 a1 a2:Str)(h:∀(kV doc pm:Value) (an:Option Addr) (cdv ct u0 u1 u2:Value),bindArgs (PySem.W.fnOf x qual (nM st) (kW st) (aF st) .none kV doc pm an cdv ct) ⟨[u0,u1,u2],[]⟩=pure (([a0,a1,a2]:List Str).zip [u0,u1,u2]):=by intros;rfl):Binds K fd [a0,a1,a2] []:=F.binds λkV doc pm an cdv ct us hl=>match us,hl with | [u0,u1,u2],_=>h kV doc pm an cdv ct u0 u1 u2
theorem bd4{K:aB}{x qual:Str}{st:Stmt}{f:Addr}{fd:FuncData}(F:jw K x qual st f fd)(a0 a1 a2 a3:Str)(h:∀(kV doc pm:Value) (an:Option Addr) (cdv ct u0 u1 u2 u3:Value),bindArgs (PySem.W.fnOf x qual (nM st) (kW st) (aF st) .none kV doc pm an cdv ct) ⟨[u0,u1,u2,u3],[]⟩=pure (([a0,a1,a2,a3]:List Str).zip [u0,u1,u2,u3]):=by intros;rfl):Binds K fd [a0,a1,a2,a3] []:=F.binds λkV doc pm an cdv ct us hl=>match us,hl with | [u0,u1,u2,u3],_=>h kV doc pm an cdv ct u0 u1 u2 u3
theorem bd5{K:aB}{x qual:Str}{st:Stmt}{f:Addr}{fd:FuncData}(F:jw K x qual st f fd)(a0 a1 a2 a3 a4:Str)(h:∀(kV doc pm:Value) (an:Option Addr) (cdv ct u0 u1 u2 u3 u4:Value),bindArgs (PySem.W.fnOf x qual (nM st) (kW st) (aF st) .none kV doc pm an cdv ct) ⟨[u0,u1,u2,u3,u4],[]⟩=pure (([a0,a1,a2,a3,a4]:List Str).zip [u0,u1,u2,u3,u4]):=by intros;rfl):Binds K fd [a0,a1,a2,a3,a4] []:=F.binds λkV doc pm an cdv ct us hl=>match us,hl with | [u0,u1,u2,u3,u4],_=>h kV doc pm an cdv ct u0 u1 u2 u3 u4
theorem all_mk{l:PySem.W.OpenLaw}{w:World}{K:aB}{h:Heap}{mg:Str->Option Value}{fa fl bz bh lW bJ fu dN fB gq kJ fK aK aR bR bA dG fW dM dD iu kh jl jk fV iI eU nF o5 dF cG di yD gC ig jE dZ iR nG iM jD sV yC gJ vp sU nD gH cT cQ yx gB Ga iT lV gG cR iQ FZ bV yz nY bN bW cH dI dJ dH gK dB d8 jR jj gw fO gR jz jx gY gW gU fD gP gQ gO gA VG gh d7 ir iW jH jL jJ jK jN je iV jG fP iZ jM iY gF gD iU jF:Addr}(KI:K.In h)(GN:h.Ns mainGlobals mg)(hfa:mg "law"=some (.ref fa))
  {od5 an5 to5 Zz5 Zyv:Option Addr}
  {sl5 ts5 Zz4:Array (Option Value)}
  {oc5 kV5 dc5 pm5 cd5 ct5 tc5 Zpi Zj1 Zz6 Zxs Zyq Zxe Zwp Zys Ztk Ztj:Value}
  {td5 Sv Sx:Addr}
  {tn5 Zdp Zdq:Nat}
  {Xc Xb Xa W9 Xm Xl Xk Xj Xi Xh Xg Xf Xe Xd:Int}
  {Wh Wg Wf We Wt Ws Wr Wq Wo Wn Wl Wk Wj Wi:Tok}
  (Zwx:Ns K "Cell" bz)
  (Zwt:Ns K "Heap" bh)
  (Zwu:Ns K "Hand" lW)
  (Zlq:Ns K "Sweeper" bJ)
  (Zta:Ns K "World" fu)
  (Ztb:Ns K "First" dN)
  (Zww:Ns K "Each" fB)
  (Zwr:Ns K "Last" gq)
  (Zws:Ns K "Kind" kJ)
  (Ze5:Ns K "GreyError" fK)
  (Ze6:Ns K "EmptySlot" aK)
  (Zlr:Ns K "NoField" aR)
  (Zwv:Ns K "Full" bR)
  (Zpu:Ns K "NoName" bA)
  (a1:Fi K bz "__init__" dG)
  (i1:PySem.W.isFn K (.ref dG)=true)
  (a2:Fi K bz "units" fW)
  (i2:PySem.W.isFn K (.ref fW)=true)
  (a3:Fi K bz "has_field" dM)
  (i3:PySem.W.isFn K (.ref dM)=true)
  (a4:Fi K bh "__init__" dD)
  (i4:PySem.W.isFn K (.ref dD)=true)
  (a5:Fi K bh "make" iu)
  (i5:PySem.W.isFn K (.ref iu)=true)
  (l5:Lk K iu "make" "Heap.make" wg (.ref td5) oc5 od5 kV5 dc5 pm5 an5 cd5 ct5 sl5)
  (t5:K.lookup td5=some ⟨tc5,to5,.seq #[Zpi,Zj1] tn5,ts5⟩)
  (ZHu:RelV (.int 0) Zpi)
  (ZHt:RelV (.int 0) Zj1)
  (c5:Ci K cd5 "Heap.make")
  (k5:Ki K iu)
  (a6:Fi K bh "lay" kh)
  (i6:PySem.W.isFn K (.ref kh)=true)
  (a7:Fi K bh "back" jl)
  (i7:PySem.W.isFn K (.ref jl)=true)
  (a8:Fi K bh "free" jk)
  (i8:PySem.W.isFn K (.ref jk)=true)
  (a9:Fi K bh "there" fV)
  (i9:PySem.W.isFn K (.ref fV)=true)
  (a10:Ns K "cell_at" iI)
  (a11:Ns K "birth_at" eU)
  (a12:Ns K "reached" nF)
  (a13:Ns K "onward" o5)
  (a14:Fi K lW "__init__" dF)
  (i14:PySem.W.isFn K (.ref dF)=true)
  (a15:Fi K bJ "__init__" cG)
  (i15:PySem.W.isFn K (.ref cG)=true)
  (a16:Fi K fu "__init__" di)
  (i16:PySem.W.isFn K (.ref di)=true)
  (a17:Ns K "held" yD)
  (a18:Ns K "births_held" gC)
  (a19:Ns K "births_at" ig)
  (a20:Ns K "looked_at" jE)
  (a21:Ns K "has_sense" dZ)
  (a22:Ns K "is_walking" iR)
  (a23:Ns K "mark_of" nG)
  (a24:Ns K "told_cells" iM)
  (a25:Ns K "told_cell" jD)
  (a26:Ns K "begin" sV)
  (a27:Ns K "note" yC)
  (a28:Ns K "note_all" gJ)
  (a29:Ns K "gone" vp)
  (a30:Ns K "roots" sU)
  (a31:Ns K "root_of" nD)
  (a32:Ns K "note_hands" gH)
  (a33:Ns K "step_at_rest" cT)
  (a34:Ns K "step_in_walk" cQ)
  (a35:Ns K "walk" yx)
  (a36:Ns K "look_or_cut" gB)
  (a37:Ns K "cut" Ga)
  (a38:Ns K "first_loss" iT)
  (a39:Ns K "given_up" lV)
  (a40:Ns K "told_again" gG)
  (a41:Ns K "step_in_give" cR)
  (a42:Ns K "pass_place" iQ)
  (a43:Ns K "end" FZ)
  (a44:Ns K "step_when_lost" bV)
  (a45:Ns K "step" yz)
  (a46:Ns K "all_of" nY)
  (a47:Fi K fB "at_begin" bN)
  (i47:PySem.W.isFn K (.ref bN)=true)
  (a48:Fi K dN "next_look" bW)
  (i48:PySem.W.isFn K (.ref bW)=true)
  (a49:Fi K fB "stays" cH)
  (i49:PySem.W.isFn K (.ref cH)=true)
  (a50:Fi K dN "at_begin" dI)
  (i50:PySem.W.isFn K (.ref dI)=true)
  (a51:Fi K fB "next_look" dJ)
  (i51:PySem.W.isFn K (.ref dJ)=true)
  (a52:Fi K gq "next_look" dH)
  (i52:PySem.W.isFn K (.ref dH)=true)
  (a53:Fi K gq "stays" gK)
  (i53:PySem.W.isFn K (.ref gK)=true)
  (a54:Fi K kJ "__init__" dB)
  (i54:PySem.W.isFn K (.ref dB)=true)
  (a55:Ns K "slots_of" d8)
  (a56:Ns K "cell_in" jR)
  (a57:Ns K "fields_in" jj)
  (a58:Ns K "told_as_old" gw)
  (a59:Ns K "told_as_new" fO)
  (a60:Ns K "do_make" gR)
  (a61:Ns K "do_get" jz)
  (a62:Ns K "do_put" jx)
  (a63:Ns K "do_copy" gY)
  (a64:Ns K "do_drop" gW)
  (a65:Ns K "do_give" gU)
  (a66:Ns K "do_write" fD)
  (a67:Ns K "do_read" gP)
  (a68:Ns K "do_name" gQ)
  (a69:Ns K "do_seek" gO)
  (a70:Ns K "place_named" gA)
  (a71:Ns K "do" VG)
  (a72:Ns K "_law_cell" gh)
  (a73:Ns K "_law_draw" d7)
  (a74:Ns K "_law_word" ir)
  (a75:Ns K "_law_hands" iW)
  (a76:Ns K "_law_room" jH)
  (a77:Ns K "_law_kind" jL)
  (a78:Ns K "_law_made" jJ)
  (a79:Ns K "_law_load" jK)
  (a80:Ns K "_law_deed" jN)
  (a81:Ns K "_law_deeds" je)
  (a82:Ns K "_law_start" iV)
  (a83:Ns K "_law_rows" jG)
  (a84:Ns K "_law_number" fP)
  (a85:Ns K "_law_event" iZ)
  (a86:Ns K "_law_hand" jM)
  (a87:Ns K "_law_first" iY)
  (a88:Ns K "_law_marked" gF)
  (a89:Ns K "_law_places" gD)
  (a90:Ns K "_law_state" iU)
  (a91:Ns K "_law_step" jF)
  (a92:Ns K "law" fl)
  (l92:Lk K fl "law" "law" QG .none Zz6 Zz5 Zxs Zyq Zxe Zyv Zwp Zys Zz4)
  (c92:Ci K Zwp "law")
  (k92:Ki K fl)
  (Zno:Ns K "STEPS" Sv)
  (Zo8:K.lookup Sv=some ⟨.type "dict",none,.dict #[⟨Xc,.str "rest" Wh,.ref cT⟩,⟨Xb,.str "walk" Wg,.ref cQ⟩,⟨Xa,.str "give" Wf,.ref cR⟩,⟨W9,.str "lost" We,.ref bV⟩] Zdp,#[]⟩)
  (Zkx:Xc=hashStr w "rest")
  (Zkw:Xb=hashStr w "walk")
  (Zkv:Xa=hashStr w "give")
  (Zku:W9=hashStr w "lost")
  (Znp:Ns K "DEEDS" Sx)
  (Zo9:K.lookup Sx=some ⟨.type "dict",none,.dict #[⟨Xm,.str "make" Wt,.ref gR⟩,⟨Xl,.str "get" Ws,.ref jz⟩,⟨Xk,.str "put" Wr,.ref jx⟩,⟨Xj,.str "copy" Wq,.ref gY⟩,⟨Xi,.str "drop" Wo,.ref gW⟩,⟨Xh,.str "give" Wn,.ref gU⟩,⟨Xg,.str "write" Wl,.ref fD⟩,⟨Xf,.str "read" Wk,.ref gP⟩,⟨Xe,.str "name" Wj,.ref gQ⟩,⟨Xd,.str "seek" Wi,.ref gO⟩] Zdq,#[]⟩)
  (Zl7:Xm=hashStr w "make")
  (Zl6:Xl=hashStr w "get")
  (Zl5:Xk=hashStr w "put")
  (Zl4:Xj=hashStr w "copy")
  (Zl3:Xi=hashStr w "drop")
  (Zl2:Xh=hashStr w "give")
  (Zl1:Xg=hashStr w "write")
  (Zl0:Xf=hashStr w "read")
  (Zkz:Xe=hashStr w "name")
  (Zky:Xd=hashStr w "seek")
  (Zr7:PySem.W.plainGet K bz Str.empty=true)
  (Zsp:PySem.W.hasDictIn K bz=true)
  (Zr0:PySem.W.plainOver K bz=true)
  (Zqk:PySem.W.findIn K (.ref bz) "__setattr__"=some (some (.builtin "object.__setattr__")))
  (Pu:PySem.W.makesIn K bz=true)
  (Zs2:Ki K bz)
  (dU:Fo K bz "birth")
  (mH:Fo K bz "bulk")
  (mG:Fo K bz "tone")
  (jC:Fo K bz "load")
  (eX:Fo K bz "fields")
  (Zph:PySem.W.findIn K (.ref bz) "__eq__"=some (some (.builtin "object.__eq__")))
  (Zpg:PySem.W.mroIn K bz (.type "object")=some true)
  (Zr4:PySem.W.plainGet K bh Str.empty=true)
  (Zsm:PySem.W.hasDictIn K bh=true)
  (Zqx:PySem.W.plainOver K bh=true)
  (Zqh:PySem.W.findIn K (.ref bh) "__setattr__"=some (some (.builtin "object.__setattr__")))
  (Pq:PySem.W.makesIn K bh=true)
  (Zrz:Ki K bh)
  (nU:Fo K bh "room")
  (bM:Fo K bh "cells")
  (jg:Fo K bh "used")
  (mF:Fo K bh "born")
  (Zr5:PySem.W.plainGet K lW Str.empty=true)
  (Zsn:PySem.W.hasDictIn K lW=true)
  (Zqy:PySem.W.plainOver K lW=true)
  (Zqi:PySem.W.findIn K (.ref lW) "__setattr__"=some (some (.builtin "object.__setattr__")))
  (Pr:PySem.W.makesIn K lW=true)
  (Zs0:Ki K lW)
  (wD:Fo K lW "name")
  (uz:Fo K lW "slots")
  (Zg0:PySem.W.plainGet K bJ Str.empty=true)
  (Zh9:PySem.W.hasDictIn K bJ=true)
  (Zfx:PySem.W.plainOver K bJ=true)
  (Zfk:PySem.W.findIn K (.ref bJ) "__setattr__"=some (some (.builtin "object.__setattr__")))
  (Ba:PySem.W.makesIn K bJ=true)
  (Zh0:Ki K bJ)
  (pB:Fo K bJ "sense")
  (pC:Fo K bJ "phase")
  (qG:Fo K bJ "grey")
  (oJ:Fo K bJ "looked")
  (qC:Fo K bJ "turn")
  (ux:Fo K bJ "at")
  (qD:Fo K bJ "stop")
  (pA:Fo K bJ "walks")
  (pD:Fo K bJ "looks")
  (oH:Fo K bJ "passes")
  (qF:Fo K bJ "loss")
  (Zmy:PySem.W.plainGet K fu Str.empty=true)
  (Zox:PySem.W.hasDictIn K fu=true)
  (Zmu:PySem.W.plainOver K fu=true)
  (Zmg:PySem.W.findIn K (.ref fu) "__setattr__"=some (some (.builtin "object.__setattr__")))
  (Ii:PySem.W.makesIn K fu=true)
  (Zof:Ki K fu)
  (uw:Fo K fu "heap")
  (uv:Fo K fu "kind")
  (sJ:Fo K fu "hands")
  (sI:Fo K fu "names")
  (pq:Fo K fu "sweeper")
  (Zmz:PySem.W.plainGet K dN Str.empty=true)
  (Zoy:PySem.W.hasDictIn K dN=true)
  (Zmv:PySem.W.plainOver K dN=true)
  (Zmh:PySem.W.findIn K (.ref dN) "__setattr__"=some (some (.builtin "object.__setattr__")))
  (Znr:PySem.W.makesIn K dN=true)
  (Zog:Ki K dN)
  (Zne:PySem.W.findIn K (.ref dN) "__init__"=some (some (.builtin "object.__init__")))
  (Zr6:PySem.W.plainGet K fB Str.empty=true)
  (Zso:PySem.W.hasDictIn K fB=true)
  (Zqz:PySem.W.plainOver K fB=true)
  (Zqj:PySem.W.findIn K (.ref fB) "__setattr__"=some (some (.builtin "object.__setattr__")))
  (Zrt:PySem.W.makesIn K fB=true)
  (Zs1:Ki K fB)
  (Zrm:PySem.W.findIn K (.ref fB) "__init__"=some (some (.builtin "object.__init__")))
  (Zr2:PySem.W.plainGet K gq Str.empty=true)
  (Zsk:PySem.W.hasDictIn K gq=true)
  (Zqv:PySem.W.plainOver K gq=true)
  (Zqf:PySem.W.findIn K (.ref gq) "__setattr__"=some (some (.builtin "object.__setattr__")))
  (Zrs:PySem.W.makesIn K gq=true)
  (Zrx:Ki K gq)
  (Zrl:PySem.W.findIn K (.ref gq) "__init__"=some (some (.builtin "object.__init__")))
  (Zr3:PySem.W.plainGet K kJ Str.empty=true)
  (Zsl:PySem.W.hasDictIn K kJ=true)
  (Zqw:PySem.W.plainOver K kJ=true)
  (Zqg:PySem.W.findIn K (.ref kJ) "__setattr__"=some (some (.builtin "object.__setattr__")))
  (Ep:PySem.W.makesIn K kJ=true)
  (Zry:Ki K kJ)
  (qH:Fo K kJ "looking")
  (uy:Fo K kJ "tells")
  (vU:PySem.W.excIn K aK [.type "ValueError",.type "Exception",.type "BaseException",.type "object"] "ValueError.__new__"=true)
  (Xz:PySem.W.excIn K bR [.type "ValueError",.type "Exception",.type "BaseException",.type "object"] "ValueError.__new__"=true)
  (Ek:PySem.W.excIn K aR [.type "ValueError",.type "Exception",.type "BaseException",.type "object"] "ValueError.__new__"=true)
  (Hl:PySem.W.excIn K bA [.type "ValueError",.type "Exception",.type "BaseException",.type "object"] "ValueError.__new__"=true)
  (kO:PySem.W.exmOne K (.ref aK) (.ref fK)=some true)
  (lZ:PySem.W.exmOne K (.ref aR) (.ref fK)=some true)
  (oM:PySem.W.exmOne K (.ref bR) (.ref fK)=some true)
  (mV:PySem.W.exmOne K (.ref bA) (.ref fK)=some true)
  (LQ:Fi K fB "at_begin" bN)
  (Vl:Fi K fB "stays" cH)
  (GQ:Fi K dN "next_look" bW)
  (R5:Fi K dN "stays" cH)
  (LK:Fi K gq "at_begin" bN)
  (Xy:PySem.W.nsIn K mainGlobals "bool"=some none)
  (pP:PySem.W.nsIn K mainGlobals "enumerate"=some none)
  (Zib:PySem.W.nsIn K mainGlobals "int"=some none)
  (iK:PySem.W.nsIn K mainGlobals "isinstance"=some none)
  (kY:PySem.W.nsIn K mainGlobals "len"=some none)
  (uL:PySem.W.nsIn K mainGlobals "list"=some none)
  (p6:PySem.W.nsIn K mainGlobals "range"=some none)
  (Zia:PySem.W.nsIn K mainGlobals "str"=some none)
  (Hj:PySem.W.nsIn K mainGlobals "tuple"=some none)
  (Zwd:PySem.W.nsIn K mainGlobals "NEW"=some (some Ztk))
  (Zwb:RelV (.int 2) Ztk)
  (Zwc:PySem.W.nsIn K mainGlobals "OLD"=some (some Ztj))
  (Zwa:RelV (.int 1) Ztj)
  (g1:lq K "__init__" "Cell.__init__" tX dG)
  (g2:lq K "units" "Cell.units" zP fW)
  (g3:lq K "has_field" "Cell.has_field" rB dM)
  (g4:lq K "__init__" "Heap.__init__" tV dD)
  (g6:lq K "lay" "Heap.lay" Gn kh)
  (g7:lq K "back" "Heap.back" CQ jl)
  (g8:lq K "free" "Heap.free" CP jk)
  (g9:lq K "there" "Heap.there" zO fV)
  (g10:lq K "cell_at" "cell_at" Km iI)
  (g11:lq K "birth_at" "birth_at" Gm eU)
  (g12:lq K "reached" "reached" J8 nF)
  (g13:lq K "onward" "onward" QF o5)
  (g14:lq K "__init__" "Hand.__init__" tW dF)
  (g15:lq K "__init__" "Sweeper.__init__" pG cG)
  (g16:lq K "__init__" "World.__init__" qZ di)
  (g17:lq K "held" "held" Zfo yD)
  (g18:lq K "births_held" "births_held" xx gC)
  (g19:lq K "births_at" "births_at" Ck ig)
  (g20:lq K "looked_at" "looked_at" Cd jE)
  (g21:lq K "has_sense" "has_sense" Cg dZ)
  (g22:lq K "is_walking" "is_walking" zE iR)
  (g23:lq K "mark_of" "mark_of" J9 nG)
  (g24:lq K "told_cells" "told_cells" zy iM)
  (g25:lq K "told_cell" "told_cell" Ca jD)
  (g26:lq K "begin" "begin" YF sV)
  (g27:lq K "note" "note" Zfn yC)
  (g28:lq K "note_all" "note_all" Gi gJ)
  (g29:lq K "gone" "gone" Zfp vp)
  (g30:lq K "roots" "roots" YD sU)
  (g31:lq K "root_of" "root_of" J7 nD)
  (g32:lq K "note_hands" "note_hands" zB gH)
  (g33:lq K "step_at_rest" "step_at_rest" uQ cT)
  (g34:lq K "step_in_walk" "step_in_walk" uO cQ)
  (g35:lq K "walk" "walk" Zfl yx)
  (g36:lq K "look_or_cut" "look_or_cut" xu gB)
  (g37:lq K "cut" "cut" Zmi Ga)
  (g38:lq K "first_loss" "first_loss" zF iT)
  (g39:lq K "given_up" "given_up" Gj lV)
  (g40:lq K "told_again" "told_again" zz gG)
  (g41:lq K "step_in_give" "step_in_give" uP cR)
  (g42:lq K "pass_place" "pass_place" zA iQ)
  (g43:lq K "end" "end" s_end FZ)
  (g44:lq K "step_when_lost" "step_when_lost" qY bV)
  (g45:lq K "step" "step" Zfm yz)
  (g46:lq K "all_of" "all_of" QK nY)
  (g47:lq K "at_begin" "Looking.at_begin" pH bN)
  (g48:lq K "next_look" "Looking.next_look" oO bW)
  (g49:lq K "stays" "Looking.stays" tR cH)
  (g50:lq K "at_begin" "First.at_begin" rz dI)
  (g51:lq K "next_look" "Each.next_look" rA dJ)
  (g52:lq K "next_look" "Last.next_look" q8 dH)
  (g53:lq K "stays" "Last.stays" zN gK)
  (g54:lq K "__init__" "Kind.__init__" tU dB)
  (g55:lq K "slots_of" "slots_of" Gh d8)
  (g56:lq K "cell_in" "cell_in" Kl jR)
  (g57:lq K "fields_in" "fields_in" Cj jj)
  (g58:lq K "told_as_old" "told_as_old" xm gw)
  (g59:lq K "told_as_new" "told_as_new" xq fO)
  (g60:lq K "do_make" "do_make" Ke gR)
  (g61:lq K "do_get" "do_get" QJ jz)
  (g62:lq K "do_put" "do_put" QH jx)
  (g63:lq K "do_copy" "do_copy" Kh gY)
  (g64:lq K "do_drop" "do_drop" Kg gW)
  (g65:lq K "do_give" "do_give" Kf gU)
  (g66:lq K "do_write" "do_write" Gk fD)
  (g67:lq K "do_read" "do_read" Kc gP)
  (g68:lq K "do_name" "do_name" Kd gQ)
  (g69:lq K "do_seek" "do_seek" Ka gO)
  (g70:lq K "place_named" "place_named" xr gA)
  (g71:lq K "do" "do" Zuj VG)
  (g72:lq K "_law_cell" "_law_cell" CJ gh)
  (g73:lq K "_law_draw" "_law_draw" Cz d7)
  (g74:lq K "_law_word" "_law_word" Cm ir)
  (g75:lq K "_law_hands" "_law_hands" zJ iW)
  (g76:lq K "_law_room" "_law_room" Cr jH)
  (g77:lq K "_law_kind" "_law_kind" Cw jL)
  (g78:lq K "_law_made" "_law_made" Cu jJ)
  (g79:lq K "_law_load" "_law_load" Cv jK)
  (g80:lq K "_law_deed" "_law_deed" CG jN)
  (g81:lq K "_law_deeds" "_law_deeds" zM je)
  (g82:lq K "_law_start" "_law_start" zH iV)
  (g83:lq K "_law_rows" "_law_rows" Cq jG)
  (g84:lq K "_law_number" "_law_number" xG fP)
  (g85:lq K "_law_event" "_law_event" zL iZ)
  (g86:lq K "_law_hand" "_law_hand" Cy jM)
  (g87:lq K "_law_first" "_law_first" zK iY)
  (g88:lq K "_law_marked" "_law_marked" xH gF)
  (g89:lq K "_law_places" "_law_places" xF gD)
  (g90:lq K "_law_state" "_law_state" zG iU)
  (g91:lq K "_law_step" "_law_step" Cp jF)
  :∃fd:FuncData,(∀(s:Shared) (v:Value),BindsTo s fd ⟨[v],[]⟩ [("_law_script",v)])/\∀base:Heap,K.In base->base.Ns mainGlobals mg->vM l.prog w K mg base (G.Tf l.prog w) 11 fa fd ["_law_script"] (Zjd K):=by
 have e:=hfa.symm.trans (PySem.W.mg_of KI GN a92);cases e;have mo:∀{s:Str}{v:Value},PySem.W.nsIn K mainGlobals s=some (some v)->mg s=some v:=λh=>PySem.W.mg_of KI GN h
 let Q0:Cs:=⟨fu,bh,bz,kJ,lW,bJ,dN,fB,gq⟩
 obtain⟨_,F1,k1⟩:=fg g1;obtain⟨_,F2,k2⟩:=fg g2;obtain⟨_,F3,k3⟩:=fg g3;obtain⟨_,F4,k4⟩:=fg g4;obtain⟨_,F6,k6⟩:=fg g6;obtain⟨_,F7,k7⟩:=fg g7;obtain⟨_,F8,k8⟩:=fg g8;obtain⟨_,F9,k9⟩:=fg g9;obtain⟨_,F10,k10⟩:=fg g10;obtain⟨_,F11,k11⟩:=fg g11;obtain⟨_,F12,k12⟩:=fg g12;obtain⟨_,F13,k13⟩:=fg g13;obtain⟨_,F14,k14⟩:=fg g14;obtain⟨_,F15,k15⟩:=fg g15;obtain⟨_,F16,k16⟩:=fg g16;obtain⟨_,F17,k17⟩:=fg g17;obtain⟨_,F18,k18⟩:=fg g18;obtain⟨_,F19,k19⟩:=fg g19;obtain⟨_,F20,k20⟩:=fg g20;obtain⟨_,F21,k21⟩:=fg g21;obtain⟨_,F22,k22⟩:=fg g22;obtain⟨_,F23,k23⟩:=fg g23;obtain⟨_,F24,k24⟩:=fg g24;obtain⟨_,F25,k25⟩:=fg g25;obtain⟨_,F26,k26⟩:=fg g26;obtain⟨_,F27,k27⟩:=fg g27;obtain⟨_,F28,k28⟩:=fg g28;obtain⟨_,F29,k29⟩:=fg g29;obtain⟨_,F30,k30⟩:=fg g30;obtain⟨_,F31,k31⟩:=fg g31;obtain⟨_,F32,k32⟩:=fg g32;obtain⟨_,F33,k33⟩:=fg g33;obtain⟨_,F34,k34⟩:=fg g34;obtain⟨_,F35,k35⟩:=fg g35;obtain⟨_,F36,k36⟩:=fg g36;obtain⟨_,F37,k37⟩:=fg g37;obtain⟨_,F38,k38⟩:=fg g38;obtain⟨_,F39,k39⟩:=fg g39;obtain⟨_,F40,k40⟩:=fg g40;obtain⟨_,F41,k41⟩:=fg g41;obtain⟨_,F42,k42⟩:=fg g42;obtain⟨_,F43,k43⟩:=fg g43;obtain⟨_,F44,k44⟩:=fg g44;obtain⟨_,F45,k45⟩:=fg g45;obtain⟨_,F46,k46⟩:=fg g46;obtain⟨_,F47,k47⟩:=fg g47;obtain⟨_,F48,k48⟩:=fg g48;obtain⟨_,F49,k49⟩:=fg g49;obtain⟨_,F50,k50⟩:=fg g50;obtain⟨_,F51,k51⟩:=fg g51;obtain⟨_,F52,k52⟩:=fg g52;obtain⟨_,F53,k53⟩:=fg g53;obtain⟨_,F54,k54⟩:=fg g54;obtain⟨_,F55,k55⟩:=fg g55;obtain⟨_,F56,k56⟩:=fg g56;obtain⟨_,F57,k57⟩:=fg g57;obtain⟨_,F58,k58⟩:=fg g58;obtain⟨_,F59,k59⟩:=fg g59;obtain⟨_,F60,k60⟩:=fg g60;obtain⟨_,F61,k61⟩:=fg g61;obtain⟨_,F62,k62⟩:=fg g62;obtain⟨_,F63,k63⟩:=fg g63;obtain⟨_,F64,k64⟩:=fg g64;obtain⟨_,F65,k65⟩:=fg g65;obtain⟨_,F66,k66⟩:=fg g66;obtain⟨_,F67,k67⟩:=fg g67;obtain⟨_,F68,k68⟩:=fg g68;obtain⟨_,F69,k69⟩:=fg g69;obtain⟨_,F70,k70⟩:=fg g70;obtain⟨_,F71,k71⟩:=fg g71;obtain⟨_,F72,k72⟩:=fg g72;obtain⟨_,F73,k73⟩:=fg g73;obtain⟨_,F74,k74⟩:=fg g74;obtain⟨_,F75,k75⟩:=fg g75;obtain⟨_,F76,k76⟩:=fg g76;obtain⟨_,F77,k77⟩:=fg g77;obtain⟨_,F78,k78⟩:=fg g78;obtain⟨_,F79,k79⟩:=fg g79;obtain⟨_,F80,k80⟩:=fg g80;obtain⟨_,F81,k81⟩:=fg g81;obtain⟨_,F82,k82⟩:=fg g82;obtain⟨_,F83,k83⟩:=fg g83;obtain⟨_,F84,k84⟩:=fg g84;obtain⟨_,F85,k85⟩:=fg g85;obtain⟨_,F86,k86⟩:=fg g86;obtain⟨_,F87,k87⟩:=fg g87;obtain⟨_,F88,k88⟩:=fg g88;obtain⟨_,F89,k89⟩:=fg g89;obtain⟨_,F90,k90⟩:=fg g90;obtain⟨_,F91,k91⟩:=fg g91;have T:Txt w K mg bz bh lW bJ fu dN fB gq kJ fK aK aR bR bA dG fW dM dD iu kh jl jk fV iI eU nF o5 dF cG di yD gC ig jE dZ iR nG iM jD sV yC gJ vp sU nD gH cT cQ yx gB Ga iT lV gG cR iQ FZ bV yz nY bN bW cH dI dJ dH gK dB d8 jR jj gw fO gR jz jx gY gW gU fD gP gQ gO gA VG gh d7 ir iW jH jL jJ jK jN je iV jG fP iZ jM iY gF gD iU jF:={
  Wv:=⟨Sv,_,_,Zdp,PySem.W.mg_of KI GN Zno,Zo8,⟨rfl,rfl,rfl⟩,rfl,Zkx,⟨Wh,rfl⟩,rfl,Zkw,⟨Wg,rfl⟩,rfl,Zkv,⟨Wf,rfl⟩,rfl,Zku,⟨We,rfl⟩,rfl,trivial⟩
  Ww:=⟨Sx,_,_,Zdq,PySem.W.mg_of KI GN Znp,Zo9,⟨rfl,rfl,rfl⟩,rfl,Zl7,⟨Wt,rfl⟩,rfl,Zl6,⟨Ws,rfl⟩,rfl,Zl5,⟨Wr,rfl⟩,rfl,Zl4,⟨Wq,rfl⟩,rfl,Zl3,⟨Wo,rfl⟩,rfl,Zl2,⟨Wn,rfl⟩,rfl,Zl1,⟨Wl,rfl⟩,rfl,Zl0,⟨Wk,rfl⟩,rfl,Zkz,⟨Wj,rfl⟩,rfl,Zky,⟨Wi,rfl⟩,rfl,trivial⟩
  cZ:=⟨Zr7,Zsp,Zr0,Zqk⟩
  Zo4:=mo Zwx
  Pu:=⟨Pu,a1,i1,Zs2⟩
  dU:=dU
  mH:=mH
  mG:=mG
  jC:=jC
  eX:=eX
  PB:=⟨Zph,Zpg⟩
  cN:=⟨Zr4,Zsm,Zqx,Zqh⟩
  Zo0:=mo Zwt
  Pq:=⟨Pq,a4,i4,Zrz⟩
  nU:=nU
  bM:=bM
  jg:=jg
  mF:=mF
  Zj9:=⟨Zr5,Zsn,Zqy,Zqi⟩
  Zo1:=mo Zwu
  Pr:=⟨Pr,a14,i14,Zs0⟩
  wD:=wD
  uz:=uz
  Sy:=⟨Zg0,Zh9,Zfx,Zfk⟩
  W2:=mo Zlq
  Ba:=⟨Ba,a15,i15,Zh0⟩
  pB:=pB
  pC:=pC
  qG:=qG
  oJ:=oJ
  qC:=qC
  ux:=ux
  qD:=qD
  pA:=pA
  pD:=pD
  oH:=oH
  qF:=qF
  Ze0:=⟨Zmy,Zox,Zmu,Zmg⟩
  Ziq:=mo Zta
  Ii:=⟨Ii,a16,i16,Zof⟩
  uw:=uw
  uv:=uv
  sJ:=sJ
  sI:=sI
  pq:=pq
  Eb:=⟨Zmz,Zoy,Zmv,Zmh⟩
  Zir:=mo Ztb
  WW:=⟨Znr,Zne,Zog⟩
  Jy:=⟨Zr6,Zso,Zqz,Zqj⟩
  Zo3:=mo Zww
  Zcs:=⟨Zrt,Zrm,Zs1⟩
  Jx:=⟨Zr2,Zsk,Zqv,Zqf⟩
  Znz:=mo Zwr
  Zcr:=⟨Zrs,Zrl,Zrx⟩
  Zj8:=⟨Zr3,Zsl,Zqw,Zqg⟩
  Zy:=mo Zws
  Ep:=⟨Ep,a54,i54,Zry⟩
  qH:=qH
  uy:=uy
  Ny:=mo Ze5
  Nz:=mo Ze6
  W3:=mo Zlr
  Zo2:=mo Zwv
  Zcv:=mo Zpu
  vU:=vU
  Xz:=Xz
  Ek:=Ek
  Hl:=Hl
  kO:=kO
  lZ:=lZ
  oM:=oM
  mV:=mV
  yS:=⟨LQ,i47,k47⟩
  ym:=⟨Vl,i49,k49⟩
  vd:=⟨GQ,i48,k48⟩
  u9:=⟨R5,i49,k49⟩
  yR:=⟨LK,i47,k47⟩
  Ld:=⟨a1,i1,k1⟩
  sO:=⟨a2,i2,k2⟩
  wJ:=⟨a3,i3,k3⟩
  La:=⟨a4,i4,k4⟩
  Ik:=⟨a5,i5,k5⟩
  Ni:=⟨a6,i6,k6⟩
  Im:=⟨a7,i7,k7⟩
  Il:=⟨a8,i8,k8⟩
  yl:=⟨a9,i9,k9⟩
  rQ:=mo a10
  mQ:=mo a11
  WY:=mo a12
  RC:=mo a13
  Lb:=⟨a14,i14,k14⟩
  Ff:=⟨a15,i15,k15⟩
  Ij:=⟨a16,i16,k16⟩
  Znw:=mo a17
  yp:=mo a18
  wK:=mo a19
  Nk:=mo a20
  mJ:=mo a21
  Ir:=mo a22
  W0:=mo a23
  Bb:=mo a24
  Nj:=mo a25
  Zio:=mo a26
  Znv:=mo a27
  rP:=mo a28
  Zgt:=mo a29
  Zin:=mo a30
  WX:=mo a31
  Bd:=mo a32
  RB:=mo a33
  Ry:=mo a34
  Znu:=mo a35
  FN:=mo a36
  Zts:=mo a37
  Iu:=mo a38
  RD:=mo a39
  Bc:=mo a40
  Rz:=mo a41
  Ip:=mo a42
  Ztr:=mo a43
  Le:=mo a44
  Zgs:=mo a45
  RG:=mo a46
  Fg:=⟨a47,i47,k47⟩
  DK:=⟨a48,i48,k48⟩
  K8:=⟨a49,i49,k49⟩
  wH:=⟨a50,i50,k50⟩
  wI:=⟨a51,i51,k51⟩
  wG:=⟨a52,i52,k52⟩
  yj:=⟨a53,i53,k53⟩
  K9:=⟨a54,i54,k54⟩
  j7:=mo a55
  yU:=mo a56
  DN:=mo a57
  Fz:=mo a58
  yo:=mo a59
  Zki:=mo a60
  Zny:=mo a61
  Znx:=mo a62
  Zkl:=mo a63
  Zkk:=mo a64
  Zkj:=mo a65
  Zgu:=mo a66
  Zkg:=mo a67
  Zkh:=mo a68
  Zkf:=mo a69
  FJ:=mo a70
  Zxn:=mo a71
  mK:=mo a72
  cX:=mo a73
  wL:=mo a74
  Iz:=mo a75
  Nq:=mo a76
  Nu:=mo a77
  Nr:=mo a78
  Nt:=mo a79
  Nx:=mo a80
  IW:=mo a81
  Iw:=mo a82
  Np:=mo a83
  sS:=mo a84
  IV:=mo a85
  Nv:=mo a86
  IK:=mo a87
  FQ:=mo a88
  FP:=mo a89
  Iv:=mo a90
  Nm:=mo a91
  Xy:=PySem.W.mg_none_of KI GN Xy
  pP:=PySem.W.mg_none_of KI GN pP
  Zib:=PySem.W.mg_none_of KI GN Zib
  iK:=PySem.W.mg_none_of KI GN iK
  kY:=PySem.W.mg_none_of KI GN kY
  uL:=PySem.W.mg_none_of KI GN uL
  p6:=PySem.W.mg_none_of KI GN p6
  Zia:=PySem.W.mg_none_of KI GN Zia
  Hj:=PySem.W.mg_none_of KI GN Hj
  Ztx:=⟨_,PySem.W.mg_of KI GN Zwd,Zwb⟩
  Ztw:=⟨_,PySem.W.mg_of KI GN Zwc,Zwa⟩
 }
 have b1:=bd5 F1 "self" "birth" "many" "bulk" "tone";have b2:=Gd F2 "self";have b3:=Bl F3 "self" "field";have b4:=Bl F4 "self" "room";have F5:=G.Zst (st:=wg) l5 c5 k5;have b5:=G.Zi4 (ps:=["self","many","bulk","tone"]) (ds:=[]) l5 t5 λus hl=>match us,hl with | [_,_,_,_],_=>⟨_,rfl,rfl⟩
 have ZHw:=G.Zi4 (ps:=["self","many","bulk","tone"]) (ds:=[Zj1]) l5 t5 λus hl=>match us,hl with | [_,_,_],_=>⟨_,rfl,rfl⟩
 have ZHv:=G.Zi4 (ps:=["self","many","bulk","tone"]) (ds:=[Zpi,Zj1]) l5 t5 λus hl=>match us,hl with | [_,_],_=>⟨_,rfl,rfl⟩
 have b6:=Bl F6 "self" "cell";have b7:=Bl F7 "self" "place";have b8:=Gd F8 "self";have b9:=Gd F9 "self";have b10:=Bl F10 "heap" "place";have b11:=Bl F11 "heap" "place";have b12:=Bl F12 "heap" "rows";have b13:=bd3 F13 "heap" "places" "way";have b14:=bd3 F14 "self" "name" "many";have b15:=Gd F15 "self";have b16:=bd4 F16 "self" "room" "kind" "hands";have b17:=Gd F17 "world";have b18:=Gd F18 "world";have b19:=Bl F19 "heap" "places";have b20:=Bl F20 "world" "hand";have b21:=Bl F21 "world" "cell";have b22:=Gd F22 "world";have b23:=Bl F23 "world" "place";have b24:=Gd F24 "world";have b25:=Bl F25 "world" "place";have b26:=Gd F26 "world";have b27:=Bl F27 "world" "place";have b28:=Bl F28 "world" "places";have b29:=bd3 F29 "world" "place" "birth";have b30:=Gd F30 "world";have b31:=bd3 F31 "world" "place" "birth";have b32:=Bl F32 "world" "hands";have b33:=Gd F33 "world";have b34:=Gd F34 "world";have b35:=Gd F35 "world";have b36:=Gd F36 "world";have b37:=Gd F37 "world";have b38:=Gd F38 "world";have b39:=Gd F39 "world";have b40:=Gd F40 "event";have b41:=Gd F41 "world";have b42:=Gd F42 "world";have b43:=Gd F43 "world";have b44:=Gd F44 "world";have b45:=Gd F45 "world";have b46:=Gd F46 "hands";have b47:=Bl F47 "self" "hands";have b48:=bd3 F48 "self" "looked" "hands";have b49:=Gd F49 "self";have b50:=Bl F50 "self" "hands";have b51:=bd3 F51 "self" "looked" "hands";have b52:=bd3 F52 "self" "looked" "hands";have b53:=Gd F53 "self";have b54:=bd3 F54 "self" "looking" "tells";have b55:=Bl F55 "world" "hand";have b56:=bd3 F56 "world" "hand" "slot";have b57:=bd4 F57 "world" "hand" "slot" "field";have b58:=Bl F58 "world" "place";have b59:=bd3 F59 "world" "hand" "place";have b60:=Bl F60 "world" "deed";have b61:=Bl F61 "world" "deed";have b62:=Bl F62 "world" "deed";have b63:=Bl F63 "world" "deed";have b64:=Bl F64 "world" "deed";have b65:=Bl F65 "world" "deed";have b66:=Bl F66 "world" "deed";have b67:=Bl F67 "world" "deed";have b68:=Bl F68 "world" "deed";have b69:=Bl F69 "world" "deed";have b70:=Bl F70 "world" "word";have b71:=Bl F71 "world" "deed";have b72:=Bl F72 "_law_script" "_law_k";have b73:=bd3 F73 "_law_cell_here" "_law_prime" "_law_many";have b74:=Bl F74 "_law_cell_here" "_law_w";have b75:=Gd F75 "_law_script";have b76:=Gd F76 "_law_script";have b77:=Gd F77 "_law_number_here";have b78:=bd3 F78 "_law_n" "_law_h" "_law_s";have b79:=Gd F79 "_law_n";have b80:=bd3 F80 "_law_n" "_law_hands_here" "_law_seed";have b81:=bd3 F81 "_law_n" "_law_hands_here" "_law_seed";have b82:=bd3 F82 "_law_hands_here" "_law_cell_here" "_law_seed";have b83:=Bl F83 "_law_script" "_law_hands_here";have b84:=Gd F84 "_law_found";have b85:=Bl F85 "_law_found" "_law_due";have b86:=Bl F86 "_law_world" "_law_deed_here";have b87:=Bl F87 "_law_rows_here" "_law_bits";have b88:=bd3 F88 "_law_after" "_law_before" "_law_marks";have b89:=Bl F89 "_law_cells" "_law_births";have b90:=Gd F90 "_law_sweeper";have b91:=Bl F91 "_law_world" "_law_way";have F92:=Zp7 (st:=QG) l92 c92 k92;refine⟨PySem.W.fnOf "law" "law" (nM QG) (kW QG) (aF QG) .none Zxs Zyq Zxe Zyv Zwp Zys,λs v=>.of_eq rfl,λbase _ _=>?_⟩;have G1:=hh (w:=w) (K4 l.prog base Q0 T F1 ) b1 k1;have G2:=hh (w:=w) (UT l.prog base Q0 T F2 ) b2 k2;have G3:=hh (w:=w) (Ig l.prog base Q0 T F3 ) b3 k3;have G4:=hh (w:=w) (K1 l.prog base Q0 T F4 ) b4 k4;have G6:=hh (w:=w) (Zcb l.prog base Q0 T F6 ) b6 k6;have G8:=hh (w:=w) (Zo l.prog base Q0 T F8 ) b8 k8;have G9:=hh (w:=w) (UL l.prog base Q0 T F9 ) b9 k9;have G10:=hh (w:=w) (Zgk l.prog base Q0 T F10 ) b10 k10;have G14:=hh (w:=w) (K3 l.prog base Q0 T F14 ) b14 k14;have G15:=hh (w:=w) (Fb l.prog base Q0 T F15 ) b15 k15;have G17:=hh (w:=w) (Zrj l.prog base Q0 T F17 ) b17 k17;have G20:=hh (w:=w) (Y7 l.prog base Q0 T F20 ) b20 k20;have G21:=hh (w:=w) (Y8 l.prog base Q0 T F21 ) b21 k21
 have G22:=hh (w:=w) (Ut l.prog base Q0 T F22 ) b22 k22;have G40:=hh (w:=w) (Uq l.prog base Q0 T F40 ) b40 k40;have G43:=hh (w:=w) (Zux l.prog base Q0 T F43 ) b43 k43;have G46:=hh (w:=w) (Zka l.prog base Q0 T F46 ) b46 k46;have G47:=hh (w:=w) (Fe l.prog base Q0 T F47 ) b47 k47;have G48:=hh (w:=w) (Dv l.prog base Q0 T F48 ) b48 k48;have G49:=hh (w:=w) (KY l.prog base Q0 T F49 ) b49 k49;have G51:=hh (w:=w) (Ie l.prog base Q0 T F51 ) b51 k51;have G53:=hh (w:=w) (UJ l.prog base Q0 T F53 ) b53 k53;have G54:=hh (w:=w) (KZ l.prog base Q0 T F54 ) b54 k54;have G55:=hh (w:=w) (Zc6 l.prog base Q0 T F55 ) b55 k55;have G58:=hh (w:=w) (Ra l.prog base Q0 T F58 ) b58 k58;have G72:=hh (w:=w) (Zm l.prog base Q0 T F72 ) b72 k72;have G73:=hh (w:=w) (Zj l.prog base Q0 T F73 ) b73 k73;have G74:=hh (w:=w) (Zb l.prog base Q0 T F74 ) b74 k74;have G79:=hh (w:=w) (Zg l.prog base Q0 T F79 ) b79 k79;have G84:=hh (w:=w) (Rj l.prog base Q0 T F84 ) b84 k84;have G87:=hh (w:=w) (Uy l.prog base Q0 T F87 ) b87 k87;have G88:=hh (w:=w) (Rk l.prog base Q0 T F88 ) b88 k88;have G89:=hh (w:=w) (Ri l.prog base Q0 T F89 ) b89 k89;have G7:=hh (w:=w) (Zq l.prog base Q0 T F7 G2) b7 k7;have G11:=hh (w:=w) (Zca l.prog base Q0 T F11 G10) b11 k11;have G13:=hh (w:=w) (Zk7 l.prog base Q0 T F13 G10) b13 k13;have G23:=hh (w:=w) (Zgb l.prog base Q0 T F23 G21) b23 k23;have G27:=hh (w:=w) (Zri l.prog base Q0 T F27 G10 G21) b27 k27;have G29:=hh (w:=w) (Zrk l.prog base Q0 T F29 G10 G21) b29 k29;have G39:=hh (w:=w) (Zc8 l.prog base Q0 T F39 G9 G21) b39 k39;have G44:=hh (w:=w) (HX l.prog base Q0 T F44 G40) b44 k44;have G50:=hh (w:=w) (Ib l.prog base Q0 T F50 G46) b50 k50;have G52:=hh (w:=w) (Ia l.prog base Q0 T F52 G46) b52 k52;have G56:=hh (w:=w) (Zgj l.prog base Q0 T F56 G10 G55) b56 k56;have G59:=hh (w:=w) (Rb l.prog base Q0 T F59 G20) b59 k59;have G75:=hh (w:=w) (Ux l.prog base Q0 T F75 G72 G73 G74) b75 k75;have G76:=hh (w:=w) (Ze l.prog base Q0 T F76 G72 G73) b76 k76;have G78:=hh (w:=w) (Zf l.prog base Q0 T F78 G73) b78 k78;have G82:=hh (w:=w) (Uw l.prog base Q0 T F82 G73 G74) b82 k82;have G85:=hh (w:=w) (Uz l.prog base Q0 T F85 G84) b85 k85;have G90:=hh (w:=w) (Uv l.prog base Q0 T F90 G84) b90 k90;have G5:=hh (w:=w) (Zn l.prog base Q0 T F5 G1 G2 G8 G6) b5 k5;have G12:=hh (w:=w) (Zga l.prog base Q0 T F12 G13) b12 k12;have G16:=hh (w:=w) (HY l.prog base Q0 T F16 G14 G4 G15) b16 k16;have G19:=hh (w:=w) (Za l.prog base Q0 T F19 G11) b19 k19;have G26:=hh (w:=w) (Znd l.prog base Q0 T F26 G50 G47) b26 k26;have G28:=hh (w:=w) (Zc7 l.prog base Q0 T F28 G27) b28 k28;have G31:=hh (w:=w) (Zg9 l.prog base Q0 T F31 G29 G21 G22) b31 k31;have G42:=hh (w:=w) (Ur l.prog base Q0 T F42 G7 G10 G21) b42 k42;have G57:=hh (w:=w) (Y9 l.prog base Q0 T F57 G3 G56) b57 k57;have G63:=hh (w:=w) (Zgi l.prog base Q0 T F63 G11 G55) b63 k63;have G64:=hh (w:=w) (Zgh l.prog base Q0 T F64 G11 G55) b64 k64;have G66:=hh (w:=w) (Zc9 l.prog base Q0 T F66 G56) b66 k66;have G67:=hh (w:=w) (Zgd l.prog base Q0 T F67 G56) b67 k67;have G68:=hh (w:=w) (Zge l.prog base Q0 T F68 G56 G55) b68 k68;have G70:=hh (w:=w) (Rc l.prog base Q0 T F70 G29) b70 k70;have G77:=hh (w:=w) (Zh l.prog base Q0 T F77 G54) b77 k77;have G80:=hh (w:=w) (Zk l.prog base Q0 T F80 G73 G79 G78 G74) b80 k80;have G18:=hh (w:=w) (Rh l.prog base Q0 T F18 G19) b18 k18;have G25:=hh (w:=w) (Y6 l.prog base Q0 T F25 G19 G23) b25 k25;have G30:=hh (w:=w) (Znc l.prog base Q0 T F30 G17 G31) b30 k30;have G32:=hh (w:=w) (Us l.prog base Q0 T F32 G28) b32 k32
 have G35:=hh (w:=w) (Zrg l.prog base Q0 T F35 G28) b35 k35;have G41:=hh (w:=w) (Oz l.prog base Q0 T F41 G43 G42) b41 k41;have G60:=hh (w:=w) (Zgf l.prog base Q0 T F60 G5 G11 G55) b60 k60;have G61:=hh (w:=w) (Zk9 l.prog base Q0 T F61 G11 G57 G55) b61 k61;have G62:=hh (w:=w) (Zk8 l.prog base Q0 T F62 G11 G57 G28 G55 G59 G58) b62 k62;have G65:=hh (w:=w) (Zgg l.prog base Q0 T F65 G11 G28 G55 G59) b65 k65;have G69:=hh (w:=w) (Zgc l.prog base Q0 T F69 G11 G28 G70 G55) b69 k69;have G81:=hh (w:=w) (UG l.prog base Q0 T F81 G80 G73) b81 k81;have G24:=hh (w:=w) (Up l.prog base Q0 T F24 G9 G25) b24 k24;have G33:=hh (w:=w) (OD l.prog base Q0 T F33 G26 G32) b33 k33;have G38:=hh (w:=w) (Uu l.prog base Q0 T F38 G21 G12 G30) b38 k38;have G71:=hh (w:=w) (Zxk l.prog base Q0 T F71 G63 G64 G61 G65 G60 G68 G62 G67 G69 G66) b71 k71;have G83:=hh (w:=w) (Zd l.prog base Q0 T F83 G72 G81 G73 G82) b83 k83;have G37:=hh (w:=w) (Zv0 l.prog base Q0 T F37 G19 G38 G39 G40) b37 k37;have G86:=hh (w:=w) (Zi l.prog base Q0 T F86 G71) b86 k86;have G36:=hh (w:=w) (Rg l.prog base Q0 T F36 G51 G52 G53 G48 G49 G37 G32) b36 k36;have G34:=hh (w:=w) (Ox l.prog base Q0 T F34 G36 G35) b34 k34;have G45:=hh (w:=w) (Zrh l.prog base Q0 T F45 G33 G41 G34 G44) b45 k45;have G91:=hh (w:=w) (Zc l.prog base Q0 T F91 G85 G87 G88 G89 G90 G18 G45 G24) b91 k91;exact Zuw _ _ Q0 T F92 G16 G72 G86 G75 G77 G76 G83 G91
theorem walk{l:PySem.W.OpenLaw}{q:Program}{loose:List Str}{XP:(Str->Option Value)->Heap->Prop}{YP:World->Heap->Prop}{d:DefRec}{K:Params->aB}(hn:l.most=some 63)(hdf:d.params.defaults=[])
  (hY:∀(w:World) (h:Heap),YP w h->(K w.params).In h)
  (F:∀(w:World) (mg:Str->Option Value) (fa:Addr) (h:Heap),(K w.params).In h->h.Ns mainGlobals mg->mg d.name=some (.ref fa)->
   ∃fd:FuncData,(∀(s:Shared) (u:Value),BindsTo s fd ⟨[u],[]⟩ [("_law_script",u)])/\∀base:Heap,(K w.params).In base->base.Ns mainGlobals mg->vM l.prog w (K w.params) mg base (G.Tf l.prog w) 11 fa fd ["_law_script"] (Zjd (K w.params))):
  PySem.W.WalkO q loose XP YP l.row.toRowW d [] (λf vs=>PySem.call f vs):=
 L2.Zq2 (n:=63) (k:=11) (x:="_law_script") (CX:=λw=>G.Tf l.prog w) (sp:=λw=>Zjd (K w.params)) hn (by decide) hdf ⟨rfl,by decide,by decide⟩ hY F (λ_ _ a ns hl _ hS=>⟨a,rfl,ns,hS,hl,λ_=>rfl⟩) λ_ _ _ _ _ z=>by
  obtain⟨_,_,_,_,_,_,_,_,_,_,_,_,z⟩:=z;exact z
end K24
namespace PySem.W.Fast
def tw9443525947003724000:=0
def tw13823997085208924608:=0
def tw9494641500914215616:=0
def tw2150583843002144321:=0
def tw5173401687414497954:=0
def tw5606754109100529283:=0
def tw8128876927627426148:=0
def tw16133415030109392485:=0
def tw2433100364966736998:=0
def tw630939078062024806:=0
def tw16211622919935609222:=0
def tw4007396719800079369:=0
def tw13595179522266246890:=0
def tw1809761855027999884:=0
def tw3109426983995959373:=0
def tw10696002161057589999:=0
def tw13586573788584628723:=0
def tw14001827919693909845:=0
def tw13510584972881309143:=0
def tw9902542354666931801:=0
def tw9628126836999711706:=0
def tw11429915785923852924:=0
def tw11981941284709331772:=0
def tw12687016764659245117:=0
def tw9624830439897814269:=0
def tw1931765685995234175:=0
def tw5346624574989213472:=0
def tw7624542018839375302:=0
def tw2344023853823030475:=0
def tw18119433584785060088:=0
def tw3404987853670694283:=0
def tw18319755939490655445:=0
def tw90659075528890040:=0
def tw2512768456026782434:=0
def tw15751581400171187958:=0
def tw13120584834516789701:=0
def tw1841845860107149117:=0
def tw10654040010703625552:=0
def tw14889694872757866245:=0
def tw9997493379642941305:=0
def tw2880598342884338683:=0
def tw9163455303560926761:=0
def tw11337878134954304025:=0
def tw17203799159948311248:=0
def tw2372687339723992348:=0
def tw4277326063728137122:=0
def tw14893994051893950406:=0
def tw14182294992076518136:=0
def tw10178486660934866578:=0
def tw4603487778337065223:=0
def tw10533173538197203205:=0
def tw11835791693931515504:=0
def tw13547320323900611642:=0
def tw13258352970834670000:=0
def tw18356273552407521086:=0
def tw18129348145352059463:=0
def tw17560228516262837167:=0
def tw18150466538273555527:=0
def tw15892753399049808465:=0
def tw10593668815192126160:=0
def tw16228398164760871857:=0
def tw6477289320591299578:=0
def tw11465948203332333362:=0
def tw1811054874680418332:=0
def tw7882039277153081546:=0
def tw9491578629870266688:=0
def tw6660762457266679570:=0
def tw2344971211341183511:=0
def tw2956945824050471685:=0
def tw3868883493295328687:=0
def tw16937774889854334734:=0
def tw3746171487467985763:=0
def tw6070598262304334138:=0
def tw4826480949337484323:=0
def tw10607818652186569464:=0
def tw2962952239652904678:=0
def tw6718393197299626897:=0
def tw11918128988098796142:=0
def tw13087640390919004624:=0
def tw15257427274658800775:=0
def tw1551765874905611797:=0
def tw5913060362366127209:=0
def tw12755762867420812216:=0
def tw15188970237612638073:=0
def tw6278777121330811214:=0
def tw33701068374717724:=0
def tw12149550862833154169:=0
def tw9058217470213949936:=0
def tw12086960908373988270:=0
def tw16751239753125135922:=0
def tw7245405987503756071:=0
def tw1854074585987504948:=0
def tw14504232283580453446:=0
def tw15232640344433512389:=0
def tw503166677353779909:=0
def tw17969047955238747635:=0
def tw14939024478191637056:=0
def tw4983663721927654487:=0
def tw3216220583650354398:=0
def tw5350970974979354459:=0
def tw14641262937833311992:=0
def tw5942759380701454074:=0
def tw17708397214689509924:=0
def tw1612754107293115961:=0
def tw10625550104543793552:=0
def tw6032203710961128060:=0
def tw463540550716532547:=0
def tw2260167457371966043:=0
def tw2279303354132363862:=0
def tw13404820683160492337:=0
def tw12161065299823685104:=0
def tw16999965984619960706:=0
def tw6734301694055414981:=0
def tw9522866787445297449:=0
def tw17899310602501547024:=0
def tw3630901762728289083:=0
def tw17711206650795837196:=0
def tw2919340209660886492:=0
def tw15177309866974760016:=0
def tw18227041448194243634:=0
def tw8666865045305635250:=0
def tw15984137388378197984:=0
def tw10813131741835723333:=0
def tw908331680172276146:=0
def tw4250005755673775525:=0
def tw6608512320175195777:=0
def tw14787505347976089819:=0
def tw11586852620061462241:=0
def tw780090119755327784:=0
def tw6674256824866795511:=0
def tw12137408849931064631:=0
def tw11571307359860053244:=0
def tw6476413180574742767:=0
def tw15595231767036244163:=0
def tw5044024998153889348:=0
def tw14586450958846657166:=0
def tw4602724353487611302:=0
def tw11521258456755694818:=0
def tw352468917252658123:=0
def tw8555693699882692560:=0
def tw937914169406999180:=0
def tw17166874846704848652:=0
def tw4577980153001624341:=0
def tw18227501789934561007:=0
def tw1096074602327663434:=0
def tw1844349438697867170:=0
def tw9003908777932899584:=0
def tw3414454506520153838:=0
def tw5981675580629601530:=0
def tw7158032394938645881:=0
def tw13437211745630435816:=0
def tw3547914135982000210:=0
def tw688925118263800237:=0
def tw14449742141795280058:=0
def tw14572556909480254437:=0
def tw8607698175288687862:=0
def tw15932600596310205831:=0
def tw15836606831938550736:=0
def tw16853429001495258579:=0
def tw10397130974251875044:=0
def tw5240559414020322610:=0
def tw11091577121905650158:=0
def tw15912621971511971383:=0
def tw1197255761960811565:=0
def tw6758302164062877543:=0
def tw860102501951793503:=0
def tw1150386262314194907:=0
def tw16951856148412079519:=0
def tw6712399350482970296:=0
def tw9041696942205415130:=0
def tw15119279588091593781:=0
def tw9075186624264280041:=0
def tw5314319241074293482:=0
def tw11125540684767435034:=0
def tw6690337559305666624:=0
def tw12291785522682464923:=0
def tw18078258808165890258:=0
def tw5892367092614701856:=0
def tw5589419076438581580:=0
def tw10076932870251323598:=0
def tw10060124995208808859:=0
def tw9481932613611076670:=0
def tw2090052461213051765:=0
def tw11361473839121644831:=0
def tw9973034950103915090:=0
def tw4085171090416129247:=0
def tw12280435989243114154:=0
def tw590420102293637413:=0
def tw12454090394034660999:=0
def tw5824723226112140629:=0
def tw17417496028502326745:=0
def tw12713690924834546352:=0
def tw2677480287707166327:=0
def tw15781337489434964596:=0
def tw15614866171136484235:=0
def tw3661501895290577471:=0
def tw8118433452952585346:=0
def tw13448705511683528810:=0
def tw6472977402250094318:=0
def tw1836111113956260487:=0
def tw1174567147128518414:=0
def tw11809459838155704621:=0
def tw15614907453905115704:=0
def tw5325909815819297222:=0
def tw10139586788899147699:=0
def tw17371905730663705803:=0
def tw11862373121562956030:=0
def tw3143662110662828927:=0
def tw13849097673518258172:=0
def tw9043365823853701827:=0
def tw7873114593682373835:=0
def tw1751619906176027873:=0
def tw13333498111836084484:=0
def tw6213591171602080937:=0
def tw9523788948221515064:=0
def tw11968221724478254156:=0
def tw6577431349758230218:=0
def tw12328250610002751461:=0
def tw14068104112093589210:=0
def tw11430887016814627354:=0
def tw15328827393534394611:=0
def tw249475848584287124:=0
def tw184546927585519885:=0
def tw12463541976674277873:=0
def tw7637720440356592741:=0
def tw12613362125866053200:=0
def tw3703861163986073875:=0
def tw16157227060669307511:=0
def tw919027771675040310:=0
def tw5207483457956333566:=0
def tw17007615709862978229:=0
def tw4413292302897810460:=0
def tw9183101854405547454:=0
def tw5775436305524346016:=0
def tw13553795241913936371:=0
def tw12061848552104043296:=0
def tw1958055260790840112:=0
def tw764511987328035648:=0
def tw3940731520277671428:=0
def tw16950127959350187581:=0
def tw9491009532676769058:=0
def tw12294540883497355167:=0
def tw14802823994341939458:=0
def tw2759560997128894915:=0
def tw11838391831284813030:=0
def tw9234521008615864459:=0
def tw6734341425624334966:=0
def tw12023158236839165939:=0
def tw4006204420627752895:=0
def tw3832055351013322547:=0
end PySem.W.Fast
open PySem PySem.W PyProof.Rows
set_option maxRecDepth 100000 in
set_option maxHeartbeats 0 in
theorem PySem.Challenge.cw_greywalk_k24_a_round_begins_holds : PySem.Challenge.rw_greywalk_k24_a_round_begins.Holds := by
 w_on;o_law;k_head;(case hw=>w_witness2)
 k_fill
 refine K24.walk (l:=PySem.Challenge.rw_greywalk_k24_a_round_begins) rfl rfl (fun w h Y=>PySem.W.kIn_of Y) ?F
 case F=>
  intro w mg fa h KX G hmg
  refine' K24.all_mk KX G hmg ?h0 ?h1 ?h2 ?h3 ?h4 ?h5 ?h6 ?h7 ?h8 ?h9 ?h10 ?h11 ?h12 ?h13 ?h14 ?h15 ?h16 ?h17 ?h18 ?h19 ?h20 ?h21 ?h22 ?h23 ?h24 ?h25 ?h26 ?h27 ?h28 ?h29 ?h30 ?h31 ?h32 ?h33 ?h34 ?h35 ?h36 ?h37 ?h38 ?h39 ?h40 ?h41 ?h42 ?h43 ?h44 ?h45 ?h46 ?h47 ?h48 ?h49 ?h50 ?h51 ?h52 ?h53 ?h54 ?h55 ?h56 ?h57 ?h58 ?h59 ?h60 ?h61 ?h62 ?h63 ?h64 ?h65 ?h66 ?h67 ?h68 ?h69 ?h70 ?h71 ?h72 ?h73 ?h74 ?h75 ?h76 ?h77 ?h78 ?h79 ?h80 ?h81 ?h82 ?h83 ?h84 ?h85 ?h86 ?h87 ?h88 ?h89 ?h90 ?h91 ?h92 ?h93 ?h94 ?h95 ?h96 ?h97 ?h98 ?h99 ?h100 ?ZHh ?ZHg ?ZHf ?ZHe ?ZHd ?ZHc ?ZHb ?ZHa ?ZH9 ?ZH8 ?ZH7 ?ZH6 ?ZH5 ?ZH4 ?ZH3 ?ZH2 ?ZH1 ?ZH0 ?ZGz ?ZGy ?ZGx ?ZGw ?ZGv ?ZGu ?ZGt ?ZGs ?ZGr ?ZGq ?ZGp ?ZGn ?ZGm ?ZGl ?ZGk ?ZGj ?ZGi ?ZGh ?ZGg ?ZGf ?ZGe ?ZGd ?ZGc ?ZGb ?ZGa ?ZG9 ?ZG8 ?ZG7 ?ZG6 ?ZG5 ?ZG4 ?ZG3 ?ZG2 ?ZG1 ?ZG0 ?ZFz ?ZFy ?ZFx ?ZFw ?ZFv ?ZFu ?ZFt ?ZFs ?ZFr ?ZFq ?ZFp ?ZFo ?ZFn ?ZFm ?ZFl ?ZFk ?ZFj ?ZFi ?ZFh ?ZFg ?ZFf ?ZFe ?ZFd ?ZFc ?ZFb ?ZFa ?ZF9 ?ZF8 ?ZF7 ?ZF6 ?ZF5 ?ZF4 ?ZF3 ?ZF2 ?ZF1 ?ZF0 ?ZEz ?ZEy ?ZEx ?ZEw ?ZEv ?ZEu ?ZEt ?ZEs ?ZEr ?ZEq ?ZEp ?ZEo ?ZEn ?ZEm ?ZEl ?ZEk ?ZEj ?ZEi ?ZEh ?ZEg ?ZEf ?ZEe ?ZEd ?ZEc ?ZEb ?ZEa ?ZE9 ?ZE8 ?ZE7 ?ZE6 ?ZE5 ?ZE4 ?ZE3 ?ZE1 ?ZE0 ?ZDz ?ZDy ?ZDx ?ZDw ?ZDv ?ZDu ?ZDt ?ZDs ?ZDr ?ZDq ?ZDp ?ZDo ?ZDn ?ZDm ?ZDl ?ZDk ?ZDj ?ZDi ?ZDh ?ZDg ?ZDf ?ZDe ?ZDd ?ZDc ?ZDb ?ZDa ?ZD9 ?ZD8 ?ZD7 ?ZD6 ?ZD5 ?ZD4 ?ZD3 ?ZD2 ?ZD1 ?ZD0 ?ZCz ?ZCy ?ZCx ?ZCw ?ZCv ?ZCu ?ZCt ?ZCs ?ZCr ?ZCq ?ZCp ?ZCo ?ZCn ?ZCm ?ZCl ?ZCk ?ZCj ?ZCi ?ZCh ?ZCg ?ZCf ?ZCe ?ZCd ?ZCc ?ZCb ?ZCa ?ZC9 ?ZC8 ?ZC7 ?ZC6 ?ZC5 ?ZC4 ?ZC3 ?ZC2 ?ZC1 ?ZC0 ?ZBz ?ZBy ?ZBx ?ZBw ?ZBv ?ZBu ?ZBt ?ZBs ?ZBr ?ZBq ?ZBp ?ZBo ?ZBn ?ZBm ?ZBl ?ZBk ?ZBj ?ZBi ?ZBh ?ZBg ?ZBf ?ZBe ?ZBd ?ZBc ?ZBb ?ZBa ?ZB9 ?ZB8 ?ZB7 ?ZB6 ?ZB5 ?ZB4 ?ZB3 ?ZB2 ?ZB1 ?ZB0 ?ZAz ?ZAy ?ZAx ?ZAw ?ZAv ?ZAu ?ZAt ?ZAs ?ZAr ?ZAq ?ZAp ?ZAo ?ZAn ?ZAm ?ZAl ?ZAk ?ZAj ?ZAi ?ZAh ?ZAg ?ZAf ?ZAe ?ZAd ?ZAc
  case h0 | h1 | h2 | h3 | h4 | h5 | h6 | h7 | h8 | h9 | h10 | h11 | h12 | h13 | h14 | h15 | h16 | h17 | h18 | h19 | h20 | h21 | h22 | h23 | h24 | h25=>(show _=_;k_is)
  case h26 | h27=>first | exact rfl | exact ⟨_,rfl⟩
  case h28 | h29 | h30 | h31 | h32 | h33 | h34 | h35 | h36 | h37 | h38 | h39 | h40 | h41 | h42 | h43 | h44 | h45 | h46 | h47 | h48 | h49 | h50 | h51 | h52 | h53 | h54 | h55 | h56 | h57 | h58 | h59 | h60 | h61 | h62 | h63 | h64 | h65 | h66 | h67 | h68 | h69 | h70 | h71 | h72 | h73 | h74 | h75 | h76 | h77 | h78 | h79 | h80 | h81 | h82 | h83 | h84 | h85 | h86 | h87 | h88 | h89 | h90 | h91 | h92 | h93 | h94 | h95 | h96 | h97 | h98 | h99 | h100 | ZHh | ZHg | ZHf | ZHe | ZHd | ZHc | ZHb | ZHa | ZH9 | ZH8 | ZH7 | ZH6 | ZH5 | ZH4 | ZH3 | ZH2 | ZH1 | ZH0 | ZGz | ZGy | ZGx | ZGw | ZGv | ZGu | ZGt | ZGs | ZGr | ZGq | ZGp | ZGn | ZGm | ZGl | ZGk | ZGj | ZGi | ZGh=>(show _=_;k_is)
  case ZGg | ZGf | ZGe | ZGd=>exact rfl
  case ZGc | ZGb=>(show _=_;k_is)
  case ZGa | ZG9 | ZG8 | ZG7 | ZG6 | ZG5 | ZG4 | ZG3 | ZG2 | ZG1=>exact rfl
  case ZG0 | ZFz | ZFy | ZFx | ZFw | ZFv | ZFu | ZFt | ZFs | ZFr | ZFq | ZFp | ZFo | ZFn | ZFm | ZFl | ZFk | ZFj | ZFi | ZFh | ZFg | ZFf | ZFe | ZFd | ZFc | ZFb | ZFa | ZF9 | ZF8 | ZF7 | ZF6 | ZF5 | ZF4 | ZF3 | ZF2 | ZF1 | ZF0 | ZEz | ZEy | ZEx | ZEw | ZEv | ZEu | ZEt | ZEs | ZEr | ZEq | ZEp | ZEo | ZEn | ZEm | ZEl | ZEk | ZEj | ZEi | ZEh | ZEg | ZEf | ZEe | ZEd | ZEc | ZEb | ZEa | ZE9 | ZE8 | ZE7 | ZE6 | ZE5 | ZE4 | ZE3 | ZE1 | ZE0 | ZDz | ZDy | ZDx | ZDw | ZDv | ZDu | ZDt | ZDs | ZDr | ZDq | ZDp | ZDo | ZDn | ZDm | ZDl | ZDk=>(show _=_;k_is)
  case ZDj | ZDi | ZDh | ZDg=>k_exc
  case ZDf | ZDe | ZDd | ZDc=>kts_exm
  case ZDb | ZDa | ZD9 | ZD8 | ZD7 | ZD6 | ZD5 | ZD4 | ZD3 | ZD2 | ZD1 | ZD0 | ZCz | ZCy | ZCx=>(show _=_;k_is)
  case ZCw=>first | exact rfl | exact ⟨_,rfl⟩
  case ZCv=>(show _=_;k_is)
  case ZCu=>first | exact rfl | exact ⟨_,rfl⟩
  case ZCt | ZCs | ZCr | ZCq | ZCp | ZCo | ZCn | ZCm | ZCl | ZCk | ZCj | ZCi | ZCh | ZCg | ZCf | ZCe | ZCd | ZCc | ZCb | ZCa | ZC9 | ZC8 | ZC7 | ZC6 | ZC5 | ZC4 | ZC3 | ZC2 | ZC1 | ZC0 | ZBz | ZBy | ZBx | ZBw | ZBv | ZBu | ZBt | ZBs | ZBr | ZBq | ZBp | ZBo | ZBn | ZBm | ZBl | ZBk | ZBj | ZBi | ZBh | ZBg | ZBf | ZBe | ZBd | ZBc | ZBb | ZBa | ZB9 | ZB8 | ZB7 | ZB6 | ZB5 | ZB4 | ZB3 | ZB2 | ZB1 | ZB0 | ZAz | ZAy | ZAx | ZAw | ZAv | ZAu | ZAt | ZAs | ZAr | ZAq | ZAp | ZAo | ZAn | ZAm | ZAl | ZAk | ZAj | ZAi | ZAh | ZAg | ZAf | ZAe | ZAd | ZAc=>(refine' K24.fgm ?l ?c ?k;(case l=>show _=_;k_is);(case c=>show _=_;k_is);(case k=>show _=_;k_is))
#print axioms PySem.Challenge.cw_greywalk_k24_a_round_begins_holds
