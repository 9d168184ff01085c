import PyProof.Rows.All
import Wide.All
import OpenK.AllK
import Wide.FinOn
import Lean
import PyProof.EqAt
import PyProof.EqKinds
import PyProof.TupleCall
import KE.KItemsList
import KE.KDictList
import PySem.Challenge.RW_greywalk_k25_a_cell_walked
set_option Elab.async false
set_option linter.all false
set_option maxRecDepth 100000
abbrev aB:=PySem.W.Frag
def bK{a:Type}{l:List a}{i:Nat}(h:i<l.length):l[i]? =some l[i]:=List.getElem?_eq_getElem h
def dH{b:Type}{l:List b}{i:Nat}{a:b}(h:l[i]? =some a):∃h:i<l.length,l[i]=a:=List.getElem?_eq_some_iff.mp h
def cA{a b:Type}{f:a->b}{l:List a}{i:Nat}:(l.map f)[i]? =l[i]?.map f:=List.getElem?_map
def aX{a b:Type}{l:List a}(f:a->b):(l.map f).length=l.length:=List.length_map f
namespace L2
open PySem PySem.Spec PyProof.Rows
abbrev Key:=Sum Int Str
def JW:Key->Value->Bool
 | .inl k,v=>Value.isInt k v
 | .inr x,v=>Value.isStrOf x v
def Zza(w:World):Key->Int
 | .inl k=>hashInt k
 | .inr x=>hashStr w x
def fH:∀{k:Key}{v:Value},JW k v=true->(∃i t,k=Sum.inl i/\v=Value.int i t)\/(∃x t,k=Sum.inr x/\v=Value.str x t)
 | .inl i,v,h=>by
  obtain⟨t,e⟩:=Value.isInt_shape (k:=i) (v:=v) h;exact .inl ⟨i,t,rfl,e⟩
 | .inr x,v,h=>by
  obtain⟨t,e⟩:=Value.isStrOf_shape (x:=x) (v:=v) h;exact .inr ⟨x,t,rfl,e⟩
def Zlu(i:Int)(t:Tok):JW (.inl i) (.int i t)=true:=by simp[JW,Value.isInt]
def Zlt(x:Str)(t:Tok):JW (.inr x) (.str x t)=true:=by simp[JW,Value.isStrOf]
def Zwu(a b:Int):decide ((Sum.inl a:Key)=Sum.inl b)=(a == b):=by
 by_cases e:a=b
 ·subst e;simp
 ·have h:¬ (Sum.inl a:Key)=Sum.inl b:=λq=>e (Sum.inl.inj q);rw[decide_eq_false h];exact(beq_eq_false_iff_ne.mpr e).symm
def Zwr(a b:Str):decide ((Sum.inr a:Key)=Sum.inr b)=decide (a=b):=by
 by_cases e:a=b
 ·subst e;simp
 ·have h:¬ (Sum.inr a:Key)=Sum.inr b:=λq=>e (Sum.inr.inj q);rw[decide_eq_false h,decide_eq_false e]
def Zwt(a:Int)(b:Str):decide ((Sum.inl a:Key)=Sum.inr b)=false:=decide_eq_false (λq=>nomatch q)
def Zws(a:Str)(b:Int):decide ((Sum.inr a:Key)=Sum.inl b)=false:=decide_eq_false (λq=>nomatch q)
def fG(prog:Program)(w:World):PySem.KeyKind prog w Key where
  is:=JW
  hash:=Zza w
  inj:=λv a b d hb=>by
    rcases fH d with ⟨i,t,rfl,rfl⟩ | ⟨x,t,rfl,rfl⟩
    · rcases fH hb with ⟨j,u,rfl,e⟩ | ⟨y,u,rfl,e⟩
      · injection e with c _;rw[c]
      · exact nomatch e
    · rcases fH hb with ⟨j,u,rfl,e⟩ | ⟨y,u,rfl,e⟩
      · exact nomatch e
      · injection e with c _;rw[c]
  byValue:=λk v h=>by
    rcases fH h with ⟨i,t,rfl,rfl⟩ | ⟨x,t,rfl,rfl⟩<;>rfl
  pyHash:=λhv h=>by
    rcases fH hv with ⟨i,t,rfl,rfl⟩ | ⟨x,t,rfl,rfl⟩
    · exact wpAny_pyHash_int h
    · exact wpAny_pyHash_str h
  eqBool:=λhu hv h=>by
    rcases fH hu with ⟨i,t,rfl,rfl⟩ | ⟨x,t,rfl,rfl⟩
    · rcases fH hv with ⟨j,u,rfl,rfl⟩ | ⟨y,u,rfl,rfl⟩
      · rw[Zwu]at h;exact wpAny_eqBool_int h
      · rw[Zwt]at h;exact SeqAt.EqAt.int_str i t y u _ _ _ _ h
    · rcases fH hv with ⟨j,u,rfl,rfl⟩ | ⟨y,u,rfl,rfl⟩
      · rw[Zws]at h;exact SeqAt.EqAt.str_int x t j u _ _ _ _ h
      · rw[Zwr]at h;exact wpAny_eqBool_str h
  «strs»:=λk x t v h=>by
    rcases fH h with ⟨i,u,rfl,e⟩ | ⟨y,u,rfl,e⟩
    · exact nomatch e
    · injection e with c _
      subst c;cases v<;>rfl
def Zdv(prog:Program)(w:World)(i:Int)(t:Tok):(fG prog w).is (.inl i) (.int i t)=true:=Zlu i t
def Zdu(prog:Program)(w:World)(x:Str)(t:Tok):(fG prog w).is (.inr x) (.str x t)=true:=Zlt x t
end L2
namespace L2
open PySem PySem.Spec PyProof.Rows
inductive V where
 | non | bl (b:Bool) | int (i:Int) | str (x:Str) | byt (b:Array UInt8) | flt (b:UInt64) | ref (a:Addr) | ty (n:String)
 deriving DecidableEq
def RelV:V->Value->Prop
 | .non,u=>u=Value.none
 | .bl b,u=>u=Value.bool b
 | .int i,u=>∃t,u=Value.int i t
 | .str x,u=>∃t,u=Value.str x t
 | .byt b,u=>∃t,u=Value.bytes b t
 | .flt b,u=>∃t,u=Value.float b t
 | .ref a,u=>u=Value.ref a
 | .ty n,u=>u=Value.type n
abbrev Vals:List V->List Value->Prop:=Paired RelV
def Vals.length{xs:List V}{us:List Value}(r:Vals xs us):xs.length=us.length:=Paired.length r
def Vals.get:∀{xs:List V}{us:List Value}{i:Nat}{x:V},Vals xs us->xs[i]? =some x->∃u,us[i]? =some u/\RelV x u
 | _,_,_,_,.nil,e=>by simp at e
 | _,_,0,_,.cons r _,e=>by simp at e;subst e;exact⟨_,rfl,r⟩
 | _,_,i+1,x,.cons _ t,e=>by
  obtain⟨u,h1,h2⟩:=Vals.get (i:=i) (x:=x) t (by simpa using e);exact⟨u,by simpa using h1,h2⟩
def Vals.set{x:V}{u:Value}(r:RelV x u):∀{xs:List V}{us:List Value} (i:Nat),Vals xs us->Vals (xs.set i x) (us.set i u)
 | _,_,_,.nil=>.nil
 | _,_,0,.cons _ t=>.cons r t
 | _,_,i+1,.cons q t=>.cons q (Vals.set r i t)
def Vals.append:∀{xs b:List V}{us a:List Value},Vals xs us->Vals b a->Vals (xs++b) (us++a)
 | _,_,_,_,.nil,s=>s
 | _,_,_,_,.cons r t,s=>.cons r (Vals.append t s)
def Vals.take:∀{xs:List V}{us:List Value} (n:Nat),Vals xs us->Vals (xs.take n) (us.take n)
 | _,_,0,_=>.nil
 | _,_,_+1,.nil=>.nil
 | _,_,n+1,.cons r t=>.cons r (Vals.take n t)
def Vals.drop:∀{xs:List V}{us:List Value} (n:Nat),Vals xs us->Vals (xs.drop n) (us.drop n)
 | _,_,0,r=>r
 | _,_,_+1,.nil=>.nil
 | _,_,n+1,.cons _ t=>Vals.drop n t
def Gr:Option V->Option Value->Prop
 | some v,some u=>RelV v u
 | none,none=>True
 | _,_=>False
def KV{a:Type}:List (a×V)->List (a×Value)->Prop:=Paired λ(p:a×V) (q:a×Value)=>p.1=q.1/\RelV p.2 q.2
def kV:Key->V
 | .inl i=>.int i
 | .inr x=>.str x
inductive HO where
  | lst (xs:List V)
  | tup (xs:List V)
  | dK (kvs:List (Key×V)) | dT (kvs:List (List Key×V))
  | set (S:Int->Bool) (n:Nat)
  | ins (C dx:Addr) (fs:List (Str×V))
  | own (x:Addr)
  | xd (fs:List (Str×V))
  | met (f x:Addr)
  | rng (lo hi:Int)
  | zK (o:Obj) (u:HO)
  | Rc (ps:Array Value)
  | ext (φ:Heap->Prop)
abbrev Hp:=Addr->Option HO
def upd(H:Hp)(a:Addr)(o:HO):Hp:=λb=>if b=a then some o else H b
def aq{H:Hp}{a:Addr}{o:HO}:upd H a o a=some o:=by unfold upd;rw[if_pos rfl]
def aC{H:Hp}{a b:Addr}{o:HO}(h:b≠a):upd H a o b=H b:=by unfold upd;rw[if_neg h]
def eG{H:Hp}{a:Addr}{o u:HO}:upd (upd H a o) a u=upd H a u:=by
 funext b;unfold upd;split<;>rfl
def qU{H:Hp}{a b:Addr}{o u:HO}(h:H a=some o)(h':H b=some u)(d:o≠u):a≠b:=by
 intro e;subst e;rw[h]at h';exact d (Option.some.inj h')
def aD{H:Hp}{a b:Addr}{o:HO}(h:H a=some o)(h':H b=none):a≠b:=by
 intro e;subst e;rw[h]at h';cases h'
section
variable (P:Program)(w:World)
def lA(H:Hp)(h:Heap)(a:Addr):HO->Prop
 | .lst xs=>xs.length<=sizeLine/\∃(c:List Value) (n:Nat),Vals xs c/\h.get? a=some { cls:=.type "list",data:=.seq c.toArray n }
 | .tup xs=>xs.length<=sizeLine/\∃c:List Value,Vals xs c/\IsTup h a c.toArray
 | .dK b=>b.length<=sizeLine/\(a == sysModules)=false/\∃vs,KV b vs/\h.DictOf (fG P w) a vs
 | .dT b=>b.length<=sizeLine/\(a == sysModules)=false/\∃xs:List (List Key×Addr×Value),
   Paired (λ(p:List Key×V) (q:List Key×Addr×Value)=>p.1=q.1/\H q.2.1=some (.tup (p.1.map kV))/\RelV p.2 q.2.2) b xs/\
   ∃o g i,h.get? a=some o/\o.ExactDict/\o.data=.dict g i/\g.toList=xs.map (entryOfKey (tupleKind (fG P w)))/\(xs.map (·.1)).Nodup
 | .set S n=>h.SetOf (intKind P w) a S n
 | .ins C dx fs=>H dx=some (.own a)/\fs.length<=1000/\dx≠a/\h.get? a=some (W.instObj C dx)/\
   ∃d,h.Ns1 dx d/\(∀f,Gr (fs.lookup f) (d f))/\PySem.Within d (fs.map (·.1))
 | .own _=>∃o,h.get? a=some o
 | .xd fs=>∃d,h.Ns1 a d/\∀f,Gr (fs.lookup f) (d f)
 | .rng lo j=>∃t u v,h.get? a=some { cls:=.type "range",data:=.fields #[.int lo t,.int j u,.int 1 v] }
 | .zK o u=>h.get? a=some o/\lA H h a u
 | .Rc ps=>h.get? a=some { cls:=.none,data:=.fields ps }
 | .met f x=>h.get? a=some (W.methodObj (.ref f) (.ref x))
 | .ext e=>e h/\(∃o,h.get? a=some o)/\∀h1 h2:Heap,e h1->(∀o,h1.get? a=some o->h2.get? a=some o)->e h2
def Cm(H:Hp)(h:Heap):Prop:=∀a o,H a=some o->lA P w H h a o
end
section
variable {P:Program}{w:World}{H H':Hp}{h h':Heap}{a:Addr}{o:HO}
def lA.lt(x:lA P w H h a o):a<h.objs.size:=by
 cases o with
 | lst xs=>obtain⟨_,_,_,_,e⟩:=x;exact Heap.lt_size e
 | tup xs=>obtain⟨_,_,_,p⟩:=x;exact p.lt
 | dK b=>obtain⟨_,_,_,_,o,_,_,e,_⟩:=x;exact Heap.lt_size e
 | dT b=>obtain⟨_,_,_,_,o,_,_,e,_⟩:=x;exact Heap.lt_size e
 | set S n=>obtain⟨o,_,_,_,e,_⟩:=x;exact Heap.lt_size e
 | ins C dx fs=>obtain⟨_,_,_,e,_⟩:=x;exact Heap.lt_size e
 | own y=>obtain⟨_,e⟩:=x;exact Heap.lt_size e
 | xd fs=>obtain⟨_,⟨_,_,_,e,_⟩,_⟩:=x;exact Heap.lt_size e
 | rng lo c=>obtain⟨_,_,_,e⟩:=x;exact Heap.lt_size e
 | zK ob u=>obtain⟨e,_⟩:=x;exact Heap.lt_size e
 | Rc ps=>exact Heap.lt_size (show h.get? a=some _ from x)
 | met f y=>exact Heap.lt_size (show h.get? a=some _ from x)
 | ext d=>obtain⟨_,⟨_,e⟩,_⟩:=x;exact Heap.lt_size e
def Paired.Zwl{g e:Type}{F G:g->e->Prop}:∀{c:List g}{d:List e},Paired F c d->(∀a b,F a b->G a b)->Paired G c d
 | _,_,.nil,_=>.nil
 | _,_,.cons r t,f=>.cons (f _ _ r) (Paired.Zwl t f)
def lA.stay(x:lA P w H h a o)(k:∀b u,(b=a\/H b=some (.own a))->h.get? b=some u->h'.get? b=some u)
  (s:∀b,H b=some (.own a)->H' b=some (.own a)) (A:∀b xs,H b=some (.tup xs)->H' b=some (.tup xs)):lA P w H' h' a o:=by
 induction o with
 | lst xs=>obtain⟨z,j,n,r,e⟩:=x;exact⟨z,j,n,r,k _ _ (.inl rfl) e⟩
 | tup xs=>obtain⟨z,j,r,ob,e,c⟩:=x;exact⟨z,j,r,ob,k _ _ (.inl rfl) e,c⟩
 | dK l=>obtain⟨z,y,vs,r,ob,i,g,e,c⟩:=x;exact⟨z,y,vs,r,ob,i,g,k _ _ (.inl rfl) e,c⟩
 | dT l=>
  obtain⟨z,y,xs,r,ob,i,g,e,c⟩:=x;exact⟨z,y,xs,Paired.Zwl r λp q z=>⟨z.1,A _ _ z.2.1,z.2.2⟩,ob,i,g,k _ _ (.inl rfl) e,c⟩
 | set S n=>obtain⟨ob,i,g,t,e,c⟩:=x;exact⟨ob,i,g,t,k _ _ (.inl rfl) e,c⟩
 | ins C dx fs=>
  obtain⟨d,z,ne,e,m,⟨od,i,g,D,c⟩,r⟩:=x;exact⟨s _ d,z,ne,k _ _ (.inl rfl) e,m,⟨od,i,g,k _ _ (.inr d) D,c⟩,r⟩
 | own y=>obtain⟨ob,e⟩:=x;exact⟨ob,k _ _ (.inl rfl) e⟩
 | xd fs=>obtain⟨m,⟨od,i,g,e,c⟩,r⟩:=x;exact⟨m,⟨od,i,g,k _ _ (.inl rfl) e,c⟩,r⟩
 | rng lo E=>obtain⟨t,u,v,e⟩:=x;exact⟨t,u,v,k _ _ (.inl rfl) e⟩
 | zK ob u B=>obtain⟨e,q⟩:=x;exact⟨k _ _ (.inl rfl) e,B q⟩
 | Rc ps=>
  have e:h.get? a=some { cls:=.none,data:=.fields ps }:=x;show h'.get? a=some { cls:=.none,data:=.fields ps };exact k a _ (.inl rfl) e
 | met f y=>
  have e:h.get? a=some (W.methodObj (.ref f) (.ref y)):=x;show h'.get? a=some (W.methodObj (.ref f) (.ref y));exact k a _ (.inl rfl) e
 | ext F=>obtain⟨p,⟨o,e⟩,st⟩:=x;exact⟨st _ _ p λo q=>k _ _ (.inl rfl) q,⟨o,k _ _ (.inl rfl) e⟩,st⟩
def Cm.lt(x:Cm P w H h)(e:H a=some o):a<h.objs.size:=(x a o e).lt
def Cm.fresh(x:Cm P w H h)(e:h.objs.size<=a):H a=none:=by
 cases q:H a with
 | none=>rfl
 | some u=>exact absurd (Nat.lt_of_lt_of_le (x.lt q) e) (Nat.lt_irrefl _)
def Cm.kept(x:Cm P w H h)(k:∀b u,h.get? b=some u->h'.get? b=some u):Cm P w H h':=λa o e=>
 (x a o e).stay (λb u _ q=>k b u q) (λ_ q=>q) λ_ _ q=>q
def Cm.laid(x:Cm P w H h)(k:∀b u,h.get? b=some u->h'.get? b=some u)(hp:h.objs.size<=a)(new:lA P w (upd H a o) h' a o):Cm P w (upd H a o) h':=λb u e=>by
 have hn:=x.fresh hp
 by_cases hb:b=a
 ·subst hb;rw[aq]at e;cases e;exact new
 ·rw[aC hb]at e;exact(x b u e).stay (λc v _ q=>k c v q) (λc q=>by rw[aC (aD q hn)];exact q) λc xs q=>by rw[aC (aD q hn)];exact q
end
def Rd(H:Hp)(a:Addr)(u:HO):Prop:=H a=some u\/∃o,H a=some (.zK o u)
def Rd.ok{P:Program}{w:World}{H:Hp}{h:Heap}{a:Addr}{u:HO}(r:Rd H a u)(x:Cm P w H h):lA P w H h a u:=by
 rcases r with r | ⟨o,r⟩
 ·exact x a u r
 ·obtain⟨_,q⟩:=x a _ r;exact q
def Mut:Option HO->Prop
 | some (.lst _)=>True
 | some (.dK _)=>True
 | some (.dT _)=>True
 | some (.set _ _)=>True
 | some (.ins _ _ _)=>True
 | some (.ext _)=>True
 | _=>False
section
variable {P:Program}{w:World}{H:Hp}{h h':Heap}{x e:Addr}{o':HO}
def Cm.write(ok:Cm P w H h)(f:Mut (H x))(j:e=x\/H e=some (.own x))(k:∀b u,b≠e->h.get? b=some u->h'.get? b=some u)(g:∃u,h'.get? e=some u)
  (new:lA P w (upd H x o') h' x o'):Cm P w (upd H x o') h':=λb u q=>by
 have d:∀c y,H c=some (.own y)->c≠x:=λc y r z=>by subst z;rw[r]at f;exact f
 have i:∀c xs,H c=some (.tup xs)->c≠x:=λc xs r z=>by subst z;rw[r]at f;exact f
 by_cases hb:b=x
 ·subst hb;rw[aq]at q;cases q;exact new
 ·rw[aC hb]at q
  by_cases a:b=e
  ·have l:H b=some (.own x):=by
    rcases j with z | z
    ·exact absurd (a.trans z) hb
    ·rw[a];exact z
   rw[q]at l;cases l;obtain⟨v,hv⟩:=g;exact⟨v,by rw[a];exact hv⟩
  ·refine(ok b u q).stay (λc v hc r=>k c v ?_ r) (λc r=>by rw[aC (d c b r)];exact r) λc xs r=>by rw[aC (i c xs r)];exact r
   rcases hc with rfl | hc
   ·exact a
   ·rintro rfl;rcases j with z | z
    ·exact d c b hc z
    ·rw[hc]at z;cases z;exact hb rfl
end
structure Un(fs ex:List Addr)(H H':Hp)(h h':Heap):Prop where
 keep:∀b o,h.get? b=some o->H b=none->b∉fs->b∉ex->h'.get? b=some o
 slot:∀b o,h.get? b=some o->H b=none->b∈fs->b∉ex->∃sl,h'.get? b=some { o with slots:=sl }
 free:∀b o,h.get? b=some o->H b=none->b∉ex->H' b=none
 there:∀b o,h.get? b=some o->b∉ex->∃o',h'.get? b=some o'
 tups:∀b xs,H b=some (.tup xs)->H' b=some (.tup xs)
 Ia:∀b o u,H b=some (.zK o u)->H' b=some (.zK o u)
 Iv:∀b ps,H b=some (.Rc ps)->∃more,H' b=some (.Rc (ps++more))
section
variable {fs fs' ex ex':List Addr}{H H1 H2:Hp}{h h1 h2 h':Heap}{a x e:Addr}{o:HO}
def Un.any(u:Un fs ex H H1 h h1){b:Addr}{ob:Obj}(q:h.get? b=some ob)(n:H b=none)(hx:b∉ex):∃sl,h1.get? b=some { ob with slots:=sl }:=by
 by_cases hb:b∈fs
 ·exact u.slot b ob q n hb hx
 ·exact⟨ob.slots,u.keep b ob q n hb hx⟩
def Un.kept(k:∀b u,h.get? b=some u->h'.get? b=some u):Un fs ex H H h h':=
 ⟨λb ob q _ _ _=>k b ob q,λb ob q _ _ _=>⟨ob.slots,k b ob q⟩,λ_ _ _ n _=>n,λb ob q _=>⟨ob,k b ob q⟩,λ_ _ q=>q,λ_ _ _ q=>q,λ_ ps q=>⟨#[],by rw[q];simp⟩⟩
def Un.refl:Un fs ex H H h h:=Un.kept λ_ _ q=>q
def Un.laid(k:∀b u,h.get? b=some u->h'.get? b=some u)(hp:h.objs.size<=a)(hn:H a=none):Un fs ex H (upd H a o) h h' where
 keep:=λb u q _ _ _=>k b u q
 slot:=λb u q _ _ _=>⟨u.slots,k b u q⟩
 free:=λb u q n _=>by rw[aC (Nat.ne_of_lt (Nat.lt_of_lt_of_le (Heap.lt_size q) hp))];exact n
 there:=λb u q _=>⟨u,k b u q⟩
 tups:=λb xs q=>by rw[aC (aD q hn)];exact q
 Ia:=λb u xs q=>by rw[aC (aD q hn)];exact q
 Iv:=λb ps q=>⟨#[],by rw[aC (aD q hn),q];simp⟩
def Un.write(c:Mut (H x))(f:e=x\/H e=some (.own x))(k:∀b u,b≠e->h.get? b=some u->h'.get? b=some u)(d:∃u,h'.get? e=some u):Un fs ex H (upd H x o) h h':=by
 have hx:∀b,H b=none->b≠x:=λb n z=>by subst z;rw[n]at c;exact c
 have hb:∀b,H b=none->b≠e:=λb n z=>by
  subst z;rcases f with r | r
  ·exact hx b n r
  ·rw[n]at r;cases r
 have hm:∀b u,H b=some u->¬ Mut (some u)->b≠x:=λb u q nm z=>by subst z;rw[q]at c;exact nm c
 refine⟨λb u q n _ _=>k b u (hb b n) q,λb u q n _ _=>⟨u.slots,k b u (hb b n) q⟩,λb u q n _=>by rw[aC (hx b n)];exact n,λb u q _=>?_,
  λb xs q=>by rw[aC (hm b _ q λz=>z)];exact q,λb u xs q=>by rw[aC (hm b _ q λz=>z)];exact q,λb ps q=>⟨#[],by rw[aC (hm b _ q λz=>z),q];simp⟩⟩
 by_cases a:b=e
 ·subst a;exact d
 ·exact⟨u,k b u a q⟩
end
def trk(h:Heap)(H:Hp):List Addr:=(List.range h.objs.size).filter λa=>(H a).isSome
def Zb2(h:Heap)(H:Hp):Heap:=W.hideAll h (trk h H)
def Zmd(h:Heap)(H:Hp):(Zb2 h H).objs.size=h.objs.size:=W.hideAll_size _ _
def Zq5{h:Heap}{H:Hp}{b:Addr}{o:Obj}(e:h.get? b=some o)(n:H b=none):(Zb2 h H).get? b=some o:=
 W.hideAll_get _ e λhm=>by
  have q:(H b).isSome=true:=(List.mem_filter.mp hm).2;rw[n]at q;simp at q
def Zt0{h:Heap}{H:Hp}{b:Addr}{o:Obj}(e:(Zb2 h H).get? b=some o):h.get? b=some o/\H b=none:=by
 have a:h.get? b=some o:=W.of_hideAll (trk h H) e;refine⟨a,?_⟩;cases q:H b with
 | none=>rfl
 | some x=>
  have hm:b∈trk h H:=List.mem_filter.mpr ⟨List.mem_range.mpr (Heap.lt_size a),by simp[q]⟩;have z:(Zb2 h H).get? b=none:=W.hideAll_none (trk h H) hm;rw[z]at e;cases e
def Zul(g h:Heap)(L:Addr):List (Addr×Obj):=(List.range h.objs.size).filterMap λa=>if a=L\/(g.get? a).isSome=true then none else(h.get? a).map λo=>(a,o)
def rest(g h:Heap)(L d:Addr):List (Addr×Obj):=(Zul g h L).filter λp=>decide (p.1≠d)
end L2
namespace L2
open PySem PySem.Spec PyProof.Rows
structure Mod(K:aB)(mg:Str->Option Value)(base:Heap):Prop where
 kin:K.In base
 glob:base.Ns mainGlobals mg
 blt:∃mb,base.Ns builtinsNs mb/\∀x:Str,x≠"__name__"->mb x=bootBuiltins x
 nolimit:base.NoLimit
structure Cx where
 prog:Program
 w:World
 K:aB
 mg:Str->Option Value
 base:Heap
 A:Around
 N:List Str
 s₀:Shared
 H₀:Hp
 env:Env
 outer:List Env
 stack:List Env
 ex:List Addr
 fn:Str->Bool
 calm:Bool
 pn:List (Addr×Obj)
 xe:Value->Shared->Prop
def frs(l:List Env):List Addr:=l.filterMap (·.frame)
abbrev Cx.fs(X:Cx):List Addr:=frs X.outer
def Vis(a:Scope)(x:Str):Prop:=a.names.lookup x=some .local\/a.names.lookup x=some .cell\/a.names.lookup x=some .free
def Loc(a:Scope)(x:Str):Prop:=a.names.lookup x=some .local\/a.names.lookup x=some .cell
def Look(env:Env)(h:Heap)(m:Str->Option Value)(x:Str)(u:Value):Prop:=
 (env.kindOf x=some .local/\m x=some u)\/((env.kindOf x=some .cell\/env.kindOf x=some .free)/\∃c,env.cells.lookup x=some c/\h.IsCell c (some u))
structure Cx.Ok(X:Cx):Prop where
 mod:Mod X.K X.mg X.base
 kind:X.env.scope.kind=.function
 glob:X.env.globals=mainGlobals
 blt:X.env.builtins=builtinsNs
 above:X.s₀.heap.objs.size<=X.env.locals
 inj:∀x y c,X.env.cells.lookup x=some c->X.env.cells.lookup y=some c->x=y
 has:∀x,(X.env.kindOf x=some .cell\/X.env.kindOf x=some .free)->∃c,X.env.cells.lookup x=some c
 cab:∀x c,X.fn x=true->X.env.cells.lookup x=some c->X.s₀.heap.objs.size<=c
 hd:X.calm=true->X.A.handled=none
 frames:X.A.frames=some X.stack
 stk:X.stack=X.outer\/(X.stack=X.env::X.outer/\X.env.frame=some X.env.locals)
 exf:∀b∈X.ex,b≠X.env.locals/\∀x c,X.env.cells.lookup x=some c->c≠b
 bs:∀b o,X.base.get? b=some o->X.s₀.heap.get? b=some o/\X.H₀ b=none
 bsz:X.base.objs.size<=X.s₀.heap.objs.size
 VJ:∀b o,X.base.get? b=some o->b∉X.ex
 Zeo:∀b∈X.ex,b∉X.fs
 zz:X.s₀.heap.FunFrames X.base X.outer
 frf:∀b∈X.fs,X.H₀ b=none
structure Inv(X:Cx)(pins:List (Addr×Obj))(σ:List (Option V))(H:Hp)(s:Shared):Prop where
 ok:X.Ok
 os:s.os=X.s₀.os
 bare:AllBare s.gens
 base:Un X.fs X.ex X.H₀ H X.s₀.heap s.heap
 loc:∃m,s.heap.Ns X.env.locals m/\∀(i:Nat) (x:Str) (v:V),X.N[i]? =some x->σ[i]? =some (some v)->Vis X.env.scope x->∃u,RelV v u/\Look X.env s.heap m x u
 cell:∀x c,X.env.cells.lookup x=some c->∃v,s.heap.IsCell c v
 free:H X.env.locals=none
 uo:∀x c,X.env.cells.lookup x=some c->H c=none
 pin:∀p∈X.pn++pins,s.heap.get? p.1=some p.2/\H p.1=none/\p.1≠X.env.locals/\p.1∉X.fs/\∀v,p.2.data≠.cell v
 hok:Cm X.prog X.w H s.heap
 len:σ.length=X.N.length
section
variable {X:Cx}{pins:List (Addr×Obj)}{σ:List (Option V)}{H H':Hp}{s:Shared}{h':Heap}
def Cx.Ok.ZAt(ok:X.Ok){b:Addr}{o:Obj}(e:X.base.get? b=some o):b∉X.fs:=λhb=>by
 have:=(ok.zz.mem hb).1;rw[e]at this;cases this
def Inv.bs(I:Inv X pins σ H s):∀b o,X.base.get? b=some o->s.heap.get? b=some o/\H b=none:=λb o e=>
 ⟨I.base.keep b o (I.ok.bs b o e).1 (I.ok.bs b o e).2 (I.ok.ZAt e) (I.ok.VJ b o e),I.base.free b o (I.ok.bs b o e).1 (I.ok.bs b o e).2 (I.ok.VJ b o e)⟩
def Inv.bk(I:Inv X pins σ H s):∀b o,X.base.get? b=some o->s.heap.get? b=some o:=λb o e=>(I.bs b o e).1
def Inv.mod(I:Inv X pins σ H s):Mod X.K X.mg X.base:=I.ok.mod
def Inv.Et(I:Inv X pins σ H s):X.K.In s.heap:=I.ok.mod.kin.keeps I.bk
def Inv.lt(I:Inv X pins σ H s):X.env.locals<s.heap.objs.size:=let ⟨_,hn,_⟩:=I.loc;hn.lt
def Inv.sz(I:Inv X pins σ H s):X.s₀.heap.objs.size<=s.heap.objs.size:=Nat.le_trans I.ok.above (Nat.le_of_lt I.lt)
def Inv.ZAs(I:Inv X pins σ H s){a:Addr}(h:s.heap.objs.size<=a):a∉X.fs:=λhb=>by
 obtain⟨_,o,b,_⟩:=I.ok.zz.mem hb;exact absurd (Nat.lt_of_lt_of_le (Heap.lt_size b) (Nat.le_trans I.sz h)) (Nat.lt_irrefl _)
def Inv.cne(I:Inv X pins σ H s):∀x c,X.env.cells.lookup x=some c->c≠X.env.locals:=λx c e z=>by
 obtain⟨v,o,d,hd⟩:=I.cell x c e;obtain⟨m,⟨g,h,f,b,a,_⟩,_⟩:=I.loc;rw[z,b]at d;cases d;rw[a]at hd;cases hd
def Inv.zz(I:Inv X pins σ H s):s.heap.FunFrames X.base X.outer:=by
 have all:∀(l:List Env),(∀b∈frs l,b∈X.fs)->X.s₀.heap.FunFrames X.base l->s.heap.FunFrames X.base l:=by
  intro l
  induction l with
  | nil=>intro _ _;trivial
  | cons env r f=>
   intro hs hl;obtain⟨hk,⟨L,o,a,hn,d,hd⟩,hr⟩:=hl;have c:L∈X.fs:=hs L (by unfold frs;rw[List.filterMap_cons,a];exact List.mem_cons_self);obtain⟨sl,e⟩:=I.base.slot L o d (I.ok.frf L c) c λz=>I.ok.Zeo L z c;exact⟨hk,⟨L,_,a,hn,e,hd⟩,f (λb hb=>hs b (by unfold frs;rw[List.filterMap_cons,a];exact List.mem_cons_of_mem _ hb)) hr⟩
 exact all X.outer (λ_ hb=>hb) I.ok.zz
def Inv.stack(I:Inv X pins σ H s):s.heap.FunFrames X.base X.stack:=by
 rcases I.ok.stk with e | ⟨e,a⟩
 ·rw[e];exact I.zz
 ·rw[e];obtain⟨m,hn,_⟩:=I.loc;refine .cons (by rw[I.ok.kind];decide) a hn ?_ I.zz;exact Heap.get?_none_of_le (Nat.le_trans I.ok.bsz I.ok.above)
def Inv.Cv(I:Inv X pins σ H s):∀b∈frs X.stack,b∈X.env.locals::X.fs:=λb hb=>by
 rcases I.ok.stk with e | ⟨e,a⟩
 ·rw[e]at hb;exact List.mem_cons_of_mem _ hb
 ·rw[e]at hb;unfold frs at hb;rw[List.filterMap_cons,a]at hb;exact hb
def Inv.Qw(I:Inv X pins σ H s):∀b∈frs X.stack,H b=none:=λb hb=>by
 rcases List.mem_cons.mp (I.Cv b hb)with e | hb
 ·rw[e];exact I.free
 ·obtain⟨_,o,a,_⟩:=I.ok.zz.mem hb;exact I.base.free b o a (I.ok.frf b hb) λz=>I.ok.Zeo b z hb
def Inv.step{g':Array GenState}{t':Nat}{d':Drawn}{ch:List Addr}(I:Inv X pins σ H s)
  (g:∀b∈ch,(b∈X.ex\/X.s₀.heap.objs.size<=b)/\b≠X.env.locals/\(∀x c,X.env.cells.lookup x=some c->c≠b)/\∀p∈X.pn++pins,p.1≠b)
  (keep:∀b o,b≠X.env.locals->b∉X.fs->b∉ch->s.heap.get? b=some o->H b=none->h'.get? b=some o)
  (slot:∀b o,b≠X.env.locals->b∈X.fs->b∉ch->s.heap.get? b=some o->H b=none->∃sl,h'.get? b=some { o with slots:=sl }) (free:∀b o,b∉ch->s.heap.get? b=some o->H b=none->H' b=none)
  (there:∀b o,b∉ch->s.heap.get? b=some o->∃B,h'.get? b=some B)
  (tups:∀b xs,H b=some (.tup xs)->H' b=some (.tup xs)) (Ia:∀b o u,H b=some (.zK o u)->H' b=some (.zK o u)) (Iv:∀b ps,H b=some (.Rc ps)->∃y,H' b=some (.Rc (ps++y)))
  (ns:∀m,s.heap.Ns X.env.locals m->h'.Ns X.env.locals m) (hok:Cm X.prog X.w H' h') (F:AllBare g'):
  Inv X pins σ H' { s with heap:=h',gens:=g',drawn:=d',toks:=t' }:=by
 have A:∀b o,X.s₀.heap.get? b=some o->b≠X.env.locals:=λb o e=>Nat.ne_of_lt (Nat.lt_of_lt_of_le (Heap.lt_size e) I.ok.above);have j:∀b o,X.s₀.heap.get? b=some o->b∉X.ex->b∉ch:=λb o e hx hb=>by
  rcases(g b hb).1 with z | z
  ·exact hx z
  ·exact absurd (Nat.lt_of_lt_of_le (Heap.lt_size e) z) (Nat.lt_irrefl _)
 have f:∀x c,X.env.cells.lookup x=some c->∀v,s.heap.IsCell c v->h'.IsCell c v:=λx c e v ⟨o,t,hd⟩=>by
  have a:c∉ch:=λz=>(g c z).2.2.1 x c e rfl
  by_cases hc:c∈X.fs
  ·obtain⟨sl,q⟩:=slot c o (I.cne x c e) hc a t (I.uo x c e);exact⟨_,q,hd⟩
  ·exact⟨o,keep c o (I.cne x c e) hc a t (I.uo x c e),hd⟩
 refine⟨I.ok,I.os,F,⟨λb o e n hb hx=>?_,λb o e n hb hx=>?_,λb o e n hx=>?_,λb o e hx=>?_,λb xs e=>tups b xs (I.base.tups b xs e),λb o xs e=>Ia b o xs (I.base.Ia b o xs e),λb ps e=>?_⟩,?_,λx c e=>?_,?_,λx c e=>?_,λp hp=>?_,hok,I.len⟩
 ·exact keep b o (A b o e) hb (j b o e hx) (I.base.keep b o e n hb hx) (I.base.free b o e n hx)
 ·obtain⟨sl,h⟩:=I.base.slot b o e n hb hx;obtain⟨D,C⟩:=slot b _ (A b o e) hb (j b o e hx) h (I.base.free b o e n hx);exact⟨D,C⟩
 ·obtain⟨B,h⟩:=I.base.there b o e hx;exact free b B (j b o e hx) h (I.base.free b o e n hx)
 ·obtain⟨B,h⟩:=I.base.there b o e hx;exact there b B (j b o e hx) h
 ·obtain⟨K,h⟩:=I.base.Iv b ps e;obtain⟨J,C⟩:=Iv b _ h;exact⟨K++J,by rw[C,Array.append_assoc]⟩
 ·obtain⟨m,hn,hl⟩:=I.loc;refine⟨m,ns m hn,λi x v h C e3=>?_⟩;obtain⟨u,r,l⟩:=hl i x v h C e3;refine⟨u,r,?_⟩;rcases l with l | ⟨k,c,e,z⟩
  ·exact .inl l
  ·exact .inr ⟨k,c,e,f x c e _ z⟩
 ·obtain⟨v,z⟩:=I.cell x c e;exact⟨v,f x c e v z⟩
 ·obtain⟨m,⟨o,_,_,t,_⟩,_⟩:=I.loc;exact free _ o (λz=>(g _ z).2.1 rfl) t I.free
 ·obtain⟨v,o,t,hd⟩:=I.cell x c e;exact free c o (λz=>(g c z).2.2.1 x c e rfl) t (I.uo x c e)
 ·obtain⟨e,n,ne,E,d⟩:=I.pin p hp;have a:p.1∉ch:=λz=>(g p.1 z).2.2.2 p hp rfl;exact⟨keep p.1 p.2 ne E a e n,free p.1 p.2 a e n,ne,E,d⟩
def Inv.un{t':Nat}(I:Inv X pins σ H s)(u:Un X.fs [] H H' s.heap h')(hok:Cm X.prog X.w H' h'):Inv X pins σ H' { s with heap:=h',toks:=t' }:=by
 obtain⟨m,⟨o,k,i,f,r⟩,_⟩:=id I.loc;obtain⟨sl,h⟩:=u.any f I.free (by simp);exact I.step (g':=s.gens) (d':=s.drawn) (ch:=[]) (λ_ z=>nomatch z) (λb o _ hb _ e n=>u.keep b o e n hb (by simp)) (λb o _ hb _ e n=>u.slot b o e n hb (by simp)) (λb o _ e n=>u.free b o e n (by simp)) (λb o _ e=>u.there b o e (by simp)) u.tups u.Ia u.Iv (λl hm=>by
  obtain⟨j,d,c,a,g⟩:=hm;rw[f]at a;cases a;exact⟨_,d,c,h,g⟩) hok I.bare
def Inv.call{g':Array GenState}{t':Nat}{d':Drawn}{ch:List Addr}(I:Inv X pins σ H s)(u:Un (frs X.stack) ch H H' s.heap h')(hok:Cm X.prog X.w H' h')(k:AllBare g')
  (d:∀b∈ch,(b∈X.ex\/X.s₀.heap.objs.size<=b)/\b≠X.env.locals/\(∀x c,X.env.cells.lookup x=some c->c≠b)/\∀p∈X.pn++pins,p.1≠b):
  Inv X pins σ H' { s with heap:=h',gens:=g',drawn:=d',toks:=t' }:=by
 obtain⟨m,⟨o,t,l,i,r⟩,_⟩:=id I.loc;obtain⟨sl,h⟩:=u.any i I.free λz=>(d _ z).2.1 rfl;exact I.step (ch:=ch) d (λb o h hb hc e n=>u.keep b o e n (λz=>(List.mem_cons.mp (I.Cv b z)).elim h hb) hc) (λb o _ _ hc e n=>u.any e n hc) (λb o hc e n=>u.free b o e n hc) (λb o hc e=>u.there b o e hc) u.tups u.Ia u.Iv (λv hm=>by
  obtain⟨q,g,f,a,j⟩:=hm;rw[i]at a;cases a;exact⟨_,g,f,h,j⟩) hok k
def Inv.turned{t':Nat}{a:Addr}(I:Inv X pins σ H s)(k:∀b o,b≠a->s.heap.get? b=some o->h'.get? b=some o)(hn:H a=none)(f:a≠X.env.locals)
  (h1:a∈X.ex\/X.s₀.heap.objs.size<=a) (h2:∀x c,X.env.cells.lookup x=some c->c≠a) (h3:∀p∈X.pn++pins,p.1≠a):Inv X pins σ H { s with heap:=h',toks:=t' }:=by
 have d:∀b u,H b=some u->b≠a:=λb u e z=>by rw[z,hn]at e;cases e
 refine I.step (g':=s.gens) (d':=s.drawn) (ch:=[a]) (λb hb=>?_) (λb o _ _ hc e _=>k b o (λz=>hc (by simp[z])) e) (λb o _ _ hc e _=>⟨o.slots,k b o (λz=>hc (by simp[z])) e⟩) (λ_ _ _ _ n=>n)
  (λb o hc e=>⟨o,k b o (λz=>hc (by simp[z])) e⟩) (λ_ _ e=>e) (λ_ _ _ e=>e) (λb ps e=>⟨#[],by rw[e];simp⟩) (λm hm=>?_) (λb u e=>?_) I.bare
 ·have e:b=a:=by simpa using hb
  subst e;exact⟨h1,f,h2,h3⟩
 ·obtain⟨o,i,g,h,r⟩:=hm;exact⟨o,i,g,k _ o (Ne.symm f) h,r⟩
 ·refine(I.hok b u e).stay (λc v hc q=>k c v ?_ q) (λ_ q=>q) λ_ _ q=>q;rcases hc with z | z
  ·rw[z];exact d b u e
  ·exact d c _ z
def Inv.tok(I:Inv X pins σ H s)(t:Nat):Inv X pins σ H { s with toks:=t }:=I.un (h':=s.heap) (t':=t) Un.refl I.hok
def Inv.kept{t':Nat}(I:Inv X pins σ H s)(k:∀b u,s.heap.get? b=some u->h'.get? b=some u):Inv X pins σ H { s with heap:=h',toks:=t' }:=I.un (Un.kept k) (I.hok.kept k)
def Inv.laid{a:Addr}{o:HO}{t':Nat}(I:Inv X pins σ H s)(k:∀b u,s.heap.get? b=some u->h'.get? b=some u)(hp:s.heap.objs.size<=a)(new:lA X.prog X.w (upd H a o) h' a o):
  Inv X pins σ (upd H a o) { s with heap:=h',toks:=t' }:=I.un (Un.laid k hp (I.hok.fresh hp)) (I.hok.laid k hp new)
def Inv.write{x e:Addr}{o:HO}{t':Nat}(I:Inv X pins σ H s)(d:Mut (H x))(c:e=x\/H e=some (.own x))(k:∀b u,b≠e->s.heap.get? b=some u->h'.get? b=some u)(a:∃u,h'.get? e=some u)
  (new:lA X.prog X.w (upd H x o) h' x o):Inv X pins σ (upd H x o) { s with heap:=h',toks:=t' }:=I.un (Un.write d c k a) (I.hok.write d c k a new)
def Inv.uQ{a:List (Addr×Obj)}(I:Inv X pins σ H s)(h:∀p∈a,s.heap.get? p.1=some p.2/\H p.1=none/\p.1≠X.env.locals/\p.1∉X.fs/\∀v,p.2.data≠.cell v):Inv X a σ H s:=
 ⟨I.ok,I.os,I.bare,I.base,I.loc,I.cell,I.free,I.uo,λp hp=>(List.mem_append.mp hp).elim (λz=>I.pin p (List.mem_append_left _ z)) (h p),I.hok,I.len⟩
def Zdp{N:List Str}(c:N.Nodup){i j:Nat}{x:Str}(a:N[i]? =some x)(b:N[j]? =some x):i=j:=by
 obtain⟨h1,d⟩:=dH a;obtain⟨h2,e⟩:=dH b;exact(List.getElem_inj c).mp (d.trans e.symm)
def Zkt{M:Model}{A:Around}{E:Value->Shared->Prop}{i:Nat}{x:Str}{v:V}{u:Value}{Q:Unit->Shared->Prop}(I:Inv X pins σ H s)(hN:X.N.Nodup)(F:X.N[i]? =some x)(hx:Loc X.env.scope x)(r:RelV v u)
  (h:∀s',Inv X pins (σ.set i (some v)) H s'->(∃a,Heap.SameBut a s.heap s'.heap/\(a=X.env.locals\/X.env.cells.lookup x=some a))->Q () s') (hf:X.fn x=true\/X.env.scope.names.lookup x=some .local:=by first | exact .inl rfl | exact .inr rfl | assumption):wpAny M A (storeName X.env x u) Q E s:=by
 obtain⟨m,hn,hl⟩:=id I.loc;have L:(X.env.scope.kind == .class || (X.env.scope.kind == .module && X.env.locals != X.env.globals))=false:=by rw[I.ok.kind];rfl
 have B:i < σ.length:=by rw[I.len];exact(dH F).1
 have cne:=I.cne;have g:∀{a:Addr}{h':Heap},(∃o,s.heap.get? a=some o/\H a=none)->Heap.SameBut a s.heap h'->Cm X.prog X.w H h':=λ{a h'} ha hs b ob e=>by
  obtain⟨_,_,l⟩:=ha;refine(I.hok b ob e).stay (λc P hc q=>(hs.2 c ?_).trans q) (λ_ q=>q) λ_ _ q=>q;rintro rfl;rcases hc with rfl | hc
  ·rw[l]at e;cases e
  ·rw[l]at hc;cases hc
 rcases hx with hk | hk
 ·refine wpAny_storeName_local hk hn (λh' Z hs=>?_) L;obtain⟨oL,_,_,Y,_⟩:=id hn;refine h _ ⟨I.ok,I.os,I.bare,⟨λb o e n hb hx=>?_,λb o e n hb hx=>?_,I.base.free,λb o e hx=>?_,I.base.tups,I.base.Ia,I.base.Iv⟩,⟨_,Z,λj y W f t e3=>?_⟩,λy c e=>?_,I.free,I.uo,λp hp=>?_,g ⟨oL,Y,I.free⟩ hs,by simpa using I.len⟩ ⟨_,hs,.inl rfl⟩
  ·exact(hs.2 b (Nat.ne_of_lt (Nat.lt_of_lt_of_le (Heap.lt_size e) I.ok.above))).trans (I.base.keep b o e n hb hx)
  ·obtain⟨sl,f⟩:=I.base.slot b o e n hb hx;exact⟨sl,(hs.2 b (Nat.ne_of_lt (Nat.lt_of_lt_of_le (Heap.lt_size e) I.ok.above))).trans f⟩
  ·obtain⟨R,f⟩:=I.base.there b o e hx;exact⟨R,(hs.2 b (Nat.ne_of_lt (Nat.lt_of_lt_of_le (Heap.lt_size e) I.ok.above))).trans f⟩
  ·by_cases D:j=i
   ·subst D;rw[F]at f;cases f;rw[List.getElem?_set_self B]at t;cases t;exact⟨u,r,.inl ⟨hk,by simp⟩⟩
   ·rw[List.getElem?_set_ne (Ne.symm D)]at t;obtain⟨u',T,q⟩:=hl j y W f t e3;refine⟨u',T,?_⟩;rcases q with ⟨k,e⟩ | ⟨k,c,e,z⟩
    ·refine .inl ⟨k,?_⟩;have:y≠x:=λe=>D (Zdp hN f (e ▸ F));simp[this,e]
    ·exact .inr ⟨k,c,e,z.sameBut hs (cne y c e)⟩
  ·obtain⟨P,z⟩:=I.cell y c e;exact⟨P,z.sameBut hs (cne y c e)⟩
  ·obtain⟨e,n,ne,U,d⟩:=I.pin p hp;exact⟨(hs.2 p.1 ne).trans e,n,ne,U,d⟩
 ·have C:X.fn x=true:=by
   rcases hf with z | z
   ·exact z
   ·rw[z]at hk;cases hk
  obtain⟨c,hc⟩:=I.ok.has x (.inl hk);obtain⟨P,z⟩:=I.cell x c hc;refine wpAny_storeName_cell I.ok.kind hk hc z (λh' K hs=>?_);obtain⟨oc,O,S⟩:=id z;refine h { s with heap:=h' } ⟨I.ok,I.os,I.bare,⟨λb o e n hb hx=>?_,λb o e n hb hx=>?_,I.base.free,λb o e hx=>?_,I.base.tups,I.base.Ia,I.base.Iv⟩,⟨m,hn.sameBut hs (Ne.symm (cne x c hc)),λj y W f t e3=>?_⟩,λy c' e=>?_,I.free,I.uo,λp hp=>?_,g ⟨oc,O,I.uo x c hc⟩ hs,by simpa using I.len⟩ ⟨c,hs,.inr hc⟩
  ·exact(hs.2 b (Nat.ne_of_lt (Nat.lt_of_lt_of_le (Heap.lt_size e) (I.ok.cab x c C hc)))).trans (I.base.keep b o e n hb hx)
  ·obtain⟨sl,f⟩:=I.base.slot b o e n hb hx;exact⟨sl,(hs.2 b (Nat.ne_of_lt (Nat.lt_of_lt_of_le (Heap.lt_size e) (I.ok.cab x c C hc)))).trans f⟩
  ·obtain⟨R,f⟩:=I.base.there b o e hx;exact⟨R,(hs.2 b (Nat.ne_of_lt (Nat.lt_of_lt_of_le (Heap.lt_size e) (I.ok.cab x c C hc)))).trans f⟩
  ·by_cases D:j=i
   ·subst D;rw[F]at f;cases f;rw[List.getElem?_set_self B]at t;cases t;exact⟨u,r,.inr ⟨.inl hk,c,hc,K⟩⟩
   ·rw[List.getElem?_set_ne (Ne.symm D)]at t;obtain⟨u',T,q⟩:=hl j y W f t e3;refine⟨u',T,?_⟩;rcases q with q | ⟨k,c',e,z'⟩
    ·exact .inl q
    ·refine .inr ⟨k,c',e,z'.sameBut hs ?_⟩;rintro rfl;exact D (Zdp hN f (I.ok.inj _ _ _ e hc ▸ F))
  ·by_cases J:c'=c
   ·subst J;exact⟨_,K⟩
   ·obtain⟨w2,z2⟩:=I.cell y c' e;exact⟨w2,z2.sameBut hs J⟩
  ·obtain⟨e,n,ne,U,d⟩:=I.pin p hp;refine⟨(hs.2 p.1 ?_).trans e,n,ne,U,d⟩;intro q;rw[q,O]at e;have q':oc=p.2:=Option.some.inj e;exact d P (by rw[<- q'];exact S)
def IK{M:Model}{A:Around}{E:Value->Shared->Prop}{i:Nat}{x:Str}{v:V}{u:Value}{Q:Unit->Shared->Prop}(I:Inv X pins σ H s)(a:X.N.Nodup)(c:X.N[i]? =some x)(hx:Loc X.env.scope x)(r:RelV v u)
  (h:∀s',Inv X pins (σ.set i (some v)) H s'->Q () s') (d:X.fn x=true\/X.env.scope.names.lookup x=some .local:=by first | exact .inl rfl | exact .inr rfl | assumption):wpAny M A (storeName X.env x u) Q E s:=
 Zkt I a c hx r (λs' b _=>h s' b) d
def Inv.call'{s':Shared}{ch:List Addr}(I:Inv X pins σ H s)(d:s'.os=s.os)(u:Un (frs X.stack) ch H H' s.heap s'.heap)(hok:Cm X.prog X.w H' s'.heap)(g:AllBare s'.gens)
  (a:∀b∈ch,(b∈X.ex\/X.s₀.heap.objs.size<=b)/\b≠X.env.locals/\(∀x c,X.env.cells.lookup x=some c->c≠b)/\∀p∈X.pn++pins,p.1≠b):Inv X pins σ H' s':=by
 obtain⟨h',g',d',t',f⟩:=s';have e:f=s.os:=d;subst e;exact I.call (g':=g') (t':=t') (d':=d') u hok g a
end
abbrev XK:=Value->Option Addr->Hp->Prop
abbrev St:=List (Option V)
abbrev VK:=V->Hp->Prop
abbrev TE:=St->Hp->VK->Prop
abbrev TT:=St->Hp->(Bool->Hp->Prop)->Prop
abbrev TA:=St->Hp->(List V->Hp->Prop)->Prop
structure Ends where
 nx:St->Hp->Prop
 rt:VK
 bk:St->Hp->Prop:=λ_ _=>False
 ct:St->Hp->Prop:=λ_ _=>False
abbrev TS:=Ends->St->Hp->Prop
def EP(X:Cx)(a:List (Addr×Obj))(σ:St)(Q:VK)(u:Value)(s':Shared):Prop:=∃v H',Inv X a σ H' s'/\RelV v u/\Q v H'
def TP(X:Cx)(a:List (Addr×Obj))(σ:St)(Q:Bool->Hp->Prop)(b:Bool)(s':Shared):Prop:=∃H',Inv X a σ H' s'/\Q b H'
def AP(X:Cx)(a:List (Addr×Obj))(σ:St)(Q:List V->Hp->Prop)(us:List Value)(s':Shared):Prop:=∃vs H',Inv X a σ H' s'/\Vals vs us/\Q vs H'
def SP(X:Cx)(b:List (Addr×Obj))(D:Ends)(f:Flow)(s':Shared):Prop:=
 match f with
 | .next=>∃ a H',Inv X b a H' s'/\D.nx a H'
 | .brk=>∃ a H',Inv X b a H' s'/\D.bk a H'
 | .cont=>∃ a H',Inv X b a H' s'/\D.ct a H'
 | .ret u=>∃v a H',Inv X b a H' s'/\RelV v u/\D.rt v H'
def PE(X:Cx)(e:Expr)(t:TE):Prop:=
 ∀(a:List (Addr×Obj)) (s:Shared) (σ:St) (H:Hp) (Q:VK),Inv X a σ H s->t σ H Q->wpAny (model X.prog X.w) X.A (eval e X.env) (EP X a σ Q) X.xe s
def PT(X:Cx)(e:Expr)(t:TT):Prop:=
 ∀(a:List (Addr×Obj)) (s:Shared) (σ:St) (H:Hp) (Q:Bool->Hp->Prop),Inv X a σ H s->t σ H Q->wpAny (model X.prog X.w) X.A (isTrue e X.env (eval e X.env)) (TP X a σ Q) X.xe s
def PW(X:Cx)(e:Expr)(t:TT):Prop:=
 ∀(b:Sem Value) (a:List (Addr×Obj)) (s:Shared) (σ:St) (H:Hp) (Q:Bool->Hp->Prop),Inv X a σ H s->t σ H Q->wpAny (model X.prog X.w) X.A (isTrue e X.env b) (TP X a σ Q) X.xe s
def PW.pt{X:Cx}{e:Expr}{t:TT}(h:PW X e t):PT X e t:=h _
def PA(X:Cx)(c:List Expr)(t:TA):Prop:=
 ∀(b:Pos) (a:List (Addr×Obj)) (s:Shared) (σ:St) (H:Hp) (Q:List V->Hp->Prop),Inv X a σ H s->t σ H Q->wpAny (model X.prog X.w) X.A (spliced (backTo b (starEach c X.env))) (AP X a σ Q) X.xe s
def PS(X:Cx)(st:Stmt)(t:TS):Prop:=
 ∀(a:List (Addr×Obj)) (s:Shared) (σ:St) (H:Hp) (D:Ends),Inv X a σ H s->t D σ H->wpAny (model X.prog X.w) X.A (exec st X.env) (SP X a D) X.xe s
def PSs(X:Cx)(st:List Stmt)(t:TS):Prop:=
 ∀(a:List (Addr×Obj)) (s:Shared) (σ:St) (H:Hp) (D:Ends),Inv X a σ H s->t D σ H->wpAny (model X.prog X.w) X.A (execs st X.env) (SP X a D) X.xe s
def iR{c:Type}{t:Sem c}{Q b:c->Shared->Prop}{M:Model}{A:Around}{E:Value->Shared->Prop}{s:Shared}(h:wpAny M A t Q E s)(d:∀a s,Q a s->b a s):wpAny M A t b E s:=wpAny_mono h d λ_ _ x=>x
end L2
namespace L2
open PySem PySem.Spec PyProof.Rows
section
variable {X:Cx}
def ak(i:Nat):TE:=λσ H Q=>∃v,σ[i]? =some (some v)/\Q v H
def tC(v:V):TE:=λ_ H Q=>Q v H
def Zoa{i:Nat}{x:Str}{d:Pos}(g:X.N[i]? =some x)(hv:Vis X.env.scope x)(hd:(x == ("__debug__":Str))=false:=by decide)(f:(x == ("__classdict__":Str))=false:=by decide):PE X (.Name x d) (ak i):=by
 intro b s σ H Q I h;obtain⟨v,e,h⟩:=h;obtain⟨m,hn,hl⟩:=I.loc;obtain⟨u,r,l⟩:=hl i x v g e hv;have fin:EP X b σ Q u s:=⟨v,H,I,r,h⟩;rcases l with ⟨hk,hm⟩ | ⟨hk,c,hc,a⟩
 ·exact wpAny_Name (wpAny_loadName_local I.ok.kind hk hn hm fin) hd
 ·rcases hk with hk | hk
  ·exact wpAny_Name (wpAny_loadName_cell I.ok.kind hk hc a fin) hd
  ·exact wpAny_Name (wpAny_loadName_free I.ok.kind hk hc a fin f) hd
def az{i j pos}:PE X (.Constant (.int i) j pos) (tC (.int i)):=λ_ _ _ H _ I h=>wpAny_Constant_int ⟨.int i,H,I.tok _,⟨_,rfl⟩,h⟩
def qR{b j pos}:PE X (.Constant (.bool b) j pos) (tC (.bl b)):=λ_ _ _ H _ I h=>Constant_bool ⟨.bl b,H,I,rfl,h⟩
def gn{j pos}:PE X (.Constant .none j pos) (tC .non):=λ_ _ _ H _ I h=>Constant_none ⟨.non,H,I,rfl,h⟩
def bH{x j pos}:PE X (.Constant (.str x) j pos) (tC (.str x)):=λ_ _ _ H _ I h=>Calls.Constant_str ⟨.str x,H,I.tok _,⟨_,rfl⟩,h⟩
def Gl(X:Cx)(x:Str):Prop:=X.env.kindOf x=some .globalImplicit
def uY{E:Value->Shared->Prop}{a:List (Addr×Obj)}{s:Shared}{σ:St}{H:Hp}{x:Str}{u:Value}{b:Pos}{Q:Value->Shared->Prop}(I:Inv X a σ H s)(c:Gl X x)(hm:X.mg x=some u)(h:Q u s)
  (hd:(x == ("__debug__":Str))=false:=by decide):wpAny (model X.prog X.w) X.A (eval (.Name x b) X.env) Q E s:=
 Calls.Name_function_global I.ok.kind c (Calls.loadGlobal_global (by rw[I.ok.glob];exact I.mod.glob.keeps I.bk) hm h) hd
def Te{E:Value->Shared->Prop}{a:List (Addr×Obj)}{s:Shared}{σ:St}{H:Hp}{x:Str}{u:Value}{b:Pos}{Q:Value->Shared->Prop}(I:Inv X a σ H s)(c:Gl X x)(hm:X.mg x=none)(hv:bootBuiltins x=some u)(h:Q u s)
  (hn:x≠"__name__":=by decide) (hd:(x == ("__debug__":Str))=false:=by decide):wpAny (model X.prog X.w) X.A (eval (.Name x b) X.env) Q E s:=by
 obtain⟨d,h1,h2⟩:=I.mod.blt;exact Calls.Name_function_global I.ok.kind c (Calls.loadGlobal_builtin (by rw[I.ok.glob];exact I.mod.glob.keeps I.bk) hm (by rw[I.ok.blt];exact h1.keeps I.bk) ((h2 x hn).trans hv) h) hd
def Zsm{x:Str}{v:V}{u:Value}{a:Pos}(b:Gl X x)(hm:X.mg x=some u)(r:RelV v u)(hd:(x == ("__debug__":Str))=false:=by decide):PE X (.Name x a) (tC v):=
 λ_ _ _ H _ I h=>uY I b hm ⟨v,H,I,r,h⟩ hd
def Bd{x:Str}{v:V}{u:Value}{a:Pos}(b:Gl X x)(hm:X.mg x=none)(hv:bootBuiltins x=some u)(r:RelV v u)(hn:x≠"__name__":=by decide)(hd:(x == ("__debug__":Str))=false:=by decide):PE X (.Name x a) (tC v):=
 λ_ _ _ H _ I h=>Te I b hm hv ⟨v,H,I,r,h⟩ hn hd
variable {a b:Expr}{ta tb:TE}{pos:Pos}
def PC(X:Cx)(f:CmpOp)(a b:Expr)(t:TE):Prop:=
 ∀(c:List (Addr×Obj)) (s:Shared) (σ:St) (H:Hp) (Q:VK),Inv X c σ H s->t σ H Q->
  wpAny (model X.prog X.w) X.A (eval a X.env) (λv d=>wpAny (model X.prog X.w) X.A (eval b X.env) (λu e=>wpAny (model X.prog X.w) X.A (compareOp f v u) (EP X c σ Q) X.xe e) X.xe d) X.xe s
def Zou(b:Expr){a:CmpOp}(h:a≠.In)(h2:a≠.NotIn):behindInMarks a b=false:=by
 have c:(a == CmpOp.In)=false:=by cases a<;>first | rfl | exact absurd rfl h
 have d:(a == CmpOp.NotIn)=false:=by cases a<;>first | rfl | exact absurd rfl h2
 cases b<;>simp[behindInMarks,c,d]
def tB(t:TE):TT:=λσ H Q=>t σ H λx a=>∃c,x=.bl c/\Q c a
def Zo0{f:CmpOp}{t:TE}(h:PC X f a b t)(h1:behindInMarks f b=false:=by first | exact Zou _ (by decide) (by decide) | rfl):PT X (.Compare a [f] [b] pos) (tB t):=by
 intro e s σ H Q I g;refine wpAny_isTrue_Compare1 (iR (h e s σ H _ I g) λv j h1=>iR h1 λu k h2=>iR h2 λc i ⟨x,H1,I1,r1,q1⟩=>?_) h1;obtain⟨d,rfl,q⟩:=q1;cases r1;exact wpAny_truthy_bool ⟨H1,I1,q⟩
def jA{e:Expr}{t:TE}(h:PE X e t)(c:∀a,isTrue e X.env a=(do let v <- a;standAt e.pos;holding [v] (truthy v)):=by intro _;rfl):PT X e (tB t):=by
 intro b s σ H Q I f;refine isTrue_plain (iR (h b s σ H _ I f) λv g ⟨x,H1,I1,r1,q1⟩=>?_) (c _);obtain⟨d,rfl,q⟩:=q1;cases r1;exact wpAny_truthy_bool ⟨H1,I1,q⟩
variable {tA tB':TT}{rest:List Expr}
def Zg0(t u:TT):TT:=λσ H Q=>t σ H λc a=>if c=true then u σ a Q else Q false a
def UT(t u:TT):TT:=λσ H Q=>t σ H λc a=>if c=true then Q true a else u σ a Q
def zL(t:TT):TT:=λσ H Q=>t σ H λc a=>Q (!c) a
def Qy(d:PT X a tA):PW X (.BoolOp .And [a] pos) tA:=by
 intro g b s σ H Q I h;refine isTrue_and (iR (d b s σ H Q I h) λc f e=>?_);cases c with
 | true=>exact isTrue_and_nil e
 | false=>exact e
def pB(d:PT X a tA):PW X (.BoolOp .Or [a] pos) tA:=by
 intro g b s σ H Q I h;refine isTrue_or (iR (d b s σ H Q I h) λc f e=>?_);cases c with
 | false=>exact isTrue_or_nil e
 | true=>exact e
def ZD(g:PT X a tA)(hb:PW X (.BoolOp .And (b::rest) pos) tB'):PW X (.BoolOp .And (a::b::rest) pos) (Zg0 tA tB'):=by
 intro i d s σ H Q I h;refine isTrue_and (iR (g d s σ H _ I h) λc f ⟨e,I1,q1⟩=>?_);cases c with
 | true=>exact hb i d f σ e Q I1 q1
 | false=>exact⟨e,I1,q1⟩
def qQ(g:PT X a tA)(hb:PW X (.BoolOp .Or (b::rest) pos) tB'):PW X (.BoolOp .Or (a::b::rest) pos) (UT tA tB'):=by
 intro i d s σ H Q I h;refine isTrue_or (iR (g d s σ H _ I h) λc f ⟨e,I1,q1⟩=>?_);cases c with
 | true=>exact⟨e,I1,q1⟩
 | false=>exact hb i d f σ e Q I1 q1
def oF(d:PT X a tA):PT X (.UnaryOp .Not a pos) (zL tA):=by
 intro b s σ H Q I h;exact isTrue_not (d b s σ H (λc e=>Q (!c) e) I h)
def Zjn(ta tb:TE):TE:=λσ H Q=>ta σ H λx a=>∃c,x=.bl c/\if c=true then tb σ a Q else Q (.bl false) a
def Zjm(ta:TE):TE:=λσ H Q=>ta σ H λx a=>∃c,x=.bl c/\Q (.bl (!c)) a
def Zoc{op}{t:TE}(h:PE X a t):PE X (.BoolOp op [a] pos) t:=λb s σ H Q I c=>BoolOp_one (h b s σ H Q I c)
def Zoj(g:PE X a ta)(hb:PE X (.BoolOp .And (b::rest) pos) tb):PE X (.BoolOp .And (a::b::rest) pos) (Zjn ta tb):=by
 intro d s σ H Q I h;refine BoolOp_and (iR (g d s σ H _ I h) λv f ⟨x,H1,I1,r1,e⟩=>?_);obtain⟨c,rfl,e⟩:=e;cases r1;refine wpAny_truthy_bool ?_;cases c with
 | true=>exact hb d f σ H1 Q I1 e
 | false=>exact⟨.bl false,H1,I1,rfl,e⟩
def Zod(e:PE X a ta):PE X (.UnaryOp .Not a pos) (Zjm ta):=by
 intro b s σ H Q I h;refine UnaryOp_ (iR (e b s σ H _ I h) λv f ⟨x,H1,I1,r1,d⟩=>?_);obtain⟨c,rfl,d⟩:=d;cases r1;exact not_of (wpAny_truthy_bool ⟨.bl (!c),H1,I1,rfl,d⟩)
def tIf(t:TT)(ta tb:TE):TE:=λσ H Q=>t σ H λc a=>if c=true then ta σ a Q else tb σ a Q
def Zd1{c:Expr}(hc:PT X c tA)(i:PE X a ta)(hb:PE X b tb):PE X (.IfExp c a b pos) (tIf tA ta tb):=by
 intro e s σ H Q I h;refine wpAny_IfExp (iR (hc e s σ H _ I h) λd f ⟨g,I1,q1⟩=>?_);cases d with
 | true=>exact i e f σ g Q I1 q1
 | false=>exact hb e f σ g Q I1 q1
end
end L2
namespace L2
open PySem PySem.Spec PyProof.Rows
def cj(K:aB)(H:Hp)(a:Addr)(xs:List V):Prop:=
 Rd H a (.lst xs)\/
  ∃(o:Obj) (b:Array Value) (n:Nat),K.lookup a=some o/\o.cls=.type "list"/\o.dict=none/\o.data=.seq b n/\b.size<=sizeLine/\Vals xs b.toList
def fZ(K:aB)(H:Hp)(a:Addr)(xs:List V):Prop:=
 Rd H a (.tup xs)\/
  ∃(o:Obj) (b:Array Value) (n:Nat),K.lookup a=some o/\o.cls=.type "tuple"/\o.data=.seq b n/\b.size<=sizeLine/\Vals xs b.toList
def ZJ1:Value->Option V
 | .none=>some .non
 | .bool b=>some (.bl b)
 | .int i _=>some (.int i)
 | .str x _=>some (.str x)
 | .bytes b _=>some (.byt b)
 | .float b _=>some (.flt b)
 | .ref a=>some (.ref a)
 | .type n=>some (.ty n)
 | _=>none
def RelV.abs{x:V}{u:Value}(r:RelV x u):ZJ1 u=some x:=by
 cases x with
 | non=>cases r;rfl
 | bl _=>cases r;rfl
 | int _=>obtain⟨t,rfl⟩:=r;rfl
 | str _=>obtain⟨t,rfl⟩:=r;rfl
 | byt _=>obtain⟨t,rfl⟩:=r;rfl
 | flt _=>obtain⟨t,rfl⟩:=r;rfl
 | ref _=>cases r;rfl
 | ty _=>cases r;rfl
def RelV.inj{x y:V}{u:Value}(r:RelV x u)(q:RelV y u):x=y:=Option.some.inj (r.abs.symm.trans q.abs)
def Vals.inj:∀{xs a:List V}{us:List Value},Vals xs us->Vals a us->xs=a
 | _,_,_,.nil,.nil=>rfl
 | _,_,_,.cons r t,.cons b t'=>by rw[r.inj b,Vals.inj t t']
section
variable {X:Cx}{pins:List (Addr×Obj)}{σ:St}{H:Hp}{s:Shared}{a:Addr}{xs ys:List V}
def cj.of{K:aB}(h:H a=some (.lst xs)):cj K H a xs:=.inl (.inl h)
def fZ.of{K:aB}(h:H a=some (.tup xs)):fZ K H a xs:=.inl (.inl h)
def Inv.list(I:Inv X pins σ H s)(h:cj X.K H a xs):∃b:List Value,Vals xs b/\PlainL s.heap a b.toArray/\xs.length<=sizeLine:=by
 rcases h with h | ⟨o,b,n,hk,hc,hd,hs,hz,r⟩
 ·obtain⟨z,b,n,r,e⟩:=h.ok I.hok;exact⟨b,r,⟨_,n,e,rfl,rfl,rfl⟩,z⟩
 ·refine⟨b.toList,r,⟨o,n,I.Et a o hk,hc,hd,by simpa using hs⟩,?_⟩;have e:=r.length;simp only[Array.length_toList]at e;omega
def Inv.tuple(I:Inv X pins σ H s)(h:fZ X.K H a xs):∃b:List Value,Vals xs b/\IsTup s.heap a b.toArray/\xs.length<=sizeLine:=by
 rcases h with h | ⟨o,b,n,hk,hc,hs,hz,r⟩
 ·obtain⟨z,b,r,p⟩:=h.ok I.hok;exact⟨b,r,p,z⟩
 ·refine⟨b.toList,r,⟨o,I.Et a o hk,hc,n,by simpa using hs⟩,?_⟩;have e:=r.length;simp only[Array.length_toList]at e;omega
def Inv.Zdx(I:Inv X pins σ H s)(h:cj X.K H a xs)(h':cj X.K H a ys):xs=ys:=by
 obtain⟨b,r,⟨o,n,e,_,_,d⟩,_⟩:=I.list h;obtain⟨its',g,⟨i,j,c,_,_,d'⟩,_⟩:=I.list h';rw[e]at c;cases c;rw[d]at d'
 injection d' with f _
 have:b=its':=by simpa using congrArg Array.toList f
 subst this;exact r.inj g
end
abbrev Cx.wish(X:Cx)(E:Value->Shared->Prop):Cx:={ X with xe:=E }
abbrev Cx.nox(X:Cx):Cx:=X.wish λ_ _=>False
def Cx.Ok.wish{X:Cx}(ok:X.Ok)(E:Value->Shared->Prop):(X.wish E).Ok:=
 ⟨ok.mod,ok.kind,ok.glob,ok.blt,ok.above,ok.inj,ok.has,ok.cab,ok.hd,ok.frames,ok.stk,ok.exf,ok.bs,ok.bsz,ok.VJ,ok.Zeo,ok.zz,ok.frf⟩
def Cx.Ok.Cr{X:Cx}{E:Value->Shared->Prop}(ok:(X.wish E).Ok):X.Ok:=
 ⟨ok.mod,ok.kind,ok.glob,ok.blt,ok.above,ok.inj,ok.has,ok.cab,ok.hd,ok.frames,ok.stk,ok.exf,ok.bs,ok.bsz,ok.VJ,ok.Zeo,ok.zz,ok.frf⟩
section
variable {X:Cx}{pins:List (Addr×Obj)}{σ:St}{H:Hp}{s:Shared}{E:Value->Shared->Prop}
def Inv.wish(I:Inv X pins σ H s)(E:Value->Shared->Prop):Inv (X.wish E) pins σ H s:=⟨I.ok.wish E,I.os,I.bare,I.base,I.loc,I.cell,I.free,I.uo,I.pin,I.hok,I.len⟩
def Inv.Cr(I:Inv (X.wish E) pins σ H s):Inv X pins σ H s:=⟨I.ok.Cr,I.os,I.bare,I.base,I.loc,I.cell,I.free,I.uo,I.pin,I.hok,I.len⟩
def SP.Cr{D:Ends}{f:Flow}{s':Shared}(h:SP (X.wish E) pins D f s'):SP X pins D f s':=by
 cases f with
 | next=>obtain⟨a,H',I,q⟩:=h;exact⟨a,H',I.Cr,q⟩
 | brk=>obtain⟨a,H',I,q⟩:=h;exact⟨a,H',I.Cr,q⟩
 | cont=>obtain⟨a,H',I,q⟩:=h;exact⟨a,H',I.Cr,q⟩
 | ret u=>obtain⟨v,a,H',I,r,q⟩:=h;exact⟨v,a,H',I.Cr,r,q⟩
def PSs.nox{st:List Stmt}{t:TS}(h:PSs X.nox st t):PSs X st t:=λpins s σ H D I a=>
 wpAny_mono (h pins s σ H D (I.wish _) a) (λ_ _ q=>q.Cr) λ_ _ z=>False.elim z
end
section
variable {X:Cx}{st:Stmt}{rest:List Stmt}{t u:TS}{e:Expr}{te:TE}{pos:Pos}
def cu:TS:=λD σ H=>D.nx σ H
def aN(t u:TS):TS:=λD σ H=>t { D with nx:=u D } σ H
def bx:PSs X [] cu:=λ_ _ σ H _ I h=>wpAny_execs_nil ⟨σ,H,I,h⟩
def ao(h1:PS X st t)(h2:PSs X rest u):PSs X (st::rest) (aN t u):=by
 intro a s σ H D I h;refine wpAny_execs_cons (iR (h1 a s σ H { D with nx:=u D } I h) λf d q=>?_);cases f with
 | next=>
  obtain⟨b,H',c,q⟩:=q;exact h2 a d b H' D c q
 | ret v=>exact q
 | brk=>exact q
 | cont=>exact q
def aA(h1:PS X st t):PSs X [st] t:=by
 intro a s σ H D I h;refine wpAny_execs_cons (iR (h1 a s σ H D I h) λf b q=>?_);cases f with
 | next=>exact wpAny_execs_nil q
 | ret v=>exact q
 | brk=>exact q
 | cont=>exact q
def Inv.quiet{a:List (Addr×Obj)}{σ:St}{H:Hp}{s:Shared}(I:Inv X a σ H s):interactive X.env=false:=by simp[interactive,I.ok.kind]
def vg(te:TE):TS:=λD σ H=>te σ H λ_ a=>D.nx σ a
def pM(b:PE X e te)(hs:swapsWith e none pos.line X.env=pure false:=by rfl):PS X (.Expr e pos) (vg te):=by
 intro a s σ H D I h;exact wpAny_Expr_any (iR (b a s σ H _ I h) λv c ⟨x,H1,I1,r1,q1⟩=>⟨σ,H1,I1,q1⟩) I.quiet hs
def bG(te:TE):TS:=λD σ H=>te σ H D.rt
def aM(b:PE X e te):PS X (.Return (some e) pos) (bG te):=by
 intro a s σ H D I h;exact wpAny_Return_some (iR (b a s σ H _ I h) λv c ⟨x,H1,I1,r1,q1⟩=>⟨x,σ,H1,I1,r1,q1⟩)
def dY(c:TT)(t u:TS):TS:=λD σ H=>c σ H λb a=>if b=true then t D σ a else u D σ a
def cG{c:Expr}{a b:List Stmt}{tc:TT}(hc:PT X c tc)(i:PSs X a t)(hb:PSs X b u):PS X (.If c a b pos) (dY tc t u):=by
 intro e s σ H D I h;refine wpAny_If (iR (hc e s σ H _ I h) λd g ⟨f,I1,q1⟩=>?_);cases d with
 | true=>exact i e g σ f D I1 q1
 | false=>exact hb e g σ f D I1 q1
end
abbrev TG:=V->St->Hp->(St->Hp->Prop)->Prop
abbrev TGs:=List V->St->Hp->(St->Hp->Prop)->Prop
def PG(X:Cx)(a:Expr)(t:TG):Prop:=
 ∀(b:List (Addr×Obj)) (s:Shared) (σ:St) (H:Hp) (v:V) (u:Value) (Q:St->Hp->Prop),Inv X b σ H s->RelV v u->t v σ H Q->
  wpAny (model X.prog X.w) X.A (assign a X.env u) (λ_ s'=>∃ c H',Inv X b c H' s'/\Q c H') X.xe s
def PGs(X:Cx)(ts:List Expr)(t:TGs):Prop:=
 ∀(a:List (Addr×Obj)) (s:Shared) (σ:St) (H:Hp) (vs:List V) (us:List Value) (Q:St->Hp->Prop),Inv X a σ H s->Vals vs us->t vs σ H Q->
  wpAny (model X.prog X.w) X.A (assignInOrder ((assignEach ts X.env).map (·.2)) us) (λ_ s'=>∃ b H',Inv X a b H' s'/\Q b H') X.xe s
abbrev Zmw:=V->V->V->Hp->(Hp->Prop)->Prop
def Zyf(X:Cx)(t:Zmw):Prop:=
 ∀(a:List (Addr×Obj)) (s:Shared) (σ:St) (H:Hp) (o i v:V) (c b u:Value) (Q:Hp->Prop),Inv X a σ H s->RelV o c->RelV i b->RelV v u->t o i v H Q->
  wpAny (model X.prog X.w) X.A (setItem c b u) (λ_ s'=>∃H',Inv X a σ H' s'/\Q H') X.xe s
abbrev TIp:=V->V->Hp->VK->Prop
def PIp(X:Cx)(b:Operator)(t:TIp):Prop:=
 ∀(a:List (Addr×Obj)) (s:Shared) (σ:St) (H:Hp) (x y:V) (v u:Value) (Q:VK),Inv X a σ H s->RelV x v->RelV y u->t x y H Q->
  wpAny (model X.prog X.w) X.A (inplaceOp b v u) (EP X a σ Q) X.xe s
section
variable {X:Cx}{pos:Pos}
def aO(i:Nat):TG:=λv σ H Q=>Q (σ.set i (some v)) H
def fQ{i:Nat}{x:Str}(b:X.N.Nodup)(e:X.N[i]? =some x)(hx:Loc X.env.scope x)(d:X.fn x=true\/X.env.scope.names.lookup x=some .local:=by first | exact .inl rfl | exact .inr rfl | assumption):PG X (.Name x pos) (aO i):=by
 intro a s σ H v u Q I r h;exact wpAny_assign_Name (IK I b e hx r (λs' c=>⟨_,H,c,h⟩) d)
def Zqg:TGs:=λvs σ H Q=>vs=[]/\Q σ H
def Kc(t:TG)(u:TGs):TGs:=λvs σ H Q=>∃v r,vs=v::r/\t v σ H λa H'=>u r a H' Q
def QB:PGs X [] Zqg:=by
 intro a s σ H vs us Q I r h;obtain⟨e,h⟩:=h;subst e;cases r;exact assignInOrder_nil ⟨σ,H,I,h⟩
def uf{e:Expr}{b:List Expr}{t:TG}{u:TGs}(h1:PG X e t)(h2:PGs X b u)
  (hs:(assignEach (e::b) X.env).map (·.2)=assign e X.env::(assignEach b X.env).map (·.2):=by rfl):PGs X (e::b) (Kc t u):=by
 intro a s σ H vs us Q I r h;obtain⟨v,i,d,h⟩:=h;subst d;cases r with
 | cons r g=>
  rw[hs];refine assignInOrder_cons (iR (h1 a s σ H _ _ _ I r h) λ_ f ⟨c,H1,I1,q1⟩=>?_);exact h2 a f c H1 _ _ Q I1 g q1
def Zqf(K:aB)(n:Nat)(t:TGs):TG:=λv σ H Q=>∃a xs,v=.ref a/\fZ K H a xs/\xs.length=n/\t xs σ H Q
def ZJ{d:List Expr}{k:Nat}{t:TGs}{n:Nat}(hc:X.calm=true)(h:PGs X d t)
  (hn:(assignEach d X.env).length=n:=by rfl) (f:(assignEach d X.env).findIdx? (·.1)=none:=by rfl):PG X (.Tuple d k pos) (Zqf X.K n t):=by
 intro c s σ H v u Q I r g;obtain⟨a,xs,m,hq,hl,g⟩:=g;subst m;cases r;obtain⟨p,i,j,hz⟩:=I.tuple hq;refine assign_Tuple_tuple (I.ok.hd hc) j (by simp[hn,<- hl,i.length]) f λh' hx=>?_;have l:Inv X c σ H { s with heap:=h' }:=I.kept (t':=s.toks) λb o e=>hx b o (Nat.ne_of_lt (Heap.lt_size e)) e;exact h c _ σ H xs _ Q l (by simpa using i) g
def TY(to d:TE)(t:Zmw):TG:=λv σ H Q=>to σ H λo c=>d σ c λi b=>t o i v b λa=>Q σ a
def Bb{o i:Expr}{to d:TE}{t:Zmw}(f:PE X o to)(g:PE X i d)(hs:Zyf X t)
  (l:∀v,assign (.Subscript o i pos) X.env v=(do
   let b <- holding [v] (eval o X.env)
   let c <- holding [v,b] (eval i X.env)
   standAt pos
   holding [v,b,c] (setItem b c v)
   release [v,b,c] []):=by intro _;rfl):PG X (.Subscript o i pos) (TY to d t):=by
 intro a s σ H v u Q I r h;rw[l];refine wpAny_bind (wpAny_holding (iR (f a s σ H _ I h) λb j ⟨x,H1,I1,r1,q1⟩=>?_));refine wpAny_bind (wpAny_holding (iR (g a j σ H1 _ I1 q1) λc k ⟨y,H2,I2,r2,q2⟩=>?_));refine wpAny_bind (wpAny_standAt (wpAny_bind (wpAny_holding (iR (hs a k σ H2 x y v b c u _ I2 r1 r2 r q2) λ_ m ⟨e,I3,q3⟩=>?_))));exact wpAny_release ⟨σ,e,I3,q3⟩
def bF(a:TE)(g:TG):TS:=λD σ H=>a σ H λx b=>g x σ b D.nx
def Ba{tg e:Expr}{b:TE}{g:TG}(c:PE X e b)(d:PG X tg g)(hs:swapsWithSole [tg] e pos.line X.env=pure false:=by rfl)(i:swappedStores [tg] e X.env=pure none:=by rfl)
  (h1:(assignEach [tg] X.env).map (·.2)=[assign tg X.env]:=by rfl):PS X (.Assign [tg] e pos) (bF b g):=by
 intro a s σ H D I h;refine wpAny_Assign_stores (iR (c a s σ H _ I h) λv f ⟨x,H1,I1,r1,q1⟩=>?_) hs i;rw[h1];exact iR (d a f σ H1 x v _ I1 r1 q1) λ_ j q=>q
def RW{i:Nat}{x:Str}{e:Expr}{c:TE}{a:Pos}(d:X.N.Nodup)(g:X.N[i]? =some x)(hx:Loc X.env.scope x)(f:PE X e c)(hs:swapsWith e (some (.Name x a)) pos.line X.env=pure false:=by rfl)(k:X.fn x=true\/X.env.scope.names.lookup x=some .local:=by first | exact .inl rfl | exact .inr rfl | assumption):
  PS X (.Assign [.Name x a] e pos) (bF c (aO i)):=by
 intro b s σ H D I h;refine wpAny_Assign_Name (iR (f b s σ H _ I h) λv l ⟨y,H1,I1,r1,q1⟩=>?_) hs;exact IK I1 d g hx r1 (λm j=>⟨_,H1,j,q1⟩) k
def Zvi(i:Nat)(c:TE)(b:TIp):TS:=λD σ H=>∃x,σ[i]? =some (some x)/\c σ H λy d=>b x y d λz a=>D.nx (σ.set i (some z)) a
def Zw1{i:Nat}{x:Str}{e:Expr}{p:TE}{j:Operator}{q:TIp}{g:Pos}(t:X.N.Nodup)(o:X.N[i]? =some x)(hx:Loc X.env.scope x)(C:PE X e p)(E:PIp X j q)(J:X.fn x=true\/X.env.scope.names.lookup x=some .local:=by first | exact .inl rfl | exact .inr rfl | assumption):
  PS X (.AugAssign (.Name x g) j e pos) (Zvi i p q):=by
 intro a s σ H D I h;obtain⟨v,F,h⟩:=h;obtain⟨m,hn,hl⟩:=I.loc;have n:Vis X.env.scope x:=by rcases hx with k | k;exact .inl k;exact .inr (.inl k)
 obtain⟨u,r,l⟩:=hl i x v o F n;refine wpAny_AugAssign_Name ?_;have go:wpAny (model X.prog X.w) X.A (eval e X.env) (λw f=>wpAny (model X.prog X.w) X.A (inplaceOp j u w) (λr d=>wpAny (model X.prog X.w) X.A (storeName X.env x r) (λ_=>SP X a D .next) X.xe d) X.xe f) X.xe s:=by
  refine iR (C a s σ H _ I h) λw K ⟨y,H1,I1,r1,q1⟩=>?_;refine iR (E a K σ H1 v y u w _ I1 r r1 q1) λz O ⟨L,H2,I2,r2,q2⟩=>?_;exact IK I2 t o hx r2 (λM B=>⟨_,H2,B,q2⟩) J
 rcases l with ⟨hk,hm⟩ | ⟨hk,c,hc,b⟩
 ·exact wpAny_loadName_local I.ok.kind hk hn hm go
 ·rcases hk with hk | hk
  ·exact wpAny_loadName_cell I.ok.kind hk hc b go
  ·rcases hx with k | k
   ·have:X.env.scope.names.lookup x=some .free:=hk;rw[k]at this;cases this
   ·have:X.env.scope.names.lookup x=some .free:=hk;rw[k]at this;cases this
def Zne(to l j:TE)(b:V->V->Hp->VK->Prop)(c:TIp)(a:Zmw):TS:=λD σ H=>to σ H λo f=>l σ f λi g=>b o i g λx d=>j σ d λy k=>c x y k λz h=>a o i z h λe=>D.nx σ e
def ZAh(X:Cx)(t:V->V->Hp->VK->Prop):Prop:=
 ∀(a:List (Addr×Obj)) (s:Shared) (σ:St) (H:Hp) (o i:V) (c b:Value) (Q:VK),Inv X a σ H s->RelV o c->RelV i b->t o i H Q->
  wpAny (model X.prog X.w) X.A (getItem c b) (EP X a σ Q) X.xe s
def Zs7{o i e:Expr}{to p m:TE}{f:V->V->Hp->VK->Prop}{g:TIp}{d:Zmw}{l:Operator}{j:Pos}(w:PE X o to)(x:PE X i p)(z:ZAh X f)(u:PE X e m)(hp:PIp X l g)(hs:Zyf X d)
  (J:∀c b new,augStore i c b new=(do holding [new,c,b] (setItem c b new);release [new,c,b] [];pure .next):=by intros;rfl):PS X (.AugAssign (.Subscript o i j) l e pos) (Zne to p m f g d):=by
 intro a s σ H D I h;refine wpAny_AugAssign_SubscriptAny (iR (w a s σ H _ I h) λc C ⟨n,H1,I1,r1,q1⟩=>?_) J;refine iR (x a C σ H1 _ I1 q1) λb F ⟨k,H2,I2,r2,q2⟩=>?_;refine iR (z a F σ H2 n k c b _ I2 r1 r2 q2) λold y ⟨E,H3,I3,r3,q3⟩=>?_;refine iR (u a y σ H3 _ I3 q3) λv r ⟨q,H4,I4,r4,q4⟩=>?_;refine iR (hp a r σ H4 E q old v _ I4 r3 r4 q4) λnew B ⟨A,H5,I5,r5,q5⟩=>?_;exact iR (hs a B σ H5 n k A c b new _ I5 r1 r2 r5 q5) λ_ K ⟨t,I6,q6⟩=>⟨σ,t,I6,q6⟩
def ipI(f:Int->Int->Int):TIp:=λx y H Q=>∃i j,x=.int i/\y=.int j/\Q (.int (f i j)) H
def Zps:PIp X .Add (ipI λi j=>i+j):=by
 intro a s σ H x y v u Q I d b h;obtain⟨i,j,c,e,q⟩:=h;subst c;subst e;obtain⟨t,rfl⟩:=d;obtain⟨t',rfl⟩:=b;exact iadd_int ⟨.int _,H,I.tok _,⟨_,rfl⟩,q⟩
end
section
variable {X:Cx}{pos:Pos}
def Zn8(c:TT)(f:TS):TS:=λD σ H=>∃W:Nat->St->Hp->Prop,(∃m,W m σ H)/\∀m σ H,W m σ H->
 c σ H λb e=>if b=true then ∃N:St->Hp->Prop,(∀ a H',N a H'->∃d,d<m/\W d a H')/\f { D with nx:=N,ct:=N,bk:=D.nx } σ e else D.nx σ e
def Zo1{c:Expr}{g:List Stmt}{tc:TT}{t:TS}(hp:PassesOwn (model X.prog X.w) X.A X.env X.xe)(hc:PT X c tc)(hb:PSs X g t):PS X (.While c g [] pos) (Zn8 tc t):=by
 intro a s σ H D I h;obtain⟨W,⟨u,w0⟩,turn⟩:=h;refine wpAny_While (codeAny_whileLoop (λn s'=>∃ j H',Inv X a j H' s'/\W n j H') ?_ u ⟨σ,H,I,w0⟩);rintro n y ⟨e,q,x,B⟩;refine wpAny_passesOwn hp (iR (hc a y e q _ x (turn n e q B)) λb z ⟨r,I2,k⟩=>?_);cases b with
 | true=>
  obtain⟨N,p,k⟩:=k;rw[if_pos rfl];refine wpAny_passesOwn hp (iR (hb a z e r _ I2 k) λf C l=>?_);cases f with
  | next=>
   obtain⟨d,i,m,n3⟩:=l;obtain⟨o,hm,w3⟩:=p d i n3;exact⟨o,hm,d,i,m,w3⟩
  | cont=>
   obtain⟨d,i,m,n3⟩:=l;obtain⟨o,hm,w3⟩:=p d i n3;exact⟨o,hm,d,i,m,w3⟩
  | brk=>exact l
  | ret v=>exact l
 | false=>
  rw[if_neg Bool.false_ne_true];exact wpAny_execs_nil ⟨e,r,I2,k⟩
end
structure It where
 go:Nat->Hp->Prop
 yld:Nat->Hp->V->Hp->Prop
 stop:Nat->Hp->Prop
def rH(X:Cx)(a:List (Addr×Obj))(H:Hp)(b:Addr):Prop:=
 H b=none/\b≠X.env.locals/\b∉X.fs/\(b∈X.ex\/X.s₀.heap.objs.size<=b)/\(∀x c,X.env.cells.lookup x=some c->c≠b)/\∀p∈X.pn++a,p.1≠b
def Inv.Zek{X:Cx}{a:List (Addr×Obj)}{σ:St}{H H':Hp}{s:Shared}{b:Addr}(I:Inv X a σ H s)(hb:s.heap.objs.size<=b)(hn:H' b=none):rH X a H' b:=by
 refine⟨hn,Nat.ne_of_gt (Nat.lt_of_lt_of_le I.lt hb),I.ZAs hb,.inr (Nat.le_trans I.sz hb),λx c e z=>?_,λp hp z=>?_⟩
 ·obtain⟨v,q⟩:=I.cell x c e;exact absurd (Nat.lt_of_lt_of_le q.lt (by rw[z];exact hb)) (Nat.lt_irrefl _)
 ·exact absurd (Nat.lt_of_lt_of_le (Heap.lt_size (I.pin p hp).1) (by rw[z];exact hb)) (Nat.lt_irrefl _)
structure Turn(P:Program)(w:World)(K:aB)(tg:Expr)(J:It)(fp:List Addr)(it:Addr)(tn:Nat->Heap->Prop):Prop where
  mem:it∈fp
  obj:∀i h,tn i h->∀b∈fp,∃o,h.get? b=some o/\∀v,o.data≠.cell v
  keep:∀i h h',tn i h->(∀b∈fp,∀o,h.get? b=some o->h'.get? b=some o)->tn i h'
  item:∀(X:Cx),X.prog=P->X.w=w->X.K=K->X.calm=true->∀(i:Nat) (pins:List (Addr×Obj)) (s:Shared) (σ:St) (H:Hp) (E:Value->Shared->Prop),Inv X pins σ H s->(∀b∈fp,rH X pins H b)->tn i s.heap->J.go i H->
    wpAny (model P w) X.A (pyNext (.ref it)) (λr s1=>∃u,r=some u/\
      wpAny (model P w) X.A (letOwnedTupleGo tg (.ref it) u) (λ_ s2=>∃x H',Inv X pins σ H' s2/\RelV x u/\J.yld i H x H'/\tn (i+1) s2.heap/\∀b∈fp,H' b=none) E s1) E s
  done:∀(X:Cx),X.prog=P->X.w=w->X.K=K->X.calm=true->∀(i:Nat) (pins:List (Addr×Obj)) (s:Shared) (σ:St) (H:Hp) (E:Value->Shared->Prop),Inv X pins σ H s->(∀b∈fp,rH X pins H b)->tn i s.heap->J.stop i H->
    wpAny (model P w) X.A (pyNext (.ref it)) (λr s1=>r=none/\Inv X pins σ H s1) E s
  self:∀(A:Around) (i:Nat) (s:Shared) (Q:Value->Shared->Prop) (E:Value->Shared->Prop),tn i s.heap->Q (.ref it) s->wpAny (model P w) A (pyIter (.ref it)) Q E s
abbrev TI:=St->Hp->(It->Hp->Prop)->Prop
def PIE(X:Cx)(a:List (Addr×Obj))(σ:St)(tg:Expr)(R:It->Hp->Prop)(c:Value)(e:Shared):Prop:=
 ∃(f:Addr) (d:List Addr) (tn:Nat->Heap->Prop) (J:It) (H':Hp),c=.ref f/\Inv X a σ H' e/\Turn X.prog X.w X.K tg J d f tn/\tn 0 e.heap/\(∀b∈d,rH X a H' b)/\R J H'
def PI(X:Cx)(tg iter:Expr)(b:TI):Prop:=
 ∀(a:List (Addr×Obj)) (s:Shared) (σ:St) (H:Hp) (R:It->Hp->Prop),Inv X a σ H s->b σ H R->
  wpAny (model X.prog X.w) X.A (eval iter X.env) (λv c=>wpAny (model X.prog X.w) X.A (pyIter v) (PIE X a σ tg R) X.xe c) X.xe s
def Zqc{M:Model}{A:Around}{E:Value->Shared->Prop}{s:Shared}{tg:Expr}{b:Addr}{u:Value}{o:Obj}{n:String}{vs:Array Value}{Q:Unit->Shared->Prop}(c:s.heap.get? b=some o)(hc:o.cls=.type n)(hd:o.data=.fields vs)
    (hn:["enumerate","zip","dict_itemiterator","dict_reverseitemiterator","odict_iterator","itertools.zip_longest","itertools.pairwise"].contains n=false) (a:Q () s):wpAny M A (letOwnedTupleGo tg (.ref b) u) Q E s:=by
  unfold letOwnedTupleGo;cases tg<;>first
    | exact wpAny_pure a
    | (cases u<;>first
        | exact wpAny_pure a
        | (refine wpAny_bind (wpAny_load c ?_)
           rw[hc,hd];show wpAny M A (if (["enumerate","zip","dict_itemiterator","dict_reverseitemiterator","odict_iterator","itertools.zip_longest","itertools.pairwise"].contains n && vs[0]? == some (rawInt _))=true then _ else _) Q E s;rw[if_neg (by intro h;rw[hn,Bool.false_and]at h;cases h)];exact wpAny_pure a))
def Itl(K:aB)(a:Addr):It:=
 ⟨λi H=>∃xs x,cj K H a xs/\xs[i]? =some x,λi H x H'=>H'=H/\∀xs,cj K H a xs->xs[i]? =some x,λi H=>∃xs,cj K H a xs/\xs.length<=i⟩
def Itr(lo:Int)(n:Nat):It:=⟨λi _=>i<n,λi H x H'=>H'=H/\x=.int (lo+i),λi _=>n<=i⟩
def Zkp{P:Program}{w:World}{K:aB}{tg:Expr}(a g:Addr):Turn P w K tg (Itl K a) [g] g (λi h=>h.IsListIter g a i) where
  mem:=by simp
  obj:=λi h st b hb=>by
    have e:b=g:=by simpa using hb
    subst e;obtain⟨o,e,c,d⟩:=st;exact⟨o,e,λv z=>by rw[d]at z;cases z⟩
  keep:=λi h h' st k=>st.at λo e=>k g (by simp) o e
  item:=by
    intro X B D m hc i f s σ H E I l st n;subst B D m;obtain⟨xs,x,hq,hx⟩:=n;obtain⟨A,t,p,hz⟩:=I.list hq;obtain⟨u,hu,N⟩:=t.get hx;obtain⟨y,C,M,F,q,r⟩:=l g (by simp);refine wpAny_pyNext_list_item st p.isList (x:=u) (by simpa using hu) λh' j sb=>?_;have J:Inv X f σ H { s with heap:=h' }:=I.turned (t':=s.toks) (λb o hb e=>(sb.2 b hb).trans e) y C F q r;obtain⟨o,e,c,d⟩:=id j;exact⟨u,rfl,Zqc (s:={ s with heap:=h' }) e c d (by decide) ⟨x,H,J,N,⟨rfl,λO hy=>by rw[I.Zdx hy hq];exact hx⟩,j,λb hb=>(l b hb).1⟩⟩
  done:=by
    intro X B D m hc i f s σ H E I l st n;subst B D m;obtain⟨xs,hq,hx⟩:=n;obtain⟨A,t,p,hz⟩:=I.list hq;obtain⟨y,C,M,F,q,r⟩:=l g (by simp);have hl:=t.length;exact wpAny_pyNext_list_end (I.ok.hd hc) st p.isList (by simp;omega) λh' L=>⟨rfl,I.turned (t':=s.toks) (λb o hb e=>L b o hb e) y C F q r⟩
  self:=λ_ _ _ _ _ st h=>wpAny_pyIter_listiter st h
def Zfr{P:Program}{w:World}{K:aB}{tg:Expr}(c:Addr)(lo:Int)(n:Nat):Turn P w K tg (Itr lo n) [c] c (λi h=>IsRangeIter h c (lo+(i:Nat) * 1) ((n:Int) - (i:Nat)) 1) where
  mem:=by simp
  obj:=λi h st b hb=>by
    have e:b=c:=by simpa using hb
    subst e;exact⟨_,st,λv z=>by
      have C:Data.fields _=Data.cell v:=z;cases C⟩
  keep:=λi h h' st k=>k c (by simp) _ st
  item:=by
    intro X q u g hc i a s σ H E I f st j;subst q u g;obtain⟨p,r,B,x,l,m⟩:=f c (by simp);have W:=Walks.range (prog:=X.prog) (w:=X.w) (I.ok.hd hc) c lo 1 n;refine W.item i s _ _ j st λv h' tk hv d kk=>?_;obtain⟨t,rfl⟩:=hv;have y:Inv X a σ H { s with heap:=h',toks:=tk }:=I.turned (λb o hb e=>kk b o (by simpa using hb) e) p r x l m;refine⟨_,rfl,Zqc (s:={ s with heap:=h',toks:=tk }) (n:="range_iterator") d rfl rfl (by decide) ⟨.int (lo+i),H,y,⟨t,?_⟩,⟨rfl,rfl⟩,d,λb hb=>(f b hb).1⟩⟩;rw[Int.mul_one]
  done:=by
    intro X q u g hc i a s σ H E I f st j;subst q u g;obtain⟨p,r,B,x,l,m⟩:=f c (by simp);exact wpAny_pyNext_range_end (I.ok.hd hc) st (by have:n<=i:=j;omega) λh' A=>⟨rfl,I.turned (t':=s.toks) (λb o hb e=>A b o hb e) p r x l m⟩
  self:=λ_ _ _ _ _ st h=>wpAny_pyIter_rangeiter st h
end L2
namespace L2
open PySem PySem.Spec PyProof.Rows
section
variable {X:Cx}{tg:Expr}
def pG(K:aB)(tl:TE):TI:=λσ H R=>tl σ H λx b=>∃a,x=.ref a/\(∃xs,cj K b a xs)/\R (Itl K a) b
def jF{l:Expr}{tl:TE}(hl:PE X l tl):PI X tg l (pG X.K tl):=by
 intro c s σ H R I h;refine iR (hl c s σ H _ I h) λv d ⟨x,H1,I1,r1,q1⟩=>?_;obtain⟨a,e,⟨xs,hq⟩,q⟩:=q1;subst e;cases r1;obtain⟨f,g,p,hz⟩:=I1.list hq;refine wpAny_pyIter_list p.isList ?_;refine⟨d.heap.objs.size,[d.heap.objs.size],_,_,H1,rfl,I1.kept (t':=d.toks) λb o e=>Heap.get?_push_of_some _ e,Zkp a _,⟨_,Heap.get?_push_size _ rfl,rfl,rfl⟩,λb hb=>?_,q⟩;have e:b=d.heap.objs.size:=by simpa using hb
 subst e;exact I1.Zek (Nat.le_refl _) (I1.hok.fresh (Nat.le_refl _))
def Zns{c:List (Addr×Obj)}{σ:St}{H:Hp}{s:Shared}{R:It->Hp->Prop}{E:Value->Shared->Prop}{lo a:Int}{t u v:Tok}{tk:Nat}(I:Inv X c σ H s)(h1:-(2 ^ 62)<=lo)(h2:lo<2 ^ 62)(h3:-(2 ^ 62)<=a)(h4:a<2 ^ 62)
  (q:R (Itr lo (a - lo).toNat) H):wpAny (model X.prog X.w) X.A (pyIter (.ref s.heap.objs.size)) (PIE X c σ tg R) E { s with heap:=s.heap.push { cls:=.type "range",data:=.fields #[.int lo t,.int a u,.int 1 v] },toks:=tk }:=by
 refine wpAny_pyIter_range (IsRange.new ..) (small_one h1 h2 h3 h4) ?_;have d:Inv X c σ H { s with heap:=s.heap.push { cls:=.type "range",data:=.fields #[.int lo t,.int a u,.int 1 v] },toks:=tk }:=I.kept λb o e=>Heap.get?_push_of_some _ e;refine⟨(s.heap.push { cls:=.type "range",data:=.fields #[.int lo t,.int a u,.int 1 v] }).objs.size,[(s.heap.push { cls:=.type "range",data:=.fields #[.int lo t,.int a u,.int 1 v] }).objs.size],_,_,H,rfl,
  d.kept (t':=tk) λb o e=>Heap.get?_push_of_some _ e,Zfr _ lo (a - lo).toNat,?_,λb hb=>?_,q⟩
 ·have f:lo+((0:Nat):Int) * 1=lo:=by simp
  have g:(((a - lo).toNat:Nat):Int) - ((0:Nat):Int)=Builtin.Range.rangeSize lo a 1:=by rw[rangeSize_one];split<;>omega
  show IsRangeIter _ _ (lo+((0:Nat):Int) * 1) ((((a - lo).toNat:Nat):Int) - ((0:Nat):Int)) 1;rw[f,g];exact Heap.get?_push_size _ rfl
 ·have e:b=(s.heap.push { cls:=.type "range",data:=.fields #[.int lo t,.int a u,.int 1 v] }).objs.size:=by simpa using hb
  subst e;exact d.Zek (Nat.le_refl _) (d.hok.fresh (Nat.le_refl _))
def J9(a:TA):TI:=λσ H R=>a σ H λvs b=>∃j:Int,vs=[.int j]/\-(2 ^ 62)<=j/\j<2 ^ 62/\R (Itr 0 j.toNat) b
def sG{a:Expr}{f:TA}{p b:Pos}(g:Gl X "range")(hm:X.mg "range"=none)(l:PA X [a] f)(hs:starEach [a] X.env=[(false,eval a X.env)]:=by rfl):PI X tg (.Call (.Name "range" p) [a] [] b) (J9 f):=by
 intro c s σ H R I h;refine Call_ (Te I g hm boot_range (PyProof.Rows.callWith_type1 (iR (l b c s σ H _ I h) λus m ⟨vs,H1,I1,r1,d⟩=>?_) hs rfl));obtain⟨j,e,d,i,q⟩:=d;subst e;cases r1 with
 | cons r k=>
  cases k;obtain⟨t,rfl⟩:=r;exact call_range_1 (Zns I1 (by omega) (by omega) d i (by simpa using q))
def yW(f:TI)(g:TG)(h:TS):TS:=λD σ H=>f σ H λJ d=>∃W:Nat->Nat->St->Hp->Prop,(∃m,W 0 m σ d)/\∀i m σ H,W i m σ H->
 (J.stop i H/\D.nx σ H)\/(J.go i H/\∃N:St->Hp->Prop,(∀ a H',N a H'->∃c,c<m/\W (i+1) c a H')/\∀x H',J.yld i H x H'->g x σ H' λb e=>h { D with nx:=N,ct:=N,bk:=D.nx } b e)
def yr(a:List Addr)(h:Heap):List (Addr×Obj):=a.filterMap λb=>(h.get? b).map λo=>(b,o)
def oH{a:List Addr}{h:Heap}{b:Addr}{o:Obj}(hb:b∈a)(e:h.get? b=some o):(b,o)∈yr a h:=List.mem_filterMap.mpr ⟨b,hb,by rw[e];rfl⟩
def Mv{a:List Addr}{h:Heap}{p:Addr×Obj}(hp:p∈yr a h):p.1∈a/\h.get? p.1=some p.2:=by
 obtain⟨b,hb,e⟩:=List.mem_filterMap.mp hp;cases q:h.get? b with
 | none=>rw[q]at e;cases e
 | some o=>
  rw[q]at e;have c:(b,o)=p:=Option.some.inj e;subst c;exact⟨hb,q⟩
def Inv.pinned{a:List (Addr×Obj)}{σ:St}{H:Hp}{s:Shared}{c:List Addr}(I:Inv X a σ H s)(h:∀b∈c,rH X a H b)(g:∀b∈c,∃o,s.heap.get? b=some o/\∀v,o.data≠.cell v):Inv X (a++yr c s.heap) σ H s:=
 I.uQ λp hp=>(List.mem_append.mp hp).elim (λz=>I.pin p (List.mem_append_right _ z)) λz=>by
  obtain⟨hb,e⟩:=Mv z;obtain⟨j,k,i,_⟩:=h p.1 hb;obtain⟨o,f,d⟩:=g p.1 hb;rw[e]at f;cases f;exact⟨e,j,k,i,d⟩
def Inv.Io{a pl:List (Addr×Obj)}{σ:St}{H:Hp}{s:Shared}(I:Inv X (a++pl) σ H s):Inv X a σ H s:=I.uQ λp hp=>I.pin p (List.mem_append_right _ (List.mem_append_left _ hp))
def nR{iter:Expr}{t:List Stmt}{P:TI}{g:TG}{V:TS}{F:Pos}(hp:PassesOwn (model X.prog X.w) X.A X.env X.xe)(hc:X.calm=true)(hi:PI X tg iter P)(hg:PG X tg g)(hb:PSs X t V)
  (hs:∀x,foldedSetIterable iter X.env x=pure x:=by intro _;rfl):PS X (.For tg iter t [] F) (yW P g V):=by
 intro a s σ H D I h;refine wpAny_For (iR (hi a s σ H _ I h) λv s1 h1=>iR h1 λitv s2 h2=>?_) hs;obtain⟨it,B,tn,J,H2,e,I2,T,L,S,W,⟨Y,w0⟩,turn⟩:=h2;subst e;have q:∀{H':Hp},(∀b∈B,H' b=none)->∀b∈B,rH X a H' b:=λhn b hb=>⟨hn b hb,(S b hb).2⟩;refine codeAny_forLoop_any (λn s'=>∃i p H',Inv X a p H' s'/\tn i s'.heap/\(∀b∈B,H' b=none)/\W i n p H') ?_ Y ⟨0,σ,H2,I2,L,λb hb=>(S b hb).1,w0⟩;rintro n R ⟨i,k,E,Q,C,z,w3⟩;rcases turn i n k E w3 with ⟨stop,qn⟩ | ⟨go,N,hN,step⟩
 ·refine wpAny_passesOwn hp (iR (T.done X rfl rfl rfl hc i a R k E X.xe Q (q z) C stop) λr s4 ⟨hr,I4⟩=>?_);subst hr;exact wpAny_execs_nil ⟨k,E,I4,qn⟩
 ·refine wpAny_passesOwn hp (iR (T.item X rfl rfl rfl hc i a R k E X.xe Q (q z) C go) λr s4 ⟨u,hr,h4⟩=>?_);subst hr;refine wpAny_passesOwn hp (iR h4 λ_ U ⟨x,H5,I5,r5,y5,st5,fr5⟩=>?_);have M:=I5.pinned (q fr5) (T.obj _ _ st5);refine wpAny_passesOwn hp (iR (hg _ U k H5 x u _ M r5 (step x H5 y5)) λ_ s6 ⟨K,H6,I6,q6⟩=>?_);refine wpAny_passesOwn hp (iR (hb _ s6 K H6 _ I6 q6) λf O y=>?_);have again:∀{c:St}{l:Hp},Inv X (a++yr B U.heap) c l O->N c l->∃m,m<n/\∃i p H',Inv X a p H' O/\tn i O.heap/\(∀b∈B,H' b=none)/\W i m p H':=λ{c l} j n7=>by
   obtain⟨m',hm,Z⟩:=hN c l n7;refine⟨m',hm,i+1,c,l,j.Io,T.keep _ _ _ st5 λb hb o e=>(j.pin (b,o) (List.mem_append_right _ (List.mem_append_right _ (oH hb e)))).1,λb hb=>?_,Z⟩;obtain⟨o,e,d⟩:=T.obj _ _ st5 b hb;exact(j.pin (b,o) (List.mem_append_right _ (List.mem_append_right _ (oH hb e)))).2.1
  cases f with
  | next=>obtain⟨c,l,j,n7⟩:=y;exact again j n7
  | cont=>obtain⟨c,l,j,n7⟩:=y;exact again j n7
  | brk=>obtain⟨c,l,j,y⟩:=y;exact⟨c,l,j.Io,y⟩
  | ret v=>obtain⟨x7,c,l,j,r7,y⟩:=y;exact⟨x7,c,l,j.Io,r7,y⟩
end
def Zqj{K:aB}{a:Addr}{xs:List V}{g:TG}{j:TS}{D:Ends}{σ:St}{H:Hp}(Pv:Nat->St->Hp->Prop)(n:Pv 0 σ H)(hl:∀i σ H,i<=xs.length->Pv i σ H->cj K H a xs)
  (hs:∀i x σ H,xs[i]? =some x->Pv i σ H->g x σ H λc f=>j { D with nx:=Pv (i+1),ct:=Pv (i+1),bk:=D.nx } c f) (hd:∀ σ H,Pv xs.length σ H->D.nx σ H):
  ∃W:Nat->Nat->St->Hp->Prop,(∃m,W 0 m σ H)/\∀i m σ H,W i m σ H->
   ((Itl K a).stop i H/\D.nx σ H)\/((Itl K a).go i H/\∃N:St->Hp->Prop,(∀ b H',N b H'->∃h,h<m/\W (i+1) h b H')/\∀x H',(Itl K a).yld i H x H'->g x σ H' λc f=>j { D with nx:=N,ct:=N,bk:=D.nx } c f):=by
 refine⟨λi m σ H=>m=xs.length - i/\i<=xs.length/\Pv i σ H,⟨xs.length,by simp,Nat.zero_le _,n⟩,?_⟩;rintro i m σ H ⟨rfl,k,p⟩;have q:=hl i σ H k p
 by_cases d:i<xs.length
 ·refine .inr ⟨⟨xs,xs[i],q,by simp[d]⟩,Pv (i+1),λb H' l=>⟨xs.length - (i+1),by omega,rfl,d,l⟩,λx H' y=>?_⟩;obtain⟨e,y⟩:=y;subst e;exact hs i x σ _ (y xs q) p
 ·have e:i=xs.length:=by omega
  subst e;exact .inl ⟨⟨xs,q,Nat.le_refl _⟩,hd σ H p⟩
def Zmg{lo:Int}{n:Nat}{g:TG}{h:TS}{D:Ends}{σ:St}{H:Hp}(Pv:Nat->St->Hp->Prop)(k:Pv 0 σ H)
  (hs:∀i σ H,i<n->Pv i σ H->g (.int (lo+i)) σ H λc d=>h { D with nx:=Pv (i+1),ct:=Pv (i+1),bk:=D.nx } c d) (hd:∀ σ H,Pv n σ H->D.nx σ H):
  ∃W:Nat->Nat->St->Hp->Prop,(∃m,W 0 m σ H)/\∀i m σ H,W i m σ H->
   ((Itr lo n).stop i H/\D.nx σ H)\/((Itr lo n).go i H/\∃N:St->Hp->Prop,(∀ a H',N a H'->∃f,f<m/\W (i+1) f a H')/\∀x H',(Itr lo n).yld i H x H'->g x σ H' λc d=>h { D with nx:=N,ct:=N,bk:=D.nx } c d):=by
 refine⟨λi m σ H=>m=n - i/\i<=n/\Pv i σ H,⟨n,by simp,Nat.zero_le _,k⟩,?_⟩;rintro i m σ H ⟨rfl,l,p⟩
 by_cases b:i<n
 ·refine .inr ⟨b,Pv (i+1),λa H' j=>⟨n - (i+1),by omega,rfl,b,j⟩,λx H' y=>?_⟩;obtain⟨e,y⟩:=y;subst e y;exact hs i σ _ b p
 ·have e:i=n:=by omega
  subst e;exact .inl ⟨Nat.le_refl _,hd σ H p⟩
end L2
namespace L2
open PySem PySem.Spec PyProof.Rows
abbrev R2:=V->V->Hp->VK->Prop
def zA(X:Cx)(f:Value->Value->Sem Value)(r:R2):Prop:=
 ∀(a:List (Addr×Obj)) (s:Shared) (σ:St) (H:Hp) (x y:V) (v u:Value) (Q:VK),Inv X a σ H s->RelV x v->RelV y u->r x y H Q->
  wpAny (model X.prog X.w) X.A (f v u) (EP X a σ Q) X.xe s
def UnR(X:Cx)(f:Value->Sem Value)(r:V->Hp->VK->Prop):Prop:=
 ∀(a:List (Addr×Obj)) (s:Shared) (σ:St) (H:Hp) (x:V) (v:Value) (Q:VK),Inv X a σ H s->RelV x v->r x H Q->
  wpAny (model X.prog X.w) X.A (f v) (EP X a σ Q) X.xe s
def PJ(X:Cx)(f:Value)(r:List V->Hp->VK->Prop):Prop:=
 ∀(a:List (Addr×Obj)) (s:Shared) (σ:St) (H:Hp) (xs:List V) (us:List Value) (Q:VK),Inv X a σ H s->Vals xs us->r xs H Q->
  wpAny (model X.prog X.w) X.A (call f us) (EP X a σ Q) X.xe s
def ZJ2(X:Cx)(r:V->Hp->(Bool->Hp->Prop)->Prop):Prop:=
 ∀(a:List (Addr×Obj)) (s:Shared) (σ:St) (H:Hp) (x:V) (v:Value) (Q:Bool->Hp->Prop),Inv X a σ H s->RelV x v->r x H Q->
  wpAny (model X.prog X.w) X.A (truthy v) (TP X a σ Q) X.xe s
def bC(r:R2)(a d:TE):TE:=λσ H Q=>a σ H λx c=>d σ c λy b=>r x y b Q
def tUn(r:V->Hp->VK->Prop)(a:TE):TE:=λσ H Q=>a σ H λx b=>r x b Q
def rI(C:Int->Int->Prop)(g:Int->Int->V):R2:=λx y H Q=>∃i j,x=.int i/\y=.int j/\C i j/\Q (g i j) H
def pL(g:Int->Int->V):R2:=λx y H Q=>∃i j,x=.int i/\y=.int j/\Q (g i j) H
def rU(g:Int->V):V->Hp->VK->Prop:=λx H Q=>∃i,x=.int i/\Q (g i) H
section
variable {X:Cx}{a b c:Expr}{ta tb tc:TE}{pos:Pos}
def Zy7(m:PE X a ta)(hb:PE X b tb){c:List (Addr×Obj)}{s:Shared}{σ:St}{H:Hp}{R:V->V->Hp->Prop}(I:Inv X c σ H s)
  (h:ta σ H λx j=>tb σ j λy d=>R x y d) {Q:Value->Shared->Prop}{f:Value->Value->Sem Value}
  (k:∀v u i x y d,Inv X c σ d i->RelV x v->RelV y u->R x y d->wpAny (model X.prog X.w) X.A (f v u) Q X.xe i):
  wpAny (model X.prog X.w) X.A (eval a X.env) (λv e=>wpAny (model X.prog X.w) X.A (eval b X.env) (λu g=>wpAny (model X.prog X.w) X.A (f v u) Q X.xe g) X.xe e) X.xe s:=by
 refine iR (m c s σ H _ I h) λv l ⟨x,j,I1,r1,q1⟩=>?_;refine iR (hb c l σ j _ I1 q1) λu i ⟨y,d,I2,r2,q2⟩=>?_;exact k v u i x y d I2 r1 r2 q2
def bh{d:Operator}{r:R2}(e:zA X (binaryOp d) r)(l:PE X a ta)(hb:PE X b tb):PE X (.BinOp a d b pos) (bC r ta tb):=by
 intro c s σ H Q I h;exact wpAny_BinOp (Zy7 l hb I h λv u k x y j i g f q=>e c k σ j x y v u Q i g f q)
def Zyx{c:UnaryOp}{r:V->Hp->VK->Prop}(e:UnR X (unaryOp c) r)(f:PE X a ta):PE X (.UnaryOp c a pos) (tUn r ta):=by
 intro b s σ H Q I h;exact UnaryOp_ (iR (f b s σ H _ I h) λv d ⟨x,H1,I1,r1,q1⟩=>e b d σ H1 x v Q I1 r1 q1)
def opI{f:Value->Value->Sem Value}{C:Int->Int->Prop}{g:Int->Int->Int}
  (rule:∀(i j:Int) (t u:Tok) (s:Shared) (Q:Value->Shared->Prop) (E:Value->Shared->Prop),C i j->Q (.int (g i j) s.toks) { s with toks:=s.toks+1 }->wpAny (model X.prog X.w) X.A (f (.int i t) (.int j u)) Q E s):
  zA X f (rI C λi j=>.int (g i j)):=by
 intro a s σ H x y v u Q I c b h;obtain⟨i,j,rfl,rfl,hc,q⟩:=h;obtain⟨t,rfl⟩:=c;obtain⟨t',rfl⟩:=b;exact rule i j t t' s _ _ hc ⟨.int (g i j),H,I.tok _,⟨_,rfl⟩,q⟩
def Zsr{f:Value->Value->Sem Value}{g:Int->Int->Int}
  (rule:∀(i j:Int) (t u:Tok) (s:Shared) (Q:Value->Shared->Prop) (E:Value->Shared->Prop),Q (.int (g i j) s.toks) { s with toks:=s.toks+1 }->wpAny (model X.prog X.w) X.A (f (.int i t) (.int j u)) Q E s):
  zA X f (pL λi j=>.int (g i j)):=by
 intro a s σ H x y v u Q I c b h;obtain⟨i,j,rfl,rfl,q⟩:=h;obtain⟨t,rfl⟩:=c;obtain⟨t',rfl⟩:=b;exact rule i j t t' s _ _ ⟨.int (g i j),H,I.tok _,⟨_,rfl⟩,q⟩
def Zss{f:Value->Value->Sem Value}{g:Int->Int->Bool}
  (rule:∀(i j:Int) (t u:Tok) (s:Shared) (Q:Value->Shared->Prop) (E:Value->Shared->Prop),Q (.bool (g i j)) s->wpAny (model X.prog X.w) X.A (f (.int i t) (.int j u)) Q E s):
  zA X f (pL λi j=>.bl (g i j)):=by
 intro a s σ H x y v u Q I c b h;obtain⟨i,j,rfl,rfl,q⟩:=h;obtain⟨t,rfl⟩:=c;obtain⟨t',rfl⟩:=b;exact rule i j t t' s _ _ ⟨.bl (g i j),H,I,rfl,q⟩
def Oi(i j:Int):Prop:=0<j/\j<1073741824
def Zcj(i j:Int):Prop:=0<=j/\j<=1000000/\i.natAbs<2 ^ 64
def Uw(i j:Int):Prop:=(-(2 ^ 64)<i/\i<2 ^ 64)\/(-(2 ^ 64)<j/\j<2 ^ 64)
def Uw.ok{i j:Int}(h:Uw i j):IntMulOk i j:=by
 rcases h with ⟨h1,h2⟩ | ⟨h1,h2⟩
 ·exact .of_left (intBits_le_64 h1 h2)
 ·exact .of_right (intBits_le_64 h1 h2)
def Zfq(k:Nat):(0:Int)<=2 ^ k:=by
 rw[two_pow_cast];exact Int.natCast_nonneg _
def lW:zA X (binaryOp .Add) (pL λi j=>.int (i+j)):=Zsr λ_ _ _ _ _ _ _ q=>add_int q
def Eg:zA X (binaryOp .Sub) (pL λi j=>.int (i - j)):=Zsr λ_ _ _ _ _ _ _ q=>sub_int q
def Ml:zA X (binaryOp .Mult) (rI Uw λi j=>.int (i * j)):=opI λ_ _ _ _ _ _ _ hc q=>mul_int q hc.ok
def qT:zA X (binaryOp .FloorDiv) (rI Oi λi j=>.int (i / j)):=opI λi j _ _ _ _ _ hc q=>by
 have h1:(0:Int)<j:=hc.1;have h2:j<1073741824:=hc.2;exact floordiv_int (by omega) (by rw[Int.fdiv_eq_ediv_of_nonneg i (by omega)];exact q) (.inl (PyProof.noPylong_small (by omega)))
def gq:zA X (binaryOp .Mod) (rI (λ_ j=>0<j) λi j=>.int (i % j)):=opI λi j _ _ _ _ _ hc q=>by
 have h1:(0:Int)<j:=hc;exact mod_int' (by omega) (by rw[Int.fmod_eq_emod_of_nonneg i (by omega)];exact q)
def ZP:zA X (binaryOp .Pow) (rI Zcj λi j=>.int (i ^ j.toNat)):=opI λ_ _ _ _ _ _ _ hc q=>pow_int_small hc.1 hc.2.1 hc.2.2 q
def Zol:zA X (binaryOp .LShift) (rI Zcj λi j=>.int (i * 2 ^ j.toNat)):=opI λ_ _ _ _ _ _ _ hc q=>lshift_int_small hc.1 hc.2.1 hc.2.2 q
def Zhc:zA X (binaryOp .RShift) (rI (λ_ j=>0<=j) λi j=>.int (i / 2 ^ j.toNat)):=opI λi j _ _ _ _ _ hc q=>
 rshift_int hc (by rw[Int.fdiv_eq_ediv_of_nonneg i (Zfq _)];exact q)
def R4:zA X (binaryOp .BitAnd) (pL λi j=>.int (Builtin.bitAnd i j)):=Zsr λ_ _ _ _ _ _ _ q=>and_int q
def Zyz:zA X (binaryOp .BitOr) (pL λi j=>.int (Builtin.bitOr i j)):=Zsr λ_ _ _ _ _ _ _ q=>or_int q
def unI{f:Value->Sem Value}{g:Int->Int}
  (rule:∀(i:Int) (t:Tok) (s:Shared) (Q:Value->Shared->Prop) (E:Value->Shared->Prop),Q (.int (g i) s.toks) { s with toks:=s.toks+1 }->wpAny (model X.prog X.w) X.A (f (.int i t)) Q E s):
  UnR X f (rU λi=>.int (g i)):=by
 intro a s σ H x v Q I b h;obtain⟨i,rfl,q⟩:=h;obtain⟨t,rfl⟩:=b;exact rule i t s _ _ ⟨.int (g i),H,I.tok _,⟨_,rfl⟩,q⟩
def Zva:UnR X (unaryOp .USub) (rU λi=>.int (-i)):=unI λ_ _ _ _ _ q=>neg_int q
end
def Zyt:V->V->Bool
 | .non,.non=>true | .non,.int _=>true | .int _,.non=>true | .non,.bl _=>true | .bl _,.non=>true | .non,.str _=>true | .str _,.non=>true
 | .int _,.int _=>true | .bl _,.bl _=>true | .str _,.str _=>true | .byt _,.byt _=>true
 | .int _,.str _=>true | .str _,.int _=>true | .bl _,.str _=>true | .str _,.bl _=>true
 | _,_=>false
def Cd:R2:=λx y H Q=>Zyt x y=true/\Q (.bl (decide (x=y))) H
def rNe:R2:=λx y H Q=>Zyt x y=true/\Q (.bl (!decide (x=y))) H
def Zkb{i j:Int}:decide (V.int i=V.int j)=(i == j):=by
 rw[Bool.eq_iff_iff];simp
def Zr0{i j:Bool}:decide (V.bl i=V.bl j)=(i == j):=by
 rw[Bool.eq_iff_iff];simp
def Zka{i j:Str}:decide (V.str i=V.str j)=(i == j):=by
 rw[Bool.eq_iff_iff];simp
def Zkc{i j:Array UInt8}:decide (V.byt i=V.byt j)=(i.toList == j.toList):=by
 rw[Bool.eq_iff_iff];cases i;cases j;simp
section
variable {X:Cx}{a b c:Expr}{ta tb tc:TE}{pos:Pos}
def fK{a:List (Addr×Obj)}{σ:St}{H:Hp}{s:Shared}{Q:VK}{k b:Bool}(I:Inv X a σ H s)(q:Q (.bl k) H)(e:k=b):EP X a σ Q (.bool b) s:=by
 subst e;exact⟨.bl k,H,I,rfl,q⟩
def lG:zA X (compareOp .Eq) Cd:=by
 intro c s σ H x y v u Q I b a h;obtain⟨hs,q⟩:=h;cases x with
 | non=>
  cases b;cases y with
  | non=>cases a;exact PySem.EqNone.eq_none_none (fK I q (by simp))
  | bl j=>cases a;exact PySem.EqNone.eq_none_bool (fK I q (by simp))
  | int j=>obtain⟨t',rfl⟩:=a;exact PySem.EqNone.eq_none_int (fK I q (by simp))
  | str j=>obtain⟨t',rfl⟩:=a;exact PySem.EqNone.eq_none_str (fK I q (by simp))
  | _=>exact absurd (show false=true from hs) Bool.false_ne_true
 | bl i=>
  cases b;cases y with
  | non=>cases a;exact PySem.EqNone.eq_bool_none (fK I q (by simp))
  | bl j=>cases a;exact eq_bool (fK I q Zr0)
  | str j=>obtain⟨t',rfl⟩:=a;exact PySem.EqMixed.eq_bool_str (fK I q (by simp))
  | _=>exact absurd (show false=true from hs) Bool.false_ne_true
 | int i=>
  obtain⟨t,rfl⟩:=b;cases y with
  | non=>cases a;exact PySem.EqNone.eq_int_none (fK I q (by simp))
  | int j=>obtain⟨t',rfl⟩:=a;exact eq_int (fK I q Zkb)
  | str j=>obtain⟨t',rfl⟩:=a;exact PySem.EqMixed.eq_int_str (fK I q (by simp))
  | _=>exact absurd (show false=true from hs) Bool.false_ne_true
 | str i=>
  obtain⟨t,rfl⟩:=b;cases y with
  | non=>cases a;exact PySem.EqNone.eq_str_none (fK I q (by simp))
  | bl j=>cases a;exact PySem.EqMixed.eq_str_bool (fK I q (by simp))
  | int j=>obtain⟨t',rfl⟩:=a;exact PySem.EqMixed.eq_str_int (fK I q (by simp))
  | str j=>obtain⟨t',rfl⟩:=a;exact eq_str (fK I q Zka)
  | _=>exact absurd (show false=true from hs) Bool.false_ne_true
 | byt i=>
  obtain⟨t,rfl⟩:=b;cases y with
  | byt j=>obtain⟨t',rfl⟩:=a;exact W.eq_bytes (fK I q Zkc)
  | _=>exact absurd (show false=true from hs) Bool.false_ne_true
 | _=>cases y<;>exact absurd (show false=true from hs) Bool.false_ne_true
def Gw:zA X (compareOp .NotEq) rNe:=by
 intro c s σ H x y v u Q I b a h;obtain⟨hs,q⟩:=h;cases x with
 | non=>
  cases b;cases y with
  | non=>cases a;exact PySem.EqNone.ne_none_none (fK I q (by simp))
  | bl j=>cases a;exact PySem.EqNone.ne_none_bool (fK I q (by simp))
  | int j=>obtain⟨t',rfl⟩:=a;exact PySem.EqNone.ne_none_int (fK I q (by simp))
  | str j=>obtain⟨t',rfl⟩:=a;exact PySem.EqNone.ne_none_str (fK I q (by simp))
  | _=>exact absurd (show false=true from hs) Bool.false_ne_true
 | bl i=>
  cases b;cases y with
  | non=>cases a;exact PySem.EqNone.ne_bool_none (fK I q (by simp))
  | bl j=>cases a;exact ne_bool (fK I q (congrArg not Zr0))
  | str j=>obtain⟨t',rfl⟩:=a;exact PySem.EqMixed.ne_bool_str (fK I q (by simp))
  | _=>exact absurd (show false=true from hs) Bool.false_ne_true
 | int i=>
  obtain⟨t,rfl⟩:=b;cases y with
  | non=>cases a;exact PySem.EqNone.ne_int_none (fK I q (by simp))
  | int j=>obtain⟨t',rfl⟩:=a;exact ne_int (fK I q (congrArg not Zkb))
  | str j=>obtain⟨t',rfl⟩:=a;exact PySem.EqMixed.ne_int_str (fK I q (by simp))
  | _=>exact absurd (show false=true from hs) Bool.false_ne_true
 | str i=>
  obtain⟨t,rfl⟩:=b;cases y with
  | non=>cases a;exact PySem.EqNone.ne_str_none (fK I q (by simp))
  | bl j=>cases a;exact PySem.EqMixed.ne_str_bool (fK I q (by simp))
  | int j=>obtain⟨t',rfl⟩:=a;exact PySem.EqMixed.ne_str_int (fK I q (by simp))
  | str j=>obtain⟨t',rfl⟩:=a;exact ne_str (fK I q (congrArg not Zka))
  | _=>exact absurd (show false=true from hs) Bool.false_ne_true
 | byt i=>
  obtain⟨t,rfl⟩:=b;cases y with
  | byt j=>obtain⟨t',rfl⟩:=a;exact W.ne_bytes (fK I q (congrArg not Zkc))
  | _=>exact absurd (show false=true from hs) Bool.false_ne_true
 | _=>cases y<;>exact absurd (show false=true from hs) Bool.false_ne_true
def Gx:zA X (compareOp .Lt) (pL λi j=>.bl (decide (i<j))):=Zss λ_ _ _ _ _ _ _ q=>lt_int q
def Zz0:zA X (compareOp .LtE) (pL λi j=>.bl (decide (i<=j))):=Zss λ_ _ _ _ _ _ _ q=>le_int q
def Zjv:zA X (compareOp .Gt) (pL λi j=>.bl (decide (j<i))):=Zss λ_ _ _ _ _ _ _ q=>gt_int q
def Zz1:zA X (compareOp .GtE) (pL λi j=>.bl (decide (j<=i))):=Zss λ_ _ _ _ _ _ _ q=>ge_int q
def Zw5:zA X (compareOp .Is) (λx y H Q=>y=.non/\Q (.bl (decide (x=.non))) H):=by
 intro b s σ H x y v u Q I a c h;obtain⟨rfl,q⟩:=h;cases c;refine is_none_gen (fK I q ?_);cases x<;>first
  | (cases a;rfl)
  | (obtain⟨t,rfl⟩:=a;rfl)
def Zsp:zA X (compareOp .IsNot) (λx y H Q=>y=.non/\Q (.bl (!decide (x=.non))) H):=by
 intro b s σ H x y v u Q I a c h;obtain⟨rfl,q⟩:=h;cases c;refine isnot_none_gen (fK I q ?_);cases x<;>first
  | (cases a;rfl)
  | (obtain⟨t,rfl⟩:=a;rfl)
def isObj:HO->Bool
 | .lst _=>true
 | .ins _ _ _=>true
 | _=>false
def Mw{c:List (Addr×Obj)}{s:Shared}{σ:St}{H:Hp}{a:Addr}{o:HO}(I:Inv X c σ H s)(h:H a=some o)(p:isObj o=true):∃ob,s.heap.get? a=some ob/\ob.cls≠.type "tuple":=by
 cases o with
 | lst xs=>
  obtain⟨_,b,n,_,e⟩:xs.length<=sizeLine/\∃(b:List Value) (n:Nat),Vals xs b/\s.heap.get? a=some { cls:=.type "list",data:=.seq b.toArray n }:=I.hok a _ h;exact⟨_,e,(by show Value.type "list"≠.type "tuple";decide +kernel)⟩
 | ins C dx fs=>
  have x:=I.hok a _ h;obtain⟨_,_,_,e,_⟩:=x;exact⟨_,e,(by show Value.ref C≠.type "tuple";exact λz=>by cases z)⟩
 | _=>exact absurd (show false=true from p) Bool.false_ne_true
def Mx(b:Expr){a:CmpOp}(h:a≠.In:=by decide)(h2:a≠.NotIn:=by decide):behindInMarks a b=false:=by
 have c:(a == CmpOp.In)=false:=by cases a<;>first | rfl | exact absurd rfl h
 have d:(a == CmpOp.NotIn)=false:=by cases a<;>first | rfl | exact absurd rfl h2
 cases b<;>simp[behindInMarks,c,d]
def Fy{d:CmpOp}{r:R2}(e:zA X (compareOp d) r)(l:PE X a ta)(hb:PE X b tb)(hm:behindInMarks d b=false):PE X (.Compare a [d] [b] pos) (bC r ta tb):=by
 intro c s σ H Q I h;exact wpAny_Compare1 (Zy7 l hb I h λv u k x y j i g f q=>e c k σ j x y v u Q i g f q) hm
def bT(t:TE):TT:=λσ H Q=>t σ H λx H'=>∃k,x=.bl k/\Q k H'
def Zs4{f:CmpOp}{r:R2}(g:zA X (compareOp f) r)(l:PE X a ta)(hb:PE X b tb)(hm:behindInMarks f b=false):PT X (.Compare a [f] [b] pos) (bT (bC r ta tb)):=by
 intro d s σ H Q I h;refine wpAny_isTrue_Compare1 (iR (l d s σ H _ I h) λv i ⟨x,H1,I1,r1,q1⟩=>iR (hb d i σ H1 _ I1 q1) λu j ⟨y,H2,I2,r2,q2⟩=>
  iR (g d j σ H2 x y v u _ I2 r1 r2 q2) λc m ⟨z,H3,I3,r3,k,e,q3⟩=>?_) hm
 subst e;cases r3;exact wpAny_truthy_bool ⟨H3,I3,q3⟩
def Zfy(r e:R2)(ta tb tc:TE):TE:=λσ H Q=>ta σ H λx f=>tb σ f λy d=>r x y d λz a=>∃k,z=.bl k/\
 (if k=true then tc σ a λb c=>e y b c Q else Q (.bl false) a)
def Zoh{i g:CmpOp}{r l:R2}(n:zA X (compareOp i) r)(j:zA X (compareOp g) l)(A:PE X a ta)(hb:PE X b tb)(hc:PE X c tc)
  (hm:lastMarks [i,g] [b,c]=false:=by with_unfolding_all rfl):PE X (.Compare a [i,g] [b,c] pos) (Zfy r l ta tb tc):=by
 intro f s σ H Q I h;refine Compare_chain (iR (A f s σ H _ I h) λv p ⟨x,H1,I1,r1,q1⟩=>chain_link (iR (hb f p σ H1 _ I1 q1) λu w ⟨y,H2,I2,r2,q2⟩=>
  iR (n f w σ H2 x y v u _ I2 r1 r2 q2) λd o ⟨z,H3,I3,r3,k,e,q3⟩=>?_)) hm
 subst e;cases r3;refine wpAny_truthy_bool ?_;cases k with
 | false=>exact ite_ff ⟨.bl false,H3,I3,rfl,q3⟩
 | true=>exact ite_tt (chain_last (iR (hc f o σ H3 _ I3 q3) λq m ⟨t,H4,I4,r4,q4⟩=>j f m σ H4 y t u q Q I4 r2 r4 q4))
def Zr5(K:aB)(x:V)(H:Hp)(k:Bool):Prop:=
 match x with
 | .non=>k=false
 | .bl b=>k=b
 | .int i=>k=(i != 0)
 | .str y=>y.length<=sizeLine/\k=((y.length:Int) != 0)
 | .byt y=>y.size<=sizeLine/\k=((y.size:Int) != 0)
 | .ref p=>(∃xs,cj K H p xs/\k=!xs.isEmpty)\/(∃xs,fZ K H p xs/\k=!xs.isEmpty)\/∃a,H p=some (.dK a)/\k=!a.isEmpty
 | _=>False
def Zi9{b:Type}{a:List (b×V)}{vs:List (b×Value)}(r:KV a vs):(!vs.isEmpty)=!a.isEmpty:=by
 cases r<;>rfl
def Tz{xs:List V}{a:List Value}(r:Vals xs a):(!a.toArray.isEmpty)=!xs.isEmpty:=by
 cases r<;>simp
def HS:(sizeLine:Nat)<2 ^ 63:=by rw[sizeLine_eq];decide
def Zve:ZJ2 X (λx H Q=>∃k,Zr5 X.K x H k/\Q k H):=by
 intro j s σ H x v Q I f h;obtain⟨k,e,q⟩:=h;have hl:=HS;have hs:sizeLine=16777216:=sizeLine_eq;cases x with
 | non=>
  cases f;have a:k=false:=e;subst a;exact truthy_none ⟨H,I,q⟩
 | bl b=>
  cases f;have a:k=b:=e;subst a;exact wpAny_truthy_bool ⟨H,I,q⟩
 | int i=>
  obtain⟨t,rfl⟩:=f;have a:k=(i != 0):=e;subst a;exact PySem.P.truthy_int ⟨H,I,q⟩
 | str y=>
  obtain⟨t,rfl⟩:=f;obtain⟨hy,a⟩:y.length<=sizeLine/\k=((y.length:Int) != 0):=e;subst a;exact PySem.P.truthy_str (by omega) ⟨H,I.tok _,q⟩
 | byt y=>
  obtain⟨t,rfl⟩:=f;obtain⟨hy,a⟩:y.size<=sizeLine/\k=((y.size:Int) != 0):=e;subst a;exact W.truthy_bytes (by omega) ⟨H,I.tok _,q⟩
 | ref p=>
  cases f;have a:(∃xs,cj X.K H p xs/\k=!xs.isEmpty)\/(∃xs,fZ X.K H p xs/\k=!xs.isEmpty)\/∃c,H p=some (.dK c)/\k=!c.isEmpty:=e;rcases a with ⟨xs,hx,a⟩ | ⟨xs,hx,a⟩ | ⟨c,hx,a⟩
  ·subst a;obtain⟨g,r,pl,hz⟩:=I.list hx;have d:=r.length;exact wpAny_truthy_list pl.isList (by simp only[List.size_toArray];omega) ⟨H,I.tok _,by rw[Tz r];exact q⟩
  ·subst a;obtain⟨g,r,pl,hz⟩:=I.tuple hx;have d:=r.length;exact truthy_tuple pl (by simp only[List.size_toArray];omega) ⟨H,I.tok _,by rw[Tz r];exact q⟩
  ·subst a;obtain⟨hz,l,vs,r,m⟩:c.length<=sizeLine/\(p == sysModules)=false/\∃vs,KV c vs/\s.heap.DictOf (fG X.prog X.w) p vs:=I.hok p _ hx;have d:c.length=vs.length:=Paired.length r;exact wpAny_truthy_dict l m (by omega) ⟨H,I.tok _,by rw[Zi9 r];exact q⟩
 | _=>exact(show False from e).elim
def Zd0(f:PE X a ta)(e:∀b,isTrue a X.env b=(do let v <- b;standAt a.pos;holding [v] (truthy v))):
  PT X a (λσ H Q=>ta σ H λx H'=>∃k,Zr5 X.K x H' k/\Q k H'):=by
 intro c s σ H Q I h;exact isTrue_plain (iR (f c s σ H _ I h) λv d ⟨x,H1,I1,r1,q1⟩=>Zve c d σ H1 x v Q I1 r1 q1) (e _)
def R5:zA X (binaryOp .Add) (λx y H Q=>∃i j,x=.str i/\y=.str j/\i.length+j.length<=sizeLine/\Q (.str (i++j)) H):=by
 intro a s σ H x y v u Q I c b h;obtain⟨i,j,rfl,rfl,hz,q⟩:=h;obtain⟨t,rfl⟩:=c;obtain⟨t',rfl⟩:=b;exact add_str (λt' tk=>⟨.str (i++j),H,I.tok _,⟨_,rfl⟩,q⟩) hz
def vals1{x:V}{us:List Value}(r:Vals [x] us):∃u,us=[u]/\RelV x u:=by
 cases r with
 | cons a b=>cases b;exact⟨_,rfl,a⟩
def vals2{x y:V}{us:List Value}(r:Vals [x,y] us):∃u a,us=[u,a]/\RelV x u/\RelV y a:=by
 cases r with
 | cons c e=>
  cases e with
  | cons b d=>cases d;exact⟨_,_,rfl,c,b⟩
end
end L2
namespace L2
open PySem PySem.Spec PyProof.Rows
structure Zje(h:Heap)(x dx C:Addr)(mA:Str->Option Value):Prop where
 obj:h.get? x=some (W.instObj C dx)
 ns:h.Ns1 dx mA
 ne:dx≠x
def Zls{h:Heap}{dx:Addr}{d:Str->Option Value}(n:h.Ns1 dx d):∃od,h.get? dx=some od/\∀name,W.lookIn name od=some (d name):=by
 obtain⟨o,c,i,f,hd,hk,_,hm⟩:=n;refine⟨o,f,λname=>?_⟩;have e:=hm name;unfold nsFind findBy at e;rw[<- Array.find?_toList]at e;unfold W.lookIn;rw[hd];dsimp only;split
 ·rename_i y q
  rw[q]at e;exact congrArg some e
 ·rename_i q
  rw[q]at e;have a:c.toList.any (·.refKey)=false:=by
   rw[List.any_eq_false];intro y hy;obtain⟨z,t,b⟩:=hk y (Array.mem_toList_iff.mp hy);simp[DictEntry.refKey,b]
  have g:¬ c.toList.any (·.refKey)=true:=by rw[a];exact Bool.false_ne_true
  rw[if_neg g];exact congrArg some e
def Zje.look{h:Heap}{x dx C:Addr}{a:Str->Option Value}(I:Zje h x dx C a):∃od,W.InstAt h x (W.instObj C dx) C (some od)/\∀name,W.lookIn name od=some (a name):=
 let ⟨od,ho,hl⟩:=Zls I.ns
 ⟨od,⟨I.obj,rfl,rfl,ho⟩,hl⟩
section
variable {prog:Program}{w:World}{A:Around}{E:Value->Shared->Prop}{s:Shared}{K:aB}{x dx C f:Addr}{mA:Str->Option Value}{name:Str}{v:Value}
def get_map{a:Bool}{Q:Value->Shared->Prop}(X:K.In s.heap)(I:Zje s.heap x dx C mA)(c:W.plainGet K C name=true)(hh:W.hasDictIn K C=true)
  (d:W.findIn K (.ref C) name=some none) (hv:mA name=some v) (b:W.handedIn v=true) (h:Q v { s with toks:=s.toks+1 }):
  wpAny (model prog w) A (getAttr (.ref x) name a) Q E s:=by
 obtain⟨od,J,hl⟩:=I.look;exact W.get_value X J (W.plainGet_of c).1 (W.findObj_own hh d rfl (by rw[hl,hv])) b h
def Zqd{pl:Sem Bool}{Q:Value×List Value->Shared->Prop}(X:K.In s.heap)(I:Zje s.heap x dx C mA)(a:W.plainGet K C name=true)
  (c:W.findIn K (.ref C) name=some (some (.ref f))) (b:W.isFn K (.ref f)=true) (hv:mA name=none) (h:Q (.ref f,[.ref x]) s):
  wpAny (model prog w) A (getMethod (.ref x) name pl) Q E s:=by
 obtain⟨od,J,hl⟩:=I.look;exact W.method_fn X J (W.plainGet_of a).1 (W.plainGet_of a).2 c (beq_iff_eq.mp b) (by show(W.lookIn name od).map (·.isSome)=some false;rw[hl,hv];rfl) h
def Zrk{ns:List Str}{Q:Unit->Shared->Prop}(X:K.In s.heap)(I:Zje s.heap x dx C mA)
  (hs:W.findIn K (.ref C) "__setattr__"=some (some (.builtin "object.__setattr__"))) (hp:W.plainOver K C=true) (k:W.takerIn K C name=some none) (hh:W.hasDictIn K C=true)
  (l:PySem.Within mA ns) (hsz:ns.length<=sizeLine)
  (h:∀h',Zje h' x dx C (λy=>if y=name then some v else mA y)->Heap.SameBut dx s.heap h'->Q () { s with heap:=h',toks:=s.toks+2 }):
  wpAny (model prog w) A (setAttr (.ref x) name v) Q E s:=by
 obtain⟨od,J,hl⟩:=I.look;refine W.set_plain X J hs (W.osa_open (s:={ s with toks:=s.toks+1 }) (r:=none) X J hp k λb=>?_);obtain⟨o,hc,e⟩:=W.any_some hh;have hx:s.heap.get? x=some ⟨.ref C,some dx,.plain,#[]⟩:=I.obj;refine wpAny_bind (wpAny_pure (wpAny_bind (wpAny_bind (wpAny_loadPart hx (wpAny_bind (W.Looks.here (s:={ s with toks:=s.toks+1 }) (W.looks_clsIn X hc) ?_))))));rw[e];refine wpAny_pure (a:=some dx) (wpAny_bind (wpAny_pure (wpAny_bind ?_)));refine wpAny_nsSet1 (s:={ s with toks:=s.toks+1 }) I.ns λh' d c=>?_;obtain⟨n,j,m,i,g,f⟩:=d.count (PySem.Within.cons name v l);refine wpAny_bind (wpAny_lookBehind i (by rw[g];exact pastItsLine_dict (Nat.le_trans f (by rw[List.length_cons];omega))) ?_);exact wpAny_pure (h _ ⟨(c.2 _ (Ne.symm I.ne)).trans I.obj,d,I.ne⟩ c)
def Zp2{R:Result->Shared->Prop}{vs:List Value}{a:List (Str×Value)}(X:K.In s.heap)(hm:W.makesIn K C=true)
  (c:W.findIn K (.ref C) "__init__"=some (some (.ref f))) (b:W.typeIn K (.ref f)=some (.type "function"))
  (h:codeAny (model prog w) (A.under (.builtin "type.__call__" ⟨.ref C::vs,a⟩)) (.call (.ref f) ⟨.ref (s.heap.objs.size+1)::vs,a⟩) (W.InitBack (s.heap.objs.size+1) R)
   { s with heap:=(s.heap.push W.emptyDict).push (W.instObj C s.heap.objs.size) }):
  codeAny (model prog w) A (.call (.ref C) ⟨vs,a⟩) R s:=by
 obtain⟨hh,g,d,t,os⟩:=s;exact W.make_core (W.makes_of X hm) (W.looks_findIn X c) (λself=>W.bind_fn X self b) (.inl rfl) h
def Zlj{R:Result->Shared->Prop}(X:K.In s.heap)(hm:W.makesIn K C=true)
  (a:W.findIn K (.ref C) "__init__"=some (some (.builtin "object.__init__")))
  (hb:∀self,W.Looks (model prog w) s.heap (bindSpecial (.builtin "object.__init__") self) (.builtin "object.__init__",[self]))
  (h:codeAny (model prog w) (A.under (.builtin "type.__call__" ⟨[.ref C],[]⟩)) (.call (.builtin "object.__init__") ⟨[.ref (s.heap.objs.size+1)],[]⟩) (W.InitBack (s.heap.objs.size+1) R)
   { s with heap:=(s.heap.push W.emptyDict).push (W.instObj C s.heap.objs.size) }):
  codeAny (model prog w) A (.call (.ref C) ⟨[],[]⟩) R s:=by
 obtain⟨hh,g,d,t,os⟩:=s;exact W.make_core (W.makes_of X hm) (W.looks_findIn X a) hb (.inr ⟨rfl,rfl⟩) h
end
def cC(f:Str)(v:V):List (Str×V)->List (Str×V)
 | []=>[(f,v)]
 | (g,x)::r=>if g=f then(g,v)::r else(g,x)::cC f v r
def Pg(f g:Str)(v:V):∀fs:List (Str×V),(cC f v fs).lookup g=if g=f then some v else fs.lookup g
 | []=>by
  show List.lookup g [(f,v)]=_
  by_cases h:g=f
  ·have hb:(g == f)=true:=beq_iff_eq.mpr h;simp only[List.lookup,hb,if_pos h]
  ·have hb:(g == f)=false:=beq_eq_false_iff_ne.mpr h;simp only[List.lookup,hb,if_neg h]
 | (k,x)::r=>by
  have a:=Pg f g v r;rw[show cC f v ((k,x)::r)=(if k=f then(k,v)::r else(k,x)::cC f v r)from rfl]
  by_cases hk:k=f
  ·rw[if_pos hk]
   by_cases h:g=k
   ·have hb:(g == k)=true:=beq_iff_eq.mpr h;simp only[List.lookup,hb,if_pos (h.trans hk)]
   ·have hb:(g == k)=false:=beq_eq_false_iff_ne.mpr h;simp only[List.lookup,hb,if_neg (λe:g=f=>h (e.trans hk.symm))]
  ·rw[if_neg hk]
   by_cases h:g=k
   ·have hb:(g == k)=true:=beq_iff_eq.mpr h;simp only[List.lookup,hb,if_neg (λe:g=f=>hk (h.symm.trans e))]
   ·have hb:(g == k)=false:=beq_eq_false_iff_ne.mpr h;simp only[List.lookup,hb];exact a
def M7(f:Str)(v:V):∀fs:List (Str×V),f∈(cC f v fs).map (·.1)/\∀g,g∈fs.map (·.1)->g∈(cC f v fs).map (·.1)
 | []=>⟨by simp[cC],λg h=>by simp at h⟩
 | (k,x)::r=>by
  obtain⟨b,a⟩:=M7 f v r;rw[show cC f v ((k,x)::r)=(if k=f then(k,v)::r else(k,x)::cC f v r)from rfl]
  by_cases hk:k=f
  ·rw[if_pos hk];subst hk;exact⟨by simp,λg h=>by simpa using h⟩
  ·rw[if_neg hk];refine⟨?_,λg h=>?_⟩
   ·rw[List.map_cons];exact List.mem_cons_of_mem _ b
   ·rw[List.map_cons]at h ⊢;rcases List.mem_cons.mp h with e | e
    ·exact List.mem_cons.mpr (.inl e)
    ·exact List.mem_cons_of_mem _ (a g e)
def Pj(f:Str)(v:V):∀fs:List (Str×V),(cC f v fs).length<=fs.length+1
 | []=>by simp[cC]
 | (k,x)::r=>by
  have a:=Pj f v r;rw[show cC f v ((k,x)::r)=(if k=f then(k,v)::r else(k,x)::cC f v r)from rfl]
  by_cases hk:k=f
  ·rw[if_pos hk,List.length_cons,List.length_cons];omega
  ·rw[if_neg hk,List.length_cons,List.length_cons];omega
def Gr.some_of{v:V}{o:Option Value}(r:Gr (some v) o):∃u,o=some u/\RelV v u:=by
 cases o with
 | none=>exact(show False from r).elim
 | some u=>exact⟨u,rfl,r⟩
def Gr.none_of{o:Option Value}(r:Gr none o):o=none:=by
 cases o with
 | none=>rfl
 | some u=>exact(show False from r).elim
def Zmf{v:V}{u:Value}(r:RelV v u):W.handedIn u=true:=by
 cases v with
 | non=>cases (show u=Value.none from r);rfl
 | bl b=>cases (show u=Value.bool b from r);rfl
 | int i=>obtain⟨t,e⟩:=(show ∃t,u=Value.int i t from r);cases e;rfl
 | str x=>obtain⟨t,e⟩:=(show ∃t,u=Value.str x t from r);cases e;rfl
 | byt b=>obtain⟨t,e⟩:=(show ∃t,u=Value.bytes b t from r);cases e;rfl
 | flt b=>obtain⟨t,e⟩:=(show ∃t,u=Value.float b t from r);cases e;rfl
 | ref a=>cases (show u=Value.ref a from r);rfl
 | ty n=>cases (show u=Value.type n from r);rfl
section
variable {P:Program}{w:World}{H H':Hp}{h h':Heap}{a C dx:Addr}{fs fs':List (Str×V)}
def QL(hok:Cm P w H h)(e:H a=some (.ins C dx fs)):∃b,Zje h a dx C b/\(∀f,Gr (fs.lookup f) (b f))/\PySem.Within b (fs.map (·.1))/\fs.length<=1000/\H dx=some (.own a):=by
 obtain⟨d,z,ne,ob,b,n,r,q⟩:=(show lA P w H h a (.ins C dx fs)from hok a _ e);exact⟨b,⟨ob,n,ne⟩,r,q,z,d⟩
end
structure Hg(K:aB)(C:Addr):Prop where
 pg:W.plainGet K C Str.empty=true
 hd:W.hasDictIn K C=true
 po:W.plainOver K C=true
 sa:W.findIn K (.ref C) "__setattr__"=some (some (.builtin "object.__setattr__"))
def Hg.get{K:aB}{C:Addr}(c:Hg K C)(f:Str):W.plainGet K C f=true:=c.pg
def bM(K:aB)(C:Addr)(f:Str):Prop:=W.findIn K (.ref C) f=some none
def bM.taker{K:aB}{C:Addr}{f:Str}(n:bM K C f):W.takerIn K C f=some none:=by
 unfold W.takerIn;rw[show W.findIn K (.ref C) f=some none from n];rfl
structure Con(K:aB)(C:Addr)(f:Str)(v:V)(u:Value):Prop where
 at_:W.findIn K (.ref C) f=some (some u)
 rel:RelV v u
 get:W.specialIn K u "__get__"=some none
 cp:W.copiedNames.contains f=false
structure Meth(K:aB)(C:Addr)(m:Str)(f:Addr):Prop where
 at_:W.findIn K (.ref C) m=some (some (.ref f))
 fn:W.isFn K (.ref f)=true
 kp:W.keepIn K (.ref f)=true
section
variable {X:Cx}{pins:List (Addr×Obj)}{σ:St}{H:Hp}{s:Shared}{a C dx:Addr}{fs:List (Str×V)}{f:Str}{v:V}{A:Around}{E:Value->Shared->Prop}
def Zii{b:Bool}{Q:Value->Shared->Prop}(I:Inv X pins σ H s)(e:H a=some (.ins C dx fs))(c:Hg X.K C)(n:bM X.K C f)(l:fs.lookup f=some v)
  (h:∀u s',Inv X pins σ H s'->RelV v u->Q u s'):wpAny (model X.prog X.w) A (getAttr (.ref a) f b) Q E s:=by
 obtain⟨g,O,r,_,_,_⟩:=QL I.hok e;obtain⟨u,hu,d⟩:=Gr.some_of (v:=v) (o:=g f) (by rw[<- l];exact r f);exact get_map I.Et O (c.get f) c.hd n hu (Zmf d) (h u _ (I.tok _) d)
def TX{m:Str}{g:Addr}{pl:Sem Bool}{Q:Value×List Value->Shared->Prop}(I:Inv X pins σ H s)(e:H a=some (.ins C dx fs))(c:Hg X.K C)(k:Meth X.K C m g)(l:fs.lookup m=none)
  (h:Q (.ref g,[.ref a]) s):wpAny (model X.prog X.w) A (getMethod (.ref a) m pl) Q E s:=by
 obtain⟨b,O,r,_,_,_⟩:=QL I.hok e;have hn:b m=none:=Gr.none_of (by rw[<- l];exact r m);exact Zqd I.Et O (c.get m) k.at_ k.fn hn h
def Zgc{y:V}{u:Value}{Q:Unit->Shared->Prop}(I:Inv X pins σ H s)(e:H a=some (.ins C dx fs))(c:Hg X.K C)(n:bM X.K C f)(hl:fs.length<1000)(l:RelV y u)
  (h:∀s',Inv X pins σ (upd H a (.ins C dx (cC f y fs))) s'->Q () s'):wpAny (model X.prog X.w) A (setAttr (.ref a) f u) Q E s:=by
 obtain⟨k,O,r,j,_,i⟩:=QL I.hok e;have hz:(fs.map (·.1)).length<=sizeLine:=by rw[aX,sizeLine_eq];omega
 refine Zrk I.Et O c.sa c.po n.taker c.hd j hz λh' d sb=>h _ ?_;have hd:∃o,h'.get? dx=some o:=let ⟨o,_,_,e',_⟩:=d.ns;⟨o,e'⟩
 refine I.write (x:=a) (e:=dx) (by rw[e];exact True.intro) (.inr i) (λb q hb z=>(sb.2 b hb).trans z) hd ?_;refine⟨by rw[aC O.ne];exact i,?_,O.ne,d.obj,_,d.ns,λg=>?_,λg m=>?_⟩
 ·have:=Pj f y fs;omega
 ·show Gr ((cC f y fs).lookup g) (if g=f then some u else k g);rw[Pg]
  by_cases q:g=f
  ·rw[if_pos q,if_pos q];exact l
  ·rw[if_neg q,if_neg q];exact r g
 ·by_cases q:g=f
  ·rw[q];exact(M7 f y fs).1
  ·refine(M7 f y fs).2 g (j g λz=>m ?_);show(if g=f then some u else k g)=none;rw[if_neg q];exact z
def Inv.made(I:Inv X pins σ H s):Inv X pins σ (upd (upd H s.heap.objs.size (.own (s.heap.objs.size+1))) (s.heap.objs.size+1) (.ins C s.heap.objs.size []))
  { s with heap:=(s.heap.push W.emptyDict).push (W.instObj C s.heap.objs.size) }:=by
 have c:(s.heap.push W.emptyDict).get? s.heap.objs.size=some W.emptyDict:=Heap.get?_push_size s.heap rfl;have f:((s.heap.push W.emptyDict).push (W.instObj C s.heap.objs.size)).get? (s.heap.objs.size+1)=some (W.instObj C s.heap.objs.size):=by
  have:=Heap.get?_push_size (s.heap.push W.emptyDict) (o:=W.instObj C s.heap.objs.size) rfl
  rwa [Heap.size_push]at this
 have e3:(s.heap.push W.emptyDict).Ns s.heap.objs.size (λ_=>none):=⟨W.emptyDict,#[],_,c,rfl,(λe d=>absurd d (by simp)),λ_=>rfl⟩;have g:=I.laid (a:=s.heap.objs.size) (o:=.own (s.heap.objs.size+1)) (h':=s.heap.push W.emptyDict) (t':=s.toks) (λb u q=>Heap.get?_push_of_some _ q) (Nat.le_refl _) ⟨_,c⟩;refine g.laid (a:=s.heap.objs.size+1) (o:=.ins C s.heap.objs.size []) (t':=s.toks) (λb u q=>Heap.get?_push_of_some _ q) (Nat.le_of_eq (Heap.size_push _ _)) ?_;have ne:s.heap.objs.size≠s.heap.objs.size+1:=Nat.ne_of_lt (Nat.lt_succ_self _);refine⟨by rw[aC ne,aq],Nat.zero_le _,ne,f,λ_=>none,(Heap.Ns1.of_empty e3).at λo q=>Heap.get?_push_of_some _ q,λ_=>True.intro,λy hy=>absurd rfl hy⟩
def Zuj{prog:Program}{w:World}{env:Env}{e:Expr}{f:Str}{b:Pos}{s:Shared}{Q:Value->Shared->Prop}(hb:attributeBase e f env (eval e env)=eval e env)
  (h:wpAny (model prog w) A (eval e env) (λo a=>wpAny (model prog w) A (getAttr o f true) Q E a) E s):wpAny (model prog w) A (eval (.Attribute e f b) env) Q E s:=
 Attribute_any_ h (by rw[arm_eval_Attribute,hb])
end
def bz(K:aB)(c:TE)(f:Str):TE:=λσ H Q=>c σ H λx b=>∃a C dx fs v,x=.ref a/\b a=some (.ins C dx fs)/\Hg K C/\bM K C f/\fs.lookup f=some v/\Q v b
def iu(K:aB)(c d:TE)(f:Str):TS:=λD σ H=>d σ H λy e=>c σ e λx b=>∃a C dx fs,x=.ref a/\b a=some (.ins C dx fs)/\Hg K C/\bM K C f/\fs.length<1000/\
 D.nx σ (upd b a (.ins C dx (cC f y fs)))
section
variable {X:Cx}{o e value:Expr}{f:Str}{pos pos' tpos:Pos}{ta tv:TE}
def aJ(g:PE X e ta)(hb:attributeBase e f X.env (eval e X.env)=eval e X.env):PE X (.Attribute e f pos) (bz X.K ta f):=by
 intro b s σ H Q I h;refine Zuj hb (iR (g b s σ H _ I h) λu j ⟨x,H1,I1,rx,a,C,dx,fs,v,ex,ea,c,n,l,q⟩=>?_);subst ex;obtain rfl:u=Value.ref a:=rx;exact Zii I1 ea c n l λm k i d=>⟨v,H1,i,d,q⟩
def cF(i:PE X o ta)(hv:PE X value tv)(hs:swapsWith value (some (.Attribute o f pos')) pos.line X.env=pure false):PS X (.Assign [.Attribute o f pos'] value pos) (iu X.K ta tv f):=by
 intro b s σ H D I h;refine plainObj_wpAny_Assign_Attribute (iR (hv b s σ H _ I h) λu e ⟨y,H1,I1,ry,q⟩=>iR (i b e σ H1 _ I1 q) λg k ⟨x,H2,I2,rx,a,C,dx,fs,ex,ea,c,n,l,q2⟩=>?_) hs;subst ex;obtain rfl:g=Value.ref a:=rx;exact Zgc I2 ea c n l ry λj d=>⟨σ,_,d,q2⟩
end
section
variable {X:Cx}{pins:List (Addr×Obj)}{σ:St}{H:Hp}{s:Shared}{A:Around}{E:Value->Shared->Prop}{Q:Value->Shared->Prop}{c:Value}{b:Bool}
inductive NQ(K:aB)(H:Hp):V->Value->Prop where
 | non:NQ K H .non (.type "NoneType")
 | bl (x:Bool):NQ K H (.bl x) (.type "bool")
 | int (i:Int):NQ K H (.int i) (.type "int")
 | str (x:Str):NQ K H (.str x) (.type "str")
 | flt (x:UInt64):NQ K H (.flt x) (.type "float")
 | lst {a:Addr}{xs:List V} (e:H a=some (.lst xs)):NQ K H (.ref a) (.type "list")
 | zK {a:Addr}{o:Obj}{xs:List V} (e:H a=some (.zK o (.lst xs))):NQ K H (.ref a) (.type "list")
 | tup {a:Addr}{xs:List V} (e:H a=some (.tup xs)):NQ K H (.ref a) (.type "tuple")
 | dK {a:Addr}{kvs:List (Key×V)} (e:H a=some (.dK kvs)):NQ K H (.ref a) (.type "dict")
 | dT {a:Addr}{kvs:List (List Key×V)} (e:H a=some (.dT kvs)):NQ K H (.ref a) (.type "dict")
 | ins {a C dx:Addr}{fs:List (Str×V)} (e:H a=some (.ins C dx fs)) (cl:Hg K C) (ha:W.findIn K (.ref C) "__class__"=some (some (.builtin "object.__class__")))
   (hn:W.specialIn K (.builtin "object.__class__") "__get__"=some (some (.builtin "getset_descriptor.__get__"))) (htk:W.takesIn K (.builtin "object.__class__")=some true)
   (hm:W.mroIn K C (.type "object")=some true):NQ K H (.ref a) (.ref C)
def Zlv{x:V}{u t:Value}(I:Inv X pins σ H s)(d:RelV x u)(ty:NQ X.K H x t)(e:W.kitOne X.K t c=some b)(h:∀tk,Q (.bool b) { s with toks:=tk }):
  wpAny (model X.prog X.w) A (call (.builtin "isinstance") [u,c]) Q E s:=by
 cases ty with
 | non=>cases (show u=Value.none from d);exact W.kia_one W.kitx_none I.Et True.intro e (λz=>nomatch z) h
 | bl y=>cases (show u=Value.bool y from d);exact W.kia_one W.kitx_bool I.Et True.intro e (λz=>nomatch z) h
 | int i=>obtain⟨t,q⟩:=(show ∃t,u=Value.int i t from d);cases q;exact W.kia_one W.kitx_int I.Et True.intro e (λz=>nomatch z) h
 | str y=>obtain⟨t,q⟩:=(show ∃t,u=Value.str y t from d);cases q;exact W.kia_one W.kitx_str I.Et True.intro e (λz=>nomatch z) h
 | flt y=>obtain⟨t,q⟩:=(show ∃t,u=Value.float y t from d);cases q;exact W.kia_one W.kitx_float I.Et True.intro e (λz=>nomatch z) h
 | @lst a xs f=>
  cases (show u=Value.ref a from d);obtain⟨_,_,n,_,h1⟩:=(show lA X.prog X.w H s.heap a (.lst xs)from I.hok a _ f);exact W.kia_one W.kitx_list I.Et ⟨_,h1,rfl⟩ e (λz=>nomatch z) h
 | @zK a ob xs f=>
  cases (show u=Value.ref a from d);obtain⟨_,_,_,n,_,h1⟩:=(show lA X.prog X.w H s.heap a (.zK ob (.lst xs))from I.hok a _ f);exact W.kia_one W.kitx_list I.Et ⟨_,h1,rfl⟩ e (λz=>nomatch z) h
 | @tup a xs f=>
  cases (show u=Value.ref a from d);obtain⟨_,_,_,p⟩:=(show lA X.prog X.w H s.heap a (.tup xs)from I.hok a _ f);obtain⟨o,h1,h2,_⟩:=p;exact W.kia_one W.kitx_tuple I.Et ⟨o,h1,h2⟩ e (λz=>nomatch z) h
 | @dK a g f=>
  cases (show u=Value.ref a from d);obtain⟨_,_,vs,_,p⟩:=(show lA X.prog X.w H s.heap a (.dK g)from I.hok a _ f);obtain⟨o,l,k,h1,h2,_⟩:=p;exact W.kia_one W.kitx_dict I.Et ⟨o,h1,h2.1⟩ e (λz=>nomatch z) h
 | @dT a g f=>
  cases (show u=Value.ref a from d);obtain⟨_,_,xs,_,o,l,k,h1,h2,_⟩:=(show lA X.prog X.w H s.heap a (.dT g)from I.hok a _ f);exact W.kia_one W.kitx_dict I.Et ⟨o,h1,h2.1⟩ e (λz=>nomatch z) h
 | @ins a C dx fs f cl m hn j hm=>
  cases (show u=Value.ref a from d);obtain⟨r,O,_⟩:=QL I.hok f;obtain⟨od,J,_⟩:=O.look;exact W.kia_one (W.kitx_own (cl.get _) cl.hd m hn j hm) I.Et J e (λz=>nomatch z) h
end
end L2
namespace L2
open PySem PySem.Spec PyProof.Rows
structure Room(k:Nat)(A:Around):Prop where
 hd:A.handled=none
 dp:A.depth+3 * k+5<recursionLimit
 un:A.units+16 * k+200<cLine
def Room.mono{j k:Nat}{A:Around}(r:Room k A)(h:j<=k):Room j A:=⟨r.hd,by have:=r.dp;omega,by have:=r.un;omega⟩
def Room.deeper{k:Nat}{A:Around}(r:Room (k+1) A)(env:Env):Room k (A.deeper env):=
 ⟨r.hd,by have:=r.dp;show A.depth+1+3 * k+5<_;omega,by have:=r.un;show A.units+3+16 * k+200<_;omega⟩
def Zhy{A:Around}{C:Addr}{us:List Value}{a:List (Str×Value)}:(A.under (.builtin "type.__call__" ⟨.ref C::us,a⟩)).depth=A.depth+1:=by
 first | rfl | simp[Around.under,Code.weight,Code.isCreation,Code.isGuard,Code.isCaller,Code.frames,Code.isFrame,guardIds]
def Zhx{A:Around}{C:Addr}{us:List Value}{a:List (Str×Value)}:(A.under (.builtin "type.__call__" ⟨.ref C::us,a⟩)).units=A.units+1:=by
 first | rfl | simp[Around.under,Code.cUnits,Code.frames,Code.isFrame]
def Room.make{k:Nat}{A:Around}(r:Room (k+1) A)(C:Addr)(us:List Value)(a:List (Str×Value)):Room k (A.under (.builtin "type.__call__" ⟨.ref C::us,a⟩)):=
 ⟨r.hd,by have:=r.dp;rw[Zhy];omega,by have:=r.un;rw[Zhx];omega⟩
def Room.depth{k:Nat}{A:Around}(r:Room k A):A.depth<recursionLimit:=by have:=r.dp;omega
def Room.units{k:Nat}{A:Around}(r:Room k A):A.units+64<cLine:=by have:=r.un;omega
def aF:TA:=λ_ H Q=>Q [] H
def aj(b:TE)(a:TA):TA:=λσ H Q=>b σ H λx d=>a σ d λxs c=>Q (x::xs) c
section
variable {X:Cx}{e:Expr}{es:List Expr}{te:TE}{t:TA}{pos:Pos}
def au:PA X [] aF:=λ_ _ _ _ H Q I h=>Calls.spliced_nil ⟨[],H,I,.nil,h⟩
def aa(c:PE X e te)(hr:PA X es t)(hs:starEach (e::es) X.env=(false,eval e X.env)::starEach es X.env:=by rfl):PA X (e::es) (aj te t):=by
 intro pos a s σ H Q I h;rw[hs];show wpAny _ _ (spliced ((false,eval e X.env)::backTo pos (starEach es X.env))) _ _ s;refine Calls.spliced_cons (iR (c a s σ H _ I h) λu b ⟨x,H1,I1,r1,q1⟩=>?_);exact iR (hr pos a b σ H1 _ I1 q1) λus d ⟨xs,H2,I2,r2,q2⟩=>⟨x::xs,H2,I2,.cons r1 r2,q2⟩
def gf(t:TA):TE:=λσ H Q=>t σ H λxs a=>xs.length<=sizeLine/\∀p,a p=none->Q (.ref p) (upd a p (.tup xs))
def gJ(t:TA):TE:=λσ H Q=>t σ H λxs a=>xs.length<=sizeLine/\∀p,a p=none->Q (.ref p) (upd a p (.lst xs))
def cN{x1}(h:PA X es t):PE X (.Tuple es x1 pos) (gf t):=by
 intro a s σ H Q I hq;refine wpAny_Tuple_spliced (iR (h pos a s σ H _ I hq) λus c ⟨xs,H1,I1,r,z,q⟩=>⟨by rw[<- r.length];exact z,?_⟩);have d:H1 c.heap.objs.size=none:=I1.hok.fresh (Nat.le_refl _);refine⟨.ref c.heap.objs.size,upd H1 c.heap.objs.size (.tup xs),I1.laid (t':=c.toks) (λb u e=>Heap.get?_push_of_some _ e) (Nat.le_refl _) ?_,rfl,q _ d⟩;exact⟨z,us,r,⟨_,Heap.get?_push_size _ rfl,rfl,_,rfl⟩⟩
def cX(h:PA X es t):PE X (.List es pos) (gJ t):=by
 intro a s σ H Q I hq;refine wpAny_List_spliced (iR (h pos a s σ H _ I hq) λus c ⟨xs,H1,I1,r,z,q⟩=>⟨by rw[<- r.length];exact z,?_⟩);have d:H1 c.heap.objs.size=none:=I1.hok.fresh (Nat.le_refl _);refine⟨.ref c.heap.objs.size,upd H1 c.heap.objs.size (.lst xs),I1.laid (t':=c.toks) (λb u e=>Heap.get?_push_of_some _ e) (Nat.le_refl _) ?_,rfl,q _ d⟩;exact⟨z,us,0,r,Heap.get?_push_size _ rfl⟩
end
abbrev Sp:=List V->Hp->VK->XK->Prop
abbrev CXT:=List Env->Hp->Shared->XK->Value->Shared->Prop
structure Zji(P:Program)(w:World)(K:aB)(mg:Str->Option Value)(base:Heap)(A:Around)(outer:List Env)(s:Shared)(H:Hp):Prop where
 frames:A.frames=some outer
 mod:Mod K mg base
 bs:∀b o,base.get? b=some o->s.heap.get? b=some o/\H b=none
 bsz:base.objs.size<=s.heap.objs.size
 zz:s.heap.FunFrames base outer
 frf:∀b∈frs outer,H b=none
 hok:Cm P w H s.heap
 bare:AllBare s.gens
def CE(outer:List Env)(P:Program)(w:World)(H:Hp)(s:Shared)(Q:VK)(u:Value)(s':Shared):Prop:=
 ∃v H',s'.os=s.os/\AllBare s'.gens/\Un (frs outer) [] H H' s.heap s'.heap/\Cm P w H' s'.heap/\RelV v u/\Q v H'
def CR(CX:CXT)(outer:List Env)(P:Program)(w:World)(H:Hp)(s:Shared)(Q:VK)(E:XK)(r:Result)(s':Shared):Prop:=
 match r with
 | .ok (.ret u)=>CE outer P w H s Q u s'
 | .ok _=>False
 | .error e=>CX outer H s E e s'
structure wB(P:Program)(w:World)(K:aB)(mg:Str->Option Value)(base:Heap)(CX:CXT)(k:Nat)(f:Addr)(fd:FuncData)(ps:List Str)(sp:Sp):Prop where
 len:∀vs H Q E,sp vs H Q E->vs.length=ps.length
 run:∀(A:Around) (outer:List Env) (s:Shared) (H:Hp) (args:Args) (us:List Value) (vs:List V) (Q:VK) (E:XK),Room k A->Zji P w K mg base A outer s H->BindsTo s fd args (ps.zip us)->Vals vs us->sp vs H Q E->
  codeAny (model P w) A (.call (.ref f) args) (CR CX outer P w H s Q E) s
def Zji.make{P:Program}{w:World}{K:aB}{mg:Str->Option Value}{base:Heap}{A:Around}{outer:List Env}{s:Shared}{H:Hp}(e:Zji P w K mg base A outer s H)(C:Addr)(us:List Value)(a:List (Str×Value)):
  Zji P w K mg base (A.under (.builtin "type.__call__" ⟨.ref C::us,a⟩)) outer s H:=⟨by first | exact e.frames | (simpa[Around.under,Code.envs,Code.isFrame,pushEnvs]using e.frames),e.mod,e.bs,e.bsz,e.zz,e.frf,e.hok,e.bare⟩
section
variable {X:Cx}{pins:List (Addr×Obj)}{σ:St}{H:Hp}{s s':Shared}
def Inv.env0(I:Inv X pins σ H s):Zji X.prog X.w X.K X.mg X.base X.A X.stack s H:=
 ⟨I.ok.frames,I.ok.mod,I.bs,Nat.le_trans I.ok.bsz I.sz,I.stack,I.Qw,I.hok,I.bare⟩
def Inv.after{Q:VK}{u:Value}(I:Inv X pins σ H s)(h:CE X.stack X.prog X.w H s Q u s'):EP X pins σ Q u s':=by
 obtain⟨v,H',os,bare,un,hok,r,q⟩:=h;obtain⟨hh,g,d,t,a⟩:=s';obtain rfl:a=s.os:=os;exact⟨v,H',I.call (h':=hh) (g':=g) (d':=d) (t':=t) (ch:=[]) un hok bare (λb z=>absurd z (by simp)),r,q⟩
end
def aQ(sp:Sp)(wF:List V)(E:XK)(t:TA):TE:=λσ H Q=>t σ H λvs a=>sp (vs++wF) a Q E
def mj(C:Addr)(m:Str)(sp:Sp)(wF:List V)(E:XK)(c:TE)(t:TA):TE:=λσ H Q=>c σ H λx b=>∃a dx fs,x=.ref a/\b a=some (.ins C dx fs)/\fs.lookup m=none/\
 t σ b λvs d=>sp (x::(vs++wF)) d Q E
def BR(C:Addr)(sp:Sp)(wF:List V)(E:XK)(t:TA):TE:=λσ H Q=>t σ H λvs a=>∀x dx,a x=none->a dx=none->dx≠x->
 sp (.ref x::(vs++wF)) (upd (upd a dx (.own x)) x (.ins C dx [])) (λv b=>v=.non/\Q (.ref x) b) E
def Binds(K:aB)(fd:FuncData)(ps:List Str)(ds:List Value):Prop:=
 ∀(s:Shared) (us:List Value),K.In s.heap->(us++ds).length=ps.length->BindsTo s fd ⟨us,[]⟩ (ps.zip (us++ds))
def Binds.all{K:aB}{fd:FuncData}{ps:List Str}(h:∀us:List Value,us.length=ps.length->bindArgs fd ⟨us,[]⟩=pure (ps.zip us)):Binds K fd ps []:=λs us _ hl=>by
 rw[List.append_nil]at hl ⊢;exact .of_eq (h us hl)
def Passes(CX:CXT)(X:Cx)(E:XK):Prop:=∀(a:List (Addr×Obj)) (σ:St) (H:Hp) (s:Shared) (e:Value) (s':Shared),Inv X a σ H s->CX X.stack H s E e s'->X.xe e s'
section
variable {X:Cx}{CX:CXT}{k:Nat}{f C:Addr}{fd:FuncData}{ps:List Str}{sp:Sp}{wF:List V}{ds:List Value}{E:XK}{x m:Str}{p pos apos:Pos}{e o:Expr}{es:List Expr}{ta:TE}{t:TA}
def Zt{a:List (Addr×Obj)}{σ:St}{H:Hp}{s:Shared}{Q:VK}{us:List Value}{vs:List V}(F:wB X.prog X.w X.K X.mg X.base CX k f fd ps sp)(hr:Room k X.A)(hb:Binds X.K fd ps ds)(hd:Vals wF ds)(hx:Passes CX X E)
  (I:Inv X a σ H s) (r:Vals vs us) (h:sp (vs++wF) H Q E):wpAny (model X.prog X.w) X.A (call (.ref f) us) (EP X a σ Q) X.xe s:=by
 have b:Vals (vs++wF) (us++ds):=r.append hd;have hl:(us++ds).length=ps.length:=by rw[<- b.length];exact F.len _ _ _ _ h
 refine wpAny_call (codeAny_mono (F.run X.A X.stack s H ⟨us,[]⟩ (us++ds) (vs++wF) Q E hr I.env0 (hb s us I.Et hl) b h) λr s' hq=>?_);cases r with
 | error e=>exact hx a σ H s e s' I hq
 | ok fl=>
  cases fl with
  | ret u=>exact I.after hq
  | next=>exact False.elim hq
  | brk=>exact False.elim hq
  | cont=>exact False.elim hq
def wQ(F:wB X.prog X.w X.K X.mg X.base CX k f fd ps sp)(hr:Room k X.A)(g:Gl X x)(hm:X.mg x=some (.ref f))(hk:W.keepIn X.K (.ref f)=true)(hb:Binds X.K fd ps ds)(hd:Vals wF ds)(hx:Passes CX X E)
  (i:PA X (e::es) t) (c:(x == ("__debug__":Str))=false:=by decide) (d:starEach (e::es) X.env=(false,eval e X.env)::starEach es X.env:=by rfl) (b:(backTo pos (starEach es X.env)).any (·.1)=false:=by rfl):
  PE X (.Call (.Name x p) (e::es) [] pos) (aQ sp wF E t):=by
 intro a s σ H Q I h;refine wpAny_Call_Name_kw (uY I g hm ?_ c);refine W.callWith_K (h₀:=X.base) I.ok.mod.kin hk (iR (i pos a s σ H _ I h) λus j ⟨vs,H1,I1,r,q⟩=>⟨I1.Et,?_⟩) d b;exact Zt F hr hb hd hx I1 r q
def tM{pl:Sem Bool}(i:PE X o ta)(c:Hg X.K C)(hm:Meth X.K C m f)(F:wB X.prog X.w X.K X.mg X.base CX k f fd ps sp)(hr:Room k X.A)(hb:Binds X.K fd ps ds)(hd:Vals wF ds)(hx:Passes CX X E)(p:PA X (e::es) t)
  (g:starEach (e::es) X.env=(false,eval e X.env)::starEach es X.env:=by rfl) (d:(backTo pos (starEach es X.env)).any (·.1)=false:=by rfl)
  (j:eval (.Call (.Attribute o m apos) (e::es) [] pos) X.env=(do
   let ov <- eval o X.env
   standAt apos.atName
   let (f,first) <- holding [ov] (getMethod ov m pl)
   callWith pos f first (backTo pos (starEach (e::es) X.env)) (backToKw pos (keywordEach [] X.env))):=by rfl):
  PE X (.Call (.Attribute o m apos) (e::es) [] pos) (mj C m sp wF E ta t):=by
 intro b s σ H Q I h;refine W.methodCall_KW (pl:=pl) (iR (i b s σ H _ I h) λu n ⟨x,H1,I1,rx,a,dx,fs,ex,ea,l,q⟩=>?_) j;subst ex;obtain rfl:u=Value.ref a:=rx;refine TX I1 ea c hm l ?_;refine W.callWith_K (first:=[.ref a]) (h₀:=X.base) I.ok.mod.kin hm.kp (iR (p pos b n σ H1 _ I1 q) λus v ⟨vs,H2,I2,r,q2⟩=>⟨I2.Et,?_⟩) g d;exact Zt (us:=.ref a::us) (vs:=.ref a::vs) F hr hb hd hx I2 (.cons rfl r) q2
def nM{pl:Sem Bool}(d:PE X o ta)(c:Hg X.K C)(hm:Meth X.K C m f)(F:wB X.prog X.w X.K X.mg X.base CX k f fd ps sp)(hr:Room k X.A)(hb:Binds X.K fd ps ds)(hd:Vals wF ds)(hx:Passes CX X E)
  (e:eval (.Call (.Attribute o m apos) [] [] pos) X.env=(do
   let ov <- eval o X.env
   standAt apos.atName
   let (f,first) <- holding [ov] (getMethod ov m pl)
   callWith pos f first (backTo pos (starEach [] X.env)) (backToKw pos (keywordEach [] X.env))):=by rfl):
  PE X (.Call (.Attribute o m apos) [] [] pos) (mj C m sp wF E ta aF):=by
 intro b s σ H Q I h;refine W.methodCall_KW (pl:=pl) (iR (d b s σ H _ I h) λu g ⟨x,H1,I1,rx,a,dx,fs,ex,ea,l,q⟩=>?_) e;subst ex;obtain rfl:u=Value.ref a:=rx;refine TX I1 ea c hm l ?_;exact W.callWith_K0 (first:=[.ref a]) I1.Et hm.kp (Zt (us:=[.ref a]) (vs:=[.ref a]) F hr hb hd hx I1 (.cons rfl .nil) q)
structure Mk(K:aB)(C f:Addr):Prop where
 makes:W.makesIn K C=true
 init:W.findIn K (.ref C) "__init__"=some (some (.ref f))
 fn:W.isFn K (.ref f)=true
 kp:W.keepIn K (.ref C)=true
def Zcw{b:List (Addr×Obj)}{σ:St}{H:Hp}{s:Shared}{Q:VK}{us:List Value}{vs:List V}(M:Mk X.K C f)(F:wB X.prog X.w X.K X.mg X.base CX k f fd ps sp)(hr:Room (k+1) X.A)(hb:Binds X.K fd ps ds)(hd:Vals wF ds)
  (hx:Passes CX X E) (I:Inv X b σ H s) (r:Vals vs us)
  (h:∀x dx,H x=none->H dx=none->dx≠x->sp (.ref x::(vs++wF)) (upd (upd H dx (.own x)) x (.ins C dx [])) (λv j=>v=.non/\Q (.ref x) j) E):
  wpAny (model X.prog X.w) X.A (call (.ref C) us) (EP X b σ Q) X.xe s:=by
 have hq:=h (s.heap.objs.size+1) s.heap.objs.size (I.hok.fresh (Nat.le_succ _)) (I.hok.fresh (Nat.le_refl _)) (Nat.ne_of_lt (Nat.lt_succ_self _));have c:=Inv.made (C:=C) I;have d:Vals (V.ref (s.heap.objs.size+1)::(vs++wF)) (Value.ref (s.heap.objs.size+1)::(us++ds)):=.cons rfl (r.append hd);have hl:(Value.ref (s.heap.objs.size+1)::us++ds).length=ps.length:=by
  have e:=d.length;rw[F.len _ _ _ _ hq]at e;exact e.symm
 refine wpAny_call (Zp2 (f:=f) I.Et M.makes M.init (beq_iff_eq.mp M.fn) (codeAny_mono (F.run _ X.stack _ _ ⟨Value.ref (s.heap.objs.size+1)::us,[]⟩ (Value.ref (s.heap.objs.size+1)::(us++ds)) _ _ E (hr.make C us [])
  (c.env0.make C us []) (hb _ (Value.ref (s.heap.objs.size+1)::us) c.Et hl) d hq) λr s' a=>?_))
 cases r with
 | error e=>exact hx b σ _ _ e s' c a
 | ok fl=>
  cases fl with
  | ret u=>
   obtain⟨v,H',g,l,i,m⟩:=c.after a;subst i;exact⟨l,⟨V.ref (s.heap.objs.size+1),H',g,rfl,m⟩⟩
  | next=>exact False.elim a
  | brk=>exact False.elim a
  | cont=>exact False.elim a
def Bc(M:Mk X.K C f)(F:wB X.prog X.w X.K X.mg X.base CX k f fd ps sp)(hr:Room (k+1) X.A)(g:Gl X x)(hm:X.mg x=some (.ref C))(hb:Binds X.K fd ps ds)(hd:Vals wF ds)(hx:Passes CX X E)
  (i:PA X (e::es) t) (c:(x == ("__debug__":Str))=false:=by decide) (d:starEach (e::es) X.env=(false,eval e X.env)::starEach es X.env:=by rfl) (b:(backTo pos (starEach es X.env)).any (·.1)=false:=by rfl):
  PE X (.Call (.Name x p) (e::es) [] pos) (BR C sp wF E t):=by
 intro a s σ H Q I h;refine wpAny_Call_Name_kw (uY I g hm ?_ c);refine W.callWith_K (h₀:=X.base) I.ok.mod.kin M.kp (iR (i pos a s σ H _ I h) λus j ⟨vs,H1,I1,r,q⟩=>⟨I1.Et,?_⟩) d b;exact Zcw M F hr hb hd hx I1 r q
def Zoe(M:Mk X.K C f)(F:wB X.prog X.w X.K X.mg X.base CX k f fd ps sp)(hr:Room (k+1) X.A)(c:Gl X x)(hm:X.mg x=some (.ref C))(hb:Binds X.K fd ps ds)(hd:Vals wF ds)(hx:Passes CX X E)
  (a:(x == ("__debug__":Str))=false:=by decide):PE X (.Call (.Name x p) [] [] pos) (BR C sp wF E aF):=by
 intro b s σ H Q I h;refine wpAny_Call_Name_kw (uY I c hm ?_ a);exact W.callWith_K0 I.Et M.kp (Zcw (us:=[]) M F hr hb hd hx I .nil h)
end
section
variable {X:Cx}{CX:CXT}{k:Nat}{f C:Addr}{fd:FuncData}{ps ks:List Str}{sp:Sp}{E:XK}{x m:Str}{p pos apos kpos:Pos}{e o:Expr}{es:List Expr}{kws:List Keyword}{te ta:TE}{t tk:TA}{nm:Option Str}
structure ZJ4(K:aB)(fd:FuncData)(ps ks:List Str)(g:List Value->List Value->List Value)(gV:List V->List V->List V):Prop where
 to:∀(s:Shared) (us ws:List Value),K.In s.heap->(g us ws).length=ps.length->BindsTo s fd ⟨us,ks.zip ws⟩ (ps.zip (g us ws))
 rel:∀{vs:List V}{us:List Value}{zs:List V}{ws:List Value},Vals vs us->Vals zs ws->Vals (gV vs zs) (g us ws)
variable {g:List Value->List Value->List Value}{gV:List V->List V->List V}
end
structure aP(N P:List Str)(sc:Scope):Prop where
 kind:sc.kind=.function
 co:sc.isCoroutine=false
 gen:sc.isGenerator=false
 nd:N.Nodup
 pre:N.take P.length=P
 par:∀x∈P,sc.names.lookup x=some .local\/sc.names.lookup x=some .cell
 Zwe:∀y∈sc.names,y.2≠.free
def Ym{kindOf:Str->Option NameKind}{x:Str}:∀{binds:List (Str×Value)}{m:Str->Option Value},(∀v,(x,v)∉binds)->bindL kindOf binds m x=m x
 | [],_,_=>rfl
 | (n,v)::r,m,h=>by
  unfold bindL;rw[Ym λw a=>h w (List.mem_cons_of_mem _ a)];split
  ·have:x≠n:=by rintro rfl;exact h v List.mem_cons_self
   simp[this]
  ·rfl
def Yo{kindOf:Str->Option NameKind}{x:Str}:∀{binds:List (Str×Value)}{m:Str->Option Value},(∀v,(x,v)∉binds)->bindC kindOf binds m x=m x
 | [],_,_=>rfl
 | (n,v)::r,m,h=>by
  unfold bindC;rw[Yo λw a=>h w (List.mem_cons_of_mem _ a)];split
  ·rfl
  ·have:x≠n:=by rintro rfl;exact h v List.mem_cons_self
   simp[this]
def Yn{kindOf:Str->Option NameKind}{x:Str}{v:Value}:∀{P:List Str}{vs:List Value}{i:Nat}{m:Str->Option Value},P.Nodup->P[i]? =some x->vs[i]? =some v->kindOf x=some .local->
  bindL kindOf (P.zip vs) m x=some v
 | [],_,_,_,_,h,_,_=>by simp at h
 | _::_,[],_,_,_,_,h,_=>by simp at h
 | p::P,w::vs,0,m,nd,h1,h2,hk=>by
  simp at h1 h2;subst h1;subst h2;show bindL kindOf ((p,w)::P.zip vs) m p=_;unfold bindL;rw[Ym λv hv=>(List.nodup_cons.mp nd).1 (List.of_mem_zip hv).1,if_pos hk];simp
 | p::P,w::vs,i+1,m,nd,h1,h2,hk=>by
  show bindL kindOf ((p,w)::P.zip vs) m x=_;unfold bindL;exact Yn (i:=i) (List.nodup_cons.mp nd).2 (by simpa using h1) (by simpa using h2) hk
def Yp{kindOf:Str->Option NameKind}{x:Str}{v:Value}:∀{P:List Str}{vs:List Value}{i:Nat}{m:Str->Option Value},P.Nodup->P[i]? =some x->vs[i]? =some v->kindOf x≠some .local->
  bindC kindOf (P.zip vs) m x=some v
 | [],_,_,_,_,h,_,_=>by simp at h
 | _::_,[],_,_,_,_,h,_=>by simp at h
 | p::P,w::vs,0,m,nd,h1,h2,hk=>by
  simp at h1 h2;subst h1;subst h2;show bindC kindOf ((p,w)::P.zip vs) m p=_;unfold bindC;rw[Yo λv hv=>(List.nodup_cons.mp nd).1 (List.of_mem_zip hv).1,if_neg hk];simp
 | p::P,w::vs,i+1,m,nd,h1,h2,hk=>by
  show bindC kindOf ((p,w)::P.zip vs) m x=_;unfold bindC;exact Yp (i:=i) (List.nodup_cons.mp nd).2 (by simpa using h1) (by simpa using h2) hk
def start(N:List Str)(vs:List V):St:=vs.map some++List.replicate (N.length - vs.length) none
def NK(CX:CXT)(P:Program)(w:World)(K:aB)(mg:Str->Option Value)(base:Heap)(N:List Str)(b:Str)(a:Scope)(f:Addr)(d:Value)(A:Around)(outer:List Env)(s:Shared)(H:Hp)(E:XK):Cx where
 prog:=P
 w:=w
 K:=K
 mg:=mg
 base:=base
 A:=A.deeper (envOfC b a s.heap.objs.size f d)
 N:=N
 s₀:=s
 H₀:=H
 env:=envOfC b a s.heap.objs.size f d
 outer:=outer
 stack:=envOfC b a s.heap.objs.size f d::outer
 ex:=[]
 calm:=true
 fn:=λ_=>true
 pn:=[]
 xe:=λe s'=>wpAny (model P w) (A.deeper (envOfC b a s.heap.objs.size f d)) (leaving (envOfC b a s.heap.objs.size f d) e) (λ_ c=>CX outer H s E e c) (λg c=>CX outer H s E g c) s'
def Zf1{a:Scope}{n:Nat}{x:Str}(h:a.names.lookup x=some .cell):∃c,(cellsFrom n a.names []).lookup x=some c:=by
 have q:=W.cellsFrom_some a.names n [] (.inl h);exact Option.isSome_iff_exists.mp q
def Zly{CX:CXT}{P:Program}{w:World}{K:aB}{mg:Str->Option Value}{base:Heap}{N ps:List Str}{g:Str}{d:Scope}{f:Addr}{t:Value}{A:Around}{outer:List Env}{s B:Shared}{H:Hp}{E:XK}{us:List Value}{vs:List V}
  (S:aP N ps d) (hd:A.handled=none) (j:Zji P w K mg base A outer s H) (hl:vs.length=ps.length) (r:Vals vs us)
  (x:InCallC s s.heap.objs.size (bindL (envOfC g d s.heap.objs.size f t).kindOf (ps.zip us) λ_=>none) (cellsFrom (s.heap.objs.size+1) d.names []) (bindC (envOfC g d s.heap.objs.size f t).kindOf (ps.zip us) λ_=>none) B):
  Inv (NK CX P w K mg base N g d f t A outer s H E) [] (start N vs) H B:=by
 have C:ps.length<=N.length:=by have:=congrArg List.length S.pre;rw[List.length_take]at this;omega
 obtain⟨h1,tk,rfl,hk⟩:=x.done;have l:∀b:Addr,b∉(NK CX P w K mg base N g d f t A outer s H E).ex:=λb z=>absurd (show b∈([]:List Addr)from z) (by simp);refine⟨⟨j.mod,S.kind,rfl,rfl,Nat.le_refl _,λy z c h1 h2=>?_,λy hy=>?_,λy c _ h=>?_,λ_=>hd,Around.frames_deeper j.frames,.inr ⟨rfl,rfl⟩,λb z=>absurd z (l b),j.bs,j.bsz,λb _ _=>l b,λb z=>absurd z (l b),j.zz,j.frf⟩,
  rfl,j.bare,Un.kept hk,⟨_,x.toInCall.ns,λi y v h1 h2 h3=>?_⟩,λy c h=>⟨_,x.cell y c h⟩,j.hok.fresh (Nat.le_refl _),λy c h=>?_,λp hp=>absurd (show p∈([]:List (Addr×Obj))from hp) (by simp),j.hok.kept hk,?_⟩
 ·exact name_of_addr x.apart (PySem.mem_of_lookup h1) (PySem.mem_of_lookup h2)
 ·have hy:d.names.lookup y=some .cell\/d.names.lookup y=some .free:=hy;rcases hy with hy | hy
  ·exact Zf1 hy
  ·exact absurd rfl (S.Zwe _ (PySem.mem_of_lookup hy))
 ·exact Nat.le_of_lt (x.above y c (PySem.mem_of_lookup h))
 ·have o:i<vs.length:=by
   unfold start at h2
   by_cases o:i<vs.length
   ·exact o
   ·rw[List.getElem?_append_right (by simpa using o)]at h2;rw[List.getElem?_replicate]at h2;split at h2<;>cases h2
  have F:vs[i]? =some v:=by
   unfold start at h2;rw[List.getElem?_append_left (by simpa using o),cA]at h2;cases e:vs[i]? with
   | none=>rw[e]at h2;cases h2
   | some a=>rw[e]at h2;cases h2;rfl
  obtain⟨u,hu,D⟩:=r.get F;have hp:ps[i]? =some y:=by
   rw[<- S.pre,List.getElem?_take_of_lt (by omega)];exact h1
  have m:ps.Nodup:=by rw[<- S.pre];exact S.nd.sublist (List.take_sublist _ _)
  refine⟨u,D,?_⟩;rcases S.par y (List.mem_of_getElem? hp)with k | k
  ·exact .inl ⟨k,Yn m hp hu k⟩
  ·obtain⟨c,e⟩:=Zf1 (n:=s.heap.objs.size+1) k;refine .inr ⟨.inl k,c,e,?_⟩;have q:=x.cell y c e;rw[Yp m hp hu (by show d.names.lookup y≠_;rw[k];decide)]at q;exact q
 ·exact j.hok.fresh (Nat.le_of_lt (x.above y c (PySem.mem_of_lookup h)))
 ·unfold start;show _=N.length;rw[List.length_append,aX,List.length_replicate];omega
def Zqk{CX:CXT}{P:Program}{w:World}{K:aB}{mg:Str->Option Value}{base:Heap}{k:Nat}{f:Addr}{name c:Str}{g:Arguments}{h:List Stmt}{a:Scope}{dV kV z O d ct oc:Value}{T od:Option Addr}
  {D:Array (Option Value)}{N ps:List Str}{sp:Sp} (lk:K.lookup f=some ⟨oc,od,.func (W.fnOf name c g h a dV kV z O T d ct),D⟩) (F:W.codeIn K d c=true) (S:aP N ps a)
  (len:∀vs H Q E,sp vs H Q E->vs.length=ps.length)
  (l:∀(A:Around) (outer:List Env) (s:Shared) (H:Hp) (vs:List V) (Q:VK) (E:XK),Room k (A.deeper (envOfC c a s.heap.objs.size f d))->sp vs H Q E->
   ∃t,PSs (NK CX P w K mg base N c a f d A outer s H E) h t/\t { nx:=λ_ H'=>Q .non H',rt:=Q } (start N vs) H):
  wB P w K mg base CX (k+1) f (W.fnOf name c g h a dV kV z O T d ct) ps sp:=by
 refine⟨len,λA outer s H R us vs Q E hr m hb r p=>?_⟩;have hl:=len _ _ _ _ p;have M:K.In s.heap:=m.mod.kin.keeps λb o e=>(m.bs b o e).1;have C:s.heap.NoLimit:=m.mod.nolimit.keeps λb o e=>(m.bs b o e).1;have j:∀y∈ps.zip us,a.names.lookup y.1=some .local\/(a.names.lookup y.1=some .cell/\((cellsFrom (s.heap.objs.size+1) a.names []).lookup y.1).isSome=true):=λ⟨n,v⟩ hy=>by
  rcases S.par n (List.of_mem_zip hy).1 with q | q
  ·exact .inl q
  ·exact .inr ⟨q,W.cellsFrom_some _ _ _ (.inl q)⟩
 refine codeAny_call_function hr.depth (M _ _ lk) rfl S.co S.gen rfl (W.codeRec_of M F) (hb _ _ _ _ ?_);refine wpAny_newFunctionEnv_cells S.kind j λenv X L x=>?_;subst X;refine⟨C.keeps x.toInCall.keep,codeAny_func ?_⟩;obtain⟨t,U,hq⟩:=l A outer s H vs Q E (hr.deeper _) p;have I:Inv (NK CX P w K mg base N c a f d A outer s H E) [] (start N vs) H L:=Zly S hr.hd m hl r x;refine wpAny_mono (U [] L (start N vs) H _ I hq) (λfl s' hs=>?_) λe s' hs=>hs;have fin:∀{i:St}{H':Hp}{v:V}{u:Value},Inv (NK CX P w K mg base N c a f d A outer s H E) [] i H' s'->RelV v u->Q v H'->CE outer P w H s Q u s':=
  λ{i H' v u} J B q=>⟨v,H',J.os,J.bare,J.base,J.hok,B,q⟩
 cases fl with
 | ret u=>
  obtain⟨v,i,H',J,B,q⟩:=hs;exact fin J B q
 | next=>
  obtain⟨i,H',J,q⟩:=hs;exact fin (v:=V.non) (u:=Value.none) J rfl q
 | brk=>
  obtain⟨_,_,_,q⟩:=hs;exact False.elim q
 | cont=>
  obtain⟨_,_,_,q⟩:=hs;exact False.elim q
end L2
namespace L2
open PySem PySem.Spec PyProof.Rows
section
variable {X:Cx}{x:Str}{p pos:Pos}{e:Expr}{es:List Expr}{t:TA}{id T:String}{r:List V->Hp->VK->Prop}
def xK(r:List V->Hp->VK->Prop)(t:TA):TE:=λσ H Q=>t σ H λvs a=>r vs a Q
def cP(hc:PJ X (.builtin id) r)(f:Gl X x)(hm:X.mg x=none)(hv:bootBuiltins x=some (.builtin id))(i:PA X (e::es) t)(hn:x≠"__name__":=by decide)(c:(x == ("__debug__":Str))=false:=by decide)
  (d:starEach (e::es) X.env=(false,eval e X.env)::starEach es X.env:=by rfl) (b:(backTo pos (starEach es X.env)).any (·.1)=false:=by rfl):PE X (.Call (.Name x p) (e::es) [] pos) (xK r t):=by
 intro a s σ H Q I h;refine wpAny_Call_Name_kw (Te I f hm hv ?_ hn c);exact PyProof.Rows.callWith_builtin1 (iR (i pos a s σ H _ I h) λus g ⟨vs,H1,I1,r1,q1⟩=>hc a g σ H1 vs us Q I1 r1 q1) d b
def sH(hc:PJ X (.type T) r)(f:Gl X x)(hm:X.mg x=none)(hv:bootBuiltins x=some (.type T))(i:PA X (e::es) t)(hn:x≠"__name__":=by decide)(c:(x == ("__debug__":Str))=false:=by decide)
  (d:starEach (e::es) X.env=(false,eval e X.env)::starEach es X.env:=by rfl) (b:(backTo pos (starEach es X.env)).any (·.1)=false:=by rfl):PE X (.Call (.Name x p) (e::es) [] pos) (xK r t):=by
 intro a s σ H Q I h;refine wpAny_Call_Name_kw (Te I f hm hv ?_ hn c);exact PyProof.Rows.callWith_type1 (iR (i pos a s σ H _ I h) λus g ⟨vs,H1,I1,r1,q1⟩=>hc a g σ H1 vs us Q I1 r1 q1) d b
end
end L2
namespace HT
open PySem PyProof.Rows
section
open PySem.SeqAt
open PySem.AutoSeq1 (wpAny_loadPart')
open PySem.MeetsSeq PySem.MeetsSeq2 PySem.MeetsSeq3
end
section
variable {prog:Program}{w:World}{A:Around}{E:Value->Shared->Prop}{s:Shared}
def Zui{t b:Addr}{vs a:List Value}{Q:Value->Shared->Prop}(m:IsTup s.heap t vs.toArray)(hb:IsTup s.heap b a.toArray)(hv:vs≠[])
  (h1:a=[]->Q (.ref t) s) (h2:a≠[]->Q (.ref s.heap.objs.size) { s with heap:=s.heap.push { cls:=.type "tuple",data:=.seq (vs++a).toArray } })
  (hsz:vs.length+a.length<=sizeLine):wpAny (model prog w) A (binaryOp .Add (.ref t) (.ref b)) Q E s:=by
 obtain⟨⟨o,dd,k,sl⟩,i,hc,n,hd⟩:=id m;obtain⟨⟨l,d,data2,h⟩,c,f,n2,g⟩:=id hb;simp only at hc hd f g;subst hc hd f g;have e:vs.toArray++a.toArray=(vs++a).toArray:=by simp
 by_cases j:a=[]
 ·exact concat_meets ⟨_,i,rfl⟩ ⟨_,c,rfl⟩ noFill_tuple_add seq_tuple_add PySem.F.slot_tuple_add PySem.F.entry_tuple_add (PySem.F.args_tuple_add_2 _ _)
   (tuple_addW1 t b vs.toArray a.toArray n n2 dd d sl h (by simpa using hv) (by simp[j])) ⟨i,c,h1 j⟩
 ·refine concat_meets ⟨_,i,rfl⟩ ⟨_,c,rfl⟩ noFill_tuple_add seq_tuple_add PySem.F.slot_tuple_add PySem.F.entry_tuple_add (PySem.F.args_tuple_add_2 _ _)
   (tuple_addW2 t b vs.toArray a.toArray n n2 dd d sl h (by simpa using hv) (by simpa using j) (by rw[List.size_toArray,List.size_toArray];exact hsz)) ⟨i,c,?_⟩
  rw[e];exact h2 j
def qy(n d:Nat):Option Int->Nat
 | none=>d
 | some v=>if v<0 then(v+(n:Int)).toNat else min v.toNat n
def Znp(n d:Nat):qy n d none=d:=rfl
def Zrw(n d k:Nat):qy n d (some (k:Int))=min k n:=by
 show(if (k:Int)<0 then((k:Int)+(n:Int)).toNat else min (k:Int).toNat n)=min k n;rw[if_neg (by omega),Int.toNat_natCast]
def Zvv(n d:Nat)(hd:d<=n)(o:Option Int):qy n d o<=n:=by
 cases o with
 | none=>exact hd
 | some v=>
  show(if v<0 then(v+(n:Int)).toNat else min v.toNat n)<=n
  by_cases hv:v<0
  ·rw[if_pos hv];omega
  ·rw[if_neg hv];exact Nat.min_le_right _ _
def Zkf(v:Int)(n d:Nat):(if v<0 then max (v+(n:Int)) 0 else min v (n:Int))=((qy n d (some v):Nat):Int):=by
 show(if v<0 then max (v+(n:Int)) 0 else min v (n:Int))=(((if v<0 then(v+(n:Int)).toNat else min v.toNat n):Nat):Int)
 by_cases hv:v<0
 ·simp only[if_pos hv];omega
 ·simp only[if_neg hv];omega
def Zjd(lo a:Option Int)(n:Nat):Builtin.Slice.sliceAdjust lo a 1 (n:Int)=(((qy n 0 lo:Nat):Int),((qy n n a:Nat):Int)):=by
 have h1:¬ ((1:Int)<0):=by omega
 unfold Builtin.Slice.sliceAdjust;simp only[h1,if_false];refine Prod.ext ?_ ?_
 ·cases lo with
  | none=>rfl
  | some v=>exact Zkf v n 0
 ·cases a with
  | none=>rfl
  | some v=>exact Zkf v n n
def Zh2(i j:Nat):Builtin.Slice.slicePlaces (i:Int) (j:Int) 1=j - i:=by
 unfold Builtin.Slice.slicePlaces;have h1:(1:Int) > 0:=by omega
 simp only[h1,if_true,Int.ediv_one];split<;>omega
def Rq{v:Value}{o:Option Int}{Q:Option Int->Shared->Prop}(p:IsPart v o)(h:Q o s):wpAny (model prog w) A (Builtin.Slice.slicePartIndex v) Q E s:=by
 cases p with
 | none=>exact slicePart_none h
 | int i t=>exact slicePart_int h
def K6{sl:Addr}{d e:Value}{lo b:Option Int}{n:Nat}{Q:Int×Int×Nat->Shared->Prop}(hs:s.heap.IsSliceOf sl d e .none)(pl:IsPart d lo)(f:IsPart e b)
  (h:Q (((qy n 0 lo:Nat):Int),1,qy n n b - qy n 0 lo) s):wpAny (model prog w) A (Builtin.Slice.sliceApplied (.ref sl) (pure (n:Int))) Q E s:=by
 obtain⟨os,c,g,a⟩:=id hs;unfold Builtin.Slice.sliceApplied Builtin.Slice.sliceFields;refine wpAny_bind (wpAny_bind (wpAny_field c a (x:=d) rfl (wpAny_bind (wpAny_field c a (x:=e) rfl (wpAny_bind (wpAny_field c a (x:=.none) rfl (wpAny_pure ?_)))))));refine wpAny_bind (slicePart_none ?_);show wpAny _ _ (if ((1:Int) == 0)=true then _ else _) _ _ s;rw[if_neg (by decide)];refine wpAny_bind (Rq pl (wpAny_bind (Rq f (wpAny_bind (wpAny_pure ?_)))));show wpAny _ _ (match Builtin.Slice.sliceAdjust lo b 1 (n:Int)with | (lo,b)=>pure (lo,(1:Int),Builtin.Slice.slicePlaces lo b 1)) _ _ s;rw[Zjd lo b n];show wpAny _ _ (pure (((qy n 0 lo:Nat):Int),(1:Int),Builtin.Slice.slicePlaces ((qy n 0 lo:Nat):Int) ((qy n n b:Nat):Int) 1)) _ _ s;rw[Zh2];exact wpAny_pure h
def Zo7(xs:Array Value)(i k:Nat):((List.range k).filterMap λ(m:Nat)=>xs[((i:Int)+(m:Int) * 1).toNat]?).toArray=((xs.toList.drop i).take k).toArray:=by
 have e:(λ(m:Nat)=>xs[((i:Int)+(m:Int) * 1).toNat]?)=λm=>xs[i+m]? :=by
  funext m
  have:((i:Int)+(m:Int) * 1).toNat=i+m:=by omega
  rw[this]
 rw[e];have:=pick_run xs i k;rw[List.filterMap_map]at this;have a:((λx=>xs[x]?) ∘ λx=>i+x)=λm=>xs[i+m]? :=rfl;rw[a]at this;rw[this]
def Ka{t sl:Addr}{a:Array Value}{j k:Value}{lo b:Option Int}{Q:Value->Shared->Prop}(d:IsTup s.heap t a)(hs:s.heap.IsSliceOf sl j k .none)(pl:IsPart j lo)(n:IsPart k b)
  (o:¬ (qy a.size 0 lo=0/\qy a.size a.size b=a.size))
  (h:Q (.ref s.heap.objs.size) { s with heap:=s.heap.push { cls:=.type "tuple",data:=.seq ((a.toList.drop (qy a.size 0 lo)).take (qy a.size a.size b - qy a.size 0 lo)).toArray } })
  (hsz:a.size<=sizeLine):wpAny (model prog w) A (getItem (.ref t) (.ref sl)) Q E s:=by
 have c:sizeOk (.seq ((a.toList.drop (qy a.size 0 lo)).take (qy a.size a.size b - qy a.size 0 lo)).toArray):=by
  show((a.toList.drop (qy a.size 0 lo)).take (qy a.size a.size b - qy a.size 0 lo)).toArray.size<=sizeLine;rw[List.size_toArray,List.length_take,List.length_drop,Array.length_toList];omega
 have u:qy a.size a.size b<=a.size:=Zvv _ _ (Nat.le_refl _) b;obtain⟨os,i,f,l⟩:=id hs;have e:s.TypeIs (.ref sl) "slice":=⟨os,i,f⟩;unfold getItem
 try with_reducible refine wpAny_holding ?_
 first | refine wpAny_bind (wpAny_pure ?_) | skip
 refine wpAny_bind (wpAny_sequenceKey d.typeIs (by decide) ?_);refine wpAny_bind (wpAny_callSpecial?_slot (name:=Str.ofString "__getitem__") d.typeIs PyProof.Rows.slot_tuple_getitem
  (wpAny_call_entry PyProof.Rows.slot_tuple_getitem d.typeIs entry_tuple_getitem ?_ (args_tuple_getitem _ _)))
 show wpAny _ _ (Builtin.Tuple.tupleItemsOf (.ref t) >>= _) _ _ s;refine wpAny_bind (tupleItemsOf_ d ?_);refine wpAny_bind (wpAny_typeOf e ?_);rw[if_pos (by decide)];refine wpAny_bind (K6 hs pl n ?_);have g:¬ ((((qy a.size 0 lo:Nat):Int) == 0 && (1:Int) == 1 && (qy a.size a.size b - qy a.size 0 lo) == a.size)=true):=by
  intro q;rw[Bool.and_eq_true,Bool.and_eq_true]at q;have p:((qy a.size 0 lo:Nat):Int)=0:=eq_of_beq q.1.1;have r:qy a.size a.size b - qy a.size 0 lo=a.size:=eq_of_beq q.2;exact o ⟨by omega,by omega⟩
 show wpAny _ _ (if (((qy a.size 0 lo:Nat):Int) == 0 && (1:Int) == 1 && (qy a.size a.size b - qy a.size 0 lo) == a.size)=true then _ else _) _ _ s;rw[if_neg g,Zo7]
 first
  | exact wpAny_bind (m:=Builtin.Tuple.tupleExact _) (wpAny_newObj_type (wpAny_pure ⟨_,rfl,wpAny_pure h⟩) c)
  | exact wpAny_bind (m:=Builtin.Tuple.tupleExact _) (wpAny_newObj_type (wpAny_bind (wpAny_pure (wpAny_pure ⟨_,rfl,wpAny_pure h⟩))) c)
  | exact wpAny_bind (wpAny_bind (m:=Builtin.Tuple.tupleExact _) (wpAny_newObj_type (wpAny_pure (wpAny_pure ⟨_,rfl,wpAny_pure h⟩)) c))
  | exact wpAny_bind (wpAny_bind (m:=Builtin.Tuple.tupleExact _) (wpAny_newObj_type (wpAny_pure ⟨_,rfl,wpAny_pure h⟩) c))
end
end HT
namespace L2
open PySem PySem.Spec PyProof.Rows
abbrev TO:=St->Hp->(Option Int->Hp->Prop)->Prop
def PO(X:Cx)(e:Option Expr)(t:TO):Prop:=
 ∀(a:List (Addr×Obj)) (s:Shared) (σ:St) (H:Hp) (Q:Option Int->Hp->Prop),Inv X a σ H s->t σ H Q->
  wpAny (model X.prog X.w) X.A (evalPart e X.env) (λu s'=>∃o H',Inv X a σ H' s'/\IsPart u o/\Q o H') X.xe s
def Iw:TO:=λ_ H Q=>Q none H
def Rg(t:TE):TO:=λσ H Q=>t σ H λx a=>∃i,x=.int i/\Q (some i) a
section
variable {X:Cx}{e:Expr}{te:TE}{lo hi:Option Expr}{tl th:TO}{pos p2:Pos}
def ZF:PO X none Iw:=by
 intro a s σ H Q I h;rw[evalPart_none];exact wpAny_pure ⟨none,H,I,.none,h⟩
def Jq(h:PE X e te):PO X (some e) (Rg te):=by
 intro a s σ H Q I b;rw[evalPart_some];refine iR (h a s σ H _ I b) λu c ⟨x,H1,I1,r1,q1⟩=>?_;obtain⟨i,rfl,q⟩:=q1;obtain⟨t,rfl⟩:=r1;exact⟨some i,H1,I1,.int i t,q⟩
def SlR(X:Cx)(r:V->Option Int->Option Int->Hp->VK->Prop):Prop:=
 ∀(a:List (Addr×Obj)) (s:Shared) (σ:St) (H:Hp) (x:V) (v b c:Value) (lo hi:Option Int) (sl:Addr) (Q:VK),Inv X a σ H s->RelV x v->s.heap.IsSliceOf sl b c .none->IsPart b lo->IsPart c hi->r x lo hi H Q->
  ∃T id,typeLookup (.type T) "__getitem__"=pure (some (.builtin id))/\s.TypeIs v T/\wpAny (model X.prog X.w) X.A (getItem v (.ref sl)) (EP X a σ Q) X.xe s
def tSl(r:V->Option Int->Option Int->Hp->VK->Prop)(te:TE)(tl th:TO):TE:=λσ H Q=>te σ H λx c=>tl σ c λl b=>th σ b λu a=>r x l u a Q
def Jr{r:V->Option Int->Option Int->Hp->VK->Prop}(hr:SlR X r)(g:PE X e te)(hl:PO X lo tl)(hu:PO X hi th):PE X (.Subscript e (.Slice lo hi none p2) pos) (tSl r te tl th):=by
 intro a s σ H Q I h;refine Subscript_ (iR (g a s σ H _ I h) λv k ⟨x,H1,I1,r1,q1⟩=>?_);refine wpAny_Slice (iR (hl a k σ H1 _ I1 q1) λd m ⟨l,H2,I2,pl,q2⟩=>iR (hu a m σ H2 _ I2 q2) λf c ⟨u,H3,I3,pu,q3⟩=>?_);rw[evalPart_none];refine wpAny_pure ?_;have o:Inv X a σ H3 { c with heap:=c.heap.push { cls:=.type "slice",data:=.fields #[d,f,.none] } }:=I3.kept (t':=c.toks) λb ob q=>Heap.get?_push_of_some _ q;obtain⟨T,id,n,i,j⟩:=hr a { c with heap:=c.heap.push { cls:=.type "slice",data:=.fields #[d,f,.none] } } σ H3 x v d f l u c.heap.objs.size Q o r1 (Heap.IsSliceOf.new ..) pl pu q3;show wpAny (model X.prog X.w) X.A (subscriptTail e (.Slice lo hi none p2) v (.ref c.heap.objs.size)) (EP X a σ Q) X.xe { c with heap:=c.heap.push { cls:=.type "slice",data:=.fields #[d,f,.none] } };exact tail_any (ops:=[.ref c.heap.objs.size,v]) i n j (by with_unfolding_all rfl)
def Qv(xs:List V)(lo hi:Option Int):List V:=(xs.drop (HT.qy xs.length 0 lo)).take (HT.qy xs.length xs.length hi - HT.qy xs.length 0 lo)
def Pr(xs:List V)(lo hi:Option Int):(Qv xs lo hi).length<=xs.length:=by
 unfold Qv;rw[List.length_take,List.length_drop];omega
def Zvw(K:aB):V->Option Int->Option Int->Hp->VK->Prop:=λx lo hi H Q=>∃a xs,x=.ref a/\fZ K H a xs/\
 ¬ (HT.qy xs.length 0 lo=0/\HT.qy xs.length xs.length hi=xs.length)/\∀p,H p=none->Q (.ref p) (upd H p (.tup (Qv xs lo hi)))
def Znj:SlR X (Zvw X.K):=by
 intro f s σ H x v k l lo hi sl Q I g hs pl i h;obtain⟨a,xs,rfl,hx,j,q⟩:=h;cases g;obtain⟨d,r,e,hz⟩:=I.tuple hx;have c:d.toArray.size=xs.length:=by rw[List.size_toArray];exact r.length.symm
 refine⟨"tuple",_,PyProof.Rows.slot_tuple_getitem.lookup,e.typeIs,?_⟩;refine HT.Ka e hs pl i (by rw[c];exact j) ?_ (by rw[c];exact hz);rw[c];refine⟨.ref s.heap.objs.size,_,I.laid (t':=s.toks) (o:=.tup (Qv xs lo hi)) (λb ob q=>Heap.get?_push_of_some _ q) (Nat.le_refl _) ?_,rfl,q _ (I.hok.fresh (Nat.le_refl _))⟩;exact⟨Nat.le_trans (Pr xs lo hi) hz,_,(r.drop (HT.qy xs.length 0 lo)).take (HT.qy xs.length xs.length hi - HT.qy xs.length 0 lo),IsTup.new _ _⟩
def Zux(K:aB):R2:=λx y H Q=>∃a b xs c,x=.ref a/\y=.ref b/\fZ K H a xs/\fZ K H b c/\xs≠[]/\xs.length+c.length<=sizeLine/\
 (c=[]->Q (.ref a) H)/\(c≠[]->∀p,H p=none->Q (.ref p) (upd H p (.tup (xs++c))))
def Vals.Za7{xs:List V}{us:List Value}(r:Vals xs us):us=[]↔xs=[]:=by
 cases r with
 | nil=>simp
 | cons _ _=>simp
def Zsq:zA X (binaryOp .Add) (Zux X.K):=by
 intro f s σ H x y v u Q I j i h;obtain⟨a,b,xs,g,rfl,rfl,p,hb,hx,hz,k,l⟩:=h;cases j;cases i;obtain⟨m,d,n,_⟩:=I.tuple p;obtain⟨e,c,p2,_⟩:=I.tuple hb;refine HT.Zui n p2 (λz=>hx (d.Za7.mp z)) (λz=>⟨.ref a,H,I,rfl,k (c.Za7.mp z)⟩) (λz=>?_) (by rw[<- d.length,<- c.length];exact hz);refine⟨.ref s.heap.objs.size,_,I.laid (t':=s.toks) (o:=.tup (xs++g)) (λb ob q=>Heap.get?_push_of_some _ q) (Nat.le_refl _) ?_,rfl,l (λw=>z (c.Za7.mpr w)) _ (I.hok.fresh (Nat.le_refl _))⟩;exact⟨by rw[List.length_append];exact hz,_,d.append c,IsTup.new _ _⟩
end
end L2
namespace L2
open PySem PySem.Spec PyProof.Rows
def ixN(n:Nat)(i:Int):Option Nat:=if 0<=i then(if i<n then some i.toNat else none)else if -(n:Int)<=i then some (i+n).toNat else none
def Uy{a:Type}(xs:List a)(i:Int):Option a:=(ixN xs.length i).bind λj=>xs[j]?
def Zk2{n:Nat}{i:Int}{j:Nat}(h:ixN n i=some j):seqIndex? i n=some j/\j<n/\-(n:Int)<=i/\i<n:=by
 unfold ixN at h
 by_cases a:0<=i
 ·rw[if_pos a]at h
  by_cases h1:i<n
  ·rw[if_pos h1]at h;have e:i.toNat=j:=Option.some.inj h;exact⟨by rw[seqIndex_of a h1,e],by omega,by omega,h1⟩
  ·rw[if_neg h1]at h;cases h
 ·rw[if_neg a]at h
  by_cases h1:-(n:Int)<=i
  ·rw[if_pos h1]at h;have e:(i+n).toNat=j:=Option.some.inj h;exact⟨by rw[seqIndex_neg (by omega) h1,e],by omega,h1,by omega⟩
  ·rw[if_neg h1]at h;cases h
def QS{a:Type}{xs:List a}{i:Int}{v:a}(h:Uy xs i=some v):∃j,seqIndex? i xs.length=some j/\xs[j]? =some v/\j<xs.length/\-(xs.length:Int)<=i/\i<xs.length:=by
 unfold Uy at h;cases e:ixN xs.length i with
 | none=>rw[e]at h;cases h
 | some j=>
  rw[e]at h;obtain⟨h1,h2,h3,h4⟩:=Zk2 e;exact⟨j,h1,h,h2,h3,h4⟩
def iI{a:Type}{xs:List a}{j:Nat}{v:a}(h:xs[j]? =some v):Uy xs (j:Int)=some v:=by
 have b:j<xs.length:=(dH h).1;have e:ixN xs.length (j:Int)=some j:=by
  unfold ixN;rw[if_pos (by omega),if_pos (by omega)];simp
 unfold Uy;rw[e];exact h
def Zc8(b:Expr):Prop:=∀o i,subscripted b false o i=operate [o,i] (getItem o i)
def IxR(X:Cx)(r:R2):Prop:=
 ∀(c a:Expr) (b:List (Addr×Obj)) (s:Shared) (σ:St) (H:Hp) (x y:V) (v u:Value) (Q:VK),Inv X b σ H s->RelV x v->RelV y u->r x y H Q->
  subscripted a false v u=operate [v,u] (getItem v u)->wpAny (model X.prog X.w) X.A (subscriptTail c a v u) (EP X b σ Q) X.xe s
def MtR(X:Cx)(id:String)(r:V->List V->Hp->VK->Prop):Prop:=
 ∀(a:List (Addr×Obj)) (s:Shared) (σ:St) (H:Hp) (x:V) (xs:List V) (v:Value) (us:List Value) (Q:VK),Inv X a σ H s->RelV x v->Vals xs us->r x xs H Q->
  wpAny (model X.prog X.w) X.A (call (.builtin id) (v::us)) (EP X a σ Q) X.xe s
section
variable {X:Cx}{a b:Expr}{ta tb:TE}{pos:Pos}
def Zuz{r:R2}(hr:IxR X r)(j:PE X a ta)(hb:PE X b tb)(hs:Zc8 b):PE X (.Subscript a b pos) (bC r ta tb):=by
 intro c s σ H Q I h;exact Subscript_ (Zy7 j hb I h λv u i x y g f e d q=>hr a b c i σ g x y v u Q f e d q (hs _ _))
def mz(K:aB):R2:=λx y H Q=>∃p xs i v,x=.ref p/\y=.int i/\cj K H p xs/\Uy xs i=some v/\Q v H
def eF(K:aB):R2:=λx y H Q=>∃p xs i v,x=.ref p/\y=.int i/\fZ K H p xs/\Uy xs i=some v/\Q v H
def Znu:R2:=λx y H Q=>∃z i c,x=.str z/\y=.int i/\z.length<=sizeLine/\Uy z.cps.toList i=some c/\Q (.str ⟨#[c]⟩) H
def cV:IxR X (mz X.K):=by
 intro b f a s σ H x y v u Q I n m h hs;obtain⟨p,xs,i,z,rfl,rfl,hq,l,q⟩:=h;cases n;obtain⟨t,rfl⟩:=m;obtain⟨c,r,pl,hz⟩:=I.list hq;obtain⟨j,h1,h2,h3,h4,h5⟩:=QS l;obtain⟨w,g,d⟩:=r.get h2;have hl:=r.length;have hn:=HS;have fin:EP X a σ Q w s:=⟨z,H,I,d,q⟩
 by_cases k:0<=i
 ·have e:i.toNat=j:=by
   rw[seqIndex_of k h5]at h1;exact Option.some.inj h1
  exact item_listR pl.isList k (by omega) (by rw[e];simpa using g) fin hs
 ·have e:(i+(c.toArray.size:Int)).toNat=j:=by
   rw[seqIndex_neg (by omega) h4]at h1;rw[List.size_toArray,<- hl];exact Option.some.inj h1
  exact subscriptTail_builtinR (x:=w) pl.isList.typeIs slot_list_getitem.lookup
   (wpAny_getItem_list_neg (Q:=λr s'=>r=w/\EP X a σ Q r s') pl.isList (by omega) (by rw[List.size_toArray]<;>omega) (by omega) (by rw[e];simpa using g) ⟨rfl,fin⟩) hs
def bL:IxR X (eF X.K):=by
 intro b d a s σ H x y v u Q I g f h hs;obtain⟨p,xs,i,z,rfl,rfl,hq,e,q⟩:=h;cases g;obtain⟨t,rfl⟩:=f;obtain⟨l,r,pl,hz⟩:=I.tuple hq;obtain⟨j,h1,h2,h3,h4,h5⟩:=QS e;obtain⟨w,k,c⟩:=r.get h2;have hl:=r.length;have hn:=HS;have fin:EP X a σ Q w s:=⟨z,H,I,c,q⟩;exact subscriptTail_builtinR (x:=w) pl.typeIs slot_tuple_getitem.lookup
  (getItem_tuple (j:=j) (Q:=λr s'=>r=w/\EP X a σ Q r s') pl (by omega) (by omega) (by rw[List.size_toArray,<- hl];exact h1) (by simpa using k) ⟨rfl,fin⟩) hs
def Zpq:IxR X Znu:=by
 intro a b d s σ H x y v u Q I g f h hs;obtain⟨z,i,c,rfl,rfl,hz,e,q⟩:=h;obtain⟨t,rfl⟩:=g;obtain⟨t',rfl⟩:=f;obtain⟨j,h1,h2,h3,h4,h5⟩:=QS e;have hl:z.cps.toList.length=z.length:=by simp[Str.length]
 rw[hl]at h1 h4 h5;have hn:=HS;exact tail_any (typeIs_str s z t) slot_str_getitem.lookup (getItem_str (c:=c) (by
  have k:decide (i < -(2 ^ 63:Int))=false:=decide_eq_false (by omega);have l:decide (i≥2 ^ 63)=false:=decide_eq_false (by omega);rw[k,l,Bool.or_false]) (by rw[h1];simpa using h2) ⟨.str ⟨#[c]⟩,H,I.tok _,⟨_,rfl⟩,q⟩) hs
def Zhw(a:List Value)(n j:Nat)(u:Value):Obj.mapSeq (·.setIfInBounds j u) { cls:=.type "list",data:=.seq a.toArray n }={ cls:=.type "list",data:=.seq (a.set j u).toArray n }:=by
 simp[Obj.mapSeq]
def Inv.lst{b:List (Addr×Obj)}{σ:St}{H:Hp}{s:Shared}{p:Addr}{xs:List V}(I:Inv X b σ H s)(h:H p=some (.lst xs)):
  ∃(a:List Value) (n:Nat),Vals xs a/\s.heap.get? p=some { cls:=.type "list",data:=.seq a.toArray n }/\xs.length<=sizeLine:=by
 obtain⟨z,a,n,r,e⟩:=I.hok p _ h;exact⟨a,n,r,e,z⟩
def Inv.Zwm{a:List (Addr×Obj)}{σ:St}{H:Hp}{s:Shared}{p:Addr}{xs d:List V}{c its':List Value}{n g:Nat}{f:Obj->Obj}(I:Inv X a σ H s)(h:H p=some (.lst xs))
  (j:s.heap.get? p=some { cls:=.type "list",data:=.seq c.toArray n }) (i:f { cls:=.type "list",data:=.seq c.toArray n }={ cls:=.type "list",data:=.seq its'.toArray g }) (r:Vals d its') (hz:d.length<=sizeLine) (t:Nat):
  Inv X a σ (upd H p (.lst d)) { s with heap:=s.heap.update p f,toks:=t }:=by
 have e:(s.heap.update p f).get? p=some { cls:=.type "list",data:=.seq its'.toArray g }:=by
  rw[Heap.get?_update_self f j (by rw[i]<;>rfl),i]
 refine I.write (x:=p) (e:=p) (by rw[h];trivial) (.inl rfl) (λb u hb q=>(Heap.get?_update_other _ _ (Ne.symm hb)).trans q) ⟨_,e⟩ ?_;exact⟨hz,its',g,r,e⟩
def BV:V->V->V->Hp->(Hp->Prop)->Prop:=λo i v H Q=>∃p xs k j,o=.ref p/\i=.int k/\H p=some (.lst xs)/\ixN xs.length k=some j/\Q (upd H p (.lst (xs.set j v)))
def set_list:Zyf X BV:=by
 intro a s σ H o i v x w u Q I l g f h;obtain⟨p,xs,k,j,rfl,rfl,hp,m,q⟩:=h;cases l;obtain⟨t,rfl⟩:=g;obtain⟨b,n,r,c,hz⟩:=I.lst hp;obtain⟨h1,h2,h3,h4⟩:=Zk2 m;have hl:=r.length;have hn:=HS;have d:Inv X a σ (upd H p (.lst (xs.set j v))) { s with heap:=s.heap.update p (Obj.mapSeq (·.setIfInBounds j u)) }:=
  I.Zwm hp c (Zhw b n j u) (r.set f j) (by rw[List.length_set];exact hz) s.toks
 by_cases e:0<=k
 ·have hk:k.toNat=j:=by
   rw[seqIndex_of e h4]at h1;exact Option.some.inj h1
  exact W.ki_setAt c e (by omega) (by rw[List.size_toArray,<- hl];exact h4) (by rw[hk];exact⟨_,d,q⟩)
 ·have hk:(k+(b.toArray.size:Int)).toNat=j:=by
   rw[seqIndex_neg (by omega) h3]at h1;rw[List.size_toArray,<- hl];exact Option.some.inj h1
  exact W.ki_setBack c (by omega) (by rw[List.size_toArray,<- hl];exact h3) (by omega) (by rw[hk];exact⟨_,d,q⟩)
def YZ(lo a:Option Int)(n:Nat):(sliceBounds lo a none n).1=((HT.qy n 0 lo:Nat):Int)/\(sliceBounds lo a none n).2.1=((HT.qy n n a:Nat):Int)/\(sliceBounds lo a none n).2.2=1:=by
 refine⟨?_,?_,rfl⟩
 ·cases lo with
  | none=>simp[sliceBounds,HT.qy]
  | some i=>
   simp only[sliceBounds,HT.qy,Option.getD_none,show(1:Int) > 0 by decide,if_true]
   by_cases h:i<0
   ·simp only[h,if_true]<;>omega
   ·simp only[h,if_false]<;>omega
 ·cases a with
  | none=>simp[sliceBounds,HT.qy]
  | some i=>
   simp only[sliceBounds,HT.qy,Option.getD_none,show(1:Int) > 0 by decide,if_true]
   by_cases h:i<0
   ·simp only[h,if_true]<;>omega
   ·simp only[h,if_false]<;>omega
def U6(a:List Value)(lo b:Option Int):slicePick a.toArray lo b none=((a.drop (HT.qy a.length 0 lo)).take (HT.qy a.length a.length b - HT.qy a.length 0 lo)).toArray:=by
 obtain⟨h1,h2,h3⟩:=YZ lo b a.toArray.size;unfold slicePick;rw[h1,h2,h3];simp only[sliceRange_one,pick_run,List.size_toArray]<;>rfl
def Zvx(K:aB):V->Option Int->Option Int->Hp->VK->Prop:=λx lo b H Q=>∃a xs,x=.ref a/\cj K H a xs/\∀p,H p=none->Q (.ref p) (upd H p (.lst (Qv xs lo b)))
def Zjp:SlR X (Zvx X.K):=by
 intro f s σ H x v k l lo d sl Q I g hs pl j h;obtain⟨a,xs,rfl,hx,q⟩:=h;cases g;obtain⟨i,r,e,hz⟩:=I.list hx;have c:=r.length;refine⟨"list",_,slot_list_getitem.lookup,e.isList.typeIs,?_⟩;refine wpAny_getItem_list_slice e.isList hs pl j .none (by simp) ?_ (by rw[List.size_toArray]<;>omega);rw[U6,<- c];refine⟨.ref s.heap.objs.size,_,I.laid (t':=s.toks) (o:=.lst (Qv xs lo d)) (λb ob q=>Heap.get?_push_of_some _ q) (Nat.le_refl _) ?_,rfl,q _ (I.hok.fresh (Nat.le_refl _))⟩;exact⟨Nat.le_trans (Pr xs lo d) hz,_,0,(r.drop (HT.qy xs.length 0 lo)).take (HT.qy xs.length xs.length d - HT.qy xs.length 0 lo),Heap.get?_push_size _ rfl⟩
def qw:V->Bool
 | .non=>true
 | .bl _=>true
 | .int _=>true
 | .str _=>true
 | _=>false
def Yj:V->V->Bool
 | .non,.non=>true
 | .bl a,.bl b=>a == b
 | .bl a,.int b=>(if a then 1 else 0) == b
 | .int a,.bl b=>a == (if b then 1 else 0)
 | .int a,.int b=>a == b
 | .str a,.str b=>a == b
 | _,_=>false
def Bu{A:Around}{s:Shared}{y x:V}{u v:Value}(d:RelV y u)(c:RelV x v)(f:qw y=true)(e:qw x=true):SeqAt.EqAt A s u v (Yj y x):=by
 cases y with
 | non=>
  cases d;cases x with
  | non=>cases c;exact SeqAt.EqAt.same _
  | bl b=>cases c;exact SeqAt.EqAt.none_bool b
  | int b=>obtain⟨t,rfl⟩:=c;exact SeqAt.EqAt.none_int b t
  | str b=>obtain⟨t,rfl⟩:=c;exact SeqAt.EqAt.none_str b t
  | _=>exact absurd (show false=true from e) Bool.false_ne_true
 | bl a=>
  cases d;cases x with
  | non=>cases c;exact SeqAt.EqAt.bool_none a
  | bl b=>cases c;exact SeqAt.EqAt.bool_bool a b
  | int b=>obtain⟨t,rfl⟩:=c;exact SeqAt.EqAt.bool_int a b t
  | str b=>obtain⟨t,rfl⟩:=c;exact SeqAt.EqAt.bool_str a b t
  | _=>exact absurd (show false=true from e) Bool.false_ne_true
 | int a=>
  obtain⟨t',rfl⟩:=d;cases x with
  | non=>cases c;exact SeqAt.EqAt.int_none a t'
  | bl b=>cases c;exact SeqAt.EqAt.int_bool a t' b
  | int b=>obtain⟨t,rfl⟩:=c;exact SeqAt.EqAt.int_int a t' b t
  | str b=>obtain⟨t,rfl⟩:=c;exact SeqAt.EqAt.int_str a t' b t
  | _=>exact absurd (show false=true from e) Bool.false_ne_true
 | str a=>
  obtain⟨t',rfl⟩:=d;cases x with
  | non=>cases c;exact SeqAt.EqAt.str_none a t'
  | bl b=>cases c;exact SeqAt.EqAt.str_bool a t' b
  | int b=>obtain⟨t,rfl⟩:=c;exact SeqAt.EqAt.str_int a t' b t
  | str b=>obtain⟨t,rfl⟩:=c;exact SeqAt.EqAt.str_str a t' b t
  | _=>exact absurd (show false=true from e) Bool.false_ne_true
 | _=>exact absurd (show false=true from f) Bool.false_ne_true
def eqU(x:V)(u:Value):Bool:=match u with
 | .none=>Yj .non x
 | .bool b=>Yj (.bl b) x
 | .int i _=>Yj (.int i) x
 | .str z _=>Yj (.str z) x
 | _=>false
def Zqq{x y:V}{u:Value}(r:RelV y u)(f:qw y=true):eqU x u=Yj y x:=by
 cases y with
 | non=>cases r;rfl
 | bl b=>cases r;rfl
 | int i=>obtain⟨t,rfl⟩:=r;rfl
 | str z=>obtain⟨t,rfl⟩:=r;rfl
 | _=>exact absurd (show false=true from f) Bool.false_ne_true
def Kv{x:V}:∀{xs:List V}{us:List Value},Vals xs us->xs.all qw=true->us.any (eqU x)=xs.any λy=>Yj y x
 | _,_,.nil,_=>rfl
 | y::xs,u::us,.cons r t,f=>by
  rw[List.all_cons,Bool.and_eq_true]at f;rw[List.any_cons,List.any_cons,Zqq r f.1,Kv t f.2]
def Em{A:Around}{s:Shared}{x:V}{v:Value}(a:RelV x v)(b:qw x=true):∀{xs:List V}{us:List Value},Vals xs us->xs.all qw=true->∀u∈us,SeqAt.EqAt A s u v (eqU x u)
 | _,_,.nil,_=>λu hu=>by cases hu
 | y::xs,u::us,.cons r t,f=>λc hu=>by
  rw[List.all_cons,Bool.and_eq_true]at f;rcases List.mem_cons.mp hu with rfl | hu
  ·rw[Zqq r f.1];exact Bu r a f.1 b
  ·exact Em a b t f.2 c hu
def inV(x:V)(xs:List V):Bool:=xs.any λy=>Yj y x
def rIn(K:aB)(a:Bool):R2:=λx y H Q=>∃p xs,y=.ref p/\(cj K H p xs\/fZ K H p xs)/\qw x=true/\xs.all qw=true/\Q (.bl (if a then !inV x xs else inV x xs)) H
def Mm:zA X (compareOp .In) (rIn X.K false):=by
 intro e s σ H x y v u Q I c f h;obtain⟨p,xs,rfl,hq,d,fs,q⟩:=h;cases f;rcases hq with hq | hq
 ·obtain⟨a,r,pl,hz⟩:=I.list hq;refine SeqAt.in_listAt (eqU x) pl.isList (λw b=>Em c d r fs w (by simpa using b)) ⟨.bl _,H,I,rfl,?_⟩;rw[show a.toArray.any (eqU x)=a.any (eqU x) by simp,Kv r fs];exact q
 ·obtain⟨a,r,pl,hz⟩:=I.tuple hq;refine SeqAt.in_tupleAt (eqU x) pl (λw b=>Em c d r fs w (by simpa using b)) ⟨.bl _,H,I,rfl,?_⟩;rw[show a.toArray.any (eqU x)=a.any (eqU x) by simp,Kv r fs];exact q
def ZQ:zA X (compareOp .NotIn) (rIn X.K true):=by
 intro e s σ H x y v u Q I c f h;obtain⟨p,xs,rfl,hq,d,fs,q⟩:=h;cases f;rcases hq with hq | hq
 ·obtain⟨a,r,pl,hz⟩:=I.list hq;refine SeqAt.notIn_listAt (eqU x) pl.isList (λw b=>Em c d r fs w (by simpa using b)) ⟨.bl _,H,I,rfl,?_⟩;rw[show a.toArray.any (eqU x)=a.any (eqU x) by simp,Kv r fs];exact q
 ·obtain⟨a,r,pl,hz⟩:=I.tuple hq;refine SeqAt.notIn_tupleAt (eqU x) pl (λw b=>Em c d r fs w (by simpa using b)) ⟨.bl _,H,I,rfl,?_⟩;rw[show a.toArray.any (eqU x)=a.any (eqU x) by simp,Kv r fs];exact q
def Zbo:PJ X (.builtin "len") (λxs H Q=>∃p b,xs=[.ref p]/\(cj X.K H p b\/fZ X.K H p b)/\Q (.int b.length) H):=by
 intro e s σ H xs us Q I r h;obtain⟨p,b,rfl,hq,q⟩:=h;obtain⟨u,rfl,f⟩:=vals1 r;cases f;have hn:=HS;rcases hq with hq | hq
 ·obtain⟨d,c,pl,hz⟩:=I.list hq;have a:=c.length;exact Calls.call_len_list pl.isList (by simp only[List.size_toArray]<;>omega) ⟨.int b.length,H,I.tok _,⟨s.toks+1,by rw[List.size_toArray,a]⟩,q⟩
 ·obtain⟨d,c,pl,hz⟩:=I.tuple hq;have a:=c.length;exact len_tuple pl (by simp only[List.size_toArray]<;>omega) ⟨.int b.length,H,I.tok _,⟨s.toks+1,by rw[List.size_toArray,a]⟩,q⟩
def Ku:PJ X (.type "list") (λxs H Q=>∃p d,xs=[.ref p]/\(cj X.K H p d\/fZ X.K H p d)/\∀l,H l=none->Q (.ref l) (upd H l (.lst d))):=by
 intro g s σ H xs us Q I r h;obtain⟨p,d,rfl,hq,q⟩:=h;obtain⟨u,rfl,k⟩:=vals1 r;cases k;have fin:∀(a:List Value),Vals d a->d.length<=sizeLine->∀(h':Heap) (c':Nat),(∀b j,s.heap.get? b=some j->h'.get? b=some j)->
   h'.get? s.heap.objs.size=some { cls:=.type "list",dict:=none,data:=.seq a.toArray c',slots:=#[] }->EP X g σ Q (.ref s.heap.objs.size) { s with heap:=h' }:=λa c hz h' c' kp e=>
  ⟨.ref s.heap.objs.size,_,I.laid (t':=s.toks) kp (Nat.le_refl _) (show lA X.prog X.w _ h' _ (.lst d)from⟨hz,a,c',c,e⟩),rfl,q _ (I.hok.fresh (Nat.le_refl _))⟩
 rcases hq with hq | hq
 ·obtain⟨a,c,pl,hz⟩:=I.list hq;have f:=c.length;obtain⟨o,i,hc,n,hd⟩:=pl.isList;exact call_list_seq p (.inl rfl) i hc hd (λh' c' kp e=>fin a c hz h' c' kp e) (by simp only[List.size_toArray]<;>omega)
 ·obtain⟨a,c,pl,hz⟩:=I.tuple hq;have f:=c.length;obtain⟨o,i,hc,n,hd⟩:=pl;exact call_list_seq p (.inr rfl) i hc hd (λh' c' kp e=>fin a c hz h' c' kp e) (by simp only[List.size_toArray]<;>omega)
def tyV(K:aB)(T:String)(x:V)(H:Hp):Prop:=match x with
 | .str _=>T="str"
 | .int _=>T="int"
 | .ref p=>(T="list"/\∃xs,cj K H p xs)\/(T="tuple"/\∃o,K.lookup p=some o/\o.cls=.type "tuple"/\o.dict=none)\/
   (T="dict"/\((∃a,H p=some (.dK a))\/∃a,H p=some (.dT a)))\/(T="set"/\∃S n,H p=some (.set S n))
 | _=>False
def Zvb{b:List (Addr×Obj)}{σ:St}{H:Hp}{s:Shared}{T:String}{x:V}{v:Value}(I:Inv X b σ H s)(r:RelV x v)(ty:tyV X.K T x H):
  s.TypeIs v T/\∀a,v=.ref a->∃ob,s.heap.get? a=some ob/\ob.dict=none:=by
 cases x with
 | str z=>
  obtain⟨t,rfl⟩:=r;cases (show T="str" from ty);exact⟨typeIs_str s z t,λ_ e=>nomatch e⟩
 | int i=>
  obtain⟨t,rfl⟩:=r;cases (show T="int" from ty);exact⟨typeIs_int s i t,λ_ e=>nomatch e⟩
 | ref p=>
  cases r;rcases ty with ⟨rfl,xs,hq⟩ | ⟨rfl,o,hk,hc,hd⟩ | ⟨rfl,hk⟩ | ⟨rfl,S,n,hk⟩
  ·obtain⟨g,_,pl,_⟩:=I.list hq;refine⟨pl.isList.typeIs,λa e=>?_⟩;cases e;obtain⟨o,n,e,c,hd,_⟩:=pl;exact⟨o,e,hd⟩
  ·refine⟨⟨o,I.Et p o hk,hc⟩,λa e=>?_⟩;cases e;exact⟨o,I.Et _ o hk,hd⟩
  ·have z:∃o,s.heap.get? p=some o/\o.ExactDict:=by
    rcases hk with ⟨d,hk⟩ | ⟨d,hk⟩
    ·obtain⟨_,_,_,_,o,_,_,e,ex,_⟩:=I.hok p _ hk;exact⟨o,e,ex⟩
    ·obtain⟨_,_,_,_,o,_,_,e,ex,_⟩:=I.hok p _ hk;exact⟨o,e,ex⟩
   obtain⟨o,e,ex⟩:=z;refine⟨⟨o,e,ex.1⟩,λa f=>?_⟩;cases f;exact⟨o,e,ex.2.1⟩
  ·obtain⟨o,_,_,_,e,ex,_⟩:=I.hok p _ hk;refine⟨⟨o,e,ex.1⟩,λa f=>?_⟩;cases f;exact⟨o,e,ex.2.1⟩
 | _=>exact False.elim ty
def tBM(K:aB)(T:String)(r:V->List V->Hp->VK->Prop)(to:TE)(t:TA):TE:=λσ H Q=>to σ H λx a=>tyV K T x a/\t σ a λxs b=>r x xs b Q
variable {o e:Expr}{es:List Expr}{to:TE}{t:TA}{name:Str}{apos cpos:Pos}{T id:String}{r:V->List V->Hp->VK->Prop}
def Dz(q:PlainAttrs T)(slot:Slot T name id)(g:typeOf (.builtin id)=pure (.type "method_descriptor"))(hm:MtR X id r)(j:PE X o to)(w:PA X (e::es) t)
  (d:attributeBase o name X.env (eval o X.env)=eval o X.env:=by rfl)
  (f:((backTo cpos (starEach (e::es) X.env)).all (λx=>!x.1) && (backToKw cpos (keywordEach [] X.env)).all (λx=>x.1.isSome)
   && decide ((e::es).length+([]:List Keyword).length+(if ([]:List Keyword).isEmpty then 0 else 1)<30))=true:=by rfl)
  (c:(apos.endLine == cpos.line)=true:=by rfl) (hs:starEach (e::es) X.env=(false,eval e X.env)::starEach es X.env:=by rfl) (b:(backTo cpos (starEach es X.env)).any (·.1)=false:=by rfl):
  PE X (.Call (.Attribute o name apos) (e::es) [] cpos) (tBM X.K T r to t):=by
 intro a s σ H Q I h;refine wpAny_Call_method_late d f c rfl (iR (j a s σ H _ I h) λv n ⟨x,H1,I1,r1,ty,q1⟩=>?_);obtain⟨h1,h2⟩:=Zvb I1 r1 ty;refine⟨T,id,q,slot,g,h1,h2,?_⟩;have i:=w cpos a n σ H1 _ I1 q1;rw[hs]at i ⊢;refine Calls.callWith_builtin (by show(false || (backTo cpos (starEach es X.env)).any (·.1))=false;rw[b]<;>rfl) (Calls.evalArgs_plain ?_);exact iR i λus u ⟨vs,m,l,k,p⟩=>hm a u σ m x vs v us Q l r1 k p
end
end L2
namespace L2
open PySem PySem.Spec PyProof.Rows
def MtM(X:Cx)(id:String)(r:V->List V->Hp->VK->Prop):Prop:=
 ∀(a:List (Addr×Obj)) (s:Shared) (σ:St) (H:Hp) (x:V) (xs:List V) (v:Value) (us:List Value) (Q:VK),Inv X a σ H s->RelV x v->Vals xs us->r x xs H Q->
  wpAny (model X.prog X.w) X.A (call (.builtin id) (v::us)) (EP X a σ Q) X.xe s
def Vals.one:∀{x:V}{us:List Value},Vals [x] us->∃u,us=[u]/\RelV x u
 | _,_,.cons r .nil=>⟨_,rfl,r⟩
def Vals.eraseIdx:∀{xs:List V}{us:List Value} (i:Nat),Vals xs us->Vals (xs.eraseIdx i) (us.eraseIdx i)
 | _,_,_,.nil=>.nil
 | _,_,0,.cons _ t=>t
 | _,_,i+1,.cons r t=>.cons r (Vals.eraseIdx i t)
def Vals.rep{xs:List V}{us:List Value}(h:Vals xs us):∀k:Nat,Vals (List.replicate k xs).flatten (List.replicate k us).flatten
 | 0=>.nil
 | k+1=>by
  rw[List.replicate_succ,List.replicate_succ,List.flatten_cons,List.flatten_cons];exact Vals.append h (Vals.rep h k)
def XJ{a:Type}:∀(l:List a) (i:Nat),(l.eraseIdx i).length<=l.length
 | [],_=>Nat.le_refl _
 | _::_,0=>Nat.le_succ _
 | _::r,i+1=>Nat.succ_le_succ (XJ r i)
def foldl_rep(a:List Value):∀(k:Nat) (acc:List Value),
  List.foldl (λc b=>c++b) acc.toArray (List.replicate k a.toArray)=(acc++(List.replicate k a).flatten).toArray
 | 0,acc=>by simp
 | k+1,acc=>by
  have e:acc.toArray++a.toArray=(acc++a).toArray:=by simp
  have d:(acc++a)++(List.replicate k a).flatten=acc++(List.replicate (k+1) a).flatten:=by
   rw[List.replicate_succ,List.flatten_cons,List.append_assoc]
  rw[<- d,<- foldl_rep a k (acc++a),<- e,List.replicate_succ,List.foldl_cons]
section
variable {X:Cx}{pins:List (Addr×Obj)}{σ:St}{H:Hp}{s:Shared}{l b:Addr}{xs ys zs:List V}
def Inv.Zwn{a its':List Value}{n:Nat}{f:Array Value->Array Value}{t':Nat}(I:Inv X pins σ H s)(b:H l=some (.lst xs))
  (e:s.heap.get? l=some { cls:=.type "list",data:=.seq a.toArray n }) (c:f a.toArray=its'.toArray) (hv:Vals ys its') (hz:ys.length<=sizeLine):
  Inv X pins σ (upd H l (.lst ys)) { s with heap:=s.heap.update l (Obj.mapSeq f),toks:=t' }:=by
 have q:=PySem.IsL.update e f;rw[c]at q;refine I.write (x:=l) (e:=l) (by rw[b];exact trivial) (.inl rfl) (λd u hb hu=>(Heap.get?_update_other s.heap (Obj.mapSeq f) (Ne.symm hb)).trans hu) ⟨_,q⟩ ?_;exact⟨hz,its',_,hv,q⟩
def Inv.Zz8{a:List Value}{t':Nat}(I:Inv X pins σ H s)(hv:Vals ys a)(hz:ys.length<=sizeLine):
  Inv X pins σ (upd H s.heap.objs.size (.lst ys)) { s with heap:=s.heap.push { cls:=.type "list",data:=.seq a.toArray },toks:=t' }:=
 I.laid (λ_ _ q=>Heap.get?_push_of_some _ q) (Nat.le_refl _) ⟨hz,a,0,hv,Heap.get?_push_size _ rfl⟩
def Inv.fresh(I:Inv X pins σ H s):H s.heap.objs.size=none:=I.hok.fresh (Nat.le_refl _)
def Inv.Zi2(I:Inv X pins σ H s)(b:H l=some (.lst xs)):xs.length<=sizeLine/\∃(a:List Value) (n:Nat),Vals xs a/\xs.length=a.length/\s.heap.get? l=some { cls:=.type "list",data:=.seq a.toArray n }:=by
 obtain⟨z,a,n,r,e⟩:=I.hok l _ b;exact⟨z,a,n,r,r.length,e⟩
def Zdi{n:Nat}(h:n<=sizeLine):Builtin.List.listTooLong n=false:=by
 unfold Builtin.List.listTooLong;exact decide_eq_false (by omega)
end
section
variable {X:Cx}
def wM:V->List V->Hp->VK->Prop:=λx vs H Q=>∃l xs y,x=.ref l/\vs=[y]/\H l=some (.lst xs)/\xs.length<sizeLine/\Q .non (upd H l (.lst (xs++[y])))
def qt:MtM X "list.append" wM:=by
 intro b s σ H x vs v us Q I d f h;obtain⟨l,xs,y,rfl,rfl,c,hz,q⟩:=h;cases d;obtain⟨u,rfl,g⟩:=f.one;obtain⟨z,a,n,r,hl,e⟩:=I.Zi2 c;refine call_meets F.slot_list_append ⟨_,e,rfl⟩ F.entry_list_append (F.args_list_append_2 _ _) (PySem.list_append l a.toArray n u (by rw[List.size_toArray];omega)) ⟨e,?_⟩;refine⟨.non,_,I.Zwn (its':=a++[u]) c e (by simp) (r.append (.cons g .nil)) ?_,rfl,q⟩;rw[List.length_append,List.length_singleton];omega
def Qx:V->List V->Hp->VK->Prop:=λx vs H Q=>∃l b xs a,x=.ref l/\vs=[.ref b]/\H l=some (.lst xs)/\H b=some (.lst a)/\xs.length+a.length<=sizeLine/\Q .non (upd H l (.lst (xs++a)))
def My:MtM X "list.extend" Qx:=by
 intro f s σ H x vs v us Q I j k h;obtain⟨l,b,xs,y,rfl,rfl,g,m,hz,q⟩:=h;cases j;obtain⟨u,rfl,p⟩:=k.one;cases p;obtain⟨z,c,n,r,hl,e⟩:=I.Zi2 g;obtain⟨w,a,n2,i,o,t⟩:=I.Zi2 m;have hsz:c.toArray.size+a.toArray.size<=sizeLine:=by rw[List.size_toArray,List.size_toArray];omega
 have d:¬ (!c.toArray.isEmpty && Builtin.List.listTooLong (c.toArray.size+a.toArray.size))=true:=by
  rw[Zdi hsz,Bool.and_false];exact Bool.false_ne_true
 refine call_meets F.slot_list_extend ⟨_,e,rfl⟩ F.entry_list_extend (F.args_list_extend_2 _ _)
  (AutoSeq1.list_extend_list_list_0 l c.toArray n b a.toArray n2 d (by rw[List.size_toArray];omega) (by omega)) ⟨e,t,?_⟩
 refine⟨.non,_,I.Zwn (its':=c++a) g e (by simp) (r.append i) ?_,rfl,q⟩;rw[List.length_append];omega
def Znt:V->List V->Hp->VK->Prop:=λx vs H Q=>∃l xs i k y,x=.ref l/\vs=[.int i]/\H l=some (.lst xs)/\-(2 ^ 63)<=i/\i<2 ^ 63/\seqIndex? i xs.length=some k/\xs[k]? =some y/\Q y (upd H l (.lst (xs.eraseIdx k)))
def Zoz:MtM X "list.pop" Znt:=by
 intro c s σ H x vs v us Q I f g h;obtain⟨l,xs,i,k,y,rfl,rfl,d,h1,h2,hk,hy,q⟩:=h;cases f;obtain⟨u,rfl,m⟩:=g.one;obtain⟨t,rfl⟩:=m;obtain⟨z,a,n,r,hl,e⟩:=I.Zi2 d;obtain⟨w,j,b⟩:=r.get hy;refine call_meets F.slot_list_pop ⟨_,e,rfl⟩ F.entry_list_pop (F.args_list_pop_2 _ _)
  (MeetsSeq.list_pop_at l a.toArray n i t k w (fitsIndex_both h1 h2) (by rw[List.size_toArray,<- hl];exact hk) (by rw[<- Array.getElem?_toList];exact j) (by rw[List.size_toArray];omega)) ⟨e,?_⟩
 refine⟨y,_,I.Zwn (its':=a.eraseIdx k) d e ?_ (r.eraseIdx k) ?_,b,q⟩
 ·show a.toArray.eraseIdxIfInBounds k=(a.eraseIdx k).toArray;rw[List.eraseIdxIfInBounds_toArray]
 ·have:=XJ xs k;omega
def wG:R2:=λx y H Q=>∃l b xs a,x=.ref l/\y=.ref b/\H l=some (.lst xs)/\H b=some (.lst a)/\xs.length+a.length<=sizeLine/\∀p,H p=none->Q (.ref p) (upd H p (.lst (xs++a)))
def qd:zA X (binaryOp .Add) wG:=by
 intro d s σ H x y v u Q I i f h;obtain⟨l,b,xs,w,rfl,rfl,o,k,hz,q⟩:=h;cases i;cases f;obtain⟨z,c,n,r,hl,e⟩:=I.Zi2 o;obtain⟨t,a,n2,g,m,p⟩:=I.Zi2 k;refine PySem.P.add_list e p ?_ (by rw[List.size_toArray,List.size_toArray];omega);have j:c.toArray++a.toArray=(c++a).toArray:=by simp
 rw[j];exact⟨.ref _,_,I.Zz8 (t':=s.toks) (r.append g) (by rw[List.length_append];omega),rfl,q _ I.fresh⟩
def Zcz:R2:=λx y H Q=>∃l k xs,x=.ref l/\y=.int k/\H l=some (.lst xs)/\-(2 ^ 63)<=k/\k<2 ^ 63/\xs.length * k.toNat<=sizeLine/\
 ∀p,H p=none->Q (.ref p) (upd H p (.lst (List.replicate k.toNat xs).flatten))
def len_rep{b:Type}(xs:List b)(k:Nat):(List.replicate k xs).flatten.length=k * xs.length:=by
 induction k with
 | zero=>simp
 | succ k a=>rw[List.replicate_succ,List.flatten_cons,List.length_append,a,Nat.succ_mul,Nat.add_comm]
def R3:zA X (binaryOp .Mult) Zcz:=by
 intro p s σ H x y v u Q I A w h;obtain⟨l,k,xs,rfl,rfl,C,h1,h2,hz,q⟩:=h;cases A;obtain⟨t,rfl⟩:=w;obtain⟨z,b,n,r,hl,e⟩:=I.Zi2 C;have c:b.toArray.size * k.toNat<=sizeLine:=by rw[List.size_toArray,<- hl];exact hz
 have d:¬ b.toArray.size * k.toNat > (2 ^ 63 - 1) / 8:=by
  have:(sizeLine:Nat)<=(2 ^ 63 - 1) / 8:=by decide
  omega
 have g:¬ (!Builtin.List.listFitsIndex k)=true:=by
  rw[fitsIndex_both h1 h2];exact Bool.false_ne_true
 have o:¬ Builtin.List.listTooLong (b.toArray.size * k.toNat)=true:=by
  rw[Zdi c];exact Bool.false_ne_true
 have f:List.foldl (λj i=>j++i) #[] (List.replicate (if b.toArray.isEmpty=true then 0 else k.toNat) b.toArray)=(List.replicate k.toNat b).flatten.toArray:=by
  have B:∀m:Nat,List.foldl (λj i=>j++i) #[] (List.replicate m b.toArray)=(List.replicate m b).flatten.toArray:=λm=>by
   have:=foldl_rep b m [];rw[List.nil_append]at this;exact this
  rw[B];cases b with
  | nil=>simp
  | cons a D=>rw[if_neg (by simp)]
 refine wpAny_binaryOp_repeat_ref (T:="list") (U:="int") (by decide) ⟨_,e,rfl⟩ (λs'=>typeIs_int s' k t) noFill_list_mul F.fills_int_mul F.slot_int_rmul repeat_list F.slot_int_index.lookup
  (call_meets F.slot_int_rmul (typeIs_int s k t) F.entry_int_rmul (F.args_int_rmul_2 _ _) (int___rmul___int_list k t l b.toArray n)
   ⟨e,rfl,⟨_,e,rfl⟩,call_meets F.slot_list_mul ⟨_,e,rfl⟩ F.entry_list_mul (F.args_list_mul_2 _ _) (AutoListH.list___mul___list_int_3 l b.toArray n k t g d o) ⟨e,?_⟩⟩)
 rw[f];exact⟨.ref _,_,I.Zz8 (t':=s.toks) (r.rep k.toNat) (by rw[len_rep,Nat.mul_comm];exact hz),rfl,q _ I.fresh⟩
end
section
variable {prog:Program}{w:World}{A:Around}{E:Value->Shared->Prop}{s:Shared}
end
section
variable {X:Cx}
end
end L2
namespace Att
open PySem PySem.W PySem.Calls PyProof.Rows
def Qp{P:Params}{h:Heap}:∀(ns:List Int) (vs:List Value),WellAll P h vs (ns.map WData.int)->IntsAre vs ns:=by
 intro ns
 induction ns with
 | nil=>
  intro vs w;rw[List.map_nil]at w;cases w;exact .nil
 | cons n ns c=>
  intro vs w;rw[List.map_cons]at w;cases w with
  | cons a b=>
   cases a;exact .cons _ _ (c _ b)
def Zkx{l:OpenLaw}{n:Nat}(hn:l.most=some n){P:Params}{h:Heap}{b:List WData}{c:List Value}
  (e:l.row.toRowW.claim.pre b=true) (i:WellAll P h c b):
  ∃a vs ns,c=[Value.ref a]/\b=[WData.list (ns.map WData.int)]/\h.get? a=some { cls:=.type "list",data:=.seq vs.toArray }/\IntsAre vs ns/\ns.length<=n:=by
 have j:WShape.hasAll [] b [.list .int]=true:=(pre_splitW e).1;have hc:l.pre.holds [] { args:=b }=true:=(pre_splitW e).2;obtain⟨d,r,rfl,h1,h2⟩:=hasAllW_cons j;obtain rfl:=hasAllW_nil h2;obtain⟨xs,rfl,h3⟩:=hasW_list h1;obtain⟨ns,rfl⟩:=items_int h3;have f:ns.length<=n:=by
  unfold OpenLaw.pre at hc;have h4:(WTm.not (.lt (.lit (.int (n:Int))) (.len (.arg 0)))).holds [] { args:=[.list (ns.map .int)] }=true:=by
   have h4:=(holds_andW hc).1;rw[hn]at h4;exact h4
  have h5:=condW_of h4 (w_not (w_lt w_lit (w_len_list (w_arg rfl))));rw[aX]at h5;refine Nat.le_of_not_lt λq=>?_;have m:(n:Int)<((ns.length:Nat):Int):=by omega
  first
   | (rw[decide_eq_true m]at h5;exact absurd h5 (by decide))
   | (simp at h5;omega)
 cases i with
 | cons p o=>
  cases o;cases p with
  | list k g=>exact⟨_,_,ns,rfl,rfl,k,Qp ns _ g,f⟩
def Zl6(l:OpenLaw)(a:List WData):l.row.toRowW.claim.post a (.bool true) a=true:=
 postW_of (r:=l.row.toRowW) (X:=(true == true))
  (show WShape.has [] (.bool true) .bool=true by first | rfl | decide | simp[WShape.has,WShape.arms,WShape.armsAll])
  (show(WTm.eq .res (.lit (.bool true))).value [] { args:=a,res:=some (.bool true),after:=a }=some (.bool (true == true))from w_eq_bool (w_res rfl) w_lit) rfl
def Zf3{l:OpenLaw}{n:Nat}{q:Program}{c:List Str}{y:(Str->Option Value)->Heap->Prop}{x:World->Heap->Prop}{d:DefRec}
  (hn:l.most=some n) (s:d.params.defaults=[])
  (call:∀(w:World) (s₀ b:Shared) (mg v:Str->Option Value) (fa:Addr) (o:Obj) (t k g:Value) (a:Addr) (vs:List Value) (ns:List Int),
   Ground q c [] y w s₀ mg v b.heap->x w b.heap->
   b.heap.get? fa=some o->o.data=.func (docDef d.name d.params d.body d.scope t k g)->b.heap.CodeRec k d.name->mg d.name=some (.ref fa)->
   b.heap.get? a=some { cls:=.type "list",data:=.seq vs.toArray }->IntsAre vs ns->ns.length<=n->b.gens=#[]->
   codeAny (model l.prog w) callerA (.call (.ref fa) ⟨[.ref a],[]⟩) (λr s'=>r=.ok (.ret (.bool true))/\OldK b.heap s'.heap/\s'.os=b.os/\AllBare s'.gens) b):
  WalkO q c y x l.row.toRowW d [] (λf vs=>PySem.call f vs):=by
 intro w s₀ b mg v G Y fa o t k g dV kV D hd u z m E C B I j A F p H;obtain rfl:dV=.none:=Dflts.none z s;obtain rfl:kV=.none:=Dflts.noKw z;obtain⟨a,vs,ns,rfl,rfl,i,e,h⟩:=Zkx hn j p;refine enter_call (codeAny_mono (call w s₀ b mg v fa o t k g a vs ns G Y D (fd_plain hd) u m i e h E) λr s' hq=>?_);obtain⟨rfl,h2,h3,h4⟩:=hq;exact⟨.inl ⟨.bool true,.bool true,[],rfl,λ_=>rfl,.bool true,Zl6 l _,λ_=>⟨List.Pairwise.nil,λ_ hm=>(nomatch hm)⟩⟩,h2,h3,h4⟩
section
variable {prog:Program}{w:World}{A:Around}{E:Value->Shared->Prop}{s:Shared}{K:Frag}
end
end Att
namespace L2
open PySem PySem.Spec PyProof.Rows
def W8:∀{vs:List Value}{ns:List Int},IntsAre vs ns->Vals (ns.map V.int) vs
 | _,_,.nil=>.nil
 | _,_,.cons n t h=>.cons ⟨t,rfl⟩ (W8 h)
def Only(H:Hp):Prop:=∀b,H b=none\/∃o xs,H b=some (.zK o (.lst xs))
def Zpm{P:Program}{w:World}{K:aB}{mg N:Str->Option Value}{CX:CXT}{k:Nat}{fa a:Addr}{fd:FuncData}{x:Str}{sp:Sp}{c:Shared}{vs:List Value}{ns:List Int}
  (T:K.In c.heap) (j:c.heap.Ns mainGlobals mg) (hb:c.heap.Ns builtinsNs N) (J:∀x:Str,x≠"__name__"->N x=bootBuiltins x) (y:c.heap.NoLimit) (hg:c.gens=#[])
  (E:c.heap.get? a=some { cls:=.type "list",data:=.seq vs.toArray }) (Q:IntsAre vs ns) (hl:ns.length<=sizeLine) (hr:Room k callerA)
  (F:∀base:Heap,K.In base->base.Ns mainGlobals mg->wB P w K mg base CX k fa fd [x] sp) (i:∀(s:Shared) (u:Value),BindsTo s fd ⟨[u],[]⟩ [(x,u)])
  (I:∀H:Hp,Only H->cj K H a (ns.map V.int)->sp [.ref a] H (λv _=>v=.bl true) λ_ _ _=>False)
  (M:∀H e s',CX [] H c (λ_ _ _=>False) e s'->False):
  codeAny (model P w) callerA (.call (.ref fa) ⟨[.ref a],[]⟩) (λr s'=>r=.ok (.ret (.bool true))/\OldK c.heap s'.heap/\s'.os=c.os/\AllBare s'.gens) c:=by
 have S:=W8 Q;have l:=Q.length;have g:∀H:Hp,Only H->cj K H a (ns.map V.int)->Cm P w H c.heap->(∀b,H b≠none->b=a)->(H a≠none->K.lookup a=none)->
   codeAny (model P w) callerA (.call (.ref fa) ⟨[.ref a],[]⟩) (λr s'=>r=.ok (.ret (.bool true))/\OldK c.heap s'.heap/\s'.os=c.os/\AllBare s'.gens) c:=by
  intro H W Y hok U hK;have A:∀{b:Addr}{o:Obj},c.heap.get? b=some o->H b=none->(Zb2 c.heap H).get? b=some o:=λe n=>Zq5 e n;have L:∀{b:Addr}{o:Obj}{B:Array DictEntry}{p:Nat},c.heap.get? b=some o->o.data=.dict B p->H b=none:=λ{b o B p} e d=>by
   cases q:H b with
   | none=>rfl
   | some u=>
    have O:b=a:=U b (by rw[q];simp);subst O;rw[E]at e;cases e;have d':Data.seq vs.toArray _=Data.dict B p:=d;cases d'
  have f:∀{b:Addr}{m:Str->Option Value},c.heap.Ns b m->(Zb2 c.heap H).Ns b m:=λ{b m} ⟨o,B,p,e,d,r⟩=>⟨o,B,p,A e (L e d),d,r⟩;have D:K.In (Zb2 c.heap H):=λb o e=>A (T b o e) (by
   cases q:H b with
   | none=>rfl
   | some u=>
    have O:b=a:=U b (by rw[q];simp);subst O;rw[hK (by rw[q];simp)]at e;cases e)
  have hM:Mod K mg (Zb2 c.heap H):=⟨D,f j,⟨N,f hb,J⟩,let ⟨mc,h1,h2⟩:=y;⟨mc,f h1,h2⟩⟩;have X:Zji P w K mg (Zb2 c.heap H) callerA [] c H:=⟨rfl,hM,λb o e=>Zt0 e,Nat.le_of_eq (Zmd _ _),trivial,λb hb=>absurd (show b∈([]:List Addr)from hb) (by simp),hok,.of_eq hg⟩;refine codeAny_mono ((F _ D (f j)).run callerA [] c H ⟨[.ref a],[]⟩ [.ref a] [.ref a] _ _ hr X (i c (.ref a)) (.cons rfl .nil) (I H W Y)) λr s' h=>?_;cases r with
  | error e=>exact(M H e s' h).elim
  | ok fl=>
   cases fl with
   | next=>exact False.elim h
   | brk=>exact False.elim h
   | cont=>exact False.elim h
   | ret u=>
    obtain⟨v,H',os,bare,un,t,r',q⟩:=h;have Z:v=.bl true:=q;subst Z;obtain rfl:u=Value.bool true:=r';refine⟨rfl,OldK.of_keep λb o e=>?_,os,bare⟩;cases q:H b with
    | none=>exact un.keep b o e q (by intro z;exact absurd (show b∈([]:List Addr)from z) (by simp)) (by simp)
    | some u=>
     rcases W b with z | ⟨ob,xs,z⟩
     ·rw[q]at z;cases z
     ·have z2:=un.Ia b ob _ z;obtain⟨R,_⟩:=hok b _ z;obtain⟨e2,_⟩:=t b _ z2;rw[e]at R;cases R;exact e2
 cases hk:K.lookup a with
 | some o=>
  have e:=T a o hk;rw[E]at e;cases e;refine g (λ_=>none) (λ_=>.inl rfl) (.inr ⟨_,vs.toArray,_,hk,rfl,rfl,rfl,by rw[List.size_toArray,l];exact hl,by simpa using S⟩) (λb u z=>by have C:(none:Option HO)=some u:=z;cases C) (λb z=>absurd rfl z) λz=>absurd rfl z
 | none=>
  refine g (λb=>if b=a then some (.zK { cls:=.type "list",data:=.seq vs.toArray } (.lst (ns.map V.int)))else none) (λb=>?_) (.inl (.inr ⟨{ cls:=.type "list",data:=.seq vs.toArray },if_pos rfl⟩)) (λb u z=>?_) (λb z=>?_) λ_=>hk
  ·by_cases hb:b=a
   ·exact .inr ⟨_,_,if_pos hb⟩
   ·exact .inl (if_neg hb)
  ·by_cases hb:b=a
   ·have C:=(if_pos hb).symm.trans z;cases C;subst hb;exact⟨E,by rw[aX];exact hl,vs,_,S,E⟩
   ·have C:=(if_neg hb).symm.trans z;cases C
  ·by_cases hb:b=a
   ·exact hb
   ·exact absurd (if_neg hb) z
end L2
namespace L2
open PySem PySem.Spec PyProof.Rows
def Yt{l:W.OpenLaw}{n k:Nat}{q:Program}{j:List Str}{E:(Str->Option Value)->Heap->Prop}{B:World->Heap->Prop}{d:DefRec}{K:Params->aB}{CX:World->CXT}{sp:World->Sp}{x:Str}
  (hn:l.most=some n) (A:n<=sizeLine) (y:d.params.defaults=[]) (hr:Room k callerA)
  (M:∀(w:World) (h:Heap),B w h->(K w.params).In h)
  (F:∀(w:World) (mg:Str->Option Value) (fa:Addr) (h:Heap),(K w.params).In h->h.Ns mainGlobals mg->mg d.name=some (.ref fa)->
   ∃fd:FuncData,(∀(s:Shared) (u:Value),BindsTo s fd ⟨[u],[]⟩ [(x,u)])/\
    ∀base:Heap,(K w.params).In base->base.Ns mainGlobals mg->wB l.prog w (K w.params) mg base (CX w) k fa fd [x] (sp w))
  (z:∀(w:World) (H:Hp) (a:Addr) (ns:List Int),ns.length<=n->Only H->cj (K w.params) H a (ns.map V.int)->sp w [.ref a] H (λv _=>v=.bl true) λ_ _ _=>False)
  (r:∀(w:World) (H:Hp) (s:Shared) (e:Value) (s':Shared),CX w [] H s (λ_ _ _=>False) e s'->False):
  W.WalkO q j E B l.row.toRowW d [] (λf vs=>PySem.call f vs):=by
 refine Att.Zf3 hn y λw s₀ m mg R fa o Q S O a vs ns G Y P hd J t p i c I=>?_;have C:=M w _ Y;obtain⟨fd,hb,D⟩:=F w mg fa _ C G.T.g t;exact Zpm C G.T.g G.T.b G.T.builtins G.T.nolimit I p i (Nat.le_trans c A) hr D hb (λH N L=>z w H a ns c N L) λH e s'=>r w H m e s'
end L2
namespace L2
open PySem PySem.Spec PyProof.Rows
def inClass(s:Stmt)(j:Nat):Stmt:=match s with
 | .ClassDef _ _ _ a _ _ _ _ _ _ _=>a.getD j (.Pass ⟨0,0,0,0⟩)
 | _=>.Pass ⟨0,0,0,0⟩
def nW(s:Stmt):Arguments:=match s with
 | .FunctionDef _ a _ _ _ _ _ _ _ _=>a
 | _=>{ posonlyargs:=[],args:=[],vararg:=none,kwonlyargs:=[],kw_defaults:=[],kwarg:=none,defaults:=[] }
def lD(s:Stmt):List Stmt:=match s with
 | .FunctionDef _ _ b _ _ _ _ _ _ _=>b
 | _=>[]
def aG(s:Stmt):Scope:=match s with
 | .FunctionDef _ _ _ _ _ _ a _ _ _=>a
 | _=>{ kind:=.function,names:=[],isGenerator:=false,isCoroutine:=false }
abbrev E0:XK:=λ_ _ _=>False
structure jz(K:aB)(x qual:Str)(st:Stmt)(f:Addr)(fd:FuncData):Prop where
 ex:∃(oc:Value) (od:Option Addr) (kV doc pm:Value) (an:Option Addr) (cdv ct:Value) (osl:Array (Option Value)),
  fd=W.fnOf x qual (nW st) (lD st) (aG st) .none kV doc pm an cdv ct/\K.lookup f=some ⟨oc,od,.func fd,osl⟩/\W.codeIn K cdv qual=true
 kp:W.keepIn K (.ref f)=true
section
variable {P:Program}{w:World}{K:aB}{mg:Str->Option Value}{base:Heap}
def jz.binds{x a:Str}{st:Stmt}{f:Addr}{fd:FuncData}{ps:List Str}(F:jz K x a st f fd)
  (h:∀(kV c d:Value) (e:Option Addr) (b ct:Value) (us:List Value),us.length=ps.length->bindArgs (W.fnOf x a (nW st) (lD st) (aG st) .none kV c d e b ct) ⟨us,[]⟩=pure (ps.zip us)):Binds K fd ps []:=by
 obtain⟨oc,od,kV,c,d,e,b,ct,i,rfl,lk,g⟩:=F.ex;exact .all (h kV c d e b ct)
def Zqh{x a:Str}{st:Stmt}{f:Addr}{oc:Value}{od g:Option Addr}{e:Array (Option Value)}{kV d h b ct:Value}(l:K.lookup f=some ⟨oc,od,.func (W.fnOf x a (nW st) (lD st) (aG st) .none kV d h g b ct),e⟩)
  (c:W.codeIn K b a=true) (k:W.keepIn K (.ref f)=true):jz K x a st f (W.fnOf x a (nW st) (lD st) (aG st) .none kV d h g b ct):=⟨⟨oc,od,kV,d,h,g,b,ct,e,rfl,l,c⟩,k⟩
end
def vM{A:Around}{k:Nat}(hr:Room k A):A.units+1<cLine:=Nat.lt_of_le_of_lt (Nat.add_le_add_left (by decide:1<=64) _) hr.units
section
variable {X:Cx}
def pv(i:Nat){x:Str}{b:Pos}(c:X.N[i]? =some x:=by rfl)(hv:Vis X.env.scope x:=by first | exact Or.inl rfl | exact Or.inr (Or.inl rfl) | exact Or.inr (Or.inr rfl))(hd:(x == ("__debug__":Str))=false:=by decide)
  (a:(x == ("__classdict__":Str))=false:=by decide):PE X (.Name x b) (ak i):=Zoa c hv hd a
end
def Zth{A B:Prop}(h:B):if false=true then A else B:=by
 rw[if_neg Bool.false_ne_true];exact h
def Zi8{A B:Prop}(h:A):if true=true then A else B:=by
 rw[if_pos rfl];exact h
def Zww{c A B:Prop} [Decidable c](h1:c->A)(h2:¬ c->B):if c then A else B:=by
 by_cases h:c
 ·rw[if_pos h];exact h1 h
 ·rw[if_neg h];exact h2 h
def aV(H H':Hp):Prop:=∀b o,H b=some o->H' b=some o
def aV.refl(H:Hp):aV H H:=λ_ _ h=>h
def aV.trans{H e d:Hp}(a:aV H e)(b:aV e d):aV H d:=λc o h=>b c o (a c o h)
def aV.free{H H':Hp}(e:aV H H'){l:Addr}(h:H' l=Option.none):H l=Option.none:=by
 cases q:H l with
 | none=>rfl
 | some o=>
  rw[e l o q]at h;cases h
def aV.seq{K:aB}{H H':Hp}{a:Addr}{xs:List V}(e:aV H H')(h:cj K H a xs):cj K H' a xs:=by
 rcases h with (h | ⟨o,h⟩) | h
 ·exact .inl (.inl (e _ _ h))
 ·exact .inl (.inr ⟨o,e _ _ h⟩)
 ·exact .inr h
end L2
namespace L2
open PySem PySem.Spec PyProof.Rows
end L2
namespace L2
open PySem PySem.Spec PyProof.Rows
end L2
namespace L2
open PySem PySem.Spec PyProof.Rows
section
variable {X:Cx}{pins:List (Addr×Obj)}{σ:List (Option V)}{H H':Hp}{s:Shared}{h':Heap}
end
end L2
namespace L2
open PySem PySem.Spec PyProof.Rows
section
variable {X:Cx}
variable {a b:Expr}{ta tb:TE}{pos:Pos}
variable {tA tB':TT}{rest:List Expr}
end
end L2
namespace L2
open PySem PySem.Spec PyProof.Rows
end L2
namespace L2
open PySem PySem.Spec PyProof.Rows
end L2
namespace L2
open PySem PySem.Spec PyProof.Rows
section
variable {X:Cx}{a b c:Expr}{ta tb tc:TE}{pos:Pos}
end
end L2
namespace L2
open PySem PySem.Spec PyProof.Rows
section
variable {prog:Program}{w:World}{A:Around}{E:Value->Shared->Prop}{s:Shared}{K:aB}{x dx C f:Addr}{mA:Str->Option Value}{name:Str}{v:Value}
end
section
variable {X:Cx}{pins:List (Addr×Obj)}{σ:St}{H:Hp}{s:Shared}{a C dx:Addr}{fs:List (Str×V)}{f:Str}{v:V}{A:Around}{E:Value->Shared->Prop}
end
end L2
namespace L2
open PySem PySem.Spec PyProof.Rows
section
variable {X:Cx}{CX:CXT}{k:Nat}{f C:Addr}{fd:FuncData}{ps:List Str}{sp:Sp}{wF:List V}{ds:List Value}{E:XK}{x m:Str}{p pos apos:Pos}{e o:Expr}{es:List Expr}{ta:TE}{t:TA}
end
end L2
namespace L2
open PySem PySem.Spec PyProof.Rows
section
variable {X:Cx}{x:Str}{p pos:Pos}{e:Expr}{es:List Expr}{t:TA}{id T:String}{r:List V->Hp->VK->Prop}
end
end L2
namespace L2
open PySem PySem.Spec PyProof.Rows
section
variable {κ:Type} [DecidableEq κ]
def nZ(a:List (κ×V))(k:κ):Option V:=(a.find? λkv=>decide (kv.1=k)).map (·.2)
def putK(a:List (κ×V))(k:κ)(v:V):List (κ×V):=
 if (a.any λkv=>decide (kv.1=k))=true then a.map (λkv=>if kv.1=k then(kv.1,v)else kv)else a++[(k,v)]
def nG{p:κ×V}{r:List (κ×V)}{k:κ}(e:p.1=k):nZ (p::r) k=some p.2:=by simp[nZ,List.find?_cons,e]
def nH{p:κ×V}{r:List (κ×V)}{k:κ}(e:¬ p.1=k):nZ (p::r) k=nZ r k:=by simp[nZ,List.find?_cons,e]
def Cq(k:κ):∀a:List (κ×V),(a.any λkv=>decide (kv.1=k))=(nZ a k).isSome
 | []=>rfl
 | p::r=>by
  rw[List.any_cons]
  by_cases e:p.1=k
  ·simp only[nG e,decide_eq_true e,Bool.true_or,Option.isSome_some]
  ·rw[nH e,decide_eq_false e,Bool.false_or];exact Cq k r
def Zck(k j:κ)(y:V):∀a:List (κ×V),nZ (a.map λkv=>if kv.1=k then(kv.1,y)else kv) j=(nZ a j).map λx=>if j=k then y else x
 | []=>rfl
 | p::r=>by
  have b:=Zck k j y r;rw[List.map_cons]
  by_cases h:p.1=k
  ·rw[if_pos h]
   by_cases e:p.1=j
   ·rw[nG (p:=(p.1,y)) e,nG e,Option.map_some,if_pos (e.symm.trans h)]
   ·rw[nH (p:=(p.1,y)) e,nH e,b]
  ·rw[if_neg h]
   by_cases e:p.1=j
   ·rw[nG (p:=p) e,nG e,Option.map_some,if_neg (λz=>h (e.trans z))]
   ·rw[nH (p:=p) e,nH e,b]
def W9(k j:κ)(y:V):∀a:List (κ×V),nZ a k=none->nZ (a++[(k,y)]) j=if j=k then some y else nZ a j
 | [],_=>by
  by_cases e:k=j
  ·rw[if_pos e.symm];exact nG (p:=(k,y)) e
  ·rw[if_neg (λz=>e z.symm)];exact nH (p:=(k,y)) e
 | p::r,hn=>by
  rw[List.cons_append];have hk:¬ p.1=k:=λz=>by rw[nG z]at hn;cases hn
  rw[nH hk]at hn;have b:=W9 k j y r hn
  by_cases e:p.1=j
  ·rw[nG e,nG e,if_neg (λz=>hk (e.trans z))]
  ·rw[nH e,nH e,b]
def Zn0(b:List (κ×V))(k j:κ)(y:V):nZ (putK b k y) j=if j=k then some y else nZ b j:=by
 unfold putK
 by_cases a:(b.any λkv=>decide (kv.1=k))=true
 ·rw[if_pos a,Zck];rw[Cq]at a
  by_cases e:j=k
  ·obtain⟨x,hx⟩:=Option.isSome_iff_exists.mp a;rw[if_pos e,e,hx,Option.map_some,if_pos rfl]
  ·rw[if_neg e];cases nZ b j with
   | none=>rfl
   | some x=>rw[Option.map_some,if_neg e]
 ·rw[if_neg a];refine W9 k j y b ?_;rw[Cq]at a;cases q:nZ b k with
  | none=>rfl
  | some x=>rw[q]at a;exact(a rfl).elim
def Ep(a:List (κ×V))(k:κ)(v:V):(putK a k v).length<=a.length+1:=by
 unfold putK;split
 ·rw[aX];omega
 ·rw[List.length_append,List.length_cons,List.length_nil];omega
def Znz{a:List (κ×V)}{k:κ}(v:V)(h:nZ a k=none):putK a k v=a++[(k,v)]:=by
 unfold putK;rw[Cq,h];exact if_neg (by decide)
def Gr.M9{o:Option V}{u:Option Value}(r:Gr o u):o.isSome=u.isSome:=by
 cases o with
 | none=>cases u with
  | none=>rfl
  | some _=>exact(show False from r).elim
 | some _=>cases u with
  | none=>exact(show False from r).elim
  | some _=>rfl
def KV.val{a:List (κ×V)}{vs:List (κ×Value)}(r:KV a vs)(k:κ):Gr (nZ a k) (valueAt vs k):=by
 unfold KV at r
 induction r with
 | nil=>exact True.intro
 | @cons p q ps c h t f=>
  obtain⟨h1,h2⟩:=h
  by_cases e:p.1=k
  ·have d:q.1=k:=h1.symm.trans e;have b:valueAt (q::c) k=some q.2:=by simp[valueAt,List.find?_cons,d]
   rw[nG e,b];exact h2
  ·have d:¬ q.1=k:=λz=>e (h1.trans z);have b:valueAt (q::c) k=valueAt c k:=by simp[valueAt,List.find?_cons,d]
   rw[nH e,b];exact f
def KV.any{a:List (κ×V)}{vs:List (κ×Value)}(r:KV a vs)(k:κ):(a.any λkv=>decide (kv.1=k))=vs.any λkv=>decide (kv.1=k):=by
 unfold KV at r
 induction r with
 | nil=>rfl
 | cons h t b=>rw[List.any_cons,List.any_cons,b,h.1]
def KV.repl{a:List (κ×V)}{vs:List (κ×Value)}(r:KV a vs)(k:κ){y:V}{u:Value}(b:RelV y u):
  KV (a.map λkv=>if kv.1=k then(kv.1,y)else kv) (vs.map λkv=>if kv.1=k then(kv.1,u)else kv):=by
 unfold KV at r ⊢
 induction r with
 | nil=>exact .nil
 | @cons p q ps d h t c=>
  rw[List.map_cons,List.map_cons];refine .cons ?_ c;obtain⟨h1,h2⟩:=h
  by_cases e:p.1=k
  ·rw[if_pos e,if_pos (h1.symm.trans e)];exact⟨h1,b⟩
  ·rw[if_neg e,if_neg (λz=>e (h1.trans z))];exact⟨h1,h2⟩
def KV.put{a:List (κ×V)}{vs:List (κ×Value)}(r:KV a vs)(k:κ){y:V}{u:Value}(b:RelV y u):KV (putK a k y) (stored vs k u):=by
 unfold putK stored;rw[r.any k]
 by_cases e:(vs.any λkv=>decide (kv.1=k))=true
 ·rw[if_pos e,if_pos e];exact r.repl k b
 ·rw[if_neg e,if_neg e];exact Paired.snoc r ⟨rfl,b⟩
def KV.length{a:List (κ×V)}{vs:List (κ×Value)}(r:KV a vs):a.length=vs.length:=Paired.length r
end
def Zk1{P:Program}{w:World}{k:Key}{u:Value}(r:RelV (kV k) u):(fG P w).is k u=true:=by
 cases k with
 | inl i=>obtain⟨t,e⟩:=(show ∃t,u=Value.int i t from r);subst e;exact Zdv P w i t
 | inr x=>obtain⟨t,e⟩:=(show ∃t,u=Value.str x t from r);subst e;exact Zdu P w x t
def XM{P:Program}{w:World}:∀{a:List Key}{us:List Value},Vals (a.map kV) us->ItemsAre (fG P w) a us
 | [],_,r=>by rw[List.map_nil]at r;cases r;exact .nil
 | k::a,_,r=>by
  rw[List.map_cons]at r;cases r with
  | cons h t=>exact .cons (Zk1 h) (XM t)
abbrev KT(H:Hp):List (List Key×V)->List (List Key×Addr×Value)->Prop:=Paired λp q=>p.1=q.1/\H q.2.1=some (.tup (p.1.map kV))/\RelV p.2 q.2.2
def KT.val{H:Hp}{a:List (List Key×V)}{xs:List (List Key×Addr×Value)}(r:KT H a xs)(k:List Key):Gr (nZ a k) ((atKey xs k).map (·.2)):=by
 induction r with
 | nil=>exact True.intro
 | @cons p q ps c h t f=>
  obtain⟨h1,_,h2⟩:=h
  by_cases e:p.1=k
  ·have d:q.1=k:=h1.symm.trans e;have b:atKey (q::c) k=some q.2:=by simp[atKey,List.find?_cons,d]
   rw[nG e,b];exact h2
  ·have d:¬ q.1=k:=λz=>e (h1.trans z);have b:atKey (q::c) k=atKey c k:=by simp[atKey,List.find?_cons,d]
   rw[nH e,b];exact f
def KT.repl{H:Hp}{a:List (List Key×V)}{xs:List (List Key×Addr×Value)}(r:KT H a xs)(k:List Key){y:V}{u:Value}(b:RelV y u):
  KT H (a.map λkv=>if kv.1=k then(kv.1,y)else kv) (xs.map (putAt k u)):=by
 induction r with
 | nil=>exact .nil
 | @cons p q ps d h t c=>
  rw[List.map_cons,List.map_cons];refine .cons ?_ c;obtain⟨h1,h2,h3⟩:=h;unfold putAt
  by_cases e:p.1=k
  ·rw[if_pos e,if_pos (h1.symm.trans e)];exact⟨h1,h2,b⟩
  ·rw[if_neg e,if_neg (λz=>e (h1.trans z))];exact⟨h1,h2,h3⟩
def KT.put{H:Hp}{a:List (List Key×V)}{xs:List (List Key×Addr×Value)}(r:KT H a xs)(k:List Key){b:Addr}{y:V}{u:Value}(hb:H b=some (.tup (k.map kV)))(c:RelV y u):
  KT H (putK a k y) (storedH xs k b u):=by
 have e:(a.any λkv=>decide (kv.1=k))=(atKey xs k).isSome:=by
  rw[Cq,(r.val k).M9,Option.isSome_map]
 unfold putK storedH;rw[e]
 by_cases q:(atKey xs k).isSome=true
 ·rw[if_pos q,if_pos q];exact r.repl k c
 ·rw[if_neg q,if_neg q];exact Paired.snoc r ⟨rfl,hb,c⟩
def KT.keeps{H H':Hp}{a:List (List Key×V)}{xs:List (List Key×Addr×Value)}(r:KT H a xs)(d:∀b c,H b=some (.tup c)->H' b=some (.tup c)):KT H' a xs:=
 Paired.Zwl r λ_ _ z=>⟨z.1,d _ _ z.2.1,z.2.2⟩
section
variable {P:Program}{w:World}{H:Hp}{h:Heap}{a:Addr}
def Zuw{u:HO}(ok:Cm P w H h)(e:Rd H a u):lA P w H h a u:=e.ok ok
def Kq{b:List (Key×V)}(ok:Cm P w H h)(e:Rd H a (.dK b)):b.length<=sizeLine/\(a == sysModules)=false/\∃vs,KV b vs/\h.DictOf (fG P w) a vs:=
 show lA P w H h a (.dK b)from Zuw ok e
def Zv8{b:List (Key×V)}(ok:Cm P w H h)(e:H a=some (.dK b)):b.length<=sizeLine/\(a == sysModules)=false/\∃vs,KV b vs/\h.DictOf (fG P w) a vs:=Kq ok (.inl e)
def Zap{b:List Key}(ok:Cm P w H h)(e:H a=some (.tup (b.map kV))):(tupleKind (fG P w)).is h b a:=by
 obtain⟨_,c,r,o,h1,h2,n,h3⟩:=(show lA P w H h a (.tup (b.map kV))from ok a _ e);exact⟨o,c.toArray,n,h1,h2,h3,by simpa using XM r⟩
def Zet{b:List (List Key×V)}(ok:Cm P w H h)(e:Rd H a (.dT b)):b.length<=sizeLine/\(a == sysModules)=false/\
  ∃xs,KT H b xs/\h.DictOfH (tupleKind (fG P w)) a xs:=by
 obtain⟨z,y,xs,r,o,d,c,h1,h2,h3,h4,h5⟩:=(show lA P w H h a (.dT b)from Zuw ok e);refine⟨z,y,xs,r,o,d,c,h1,h2,h3,h4,λx hx=>?_,h5⟩;have all:∀{l:List (List Key×V)}{m:List (List Key×Addr×Value)},KT H l m->∀x∈m,(tupleKind (fG P w)).is h x.1 x.2.1:=by
  intro l m q
  induction q with
  | nil=>intro x hx;exact nomatch hx
  | @cons p q ps g hq t f=>
   intro x hx;rcases List.mem_cons.mp hx with e | hx
   ·subst e;exact Zap ok (by rw[<- hq.1];exact hq.2.1)
   ·exact f x hx
 exact all r x hx
def ZA4{b:List (List Key×V)}(ok:Cm P w H h)(e:H a=some (.dT b)):b.length<=sizeLine/\(a == sysModules)=false/\
  ∃xs,KT H b xs/\h.DictOfH (tupleKind (fG P w)) a xs:=Zet ok (.inl e)
end
def Og(H:Hp)(a:Addr)(y:V)(r:Option V):Prop:=
 (∃c k,Rd H a (.dK c)/\y=kV k/\r=nZ c k)\/∃c k b,Rd H a (.dT c)/\y=.ref b/\H b=some (.tup (k.map kV))/\r=nZ c k
def W5(H:Hp)(a:Addr)(y v:V)(H':Hp):Prop:=
 (∃c k,H a=some (.dK c)/\y=kV k/\c.length<sizeLine/\H'=upd H a (.dK (putK c k v)))\/
 ∃c k b,H a=some (.dT c)/\y=.ref b/\H b=some (.tup (k.map kV))/\c.length<sizeLine/\H'=upd H a (.dT (putK c k v))
def Og.k{H:Hp}{a:Addr}{b:List (Key×V)}{k:Key}(e:H a=some (.dK b)):Og H a (kV k) (nZ b k):=.inl ⟨b,k,.inl e,rfl,rfl⟩
def W5.k{H:Hp}{a:Addr}{b:List (Key×V)}{k:Key}{v:V}(e:H a=some (.dK b))(hl:b.length<sizeLine):W5 H a (kV k) v (upd H a (.dK (putK b k v))):=.inl ⟨b,k,e,rfl,hl,rfl⟩
section
variable {X:Cx}{pins:List (Addr×Obj)}{σ:St}{H:Hp}{s:Shared}{a:Addr}{y v:V}{u r:Value}{o:Option V}{A:Around}{E:Value->Shared->Prop}
def Inv.big(I:Inv X pins σ H s):sysModules<s.heap.objs.size:=by
 have h:mainGlobals<s.heap.objs.size:=(I.mod.glob.keeps I.bk).lt;exact Nat.lt_trans (by decide) h
def Zmr{Q:Value->Shared->Prop}(hu:A.units+1<cLine)(I:Inv X pins σ H s)(g:Og H a y (some v))(n:RelV y u)(h:∀d s',Inv X pins σ H s'->RelV v d->Q d s'):
  wpAny (model X.prog X.w) A (getItem (.ref a) u) Q E s:=by
 rcases g with ⟨j,k,e,i,l⟩ | ⟨j,k,b,e,i,q,l⟩
 ·subst i;obtain⟨z,hd,vs,rel,dd⟩:=Kq I.hok e;obtain⟨d,m,c⟩:=Gr.some_of (v:=v) (o:=valueAt vs k) (by rw[l];exact rel.val k);exact wpAny_getItem_of (Zk1 n) dd.mapOf m (h d _ (I.tok _) c)
 ·subst i;cases (show u=Value.ref b from n);obtain⟨z,hd,xs,rel,dd⟩:=Zet I.hok e;obtain⟨d,m,c⟩:=Gr.some_of (v:=v) (o:=(atKey xs k).map (·.2)) (by rw[l];exact rel.val k);obtain⟨p,hp,f⟩:=Option.map_eq_some_iff.mp m;refine wpAny_getItem_heap (tupleKind_room_in1 hu) (Zap I.hok q) dd hp ?_;rw[f];exact h d _ (I.tok _) c
def Zke{Q:Value->Shared->Prop}(hu:A.units+1<cLine)(I:Inv X pins σ H s)(g:Og H a y o)(f:RelV y u)(h:∀s',Inv X pins σ H s'->Q (.bool (!o.isSome)) s'):
  wpAny (model X.prog X.w) A (compareOp .NotIn u (.ref a)) Q E s:=by
 rcases g with ⟨d,k,e,c,l⟩ | ⟨d,k,b,e,c,i,l⟩
 ·subst c;obtain⟨z,hd,vs,rel,dd⟩:=Kq I.hok e;refine wpAny_notIn_of (Zk1 f) hd dd.mapOf ?_;rw[<- (rel.val k).M9,<- l];exact h _ (I.tok _)
 ·subst c;cases (show u=Value.ref b from f);obtain⟨z,hd,xs,rel,dd⟩:=Zet I.hok e;refine wpAny_notIn_heap (tupleKind_room_in1 hu) (Zap I.hok i) hd dd ?_;have q:=(rel.val k).M9;rw[Option.isSome_map]at q;rw[<- q,<- l];exact h _ (I.tok _)
def Zkd{h':Heap}{t':Nat}{ob:HO}(I:Inv X pins σ H s)(d:Mut (H a))(hs:Heap.SameBut a s.heap h')(c:∃q,h'.get? a=some q)(new:lA X.prog X.w (upd H a ob) h' a ob):
  Inv X pins σ (upd H a ob) { s with heap:=h',toks:=t' }:=
 I.write (x:=a) (e:=a) d (.inl rfl) (λb q hb z=>(hs.2 b hb).trans z) c new
def Zy1{P:Program}{w:World}{H':Hp}{h':Heap}{b:List (Key×V)}{vs:List (Key×Value)}(z:b.length<=sizeLine)(hd:(a == sysModules)=false)(rel:KV b vs)(dd:h'.DictOf (fG P w) a vs):
  lA P w H' h' a (.dK b):=⟨z,hd,vs,rel,dd⟩
def Zmq{H':Hp}{Q:Unit->Shared->Prop}(hu:A.units+1<cLine)(I:Inv X pins σ H s)(g:W5 H a y v H')(n:RelV y u)(o:RelV v r)(h:∀s',Inv X pins σ H' s'->Q () s'):
  wpAny (model X.prog X.w) A (setItem (.ref a) u r) Q E s:=by
 rcases g with ⟨d,k,e,j,l,i⟩ | ⟨d,k,b,e,j,p,l,i⟩
 ·subst j i;obtain⟨z,hd,vs,rel,dd⟩:=Zv8 I.hok e;have hz:vs.length<=sizeLine:=by rw[<- rel.length];exact z
  have hl:(putK d k v).length<=sizeLine:=by have:=Ep d k v;omega
  refine wpAny_setItem_pairs (hsz:=hz) (Zk1 n) dd λh' f hs=>h _ ?_;have x:∃q,h'.get? a=some q:=let ⟨q,_,_,hq,_⟩:=f;⟨q,hq⟩
  exact Zkd I (by rw[e];exact True.intro) hs x (Zy1 hl hd (rel.put k o) f)
 ·subst j i;cases (show u=Value.ref b from n);obtain⟨z,hd,xs,rel,dd⟩:=ZA4 I.hok e;have hz:xs.length<=sizeLine:=by rw[<- Paired.length rel];exact z
  have hl:(putK d k v).length<=sizeLine:=by have:=Ep d k v;omega
  refine wpAny_setItem_heap (hsz:=hz) (tupleKind_room_in1 hu) (Zap I.hok p) dd λh' f hs=>h _ ?_;obtain⟨q,B,t,hq,h2,h3,h4,_,h5⟩:=f;refine Zkd I (by rw[e];exact True.intro) hs ⟨q,hq⟩ ⟨hl,hd,_,(rel.put k p o).keeps λc C m=>?_,q,B,t,hq,h2,h3,h4,h5⟩;rw[aC (qU m e (λz=>nomatch z))];exact m
end
section
variable {X:Cx}{pins:List (Addr×Obj)}{σ:St}{H:Hp}{s:Shared}{a:Addr}{kvs:List (Key×V)}{k:Key}{u:Value}{A:Around}{E:Value->Shared->Prop}
end
def Zuo(i:Expr):Prop:=∀b a,subscripted i false b a=operate [b,a] (getItem b a)
def Zjo{prog:Program}{w:World}{A:Around}{E:Value->Shared->Prop}{s:Shared}{env:Env}{b a:Expr}{k:Pos}{T id:String}{Q:Value->Shared->Prop}
  (hl:typeLookup (.type T) "__getitem__"=pure (some (.builtin id))) (hs:Zuo a)
  (h:wpAny (model prog w) A (eval b env) (λo f=>wpAny (model prog w) A (eval a env) (λi c=>c.TypeIs o T/\wpAny (model prog w) A (getItem o i) Q E c) E f) E s):
  wpAny (model prog w) A (eval (.Subscript b a k) env) Q E s:=by
 refine Subscript_ (wpAny_mono h (λo f g=>wpAny_mono g (λi c d=>?_) λ_ _ x=>x) λ_ _ x=>x);obtain⟨l,d⟩:=d;unfold subscriptTail;refine wpAny_bind ?_;rw[getitemInPython_of_ne l.not_modules];refine wpAny_bind (wpAny_specialOf l hl ?_);have fin:wpAny (model prog w) A (subscripted a false o i) (λr e=>wpAny (model prog w) A (letTemporaryGo b o r >>= λ_=>pure r) Q E e) E c:=by
  rw[hs o i];exact wpAny_operating (wpAny_mono d (λr e j=>wpAny_bind (wpAny_letTemporaryGo (wpAny_pure j))) λ_ _ x=>x)
 first
  | exact wpAny_pure (wpAny_bind fin)
  | exact wpAny_bind (wpAny_pure (wpAny_bind fin))
  | exact wpAny_bind fin
def Zex{X:Cx}{c:List (Addr×Obj)}{σ:St}{H:Hp}{s:Shared}{a:Addr}{y:V}{o:Option V}(I:Inv X c σ H s)(g:Og H a y o):s.TypeIs (.ref a) "dict":=by
 rcases g with ⟨d,k,e,_,_⟩ | ⟨d,k,b,e,_,_,_⟩
 ·obtain⟨_,_,vs,_,dd⟩:=Kq I.hok e;exact dd.typeIs
 ·obtain⟨_,_,xs,_,dd⟩:=Zet I.hok e;exact dd.typeIs
def Ri(c ty:TE):TE:=λσ H Q=>c σ H λx d=>ty σ d λy b=>∃a v,x=.ref a/\Og b a y (some v)/\Q v b
def Yz(ty c:TE):TE:=λσ H Q=>ty σ H λy d=>c σ d λx b=>∃a o,x=.ref a/\Og b a y o/\Q (.bl (!o.isSome)) b
def Oo(f ty e:TE):TS:=λD σ H=>e σ H λv g=>f σ g λx d=>ty σ d λy c=>∃a b,x=.ref a/\W5 c a y v b/\D.nx σ b
section
variable {X:Cx}{o i e value:Expr}{pos pos' tpos:Pos}{td ty tv:TE}
def Zsn(hu:X.A.units+1<cLine)(e:PE X o td)(f:PE X i ty)(hs:Zuo i):PE X (.Subscript o i pos) (Ri td ty):=by
 intro b s σ H Q I h;refine Zjo PySem.F.slot_dict_getitem.lookup hs (iR (e b s σ H _ I h) λu j ⟨x,H1,I1,rx,q1⟩=>iR (f b j σ H1 _ I1 q1) λl n ⟨y,H2,I2,ry,a,v,ex,g,q2⟩=>?_);subst ex;obtain rfl:u=Value.ref a:=rx;exact⟨Zex I2 g,Zmr hu I2 g ry λm k d c=>⟨v,H2,d,c,q2⟩⟩
def Zl9(hu:X.A.units+1<cLine)(e:PE X i ty)(d:PE X o td):PC X .NotIn i o (Yz ty td):=by
 intro b s σ H Q I h;refine iR (e b s σ H _ I h) λk f ⟨y,H1,I1,ry,q1⟩=>iR (d b f σ H1 _ I1 q1) λu l ⟨x,H2,I2,rx,a,ov,ex,g,q2⟩=>?_;subst ex;obtain rfl:u=Value.ref a:=rx;exact Zke hu I2 g ry λj c=>⟨.bl (!ov.isSome),H2,c,rfl,q2⟩
def Fw(hu:X.A.units+1<cLine)(c:PE X o td)(d:PE X i ty)(hv:PE X value tv)(hs:swapsWith value (some (.Subscript o i pos')) pos.line X.env=pure false):
  PS X (.Assign [.Subscript o i pos'] value pos) (Oo td ty tv):=by
 intro b s σ H D I h;refine wpAny_Assign_Subscript (iR (hv b s σ H _ I h) λr e ⟨v,H1,I1,rv,q1⟩=>iR (c b e σ H1 _ I1 q1) λu f ⟨x,H2,I2,rx,q2⟩=>iR (d b f σ H2 _ I2 q2) λm l ⟨y,H3,I3,ry,a,H4,ex,g,q3⟩=>?_) hs;subst ex;obtain rfl:u=Value.ref a:=rx;exact Zmq hu I3 g ry rv λk j=>⟨σ,H4,j,q3⟩
end
def Zqy{P:Program}{w:World}{H:Hp}(h:Heap)(hb:sysModules<h.objs.size):lA P w H (h.push { cls:=.type "dict",data:=.dict #[] }) h.objs.size (.dK []):=
 ⟨Nat.zero_le _,beq_eq_false_iff_ne.mpr (Ne.symm (Nat.ne_of_lt hb)),[],.nil,Heap.DictOf.new h⟩
def Rh:TE:=λ_ H Q=>∀p,H p=none->Q (.ref p) (upd H p (.dK []))
section
variable {X:Cx}{pos:Pos}
def Js:PE X (.Dict [] [] pos) Rh:=λb s σ H Q I h=>
 wpAny_Dict_empty ⟨.ref s.heap.objs.size,_,I.laid (a:=s.heap.objs.size) (o:=.dK []) (t':=s.toks) (λ_ _ q=>Heap.get?_push_of_some _ q) (Nat.le_refl _) (Zqy s.heap I.big),rfl,h _ (I.hok.fresh (Nat.le_refl _))⟩
end
def Znb:List (TE×TE)->St->Hp->(List (V×V)->Hp->Prop)->Prop
 | [],_,H,Q=>Q [] H
 | (tk,c)::r,σ,H,Q=>tk σ H λx d=>c σ d λy b=>Znb r σ b λps a=>Q ((x,y)::ps) a
abbrev VV:List (V×V)->List (Value×Value)->Prop:=Paired λp q=>RelV p.1 q.1/\RelV p.2 q.2
def PPs(X:Cx)(c:Pos)(keys:List (Option Expr))(a:List Expr)(d:List (TE×TE)):Prop:=
 ∀(b:List (Addr×Obj)) (s:Shared) (σ:St) (H:Hp) (Q:List (V×V)->Hp->Prop),Inv X b σ H s->Znb d σ H Q->
  wpAny (model X.prog X.w) X.A (evalPairs (pairTrees keys a X.env c)) (λvs s'=>∃ps H',Inv X b σ H' s'/\VV ps vs/\Q ps H') X.xe s
structure M1(X:Cx)(o:Expr)(m:Str)(apos:Pos)(e:Expr)(cpos:Pos):Prop where
 base:attributeBase o m X.env (eval o X.env)=eval o X.env
 few:((backTo cpos (starEach [e] X.env)).all (λx=>!x.1) && (backToKw cpos (keywordEach [] X.env)).all (λx=>x.1.isSome)
  && decide (([e]:List Expr).length+([]:List Keyword).length+(if ([]:List Keyword).isEmpty then 0 else 1)<30))=true
 line:(apos.endLine == cpos.line)=true
 trees:backTo cpos (starEach [e] X.env)=[(false,eval e X.env)]
structure M2(X:Cx)(o:Expr)(m:Str)(apos:Pos)(e f:Expr)(cpos:Pos):Prop where
 base:attributeBase o m X.env (eval o X.env)=eval o X.env
 few:((backTo cpos (starEach [e,f] X.env)).all (λx=>!x.1) && (backToKw cpos (keywordEach [] X.env)).all (λx=>x.1.isSome)
  && decide (([e,f]:List Expr).length+([]:List Keyword).length+(if ([]:List Keyword).isEmpty then 0 else 1)<30))=true
 line:(apos.endLine == cpos.line)=true
 trees:backTo cpos (starEach [e,f] X.env)=[(false,eval e X.env),(false,eval f X.env)]
def IsD(H:Hp)(a:Addr):Prop:=(∃b,Rd H a (.dK b))\/∃b,Rd H a (.dT b)
def Zpr{X:Cx}{c:List (Addr×Obj)}{σ:St}{H:Hp}{s:Shared}{a:Addr}(I:Inv X c σ H s)(d:IsD H a):
  s.TypeIs (.ref a) "dict"/\(∀b,Value.ref a=.ref b->∃ob,s.heap.get? b=some ob/\ob.dict=none)/\(a == sysModules)=false:=by
 rcases d with ⟨f,e⟩ | ⟨f,e⟩
 ·obtain⟨_,hd,vs,_,dd⟩:=Kq I.hok e;refine⟨dd.typeIs,λb q=>?_,hd⟩;cases q;obtain⟨ob,_,_,h1,h2,_⟩:=dd;exact⟨ob,h1,h2.2.1⟩
 ·obtain⟨_,hd,xs,_,dd⟩:=Zet I.hok e;refine⟨dd.typeIs,λb q=>?_,hd⟩;cases q;obtain⟨ob,_,_,h1,h2,_⟩:=dd;exact⟨ob,h1,h2.2.1⟩
section
variable {X:Cx}{pins:List (Addr×Obj)}{σ:St}{H:Hp}{s:Shared}{a:Addr}{y d:V}{u r:Value}{o:Option V}{A:Around}{E:Value->Shared->Prop}
end
section
variable {X:Cx}{o e f:Expr}{apos cpos:Pos}{td ty tx:TE}
end
section
variable {X:Cx}{pins:List (Addr×Obj)}{σ:St}{H:Hp}{s:Shared}{a:Addr}{kvs:List (Key×V)}{A:Around}{E:Value->Shared->Prop}
end
section
variable {X:Cx}{pins:List (Addr×Obj)}{σ:St}{H:Hp}{s:Shared}{a:Addr}{y:V}{u:Value}{A:Around}{E:Value->Shared->Prop}
end
end L2
namespace Att
open PySem PySem.W PySem.Calls PyProof.Rows
section
variable {prog:Program}{w:World}{A:Around}{E:Value->Shared->Prop}{s:Shared}{K:Frag}
end
end Att
namespace L2
open PySem PySem.Spec PyProof.Rows
end L2
namespace L2
open PySem PySem.Spec PyProof.Rows
end L2
namespace L2
open PySem PySem.Spec PyProof.Rows
section
variable {X:Cx}
end
section
variable {κ:Type} [DecidableEq κ]
end
end L2
set_option maxHeartbeats 40000000
namespace G
open PySem L2
section
variable {D:Ends}{σ:St}{H H1:Hp}{Q:VK}{t u:TS}{ta tb tc te:TE}{n:St->Hp->Prop}{r:VK}{b c:St->Hp->Prop}
def J2(h:t ⟨u ⟨n,r,b,c⟩,r,b,c⟩ σ H):aN t u ⟨n,r,b,c⟩ σ H:=h
def vL(h:n σ H):cu ⟨n,r,b,c⟩ σ H:=h
def Zxg(h:te σ H λ_ H1=>n σ H1):vg te ⟨n,r,b,c⟩ σ H:=h
def Zk4(h:te σ H r):bG te ⟨n,r,b,c⟩ σ H:=h
def Zxc{c':TT}(h:c' σ H λk H1=>if k=true then t ⟨n,r,b,c⟩ σ H1 else u ⟨n,r,b,c⟩ σ H1):dY c' t u ⟨n,r,b,c⟩ σ H:=h
def TQ{g:TG}(h:te σ H λx H1=>g x σ H1 n):bF te g ⟨n,r,b,c⟩ σ H:=h
def i_C{v:V}(h:Q v H):tC v σ H Q:=h
def Zib{f:R2}(h:ta σ H λx H1=>tb σ H1 λy a=>f x y a Q):bC f ta tb σ H Q:=h
def ZB5{f:V->Hp->VK->Prop}(h:ta σ H λx H1=>f x H1 Q):tUn f ta σ H Q:=h
def kB(q:Bool->Hp->Prop):VK:=λx H'=>∃k,x=.bl k/\q k H'
def i_B{k:Bool}{q:Bool->Hp->Prop}(h:q k H):kB q (.bl k) H:=⟨k,rfl,h⟩
def Zx1{q:Bool->Hp->Prop}(h:te σ H (kB q)):bT te σ H q:=h
def Zzh{q:Bool->Hp->Prop}(h:te σ H (kB q)):tB te σ H q:=h
def Zzt{t u:TT}{q:Bool->Hp->Prop}(h:t σ H λk H1=>if k=true then u σ H1 q else q false H1):Zg0 t u σ H q:=h
def Zzi{t u:TT}{q:Bool->Hp->Prop}(h:t σ H λk H1=>if k=true then q true H1 else u σ H1 q):UT t u σ H q:=h
def Zv3{t:TT}{q:Bool->Hp->Prop}(h:t σ H λk H1=>q (!k) H1):zL t σ H q:=h
def Zxn(h:ta σ H (kB λk H1=>if k=true then tb σ H1 Q else Q (.bl false) H1)):Zjn ta tb σ H Q:=h
def Zx4(h:ta σ H (kB λk H1=>Q (.bl (!k)) H1)):Zjm ta σ H Q:=h
def Zzo{t:TT}(h:t σ H λk H1=>if k=true then ta σ H1 Q else tb σ H1 Q):tIf t ta tb σ H Q:=h
def Zzu{g:Int->Int->V}{i j:Int}(h:Q (g i j) H):pL g (.int i) (.int j) H Q:=⟨i,j,rfl,rfl,h⟩
def i_I{C:Int->Int->Prop}{g:Int->Int->V}{i j:Int}(hc:C i j)(h:Q (g i j) H):rI C g (.int i) (.int j) H Q:=⟨i,j,rfl,rfl,hc,h⟩
def i_U{g:Int->V}{i:Int}(h:Q (g i) H):rU g (.int i) H Q:=⟨i,rfl,h⟩
def Zzs{i j:Int}(h:Q (.bl (decide (i=j))) H):Cd (.int i) (.int j) H Q:=⟨rfl,by rw[show decide (V.int i=V.int j)=decide (i=j)from decide_eq_decide.mpr ⟨λe=>V.int.inj e,λe=>by rw[e]⟩];exact h⟩
def Zzr{i j:Str}(h:Q (.bl (decide (i=j))) H):Cd (.str i) (.str j) H Q:=⟨rfl,by rw[show decide (V.str i=V.str j)=decide (i=j)from decide_eq_decide.mpr ⟨λe=>V.str.inj e,λe=>by rw[e]⟩];exact h⟩
def Zzl{i j:Int}(h:Q (.bl (!decide (i=j))) H):rNe (.int i) (.int j) H Q:=⟨rfl,by rw[show decide (V.int i=V.int j)=decide (i=j)from decide_eq_decide.mpr ⟨λe=>V.int.inj e,λe=>by rw[e]⟩];exact h⟩
def Zzk{i j:Str}(h:Q (.bl (!decide (i=j))) H):rNe (.str i) (.str j) H Q:=⟨rfl,by rw[show decide (V.str i=V.str j)=decide (i=j)from decide_eq_decide.mpr ⟨λe=>V.str.inj e,λe=>by rw[e]⟩];exact h⟩
def Vo:R2:=λx y H Q=>y=.non/\Q (.bl (decide (x=.non))) H
def Gv:R2:=λx y H Q=>y=.non/\Q (.bl (!decide (x=.non))) H
def Zxb(h:Q (.bl true) H):Vo .non .non H Q:=⟨rfl,h⟩
def Zxa{i:Int}(h:Q (.bl false) H):Vo (.int i) .non H Q:=⟨rfl,h⟩
def Zx9{i:Addr}(h:Q (.bl false) H):Vo (.ref i) .non H Q:=⟨rfl,h⟩
def Ztl(h:Q (.bl false) H):Gv .non .non H Q:=⟨rfl,h⟩
def Ztk{i:Int}(h:Q (.bl true) H):Gv (.int i) .non H Q:=⟨rfl,h⟩
def Ztj{i:Addr}(h:Q (.bl true) H):Gv (.ref i) .non H Q:=⟨rfl,h⟩
def Zid{A B:Prop}(h:A):if true=true then A else B:=Zi8 h
def Zb1{A B:Prop}(h:B):if false=true then A else B:=Zth h
def Ztq{A B:Prop}(h:B):if (!true)=true then A else B:=Zth h
def Ztr{A B:Prop}(h:A):if (!false)=true then A else B:=Zi8 h
def wD{p A B:Prop} [Decidable p](h1:p->A)(h2:¬ p->B):if decide p=true then A else B:=Zww (λe=>h1 (of_decide_eq_true e)) (λe=>h2 (λq=>e (decide_eq_true q)))
def HY{p A B:Prop} [Decidable p](h1:¬ p->A)(h2:p->B):if (!decide p)=true then A else B:=Zww (λe=>h1 (by simpa using e)) (λe=>h2 (by simpa using e))
def Zzj{q:List V->Hp->Prop}(h:q [] H):aF σ H q:=h
def Zxk{q:List V->Hp->Prop}{t:TA}(h:ta σ H λx H1=>t σ H1 λxs a=>q (x::xs) a):aj ta t σ H q:=h
def Zzm{t:TA}(h:t σ H λxs H1=>xs.length<=sizeLine/\∀p,H1 p=none->Q (.ref p) (upd H1 p (.lst xs))):gJ t σ H Q:=h
def Zze{t:TA}(h:t σ H λxs H1=>xs.length<=sizeLine/\∀p,H1 p=none->Q (.ref p) (upd H1 p (.tup xs))):gf t σ H Q:=h
def Zxl{t:TA}{sp:Sp}{wF:List V}{E:XK}(h:t σ H λvs H1=>sp (vs++wF) H1 Q E):aQ sp wF E t σ H Q:=h
def ZBj{t:TA}{f:List V->Hp->VK->Prop}(h:t σ H λvs H1=>f vs H1 Q):xK f t σ H Q:=h
def Zx7{t:TA}{sp:Sp}{wF:List V}{E:XK}{C:Addr}(h:t σ H λvs H1=>∀x dx,H1 x=none->H1 dx=none->dx≠x->sp (.ref x::(vs++wF)) (upd (upd H1 dx (.own x)) x (.ins C dx [])) (λv a=>v=.non/\Q (.ref x) a) E):BR C sp wF E t σ H Q:=h
def Zzd(K:aB)(f:Str)(Q:VK):VK:=λx H1=>∃a C dx fs v,x=.ref a/\H1 a=some (.ins C dx fs)/\Hg K C/\bM K C f/\fs.lookup f=some v/\Q v H1
def Zzq{K:aB}{f:Str}(h:ta σ H (Zzd K f Q)):bz K ta f σ H Q:=h
def aH{K:aB}{f:Str}{a C dx:Addr}{fs:List (Str×V)}{v:V}(h:H a=some (.ins C dx fs))(hc:Hg K C)(hn:bM K C f)(hl:fs.lookup f=some v)(q:Q v H):Zzd K f Q (.ref a) H:=⟨a,C,dx,fs,v,rfl,h,hc,hn,hl,q⟩
def Zx2{K:aB}{f:Str}{e:TE}(h:e σ H λy H1=>ta σ H1 λx d=>∃a C dx fs,x=.ref a/\d a=some (.ins C dx fs)/\Hg K C/\bM K C f/\fs.length<1000/\n σ (upd d a (.ins C dx (cC f y fs)))):iu K ta e f ⟨n,r,b,c⟩ σ H:=h
def Zx6{C:Addr}{m:Str}{sp:Sp}{wF:List V}{E:XK}{t:TA}(h:ta σ H λx H1=>∃a dx fs,x=.ref a/\H1 a=some (.ins C dx fs)/\fs.lookup m=none/\t σ H1 λvs b=>sp (x::(vs++wF)) b Q E):mj C m sp wF E ta t σ H Q:=h
def Zpw{q:Option Int->Hp->Prop}(h:q none H):Iw σ H q:=h
def kI(q:Int->Hp->Prop):VK:=λx H1=>∃i,x=.int i/\q i H1
def Zx3{q:Option Int->Hp->Prop}(h:te σ H (kI λi=>q (some i))):Rg te σ H q:=h
def ZB7{i:Int}{q:Int->Hp->Prop}(h:q i H):kI q (.int i) H:=⟨i,rfl,h⟩
def ZB6{f:V->Option Int->Option Int->Hp->VK->Prop}{tl th:TO}(h:te σ H λx H1=>tl σ H1 λl b=>th σ b λu a=>f x l u a Q):tSl f te tl th σ H Q:=h
def ZBi{K:aB}{T:String}{f:V->List V->Hp->VK->Prop}{to:TE}{t:TA}(h:to σ H λx H1=>tyV K T x H1/\t σ H1 λxs a=>f x xs a Q):tBM K T f to t σ H Q:=h
def Zzp{e:TI}{g:TG}{tb:TS}(h:e σ H λJ H1=>∃W:Nat->Nat->St->Hp->Prop,(∃m,W 0 m σ H1)/\∀i m σ H,W i m σ H->
 (J.stop i H/\n σ H)\/(J.go i H/\∃N:St->Hp->Prop,(∀ a H',N a H'->∃f,f<m/\W (i+1) f a H')/\∀x H',J.yld i H x H'->g x σ H' λd j=>tb ⟨N,r,n,N⟩ d j)):yW e g tb ⟨n,r,b,c⟩ σ H:=h
def ZBa{K:aB}{R:It->Hp->Prop}(h:te σ H λx H1=>∃a,x=.ref a/\(∃xs,cj K H1 a xs)/\R (Itl K a) H1):pG K te σ H R:=h
def ZB9{ta:TA}{R:It->Hp->Prop}(h:ta σ H λvs H1=>∃j:Int,vs=[.int j]/\-(2 ^ 62)<=j/\j<2 ^ 62/\R (Itr 0 j.toNat) H1):J9 ta σ H R:=h
end
def ZB4{v:V}{l:St}{H:Hp}{Q:VK}(h:Q v H):ak 0 (some v::l) H Q:=⟨v,rfl,h⟩
def ZB3{a:Option V}{v:V}{l:St}{H:Hp}{Q:VK}(h:Q v H):ak 1 (a::some v::l) H Q:=⟨v,rfl,h⟩
def ZBh{a:Option V}{y:Option V}{v:V}{l:St}{H:Hp}{Q:St->Hp->Prop}(h:Q (a::some v::l) H):aO 1 v (a::y::l) H Q:=h
def ZB2{b a:Option V}{v:V}{l:St}{H:Hp}{Q:VK}(h:Q v H):ak 2 (b::a::some v::l) H Q:=⟨v,rfl,h⟩
def Zxe{b a:Option V}{y:Option V}{v:V}{l:St}{H:Hp}{Q:St->Hp->Prop}(h:Q (b::a::some v::l) H):aO 2 v (b::a::y::l) H Q:=h
def Zia{c b a:Option V}{v:V}{l:St}{H:Hp}{Q:VK}(h:Q v H):ak 3 (c::b::a::some v::l) H Q:=⟨v,rfl,h⟩
def Zef{c b a:Option V}{y:Option V}{v:V}{l:St}{H:Hp}{Q:St->Hp->Prop}(h:Q (c::b::a::some v::l) H):aO 3 v (c::b::a::y::l) H Q:=h
def ZB1{d c a b:Option V}{v:V}{l:St}{H:Hp}{Q:VK}(h:Q v H):ak 4 (d::c::a::b::some v::l) H Q:=⟨v,rfl,h⟩
def Zts{d c a b:Option V}{y:Option V}{v:V}{l:St}{H:Hp}{Q:St->Hp->Prop}(h:Q (d::c::a::b::some v::l) H):aO 4 v (d::c::a::b::y::l) H Q:=h
def ZB0{e d b c a:Option V}{v:V}{l:St}{H:Hp}{Q:VK}(h:Q v H):ak 5 (e::d::b::c::a::some v::l) H Q:=⟨v,rfl,h⟩
def ZBg{e d b c a:Option V}{y:Option V}{v:V}{l:St}{H:Hp}{Q:St->Hp->Prop}(h:Q (e::d::b::c::a::some v::l) H):aO 5 v (e::d::b::c::a::y::l) H Q:=h
def ZAz{f e c d b a:Option V}{v:V}{l:St}{H:Hp}{Q:VK}(h:Q v H):ak 6 (f::e::c::d::b::a::some v::l) H Q:=⟨v,rfl,h⟩
def ZBf{f e c d b a:Option V}{y:Option V}{v:V}{l:St}{H:Hp}{Q:St->Hp->Prop}(h:Q (f::e::c::d::b::a::some v::l) H):aO 6 v (f::e::c::d::b::a::y::l) H Q:=h
def ZAy{g e c d b a f:Option V}{v:V}{l:St}{H:Hp}{Q:VK}(h:Q v H):ak 7 (g::e::c::d::b::a::f::some v::l) H Q:=⟨v,rfl,h⟩
def ZBe{g e c d b a f:Option V}{y:Option V}{v:V}{l:St}{H:Hp}{Q:St->Hp->Prop}(h:Q (g::e::c::d::b::a::f::some v::l) H):aO 7 v (g::e::c::d::b::a::f::y::l) H Q:=h
def ZAx{i e c d b a g f:Option V}{v:V}{l:St}{H:Hp}{Q:VK}(h:Q v H):ak 8 (i::e::c::d::b::a::g::f::some v::l) H Q:=⟨v,rfl,h⟩
def ZBd{i e c d b a g f:Option V}{y:Option V}{v:V}{l:St}{H:Hp}{Q:St->Hp->Prop}(h:Q (i::e::c::d::b::a::g::f::some v::l) H):aO 8 v (i::e::c::d::b::a::g::f::y::l) H Q:=h
def ZAw{j e c d b a i f g:Option V}{v:V}{l:St}{H:Hp}{Q:VK}(h:Q v H):ak 9 (j::e::c::d::b::a::i::f::g::some v::l) H Q:=⟨v,rfl,h⟩
def ZBc{j e c d b a i f g:Option V}{y:Option V}{v:V}{l:St}{H:Hp}{Q:St->Hp->Prop}(h:Q (j::e::c::d::b::a::i::f::g::some v::l) H):aO 9 v (j::e::c::d::b::a::i::f::g::y::l) H Q:=h
end G
namespace G
open PySem L2
def aL{H:Hp}{p:Addr}(h:H p=none)(o:HO):aV H (upd H p o):=λb u q=>by rw[aC (aD q h)];exact q
def nwO{H b:Hp}{a:Addr}{o:HO}(n:H a=none)(h:upd H a o=b):aV H b/\b a=some o:=by
 subst h;exact⟨aL n o,aq⟩
def tyN(H:Hp):V->Option String
 | .non=>some "NoneType"
 | .bl _=>some "bool"
 | .int _=>some "int"
 | .str _=>some "str"
 | .ref a=>match H a with
  | some (.lst _)=>some "list"
  | some (.zK _ (.lst _))=>some "list"
  | some (.tup _)=>some "tuple"
  | some (.dK _)=>some "dict"
  | some (.dT _)=>some "dict"
  | _=>none
 | _=>none
def wC(t n:String):Option Bool:=if ["int","bool","str","list","tuple","dict"].contains n then some (t == n || (t == "bool" && n == "int"))else none
def NP:List V->Hp->VK->Prop:=λxs H Q=>∃x n t k,xs=[x,.ty n]/\tyN H x=some t/\wC t n=some k/\Q (.bl k) H
def Pn:wC "int" "int"=some true:=by decide +kernel
def JX:wC "int" "bool"=some false:=by decide +kernel
def Zec:wC "int" "str"=some false:=by decide +kernel
def Zav:wC "int" "list"=some false:=by decide +kernel
def V8:wC "int" "tuple"=some false:=by decide +kernel
def Zaw:wC "int" "dict"=some false:=by decide +kernel
def Zb0:wC "bool" "int"=some true:=by decide +kernel
def Wf:wC "bool" "bool"=some true:=by decide +kernel
def Zaz:wC "bool" "str"=some false:=by decide +kernel
def Wd:wC "bool" "list"=some false:=by decide +kernel
def Tw:wC "bool" "tuple"=some false:=by decide +kernel
def We:wC "bool" "dict"=some false:=by decide +kernel
def Zeb:wC "str" "int"=some false:=by decide +kernel
def Zas:wC "str" "bool"=some false:=by decide +kernel
def Pk:wC "str" "str"=some true:=by decide +kernel
def Zaq:wC "str" "list"=some false:=by decide +kernel
def V5:wC "str" "tuple"=some false:=by decide +kernel
def Zar:wC "str" "dict"=some false:=by decide +kernel
def Ni:wC "NoneType" "int"=some false:=by decide +kernel
def J1:wC "NoneType" "bool"=some false:=by decide +kernel
def Nh:wC "NoneType" "str"=some false:=by decide +kernel
def JZ:wC "NoneType" "list"=some false:=by decide +kernel
def HW:wC "NoneType" "tuple"=some false:=by decide +kernel
def J0:wC "NoneType" "dict"=some false:=by decide +kernel
def Zau:wC "list" "int"=some false:=by decide +kernel
def V7:wC "list" "bool"=some false:=by decide +kernel
def Zat:wC "list" "str"=some false:=by decide +kernel
def GK:wC "list" "list"=some true:=by decide +kernel
def Tu:wC "list" "tuple"=some false:=by decide +kernel
def V6:wC "list" "dict"=some false:=by decide +kernel
def V4:wC "tuple" "int"=some false:=by decide +kernel
def Tt:wC "tuple" "bool"=some false:=by decide +kernel
def V3:wC "tuple" "str"=some false:=by decide +kernel
def Tp:wC "tuple" "list"=some false:=by decide +kernel
def BW:wC "tuple" "tuple"=some true:=by decide +kernel
def Tq:wC "tuple" "dict"=some false:=by decide +kernel
def Zay:wC "dict" "int"=some false:=by decide +kernel
def Wc:wC "dict" "bool"=some false:=by decide +kernel
def Zax:wC "dict" "str"=some false:=by decide +kernel
def V9:wC "dict" "list"=some false:=by decide +kernel
def Tv:wC "dict" "tuple"=some false:=by decide +kernel
def Wb:wC "dict" "dict"=some true:=by decide +kernel
def Zif{i:Int}{H:Hp}{Q:VK}(h:Q (.bl true) H):NP [.int i,.ty "int"] H Q:=⟨_,_,_,_,rfl,rfl,Pn,h⟩
def Zee{i:Int}{H:Hp}{Q:VK}(h:Q (.bl false) H):NP [.int i,.ty "bool"] H Q:=⟨_,_,_,_,rfl,rfl,JX,h⟩
def Zie{i:Str}{H:Hp}{Q:VK}(h:Q (.bl true) H):NP [.str i,.ty "str"] H Q:=⟨_,_,_,_,rfl,rfl,Pk,h⟩
def Pq{a:Addr}{H:Hp}{Q:VK}{xs:List V}(hp:H a=some (.lst xs))(h:Q (.bl true) H):NP [.ref a,.ty "list"] H Q:=⟨_,_,_,_,rfl,(by show(match H a with | some (.lst _)=>some "list" | some (.zK _ (.lst _))=>some "list" | some (.tup _)=>some "tuple" | some (.dK _)=>some "dict" | some (.dT _)=>some "dict" | _=>none)=some "list";rw[hp]),GK,h⟩
def J8{a:Addr}{H:Hp}{Q:VK}{xs:List V}(hp:H a=some (.tup xs))(h:Q (.bl true) H):NP [.ref a,.ty "tuple"] H Q:=⟨_,_,_,_,rfl,(by show(match H a with | some (.lst _)=>some "list" | some (.zK _ (.lst _))=>some "list" | some (.tup _)=>some "tuple" | some (.dK _)=>some "dict" | some (.dT _)=>some "dict" | _=>none)=some "tuple";rw[hp]),BW,h⟩
def mq(K:aB):List V->Hp->VK->Prop:=λxs H Q=>∃p a,xs=[.ref p]/\(cj K H p a\/fZ K H p a)/\Q (.int a.length) H
def jG{K:aB}{a:Addr}{H:Hp}{Q:VK}{xs:List V}(hp:cj K H a xs)(h:Q (.int xs.length) H):mq K [.ref a] H Q:=⟨a,xs,rfl,.inl hp,h⟩
def iw{K:aB}{a:Addr}{H:Hp}{Q:VK}{xs:List V}{i:Int}{v:V}(hp:cj K H a xs)(b:Uy xs i=some v)(h:Q v H):mz K (.ref a) (.int i) H Q:=⟨a,xs,i,v,rfl,rfl,hp,b,h⟩
section
variable {K:aB}{a:Addr}{xs:List V}{g:TG}{tb:TS}{σ:St}{H:Hp}{n:St->Hp->Prop}{r:VK}
def forL(xs:List V)(Pv:Nat->St->Hp->Prop)(f:Pv 0 σ H)(hl:∀i σ H,i<=xs.length->Pv i σ H->cj K H a xs)
  (hs:∀i x σ H,xs[i]? =some x->Pv i σ H->g x σ H λb d=>tb ⟨Pv (i+1),r,n,Pv (i+1)⟩ b d) (hd:∀ σ H,Pv xs.length σ H->n σ H):
  ∃W:Nat->Nat->St->Hp->Prop,(∃m,W 0 m σ H)/\∀i m σ H,W i m σ H->
   ((Itl K a).stop i H/\n σ H)\/((Itl K a).go i H/\∃N:St->Hp->Prop,(∀ c H',N c H'->∃e,e<m/\W (i+1) e c H')/\∀x H',(Itl K a).yld i H x H'->g x σ H' λb d=>tb ⟨N,r,n,N⟩ b d):=
 Zqj (D:=⟨n,r,λ_ _=>False,λ_ _=>False⟩) Pv f hl hs hd
def forR{lo:Int}{k:Nat}(Pv:Nat->St->Hp->Prop)(e:Pv 0 σ H)
  (hs:∀i σ H,i<k->Pv i σ H->g (.int (lo+i)) σ H λa c=>tb ⟨Pv (i+1),r,n,Pv (i+1)⟩ a c) (hd:∀ σ H,Pv k σ H->n σ H):
  ∃W:Nat->Nat->St->Hp->Prop,(∃m,W 0 m σ H)/\∀i m σ H,W i m σ H->
   ((Itr lo k).stop i H/\n σ H)\/((Itr lo k).go i H/\∃N:St->Hp->Prop,(∀ b H',N b H'->∃d,d<m/\W (i+1) d b H')/\∀x H',(Itr lo k).yld i H x H'->g x σ H' λa c=>tb ⟨N,r,n,N⟩ a c):=
 Zmg (D:=⟨n,r,λ_ _=>False,λ_ _=>False⟩) Pv e hs hd
end
def aU{n:Nat}(h:n<=1000000):n<=sizeLine:=Nat.le_trans h (by decide)
end G
namespace G
open PySem L2
def Znw:R2:=λx y H Q=>∃i j,x=.str i/\y=.str j/\i.length+j.length<=sizeLine/\Q (.str (i++j)) H
def Zq1{i j:Str}{H:Hp}{Q:VK}(hz:i.length+j.length<=sizeLine)(h:Q (.str (i++j)) H):Znw (.str i) (.str j) H Q:=⟨i,j,rfl,rfl,hz,h⟩
def Zzn{z:Str}{i:Int}{c:Nat}{H:Hp}{Q:VK}(hz:z.length<=sizeLine)(a:Uy z.cps.toList i=some c)(h:Q (.str ⟨#[c]⟩) H):Znu (.str z) (.int i) H Q:=⟨z,i,c,rfl,rfl,hz,a,h⟩
def Zpx{z:Str}{i:Int}{H:Hp}{Q:VK}(hz:z.length<=sizeLine)(a:0<=i)(h1:i<z.length)(h:∀c:Nat,Q (.str ⟨#[c]⟩) H):Znu (.str z) (.int i) H Q:=by
 have hk:i.toNat<z.cps.toList.length:=by rw[Array.length_toList];exact(Int.toNat_lt a).mpr h1
 have b:i=((i.toNat:Nat):Int):=by omega
 have q:Uy z.cps.toList ((i.toNat:Nat):Int)=some z.cps.toList[i.toNat]:=iI (bK hk);rw[<- b]at q;exact Zzn hz q (h _)
def str_len(z:Str):z.cps.toList.length=z.length:=Array.length_toList
def pick(σ:St)(j:Nat):Option V:=match σ[j]? with
 | some v=>v
 | none=>none
def tLC(g:TI)(a:List Nat)(tc:TT)(h:TE):TE:=λσ H Q=>g σ H λJ f=>∃W:Nat->Nat->List V->Hp->Prop,(∃m,W 0 m [] f)/\∀i m b H,W i m b H->
 (J.stop i H/\∀p,H p=none->Q (.ref p) (upd H p (.lst b)))\/
 (J.go i H/\b.length<sizeLine/\∀x H',J.yld i H x H'->tc (some x::a.map (pick σ)) H' λk d=>if k=true then h (some x::a.map (pick σ)) d (λy e=>∃c,c<m/\W (i+1) c (b++[y]) e)else ∃c,c<m/\W (i+1) c b d)
def wI:TT:=λ_ H Q=>Q true H
def Bs{σ:St}{H:Hp}{Q:Bool->Hp->Prop}(h:Q true H):wI σ H Q:=h
def Ztt{r c:R2}{b d tc:TE}{σ:St}{H:Hp}{Q:VK}(h:b σ H λx g=>d σ g λy f=>r x y f (kB λk a=>if k=true then tc σ a (λw e=>c y w e Q)else Q (.bl false) a)):Zfy r c b d tc σ H Q:=h
end G
namespace G
open PySem L2
def Zl2(z:Str)(n:Int):Str:=⟨(List.replicate n.toNat z.cps.toList).flatten.toArray⟩
def Zjr:R2:=λx y H Q=>∃z k,x=.str z/\y=.int k/\0<=k/\k<=1000/\z.length<=1000/\∀t:Str,t.length<=1000000->t=Zl2 z k->Q (.str t) H
def Zpu{z:Str}{k:Int}{H:Hp}{Q:VK}(a:0<=k)(h1:k<=1000)(h2:z.length<=1000)(h:∀t:Str,t.length<=1000000->t=Zl2 z k->Q (.str t) H):Zjr (.str z) (.int k) H Q:=⟨z,k,rfl,rfl,a,h1,h2,h⟩
end G
namespace G
open PySem L2
structure EqD(K:aB)(C:Addr):Prop where
 eq:W.findIn K (.ref C) "__eq__"=some (some (.builtin "object.__eq__"))
 ob:W.mroIn K C (.type "object")=some true
end G
namespace G
open PySem L2
def KQ(C:Addr)(E:XK)(a:TA):TS:=λ_ σ H=>a σ H λvs b=>vs.length<=100/\E (.ref C) none b
def Zfz(sp:Sp)(wF:List V)(E:St->XK)(t:TA):TE:=λσ H Q=>t σ H λvs a=>sp (vs++wF) a Q (E σ)
def Zvg(c:Value->Prop)(d:(St->XK)->TS)(th:TS):TS:=λD σ H=>d (λb a _ H'=>c a/\th D b H') D σ H
section
variable {σ:St}{H:Hp}{Q:VK}{n:St->Hp->Prop}{r:VK}{b c:St->Hp->Prop}{te:TE}{t:TA}
def Zti{C:Addr}{E:XK}(h:t σ H λvs a=>vs.length<=100/\E (.ref C) none a):KQ C E t ⟨n,r,b,c⟩ σ H:=h
def Ztu{sp:Sp}{wF:List V}{E:St->XK}(h:t σ H λvs a=>sp (vs++wF) a Q (E σ)):Zfz sp wF E t σ H Q:=h
def Zzf{e:Value->Prop}{f:(St->XK)->TS}{th:TS}(h:f (λd a _ H'=>e a/\th ⟨n,r,b,c⟩ d H') ⟨n,r,b,c⟩ σ H):Zvg e f th ⟨n,r,b,c⟩ σ H:=h
end
def Zxd{to a:TE}{ts:Zmw}{x:V}{σ:St}{H:Hp}{Q:St->Hp->Prop}(h:to σ H λo d=>a σ d λi c=>ts o i x c λb=>Q σ b):TY to a ts x σ H Q:=h
def Ie(K:aB):List V->Hp->VK->Prop:=λxs H Q=>∃(p:Addr) (a:List V),xs=[.ref p]/\cj K H p a/\∀l,H l=none->Q (.ref l) (upd H l (.lst a))
def J4{K:aB}{H:Hp}{Q:VK}{p:Addr}{a:List V}(h1:cj K H p a)(h:∀l,H l=none->Q (.ref l) (upd H l (.lst a))):Ie K [.ref p] H Q:=⟨p,a,rfl,h1,h⟩
def OkN(K:aB)(H:Hp)(xs:List V):Prop:=∀y∈xs,y=.non\/∃a C dx fs,y=.ref a/\H a=some (.ins C dx fs)/\Hg K C/\EqD K C
def Zvy(K:aB)(a:Bool):R2:=λx y H Q=>∃p xs,x=.non/\y=.ref p/\cj K H p xs/\OkN K H xs/\Q (.bl (if a then !decide (V.non∈xs)else decide (V.non∈xs))) H
def Zpv{K:aB}{H:Hp}{Q:VK}{p:Addr}{xs:List V}(h1:cj K H p xs)(h2:OkN K H xs)(h:Q (.bl (!decide (V.non∈xs))) H):Zvy K true .non (.ref p) H Q:=⟨p,xs,rfl,rfl,h1,h2,h⟩
def Zjs(K:aB):V->List V->Hp->VK->Prop:=λx vs H Q=>∃p xs,x=.ref p/\vs=[.non]/\cj K H p xs/\OkN K H xs/\V.non∈xs/\Q (.int (xs.idxOf V.non)) H
def eqL(xs a:List V):Bool:=xs.length == a.length && (xs.zip a).all λp=>Yj p.1 p.2
def ZC(K:aB)(b:Bool):R2:=λx y H Q=>∃p q xs a,x=.ref p/\y=.ref q/\cj K H p xs/\cj K H q a/\(xs.length=a.length->xs.all qw=true/\a.all qw=true)/\Q (.bl (if b then !eqL xs a else eqL xs a)) H
def qu(ns:List Int):(ns.map V.int).all qw=true:=by
 rw[List.all_eq_true];intro x hx;obtain⟨i,_,rfl⟩:=List.mem_map.mp hx;rfl
def Zeq(ns:List Int):∀d:List Int,eqL (ns.map V.int) (d.map V.int)=decide (ns=d):=by
 induction ns with
 | nil=>
  intro d;cases d with
  | nil=>rfl
  | cons m d=>rfl
 | cons n ns h=>
  intro d;cases d with
  | nil=>rfl
  | cons m d=>
   have:=h d;unfold eqL at this ⊢;rw[List.map_cons,List.map_cons,List.zip_cons_cons,List.all_cons,List.length_cons,List.length_cons];have f:Yj (V.int n) (V.int m)=(n == m):=rfl;have g:((ns.map V.int).length+1 == (d.map V.int).length+1)=((ns.map V.int).length == (d.map V.int).length):=by
    rw[Bool.eq_iff_iff,beq_iff_eq,beq_iff_eq];omega
   dsimp only;rw[f,g];rw[Bool.eq_iff_iff]at this ⊢;simp only[Bool.and_eq_true,beq_iff_eq,decide_eq_true_eq]at this ⊢;constructor
   ·rintro⟨a,b,c⟩;rw[b,this.mp ⟨a,c⟩]
   ·intro e
    injection e with f g
    obtain⟨a,c⟩:=this.mpr g;exact⟨a,f,c⟩
def Zxf{K:aB}{H:Hp}{Q:VK}{p q:Addr}{ns a:List Int}(h1:cj K H p (ns.map V.int))(h2:cj K H q (a.map V.int))(h:Q (.bl (decide (ns=a))) H):ZC K false (.ref p) (.ref q) H Q:=by
 refine⟨p,q,_,_,rfl,rfl,h1,h2,λ_=>⟨qu _,qu _⟩,?_⟩;rw[Zeq];exact h
def Zx5{K:aB}{H:Hp}{Q:VK}{p q:Addr}{ns a:List Int}(h1:cj K H p (ns.map V.int))(h2:cj K H q (a.map V.int))(h:Q (.bl (!decide (ns=a))) H):ZC K true (.ref p) (.ref q) H Q:=by
 refine⟨p,q,_,_,rfl,rfl,h1,h2,λ_=>⟨qu _,qu _⟩,?_⟩;rw[Zeq];exact h
def Zpz{K:aB}{H:Hp}{Q:VK}{p q:Addr}{xs:List V}(h1:cj K H p xs)(h2:cj K H q [])(h:Q (.bl (decide (xs=[]))) H):ZC K false (.ref p) (.ref q) H Q:=by
 refine⟨p,q,_,_,rfl,rfl,h1,h2,λe=>?_,?_⟩
 ·have:xs=[]:=List.length_eq_zero_iff.mp e;subst this;exact⟨rfl,rfl⟩
 ·have e:eqL xs []=decide (xs=[]):=by cases xs<;>rfl
  show Q (.bl (eqL xs [])) H;rw[e];exact h
def Fm(S:List Addr)(H H':Hp):Prop:=∀b o,H b=some o->b∉S->H' b=some o
def Fm.same{H H':Hp}(a:Fm [] H H'):aV H H':=λc o h=>a c o h (λz=>nomatch z)
def fz(S:List Addr)(H:Hp):Hp:=λb=>if b∈S then none else H b
def Zic{x:V}{H:Hp}{Q:VK}(h:Q (.bl (!decide (x=.non))) H):Gv x .non H Q:=⟨rfl,h⟩
def LCg(J:It)(a:List Nat)(tc:TT)(f:TE)(σ:St)(H:Hp)(Q:VK):Prop:=∃W:Nat->Nat->List V->Hp->Prop,(∃m,W 0 m [] H)/\∀i m b H,W i m b H->
 (J.stop i H/\∀p,H p=none->Q (.ref p) (upd H p (.lst b)))\/
 (J.go i H/\b.length<sizeLine/\∀x H',J.yld i H x H'->tc (some x::a.map (pick σ)) H' λk d=>if k=true then f (some x::a.map (pick σ)) d (λy e=>∃c,c<m/\W (i+1) c (b++[y]) e)else ∃c,c<m/\W (i+1) c b d)
def J7{b:TI}{a:List Nat}{tc:TT}{c:TE}{σ:St}{H:Hp}{Q:VK}(h:b σ H λJ d=>LCg J a tc c σ d Q):tLC b a tc c σ H Q:=h
def Zpj{J:It}{a:List Nat}{tc:TT}{j:TE}{σ:St}{H:Hp}{Q:VK}(k:Nat)(hz:k<=1000000)(g:Nat->Option V)
  (b:J.stop k H) (f:∀i,i<k->J.go i H) (hy:∀i x H',i<k->J.yld i H x H'->H'=H/\(∀q:Bool->Hp->Prop,q (g i).isSome H->tc (some x::a.map (pick σ)) H q)/\∀(y:V) (q:VK),g i=some y->q y H->j (some x::a.map (pick σ)) H q)
  (q:∀p,H p=none->Q (.ref p) (upd H p (.lst ((List.range k).filterMap g)))):
  LCg J a tc j σ H Q:=by
 refine⟨λi m h H'=>H'=H/\i<=k/\m=k - i/\h=(List.range i).filterMap g,⟨k,rfl,Nat.zero_le _,rfl,rfl⟩,?_⟩;rintro i m h _ ⟨rfl,l,rfl,rfl⟩
 by_cases hk:i=k
 ·subst hk;exact .inl ⟨b,q⟩
 ·have c:i<k:=by omega
  refine .inr ⟨f i c,?_,λx H' y=>?_⟩
  ·refine Nat.lt_of_le_of_lt (Nat.le_trans (List.length_filterMap_le _ _) ?_) (show 1000000<sizeLine by decide);rw[List.length_range];omega
  ·obtain⟨rfl,h1,h2⟩:=hy i x H' c y;refine h1 _ ?_;have d:List.filterMap g (List.range (i+1))=List.filterMap g (List.range i)++(match g i with | some y=>[y] | none=>[]):=by
    rw[List.range_succ,List.filterMap_append];cases e:g i with
    | none=>rw[List.filterMap_cons_none e];rfl
    | some y=>rw[List.filterMap_cons_some e];rfl
   cases e:g i with
   | none=>
    rw[e]at d;dsimp only[Option.isSome];refine Zth ⟨k - (i+1),by omega,rfl,by omega,rfl,?_⟩;rw[d,List.append_nil]
   | some y=>
    rw[e]at d;dsimp only[Option.isSome];refine Zi8 (h2 y _ e ⟨k - (i+1),by omega,rfl,by omega,rfl,?_⟩);rw[d]
def Zb6(l:List Nat)(p:Nat->Bool)(f:Nat->V):l.filterMap (λi=>if p i=true then some (f i)else none)=(l.filter p).map f:=by
 induction l with
 | nil=>rfl
 | cons a l b=>
  by_cases h:p a=true
  ·rw[List.filterMap_cons_some (by rw[if_pos h]),List.filter_cons_of_pos h,List.map_cons,b]
  ·rw[List.filterMap_cons_none (by rw[if_neg h]),List.filter_cons_of_neg h,b]
def Zpk{a:List Nat}{tc:TT}{g:TE}{σ:St}{H:Hp}{Q:VK}{n:Nat}{z:Int}(m:z.toNat=n)(p:Nat->Bool)(f:Nat->V)(hz:n<=1000000)
  (c:∀i,i<n->∀q:Bool->Hp->Prop,q (p i) H->tc (some (.int i)::a.map (pick σ)) H q)
  (d:∀i,i<n->p i=true->∀q:VK,q (f i) H->g (some (.int i)::a.map (pick σ)) H q)
  (q:∀l,H l=none->Q (.ref l) (upd H l (.lst (((List.range n).filter p).map f)))):
  LCg (Itr 0 z.toNat) a tc g σ H Q:=by
 subst m;refine Zpj z.toNat hz (λi=>if p i=true then some (f i)else none) (Nat.le_refl _) (λi b=>b) (λi x H' b y=>?_) ?_
 ·obtain⟨h,k⟩:=y;have ex:x=.int i:=by rw[k];simp
  refine⟨h,λq hq=>?_,λy q hy hq=>?_⟩
  ·rw[ex];refine c i b q ?_;cases e:p i with
   | true=>rw[e]at hq;exact hq
   | false=>rw[e]at hq;exact hq
  ·rw[ex];cases e:p i with
   | true=>
    rw[e]at hy;have j:f i=y:=by simpa using hy
    exact d i b e q (by rw[j];exact hq)
   | false=>rw[e]at hy;simp at hy
 ·rw[Zb6];exact q
def QK{K:aB}{a:Addr}{xs:List V}{b:List Nat}{tc:TT}{d:TE}{σ:St}{H:Hp}{Q:VK}(hs:cj K H a xs)(g:Nat->Option V)(hz:xs.length<=1000000)
  (hy:∀i x,xs[i]? =some x->(∀q:Bool->Hp->Prop,q (g i).isSome H->tc (some x::b.map (pick σ)) H q)/\∀(y:V) (q:VK),g i=some y->q y H->d (some x::b.map (pick σ)) H q)
  (q:∀p,H p=none->Q (.ref p) (upd H p (.lst ((List.range xs.length).filterMap g)))):
  LCg (Itl K a) b tc d σ H Q:=by
 refine Zpj xs.length hz g ⟨xs,hs,Nat.le_refl _⟩ (λi c=>⟨xs,xs[i],hs,bK c⟩) (λi x H' c y=>?_) q;obtain⟨e,f⟩:=y;exact⟨e,hy i x (f xs hs)⟩
def tY{n i:Nat}(h:i<n):ixN n (i:Int)=some i:=by
 unfold ixN;rw[if_pos (by omega),if_pos (by omega)];simp
def Ztg{n:Nat}{i:Int}(a:0<=i)(h:i.toNat<n):ixN n i=some i.toNat:=by
 have e:i=((i.toNat:Nat):Int):=by omega
 have:=tY h;rw[<- e]at this;exact this
def rC{a:Type}{xs:List a}{i:Int}{v:a}(b:0<=i)(h:xs[i.toNat]? =some v):Uy xs i=some v:=by
 have e:i=((i.toNat:Nat):Int):=by omega
 have:=iI h;rw[<- e]at this;exact this
end G
namespace G
open PySem L2
inductive Al{α β:Type}(P:α->β->Prop):List α->List β->Prop
 | nil:Al P [] []
 | cons {x:α}{y:β}{xs:List α}{ys:List β}:P x y->Al P xs ys->Al P (x::xs) (y::ys)
section
variable {α β:Type}{P P':α->β->Prop}{xs:List α}{ys:List β}
def Al.length(h:Al P xs ys):xs.length=ys.length:=by
 induction h with
 | nil=>rfl
 | cons _ _ a=>rw[List.length_cons,List.length_cons,a]
def Al.mono(h:Al P xs ys)(f:∀x y,P x y->P' x y):Al P' xs ys:=by
 induction h with
 | nil=>exact .nil
 | cons p _ a=>exact .cons (f _ _ p) a
def Al.get(h:Al P xs ys):∀{i:Nat}{y:β},ys[i]? =some y->∃x,xs[i]? =some x/\P x y:=by
 induction h with
 | nil=>intro i y e;simp at e
 | cons p _ b=>
  intro i y e;cases i with
  | zero=>simp at e;subst e;exact⟨_,rfl,p⟩
  | succ i=>
   obtain⟨x,a,c⟩:=b (i:=i) (y:=y) (by simpa using e);exact⟨x,by simpa using a,c⟩
end
def Qq{c d:Type}(f:c->Option d):∀l:List c,(List.range l.length).filterMap (λi=>l[i]?.bind f)=l.filterMap f:=by
 intro l
 induction l with
 | nil=>rfl
 | cons a l g=>
  rw[List.length_cons,List.range_succ_eq_map];have e:List.filterMap (λi=>(a::l)[i]?.bind f) (List.map Nat.succ (List.range l.length))=l.filterMap f:=by
   rw[List.filterMap_map,<- g];congr 1
  cases h:f a with
  | none=>rw[List.filterMap_cons_none (by simpa using h),List.filterMap_cons_none h,e]
  | some b=>rw[List.filterMap_cons_some (b:=b) (by simpa using h),List.filterMap_cons_some h,e]
end G
namespace G
open PySem L2
abbrev Tg:=Addr->Nat×Nat
def WT(H:Hp)(T:Tg):Prop:=∀b,H b=none->T b=(0,0)
structure jw(s:Nat)(H H':Hp)(T T':Tg):Prop where
 kp:∀b o,H b=some o->(T b).1≠s->H' b=some o
 al:∀b o,H b=some o->∃o',H' b=some o'
 tg:∀b o,H b=some o->T' b=T b
 wt:WT H' T'
def kJ(T:Tg)(a:Addr)(v:Nat×Nat):Tg:=λx=>if x=a then v else T x
def jx{T:Tg}{a:Addr}{v:Nat×Nat}:kJ T a v a=v:=by unfold kJ;rw[if_pos rfl]
def mC{T:Tg}{a b:Addr}{v:Nat×Nat}(h:b≠a):kJ T a v b=T b:=by unfold kJ;rw[if_neg h]
def WT.same{H H':Hp}{T:Tg}(w:WT H T)(s:aV H H'):WT H' T:=λb h=>w b (s.free h)
def jw.refl{s:Nat}{H:Hp}{T:Tg}(w:WT H T):jw s H H T T:=⟨λ_ _ h _=>h,λ_ o h=>⟨o,h⟩,λ_ _ _=>rfl,w⟩
def jw.same{s:Nat}{H H':Hp}{T:Tg}(w:WT H T)(e:aV H H'):jw s H H' T T:=⟨λb o h _=>e b o h,λb o h=>⟨o,e b o h⟩,λ_ _ _=>rfl,w.same e⟩
def jw.trans{s:Nat}{H f d:Hp}{T e c:Tg}(a:jw s H f T e)(b:jw s f d e c):jw s H d T c where
 kp:=λx o h n=>b.kp x o (a.kp x o h n) (by rw[a.tg x o h];exact n)
 al:=λx o h=>by
  obtain⟨o1,h1⟩:=a.al x o h;exact b.al x o1 h1
 tg:=λx o h=>by
  obtain⟨o1,h1⟩:=a.al x o h;rw[b.tg x o1 h1,a.tg x o h]
 wt:=b.wt
def jw.upd{s:Nat}{H:Hp}{T:Tg}{a:Addr}{o c:HO}(w:WT H T)(f:H a=some o)(d:(T a).1=s):jw s H (L2.upd H a c) T T where
 kp:=λx u h n=>by
  have:x≠a:=λe=>n (by rw[e];exact d);rw[aC this];exact h
 al:=λx u h=>by
  by_cases e:x=a
  ·exact⟨c,by rw[e,aq]⟩
  ·exact⟨u,by rw[aC e];exact h⟩
 tg:=λ_ _ _=>rfl
 wt:=λb h=>w b (by
  by_cases e:b=a
  ·rw[e,aq]at h;cases h
  ·rw[aC e]at h;exact h)
def SN{T:Tg}{a b:Addr}{x y:Nat×Nat}(c:T a=x)(hb:T b=y)(h:x≠y):a≠b:=λe=>h (by rw[<- c,<- hb,e])
end G
namespace G
open PySem L2
def Zpl{J:It}{b:List Nat}{tc:TT}{o:TE}{σ:St}{H:Hp}{Q:VK}(k:Nat)(hz:k<=1000000)(R:Nat->V->Hp->Prop)(mono:∀i y a f,R i y a->aV a f->R i y f)
  (d:∀H',aV H H'->J.stop k H') (n:∀i H',i<k->aV H H'->J.go i H')
  (hy:∀i x a H',i<k->aV H a->J.yld i a x H'->H'=a/\(∀q:Bool->Hp->Prop,q true a->tc (some x::b.map (pick σ)) a q)/\∀q:VK,(∀y f,aV a f->R i y f->q y f)->o (some x::b.map (pick σ)) a q)
  (q:∀c H',aV H H'->c.length=k->(∀(i:Nat) y,c[i]? =some y->R i y H')->∀p,H' p=none->Q (.ref p) (upd H' p (.lst c))):
  LCg J b tc o σ H Q:=by
 refine⟨λi m c H'=>aV H H'/\i<=k/\m=k - i/\c.length=i/\∀(j:Nat) y,c[j]? =some y->R j y H',⟨k,aV.refl _,Nat.zero_le _,rfl,rfl,λj y e=>by simp at e⟩,?_⟩;rintro i m c a ⟨h,v,rfl,hl,hr⟩
 by_cases hk:i=k
 ·subst hk;exact .inl ⟨d a h,q c a h hl hr⟩
 ·have g:i<k:=by omega
  refine .inr ⟨n i a g h,Nat.lt_of_le_of_lt (show c.length<=1000000 by omega) (show 1000000<sizeLine by decide),λx H' y=>?_⟩;obtain⟨rfl,h1,h2⟩:=hy i x a H' g h y;refine h1 _ (Zi8 (h2 _ λy f s r=>⟨k - (i+1),by omega,h.trans s,by omega,rfl,by rw[List.length_append,hl];rfl,λj z e=>?_⟩))
  by_cases u:j<c.length
  ·rw[List.getElem?_append_left u]at e;exact mono j z _ _ (hr j z e) s
  ·have l:=(dH e).1;rw[List.length_append,List.length_singleton]at l;have t:j=c.length:=by omega
   subst t;rw[List.getElem?_append_right (Nat.le_refl _),Nat.sub_self]at e;cases e;rw[hl];exact r
def Zt7{b:List Nat}{tc:TT}{h:TE}{σ:St}{H:Hp}{Q:VK}{n:Nat}{z:Int}(m:z.toNat=n)(hz:n<=1000000)(R:Nat->V->Hp->Prop)(mono:∀i y a c,R i y a->aV a c->R i y c)
  (d:∀i a,∀q:Bool->Hp->Prop,q true a->tc (some (.int i)::b.map (pick σ)) a q)
  (g:∀(i:Nat) a,i<n->aV H a->∀q:VK,(∀y c,aV a c->R i y c->q y c)->h (some (.int i)::b.map (pick σ)) a q)
  (q:∀f H',aV H H'->f.length=n->(∀(i:Nat) y,f[i]? =some y->R i y H')->∀p,H' p=none->Q (.ref p) (upd H' p (.lst f))):LCg (Itr 0 z.toNat) b tc h σ H Q:=by
 subst m;refine Zpl z.toNat hz R mono (λ_ _=>Nat.le_refl _) (λi _ e _=>e) (λi x a H' e k y=>?_) q;obtain⟨j,l⟩:=y;have ex:x=.int i:=by rw[l];simp
 subst ex;exact⟨j,d i a,λq hq=>g i a e k q hq⟩
def Zt8{J:It}{d:List Nat}{tc:TT}{A:TE}{σ:St}{H:Hp}{Q:VK}(k:Nat)(hz:k<=1000000)(R:Nat->Addr->Hp->Prop)(mono:∀i y c g,R i y c->aV c g->R i y g)(al:∀i y c,R i y c->∃o,c y=some o)
  (f:∀H',aV H H'->J.stop k H') (t:∀i H',i<k->aV H H'->J.go i H')
  (hy:∀i x c H',i<k->aV H c->J.yld i c x H'->H'=c/\(∀q:Bool->Hp->Prop,q true c->tc (some x::d.map (pick σ)) c q)/\∀q:VK,(∀r g,aV c g->c r=none->R i r g->q (.ref r) g)->A (some x::d.map (pick σ)) c q)
  (q:∀(rs:List Addr) H',aV H H'->rs.length=k->rs.Nodup->(∀r∈rs,H r=none)->(∀(i:Nat) r,rs[i]? =some r->R i r H')->∀p,H' p=none->Q (.ref p) (upd H' p (.lst (rs.map V.ref)))):
  LCg J d tc A σ H Q:=by
 refine⟨λi m D H'=>∃rs:List Addr,D=rs.map V.ref/\aV H H'/\i<=k/\m=k - i/\rs.length=i/\rs.Nodup/\(∀r∈rs,H r=none)/\∀(j:Nat) r,rs[j]? =some r->R j r H',⟨k,[],rfl,aV.refl _,Nat.zero_le _,rfl,rfl,List.nodup_nil,λr hr=>(nomatch hr),λj y e=>by simp at e⟩,?_⟩;rintro i m _ c ⟨rs,rfl,h,I,rfl,hl,nd,w,hr⟩
 by_cases hk:i=k
 ·subst hk;exact .inl ⟨f c h,q rs c h hl nd w hr⟩
 ·have l:i<k:=by omega
  refine .inr ⟨t i c l h,Nat.lt_of_le_of_lt (show(rs.map V.ref).length<=1000000 by rw[aX];omega) (show 1000000<sizeLine by decide),λx H' y=>?_⟩;obtain⟨rfl,h1,h2⟩:=hy i x c H' l h y;refine h1 _ (Zi8 (h2 _ λr g C B E=>⟨k - (i+1),by omega,rs++[r],by rw[List.map_append];rfl,h.trans C,by omega,rfl,by rw[List.length_append,hl];rfl,?_,λz hz=>?_,λj z e=>?_⟩))
  ·rw[List.nodup_append];refine⟨nd,by simp,λa F b hb e=>?_⟩;rw[List.mem_singleton.mp hb]at e;subst e;obtain⟨j,u,n⟩:=List.getElem_of_mem F;obtain⟨o,v⟩:=al j a _ (hr j a (by rw[bK u,n]));rw[B]at v;cases v
  ·rcases List.mem_append.mp hz with hz | hz
   ·exact w z hz
   ·rw[List.mem_singleton.mp hz];exact h.free B
  ·by_cases u:j<rs.length
   ·rw[List.getElem?_append_left u]at e;exact mono j z _ _ (hr j z e) C
   ·have s:=(dH e).1;rw[List.length_append,List.length_singleton]at s;have n:j=rs.length:=by omega
    subst n;rw[List.getElem?_append_right (Nat.le_refl _),Nat.sub_self]at e;cases e;rw[hl];exact E
def Tf{K:aB}{a:Addr}{xs:List V}{c:List Nat}{tc:TT}{h:TE}{σ:St}{H:Hp}{Q:VK}(hs:cj K H a xs)(hz:xs.length<=1000000)(R:Nat->Addr->Hp->Prop)(mono:∀i y b d,R i y b->aV b d->R i y d)(al:∀i y b,R i y b->∃o,b y=some o)
  (e:∀x b,∀q:Bool->Hp->Prop,q true b->tc (some x::c.map (pick σ)) b q)
  (f:∀(i:Nat) x b,xs[i]? =some x->aV H b->∀q:VK,(∀r d,aV b d->b r=none->R i r d->q (.ref r) d)->h (some x::c.map (pick σ)) b q)
  (q:∀(rs:List Addr) H',aV H H'->rs.length=xs.length->rs.Nodup->(∀r∈rs,H r=none)->(∀(i:Nat) r,rs[i]? =some r->R i r H')->∀p,H' p=none->Q (.ref p) (upd H' p (.lst (rs.map V.ref)))):LCg (Itl K a) c tc h σ H Q:=by
 refine Zt8 xs.length hz R mono al (λH' s=>⟨xs,s.seq hs,Nat.le_refl _⟩) (λi H' g s=>⟨xs,xs[i],s.seq hs,bK g⟩) (λi x b H' g j y=>?_) q;obtain⟨k,l⟩:=y;exact⟨k,e x b,λq hq=>f i x b (l xs (j.seq hs)) j q hq⟩
end G
namespace G
open PySem L2 PySem.Spec PyProof.Rows
def boot_isinstance:bootBuiltins "isinstance"=some (.builtin "isinstance"):=by decide +kernel
def boot_len:bootBuiltins "len"=some (.builtin "len"):=by decide +kernel
def boot_int:bootBuiltins "int"=some (.type "int"):=by decide +kernel
def boot_str:bootBuiltins "str"=some (.type "str"):=by decide +kernel
def boot_bool:bootBuiltins "bool"=some (.type "bool"):=by decide +kernel
def boot_list:bootBuiltins "list"=some (.type "list"):=by decide +kernel
def boot_tuple:bootBuiltins "tuple"=some (.type "tuple"):=by decide +kernel
structure Zyl(K:aB)(x qual:Str)(st:Stmt)(f:Addr)(fd:FuncData):Prop where
 ex:∃(oc:Value) (od:Option Addr) (dV kV doc pm:Value) (an:Option Addr) (cdv ct:Value) (osl:Array (Option Value)),
  fd=W.fnOf x qual (nW st) (lD st) (aG st) dV kV doc pm an cdv ct/\K.lookup f=some ⟨oc,od,.func fd,osl⟩/\W.codeIn K cdv qual=true
 kp:W.keepIn K (.ref f)=true
section
variable {P:Program}{w:World}{K:aB}{mg:Str->Option Value}{base:Heap}
def Zu6{x a:Str}{st:Stmt}{f:Addr}{oc dV:Value}{od g:Option Addr}{e:Array (Option Value)}{kV d h b ct:Value}(l:K.lookup f=some ⟨oc,od,.func (W.fnOf x a (nW st) (lD st) (aG st) dV kV d h g b ct),e⟩)
  (c:W.codeIn K b a=true) (k:W.keepIn K (.ref f)=true):Zyl K x a st f (W.fnOf x a (nW st) (lD st) (aG st) dV kV d h g b ct):=⟨⟨oc,od,dV,kV,d,h,g,b,ct,e,rfl,l,c⟩,k⟩
def Zjc{f c:Addr}{oc tc:Value}{od b:Option Addr}{d ts:Array (Option Value)}{fd:FuncData}{a:Array Value}{tn:Nat}{ps:List Str}{ds:List Value}(_:K.lookup f=some ⟨oc,od,.func fd,d⟩)(t:K.lookup c=some ⟨tc,b,.seq a tn,ts⟩)
  (h:∀us:List Value,us.length+ds.length=ps.length->∃k,bindArgs fd ⟨us,[]⟩=seqItems? (.ref c) >>= k/\k (some a)=pure (ps.zip (us++ds))) (hd:fd.defaults=.ref c:=by rfl):Binds K fd ps ds:=by
 intro s us e hl;obtain⟨k,h1,h2⟩:=h us (by rw[List.length_append]at hl;exact hl);exact BindsTo.of_defaults hd (e _ _ t) rfl (by rw[h1,hd]) h2
end
section
variable {X:Cx}
def Fz:zA X (compareOp .Is) Vo:=Zw5
def Eh:zA X (compareOp .IsNot) Gv:=Zsp
def cZ:PJ X (.builtin "len") (mq X.K):=Zbo
def kk(t n:String):Option Bool:=if (Value.type t == Value.type n)=true then some true else if W.kitMeta n=true then(fastBuiltinMro t).map (·.contains (.type n))else none
def Zwq(K:aB)(t n:String):W.kitOne K (.type t) (.type n)=kk t n:=rfl
def Zi6:kk "int" "int"=some true:=by decide +kernel
def Ze6:kk "int" "bool"=some false:=by decide +kernel
def Zi5:kk "int" "str"=some false:=by decide +kernel
def Ze4:kk "int" "list"=some false:=by decide +kernel
def Zai:kk "int" "tuple"=some false:=by decide +kernel
def Ze5:kk "int" "dict"=some false:=by decide +kernel
def Zea:kk "bool" "int"=some true:=by decide +kernel
def Zao:kk "bool" "bool"=some true:=by decide +kernel
def Ze9:kk "bool" "str"=some false:=by decide +kernel
def Zam:kk "bool" "list"=some false:=by decide +kernel
def V0:kk "bool" "tuple"=some false:=by decide +kernel
def Zan:kk "bool" "dict"=some false:=by decide +kernel
def Zi4:kk "str" "int"=some false:=by decide +kernel
def Ze1:kk "str" "bool"=some false:=by decide +kernel
def Zi3:kk "str" "str"=some true:=by decide +kernel
def Zdz:kk "str" "list"=some false:=by decide +kernel
def Zae:kk "str" "tuple"=some false:=by decide +kernel
def Ze0:kk "str" "dict"=some false:=by decide +kernel
def Qo:kk "NoneType" "int"=some false:=by decide +kernel
def M6:kk "NoneType" "bool"=some false:=by decide +kernel
def Qn:kk "NoneType" "str"=some false:=by decide +kernel
def MT:kk "NoneType" "list"=some false:=by decide +kernel
def JT:kk "NoneType" "tuple"=some false:=by decide +kernel
def M5:kk "NoneType" "dict"=some false:=by decide +kernel
def Ze3:kk "list" "int"=some false:=by decide +kernel
def Zah:kk "list" "bool"=some false:=by decide +kernel
def Ze2:kk "list" "str"=some false:=by decide +kernel
def Zaf:kk "list" "list"=some true:=by decide +kernel
def VP:kk "list" "tuple"=some false:=by decide +kernel
def Zag:kk "list" "dict"=some false:=by decide +kernel
def Zad:kk "tuple" "int"=some false:=by decide +kernel
def VN:kk "tuple" "bool"=some false:=by decide +kernel
def Zac:kk "tuple" "str"=some false:=by decide +kernel
def VL:kk "tuple" "list"=some false:=by decide +kernel
def Th:kk "tuple" "tuple"=some true:=by decide +kernel
def VM:kk "tuple" "dict"=some false:=by decide +kernel
def Ze8:kk "dict" "int"=some false:=by decide +kernel
def Zal:kk "dict" "bool"=some false:=by decide +kernel
def Ze7:kk "dict" "str"=some false:=by decide +kernel
def Zaj:kk "dict" "list"=some false:=by decide +kernel
def VR:kk "dict" "tuple"=some false:=by decide +kernel
def Zak:kk "dict" "dict"=some true:=by decide +kernel
def Zvc{H:Hp}{x:V}{t:String}(e:tyN H x=some t):t="int"\/t="bool"\/t="str"\/t="NoneType"\/t="list"\/t="tuple"\/t="dict":=by
 unfold tyN at e;split at e<;>(first | (cases e;simp) | (split at e<;>(first | (cases e;simp) | cases e)) | cases e)
def Zwx{t n:String}{k:Bool}(e:wC t n=some k):n="int"\/n="bool"\/n="str"\/n="list"\/n="tuple"\/n="dict":=by
 unfold wC at e
 by_cases h:(["int","bool","str","list","tuple","dict"].contains n)=true
 ·simpa using h
 ·rw[if_neg h]at e;cases e
def Zz9{H:Hp}{x:V}{t n:String}{k:Bool}(a:tyN H x=some t)(e:wC t n=some k):kk t n=some k:=by
 rcases Zvc a with rfl | rfl | rfl | rfl | rfl | rfl | rfl<;>rcases Zwx e with rfl | rfl | rfl | rfl | rfl | rfl
 ·rw[Pn]at e;rw[Zi6];exact e
 ·rw[JX]at e;rw[Ze6];exact e
 ·rw[Zec]at e;rw[Zi5];exact e
 ·rw[Zav]at e;rw[Ze4];exact e
 ·rw[V8]at e;rw[Zai];exact e
 ·rw[Zaw]at e;rw[Ze5];exact e
 ·rw[Zb0]at e;rw[Zea];exact e
 ·rw[Wf]at e;rw[Zao];exact e
 ·rw[Zaz]at e;rw[Ze9];exact e
 ·rw[Wd]at e;rw[Zam];exact e
 ·rw[Tw]at e;rw[V0];exact e
 ·rw[We]at e;rw[Zan];exact e
 ·rw[Zeb]at e;rw[Zi4];exact e
 ·rw[Zas]at e;rw[Ze1];exact e
 ·rw[Pk]at e;rw[Zi3];exact e
 ·rw[Zaq]at e;rw[Zdz];exact e
 ·rw[V5]at e;rw[Zae];exact e
 ·rw[Zar]at e;rw[Ze0];exact e
 ·rw[Ni]at e;rw[Qo];exact e
 ·rw[J1]at e;rw[M6];exact e
 ·rw[Nh]at e;rw[Qn];exact e
 ·rw[JZ]at e;rw[MT];exact e
 ·rw[HW]at e;rw[JT];exact e
 ·rw[J0]at e;rw[M5];exact e
 ·rw[Zau]at e;rw[Ze3];exact e
 ·rw[V7]at e;rw[Zah];exact e
 ·rw[Zat]at e;rw[Ze2];exact e
 ·rw[GK]at e;rw[Zaf];exact e
 ·rw[Tu]at e;rw[VP];exact e
 ·rw[V6]at e;rw[Zag];exact e
 ·rw[V4]at e;rw[Zad];exact e
 ·rw[Tt]at e;rw[VN];exact e
 ·rw[V3]at e;rw[Zac];exact e
 ·rw[Tp]at e;rw[VL];exact e
 ·rw[BW]at e;rw[Th];exact e
 ·rw[Tq]at e;rw[VM];exact e
 ·rw[Zay]at e;rw[Ze8];exact e
 ·rw[Wc]at e;rw[Zal];exact e
 ·rw[Zax]at e;rw[Ze7];exact e
 ·rw[V9]at e;rw[Zaj];exact e
 ·rw[Tv]at e;rw[VR];exact e
 ·rw[Wb]at e;rw[Zak];exact e
def tyOf{K:aB}{H:Hp}{x:V}{t:String}(e:tyN H x=some t):NQ K H x (.type t):=by
 cases x with
 | non=>cases e;exact .non
 | bl y=>cases e;exact .bl y
 | int y=>cases e;exact .int y
 | str y=>cases e;exact .str y
 | byt y=>cases e
 | flt y=>cases e
 | ty y=>cases e
 | ref a=>
  have b:(match H a with | some (.lst _)=>some "list" | some (.zK _ (.lst _))=>some "list" | some (.tup _)=>some "tuple" | some (.dK _)=>some "dict" | some (.dT _)=>some "dict" | _=>none)=some t:=e;split at b
  ·rename_i h;cases b;exact .lst h
  ·rename_i h;cases b;exact .zK h
  ·rename_i h;cases b;exact .tup h
  ·rename_i h;cases b;exact .dK h
  ·rename_i h;cases b;exact .dT h
  ·cases b
def vU:PJ X (.builtin "isinstance") NP:=by
 intro d s σ H xs us Q I r h;obtain⟨x,n,t,k,rfl,c,hk,q⟩:=h;obtain⟨u,g,rfl,e,f⟩:=vals2 r;have a:g=Value.type n:=f;subst a;exact Zlv (t:=.type t) (b:=k) I e (tyOf c) ((Zwq _ _ _).trans (Zz9 c hk)) λtk=>⟨.bl k,H,I.tok _,rfl,q⟩
end
end G
namespace G
open PySem L2 PySem.Spec PyProof.Rows
section
variable {X:Cx}
def GC(mg:Str->Option Value)(x:Str)(v:V):Prop:=∃u,mg x=some u/\RelV v u
def GC.pe{x:Str}{v:V}{a:Pos}(h:GC X.mg x v)(b:Gl X x)(hd:(x == ("__debug__":Str))=false:=by decide):PE X (.Name x a) (tC v):=by
 obtain⟨u,hm,r⟩:=h;exact Zsm b hm r hd
end
end G
namespace G
open PySem L2 PySem.Spec PyProof.Rows
section
variable {X:Cx}
def Zt4(z:Str)(k:Int):Txt.mul z k=Zl2 z k:=by
 unfold Txt.mul Zl2;have fl:∀(n:Nat) (acc:List Nat),List.foldl (λc a=>c++a) acc.toArray (List.replicate n z.cps)=(acc++(List.replicate n z.cps.toList).flatten).toArray:=by
  intro n
  induction n with
  | zero=>intro acc;simp
  | succ n b=>
   intro acc;rw[List.replicate_succ,List.replicate_succ,List.foldl_cons,List.flatten_cons];have e:acc.toArray++z.cps=(acc++z.cps.toList).toArray:=by simp
   rw[e,b,List.append_assoc]
 split
 ·rename_i h
  have e:k.toNat=0:=by omega
  rw[e];rfl
 ·rename_i h
  split
  ·rename_i h2
   rw[Bool.or_eq_true]at h2;rcases h2 with h2 | h2
   ·have e:k.toNat=1:=by have:=beq_iff_eq.mp h2;omega
    rw[e];simp
   ·have e:z.cps=#[]:=Array.eq_empty_of_size_eq_zero (beq_iff_eq.mp h2);obtain⟨d⟩:=z;dsimp only at e;subst e;have:∀n:Nat,(List.replicate n ([]:List Nat)).flatten=[]:=λn=>by
     induction n with
     | zero=>rfl
     | succ n b=>rw[List.replicate_succ,List.flatten_cons,b];rfl
    simp[this]
  ·have:=fl k.toNat [];simp only[List.nil_append]at this;show(⟨List.foldl (λc a=>c++a) #[] (List.replicate k.toNat z.cps)⟩:Str)=_;rw[this]
def RP(z:Str)(k:Int):(Zl2 z k).length=k.toNat * z.length:=by
 show(List.toArray _).size=_;rw[List.size_toArray];have:∀n:Nat,(List.replicate n z.cps.toList).flatten.length=n * z.length:=λn=>by
  induction n with
  | zero=>simp
  | succ n a=>rw[List.replicate_succ,List.flatten_cons,List.length_append,a,str_len,Nat.succ_mul,Nat.add_comm]
 exact this _
def Zju:zA X (binaryOp .Mult) Zjr:=by
 intro a s σ H x y v u Q I c b h;obtain⟨z,k,rfl,rfl,f,h1,h2,q⟩:=h;obtain⟨t,rfl⟩:=c;obtain⟨t',rfl⟩:=b;have hb:k.toNat * z.length<=1000000:=Nat.le_trans (Nat.mul_le_mul (show k.toNat<=1000 by omega) h2) (by decide);refine SB.mul ⟨?_,λh3 _=>?_,λh3 _=>?_⟩ λd kk=>?_
 ·simp;omega
 ·intro z1;have:(z.length:Int)<=1000:=by omega
  have e:(1000:Int)<(2 ^ 63 - 1) / k:=by
   have hk:0<k:=by omega
   rw[Int.lt_iff_add_one_le,Int.le_ediv_iff_mul_le hk];omega
  omega
 ·unfold Builtin.Str.tooLong;have:z.length * k.toNat<=1000000:=by rw[Nat.mul_comm];exact hb
  simp;exact Nat.le_trans this (by decide)
 ·rw[Zt4];exact⟨.str (Zl2 z k),H,I.tok _,⟨_,rfl⟩,q _ (by rw[RP];exact hb) rfl⟩
end
end G
namespace G
open PySem L2
end G
namespace G
open PySem L2 PySem.Spec PyProof.Rows
section
variable {X:Cx}{pins:List (Addr×Obj)}{σ:L2.St}{H:Hp}{s:Shared}{acc:Addr}{ys:List V}{its:List Value}{n:Nat}
def adopt(I:Inv X pins σ H s)(g:rH X pins H acc)(a:s.heap.get? acc=some { cls:=.type "list",data:=.seq its.toArray n })(hv:Vals ys its)(hz:ys.length<=sizeLine):Inv X pins σ (upd H acc (.lst ys)) s:=by
 obtain⟨h,i,l,k,d,f⟩:=g;have ne:∀b u,H b=some u->b≠acc:=λb u e=>aD e h;refine I.step (h':=s.heap) (g':=s.gens) (t':=s.toks) (d':=s.drawn) (ch:=[acc]) (λb hb=>?_) (λ_ _ _ _ _ e _=>e) (λb o _ _ _ e _=>⟨o.slots,e⟩) (λb o hb e j=>?_) (λb o _ e=>⟨o,e⟩)
  (λb xs e=>by rw[aC (ne b _ e)];exact e) (λb o u e=>by rw[aC (ne b _ e)];exact e) (λb ps e=>⟨#[],by rw[aC (ne b _ e),e];simp⟩) (λm hm=>hm) (λb u e=>?_) I.bare
 ·have e:b=acc:=by simpa using hb
  subst e;exact⟨k,i,d,f⟩
 ·have e:b≠acc:=by simpa using hb
  rw[aC e];exact j
 ·by_cases hb:b=acc
  ·subst hb;rw[aq]at e;cases e;exact⟨hz,its,n,hv,a⟩
  ·rw[aC hb]at e;exact(I.hok b u e).stay (λ_ _ _ q=>q) (λc q=>by rw[aC (ne c _ q)];exact q) λc xs q=>by rw[aC (ne c _ q)];exact q
def disown(I:Inv X pins σ (upd H acc (.lst ys)) s)(h:rH X pins H acc):Inv X pins σ H s:=by
 obtain⟨i,j,n,l,f,g⟩:=h;have back:∀b u,upd H acc (.lst ys) b=some u->u≠.lst ys->H b=some u:=λb u e a=>by
  by_cases hb:b=acc
  ·subst hb;rw[aq]at e;cases e;exact absurd rfl a
  ·rw[aC hb]at e;exact e
 refine I.step (h':=s.heap) (g':=s.gens) (t':=s.toks) (d':=s.drawn) (ch:=[acc]) (λb hb=>?_) (λ_ _ _ _ _ e _=>e) (λb o _ _ _ e _=>⟨o.slots,e⟩) (λb o hb e d=>?_) (λb o _ e=>⟨o,e⟩)
  (λb xs e=>back b _ e (λz=>nomatch z)) (λb o u e=>back b _ e (λz=>nomatch z)) (λb ps e=>⟨#[],by rw[back b _ e (λz=>nomatch z)];simp⟩) (λm hm=>hm) (λb u e=>?_) I.bare
 ·have e:b=acc:=by simpa using hb
  subst e;exact⟨l,j,f,g⟩
 ·have e:b≠acc:=by simpa using hb
  rw[aC e]at d;exact d
 ·have hb:b≠acc:=aD e i;have k:upd H acc (.lst ys) b=some u:=by rw[aC hb];exact e
  exact(I.hok b u k).stay (λ_ _ _ q=>q) (λc q=>back c _ q (λz=>nomatch z)) λc xs q=>back c _ q (λz=>nomatch z)
end
def PF(X:Cx)(b:List Expr)(t:TT):Prop:=
 ∀(a:List (Addr×Obj)) (s:Shared) (σ:L2.St) (H:Hp) (Q:Bool->Hp->Prop),Inv X a σ H s->t σ H Q->
  wpAny (model X.prog X.w) X.A (forIn b true λc r=>if r=true then do let ok <- isTrue c X.env (eval c X.env);pure (ForInStep.yield ok)else pure (ForInStep.yield r)) (TP X a σ Q) X.xe s
def Dy{X:Cx}:PF X [] wI:=λ_ _ _ H _ I h=>wpAny_tests_nil ⟨H,I,h⟩
def ZK{X:Cx}{c:Expr}{t:TT}(h:PT X c t):PF X [c] t:=λa s σ H Q I q=>wpAny_tests_one (h a s σ H Q I q)
def Uh(X:Cx)(a:Scope)(cl:List (Str×Addr))(N:List Str)(C:Addr)(s:Shared)(H:Hp)(ex:List Addr)(pn:List (Addr×Obj)):Cx:=
 { X with N:=N,s₀:=s,H₀:=H,env:=compEnvC a cl C X.env,outer:=X.stack,ex:=ex,fn:=λ_=>false,pn:=pn,xe:=λ_ _=>False }
def AllIn(cells:List (Str×Addr)):List (Str×Addr)->Prop
 | []=>True
 | p::r=>cells.lookup p.1=some p.2/\AllIn cells r
def AllIn.get{cells:List (Str×Addr)}:∀{cl:List (Str×Addr)},AllIn cells cl->∀{x:Str}{c:Addr},cl.lookup x=some c->cells.lookup x=some c
 | [],_,x,c,h=>by cases h
 | (y,d)::r,a,x,c,h=>by
  cases e:(x == y)with
  | true=>
   rw[List.lookup_cons,e]at h;have b:x=y:=beq_iff_eq.mp e;subst b;cases h;exact a.1
  | false=>
   rw[List.lookup_cons,e]at h;exact AllIn.get a.2 h
def Fp(X:Cx):List Str->List Nat->Prop
 | [],[]=>True
 | y::r,j::js=>X.N[j]? =some y/\X.env.kindOf y=some .cell/\Fp X r js
 | _,_=>False
def Fp.len{X:Cx}:∀{ns:List Str}{js:List Nat},Fp X ns js->ns.length=js.length
 | [],[],_=>rfl
 | [],_::_,h=>h.elim
 | _::_,[],h=>h.elim
 | _::r,_::js,h=>by rw[List.length_cons,List.length_cons,Fp.len h.2.2]
def Fp.get{X:Cx}{σ:L2.St}:∀{ns:List Str}{js:List Nat},Fp X ns js->∀{i:Nat}{x:Str}{v:V},ns[i]? =some x->(js.map (pick σ))[i]? =some (some v)->∃j:Nat,X.N[j]? =some x/\X.env.kindOf x=some .cell/\σ[j]? =some (some v)
 | [],_,_,i,x,v,h,_=>by simp at h
 | _::_,[],h,_,_,_,_,_=>h.elim
 | y::r,j::js,h,0,x,v,h1,h2=>by
  simp at h1 h2;subst h1;refine⟨j,h.1,h.2.1,?_⟩;unfold pick at h2;split at h2
  ·rename_i e;rw[e,h2]
  ·cases h2
 | y::r,j::js,h,i+1,x,v,h1,h2=>Fp.get (i:=i) h.2.2 (by simpa using h1) (by simpa using h2)
def Zpf{x n:Str}{k:NameKind}{r:List (Str×NameKind)}(h:(x == n)=false):List.lookup x ((n,k)::r)=List.lookup x r:=by rw[List.lookup_cons,h]
def Zpg{x n:Str}{k:NameKind}{r:List (Str×NameKind)}(h:(x == n)=true):List.lookup x ((n,k)::r)=some k:=by rw[List.lookup_cons,h]
def Dn(env:Env)(x:Str)(k:NameKind):NameKind:=if (k == NameKind.free && env.scope.kind == .function && env.kindOf x == some .cell)=true then .cell else k
def oJ{env:Env}{x:Str}:∀{names:List (Str×NameKind)},
  (names.map λ(n,k)=>if (k == NameKind.free && env.scope.kind == .function && env.kindOf n == some .cell)then(n,NameKind.cell)else(n,k)).lookup x=(names.lookup x).map (Dn env x)
 | []=>rfl
 | (n,a)::r=>by
  have b:=@oJ env x r;show List.lookup x ((if (a == NameKind.free && env.scope.kind == .function && env.kindOf n == some .cell)=true then(n,NameKind.cell)else(n,a))::r.map λ(n,k)=>if (k == NameKind.free && env.scope.kind == .function && env.kindOf n == some .cell)then(n,NameKind.cell)else(n,k))=_;cases hx:x == n with
  | true=>
   have e:=beq_iff_eq.mp hx;subst e;rw[Zpg (k:=a) hx]
   by_cases hc:(a == NameKind.free && env.scope.kind == .function && env.kindOf x == some .cell)=true
   ·rw[if_pos hc,Zpg hx];show some NameKind.cell=some (Dn env x a);unfold Dn;rw[if_pos hc]
   ·rw[if_neg hc,Zpg hx];show some a=some (Dn env x a);unfold Dn;rw[if_neg hc]
  | false=>
   rw[Zpf (k:=a) (r:=r) hx]
   by_cases hc:(a == NameKind.free && env.scope.kind == .function && env.kindOf n == some .cell)=true
   ·rw[if_pos hc,Zpf hx];exact b
   ·rw[if_neg hc,Zpf hx];exact b
def lookup_all{names:List (Str×NameKind)}{p:Str×NameKind->Bool}:∀{x:Str}{k:NameKind},names.all p=true->names.lookup x=some k->p (x,k)=true:=by
 induction names with
 | nil=>intro x k _ h;simp at h
 | cons y r d=>
  intro x k a h;obtain⟨n,b⟩:=y;rw[List.all_cons,Bool.and_eq_true]at a;cases hx:x == n with
  | true=>
   rw[List.lookup_cons,hx]at h;have c:x=n:=beq_iff_eq.mp hx;have e:b=k:=Option.some.inj h;rw[c,<- e];exact a.1
  | false=>
   rw[List.lookup_cons,hx]at h;exact d a.2 h
def Pu{prog:Program}{w:World}{A:Around}{R:Result->Shared->Prop}{s:Shared}{q a iter:Expr}{o:List Expr}{d:Scope}{t:Pos}{B acc:Value}{env:Env}(I:Nat->Shared->Prop)
  (turn:∀n s,I n s->wpAny (model prog w) A (pyNext B) (λr f=>match r with
   | none=>R (.ok .next) f
   | some v=>wpAny (model prog w) A (letOwnedTupleGo a B v) (λ_ b=>wpAny (model prog w) A (assign a env v) (λ_ k=>
     wpAny (model prog w) A (forIn o true λc r=>if r=true then do let ok <- isTrue c env (eval c env);pure (ForInStep.yield ok)else pure (ForInStep.yield r)) (λok e=>
      if ok=true then wpAny (model prog w) A (eval q env) (λx g=>
       wpAny (model prog w) A (call (.builtin "list.append") [acc,x]) (λ_ l=>∃m,m<n/\I m l) (λ_ _=>False) g) (λ_ _=>False) e
      else ∃m,m<n/\I m e) (λ_ _=>False) k) (λ_ _=>False) b) (λ_ _=>False) f) (λ_ _=>False) s)
  (n:Nat) (h:I n s):
  codeAny (model prog w) A (.compLoop (.ListComp q [⟨a,iter,o,0⟩] d t) 0 B acc env) R s:=by
 refine codeAny_loop rfl I (λn s C=>?_) n h;show wpAny _ A ((compTurn (.ListComp q [⟨a,iter,o,0⟩] d t) 0 B acc env).onRaise (λx=>do noteFrame x env;theTreesLotGoes x)) _ _ s;refine wpAny_noted ?_;rw[compTurn_list];refine wpAny_bind (wpAny_standAt (wpAny_bind (wpAny_mono (turn n s C) (λr f i=>?_) λ_ _ h'=>h'.elim)));cases r with
 | none=>exact wpAny_pure i
 | some v=>
  refine wpAny_bind (wpAny_mono i (λ_ b p=>?_) λ_ _ h'=>h'.elim);refine wpAny_bind (wpAny_mono p (λ_ k y=>wpAny_bind (wpAny_mono y (λok e j=>?_) λ_ _ h'=>h'.elim)) λ_ _ h'=>h'.elim);cases ok with
  | false=>exact wpAny_pure ⟨rfl,j⟩
  | true=>
   exact wpAny_bind (wpAny_bind (wpAny_mono j (λx g u=>wpAny_bind (wpAny_mono u (λ_ l z=>wpAny_pure (wpAny_pure ⟨rfl,z⟩)) λ_ _ h'=>h'.elim)) λ_ _ h'=>h'.elim))
def Zof{X:Cx}{elt iter tg:Expr}{pos:Pos}{ifs:List Expr}{f:Scope}{cl:List (Str×Addr)}{wi:TI}{tc:TT}{te:TE}{cns:List Str}{ns:List Str}{gt:TG}{R:It->L2.St->Hp->VK->Prop}(t:List Nat)
  (hR:∀J σ H Q,R J σ H Q->∃W:Nat->Nat->List V->Hp->Prop,(∃m,W 0 m [] H)/\∀i m K H,W i m K H->
   (J.stop i H/\∀p,H p=none->Q (.ref p) (upd H p (.lst K)))\/
   (J.go i H/\K.length<sizeLine/\∀x H',J.yld i H x H'->∀vs:L2.St,vs.length=ns.length->∃us:L2.St,us.length=ns.length/\gt x (vs++t.map (pick σ)) H' (λσ2 H2=>σ2=us++t.map (pick σ)/\H2=H')/\tc (us++t.map (pick σ)) H' λk H2=>if k=true then te (us++t.map (pick σ)) H2 (λy H3=>∃m',m'<m/\W (i+1) m' (K++[y]) H3)else ∃m',m'<m/\W (i+1) m' K H2))
  (hi:PI X tg iter wi) (hg:∀C s H ex pn,PG (Uh X f cl (ns++cns) C s H ex pn) tg gt)
  (hf:∀C s H ex pn,PF (Uh X f cl (ns++cns) C s H ex pn) ifs tc) (he:∀C s H ex pn,PE (Uh X f cl (ns++cns) C s H ex pn) elt te) (hc:X.calm=true)
  (hclos:closureFor f X.env=pure cl) (hcl:AllIn X.env.cells cl) (hcap:Fp X cns t)
  (P:f.kind=.function) (hcell:(f.names.all λp=>p.2 != .cell)=true) (hfree:(f.names.all λp=>p.2 != .free || (cl.lookup p.1).isSome)=true)
  (hcf:(cns.all λy=>f.names.lookup y == some .free)=true) (hnames:∀y∈f.names,y.2=.local->f.names.lookup y.1=some .local)
  (hs:∀v,foldedSetIterable iter X.env v=pure v):
  PE X (.ListComp elt [⟨tg,iter,ifs,0⟩] f pos) (λσ H Q=>wi σ H λJ H1=>R J σ H1 Q):=by
 intro D s σ H Q I h;rw[eval_ListComp];refine wpAny_comprehension_free (use:=none) rfl hs hclos P hnames (iR (hi D s σ H _ I h) λxv s1 h1=>iR h1 λitv Z h2=>?_);obtain⟨it,O,tn,J,H2,rfl,E,T,st2,f2,hr⟩:=h2;obtain⟨W,⟨m0,w0⟩,turn⟩:=hR _ _ _ _ hr;have hne:∀y∈f.names,y.2≠.cell:=λy hy e=>by
  have:=List.all_eq_true.mp hcell y hy;rw[e]at this;simp at this
 refine wpAny_newObj_type (wpAny_newFunctionEnv hne (by intro y hy;simp at hy) (λh₁ M L=>?_) P);dsimp only at M L ⊢;generalize F:Z.heap.objs.size=acc;generalize hH3:Z.heap.push { cls:=.type "list",dict:=none,data:=.seq ([]:List Value).toArray }=h3 at M L ⊢;have hC:h3.objs.size=acc+1:=by rw[<- hH3,Heap.size_push,F]
 have S:∀b o,Z.heap.get? b=some o->h3.get? b=some o:=λb o e=>hH3 ▸ Heap.get?_push_of_some _ e;have V1:∀b o,h3.get? b=some o->h₁.get? b=some o:=λb o e=>L.extBut b o (Nat.ne_of_lt (Heap.lt_size e)) (Heap.get?_push_of_some _ e);have Zwc:h3.get? acc=some { cls:=.type "list",dict:=none,data:=.seq ([]:List Value).toArray }:=by
  rw[<- hH3,<- F];exact Heap.get?_push_size _ rfl
 have I3:Inv X D σ H2 { Z with heap:=h3 }:=E.kept (t':=Z.toks) S;have Ziv:rH X D H2 acc:=E.Zek (Nat.le_of_eq F) (E.hok.fresh (Nat.le_of_eq F));have fpl:∀b∈O,b<acc:=λb hb=>by
  obtain⟨o,e,_⟩:=T.obj _ _ st2 b hb;rw[<- F];exact Heap.lt_size e
 have NB:∀b∈acc::O,rH X D H2 b:=λb hb=>(List.mem_cons.mp hb).elim (λe=>e ▸ Ziv) (f2 b);have exC:∀b∈acc::O,b≠h3.objs.size:=λb hb=>by
  rcases List.mem_cons.mp hb with e | hb
  ·rw[hC,e];exact Nat.ne_of_lt (Nat.lt_succ_self _)
  ·rw[hC];exact Nat.ne_of_lt (Nat.lt_succ_of_lt (fpl b hb))
 have Hi:∀b∈acc::O,b∉frs X.stack:=λb hb hm=>by
  obtain⟨_,g1,g2,_⟩:=NB b hb;exact(List.mem_cons.mp (E.Cv b hm)).elim g1 g2
 let Y:Cx:=Uh X f cl (ns++cns) h3.objs.size { Z with heap:=h3 } H2 (acc::O) (X.pn++D)
 have g:∀y c,cl.lookup y=some c->X.env.cells.lookup y=some c:=λy c e=>hcl.get e;have JV:∀y k,Y.env.kindOf y=some k->(k=.cell\/k=.free)->∃c,cl.lookup y=some c:=λy k e hk=>by
  have e0:(f.names.lookup y).map (Dn X.env y)=some k:=oJ.symm.trans e;obtain⟨k0,e1,U⟩:=Option.map_eq_some_iff.mp e0;have e3:=lookup_all hfree e1;have e4:=lookup_all hcell e1
  by_cases hf:k0=.free
  ·subst hf;rw[Bool.or_eq_true]at e3;rcases e3 with e3 | e3
   ·exact absurd rfl (bne_iff_ne.mp e3)
   ·exact Option.isSome_iff_exists.mp e3
  ·exfalso
   have e5:Dn X.env y k0=k0:=by
    unfold Dn;rw[if_neg];intro z;rw[Bool.and_eq_true,Bool.and_eq_true]at z;exact hf (beq_iff_eq.mp z.1.1)
   rw[e5]at U;subst U;rcases hk with rfl | rfl
   ·simp at e4
   ·exact hf rfl
 have okY:Y.Ok:={
  mod:=E.ok.mod
  kind:=P
  glob:=E.ok.glob
  blt:=E.ok.blt
  above:=Nat.le_refl _
  inj:=λa b c e1 U=>E.ok.inj a b c (g _ _ e1) (g _ _ U)
  has:=λy hy=>hy.elim (λe=>JV y _ e (.inl rfl)) (λe=>JV y _ e (.inr rfl))
  cab:=λy c e=>nomatch e
  hd:=E.ok.hd
  frames:=E.ok.frames
  stk:=.inl rfl
  exf:=λb hb=>⟨exC b hb,λy c e=>(NB b hb).2.2.2.2.1 y c (g _ _ e)⟩
  bs:=λb o e=>⟨S b o (E.bs b o e).1,(E.bs b o e).2⟩
  bsz:=by
   show X.base.objs.size<=h3.objs.size;rw[hC,<- F];exact Nat.le_succ_of_le (Nat.le_trans E.ok.bsz E.sz)
  VJ:=λb o e hb=>by
   rcases(NB b hb).2.2.2.1 with z | z
   ·exact E.ok.VJ b o e z
   ·exact absurd (Nat.lt_of_lt_of_le (Heap.lt_size e) (Nat.le_trans E.ok.bsz z)) (Nat.lt_irrefl _)
  Zeo:=Hi
  zz:=I3.stack
  frf:=I3.Qw }
 have Zwo:(List.replicate ns.length none++t.map (pick σ):L2.St).length=(ns++cns).length:=by rw[List.length_append,List.length_append,List.length_replicate,aX,hcap.len]
 have I4:Inv Y [] (List.replicate ns.length none++t.map (pick σ)) H2 { Z with heap:=h₁,toks:=Z.toks+([]:List (Str×Value)).length }:={
  ok:=okY
  os:=rfl
  bare:=E.bare
  base:=Un.kept V1
  loc:=by
   refine⟨_,M,λi y v e1 U e3=>?_⟩
   by_cases hlt:i<ns.length
   ·have U:(List.replicate ns.length none++t.map (pick σ):L2.St)[i]? =some (some v):=U;rw[List.getElem?_append_left (by rw[List.length_replicate];exact hlt),List.getElem?_replicate,if_pos hlt]at U;cases U
   ·have e1':cns[i - ns.length]? =some y:=by
     have e1':(ns++cns)[i]? =some y:=e1;rw[List.getElem?_append_right (by omega)]at e1';exact e1'
    have e2':(t.map (pick σ):L2.St)[i - ns.length]? =some (some v):=by
     have U:(List.replicate ns.length none++t.map (pick σ):L2.St)[i]? =some (some v):=U;rw[List.getElem?_append_right (by rw[List.length_replicate];omega),List.length_replicate]at U;exact U
    obtain⟨j,j1,j2,j3⟩:=hcap.get (σ:=σ) (i:=i - ns.length) (x:=y) (v:=v) e1' e2';obtain⟨m,hn,hl⟩:=E.loc;obtain⟨u,r,l⟩:=hl j y v j1 j3 (.inr (.inl j2));rcases l with ⟨l,_⟩ | ⟨_,c,l1,l2⟩
    ·rw[j2]at l;cases l
    ·refine⟨u,r,.inr ?_⟩;rcases e3 with e3 | e3 | e3
     ·exfalso
      have hm:y∈cns:=List.mem_of_getElem? e1';have hl:f.names.lookup y=some .free:=beq_iff_eq.mp (List.all_eq_true.mp hcf y hm);have e0:(f.names.lookup y).map (Dn X.env y)=some .local:=oJ.symm.trans e3;rw[hl]at e0;have e5:Dn X.env y .free=.local:=Option.some.inj e0;unfold Dn at e5;split at e5<;>cases e5
     ·obtain⟨c',hc'⟩:=JV y _ e3 (.inl rfl);have:=g _ _ hc';rw[l1]at this;cases this;exact⟨.inl e3,c,hc',l2.keeps λb o e=>V1 _ _ (S _ _ e)⟩
     ·obtain⟨c',hc'⟩:=JV y _ e3 (.inr rfl);have:=g _ _ hc';rw[l1]at this;cases this;exact⟨.inr e3,c,hc',l2.keeps λb o e=>V1 _ _ (S _ _ e)⟩
  cell:=λy c e=>by
   obtain⟨v,z⟩:=E.cell y c (g _ _ e);exact⟨v,z.keeps λb o e=>V1 _ _ (S _ _ e)⟩
  free:=E.hok.fresh (by rw[F];show acc<=h3.objs.size;rw[hC];exact Nat.le_succ _)
  uo:=λy c e=>E.uo y c (g _ _ e)
  pin:=λp hp=>by
   have hp2:p∈(X.pn++D)++[]:=hp;have hp':p∈X.pn++D:=by rw[List.append_nil]at hp2;exact hp2
   obtain⟨p1,p2,p3,p4,p5⟩:=E.pin p hp';refine⟨V1 _ _ (S _ _ p1),p2,?_,λhm=>(List.mem_cons.mp (E.Cv _ hm)).elim p3 p4,p5⟩;exact Nat.ne_of_lt (by show p.1<h3.objs.size;exact Heap.lt_size (S _ _ p1))
  hok:=E.hok.kept λb u e=>V1 _ _ (S _ _ e)
  len:=Zwo }
 have fpY:∀{H':Hp}{pl:List (Addr×Obj)}{b:Addr},b∈acc::O->H' b=none->(∀p∈pl,p.1≠b)->rH Y pl H' b:=λ{H' pl b} hb hn hp=>
  ⟨hn,exC b hb,Hi b hb,.inl hb,λy c e=>(NB b hb).2.2.2.2.1 y c (g _ _ e),λp hm=>(List.mem_append.mp hm).elim (λz=>(NB b hb).2.2.2.2.2 p z) (hp p)⟩
 have fin:∀{N:L2.St}{H':Hp}{s':Shared}{K:List V}{B:List Value}{kk:Nat}{pl:List (Addr×Obj)},Inv Y pl N H' s'->H' acc=none->Vals K B->K.length<=sizeLine->
   s'.heap.get? acc=some { cls:=.type "list",data:=.seq B.toArray kk }->(∀p,H' p=none->Q (.ref p) (upd H' p (.lst K)))->
   ∀h',Heap.SameBut h3.objs.size s'.heap h'->EP X D σ Q (.ref acc) { s' with heap:=h' }:=λ{N H' s' K B kk pl} J ha hv hz ho hq h' hs'=>by
  have Zu3:acc≠h3.objs.size:=exC acc (List.mem_cons_self);have Es:∀b o,b≠h3.objs.size->s'.heap.get? b=some o->h'.get? b=some o:=λb o hb e=>hs'.extBut b o hb e;have ltC:∀b o,Z.heap.get? b=some o->b≠h3.objs.size:=λb o e=>Nat.ne_of_lt (Heap.lt_size (S b o e));have Nr:H' h3.objs.size=none:=J.free;have un:Un (frs X.stack) (acc::O) H2 H' Z.heap h':={
   keep:=λb o e n hb hx=>Es b o (ltC b o e) (J.base.keep b o (S b o e) n hb hx)
   slot:=λb o e n hb hx=>by
    obtain⟨sl,q⟩:=J.base.slot b o (S b o e) n hb hx;exact⟨sl,Es b _ (ltC b o e) q⟩
   free:=λb o e n hx=>J.base.free b o (S b o e) n hx
   there:=λb o e hx=>by
    obtain⟨o',q⟩:=J.base.there b o (S b o e) hx;exact⟨o',Es b o' (ltC b o e) q⟩
   tups:=J.base.tups
   Ia:=J.base.Ia
   Iv:=J.base.Iv }
  have hok:Cm X.prog X.w H' h':=λb u e=>by
   refine(J.hok b u e).stay (λc v hc q=>Es c v ?_ q) (λ_ q=>q) λ_ _ q=>q;rintro rfl;rcases hc with rfl | hc
   ·rw[Nr]at e;cases e
   ·rw[Nr]at hc;cases hc
  have I5:Inv X D σ H' { s' with heap:=h' }:=E.call' (ch:=acc::O) J.os un hok J.bare λb hb=>by
   obtain⟨g0,g1,g2,g3,g4,g5⟩:=NB b hb;exact⟨g3,g1,g4,g5⟩
  refine⟨.ref acc,_,adopt (acc:=acc) I5 ?_ (Es _ _ Zu3 ho) hv hz,rfl,hq acc ha⟩;obtain⟨g0,g1,g2,g3,g4,g5⟩:=Ziv;exact⟨ha,g1,g2,g3,g4,g5⟩
 have loop:codeAny (model X.prog X.w) X.A (.compLoop (.ListComp elt [⟨tg,iter,ifs,0⟩] f pos) 0 (.ref it) (.ref acc) Y.env) (compPost (model X.prog X.w) X.A X.xe none (EP X D σ Q) (.ref acc) h3.objs.size)
   { Z with heap:=h₁,toks:=Z.toks+([]:List (Str×Value)).length }:=by
  refine Pu (λn s'=>∃(i:Nat) (v:L2.St) (K:List V) (B:List Value) (kk:Nat) (H':Hp),v.length=ns.length/\Inv Y [] (v++t.map (pick σ)) H' s'/\tn i s'.heap/\(∀b∈O,H' b=none)/\H' acc=none/\Vals K B/\K.length<=sizeLine/\
   s'.heap.get? acc=some { cls:=.type "list",data:=.seq B.toArray kk }/\W i n K H') ?_ m0 ⟨0,List.replicate ns.length none,[],[],0,H2,List.length_replicate,I4,T.keep _ _ _ st2 (λb _ o e=>V1 _ _ (S _ _ e)),λb hb=>(f2 b hb).1,Ziv.1,.nil,Nat.zero_le _,V1 _ _ Zwc,w0⟩
  rintro n s5 ⟨i,v,K,B,kk,H5,lv,I5,st5,fr5,ha5,hv5,hz5,ho5,w5⟩;have Zo6:Inv Y [(acc,{ cls:=.type "list",data:=.seq B.toArray kk })] (v++t.map (pick σ)) H5 s5:=I5.uQ λp hp=>by
   have e:p=(acc,{ cls:=.type "list",data:=.seq B.toArray kk }):=by simpa using hp
   subst e;exact⟨ho5,ha5,exC acc List.mem_cons_self,Hi acc List.mem_cons_self,λv=>by intro z;cases z⟩
  have fpA:∀{H':Hp},(∀b∈O,H' b=none)->∀b∈O,rH Y [(acc,{ cls:=.type "list",data:=.seq B.toArray kk })] H' b:=λhn b hb=>fpY (List.mem_cons_of_mem _ hb) (hn b hb) λp hp=>by
   have e:p=(acc,{ cls:=.type "list",data:=.seq B.toArray kk }):=by simpa using hp
   subst e;exact(Nat.ne_of_lt (fpl b hb)).symm
  rcases turn i n K H5 w5 with ⟨stop,qn⟩ | ⟨go,hlt,step⟩
  ·refine iR (T.done Y rfl rfl rfl hc i _ s5 _ H5 (λ_ _=>False) Zo6 (fpA fr5) st5 stop) λr s6 ⟨hr,I6⟩=>?_;subst hr;obtain⟨m,hm,_⟩:=I6.loc;have ho6:=(I6.pin (acc,{ cls:=.type "list",data:=.seq B.toArray kk }) (List.mem_append_right _ List.mem_cons_self)).1;exact⟨m,hm,fin I6 ha5 hv5 hz5 ho6 qn⟩
  ·refine iR (T.item Y rfl rfl rfl hc i _ s5 _ H5 (λ_ _=>False) Zo6 (fpA fr5) st5 go) λr s6 ⟨u,hr,h6⟩=>?_;subst hr;refine iR h6 λ_ s7 ⟨z,H7,I7,r7,y7,st7,fr7⟩=>?_;have I7':=I7.pinned (fpA fr7) (T.obj _ _ st7);obtain⟨us,lu,hgt,step⟩:=step z H7 y7 v lv;have pg:PG Y tg gt:=hg _ _ _ _ _;refine iR (pg _ s7 _ H7 z u (λσ2 H2'=>σ2=us++t.map (pick σ)/\H2'=H7) I7' r7 hgt) λ_ s8 ⟨σ8,H8,I8,e8,e8'⟩=>?_;subst e8 e8';refine iR (hf _ _ _ _ _ _ s8 _ H8 _ I8 step) λok s9 ⟨H9,I9,q9⟩=>?_;have stat:∀{H':Hp}{s':Shared}{N:L2.St},Inv Y ([(acc,{ cls:=.type "list",data:=.seq B.toArray kk })]++yr O s7.heap) N H' s'->tn (i+1) s'.heap/\(∀b∈O,H' b=none)/\H' acc=none/\s'.heap.get? acc=some { cls:=.type "list",data:=.seq B.toArray kk }:=λ{H' s' N} J=>by
    have pa:=J.pin (acc,{ cls:=.type "list",data:=.seq B.toArray kk }) (List.mem_append_right _ (List.mem_append_left _ List.mem_cons_self));refine⟨T.keep _ _ _ st7 λb hb o e=>(J.pin (b,o) (List.mem_append_right _ (List.mem_append_right _ (oH hb e)))).1,λb hb=>?_,pa.2.1,pa.1⟩;obtain⟨o,e,d⟩:=T.obj _ _ st7 b hb;exact(J.pin (b,o) (List.mem_append_right _ (List.mem_append_right _ (oH hb e)))).2.1
   have Zdj:∀{H':Hp}{s':Shared}{N:L2.St}{pl:List (Addr×Obj)},Inv Y pl N H' s'->Inv Y [] N H' s':=λJ=>J.uQ λp hp=>nomatch hp;cases ok with
   | false=>
    obtain⟨m',hm,w9⟩:=q9;obtain⟨t1,t2,t3,t4⟩:=stat I9;exact⟨m',hm,i+1,us,K,B,kk,H9,lu,Zdj I9,t1,t2,t3,hv5,hz5,t4,w9⟩
   | true=>
    show wpAny _ _ (eval elt Y.env) _ _ s9;refine iR (he _ _ _ _ _ _ s9 _ H9 _ I9 q9) λy s10 ⟨yv,H10,I10,r10,m',hm,w10⟩=>?_;obtain⟨t1,t2,t3,t4⟩:=stat I10;have Zyg:Inv Y (yr O s7.heap) (us++t.map (pick σ)) H10 s10:=I10.uQ λp hp=>I10.pin p (List.mem_append_right _ (List.mem_append_right _ hp));have fA:rH Y (yr O s7.heap) H10 acc:=fpY List.mem_cons_self t3 λp hp=>Nat.ne_of_lt (fpl _ (Mv hp).1);have Ja:=adopt Zyg fA t4 hv5 hz5;refine iR (qt (X:=Y) _ s10 _ _ (.ref acc) [yv] (.ref acc) [y] (λ_ H'=>H'=upd (upd H10 acc (.lst K)) acc (.lst (K++[yv]))) Ja rfl (.cons r10 .nil) ⟨acc,K,yv,rfl,rfl,aq,hlt,rfl⟩) λ_ s11 ⟨_,H11,I11,_,e11⟩=>?_;rw[eG]at e11;subst e11;obtain⟨Zxo,its',kk',Zxp,Zxq⟩:=I11.hok acc _ aq;have Jd:=disown I11 fA;have Zvm:tn (i+1) s11.heap:=T.keep _ _ _ st7 λb hb o e=>(Jd.pin (b,o) (List.mem_append_right _ (oH hb e))).1;exact⟨m',hm,i+1,us,K++[yv],its',kk',H10,lu,Zdj Jd,Zvm,t2,t3,Zxp,Zxo,Zxq,w10⟩
 exact codeAny_compStart_list loop (T.self X.A 0 _ _ _ (T.keep _ _ _ st2 (λb _ o e=>V1 _ _ (S _ _ e))) loop)
def Oq{X:Cx}{o iter:Expr}{x:Str}{B q:Pos}{k:List Expr}{a:Scope}{cl:List (Str×Addr)}{w:TI}{tc:TT}{A:TE}{cns:List Str}(b:List Nat)
  (E:PI X (.Name x B) iter w)
  (I:∀C s H ex pn,PF (Uh X a cl (x::cns) C s H ex pn) k tc) (D:∀C s H ex pn,PE (Uh X a cl (x::cns) C s H ex pn) o A) (hc:X.calm=true)
  (j:closureFor a X.env=pure cl) (u:AllIn X.env.cells cl) (n:Fp X cns b)
  (d:a.kind=.function) (e:(a.names.all λp=>p.2 != .cell)=true) (f:(a.names.all λp=>p.2 != .free || (cl.lookup p.1).isSome)=true)
  (t:(cns.all λy=>a.names.lookup y == some .free)=true) (c:∀y∈a.names,y.2=.local->a.names.lookup y.1=some .local) (hx:a.names.lookup x=some .local) (r:(x::cns).Nodup)
  (hs:∀v,foldedSetIterable iter X.env v=pure v:=by intro _;rfl):
  PE X (.ListComp o [⟨.Name x B,iter,k,0⟩] a q) (tLC w b tc A):=by
 refine Zof (ns:=[x]) (gt:=aO 0) b (λJ σ H Q h=>?_) E (λC s H ex pn=>fQ r rfl (.inl (lookup_relabel_local hx)) (.inr (lookup_relabel_local hx))) I D hc j u n d e f t c hs;obtain⟨W,w0,turn⟩:=h;refine⟨W,w0,λi m F H K=>(turn i m F H K).imp id λ⟨g,l,st⟩=>⟨g,l,λz H' y vs hv=>?_⟩⟩
 match vs,hv with
 | [v],_=>exact⟨[some z],rfl,⟨rfl,rfl⟩,st z H' y⟩
end G
namespace G
open PySem L2 PySem.Spec PyProof.Rows
def Mw{P:Program}{w:World}{H:Hp}{h:Heap}{a:Addr}{o:HO}(x:lA P w H h a o):∃ob,h.get? a=some ob:=by
 induction o with
 | lst xs=>obtain⟨_,_,_,_,e⟩:=x;exact⟨_,e⟩
 | tup xs=>obtain⟨_,_,_,ob,e,_⟩:=x;exact⟨ob,e⟩
 | dK b=>obtain⟨_,_,_,_,ob,_,_,e,_⟩:=x;exact⟨ob,e⟩
 | dT b=>obtain⟨_,_,_,_,ob,_,_,e,_⟩:=x;exact⟨ob,e⟩
 | set S n=>obtain⟨ob,_,_,_,e,_⟩:=x;exact⟨ob,e⟩
 | ins C dx fs=>obtain⟨_,_,_,e,_⟩:=x;exact⟨_,e⟩
 | own y=>exact x
 | xd fs=>obtain⟨_,⟨ob,_,_,e,_⟩,_⟩:=x;exact⟨ob,e⟩
 | rng lo c=>obtain⟨_,_,_,e⟩:=x;exact⟨_,e⟩
 | zK ob u d=>exact⟨_,x.1⟩
 | Rc ps=>exact⟨_,x⟩
 | met f y=>exact⟨_,x⟩
 | ext g=>obtain⟨_,e,_⟩:=x;exact e
def Yu{P:Program}{w:World}{fs:List Addr}{H0 c:Hp}{f h1 h2:Heap}(u:Un fs [] H0 c f h1)(ok:Cm P w c h1)(j:∀b∈fs,c b=none)
  (kp:∀b o,h1.get? b=some o->((∃v,f.get? b=some v)\/∃v,c b=some v)->b∉fs->h2.get? b=some o) (sl:∀b o,h1.get? b=some o->b∈fs->∃z,h2.get? b=some { o with slots:=z }):
  Un fs [] H0 c f h2/\Cm P w c h2:=by
 refine⟨⟨λb o e n hb hx=>kp b o (u.keep b o e n hb hx) (.inl ⟨o,e⟩) hb,λb o e n hb hx=>?_,u.free,λb o e hx=>?_,u.tups,u.Ia,u.Iv⟩,λa o e=>?_⟩
 ·obtain⟨z,d⟩:=u.slot b o e n hb hx;obtain⟨k,g⟩:=sl b _ d hb;exact⟨k,g⟩
 ·obtain⟨h,d⟩:=u.there b o e hx
  by_cases hb:b∈fs
  ·obtain⟨z,g⟩:=sl b _ d hb;exact⟨_,g⟩
  ·exact⟨h,kp b h d (.inl ⟨o,e⟩) hb⟩
 ·refine(ok a o e).stay (λb v hb q=>?_) (λ_ q=>q) λ_ _ q=>q;have hs:∃v,c b=some v:=by
   rcases hb with z | z
   ·exact⟨o,by rw[z];exact e⟩
   ·exact⟨_,z⟩
  refine kp b v q (.inr hs) λz=>?_;obtain⟨l,i⟩:=hs;rw[j b z]at i;cases i
def Uv(P:Program)(w:World):CXT:=λouter H s E e s'=>
 ∃(c:Addr) (a a0:Value) (B:Heap) (H':Hp),e=.ref c/\s'.os=s.os/\AllBare s'.gens/\Un (frs outer) [] H H' s.heap s'.heap/\Cm P w H' s'.heap/\Heap.FlyingW B outer c a a0 s'.heap/\
  (∀b o,s'.heap.get? b=some o->((∃v,s.heap.get? b=some v)\/∃v,H' b=some v)->b∉frs outer->B.get? b=some o)/\E a none H'
def fX{P:Program}{w:World}{X:Cx}:Passes (Uv P w) X E0:=λ_ _ _ _ _ _ _ h=>by
 obtain⟨_,_,_,_,_,_,_,_,_,_,_,_,z⟩:=h;exact z.elim
section
variable {P:Program}{w:World}{K:aB}{mg:Str->Option Value}{base:Heap}{N:List Str}{qual:Str}{scope:Scope}{f:Addr}{cd:Value}{A:Around}{outer:List Env}{s:Shared}{H:Hp}{E:XK}
def Jt:Passes (Uv P w) (NK (Uv P w) P w K mg base N qual scope f cd A outer s H E) E:=by
 intro d σ D r e j I h;obtain⟨t,l,a0,B,c,rfl,os,bare,un,ok,fl,y,u⟩:=h;have J:Inv (NK (Uv P w) P w K mg base N qual scope f cd A outer s H E) d σ c j:=I.call' os un ok bare (λb z=>nomatch z);have x:∀b o,s.heap.get? b=some o->b≠(envOfC qual scope s.heap.objs.size f cd).locals:=λb o e=>Nat.ne_of_lt (Nat.lt_of_lt_of_le (Heap.lt_size e) I.ok.above);have k:∀b,((∃v,s.heap.get? b=some v)\/∃v,c b=some v)->b∉frs outer->b∉frs (envOfC qual scope s.heap.objs.size f cd::outer):=λb hb hn hm=>by
  rcases List.mem_cons.mp (J.Cv b hm)with z | z
  ·rcases hb with ⟨v,e⟩ | ⟨v,e⟩
   ·exact x b v e z
   ·rw[z]at e;have:=J.free;rw[e]at this;cases this
  ·exact hn z
 have n:∀b,((∃v,s.heap.get? b=some v)\/∃v,c b=some v)->(∃v,r.heap.get? b=some v)\/∃v,c b=some v:=λb hb=>by
  rcases hb with ⟨v,e⟩ | hb
  ·exact .inl (I.base.there b v e (λz=>nomatch z))
  ·exact .inr hb
 refine wpAny_leaves_onW I.ok.frames rfl fl λh' a sm=>?_;have m:∀b o,j.heap.get? b=some o->b∈frs outer->∀vs,o.data≠.fields vs:=λb o e hb=>by
  obtain⟨_,C,i,hd⟩:=J.zz.mem hb;rw[e]at i;cases i;exact hd
 have g:∀b o,j.heap.get? b=some o->((∃v,s.heap.get? b=some v)\/∃v,c b=some v)->b∉frs outer->B.get? b=some o:=λb o e hb hn=>y b o e (n b hb) (k b hb hn);have U:=Yu (P:=P) (w:=w) (h2:=h') J.base J.hok (λb hb=>by
   obtain⟨_,o,p,_⟩:=J.ok.zz.mem hb;exact J.base.free b o p (J.ok.frf b hb) (λz=>nomatch z)) (λb o e hb hn=>a.1 _ _ (g b o e hb hn)) λb o e hb=>sm b o e (m b o e hb)
 refine⟨t,l,a0,B,c,rfl,J.os,J.bare,U.1,U.2,a,λb o e hb hn=>?_,u⟩;have there:∃v,j.heap.get? b=some v:=by
  rcases hb with ⟨v,z⟩ | ⟨v,z⟩
  ·exact J.base.there b v z (λz=>nomatch z)
  ·exact Mw (J.hok b v z)
 obtain⟨v,z⟩:=there;have q:=g b v z hb hn;have:=a.1 _ _ q;rw[e]at this;cases this;exact q
def Zz{d:List (Addr×Obj)}{σ:L2.St}{c:Hp}{a:Shared}{C e:Addr}{vs:List Value}{h1:Heap}(I:Inv (NK (Uv P w) P w K mg base N qual scope f cd A outer s H E) d σ c a)
  (hx:Heap.MadeExcOf a.heap h1 e (.ref C) vs) (p:E (.ref C) none c):(NK (Uv P w) P w K mg base N qual scope f cd A outer s H E).xe (.ref e) { a with heap:=h1 }:=by
 have r:∀b o,s.heap.get? b=some o->b≠(envOfC qual scope s.heap.objs.size f cd).locals:=λb o e=>Nat.ne_of_lt (Nat.lt_of_lt_of_le (Heap.lt_size e) I.ok.above);have i:∀b,((∃v,s.heap.get? b=some v)\/∃v,c b=some v)->b∉frs outer->b∉frs (envOfC qual scope s.heap.objs.size f cd::outer):=λb hb hn hm=>by
  rcases List.mem_cons.mp (I.Cv b hm)with z | z
  ·rcases hb with ⟨v,e⟩ | ⟨v,e⟩
   ·exact r b v e z
   ·rw[z]at e;have:=I.free;rw[e]at this;cases this
  ·exact hn z
 have n:a.heap.FunFrames (W.hideAll a.heap (frs (envOfC qual scope s.heap.objs.size f cd::outer))) (envOfC qual scope s.heap.objs.size f cd::outer):=
  W.funFrames_hide I.stack λenv l b hb=>List.mem_filterMap.mpr ⟨env,l,hb⟩
 refine wpAny_leaves_madeW (s:={ a with heap:=h1 }) I.ok.frames rfl (λb o q=>W.of_hideAll _ q) n hx λh' t fl _ _ sm=>?_;have g:∀b o,a.heap.get? b=some o->((∃v,s.heap.get? b=some v)\/∃v,c b=some v)->b∉frs outer->(W.hideAll a.heap (frs (envOfC qual scope s.heap.objs.size f cd::outer))).get? b=some o:=
  λb o e hb hn=>W.hideAll_get _ e (i b hb hn)
 have j:∀b o,a.heap.get? b=some o->b∈frs outer->∀vs,o.data≠.fields vs:=λb o e hb=>by
  obtain⟨_,u,h,hd⟩:=I.zz.mem hb;rw[e]at h;cases h;exact hd
 have U:=Yu (P:=P) (w:=w) (h2:=h') I.base I.hok (λb hb=>by
   obtain⟨_,o,m,_⟩:=I.ok.zz.mem hb;exact I.base.free b o m (I.ok.frf b hb) (λz=>nomatch z)) (λb o e hb hn=>fl.1 _ _ (g b o e hb hn)) λb o e hb=>sm b o (hx.keeps b o e) (j b o e hb)
 refine⟨e,.ref C,.ref t,_,c,rfl,I.os,I.bare,U.1,U.2,fl,λb o q hb hn=>?_,p⟩;have there:∃v,a.heap.get? b=some v:=by
  rcases hb with ⟨v,z⟩ | ⟨v,z⟩
  ·exact I.base.there b v z (λz=>nomatch z)
  ·exact Mw (I.hok b v z)
 obtain⟨v,z⟩:=there;have k:=g b v z hb hn;have:=fl.1 _ _ k;rw[q]at this;cases this;exact k
end
abbrev Zr8(K:aB)(C:Addr):Prop:=W.excIn K C [.type "ValueError",.type "Exception",.type "BaseException",.type "object"] "ValueError.__new__"=true
def Zue{K:aB}{h:Heap}{C:Addr}{n:List Value}{r:String}(X:K.In h)(q:W.excIn K C n r=true):
  ∃tl N nm F bs hd sn sub ab col dd b e d f c mN,h.get? C=some (excClassObj nm F C N bs tl hd sn sub ab col dd b e d f c r)/\h.Ns N mN/\mN "__init__"=none/\OwnTail h n tl:=by
 unfold W.excIn at q;split at q
 ·rename_i dd i a k
  split at q
  ·rename_i I tl b e d f n2 c o p
   simp only[Bool.and_eq_true,beq_iff_eq,Bool.not_eq_true']at q;obtain⟨⟨⟨⟨⟨v,E⟩,e3⟩,A⟩,l⟩,s⟩:=q;subst v E;obtain⟨D,u,H,m,x,y,z,B,w,j,t⟩:=i;dsimp only at o e3 l s;subst o e3;have g:a=#[b,e,d,f,some (.builtin n2),c]:=by
    obtain⟨ls⟩:=a;simp only at p;rw[p]
   subst g;refine⟨tl,m,D,x,u,y,z,B,w,j,dd,b,e,d,f,c,h.nsMap m,X _ _ k,?_,W.nsMap_none_of_in X l s,W.tail_of_in X A⟩;exact .of_isNs (W.isNs_of_in X l)
  ·cases q
 ·cases q
section
variable {X:Cx}{x:Str}{C:Addr}{np cpos pos:Pos}{e:Expr}{es:List Expr}{ta:TA}{E:XK}
def Jp(hc:X.calm=true)(l:Gl X x)(hm:X.mg x=some (.ref C))(hx:Zr8 X.K C)(w:PA X (e::es) ta)
  (j:∀(a:List (Addr×Obj)) (σ:L2.St) (H:Hp) (s:Shared) (c:Addr) (vs:List Value) (h1:Heap),Inv X a σ H s->Heap.MadeExcOf s.heap h1 c (.ref C) vs->E (.ref C) none H->X.xe (.ref c) { s with heap:=h1 })
  (hs:starEach (e::es) X.env=(false,eval e X.env)::starEach es X.env:=by rfl) (f:(backTo cpos (starEach es X.env)).any (·.1)=false:=by rfl) (hd:(x == ("__debug__":Str))=false:=by decide):
  PS X (.Raise (some (.Call (.Name x np) (e::es) [] cpos)) none pos) (KQ C E ta):=by
 intro a s σ H D I h;obtain⟨tl,N,nm,v,bs,g,sn,sub,ab,col,dd,k,p,m,u,n,mN,t,i,d,T⟩:=Zue I.ok.mod.kin hx;refine wpAny_Raise_call_subT (C:=C) (nm:=nm) (q:=v) (N:=N) (bs:=bs) (bm:=tl) (hdct:=g) (sn:=sn) (sub:=sub) (ab:=ab) (col:=col) (dd:=dd) (k0:=k) (k1:=p) (k2:=m) (k3:=u) (k5:=n) PySem.F.excBase_ValueError (mN:=mN)
  (T.hasType PySem.F.excBase_ValueError.hasBase) (I.ok.hd hc) ?_ d (uY I l hm ⟨rfl,?_⟩ hd)
 ·rw[hs];show(false || (backTo cpos (starEach es X.env)).any (·.1))=false;rw[f];rfl
 ·have q:=w cpos a s σ H _ I h;rw[hs]at q ⊢;refine Calls.evalArgs_plain (iR q λus o ⟨vs,H1,I1,r,l1,hE1⟩=>⟨rfl,?_,I1.bk _ _ t,i.keeps I1.bk,T.keeps I1.bk,λh1 c b=>j a σ H1 o c _ h1 I1 b hE1⟩);rw[<- r.length];exact Nat.le_trans l1 (by decide)
end
end G
namespace G
open PySem L2 PySem.Spec PyProof.Rows
def Zkm(CX:CXT)(X:Cx)(E:L2.St->XK):Prop:=∀(a:List (Addr×Obj)) (σ:L2.St) (H:Hp) (s:Shared) (e:Value) (s':Shared),Inv X a σ H s->CX X.stack H s (E σ) e s'->X.xe e s'
section
variable {X:Cx}{CX:CXT}{k:Nat}{f C:Addr}{fd:FuncData}{ps:List Str}{sp:Sp}{wF:List V}{ds:List Value}{E:L2.St->XK}{x m:Str}{p pos apos:Pos}{e o:Expr}{es:List Expr}{ta:TE}{t:TA}
def Zrx{a:List (Addr×Obj)}{σ:L2.St}{H:Hp}{s:Shared}{Q:VK}{us:List Value}{vs:List V}(F:wB X.prog X.w X.K X.mg X.base CX k f fd ps sp)(hr:Room k X.A)(hb:Binds X.K fd ps ds)(hd:Vals wF ds)(hx:Zkm CX X E)
  (I:Inv X a σ H s) (r:Vals vs us) (h:sp (vs++wF) H Q (E σ)):wpAny (model X.prog X.w) X.A (call (.ref f) us) (EP X a σ Q) X.xe s:=by
 have b:Vals (vs++wF) (us++ds):=r.append hd;have hl:(us++ds).length=ps.length:=by rw[<- b.length];exact F.len _ _ _ _ h
 refine wpAny_call (codeAny_mono (F.run X.A X.stack s H ⟨us,[]⟩ (us++ds) (vs++wF) Q (E σ) hr I.env0 (hb s us I.Et hl) b h) λr s' hq=>?_);cases r with
 | error e=>exact hx a σ H s e s' I hq
 | ok fl=>
  cases fl with
  | ret u=>exact I.after hq
  | next=>exact False.elim hq
  | brk=>exact False.elim hq
  | cont=>exact False.elim hq
def Zoi(F:wB X.prog X.w X.K X.mg X.base CX k f fd ps sp)(hr:Room k X.A)(g:Gl X x)(hm:X.mg x=some (.ref f))(hk:W.keepIn X.K (.ref f)=true)(hb:Binds X.K fd ps ds)(hd:Vals wF ds)(hx:Zkm CX X E)
  (i:PA X (e::es) t) (c:(x == ("__debug__":Str))=false:=by decide) (d:starEach (e::es) X.env=(false,eval e X.env)::starEach es X.env:=by rfl) (b:(backTo pos (starEach es X.env)).any (·.1)=false:=by rfl):
  PE X (.Call (.Name x p) (e::es) [] pos) (Zfz sp wF E t):=by
 intro a s σ H Q I h;refine wpAny_Call_Name_kw (uY I g hm ?_ c);refine W.callWith_K (h₀:=X.base) I.ok.mod.kin hk (iR (i pos a s σ H _ I h) λus j ⟨vs,H1,I1,r,q⟩=>⟨I1.Et,?_⟩) d b;exact Zrx F hr hb hd hx I1 r q
end
abbrev cxB(X:Cx)(pn:List (Addr×Obj))(xe:Value->Shared->Prop):Cx:={ X with pn:=pn,xe:=xe }
abbrev cxH(X:Cx)(ea:Value)(pn:List (Addr×Obj)):Cx:={ X with A:=X.A.mark (some ea),calm:=false,pn:=pn,xe:=λ_ _=>False }
section
variable {X:Cx}{pins:List (Addr×Obj)}{σ:L2.St}{H:Hp}{s:Shared}
def Zwa(ok:X.Ok)(pn:List (Addr×Obj))(xe:Value->Shared->Prop):(cxB X pn xe).Ok:=
 ⟨ok.mod,ok.kind,ok.glob,ok.blt,ok.above,ok.inj,ok.has,ok.cab,ok.hd,ok.frames,ok.stk,ok.exf,ok.bs,ok.bsz,ok.VJ,ok.Zeo,ok.zz,ok.frf⟩
def Zw9(ok:X.Ok)(a:Value)(pn:List (Addr×Obj)):(cxH X a pn).Ok:=
 ⟨ok.mod,ok.kind,ok.glob,ok.blt,ok.above,ok.inj,ok.has,ok.cab,λz=>(nomatch z),ok.frames,ok.stk,ok.exf,ok.bs,ok.bsz,ok.VJ,ok.Zeo,ok.zz,ok.frf⟩
def Zvf(I:Inv X pins σ H s)(xe:Value->Shared->Prop):Inv (cxB X (X.pn++pins) xe) [] σ H s:=
 ⟨Zwa I.ok _ _,I.os,I.bare,I.base,I.loc,I.cell,I.free,I.uo,λp hp=>I.pin p (by simpa using hp),I.hok,I.len⟩
def Su{xe:Value->Shared->Prop}{pl:List (Addr×Obj)}(ok:X.Ok)(I:Inv (cxB X (X.pn++pins) xe) pl σ H s):Inv X pins σ H s:=
 ⟨ok,I.os,I.bare,I.base,I.loc,I.cell,I.free,I.uo,λp hp=>I.pin p (List.mem_append_left _ hp),I.hok,I.len⟩
def Zn6(I:Inv X pins σ H s)(a:Value):Inv (cxH X a (X.pn++pins)) [] σ H s:=
 ⟨Zw9 I.ok _ _,I.os,I.bare,I.base,I.loc,I.cell,I.free,I.uo,λp hp=>I.pin p (by simpa using hp),I.hok,I.len⟩
def Za5{a:Value}{pl:List (Addr×Obj)}(ok:X.Ok)(I:Inv (cxH X a (X.pn++pins)) pl σ H s):Inv X pins σ H s:=
 ⟨ok,I.os,I.bare,I.base,I.loc,I.cell,I.free,I.uo,λp hp=>I.pin p (List.mem_append_left _ hp),I.hok,I.len⟩
def Zvp{xe:Value->Shared->Prop}{D:Ends}{f:Flow}(ok:X.Ok)(h:SP (cxB X (X.pn++pins) xe) [] D f s):SP X pins D f s:=by
 cases f with
 | next=>obtain⟨a,H',I,q⟩:=h;exact⟨a,H',Su ok I,q⟩
 | brk=>obtain⟨a,H',I,q⟩:=h;exact⟨a,H',Su ok I,q⟩
 | cont=>obtain⟨a,H',I,q⟩:=h;exact⟨a,H',Su ok I,q⟩
 | ret u=>obtain⟨v,a,H',I,r,q⟩:=h;exact⟨v,a,H',Su ok I,r,q⟩
def Zvo{b:Value}{D:Ends}{f:Flow}(ok:X.Ok)(h:SP (cxH X b (X.pn++pins)) [] D f s):SP X pins D f s:=by
 cases f with
 | next=>obtain⟨a,H',I,q⟩:=h;exact⟨a,H',Za5 ok I,q⟩
 | brk=>obtain⟨a,H',I,q⟩:=h;exact⟨a,H',Za5 ok I,q⟩
 | cont=>obtain⟨a,H',I,q⟩:=h;exact⟨a,H',Za5 ok I,q⟩
 | ret u=>obtain⟨v,a,H',I,r,q⟩:=h;exact⟨v,a,H',Za5 ok I,r,q⟩
def flown{i:Addr}{f a0:Value}{B:Heap}{c:Hp}{a:Shared}{h3:Heap}(I:Inv X pins σ H s)(os:a.os=s.os)(bare:AllBare a.gens)(un:Un (frs X.stack) [] H c s.heap a.heap)(ok:Cm X.prog X.w c a.heap)
  (fl:Heap.FlyingW B X.stack i f a0 a.heap) (j:∀b o,a.heap.get? b=some o->((∃v,s.heap.get? b=some v)\/∃v,c b=some v)->b∉frs X.stack->B.get? b=some o)
  (st:B.StaysIn h3) (sm:a.heap.UpToSlots h3):Inv X pins σ c { a with heap:=h3 }:=by
 have h:∀b∈frs X.stack,c b=none:=λb hb=>by
  obtain⟨_,o,g,_⟩:=I.stack.mem hb;exact un.free b o g (I.Qw b hb) (λz=>nomatch z)
 have U:=Yu (P:=X.prog) (w:=X.w) (h2:=h3) un ok h (λb o e hb hn=>st _ _ (j b o e hb hn)) λb o e hb=>by
  obtain⟨_,k,d,hd⟩:=fl.2.2.1.mem hb;rw[e]at d;cases d;exact sm b o e hd
 exact I.call' (s':={ a with heap:=h3 }) (ch:=[]) os U.1 U.2 bare (λb z=>nomatch z)
end
section
variable {X:Cx}{x:Str}{C:Addr}{np pos hpos:Pos}{body suite:List Stmt}{b₀:Stmt}{Mt:Value->Prop}{tb:(L2.St->XK)->TS}{th:TS}
def Zw0(i:X.stack=X.env::X.outer/\X.env.frame=some X.env.locals)(O:Gl X x)(hm:X.mg x=some (.ref C))(t:∀c,Mt c->W.exmOne X.K c (.ref C)=some true)
  (hb:∀(E:L2.St->XK) (pn:List (Addr×Obj)) (xe:Value->Shared->Prop),Zkm (Uv X.prog X.w) (cxB X pn xe) E->PSs (cxB X pn xe) body (tb E))
  (hs:∀(d:Value) (pn:List (Addr×Obj)),PSs (cxH X d pn) (b₀::suite) th) (hd:(x == ("__debug__":Str))=false:=by decide):
  PS X (.Try body [.ExceptHandler (some (.Name x np)) none (b₀::suite) hpos] [] [] pos) (Zvg Mt tb th):=by
 intro a s σ H D I h;refine wpAny_Try_except ?_;have hx:Zkm (Uv X.prog X.w) (cxB X (X.pn++a) λe s'=>∃ σ H s,Inv X a σ H s/\Uv X.prog X.w X.stack H s (λb _ H'=>Mt b/\th D σ H') e s') (λF b _ H'=>Mt b/\th D F H'):=
  λpl σ H s e s' J z=>⟨σ,H,s,Su I.ok J,z⟩
 refine wpAny_mono (hb _ _ _ hx [] s σ H D (Zvf I _) h) (λf L q=>?_) λe L q=>?_
 ·have q:=Zvp I.ok q;cases f with
  | next=>exact wpAny_execs_nil q
  | ret v=>exact q
  | brk=>exact q
  | cont=>exact q
 ·obtain⟨l,U,T,J,d,b,a0,B,R,rfl,os,bare,un,ok,fl,M,Q,p⟩:=q;have j:=fl;rw[i.1]at j;refine wpAny_looks_onW (i.1 ▸ J.ok.frames) i.2 j λh4 u r=>?_;refine wpAny_landsW u λh5 g n=>?_;have k:L.heap.UpToSlots h5:=r.trans n;have N:=flown J os bare un ok fl M g.1 k;refine wpAny_handleBy_cons (codeAny_handlers_test (uY (X:=cxH X (.ref d) (X.pn++a)) (Zn6 N (.ref d)) O hm ?_ hd)) (by intro z;cases z);obtain⟨ob,o,m⟩:=g.there;have LT:W.Looks (model X.prog X.w) h5 (typeOf (.ref d)) b:=m ▸ (W.Looks.ld o).andThen .now;refine(W.exm_one N.Et LT (t b Q)).here ?_;refine codeAny_handlers_suite ?_;refine lands_againW g λh6 y A=>?_;have P:=flown J os bare un ok fl M y.1 (k.trans A);refine wpAny_mono (hs (.ref d) (X.pn++a) [] _ l R D (Zn6 P (.ref d)) p) (λf S q=>Zvo I.ok q) λ_ _ z=>z.elim
end
end G
namespace G
open PySem L2 PySem.Spec PyProof.Rows
section
variable {P:Program}{w:World}{K:aB}{mg:Str->Option Value}{base:Heap}{x qual:Str}{st:Stmt}{f:Addr}{fd:FuncData}{N ps:List Str}{k:Nat}{sp:Sp}
def fok(F:jz K x qual st f fd)(S:aP N ps (aG st))(len:∀vs H Q E,sp vs H Q E->vs.length=ps.length)
  (b:∀(a:Value) (A:Around) (outer:List Env) (s:Shared) (H:Hp) (vs:List V) (Q:VK) (E:XK),Room k (A.deeper (envOfC qual (aG st) s.heap.objs.size f a))->sp vs H Q E->
   ∃t,PSs (NK (Uv P w) P w K mg base N qual (aG st) f a A outer s H E).nox (lD st) t/\t { nx:=λ_ H'=>Q .non H',rt:=Q } (start N vs) H):wB P w K mg base (Uv P w) (k+1) f fd ps sp:=by
 obtain⟨oc,od,kV,e,i,j,a,ct,g,rfl,lk,c⟩:=F.ex;refine Zqk lk c S len λA outer s H vs Q E hr d=>?_;obtain⟨t,h,q⟩:=b a A outer s H vs Q E hr d;exact⟨t,h.nox,q⟩
def ZIx(F:jz K x qual st f fd)(S:aP N ps (aG st))(len:∀vs H Q E,sp vs H Q E->vs.length=ps.length)
  (b:∀(a:Value) (A:Around) (outer:List Env) (s:Shared) (H:Hp) (vs:List V) (Q:VK) (E:XK),Room k (A.deeper (envOfC qual (aG st) s.heap.objs.size f a))->sp vs H Q E->
   ∃t,PSs (NK (Uv P w) P w K mg base N qual (aG st) f a A outer s H E) (lD st) t/\t { nx:=λ_ H'=>Q .non H',rt:=Q } (start N vs) H):wB P w K mg base (Uv P w) (k+1) f fd ps sp:=by
 obtain⟨oc,od,kV,e,h,i,a,ct,g,rfl,lk,c⟩:=F.ex;exact Zqk lk c S len λA outer s H vs Q E hr d=>b a A outer s H vs Q E hr d
def ZA2(F:Zyl K x qual st f fd)(S:aP N ps (aG st))(len:∀vs H Q E,sp vs H Q E->vs.length=ps.length)
  (b:∀(a:Value) (A:Around) (outer:List Env) (s:Shared) (H:Hp) (vs:List V) (Q:VK) (E:XK),Room k (A.deeper (envOfC qual (aG st) s.heap.objs.size f a))->sp vs H Q E->
   ∃t,PSs (NK (Uv P w) P w K mg base N qual (aG st) f a A outer s H E) (lD st) t/\t { nx:=λ_ H'=>Q .non H',rt:=Q } (start N vs) H):wB P w K mg base (Uv P w) (k+1) f fd ps sp:=by
 obtain⟨oc,od,dV,kV,e,h,i,a,ct,g,rfl,lk,c⟩:=F.ex;exact Zqk lk c S len λA outer s H vs Q E hr d=>b a A outer s H vs Q E hr d
end
end G
namespace G
open PySem L2 PySem.Spec PyProof.Rows
structure ZJg(K:aB)(C:Addr):Prop where
 ga:W.findIn K (.ref C) "__getattribute__"=some (some (.builtin "BaseException.__getattribute__"))
 no:W.findIn K (.ref C) "__getattr__"=some none
 cl:W.findIn K (.ref C) "__class__"=some (some (.builtin "object.__class__"))
 so:W.mroIn K C (.type "object")=some true
 sb:W.mroIn K C (.type "BaseException")=some true
 is:W.hasDictIn K C=true
section
variable {prog:Program}{w:World}{A:Around}{E:Value->Shared->Prop}{h:Heap}{g:Array GenState}{d:Drawn}{t:Nat}{os:OsState}{a:Addr}{o:Obj}{C:Addr}{K:aB}
end
section
variable {X:Cx}
def vR:PJ X (.type "list") (Ie X.K):=by
 intro a s σ H xs us Q I r h;obtain⟨p,b,rfl,hs,q⟩:=h;exact Ku a s σ H [.ref p] us Q I r ⟨p,b,rfl,.inl hs,q⟩
def Yk{xs c:List V}{us g:List Value}(f:Vals xs us)(i:Vals c g)(r:xs.all qw=true)(q:c.all qw=true)(hl:xs.length=c.length):
  (∀(A:Around) (s:Shared) (j:Nat) (h1:j<us.toArray.size) (h2:j<g.toArray.size),SeqAt.EqAt A s us.toArray[j] g.toArray[j] (match xs[j]?,c[j]? with | some a,some b=>Yj a b | _,_=>false))/\
  (List.range us.toArray.size).all (λj=>match xs[j]?,c[j]? with | some a,some b=>Yj a b | _,_=>false)=eqL xs c:=by
 refine⟨λA s j h1 h2=>?_,?_⟩
 ·rw[List.size_toArray]at h1 h2;have v:=f.length;have x:=i.length;have l:xs[j]? =some xs[j]:=bK (by omega);have m:c[j]? =some c[j]:=bK (by omega);obtain⟨u,k,t⟩:=f.get l;obtain⟨w,n,o⟩:=i.get m;rw[bK h1]at k;rw[bK h2]at n;cases k;cases n;rw[l,m];exact Bu t o (List.all_eq_true.mp r _ (List.getElem_mem (by omega))) (List.all_eq_true.mp q _ (List.getElem_mem (by omega)))
 ·rw[List.size_toArray,<- f.length];unfold eqL;rw[beq_iff_eq.mpr hl,Bool.true_and,Bool.eq_iff_iff,List.all_eq_true,List.all_eq_true];constructor
  ·intro h p hp;obtain⟨j,d,e⟩:=List.getElem_of_mem hp;rw[List.length_zip]at d;have:=h j (List.mem_range.mpr (by omega));rw[bK (show j<xs.length by omega),bK (show j<c.length by omega)]at this;rw[List.getElem_zip]at e;rw[<- e];exact this
  ·intro h j d;have d:=List.mem_range.mp d;rw[bK (show j<xs.length by omega),bK (show j<c.length by omega)];have hz:j<(xs.zip c).length:=by rw[List.length_zip];omega
   have:=h _ (List.getElem_mem hz);rw[List.getElem_zip]at this;exact this
def Zk8{xs a:List V}(h:xs.length≠a.length):eqL xs a=false:=by
 unfold eqL;rw[show(xs.length == a.length)=false by simpa using h,Bool.false_and]
def Zhd(hu:X.A.units+1<cLine):zA X (compareOp .Eq) (ZC X.K false):=by
 intro f s σ H x y v u Q I l k h;obtain⟨p,o,xs,i,rfl,rfl,hx,hy,g,q⟩:=h;cases l;cases k;obtain⟨us,e,a,_⟩:=I.list hx;obtain⟨r,d,b,_⟩:=I.list hy;have c:X.A.units<cLine:=by omega
 by_cases hl:xs.length=i.length
 ·obtain⟨m,n⟩:=Yk e d (g hl).1 (g hl).2 hl;refine SeqAt.eq_listAt a.isList b.isList (by rw[List.size_toArray,List.size_toArray,<- e.length,<- d.length];exact hl) c (λj h1 h2=>m _ _ j h1 h2) ?_;rw[n];exact⟨.bl _,H,I,rfl,q⟩
 ·refine SeqAt.eq_list_lengthsAt a.isList b.isList ?_ c ?_
  ·rw[List.size_toArray,List.size_toArray,<- e.length,<- d.length];simpa using hl
  ·refine⟨.bl _,H,I,rfl,?_⟩;have:=q;rw[Zk8 hl]at this;exact this
end
end G
namespace G
open PySem L2 PySem.Spec PyProof.Rows
def Zor:fastBuiltinMro "NoneType"=some [.type "NoneType",.type "object"]:=by decide +kernel
section
variable {K:aB}{A:Around}{a C:Addr}{o:Obj}
def Zxz{M:Model}{E:Value->Shared->Prop}{s:Shared}{Q:Unit->Shared->Prop}(e:W.Looks M s.heap (isInstance (.ref a) (.type "object")) true)(hq:Q () s):wpAny M A (checkBuiltinCall "object.__eq__" ⟨[.ref a,.none],[]⟩) Q E s:=by
 have d:=PySem.F.cmpArgs_eq (.ref a) .none;simp only[checkBuiltinCall,PySem.F.cmpKind_eq,PySem.F.cmpSplit_eq];refine wpAny_bind (e.here ?_);simp only[Bool.not_true,Bool.false_eq_true,if_false];cases b:Manifest.signature? "object.__eq__" with
 | none=>exact wpAny_pure hq
 | some c=>
  simp only[argsOk,b]at d;have h2:Bind.checkArgs "object.__eq__" c ⟨[.ref a,.none],[]⟩=pure ():=d;show wpAny M A (Bind.checkArgs "object.__eq__" c ⟨[.ref a,.none],[]⟩) Q E _;rw[h2];exact wpAny_pure hq
def Zug{prog:Program}{w:World}{E:Value->Shared->Prop}{s:Shared}{Q:Value->Shared->Prop}(b:W.Looks (model prog w) s.heap (isInstance (.ref a) (.type "object")) true)(hq:Q .notImplemented s):
  wpAny (model prog w) A (call (.builtin "object.__eq__") [.ref a,.none]) Q E s:=by
 refine wpAny_call (codeAny_call_builtin PySem.F.cmp_object.eq.plain PySem.F.cmpEntry_eq (Zxz b ?_));obtain⟨h,g,d,t,os⟩:=s;unfold Builtin.«object.__eq__»
 repeat (first | with_reducible refine wpAny_bind (m:=isSame (.ref a) .none) (wpAny_pure ?_) | wp_step)
 exact hq
def Zvd{prog:Program}{w:World}{E:Value->Shared->Prop}{s:Shared}{Q:Option Value->Shared->Prop}(X:K.In s.heap)(hx:s.heap.get? a=some o)(hc:o.cls=.ref C)(b:EqD K C)(hq:Q none s):
  wpAny (model prog w) A (tryCompare (.ref a) "__eq__" .none) Q E s:=by
 have LT:W.Looks (model prog w) s.heap (typeOf (.ref a)) (.ref C):=hc ▸ (W.Looks.ld hx).andThen .now;have c:W.Looks (model prog w) s.heap (isInstance (.ref a) (.type "object")) true:=LT.andThen (W.looks_mroIn X b.ob);have d:W.Looks (model prog w) s.heap (specialOf (.ref a) "__eq__") (some (.builtin "object.__eq__")):=LT.andThen (W.looks_findIn X b.eq);simp only[tryCompare];refine wpAny_bind ?_;simp only[callSpecialIfBound?,bindSpecialIfBound?];refine wpAny_holding (wpAny_bind (wpAny_bind (d.here ?_)));simp only[PySem.F.cmp_object.eq.bind];have fin:wpAny (model prog w) A (call (.builtin "object.__eq__") ([.ref a]++[.none]) >>= λv=>pure (some v)) (λr s'=>wpAny (model prog w) A (match r with | some .notImplemented | none=>pure none | some v=>pure (some v)) Q E s') E s:=
  wpAny_bind (Zug c (wpAny_pure (wpAny_pure hq)))
 refine wpAny_bind (wpAny_askSetting (wpAny_ite ?_));split
 ·exact wpAny_bind (wpAny_pure (wpAny_pure fin))
 ·exact wpAny_tryCatch (wpAny_bind (wpAny_pure (wpAny_pure fin)))
def Zs0{s:Shared}(X:K.In s.heap)(hx:s.heap.get? a=some o)(hc:o.cls=.ref C)(d:EqD K C)(hu:A.units<cLine):SeqAt.RcAt A s (.ref a) .none false:=λprog w E Q h=>by
 have LT:W.Looks (model prog w) s.heap (typeOf (.ref a)) (.ref C):=hc ▸ (W.Looks.ld hx).andThen .now;have e:cmpInfo CmpOp.Eq=("==",("__eq__":Str),("__eq__":Str)):=rfl;have c:oneThing? .Eq (.ref a) .none=none:=rfl;simp only[richCompare,e,c]
 try with_reducible refine wpAny_holding ?_
 refine wpAny_bind (wpAny_cRoomFor_or (.inr hu) ?_);refine wpAny_bind (LT.here (wpAny_bind (m:=typeOf .none) (wpAny_pure ?_)));have b:(Value.ref C != Value.type "NoneType")=true:=by simp
 simp only[b,if_true];have hs:isSubtype (.type "NoneType") (.ref C)=pure false:=by
  rw[isSubtype_type,Zor];rfl
 refine wpAny_bind (wpAny_of_eq hs ?_);simp only[Bool.false_eq_true,if_false,Bool.not_false,if_true];refine wpAny_bind (m:=tryCompare (.ref a) _ .none) (Zvd X hx hc d ?_);refine wpAny_bind (m:=tryCompare .none _ (.ref a)) (wpAny_tryCompare_declines (T:="NoneType") rfl PySem.F.slot_NoneType_eq_refl (call_gives PySem.F.slot_NoneType_eq_refl rfl PySem.F.entry_NoneType_eq (PySem.F.args_NoneType_eq_2 _ _) (SeqAt.NoneType___eq___none_ref_0 a) ⟨rfl,?_⟩));exact wpAny_bind (wpAny_rule (wpAny_bind (wpAny_of_eq (rfl:isSame (.ref a) .none=pure false) (wpAny_pure h))))
def Zuf{s:Shared}(X:K.In s.heap)(hx:s.heap.get? a=some o)(hc:o.cls=.ref C)(c:EqD K C)(hu:A.units<cLine):SeqAt.EqAt A s (.ref a) .none false:=λprog w E Q h=>by
 unfold eqBool;refine wpAny_holding ?_;refine wpAny_ite_split (λb=>absurd (eq_of_beq b) nofun) (λ_=>?_);exact wpAny_bind (Zs0 X hx hc c hu prog w E _ (wpAny_truthy_bool h))
end
section
variable {X:Cx}
def Ek(u:Value):Bool:=match u with
 | .none=>true
 | _=>false
def Zdn{H:Hp}{y:V}{u:Value}(r:RelV y u)(h:y=.non\/∃a C dx fs,y=.ref a/\H a=some (.ins C dx fs)/\Hg X.K C/\EqD X.K C):Ek u=decide (y=.non):=by
 rcases h with rfl | ⟨a,_,_,_,rfl,_⟩
 ·obtain rfl:u=Value.none:=r;rfl
 ·obtain rfl:u=Value.ref a:=r;rfl
def Zot{b:List (Addr×Obj)}{σ:L2.St}{H:Hp}{s:Shared}{A:Around}{y:V}{u:Value}(I:Inv X b σ H s)(hu:A.units<cLine)(r:RelV y u)(h:y=.non\/∃a C dx fs,y=.ref a/\H a=some (.ins C dx fs)/\Hg X.K C/\EqD X.K C):SeqAt.EqAt A s u .none (Ek u):=by
 rcases h with rfl | ⟨a,C,dx,fs,rfl,d,hc,c⟩
 ·obtain rfl:u=Value.none:=r;exact SeqAt.EqAt.same .none
 ·obtain rfl:u=Value.ref a:=r;obtain⟨_,_,_,e,_⟩:=(show lA X.prog X.w H s.heap a (.ins C dx fs)from I.hok a _ d);exact Zuf I.Et e rfl c hu
def Zdm{H:Hp}:∀{xs:List V}{us:List Value},Vals xs us->OkN X.K H xs->us.any Ek=decide (V.non∈xs)
 | _,_,.nil,_=>rfl
 | y::xs,u::us,.cons r t,h=>by
  rw[List.any_cons,Zdm t λz hz=>h z (List.mem_cons_of_mem _ hz),Zdn r (h y List.mem_cons_self),Bool.eq_iff_iff];simp only[Bool.or_eq_true,decide_eq_true_eq,List.mem_cons];constructor
  ·rintro(z | z)
   ·exact .inl z.symm
   ·exact .inr z
  ·rintro(z | z)
   ·exact .inl z.symm
   ·exact .inr z
def Zdk{H:Hp}{a:List (Addr×Obj)}{σ:L2.St}{s:Shared}{A:Around}{xs:List V}{us:List Value}(I:Inv X a σ H s)(hu:A.units<cLine)(r:Vals xs us)(h:OkN X.K H xs):∀u∈us,SeqAt.EqAt A s u .none (Ek u):=by
 intro u hm;obtain⟨i,b,rfl⟩:=List.getElem_of_mem hm;have hl:=r.length;have hx:xs[i]? =some xs[i]:=bK (by omega);obtain⟨d,e,c⟩:=r.get hx;rw[bK b]at e;cases e;exact Zot I hu c (h _ (List.getElem_mem (by omega)))
def Zla(hu:X.A.units+1<cLine):zA X (compareOp .NotIn) (Zvy X.K true):=by
 intro a s σ H x y v u Q I c b h;obtain⟨p,xs,rfl,rfl,hs,hk,q⟩:=h;obtain rfl:v=Value.none:=c;cases b;obtain⟨us,r,pl,_⟩:=I.list hs;refine SeqAt.notIn_listAt Ek pl.isList (λw d=>Zdk I (by show X.A.units+1<cLine;exact hu) r hk w (by simpa using d)) ⟨.bl _,H,I,rfl,?_⟩;rw[show us.toArray.any Ek=us.any Ek by simp,Zdm r hk];exact q
def Zdl{H:Hp}{xs:List V}{us:List Value}(r:Vals xs us)(h:OkN X.K H xs)(j:Nat)(c:j<us.length)(a:j<xs.length):Ek us[j]=decide (xs[j]=V.non):=by
 obtain⟨d,e,b⟩:=r.get (bK a);rw[bK c]at e;cases e;exact Zdn b (h _ (List.getElem_mem a))
def Zli(hu:X.A.units+1<cLine):MtR X "list.index" (Zjs X.K):=by
 intro k s σ H x xs v us Q I l rs h;obtain⟨p,a,rfl,rfl,hs,hk,hn,q⟩:=h;obtain rfl:v=Value.ref p:=l;obtain⟨u,rfl,t⟩:=Vals.one rs;obtain rfl:u=Value.none:=t;obtain⟨b,r,pl,hz⟩:=I.list hs;obtain⟨⟨o,dd,g,sl⟩,i,hc,n,hd⟩:=pl.isList;simp only at hc hd;subst hc hd;have hl:=r.length;have d:a.idxOf V.non<a.length:=List.idxOf_lt_length_iff.mpr hn;have m:a.length<2 ^ 62:=Nat.lt_of_le_of_lt hz (by decide);refine call_meets PySem.F.slot_list_index ⟨_,i,rfl⟩ PySem.F.entry_list_index (PySem.F.args_list_index_2 _ _)
  (SeqAt.list_indexAt p b.toArray n dd sl .none Ek (a.idxOf V.non) (by simpa[hl]using d) (by omega) ?_ ?_) ⟨i,λy hy=>Zdk I (by show X.A.units+1<cLine;exact hu) r hk y (by simpa using hy),⟨.int _,H,I.tok _,⟨_,rfl⟩,q⟩⟩
 ·show Ek b[a.idxOf V.non]=true;rw[Zdl r hk _ (by omega) d,decide_eq_true_eq];exact List.getElem_idxOf d
 ·intro j f c;show Ek b[j]=false;rw[Zdl r hk j (by simpa using f) (by omega),decide_eq_false_iff_not];intro e;have:=List.not_of_lt_findIdx (p:=(· == V.non)) (xs:=a) c;simp[e]at this
def Zw4(hu:X.A.units+1<cLine):zA X (compareOp .NotEq) (ZC X.K true):=by
 intro f s σ H x y v u Q I l k h;obtain⟨p,o,xs,i,rfl,rfl,hx,hy,g,q⟩:=h;cases l;cases k;obtain⟨us,e,a,_⟩:=I.list hx;obtain⟨r,d,b,_⟩:=I.list hy;have c:X.A.units<cLine:=by omega
 by_cases hl:xs.length=i.length
 ·obtain⟨m,n⟩:=Yk e d (g hl).1 (g hl).2 hl;refine SeqAt.RcNeAt.lists a.isList b.isList (by rw[List.size_toArray,List.size_toArray,<- e.length,<- d.length];exact hl) c (λj h1 h2=>m _ _ j h1 h2) X.prog X.w X.xe _ ?_;rw[n];exact⟨.bl _,H,I,rfl,q⟩
 ·refine SeqAt.RcNeAt.lists_lengths a.isList b.isList ?_ c X.prog X.w X.xe _ ?_
  ·rw[List.size_toArray,List.size_toArray,<- e.length,<- d.length];simpa using hl
  ·refine⟨.bl _,H,I,rfl,?_⟩;have:=q;rw[Zk8 hl]at this;exact this
end
end G
namespace G
open PySem L2
def KY(C:Addr):TE:=λ_ H Q=>∀x dx,H x=none->H dx=none->dx≠x->Q (.ref x) (upd (upd H dx (.own x)) x (.ins C dx []))
def Ztm{C:Addr}{σ:St}{H:Hp}{Q:VK}(h:∀x dx,H x=none->H dx=none->dx≠x->Q (.ref x) (upd (upd H dx (.own x)) x (.ins C dx []))):KY C σ H Q:=h
def KR(t u:TE):TE:=λσ H Q=>t σ H Q\/u σ H Q
def XS{t u:TE}{σ:St}{H:Hp}{Q:VK}(h:t σ H Q):KR t u σ H Q:=.inl h
def J3{t u:TE}{σ:St}{H:Hp}{Q:VK}(h:u σ H Q):KR t u σ H Q:=.inr h
end G
namespace G
open PySem L2 PySem.Spec PyProof.Rows
section
variable {X:Cx}
def wO{e:Expr}{t u:TE}(h1:PE X e t)(h2:PE X e u):PE X e (KR t u):=by
 intro a s σ H Q I h;rcases h with h | h
 ·exact h1 a s σ H Q I h
 ·exact h2 a s σ H Q I h
structure Mk0(K:aB)(C:Addr):Prop where
 makes:W.makesIn K C=true
 init:W.findIn K (.ref C) "__init__"=some (some (.builtin "object.__init__"))
 kp:W.keepIn K (.ref C)=true
def Zgv{C:Addr}{a:List (Addr×Obj)}{σ:L2.St}{H:Hp}{s:Shared}{Q:VK}(M:Mk0 X.K C)(I:Inv X a σ H s)
  (h:∀x dx,H x=none->H dx=none->dx≠x->Q (.ref x) (upd (upd H dx (.own x)) x (.ins C dx []))):wpAny (model X.prog X.w) X.A (call (.ref C) []) (EP X a σ Q) X.xe s:=by
 have hq:=h (s.heap.objs.size+1) s.heap.objs.size (I.hok.fresh (Nat.le_succ _)) (I.hok.fresh (Nat.le_refl _)) (Nat.ne_of_lt (Nat.lt_succ_self _));have c:=Inv.made (C:=C) I;have Y:=W.makes_of (M:=model X.prog X.w) I.Et M.makes;refine wpAny_call (Zlj I.Et M.makes M.init (λself=>W.Looks.of_pure (W.oi_bind self)) ?_);have d:((s.heap.push W.emptyDict).push (W.instObj C s.heap.objs.size)).get? (s.heap.objs.size+1)=some (W.instObj C s.heap.objs.size):=by
  have:=Heap.get?_push_size (s.heap.push W.emptyDict) (o:=W.instObj C s.heap.objs.size) rfl;rw[Heap.size_push]at this;exact this
 have t1:W.Looks (model X.prog X.w) ((s.heap.push W.emptyDict).push (W.instObj C s.heap.objs.size)) (typeOf (.ref (s.heap.objs.size+1))) (.ref C):=(W.Looks.ld d).andThen .now;have t2:W.Looks (model X.prog X.w) ((s.heap.push W.emptyDict).push (W.instObj C s.heap.objs.size)) (isInstance (.ref (s.heap.objs.size+1)) (.type "object")) true:=t1.andThen (Y.top.keeps λb o e=>Heap.get?_push_of_some _ (Heap.get?_push_of_some _ e));refine codeAny_call_builtin W.oi_plain W.entry_oi (@W.check_slot (model X.prog X.w) _ _ _ "object.__init__" "object" "__init__" (.ref (s.heap.objs.size+1)) [] [] _ W.oi_kind W.oi_split t2 (W.oi_args (.ref (s.heap.objs.size+1))) ?_);rw[W.oi_run];exact wpAny_pure (And.intro rfl ⟨V.ref (s.heap.objs.size+1),_,c,rfl,hq⟩)
def Lz{C:Addr}{x:Str}{p b:Pos}(M:Mk0 X.K C)(d:Gl X x)(hm:X.mg x=some (.ref C))(a:(x == ("__debug__":Str))=false:=by decide):PE X (.Call (.Name x p) [] [] b) (KY C):=by
 intro c s σ H Q I h;refine wpAny_Call_Name_kw (uY I d hm ?_ a);exact W.callWith_K0 I.Et M.kp (Zgv M I h)
structure ZJf(K:aB)(C:Addr):Prop where
 pg:W.plainGet K C "__class__"=true
 hd:W.hasDictIn K C=true
 cl:W.findIn K (.ref C) "__class__"=some (some (.builtin "object.__class__"))
 sp:W.specialIn K (.builtin "object.__class__") "__get__"=some (some (.builtin "getset_descriptor.__get__"))
 tk:W.takesIn K (.builtin "object.__class__")=some true
 so:W.mroIn K C (.type "object")=some true
end
end G
namespace G
open PySem L2
end G
namespace G
open PySem L2 PySem.Spec PyProof.Rows
end G
namespace G
open PySem L2 PySem.Spec PyProof.Rows
def Zf6(w:World):List DictEntry->List (Str×Addr)->Prop
 | [],[]=>True
 | e::a,p::t=>e.hash=hashStr w p.1/\(∃tk,e.key=.str p.1 tk)/\e.val=.ref p.2/\Zf6 w a t
 | _,_=>False
def Tab(K:aB)(w:World)(mg:Str->Option Value)(nm:Str)(Rc:List (Str×Addr)):Prop:=
 ∃dd o a b,mg nm=some (.ref dd)/\K.lookup dd=some o/\o.ExactDict/\o.data=.dict a b/\Zf6 w a.toList Rc
def Zf6.keys{prog:Program}{w:World}:∀{a:List DictEntry}{Rc:List (Str×Addr)},Zf6 w a Rc->∀e∈a,∃k,(strKind prog w).is k e.key=true/\e.hash=(strKind prog w).hash k
 | [],_,_=>λe b=>absurd b List.not_mem_nil
 | e::a,[],h=>h.elim
 | e::a,p::t,h=>λx hx=>by
  obtain⟨h1,⟨tk,h2⟩,_,h4⟩:=h;rcases List.mem_cons.mp hx with rfl | hx
  ·refine⟨p.1,?_,h1⟩;rw[h2];show Value.isStrOf p.1 (.str p.1 tk)=true;simp[Value.isStrOf]
  ·exact Zf6.keys h4 x hx
def Zf6.find{w:World}:∀{c:List DictEntry}{Rc:List (Str×Addr)}{k:Str}{f:Addr},Zf6 w c Rc->Rc.lookup k=some f->(c.find? λe=>Value.isStrOf k e.key).map (·.val)=some (.ref f)
 | [],[],_,_,_,h=>by cases h
 | [],_::_,_,_,h,_=>h.elim
 | _::_,[],_,_,h,_=>h.elim
 | e::c,p::t,k,f,h,hl=>by
  obtain⟨_,⟨tk,h2⟩,h3,h4⟩:=h;rw[List.find?_cons,h2]
  by_cases hk:k=p.1
  ·subst hk;have d:Value.isStrOf p.1 (.str p.1 tk)=true:=by simp[Value.isStrOf]
   rw[d];have g:List.lookup p.1 (p::t)=some p.2:=by
    obtain⟨a,b⟩:=p;simp[List.lookup]
   rw[g]at hl;cases hl;show some e.val=_;rw[h3]
  ·have d:Value.isStrOf k (.str p.1 tk)=false:=by
    simp only[Value.isStrOf,beq_eq_false_iff_ne,ne_eq];exact λz=>hk z.symm
   rw[d];have g:List.lookup k (p::t)=List.lookup k t:=by
    obtain⟨a,b⟩:=p;simp only[List.lookup];rw[beq_eq_false_iff_ne.mpr hk]
   rw[g]at hl;exact Zf6.find h4 hl
def Zrf(Rc:List (Str×Addr))(a:TE):TE:=λσ H Q=>a σ H λy b=>∃k f,y=.str k/\Rc.lookup k=some f/\Q (.ref f) b
def Zzg{Rc:List (Str×Addr)}{a:TE}{σ:L2.St}{H:Hp}{Q:VK}(h:a σ H λy b=>∃k f,y=.str k/\Rc.lookup k=some f/\Q (.ref f) b):Zrf Rc a σ H Q:=h
def Zob{X:Cx}{nm:Str}{Rc:List (Str×Addr)}{i:Expr}{m:TE}{p b:Pos}(T:Tab X.K X.w X.mg nm Rc)(t:Gl X nm)(r:PE X i m)(hs:Zuo i)(hd:(nm == ("__debug__":Str))=false:=by decide):
  PE X (.Subscript (.Name nm p) i b) (Zrf Rc m):=by
 intro a s σ H Q I h;obtain⟨dd,o,c,n,hm,hk,g,d,j⟩:=T;refine Zjo PySem.F.slot_dict_getitem.lookup hs (uY I t hm ?_ hd);refine iR (r a s σ H _ I h) λu z ⟨y,H2,I2,ry,k,f,ey,l,q2⟩=>?_;subst ey;have hh:=I2.Et dd o hk;refine⟨⟨o,hh,g.1⟩,?_⟩;obtain⟨tk,rfl⟩:∃tk,u=.str k tk:=ry;refine wpAny_getItem_of (knd:=strKind X.prog X.w) (k:=k) (f:=λk=>findBy Value.isStrOf c k) (by show Value.isStrOf k (.str k tk)=true;simp[Value.isStrOf]) ⟨o,c,n,hh,g,d,λe q=>j.keys e (by simpa using q),λ_=>rfl⟩ (v:=.ref f) ?_ ⟨.ref f,H2,I2.tok _,rfl,q2⟩;show Option.map (λx=>x.val) (Array.find? (λe=>Value.isStrOf k e.key) c)=_;rw[<- Array.find?_toList];exact j.find l
def Uz(P:Program)(w:World)(K:aB)(mg:Str->Option Value)(base:Heap)(CX:CXT)(k:Nat)(ps:List Str)(L:List (Addr×Sp)):Prop:=
 ∀f sp,(f,sp)∈L->∃a fd,a<=k/\wB P w K mg base CX a f fd ps sp/\W.keepIn K (.ref f)=true/\L2.Binds K fd ps []
def Uz.nil{P:Program}{w:World}{K:aB}{mg:Str->Option Value}{base:Heap}{CX:CXT}{k:Nat}{ps:List Str}:Uz P w K mg base CX k ps []:=λ_ _ h=>absurd h List.not_mem_nil
def Uz.cons{P:Program}{w:World}{K:aB}{mg:Str->Option Value}{base:Heap}{CX:CXT}{k a:Nat}{ps:List Str}{L:List (Addr×Sp)}{f:Addr}{fd:FuncData}{sp:Sp}(hk:a<=k)(F:wB P w K mg base CX a f fd ps sp)(hb:L2.Binds K fd ps [])(hp:W.keepIn K (.ref f)=true)(t:Uz P w K mg base CX k ps L):Uz P w K mg base CX k ps ((f,sp)::L):=λg b h=>by
 rcases List.mem_cons.mp h with e | h
 ·cases e;exact⟨a,fd,hk,F,hp,hb⟩
 ·exact t g b h
def YB(i:Nat)(L:List (Addr×Sp))(E:XK)(t:TA):TE:=λσ H Q=>∃f sp,σ[i]? =some (some (.ref f))/\(f,sp)∈L/\t σ H λvs a=>sp vs a Q E
def nU{i:Nat}{L:List (Addr×Sp)}{E:XK}{t:TA}{σ:L2.St}{H:Hp}{Q:VK}{f:Addr}(sp:Sp)(a:σ[i]? =some (some (.ref f)))(hm:(f,sp)∈L)(h:t σ H λvs b=>sp vs b Q E):YB i L E t σ H Q:=⟨f,sp,a,hm,h⟩
def Zd2{X:Cx}{CX:CXT}{k i:Nat}{ps:List Str}{L:List (Addr×Sp)}{x:Str}{E:XK}{e:Expr}{c:List Expr}{t:TA}{p b:Pos}(F:Uz X.prog X.w X.K X.mg X.base CX k ps L)(hr:Room k X.A)(j:X.N[i]? =some x)(hv:Vis X.env.scope x)(hx:Passes CX X E)
  (q:PA X (e::c) t) (hd:(x == ("__debug__":Str))=false:=by decide) (g:(x == ("__classdict__":Str))=false:=by decide) (l:starEach (e::c) X.env=(false,eval e X.env)::starEach c X.env:=by rfl) (d:(backTo b (starEach c X.env)).any (·.1)=false:=by rfl):
  PE X (.Call (.Name x p) (e::c) [] b) (YB i L E t):=by
 intro a s σ H Q I h;obtain⟨f,sp,n,hm,h⟩:=h;obtain⟨y,fd,hk,m,hp,hb⟩:=F f sp hm;refine wpAny_Call_Name_kw (iR (Zoa j hv hd g a s σ H (λv H'=>v=.ref f/\H'=H) I ⟨_,n,rfl,rfl⟩) λu o ⟨v,H1,I1,r,e1,e2⟩=>?_);subst e1 e2;obtain rfl:u=Value.ref f:=r;refine W.callWith_K (h₀:=X.base) I1.ok.mod.kin hp (iR (q b a o σ H1 _ I1 h) λus z ⟨vs,H2,I2,r2,q2⟩=>⟨I2.Et,?_⟩) l d;refine Zt (wF:=[]) m (hr.mono hk) hb .nil hx I2 r2 ?_;rw[List.append_nil];exact q2
section
variable {σ:L2.St}{H:Hp}{Q:VK}{td ty tv:TE}{n bk ct:L2.St->Hp->Prop}{r:VK}
def Zxj(h:td σ H λx c=>ty σ c λy b=>∃a v,x=.ref a/\Og b a y (some v)/\Q v b):Ri td ty σ H Q:=h
def Zq0(h:ty σ H λy c=>td σ c λx b=>∃a o,x=.ref a/\Og b a y o/\Q (.bl (!o.isSome)) b):Yz ty td σ H Q:=h
def Zxh(h:tv σ H λv e=>td σ e λx d=>ty σ d λy c=>∃a b,x=.ref a/\W5 c a y v b/\n σ b):Oo td ty tv ⟨n,r,bk,ct⟩ σ H:=h
def Zqz{a:Addr}{b:List (L2.Key×V)}{z:Str}(e:H a=some (.dK b)):Og H a (.str z) (nZ b (Sum.inr z)):=Og.k (k:=Sum.inr z) e
def ZA6{a:Addr}{b:List (L2.Key×V)}{z:Str}{v:V}(e:H a=some (.dK b))(hl:b.length<sizeLine):W5 H a (.str z) v (upd H a (.dK (putK b (Sum.inr z) v))):=W5.k (k:=Sum.inr z) e hl
end
end G
namespace G
open PySem L2 PySem.Spec PyProof.Rows
def Zup(K:aB)(J:It)(b:List Nat)(tc:TT)(h:TE)(σ:L2.St)(g:Hp)(Q:VK):Prop:=∃W:Nat->Nat->List V->Hp->Prop,(∃m,W 0 m [] g)/\∀i m c H,W i m c H->
 (J.stop i H/\∀p,H p=none->Q (.ref p) (upd H p (.lst c)))\/
 (J.go i H/\c.length<sizeLine/\∀x H',J.yld i H x H'->∃a u v,x=.ref a/\fZ K H' a [u,v]/\tc (some u::some v::b.map (pick σ)) H' λk e=>if k=true then h (some u::some v::b.map (pick σ)) e (λy f=>∃d,d<m/\W (i+1) d (c++[y]) f)else ∃d,d<m/\W (i+1) d c e)
def Znc(K:aB)(b:TI)(a:List Nat)(tc:TT)(c:TE):TE:=λσ H Q=>b σ H λJ d=>Zup K J a tc c σ d Q
def Zx8{K:aB}{b:TI}{a:List Nat}{tc:TT}{c:TE}{σ:L2.St}{H:Hp}{Q:VK}(h:b σ H λJ d=>Zup K J a tc c σ d Q):Znc K b a tc c σ H Q:=h
def ZAn(K:aB)(b:TE):TE:=λσ H Q=>∃a u v r,σ=some (.ref a)::r/\fZ K H a [u,v]/\b (some u::some v::r) H Q
def Zk0{K:aB}{J:It}{b:List Nat}{c:TE}{σ:L2.St}{H:Hp}{Q:VK}(h:LCg J b wI (ZAn K c) σ H Q):Zup K J b wI c σ H Q:=by
 obtain⟨W,w0,step⟩:=h;refine⟨W,w0,λi m d H f=>?_⟩;rcases step i m d H f with z | ⟨g,l,st⟩
 ·exact .inl z
 ·refine .inr ⟨g,l,λx H' y=>?_⟩;have h1:=st x H' y;simp only[wI,↓reduceIte]at h1;obtain⟨a,u,v,r,e,hs,q⟩:=h1;cases e;refine⟨a,u,v,rfl,hs,?_⟩;simp only[wI,↓reduceIte];exact q
def Zh5{X:Cx}{o iter:Expr}{x y:Str}{F A pt r:Pos}{E:Nat}{k:List Expr}{a:Scope}{cl:List (Str×Addr)}{B:TI}{tc:TT}{D:TE}{cns:List Str}(b:List Nat)
  (O:PI X (.Tuple [.Name x F,.Name y A] E pt) iter B)
  (R:∀C s H ex pn,PF (Uh X a cl (x::y::cns) C s H ex pn) k tc) (I:∀C s H ex pn,PE (Uh X a cl (x::y::cns) C s H ex pn) o D) (hc:X.calm=true)
  (j:closureFor a X.env=pure cl) (w:AllIn X.env.cells cl) (n:Fp X cns b)
  (d:a.kind=.function) (e:(a.names.all λp=>p.2 != .cell)=true) (f:(a.names.all λp=>p.2 != .free || (cl.lookup p.1).isSome)=true)
  (u:(cns.all λy=>a.names.lookup y == some .free)=true) (c:∀y∈a.names,y.2=.local->a.names.lookup y.1=some .local) (hx:a.names.lookup x=some .local) (hy:a.names.lookup y=some .local) (q:(x::y::cns).Nodup)
  (hs:∀v,foldedSetIterable iter X.env v=pure v:=by intro _;rfl):
  PE X (.ListComp o [⟨.Tuple [.Name x F,.Name y A] E pt,iter,k,0⟩] a r) (Znc X.K B b tc D):=by
 refine Zof (ns:=[x,y]) (gt:=Zqf X.K 2 (Kc (aO 0) (Kc (aO 1) Zqg))) b (λJ σ H Q h=>?_) O (λC s H ex pn=>ZJ hc (uf (fQ q rfl (.inl (lookup_relabel_local hx)) (.inr (lookup_relabel_local hx))) (uf (fQ q rfl (.inl (lookup_relabel_local hy)) (.inr (lookup_relabel_local hy))) QB))) R I hc j w n d e f u c hs;obtain⟨W,w0,turn⟩:=h;refine⟨W,w0,λi m N H S=>(turn i m N H S).imp id λ⟨g,l,st⟩=>⟨g,l,λz H' y vs hv=>?_⟩⟩;obtain⟨P,L,M,T,t,st⟩:=st z H' y
 match vs,hv with
 | [v,U],_=>exact⟨[some L,some M],rfl,⟨P,_,T,t,rfl,_,_,rfl,_,_,rfl,rfl,rfl,rfl⟩,st⟩
end G
namespace G
open PySem L2 PySem.Spec PyProof.Rows
def Zo2{X:Cx}{iz:Nat}{z:Str}{pz Zyv:Pos}{elt iter:Expr}{x:Str}{px pos:Pos}{O:List Expr}{f:Scope}{cl:List (Str×Addr)}{wi:TI}{tc:TT}{te:TE}{cns:List Str}(E:List Nat)
  (hi:PI X (.Name x px) iter wi)
  (hf:∀C s H ex pn,PF (Uh X f cl (x::cns) C s H ex pn) O tc) (he:∀C s H ex pn,PE (Uh X f cl (x::cns) C s H ex pn) elt te) (hc:X.calm=true)
  (hclos:closureFor f X.env=pure cl) (hcl:AllIn X.env.cells cl) (hcap:Fp X cns E)
  (U:f.kind=.function) (hcell:(f.names.all λp=>p.2 != .cell)=true) (hfree:(f.names.all λp=>p.2 != .free || (cl.lookup p.1).isSome)=true)
  (hcf:(cns.all λy=>f.names.lookup y == some .free)=true) (hnames:∀y∈f.names,y.2=.local->f.names.lookup y.1=some .local) (hx:f.names.lookup x=some .local) (hnd:(x::cns).Nodup)
  (hN:X.N.Nodup) (hiz:X.N[iz]? =some z) (hz:Loc X.env.scope z) (hfz:X.fn z=true\/X.env.scope.names.lookup z=some .local)
  (hsw:swapsWithSole [.Name z pz] (.ListComp elt [⟨.Name x px,iter,O,0⟩] f pos) Zyv.line X.env=pure true) (hs:∀v,foldedSetIterable iter X.env v=pure v:=by intro _;rfl):
  PS X (.Assign [.Name z pz] (.ListComp elt [⟨.Name x px,iter,O,0⟩] f pos) Zyv) (bF (tLC wi E tc te) (aO iz)):=by
 intro t s σ H D I h;generalize hQ:(λv H1=>aO iz v σ H1 D.nx)=Q;have h:tLC wi E tc te σ H Q:=hQ ▸ h;rw[exec_Assign_arm];refine wpAny_bind (wpAny_standAt ?_);rw[hsw];refine wpAny_bind (wpAny_pure ?_);rw[if_pos rfl];refine wpAny_bind ?_;rw[evalThenUse]
 suffices key:wpAny (model X.prog X.w) X.A (comprehension (.ListComp elt [⟨.Name x px,iter,O,0⟩] f pos) f X.env (firstIterPos [⟨.Name x px,iter,O,0⟩] pos) (newList []) (firstAsync [⟨.Name x px,iter,O,0⟩]) (firstIter [⟨.Name x px,iter,O,0⟩] X.env) (some λv=>assignAll v ((assignEach [.Name z pz] X.env).map (·.2)))) (λ_ s'=>SP X t D .next s') X.xe s from
  wpAny_bind (wpAny_mono key (λ_ s' h=>wpAny_pure (wpAny_pure h)) λ_ _ h=>h)
 refine wpAny_comprehension_free rfl hs hclos U hnames (iR (hi t s σ H _ I h) λxv s1 h1=>iR h1 λitv s2 h2=>?_);obtain⟨it,S,tn,J,H2,rfl,K,T,st2,f2,W,⟨m0,w0⟩,turn⟩:=h2;have hne:∀y∈f.names,y.2≠.cell:=λy hy e=>by
  have:=List.all_eq_true.mp hcell y hy;rw[e]at this;simp at this
 refine wpAny_newObj_type (wpAny_newFunctionEnv hne (by intro y hy;simp at hy) (λh₁ M L=>?_) U);dsimp only at M L ⊢;generalize F:s2.heap.objs.size=acc;generalize hH3:s2.heap.push { cls:=.type "list",dict:=none,data:=.seq ([]:List Value).toArray }=h3 at M L ⊢;have hC:h3.objs.size=acc+1:=by rw[<- hH3,Heap.size_push,F]
 have Z:∀b o,s2.heap.get? b=some o->h3.get? b=some o:=λb o e=>hH3 ▸ Heap.get?_push_of_some _ e;have V1:∀b o,h3.get? b=some o->h₁.get? b=some o:=λb o e=>L.extBut b o (Nat.ne_of_lt (Heap.lt_size e)) (Heap.get?_push_of_some _ e);have Zwc:h3.get? acc=some { cls:=.type "list",dict:=none,data:=.seq ([]:List Value).toArray }:=by
  rw[<- hH3,<- F];exact Heap.get?_push_size _ rfl
 have I3:Inv X t σ H2 { s2 with heap:=h3 }:=K.kept (t':=s2.toks) Z;have Ziv:rH X t H2 acc:=K.Zek (Nat.le_of_eq F) (K.hok.fresh (Nat.le_of_eq F));have fpl:∀b∈S,b<acc:=λb hb=>by
  obtain⟨o,e,_⟩:=T.obj _ _ st2 b hb;rw[<- F];exact Heap.lt_size e
 have NB:∀b∈acc::S,rH X t H2 b:=λb hb=>(List.mem_cons.mp hb).elim (λe=>e ▸ Ziv) (f2 b);have exC:∀b∈acc::S,b≠h3.objs.size:=λb hb=>by
  rcases List.mem_cons.mp hb with e | hb
  ·rw[hC,e];exact Nat.ne_of_lt (Nat.lt_succ_self _)
  ·rw[hC];exact Nat.ne_of_lt (Nat.lt_succ_of_lt (fpl b hb))
 have Hi:∀b∈acc::S,b∉frs X.stack:=λb hb hm=>by
  obtain⟨_,g1,g2,_⟩:=NB b hb;exact(List.mem_cons.mp (K.Cv b hm)).elim g1 g2
 let Y:Cx:=Uh X f cl (x::cns) h3.objs.size { s2 with heap:=h3 } H2 (acc::S) (X.pn++t)
 have g:∀y c,cl.lookup y=some c->X.env.cells.lookup y=some c:=λy c e=>hcl.get e;have JV:∀y k,Y.env.kindOf y=some k->(k=.cell\/k=.free)->∃c,cl.lookup y=some c:=λy k e hk=>by
  have e0:(f.names.lookup y).map (Dn X.env y)=some k:=oJ.symm.trans e;obtain⟨k0,e1,e2⟩:=Option.map_eq_some_iff.mp e0;have e3:=lookup_all hfree e1;have e4:=lookup_all hcell e1
  by_cases hf:k0=.free
  ·subst hf;rw[Bool.or_eq_true]at e3;rcases e3 with e3 | e3
   ·exact absurd rfl (bne_iff_ne.mp e3)
   ·exact Option.isSome_iff_exists.mp e3
  ·exfalso
   have e5:Dn X.env y k0=k0:=by
    unfold Dn;rw[if_neg];intro z;rw[Bool.and_eq_true,Bool.and_eq_true]at z;exact hf (beq_iff_eq.mp z.1.1)
   rw[e5]at e2;subst e2;rcases hk with rfl | rfl
   ·simp at e4
   ·exact hf rfl
 have okY:Y.Ok:={
  mod:=K.ok.mod
  kind:=U
  glob:=K.ok.glob
  blt:=K.ok.blt
  above:=Nat.le_refl _
  inj:=λa b c e1 e2=>K.ok.inj a b c (g _ _ e1) (g _ _ e2)
  has:=λy hy=>hy.elim (λe=>JV y _ e (.inl rfl)) (λe=>JV y _ e (.inr rfl))
  cab:=λy c e=>nomatch e
  hd:=K.ok.hd
  frames:=K.ok.frames
  stk:=.inl rfl
  exf:=λb hb=>⟨exC b hb,λy c e=>(NB b hb).2.2.2.2.1 y c (g _ _ e)⟩
  bs:=λb o e=>⟨Z b o (K.bs b o e).1,(K.bs b o e).2⟩
  bsz:=by
   show X.base.objs.size<=h3.objs.size;rw[hC,<- F];exact Nat.le_succ_of_le (Nat.le_trans K.ok.bsz K.sz)
  VJ:=λb o e hb=>by
   rcases(NB b hb).2.2.2.1 with z | z
   ·exact K.ok.VJ b o e z
   ·exact absurd (Nat.lt_of_lt_of_le (Heap.lt_size e) (Nat.le_trans K.ok.bsz z)) (Nat.lt_irrefl _)
  Zeo:=Hi
  zz:=I3.stack
  frf:=I3.Qw }
 have Zwo:(none::E.map (pick σ):L2.St).length=(x::cns).length:=by rw[List.length_cons,List.length_cons,aX,hcap.len]
 have I4:Inv Y [] (none::E.map (pick σ)) H2 { s2 with heap:=h₁,toks:=s2.toks+([]:List (Str×Value)).length }:={
  ok:=okY
  os:=rfl
  bare:=K.bare
  base:=Un.kept V1
  loc:=by
   refine⟨_,M,λi y v e1 e2 e3=>?_⟩;cases i with
   | zero=>simp at e2
   | succ i=>
    obtain⟨j,j1,j2,j3⟩:=hcap.get (σ:=σ) (i:=i) (x:=y) (v:=v) (by have e1':(x::cns)[i+1]? =some y:=e1;simpa using e1') (by simpa using e2);obtain⟨m,hn,hl⟩:=K.loc;obtain⟨u,r,l⟩:=hl j y v j1 j3 (.inr (.inl j2));rcases l with ⟨l,_⟩ | ⟨_,c,l1,l2⟩
    ·rw[j2]at l;cases l
    ·refine⟨u,r,.inr ?_⟩;rcases e3 with e3 | e3 | e3
     ·exfalso
      have hm:y∈cns:=List.mem_of_getElem? (show cns[i]? =some y by have e1':(x::cns)[i+1]? =some y:=e1;simpa using e1');have hl:f.names.lookup y=some .free:=beq_iff_eq.mp (List.all_eq_true.mp hcf y hm);have e0:(f.names.lookup y).map (Dn X.env y)=some .local:=oJ.symm.trans e3;rw[hl]at e0;have e5:Dn X.env y .free=.local:=Option.some.inj e0;unfold Dn at e5;split at e5<;>cases e5
     ·obtain⟨c',hc'⟩:=JV y _ e3 (.inl rfl);have:=g _ _ hc';rw[l1]at this;cases this;exact⟨.inl e3,c,hc',l2.keeps λb o e=>V1 _ _ (Z _ _ e)⟩
     ·obtain⟨c',hc'⟩:=JV y _ e3 (.inr rfl);have:=g _ _ hc';rw[l1]at this;cases this;exact⟨.inr e3,c,hc',l2.keeps λb o e=>V1 _ _ (Z _ _ e)⟩
  cell:=λy c e=>by
   obtain⟨v,z⟩:=K.cell y c (g _ _ e);exact⟨v,z.keeps λb o e=>V1 _ _ (Z _ _ e)⟩
  free:=K.hok.fresh (by rw[F];show acc<=h3.objs.size;rw[hC];exact Nat.le_succ _)
  uo:=λy c e=>K.uo y c (g _ _ e)
  pin:=λp hp=>by
   have hp2:p∈(X.pn++t)++[]:=hp;have hp':p∈X.pn++t:=by rw[List.append_nil]at hp2;exact hp2
   obtain⟨p1,p2,p3,p4,p5⟩:=K.pin p hp';refine⟨V1 _ _ (Z _ _ p1),p2,?_,λhm=>(List.mem_cons.mp (K.Cv _ hm)).elim p3 p4,p5⟩;exact Nat.ne_of_lt (by show p.1<h3.objs.size;exact Heap.lt_size (Z _ _ p1))
  hok:=K.hok.kept λb u e=>V1 _ _ (Z _ _ e)
  len:=Zwo }
 have fpY:∀{H':Hp}{pl:List (Addr×Obj)}{b:Addr},b∈acc::S->H' b=none->(∀p∈pl,p.1≠b)->rH Y pl H' b:=λ{H' pl b} hb hn hp=>
  ⟨hn,exC b hb,Hi b hb,.inl hb,λy c e=>(NB b hb).2.2.2.2.1 y c (g _ _ e),λp hm=>(List.mem_append.mp hm).elim (λz=>(NB b hb).2.2.2.2.2 p z) (hp p)⟩
 have fin:∀{P:L2.St}{H':Hp}{s':Shared}{R:List V}{B:List Value}{kk:Nat}{pl:List (Addr×Obj)},Inv Y pl P H' s'->H' acc=none->Vals R B->R.length<=sizeLine->
   s'.heap.get? acc=some { cls:=.type "list",data:=.seq B.toArray kk }->(∀p,H' p=none->Q (.ref p) (upd H' p (.lst R)))->
   ∀h',Heap.SameBut h3.objs.size s'.heap h'->EP X t σ (λv Hf=>Q v Hf/\Hf h3.objs.size=none) (.ref acc) { s' with heap:=h' }:=λ{P H' s' R B kk pl} J ha hv hz ho hq h' hs'=>by
  have Zu3:acc≠h3.objs.size:=exC acc (List.mem_cons_self);have Es:∀b o,b≠h3.objs.size->s'.heap.get? b=some o->h'.get? b=some o:=λb o hb e=>hs'.extBut b o hb e;have ltC:∀b o,s2.heap.get? b=some o->b≠h3.objs.size:=λb o e=>Nat.ne_of_lt (Heap.lt_size (Z b o e));have Nr:H' h3.objs.size=none:=J.free;have un:Un (frs X.stack) (acc::S) H2 H' s2.heap h':={
   keep:=λb o e n hb hx=>Es b o (ltC b o e) (J.base.keep b o (Z b o e) n hb hx)
   slot:=λb o e n hb hx=>by
    obtain⟨sl,q⟩:=J.base.slot b o (Z b o e) n hb hx;exact⟨sl,Es b _ (ltC b o e) q⟩
   free:=λb o e n hx=>J.base.free b o (Z b o e) n hx
   there:=λb o e hx=>by
    obtain⟨o',q⟩:=J.base.there b o (Z b o e) hx;exact⟨o',Es b o' (ltC b o e) q⟩
   tups:=J.base.tups
   Ia:=J.base.Ia
   Iv:=J.base.Iv }
  have hok:Cm X.prog X.w H' h':=λb u e=>by
   refine(J.hok b u e).stay (λc v hc q=>Es c v ?_ q) (λ_ q=>q) λ_ _ q=>q;rintro rfl;rcases hc with rfl | hc
   ·rw[Nr]at e;cases e
   ·rw[Nr]at hc;cases hc
  have I5:Inv X t σ H' { s' with heap:=h' }:=K.call' (ch:=acc::S) J.os un hok J.bare λb hb=>by
   obtain⟨g0,g1,g2,g3,g4,g5⟩:=NB b hb;exact⟨g3,g1,g4,g5⟩
  refine⟨.ref acc,_,adopt (acc:=acc) I5 ?_ (Es _ _ Zu3 ho) hv hz,rfl,hq acc ha,by rw[aC Zu3.symm];exact Nr⟩;obtain⟨g0,g1,g2,g3,g4,g5⟩:=Ziv;exact⟨ha,g1,g2,g3,g4,g5⟩
 have loop:codeAny (model X.prog X.w) X.A (.compLoop (.ListComp elt [⟨.Name x px,iter,O,0⟩] f pos) 0 (.ref it) (.ref acc) Y.env) (compPost (model X.prog X.w) X.A X.xe (some λv=>assignAll v ((assignEach [.Name z pz] X.env).map (·.2))) (λ_ s'=>SP X t D .next s') (.ref acc) h3.objs.size)
   { s2 with heap:=h₁,toks:=s2.toks+([]:List (Str×Value)).length }:=by
  refine Pu (λn s'=>∃(i:Nat) (v:Option V) (R:List V) (B:List Value) (kk:Nat) (H':Hp),Inv Y [] (v::E.map (pick σ)) H' s'/\tn i s'.heap/\(∀b∈S,H' b=none)/\H' acc=none/\Vals R B/\R.length<=sizeLine/\
   s'.heap.get? acc=some { cls:=.type "list",data:=.seq B.toArray kk }/\W i n R H') ?_ m0 ⟨0,none,[],[],0,H2,I4,T.keep _ _ _ st2 (λb _ o e=>V1 _ _ (Z _ _ e)),λb hb=>(f2 b hb).1,Ziv.1,.nil,Nat.zero_le _,V1 _ _ Zwc,w0⟩
  rintro n s5 ⟨i,v,R,B,kk,H5,I5,st5,fr5,ha5,hv5,hz5,ho5,w5⟩;have Zo6:Inv Y [(acc,{ cls:=.type "list",data:=.seq B.toArray kk })] (v::E.map (pick σ)) H5 s5:=I5.uQ λp hp=>by
   have e:p=(acc,{ cls:=.type "list",data:=.seq B.toArray kk }):=by simpa using hp
   subst e;exact⟨ho5,ha5,exC acc List.mem_cons_self,Hi acc List.mem_cons_self,λv=>by intro z;cases z⟩
  have fpA:∀{H':Hp},(∀b∈S,H' b=none)->∀b∈S,rH Y [(acc,{ cls:=.type "list",data:=.seq B.toArray kk })] H' b:=λhn b hb=>fpY (List.mem_cons_of_mem _ hb) (hn b hb) λp hp=>by
   have e:p=(acc,{ cls:=.type "list",data:=.seq B.toArray kk }):=by simpa using hp
   subst e;exact(Nat.ne_of_lt (fpl b hb)).symm
  rcases turn i n R H5 w5 with ⟨stop,qn⟩ | ⟨go,hlt,step⟩
  ·refine iR (T.done Y rfl rfl rfl hc i _ s5 _ H5 (λ_ _=>False) Zo6 (fpA fr5) st5 stop) λr s6 ⟨hr,I6⟩=>?_;subst hr;obtain⟨m,hm,_⟩:=I6.loc;have ho6:=(I6.pin (acc,{ cls:=.type "list",data:=.seq B.toArray kk }) (List.mem_append_right _ List.mem_cons_self)).1;obtain⟨v,Hf,If,rf,qf,hfC⟩:=fin I6 ha5 hv5 hz5 ho6 qn s6.heap (Heap.SameBut.refl _ _);have fC:rH X t Hf h3.objs.size:=K.Zek (by rw[hC,F];exact Nat.le_succ _) hfC;obtain⟨oC,esC,epC,gC,dC,kC,nC⟩:=hm;have Ip:Inv X (t++[(h3.objs.size,oC)]) σ Hf s6:=Inv.uQ If λp hp=>by
    rcases List.mem_append.mp hp with hp | hp
    ·exact If.pin p (List.mem_append_right _ hp)
    ·rw[List.mem_singleton.mp hp];exact⟨gC,fC.1,fC.2.1,fC.2.2.1,λv z=>by rw[dC]at z;cases z⟩
   show wpAny _ _ (assign (.Name z pz) X.env (.ref acc)) _ _ _;refine wpAny_assign_Name (IK Ip hN hiz hz rf (λs7 I7=>?_) hfz);have g7:=(I7.pin (h3.objs.size,oC) (List.mem_append_right _ (List.mem_append_right _ List.mem_cons_self))).1;refine⟨m,⟨oC,esC,epC,g7,dC,kC,nC⟩,λh' hs'=>?_⟩;have I8:=I7.Io;have qf:D.nx (σ.set iz (some v)) Hf:=by rw[<- hQ]at qf;exact qf
   have kb:∀b o,b≠h3.objs.size->s7.heap.get? b=some o->h'.get? b=some o:=λb o hb e=>hs'.extBut b o hb e;refine⟨_,Hf,I8.step (ch:=[h3.objs.size]) (λb hb=>?_) (λb o _ _ hb e _=>kb b o (λz=>hb (by rw[z];exact List.mem_cons_self)) e) (λb o _ _ hb e _=>⟨o.slots,kb b o (λz=>hb (by rw[z];exact List.mem_cons_self)) e⟩) (λ_ _ _ _ h=>h) (λb o hb e=>⟨o,kb b o (λz=>hb (by rw[z];exact List.mem_cons_self)) e⟩) (λ_ _ h=>h) (λ_ _ _ h=>h) (λ_ ps h=>⟨#[],by simpa using h⟩) (λm' hm'=>?_) (λb u e=>?_) I8.bare,qf⟩
   ·rw[List.mem_singleton.mp hb];exact⟨fC.2.2.2.1,fC.2.1,fC.2.2.2.2.1,fC.2.2.2.2.2⟩
   ·obtain⟨o',e1,e2,e3,e4,e5⟩:=hm';exact⟨o',e1,e2,kb _ _ fC.2.1.symm e3,e4,e5⟩
   ·refine(I8.hok b u e).stay (λc w' hc q=>kb c w' ?_ q) (λ_ q=>q) λ_ _ q=>q;rintro rfl;rcases hc with rfl | hc
    ·rw[hfC]at e;cases e
    ·rw[hfC]at hc;cases hc
  ·refine iR (T.item Y rfl rfl rfl hc i _ s5 _ H5 (λ_ _=>False) Zo6 (fpA fr5) st5 go) λr s6 ⟨u,hr,h6⟩=>?_;subst hr;refine iR h6 λ_ s7 ⟨z,H7,I7,r7,y7,st7,fr7⟩=>?_;have I7':=I7.pinned (fpA fr7) (T.obj _ _ st7);have pg:PG Y (.Name x px) (aO 0):=fQ hnd rfl (.inl (lookup_relabel_local hx)) (.inr (lookup_relabel_local hx));refine iR (pg _ s7 _ H7 z u (λσ2 H2'=>σ2=some z::E.map (pick σ)/\H2'=H7) I7' r7 ⟨rfl,rfl⟩) λ_ s8 ⟨σ8,H8,I8,e8,e8'⟩=>?_;subst e8 e8';refine iR (hf _ _ _ _ _ _ s8 _ H8 _ I8 (step z H8 y7)) λok s9 ⟨H9,I9,q9⟩=>?_;have stat:∀{H':Hp}{s':Shared}{P:L2.St},Inv Y ([(acc,{ cls:=.type "list",data:=.seq B.toArray kk })]++yr S s7.heap) P H' s'->tn (i+1) s'.heap/\(∀b∈S,H' b=none)/\H' acc=none/\s'.heap.get? acc=some { cls:=.type "list",data:=.seq B.toArray kk }:=λ{H' s' P} J=>by
    have pa:=J.pin (acc,{ cls:=.type "list",data:=.seq B.toArray kk }) (List.mem_append_right _ (List.mem_append_left _ List.mem_cons_self));refine⟨T.keep _ _ _ st7 λb hb o e=>(J.pin (b,o) (List.mem_append_right _ (List.mem_append_right _ (oH hb e)))).1,λb hb=>?_,pa.2.1,pa.1⟩;obtain⟨o,e,d⟩:=T.obj _ _ st7 b hb;exact(J.pin (b,o) (List.mem_append_right _ (List.mem_append_right _ (oH hb e)))).2.1
   have Zdj:∀{H':Hp}{s':Shared}{P:L2.St}{pl:List (Addr×Obj)},Inv Y pl P H' s'->Inv Y [] P H' s':=λJ=>J.uQ λp hp=>nomatch hp;cases ok with
   | false=>
    obtain⟨m',hm,w9⟩:=q9;obtain⟨t1,t2,t3,t4⟩:=stat I9;exact⟨m',hm,i+1,some z,R,B,kk,H9,Zdj I9,t1,t2,t3,hv5,hz5,t4,w9⟩
   | true=>
    show wpAny _ _ (eval elt Y.env) _ _ s9;refine iR (he _ _ _ _ _ _ s9 _ H9 _ I9 q9) λy s10 ⟨yv,H10,I10,r10,m',hm,w10⟩=>?_;obtain⟨t1,t2,t3,t4⟩:=stat I10;have Zyg:Inv Y (yr S s7.heap) (some z::E.map (pick σ)) H10 s10:=I10.uQ λp hp=>I10.pin p (List.mem_append_right _ (List.mem_append_right _ hp));have fA:rH Y (yr S s7.heap) H10 acc:=fpY List.mem_cons_self t3 λp hp=>Nat.ne_of_lt (fpl _ (Mv hp).1);have Ja:=adopt Zyg fA t4 hv5 hz5;refine iR (qt (X:=Y) _ s10 _ _ (.ref acc) [yv] (.ref acc) [y] (λ_ H'=>H'=upd (upd H10 acc (.lst R)) acc (.lst (R++[yv]))) Ja rfl (.cons r10 .nil) ⟨acc,R,yv,rfl,rfl,aq,hlt,rfl⟩) λ_ s11 ⟨_,H11,I11,_,e11⟩=>?_;rw[eG]at e11;subst e11;obtain⟨Zxo,its',kk',Zxp,Zxq⟩:=I11.hok acc _ aq;have Jd:=disown I11 fA;have Zvm:tn (i+1) s11.heap:=T.keep _ _ _ st7 λb hb o e=>(Jd.pin (b,o) (List.mem_append_right _ (oH hb e))).1;exact⟨m',hm,i+1,some z,R++[yv],its',kk',H10,Zdj Jd,Zvm,t2,t3,Zxp,Zxo,Zxq,w10⟩
 exact codeAny_compStart_list loop (T.self X.A 0 _ _ _ (T.keep _ _ _ st2 (λb _ o e=>V1 _ _ (Z _ _ e))) loop)
end G
namespace G
open PySem L2 PySem.Spec PyProof.Rows
end G
namespace G
open PySem L2
def Ite(K:aB)(a:Addr):It:=
 ⟨λi H=>∃xs x,cj K H a xs/\xs[i]? =some x,λi H x H'=>∃t v,x=.ref t/\H t=none/\H'=upd H t (.tup [.int i,v])/\∀xs,cj K H a xs->xs[i]? =some v,λi H=>∃xs,cj K H a xs/\xs.length<=i⟩
def Zeg(K:aB)(c:TA):TI:=λσ H R=>c σ H λvs b=>∃a,vs=[.ref a]/\(∃xs,cj K b a xs)/\R (Ite K a) b
def ZBb{K:aB}{b:TA}{σ:L2.St}{H:Hp}{R:It->Hp->Prop}(h:b σ H λvs c=>∃a,vs=[.ref a]/\(∃xs,cj K c a xs)/\R (Ite K a) c):Zeg K b σ H R:=h
def M8(v d:Addr):HO:=.ext λh=>h.IsItemsView v d
def Zfx(d:TE):TE:=λσ H Q=>d σ H λx c=>∃a b,x=.ref a/\Rd c a (.dK b)/\∀v,c v=none->Q (.ref v) (upd c v (M8 v a))
def Ztp{d:TE}{σ:L2.St}{H:Hp}{Q:VK}(h:d σ H λx c=>∃a b,x=.ref a/\Rd c a (.dK b)/\∀v,c v=none->Q (.ref v) (upd c v (M8 v a))):Zfx d σ H Q:=h
def Zf7(H:Hp):List Addr->List (Key×V)->Prop
 | [],[]=>True
 | t::ts,kv::a=>H t=some (.tup [kV kv.1,kv.2])/\Zf7 H ts a
 | _,_=>False
def Zjb:List V->Hp->VK->Prop:=λxs H Q=>∃v a b,xs=[.ref v]/\H v=some (M8 v a)/\Rd H a (.dK b)/\∀l ts H',H l=none->aV H H'->H' l=some (.lst (ts.map V.ref))->Zf7 H' ts b->Q (.ref l) H'
def Zto{H:Hp}{Q:VK}{v a:Addr}{b:List (Key×V)}(h1:H v=some (M8 v a))(h2:Rd H a (.dK b))(h:∀l ts H',H l=none->aV H H'->H' l=some (.lst (ts.map V.ref))->Zf7 H' ts b->Q (.ref l) H'):Zjb [.ref v] H Q:=⟨v,a,b,rfl,h1,h2,h⟩
def Zu2(a:List (Key×V)):V->Option Bool
 | .int i=>some (nZ a (.inl i)).isSome
 | .str x=>some (nZ a (.inr x)).isSome
 | .non=>some false
 | _=>none
def Znd(d:Bool)(ty f:TE):TE:=λσ H Q=>ty σ H λy g=>f σ g λx e=>∃a c b,x=.ref a/\Rd e a (.dK c)/\Zu2 c y=some b/\Q (.bl (if d then !b else b)) e
def Zxi{d:Bool}{ty f:TE}{σ:L2.St}{H:Hp}{Q:VK}(h:ty σ H λy g=>f σ g λx e=>∃a c b,x=.ref a/\Rd e a (.dK c)/\Zu2 c y=some b/\Q (.bl (if d then !b else b)) e):Znd d ty f σ H Q:=h
section
variable {K:aB}{a:Addr}{g:TG}{tb:TS}{σ:L2.St}{H:Hp}{n:L2.St->Hp->Prop}{r:VK}
def ZA1(xs:List V)(Pv:Nat->L2.St->Hp->Prop)(l:Pv 0 σ H)(hl:∀i σ H,i<=xs.length->Pv i σ H->cj K H a xs)
  (hs:∀i x t σ H,xs[i]? =some x->Pv i σ H->H t=none->g (.ref t) σ (upd H t (.tup [.int i,x])) λc d=>tb ⟨Pv (i+1),r,n,Pv (i+1)⟩ c d) (hd:∀ σ H,Pv xs.length σ H->n σ H):
  ∃W:Nat->Nat->L2.St->Hp->Prop,(∃m,W 0 m σ H)/\∀i m σ H,W i m σ H->
   ((Ite K a).stop i H/\n σ H)\/((Ite K a).go i H/\∃N:L2.St->Hp->Prop,(∀ b H',N b H'->∃f,f<m/\W (i+1) f b H')/\∀x H',(Ite K a).yld i H x H'->g x σ H' λc d=>tb ⟨N,r,n,N⟩ c d):=by
 refine⟨λi m σ H=>i<=xs.length/\m=xs.length - i/\Pv i σ H,⟨xs.length,Nat.zero_le _,rfl,l⟩,?_⟩;rintro i m σ H ⟨j,rfl,p⟩;have hq:=hl i σ H j p
 by_cases hk:i=xs.length
 ·subst hk;exact .inl ⟨⟨xs,hq,Nat.le_refl _⟩,hd σ H p⟩
 ·have e:i<xs.length:=by omega
  have hx:xs[i]? =some xs[i]:=bK e;refine .inr ⟨⟨xs,_,hq,hx⟩,Pv (i+1),λb H' k=>⟨xs.length - (i+1),by omega,by omega,rfl,k⟩,?_⟩;rintro x H' ⟨t,v,rfl,h,rfl,hv⟩;exact hs i v t σ H (hv xs hq) p h
def Zt9{d:List Nat}{tc:TT}{l:TE}{Q:VK}{xs:List V}(hs:cj K H a xs)(hz:xs.length<=1000000)(W:Nat->List V->Hp->Prop)(s:W 0 [] H)(g:∀i c b,W i c b->aV H b/\c.length<=i)
  (step:∀i x c b t (C:List V->Hp->Prop),(∀f e,W (i+1) f e->C f e)->xs[i]? =some x->W i c b->b t=none->tc (some (.int i)::some x::d.map (pick σ)) (upd b t (.tup [.int i,x])) λk j=>if k=true then l (some (.int i)::some x::d.map (pick σ)) j (λy e=>C (c++[y]) e)else C c j)
  (q:∀c b,W xs.length c b->∀p,b p=none->Q (.ref p) (upd b p (.lst c))):Zup K (Ite K a) d tc l σ H Q:=by
 refine⟨λi m c b=>i<=xs.length/\m=xs.length - i/\W i c b,⟨xs.length,Nat.zero_le _,rfl,s⟩,?_⟩;rintro i m c b ⟨u,rfl,w⟩;obtain⟨sm,hl⟩:=g i c b w;have hq:cj K b a xs:=sm.seq hs
 by_cases hk:i=xs.length
 ·subst hk;exact .inl ⟨⟨xs,hq,Nat.le_refl _⟩,q c b w⟩
 ·have h:i<xs.length:=by omega
  refine .inr ⟨⟨xs,_,hq,bK h⟩,Nat.lt_of_le_of_lt (show c.length<=1000000 by omega) (show 1000000<sizeLine by decide),?_⟩;rintro x H' ⟨t,v,rfl,o,rfl,hv⟩;exact⟨t,_,_,rfl,fZ.of aq,step i v c b t (λf e=>∃n,n<xs.length - i/\i+1<=xs.length/\n=xs.length - (i+1)/\W (i+1) f e) (λf e r=>⟨xs.length - (i+1),by omega,by omega,rfl,r⟩) (hv xs hq) w o⟩
end
end G
namespace G
open PySem L2 PySem.Spec PyProof.Rows
def Zlw{X:Cx}{a:List (Addr×Obj)}{σ:L2.St}{H:Hp}{s:Shared}{h':Heap}{t':Nat}{e d:Addr}(I:Inv X a σ H s)(k:∀b u,b≠e->b≠d->s.heap.get? b=some u->h'.get? b=some u)(g:rH X a H e)(f:rH X a H d):
  Inv X a σ H { s with heap:=h',toks:=t' }:=by
 have ne:∀b u,H b=some u->b≠e:=λb u q z=>by rw[z,g.1]at q;cases q
 have h:∀b u,H b=some u->b≠d:=λb u q z=>by rw[z,f.1]at q;cases q
 have nm:∀b,b∉[e,d]->b≠e/\b≠d:=λb hb=>⟨λz=>hb (by simp[z]),λz=>hb (by simp[z])⟩;refine I.step (g':=s.gens) (d':=s.drawn) (ch:=[e,d]) (λb hb=>?_) (λb o _ _ hc q _=>k b o (nm b hc).1 (nm b hc).2 q) (λb o _ _ hc q _=>⟨o.slots,k b o (nm b hc).1 (nm b hc).2 q⟩) (λ_ _ _ _ n=>n)
  (λb o hc q=>⟨o,k b o (nm b hc).1 (nm b hc).2 q⟩) (λ_ _ q=>q) (λ_ _ _ q=>q) (λb ps q=>⟨#[],by rw[q];simp⟩) (λm hm=>?_) (λb u q=>?_) I.bare
 ·rcases List.mem_cons.mp hb with z | z
  ·rw[z];exact⟨g.2.2.2.1,g.2.1,g.2.2.2.2.1,g.2.2.2.2.2⟩
  ·have p:b=d:=by simpa using z
   rw[p];exact⟨f.2.2.2.1,f.2.1,f.2.2.2.2.1,f.2.2.2.2.2⟩
 ·obtain⟨o,l,i,j,r⟩:=hm;exact⟨o,l,i,k _ o (Ne.symm g.2.1) (Ne.symm f.2.1) j,r⟩
 ·refine(I.hok b u q).stay (λc v hc z=>?_) (λ_ z=>z) λ_ _ z=>z;rcases hc with y | y
  ·rw[y]at z ⊢;exact k b v (ne b u q) (h b u q) z
  ·exact k c v (ne c _ y) (h c _ y) z
def TF{X:Cx}{d:List (Addr×Obj)}{σ:L2.St}{H:Hp}{s:Shared}{h':Heap}{t':Nat}{e f a:Addr}{o:HO}(I:Inv X d σ H s)(k:∀b u,b≠e->b≠f->s.heap.get? b=some u->h'.get? b=some u)(h:rH X d H e)(g:rH X d H f)
  (j:s.heap.objs.size<=a) (new:lA X.prog X.w (upd H a o) h' a o):Inv X d σ (upd H a o) { s with heap:=h',toks:=t' }:=by
 have hn:=I.hok.fresh j;have ne:∀b u,H b=some u->b≠e:=λb u q z=>by rw[z,h.1]at q;cases q
 have i:∀b u,H b=some u->b≠f:=λb u q z=>by rw[z,g.1]at q;cases q
 have nm:∀b,b∉[e,f]->b≠e/\b≠f:=λb hb=>⟨λz=>hb (by simp[z]),λz=>hb (by simp[z])⟩;have x:∀b u,s.heap.get? b=some u->b≠a:=λb u q=>Nat.ne_of_lt (Nat.lt_of_lt_of_le (Heap.lt_size q) j);refine I.step (g':=s.gens) (d':=s.drawn) (ch:=[e,f]) (λb hb=>?_) (λb o _ _ hc q _=>k b o (nm b hc).1 (nm b hc).2 q) (λb o _ _ hc q _=>⟨o.slots,k b o (nm b hc).1 (nm b hc).2 q⟩) (λb u _ q n=>(aC (x b u q)).trans n)
  (λb o hc q=>⟨o,k b o (nm b hc).1 (nm b hc).2 q⟩) (λb xs q=>(aC (aD q hn)).trans q) (λb o xs q=>(aC (aD q hn)).trans q) (λb ps q=>⟨#[],by rw[aC (aD q hn),q];simp⟩) (λm hm=>?_) (λb u q=>?_) I.bare
 ·rcases List.mem_cons.mp hb with z | z
  ·rw[z];exact⟨h.2.2.2.1,h.2.1,h.2.2.2.2.1,h.2.2.2.2.2⟩
  ·have A:b=f:=by simpa using z
   rw[A];exact⟨g.2.2.2.1,g.2.1,g.2.2.2.2.1,g.2.2.2.2.2⟩
 ·obtain⟨o,t,l,p,r⟩:=hm;exact⟨o,t,l,k _ o (Ne.symm h.2.1) (Ne.symm g.2.1) p,r⟩
 ·by_cases hb:b=a
  ·subst hb;rw[aq]at q;cases q;exact new
  ·rw[aC hb]at q;refine(I.hok b u q).stay (λc v hc z=>?_) (λc z=>by rw[aC (aD z hn)];exact z) λc xs z=>by rw[aC (aD z hn)];exact z
   rcases hc with y | y
   ·rw[y]at z ⊢;exact k b v (ne b u q) (i b u q) z
   ·exact k c v (ne c _ y) (i c _ y) z
def Zkq{P:Program}{w:World}{K:aB}{C:List Expr}{x1:Nat}{pt:Pos}(a e g:Addr)(r:e≠g):
    Turn P w K (.Tuple C x1 pt) (Ite K a) [e,g] e (λi h=>(∃old,IsEnum h e g ((i:Nat):Int) old)/\h.IsListIter g a i) where
  mem:=by simp
  obj:=λi h st b hb=>by
    obtain⟨⟨old,j⟩,o,ho,c,d⟩:=st;rcases List.mem_cons.mp hb with z | z
    · rw[z];exact⟨_,j,λv z=>by cases z⟩
    · have T:b=g:=by simpa using z
      rw[T];exact⟨o,ho,λv z=>by rw[d]at z;cases z⟩
  keep:=λi h h' st k=>⟨let ⟨old,j⟩:=st.1;⟨old,k e (by simp) _ j⟩,st.2.at λo q=>k g (by simp) o q⟩
  item:=by
    intro X S U D hc i m s σ H E I y st F;subst S U D;obtain⟨xs,x,hq,hx⟩:=F;obtain⟨R,M,p,hz⟩:=I.list hq;obtain⟨u,hu,ru⟩:=M.get hx;obtain⟨⟨old,j⟩,l⟩:=st;have Z:=y e (by simp);have Y:=y g (by simp);have t:e<s.heap.objs.size:=Heap.lt_size j;have J:g<s.heap.objs.size:=by obtain⟨o,q,_⟩:=l;exact Heap.lt_size q
    refine wpAny_pyNext_enum_item j l p.isList (x:=u) (by simpa using hu) r λh1 V B W hz1 N=>?_;refine⟨_,rfl,wpAny_letOwnedTupleGo_enum (s:={ s with heap:=h1,toks:=s.toks+1 }) V λh2 O f=>?_⟩
    replace f:Heap.SameBut e h1 h2:=f
    have hn:H s.heap.objs.size=none:=I.hok.fresh (Nat.le_refl _);have I2:Inv X m σ (upd H s.heap.objs.size (.tup [.int ((i:Nat):Int),x])) { s with heap:=h2,toks:=s.toks+1 }:=by
      refine TF I (λb v hb n q=>f.extBut b v hb (N b v hb n q)) Z Y (Nat.le_refl _) ?_;refine⟨by show 2<=sizeLine;decide,[.int ((i:Nat):Int) s.toks,u],.cons ⟨_,rfl⟩ (.cons ru .nil),⟨_,f.extBut _ _ (Nat.ne_of_gt t) W,rfl,_,rfl⟩⟩
    refine⟨.ref s.heap.objs.size,_,I2,rfl,⟨_,x,rfl,hn,rfl,λys hy=>by rw[I.Zdx hy hq];exact hx⟩,⟨⟨u,?_⟩,B.extBut f.extBut (Ne.symm r)⟩,λb hb=>?_⟩
    · have e1:(((i+1:Nat)):Int)=(i:Int)+1:=by omega
      show IsEnum h2 e g (((i+1:Nat)):Int) u;rw[e1];exact O
    · rcases List.mem_cons.mp hb with z | z
      · rw[z,aC (Nat.ne_of_lt t)];exact Z.1
      · have T:b=g:=by simpa using z
        rw[T,aC (Nat.ne_of_lt J)];exact Y.1
  done:=by
    intro X S U D hc i m s σ H E I y st F;subst S U D;obtain⟨xs,hq,hx⟩:=F;obtain⟨R,M,p,hz⟩:=I.list hq;obtain⟨⟨old,j⟩,l⟩:=st;have hl:=M.length;exact wpAny_pyNext_enum_end (I.ok.hd hc) j l p.isList (by simp;omega) λh' L=>⟨rfl,Zlw (t':=s.toks) I (λb o _ n q=>L b o n q) (y e (by simp)) (y g (by simp))⟩
  self:=λA i s Q E st h=>let ⟨_,j⟩:=st.1;wpAny_pyIter_enum j h
def ZG{X:Cx}{g:List Expr}{u:Nat}{pt:Pos}{l:Expr}{k:TA}{p f:Pos}(n:Gl X "enumerate")(hm:X.mg "enumerate"=none)(x:PA X [l] k)(hs:starEach [l] X.env=[(false,eval l X.env)]:=by rfl):
  PI X (.Tuple g u pt) (.Call (.Name "enumerate" p) [l] [] f) (Zeg X.K k):=by
 intro c s σ H R I h;refine Call_ (Te I n hm boot_enumerate (PyProof.Rows.callWith_type1 (iR (x f c s σ H _ I h) λus d ⟨vs,H1,I1,r1,q1⟩=>?_) hs rfl));obtain⟨a,e,⟨xs,hq⟩,q⟩:=q1;subst e;cases r1 with
 | cons r w=>
  cases w;obtain rfl:_=Value.ref a:=r;obtain⟨t,y,pl,hz⟩:=I1.list hq;refine call_enumerate_list pl.isList λh' j i hsz hk=>?_;have o:Inv X c σ H1 { d with heap:=h' }:=I1.kept (t':=d.toks) hk
  refine wpAny_pyIter_enum (s:={ d with heap:=h' }) j ?_;have m:∀b,d.heap.objs.size<=b->rH X c H1 b:=λb hb=>I1.Zek hb (I1.hok.fresh hb);refine⟨_,[d.heap.objs.size+1,d.heap.objs.size],_,_,H1,rfl,o,Zkq a _ _ (Nat.succ_ne_self _),⟨⟨_,j⟩,i⟩,λb hb=>?_,q⟩;rcases List.mem_cons.mp hb with z | z
  ·rw[z];exact m _ (Nat.le_succ _)
  ·have v:b=d.heap.objs.size:=by simpa using z
   rw[v];exact m _ (Nat.le_refl _)
end G
namespace G
open PySem L2 PySem.Spec PyProof.Rows
def Zlx{X:Cx}{d:List (Addr×Obj)}{σ:L2.St}{H:Hp}{s:Shared}{a:Addr}{o:HO}(I:Inv X d σ H s)(f:rH X d H a)(new:lA X.prog X.w (upd H a o) s.heap a o):Inv X d σ (upd H a o) s:=by
 have hn:=f.1;have r:Inv X d σ (upd H a o) { s with heap:=s.heap,gens:=s.gens,drawn:=s.drawn,toks:=s.toks }:=by
  refine I.step (g':=s.gens) (t':=s.toks) (d':=s.drawn) (ch:=[a]) (λb hb=>?_) (λb u _ _ _ q _=>q) (λb u _ _ _ q _=>⟨u.slots,q⟩) (λb u hc q n=>(aC (λz=>hc (by simp[z]))).trans n) (λb u _ q=>⟨u,q⟩)
   (λb xs q=>(aC (aD q hn)).trans q) (λb u xs q=>(aC (aD q hn)).trans q) (λb ps q=>⟨#[],by rw[aC (aD q hn),q];simp⟩) (λm hm=>hm) (λb u q=>?_) I.bare
  ·have z:b=a:=by simpa using hb
   rw[z];exact⟨f.2.2.2.1,f.2.1,f.2.2.2.2.1,f.2.2.2.2.2⟩
  ·by_cases hb:b=a
   ·subst hb;rw[aq]at q;cases q;exact new
   ·rw[aC hb]at q;exact(I.hok b u q).stay (λc v _ z=>z) (λc z=>by rw[aC (aD z hn)];exact z) λc xs z=>by rw[aC (aD z hn)];exact z
 exact r
def Zij{X:Cx}{c:List (Addr×Obj)}{H:Hp}{a b:Addr}{o:HO}(f:rH X c H b)(h:b≠a):rH X c (upd H a o) b:=⟨(aC h).trans f.1,f.2⟩
def Zzb{P:Program}{w:World}{k:Key}{u:Value}(h:(fG P w).is k u=true):RelV (kV k) u:=by
 rcases fH h with ⟨i,t,rfl,rfl⟩ | ⟨x,t,rfl,rfl⟩
 ·exact⟨t,rfl⟩
 ·exact⟨t,rfl⟩
def Zog{X:Cx}{o:Expr}{l:TE}{d c:Pos}(j:PE X o l)(g:attributeBase o "items" X.env (eval o X.env)=eval o X.env:=by rfl)(f:(d.endLine == c.line)=true:=by rfl):
  PE X (.Call (.Attribute o "items" d) [] [] c) (Zfx l):=by
 intro i s σ H Q I h;refine wpAny_Call_method0_late g f (iR (j i s σ H _ I h) λu m ⟨x,H1,I1,rx,a,kvs,ex,rd,q⟩=>?_);subst ex;obtain rfl:u=Value.ref a:=rx;obtain⟨t1,t2,hd⟩:=Zpr I1 (.inl ⟨kvs,rd⟩);obtain⟨z,_,vs,rel,dd⟩:=Kq I1.hok rd;refine⟨"dict","dict.items",PySem.F.plainAttrs_dict,PySem.F.slot_dict_items,PySem.F.type_dict_items,t1,t2,Calls.callWith_builtin rfl (PySem.evalArgs_none ?_)⟩;refine call_meetsIn PySem.F.slot_dict_items t1 PySem.F.entry_dict_items (PySem.F.args_dict_items_1 _) (meets_dict_items (fG X.prog X.w) a hd) ⟨⟨vs,dd⟩,?_⟩;have hn:=I1.hok.fresh (Nat.le_refl _);refine⟨.ref m.heap.objs.size,_,I1.laid (t':=m.toks) (λb u e=>Heap.get?_push_of_some _ e) (Nat.le_refl _) ?_,rfl,q _ hn⟩;exact⟨⟨_,Heap.get?_push_size _ rfl,rfl,rfl⟩,⟨_,Heap.get?_push_size _ rfl⟩,λh1 h2 ⟨o,j,r⟩ k=>⟨o,k o j,r⟩⟩
def Ol{X:Cx}{c:List (Addr×Obj)}{σ:L2.St}{s:Shared}:∀(g:List Addr) (d:List (Key×V)) (vs:List (Key×Value)) (H:Hp),Inv X c σ H s->g.Nodup->(∀a∈g,rH X c H a)->g.length=d.length->KV d vs->
  (∀(j:Nat) (a:Addr),g[j]? =some a->∃f k x,vs[j]? =some (k,x)/\(fG X.prog X.w).is k f=true/\s.heap.get? a=some { cls:=.type "tuple",data:=.seq #[f,x] })->
  ∃H',Inv X c σ H' s/\aV H H'/\Zf7 H' g d
 | [],[],_,H,I,_,_,_,_,_=>⟨H,I,λ_ _ h=>h,trivial⟩
 | [],_::_,_,_,_,_,_,hl,_,_=>by simp at hl
 | _::_,[],_,_,_,_,_,hl,_,_=>by simp at hl
 | a::g,kv::d,vs,H,I,nd,l,hl,r,m=>by
  cases r with
  | cons y rs=>
   rename_i q v
   obtain⟨f,k,x,e,hk,p⟩:=m 0 a rfl;have B:q=(k,x):=by simpa using e
   subst B;obtain⟨C,t⟩:=y;have fa:=l a (by simp);have A:a∉g:=(List.nodup_cons.mp nd).1;have i:kv.1=k:=C;have n:Inv X c σ (L2.upd H a (.tup [kV kv.1,kv.2])) s:=Zlx I fa ⟨by show 2<=sizeLine;decide,[f,x],.cons (by rw[i];exact Zzb hk) (.cons t .nil),⟨_,p,rfl,_,rfl⟩⟩;obtain⟨H',u,sm,ps⟩:=Ol g d v _ n (List.nodup_cons.mp nd).2 (λb hb=>Zij (l b (by simp[hb])) λz=>A (z ▸ hb)) (by simpa using hl) rs (λj b hb=>by simpa using m (j+1) b (by simpa using hb));refine⟨H',u,λb o hb=>sm b o ?_,sm _ _ aq,ps⟩;rw[aC (aD hb fa.1)];exact hb
def Xu:∀a:List Addr,Vals (a.map V.ref) (a.map Value.ref)
 | []=>.nil
 | _::a=>.cons rfl (Xu a)
def Zja{X:Cx}(hc:X.calm=true):PJ X (.type "list") Zjb:=by
 intro g s σ H xs us Q I r h;obtain⟨v,a,l,rfl,hv,x,q⟩:=h;obtain⟨u,rfl,t⟩:=Vals.one r;obtain rfl:u=Value.ref v:=t;have k:s.heap.IsItemsView v a:=(show lA X.prog X.w H s.heap v (M8 v a)from I.hok v _ hv).1;obtain⟨z,hd,vs,rel,dd⟩:=Kq I.hok x;obtain⟨y,hm⟩:=dd.dictAt;have hl:=rel.length;refine W.kdx_call (I.ok.hd hc) k hm (by rw[<- hl];exact z) λh' tk acc c d hk p f e i=>?_;have hn:=I.hok.fresh (Nat.le_refl s.heap.objs.size);have m:Inv X g σ (upd H s.heap.objs.size (.lst (d.map V.ref))) { s with heap:=h',toks:=tk }:=by
  refine I.laid hk (Nat.le_refl _) ⟨by rw[aX,f,<- hl];exact z,acc.toList,c,by rw[i];exact Xu d,by rw[Array.toArray_toList];exact p⟩
 have nd:d.Nodup:=e.rise.imp λh=>Nat.ne_of_lt h;obtain⟨H',n,sm,ps⟩:=Ol d l vs _ m nd (λb hb=>Zij (I.Zek (Nat.le_of_lt (e.above b hb)) (I.hok.fresh (Nat.le_of_lt (e.above b hb)))) (Nat.ne_of_gt (e.above b hb))) (by rw[f,hl]) rel (λj b hb=>e.pairs j b hb);refine⟨.ref s.heap.objs.size,H',n,rfl,q _ d H' hn (λb o hb=>sm b o ?_) (sm _ _ aq) ps⟩;rw[aC (aD hb hn)];exact hb
def Zqi{X:Cx}{e:List (Addr×Obj)}{σ:L2.St}{H:Hp}{s:Shared}{a:Addr}{o:Obj}{d:List (Key×V)}(I:Inv X e σ H s)(h:H a=some (.dK d))(f:s.heap.get? a=some o):Inv X e σ (upd H a (.zK o (.dK d))) s:=by
 have ne:∀b u,H b=some u->u≠.dK d->b≠a:=λb u q n z=>n (by rw[z,h]at q;exact(Option.some.inj q).symm);have r:Inv X e σ (upd H a (.zK o (.dK d))) { s with heap:=s.heap,gens:=s.gens,drawn:=s.drawn,toks:=s.toks }:=by
  refine I.step (g':=s.gens) (t':=s.toks) (d':=s.drawn) (ch:=[]) (λb hb=>nomatch hb) (λb u _ _ _ q _=>q) (λb u _ _ _ q _=>⟨u.slots,q⟩) (λb u hc q n=>(aC (λz=>by rw[z,h]at n;cases n)).trans n) (λb u _ q=>⟨u,q⟩)
   (λb xs q=>(aC (ne b _ q (λz=>by cases z))).trans q) (λb u xs q=>(aC (ne b _ q (λz=>by cases z))).trans q) (λb ps q=>⟨#[],by rw[aC (ne b _ q (λz=>by cases z)),q];simp⟩) (λm hm=>hm) (λb u q=>?_) I.bare
  have hs:∀c u,H c=some u->u≠.dK d->upd H a (.zK o (.dK d)) c=some u:=λc u z n=>by rw[aC (ne c u z n)];exact z
  by_cases hb:b=a
  ·subst hb;rw[aq]at q;cases q;exact⟨f,(I.hok b _ h).stay (λc v _ z=>z) (λc z=>hs c _ z (λy=>by cases y)) λc xs z=>hs c _ z (λy=>by cases y)⟩
  ·rw[aC hb]at q;exact(I.hok b u q).stay (λc v _ z=>z) (λc z=>hs c _ z (λy=>by cases y)) λc xs z=>hs c _ z (λy=>by cases y)
 exact r
def Zwv:Option Key->Value->Bool
 | none,.none=>true
 | none,_=>false
 | some k,v=>JW k v
def mX{k:Option Key}{v:Value}(h:Zwv k v=true):(k=none/\v=.none)\/∃j,k=some j/\JW j v=true:=by
 cases k with
 | none=>cases v<;>first | exact .inl ⟨rfl,rfl⟩ | cases h
 | some j=>exact .inr ⟨j,rfl,h⟩
def Tn{j:Key}(h:JW j Value.none=true):False:=by
 rcases fH h with ⟨i,t,_,e⟩ | ⟨x,t,_,e⟩<;>cases e
def Zwk(P:Program)(w:World):PySem.KeyKind P w (Option Key) where
  is:=Zwv
  hash:=λk=>match k with | none=>reduceHash 0xFCA86420 | some k=>Zza w k
  inj:=λv a b c hb=>by
    rcases mX c with ⟨rfl,rfl⟩ | ⟨i,rfl,h1⟩
    · rcases mX hb with ⟨rfl,_⟩ | ⟨j,rfl,h2⟩
      · rfl
      · exact(Tn h2).elim
    · rcases mX hb with ⟨rfl,rfl⟩ | ⟨j,rfl,h2⟩
      · exact(Tn h1).elim
      · rw[(fG P w).inj v i j h1 h2]
  byValue:=λk v h=>by
    rcases mX h with ⟨rfl,rfl⟩ | ⟨i,rfl,h1⟩
    · rfl
    · exact(fG P w).byValue i v h1
  pyHash:=λ{A E s k v Q} hv h=>by
    rcases mX hv with ⟨rfl,rfl⟩ | ⟨i,rfl,h1⟩
    · exact W.pyHash_slot (T:="NoneType") rfl F.slot_NoneType_hash F.entry_NoneType_hash (F.args_NoneType_hash_1 _) (beq_builtin_none _) (.inl rfl) (wpAny_bind (wpAny_pure (wpAny_bind (wpAny_mkInt (wpAny_pure ⟨_,_,rfl,h⟩)))))
    · exact(fG P w).pyHash h1 h
  eqBool:=λ{A E s a b u v Q} hu hv h=>by
    rcases mX hu with ⟨rfl,rfl⟩ | ⟨i,rfl,h1⟩
    · rcases mX hv with ⟨rfl,rfl⟩ | ⟨j,rfl,h2⟩
      · exact Bu (A:=A) (s:=s) (y:=.non) (x:=.non) rfl rfl rfl rfl P w E Q h
      · rcases fH h2 with ⟨n,t,rfl,rfl⟩ | ⟨x,t,rfl,rfl⟩
        · exact Bu (A:=A) (s:=s) (y:=.non) (x:=.int n) rfl ⟨t,rfl⟩ rfl rfl P w E Q h
        · exact Bu (A:=A) (s:=s) (y:=.non) (x:=.str x) rfl ⟨t,rfl⟩ rfl rfl P w E Q h
    · rcases mX hv with ⟨rfl,rfl⟩ | ⟨j,rfl,h2⟩
      · rcases fH h1 with ⟨n,t,rfl,rfl⟩ | ⟨x,t,rfl,rfl⟩
        · exact Bu (A:=A) (s:=s) (y:=.int n) (x:=.non) ⟨t,rfl⟩ rfl rfl rfl P w E Q h
        · exact Bu (A:=A) (s:=s) (y:=.str x) (x:=.non) ⟨t,rfl⟩ rfl rfl rfl P w E Q h
      · refine(fG P w).eqBool h1 h2 ?_
        have e:decide (i=j)=decide (some i=some j):=by
          by_cases z:i=j
          · subst z;simp
          · rw[decide_eq_false z,decide_eq_false (λy=>z (Option.some.inj y))]
        rw[e];exact h
  «strs»:=λk x t v h=>by
    rcases mX h with ⟨_,e⟩ | ⟨i,rfl,h1⟩
    · cases e
    · exact(fG P w).strs i x t v h1
def Zos{P:Program}{w:World}{h:Heap}{a:Addr}{vs:List (Key×Value)}(dd:h.DictOf (fG P w) a vs):∃f,h.MapOf (Zwk P w) a f/\f none=none:=by
 obtain⟨o,c,d,g,hc,hd,hk,hp,hn⟩:=dd;refine⟨λk=>findBy (Zwk P w).is c k,⟨o,c,d,g,hc,hd,λe b=>?_,λ_=>rfl⟩,?_⟩
 ·obtain⟨k,h1,h2⟩:=hk e b;exact⟨some k,h1,h2⟩
 ·show Option.map (λx=>x.val) (Array.find? (λe=>Zwv none e.key) c)=none;rw[Option.map_eq_none_iff,Array.find?_eq_none];intro e b;obtain⟨k,h1,_⟩:=hk e b;rcases fH h1 with ⟨n,t,_,z⟩ | ⟨x,t,_,z⟩<;>rw[z]<;>exact λy=>nomatch y
section
variable {X:Cx}{i o:Expr}{ty td:TE}
def Zih{a:List (Key×V)}{y:V}{b:Bool}(h:Zu2 a y=some b):(∃k,y=kV k/\b=(nZ a k).isSome)\/(y=.non/\b=false):=by
 cases y<;>simp only[Zu2,Option.some.injEq]at h<;>first | cases h
 ·exact .inr ⟨rfl,rfl⟩
 ·exact .inl ⟨.inl _,rfl,rfl⟩
 ·exact .inl ⟨.inr _,rfl,rfl⟩
def Zh6(hu:X.A.units+1<cLine)(e:PE X i ty)(d:PE X o td):PC X .NotIn i o (Znd true ty td):=by
 intro c s σ H Q I h;refine iR (e c s σ H _ I h) λm l ⟨y,H1,I1,ry,h1⟩=>?_;refine iR (d c l σ H1 _ I1 h1) λn p ⟨x,H2,I2,rx,a,kvs,b,ex,rd,hb,q⟩=>?_;subst ex;obtain rfl:n=Value.ref a:=rx;rcases Zih hb with ⟨k,rfl,rfl⟩ | ⟨rfl,rfl⟩
 ·exact Zke hu I2 (.inl ⟨kvs,k,rd,rfl,rfl⟩) ry λs' g=>⟨.bl _,H2,g,rfl,q⟩
 ·obtain rfl:m=Value.none:=ry;obtain⟨z,hd,vs,rel,dd⟩:=Kq I2.hok rd;obtain⟨f,hm,j⟩:=Zos dd;refine wpAny_notIn_of (knd:=Zwk X.prog X.w) (k:=none) rfl hd hm ?_;rw[j];exact⟨.bl _,H2,I2.tok _,rfl,q⟩
end
end G
namespace G
open PySem L2 PySem.Spec PyProof.Rows
section
variable {X:Cx}
end
end G
namespace G
open PySem L2 PySem.Spec PyProof.Rows
end G
namespace G
open PySem L2 PySem.Spec PyProof.Rows
section
variable {X:Cx}{x1 x2 x3 x4:Str}{C1 C2 C3 C4:Addr}{pos np1 np2 np3 np4 hp1 hp2 hp3 hp4:Pos}{body su1 su2 su3 su4:List Stmt}{b1 b2 b3 b4:Stmt}{M1 M2 M3 M4:Value->Prop}{tb:(L2.St->XK)->TS}{t1 t2 t3 t4:TS}
end
end G
namespace G
open PySem L2 PySem.Spec PyProof.Rows
end G
namespace G
open PySem L2
end G
namespace G
open PySem L2 PySem.Spec PyProof.Rows
def Oj(v d:Addr):HO:=.ext λh=>h.IsValuesView v d
def Zn9(d:TE):TE:=λσ H Q=>d σ H λx c=>∃a b,x=.ref a/\Rd c a (.dK b)/\∀v,c v=none->Q (.ref v) (upd c v (Oj v a))
def Zwz{d:TE}{σ:L2.St}{H:Hp}{Q:VK}(h:d σ H λx c=>∃a b,x=.ref a/\Rd c a (.dK b)/\∀v,c v=none->Q (.ref v) (upd c v (Oj v a))):Zn9 d σ H Q:=h
def Zl8{X:Cx}{o:Expr}{l:TE}{d c:Pos}(j:PE X o l)(g:attributeBase o "values" X.env (eval o X.env)=eval o X.env:=by rfl)(f:(d.endLine == c.line)=true:=by rfl):
  PE X (.Call (.Attribute o "values" d) [] [] c) (Zn9 l):=by
 intro i s σ H Q I h;refine wpAny_Call_method0_late g f (iR (j i s σ H _ I h) λu m ⟨x,H1,I1,rx,a,kvs,ex,rd,q⟩=>?_);subst ex;obtain rfl:u=Value.ref a:=rx;obtain⟨t1,t2,hd⟩:=Zpr I1 (.inl ⟨kvs,rd⟩);obtain⟨z,_,vs,rel,dd⟩:=Kq I1.hok rd;refine⟨"dict","dict.values",PySem.F.plainAttrs_dict,PySem.F.slot_dict_values,PySem.F.type_dict_values,t1,t2,Calls.callWith_builtin rfl (PySem.evalArgs_none ?_)⟩;refine call_meetsIn PySem.F.slot_dict_values t1 PySem.F.entry_dict_values (PySem.F.args_dict_values_1 _) (meets_dict_values (fG X.prog X.w) a hd) ⟨⟨vs,dd⟩,?_⟩;have hn:=I1.hok.fresh (Nat.le_refl _);refine⟨.ref m.heap.objs.size,_,I1.laid (t':=m.toks) (λb u e=>Heap.get?_push_of_some _ e) (Nat.le_refl _) ?_,rfl,q _ hn⟩;exact⟨⟨_,Heap.get?_push_size _ rfl,rfl,rfl⟩,⟨_,Heap.get?_push_size _ rfl⟩,λh1 h2 ⟨o,j,r⟩ k=>⟨o,k o j,r⟩⟩
def Itv(a:Addr)(o:Obj)(b:List (Key×V)):It:=
 ⟨λi H=>H a=some (.zK o (.dK b))/\i<b.length,λi H x H'=>H'=H/\∃kv,b[i]? =some kv/\x=kv.2,λi H=>H a=some (.zK o (.dK b))/\b.length<=i⟩
def Zq3(d:TE):TI:=λσ H R=>d σ H λx c=>∃v a b,x=.ref v/\c v=some (Oj v a)/\c a=some (.dK b)/\∀o,R (Itv a o b) (upd c a (.zK o (.dK b)))
def ZB8{d:TE}{σ:L2.St}{H:Hp}{R:It->Hp->Prop}(h:d σ H λx c=>∃v a b,x=.ref v/\c v=some (Oj v a)/\c a=some (.dK b)/\∀o,R (Itv a o b) (upd c a (.zK o (.dK b)))):Zq3 d σ H R:=h
def Xv{c a:Type}{R:c->a->Prop}:∀{xs:List c}{b:List a},Paired R xs b->∀(i:Nat) x y,xs[i]? =some x->b[i]? =some y->R x y
 | _,_,.nil,_,_,_,h,_=>by simp at h
 | _,_,.cons r rs,0,_,_,h1,h2=>by
  cases h1;cases h2;exact r
 | _,_,.cons r rs,i+1,_,_,h1,h2=>Xv rs i _ _ (by simpa using h1) (by simpa using h2)
def Zko{P:Program}{w:World}{K:aB}{tg:Expr}(a p:Addr)(o:Obj)(f:List (Key×V))(x:Nat)(t:∃D,o.data=.dict D x):Turn P w K tg (Itv a o f) [p] p (λi h=>h.IsValIter p a i f.length x) where
  mem:=by simp
  obj:=λi h st b hb=>by
    have e:b=p:=by simpa using hb
    subst e;obtain⟨o,e,c,d⟩:=st;exact⟨o,e,λv z=>by rw[d]at z;cases z⟩
  keep:=λi h h' st k=>by
    obtain⟨o,e,r⟩:=st;exact⟨o,k p (by simp) o e,r⟩
  item:=by
    intro X O R C hc i l s σ H E I y st F;subst O R C;obtain⟨hz,T⟩:=F;obtain⟨A,z,hd,vs,rel,dd⟩:s.heap.get? a=some o/\f.length<=sizeLine/\(a == sysModules)=false/\∃vs,KV f vs/\s.heap.DictOf (fG X.prog X.w) a vs:=I.hok a _ hz;obtain⟨m,hm⟩:=dd.dictAt;obtain⟨D,n⟩:=t;have B:m=x:=by
      obtain⟨U,M,j,_,g,_⟩:=id hm;rw[A]at j;cases j;rw[n]at g;injection g with _ e;exact e.symm
    subst B;have hl:=rel.length;have hv:vs[i]? =some vs[i]:=bK (by omega);have q:f[i]? =some f[i]:=bK T;have hk:RelV f[i].2 vs[i].2:=(Xv rel i _ _ q hv).2;obtain⟨N,Q,Z,S,J,L⟩:=y p (by simp);rw[hl]at st;refine wpAny_pyNext_values_item st hm (k:=vs[i].1) (v:=vs[i].2) (by rw[hv]) λh' u sb=>?_;have W:Inv X l σ H { s with heap:=h' }:=I.turned (t':=s.toks) (λb o hb e=>(sb.2 b hb).trans e) N Q S J L;obtain⟨oi,e,c,d⟩:=id u;exact⟨_,rfl,Zqc (s:={ s with heap:=h' }) e c d (by decide) ⟨f[i].2,H,W,hk,⟨rfl,_,q,rfl⟩,by rw[hl];exact u,λb hb=>(y b hb).1⟩⟩
  done:=by
    intro X O R C hc i l s σ H E I y st F;subst O R C;obtain⟨hz,T⟩:=F;obtain⟨A,z,hd,vs,rel,dd⟩:s.heap.get? a=some o/\f.length<=sizeLine/\(a == sysModules)=false/\∃vs,KV f vs/\s.heap.DictOf (fG X.prog X.w) a vs:=I.hok a _ hz;obtain⟨m,hm⟩:=dd.dictAt;obtain⟨D,n⟩:=t;have B:m=x:=by
      obtain⟨U,M,j,_,g,_⟩:=id hm;rw[A]at j;cases j;rw[n]at g;injection g with _ e;exact e.symm
    subst B;have hl:=rel.length;obtain⟨N,Q,Z,S,J,L⟩:=y p (by simp);rw[hl]at st;exact wpAny_pyNext_values_end (I.ok.hd hc) st hm (by rw[List.getElem?_eq_none];omega) λh' Y=>⟨rfl,I.turned (t':=s.toks) (λb o hb e=>Y b o hb e) N Q S J L⟩
  self:=λ_ _ _ _ _ st h=>wpAny_pyIter_valiter st h
def Zse{X:Cx}{tg:Expr}{e:Expr}{l:TE}(n:PE X e l):PI X tg e (Zq3 l):=by
 intro d s σ H R I h;refine iR (n d s σ H _ I h) λu c ⟨x,H1,I1,r1,q1⟩=>?_;obtain⟨v,a,i,e,hv,hq,q⟩:=q1;subst e;obtain rfl:u=Value.ref v:=r1;have j:c.heap.IsValuesView v a:=(I1.hok v _ hv).1;obtain⟨z,hs,vs,rel,dd⟩:=Zv8 I1.hok hq;obtain⟨m,hm⟩:=dd.dictAt;obtain⟨o,p,k,_,g,_⟩:=id hm;refine wpAny_pyIter_values j hm ?_;have r:=Zqi I1 hq k;have f:c.heap.objs.size≠a:=Nat.ne_of_gt (Heap.lt_size k);refine⟨c.heap.objs.size,[c.heap.objs.size],_,_,_,rfl,r.kept (t':=c.toks) λb o e=>Heap.get?_push_of_some _ e,Zko a _ o i m ⟨p,g⟩,?_,λb hb=>?_,q o⟩
 ·rw[rel.length];exact⟨_,Heap.get?_push_size _ rfl,rfl,rfl⟩
 ·have e:b=c.heap.objs.size:=by simpa using hb
  subst e;exact Zij (I1.Zek (Nat.le_refl _) (I1.hok.fresh (Nat.le_refl _))) f
def Zkr{X:Cx}{f:List (Addr×Obj)}{σ:L2.St}{H:Hp}{s:Shared}{a:Addr}{o:Obj}{d:List (Key×V)}(I:Inv X f σ H s)(h:H a=some (.zK o (.dK d)))(hn:∀r u,X.H₀ a≠some (.zK r u)):Inv X f σ (upd H a (.dK d)) s:=by
 have ne:∀b u,H b=some u->u≠.zK o (.dK d)->b≠a:=λb u q n z=>n (by rw[z,h]at q;exact(Option.some.inj q).symm);have k:∀b,H b=none->upd H a (.dK d) b=none:=λb q=>(aC (λz=>by rw[z,h]at q;cases q)).trans q;have hs:∀c u,H c=some u->u≠.zK o (.dK d)->upd H a (.dK d) c=some u:=λc u z n=>by rw[aC (ne c u z n)];exact z
 obtain⟨A,E,m,g,K,C,B,F,D,j,l⟩:=I;refine⟨A,E,m,⟨g.keep,g.slot,λb ob e n hx=>k b (g.free b ob e n hx),g.there,λb xs e=>hs b _ (g.tups b xs e) (λz=>by cases z),λb ob u e=>(aC (a:=a) (b:=b) (λz=>hn ob u (by rw[<- z];exact e))).trans (g.Ia b ob u e),λb ps e=>?_⟩,K,C,k _ B,λx c e=>k _ (F x c e),λp hp=>?_,λb u q=>?_,l⟩
 ·obtain⟨i,q⟩:=g.Iv b ps e;exact⟨i,hs b _ q (λz=>by cases z)⟩
 ·obtain⟨J,t,w⟩:=D p hp;exact⟨J,k _ t,w⟩
 ·by_cases hb:b=a
  ·subst hb;rw[aq]at q;cases q;exact(j b _ h).2.stay (λc v _ z=>z) (λc z=>hs c _ z (λy=>by cases y)) λc xs z=>hs c _ z (λy=>by cases y)
  ·rw[aC hb]at q;exact(j b u q).stay (λc v _ z=>z) (λc z=>hs c _ z (λy=>by cases y)) λc xs z=>hs c _ z (λy=>by cases y)
def Zna(H0:Hp)(e:TE):TE:=λσ H Q=>e σ H λx c=>∃a o b,c a=some (.zK o (.dK b))/\(∀d u,H0 a≠some (.zK d u))/\Q x (upd c a (.dK b))
def Zx0{H0:Hp}{c:TE}{σ:L2.St}{H:Hp}{Q:VK}(h:c σ H λx d=>∃a o b,d a=some (.zK o (.dK b))/\(∀e u,H0 a≠some (.zK e u))/\Q x (upd d a (.dK b))):Zna H0 c σ H Q:=h
def Zsl{X:Cx}{e:Expr}{c:TE}(d:PE X e c):PE X e (Zna X.H₀ c):=by
 intro b s σ H Q I h;refine iR (d b s σ H _ I h) λu f ⟨x,H1,I1,r1,a,o,kvs,ha,hn,q⟩=>?_;exact⟨x,_,Zkr I1 ha hn,r1,q⟩
end G
namespace G
open PySem L2 PySem.Spec PyProof.Rows
def Zvh(K:aB)(a:TE):TT:=λσ H Q=>a σ H λx H'=>∃k,Zr5 K x H' k/\Q k H'
def Zv2{K:aB}{a:TE}{σ:L2.St}{H:Hp}{Q:Bool->Hp->Prop}(h:a σ H λx H'=>∃k,Zr5 K x H' k/\Q k H'):Zvh K a σ H Q:=h
def Zyp{K:aB}{H:Hp}{a:Addr}{xs:List V}{P:Bool->Prop}(h:cj K H a xs)(q:P (!xs.isEmpty)):∃k,Zr5 K (.ref a) H k/\P k:=⟨_,.inl ⟨xs,h,rfl⟩,q⟩
def Zq2{i:Nat}{c x:Int}{f:Int->Int->Int}{n:L2.St->Hp->Prop}{r:VK}{b ct:L2.St->Hp->Prop}{σ:L2.St}{H:Hp}(e:σ[i]? =some (some (.int x)))(h:n (σ.set i (some (.int (f x c)))) H):Zvi i (tC (.int c)) (ipI f) ⟨n,r,b,ct⟩ σ H:=⟨_,e,x,c,rfl,rfl,h⟩
def Zr2(K:aB):List V->Hp->VK->Prop:=λxs H Q=>∃p a,xs=[.ref p]/\(cj K H p a\/fZ K H p a)/\∀l,H l=none->Q (.ref l) (upd H l (.lst a))
def Ztn{K:aB}{H:Hp}{Q:VK}{p:Addr}{a:List V}(h1:fZ K H p a)(h:∀l,H l=none->Q (.ref l) (upd H l (.lst a))):Zr2 K [.ref p] H Q:=⟨p,a,rfl,.inr h1,h⟩
def Dq(K:aB)(H:Hp):Nat->V->V->Prop
 | 0,x,y=>x=y/\qw x=true
 | d+1,x,y=>(x=y/\qw x=true)\/∃a b,x=.ref a/\y=.ref b/\(a=b\/∃xs c,((cj K H a xs/\cj K H b c)\/(fZ K H a xs/\fZ K H b c))/\Al (Dq K H d) xs c)
def Zuh{K:aB}{H:Hp}{d:Nat}{x:V}(h:qw x=true):Dq K H d x x:=by
 cases d with
 | zero=>exact⟨rfl,h⟩
 | succ d=>exact .inl ⟨rfl,h⟩
def Ko{K:aB}{H:Hp}{d:Nat}:∀{xs:List V},xs.all qw=true->Al (Dq K H d) xs xs
 | [],_=>.nil
 | x::xs,h=>by
  rw[List.all_cons,Bool.and_eq_true]at h;exact .cons (Zuh h.1) (Ko h.2)
def Zl3(K:aB)(d:Bool):R2:=λx y H Q=>∃a b xs c,x=.ref a/\y=.ref b/\((cj K H a xs/\cj K H b c)\/(fZ K H a xs/\fZ K H b c))/\Al (Dq K H 6) xs c/\Q (.bl (!d)) H
section
variable {X:Cx}
def Zep:∀{x:V},qw x=true->Yj x x=true
 | .non,_=>rfl
 | .bl b,_=>by cases b<;>rfl
 | .int i,_=>by simp[Yj]
 | .str z,_=>by simp[Yj]
def ZA5{m:List (Addr×Obj)}{σ:L2.St}{H:Hp}{s:Shared}(I:Inv X m σ H s):∀(d:Nat) {A:Around}{x y:V}{u v:Value},A.units+d<cLine->RelV x u->RelV y v->Dq X.K H d x y->SeqAt.EqAt A s u v true:=by
 intro d
 induction d with
 | zero=>
  intro A x y u v hu p o h;obtain⟨rfl,i⟩:=h;have:=Bu (A:=A) (s:=s) p o i i;rw[Zep i]at this;exact this
 | succ d F=>
  intro A x y u v hu p o h;rcases h with ⟨rfl,i⟩ | ⟨a,b,rfl,rfl,h⟩
  ·have:=Bu (A:=A) (s:=s) p o i i;rw[Zep i]at this;exact this
  ·obtain rfl:u=Value.ref a:=p;obtain rfl:v=Value.ref b:=o
   by_cases e:a=b
   ·subst e;exact SeqAt.EqAt.same _
   rcases h with rfl | ⟨xs,q,hs,al⟩
   ·exact absurd rfl e
   ·refine SeqAt.EqAt.of_refs e ?_;have hl:=al.length;have n:A.units<cLine:=by omega
    have item:∀{us f:List Value},Vals xs us->Vals q f->∀(j:Nat) (h1:j<us.toArray.size) (h2:j<f.toArray.size),SeqAt.EqAt A.in1 s us.toArray[j] f.toArray[j] true:=by
     intro us f g c j h1 h2;rw[List.size_toArray]at h1 h2;have L:=g.length;have P:=c.length;have w:xs[j]? =some xs[j]:=bK (by omega);have z:q[j]? =some q[j]:=bK (by omega);obtain⟨O,t,D⟩:=g.get w;obtain⟨M,B,E⟩:=c.get z;rw[bK h1]at t;rw[bK h2]at B;cases t;cases B;obtain⟨N,e3,J⟩:=al.get z;rw[w]at e3;cases e3;exact F (A:=A.in1) (by show A.units+1+d<cLine;omega) D E J
    rcases hs with ⟨r,hb⟩ | ⟨r,hb⟩
    ·obtain⟨us,g,k,_⟩:=I.list r;obtain⟨f,c,l,_⟩:=I.list hb;have:=SeqAt.RcAt.lists (A:=A) (e:=λ_=>true) k.isList l.isList (by rw[List.size_toArray,List.size_toArray,<- g.length,<- c.length];exact hl) n (λj h1 h2=>item g c j h1 h2);rw[show(List.range us.toArray.size).all (λ_=>true)=true from by rw[List.all_eq_true];intros;rfl]at this;exact this
    ·obtain⟨us,g,k,_⟩:=I.tuple r;obtain⟨f,c,l,_⟩:=I.tuple hb;have C:us.toArray.size=f.toArray.size:=by rw[List.size_toArray,List.size_toArray,<- g.length,<- c.length];exact hl
     have:=SeqAt.RcAt.tuples (A:=A) (e:=λ_=>true) k l n (λj h1 h2=>item g c j h1 h2);rw[show(List.range (min us.toArray.size f.toArray.size)).all (λ_=>true)=true from by rw[List.all_eq_true];intros;rfl,C]at this;simpa using this
def FT{a:List (Addr×Obj)}{σ:L2.St}{H:Hp}{s:Shared}(I:Inv X a σ H s){A:Around}(hu:A.units+8<cLine){xs b:List V}{us c:List Value}(al:Al (Dq X.K H 6) xs b)(g:Vals xs us)(d:Vals b c)(j:Nat)(h1:j<us.toArray.size)(h2:j<c.toArray.size):SeqAt.EqAt A.in1 s us.toArray[j] c.toArray[j] true:=by
 rw[List.size_toArray]at h1 h2;have n:=g.length;have r:=d.length;have f:xs[j]? =some xs[j]:=bK (by omega);have h:b[j]? =some b[j]:=bK (by omega);obtain⟨q,e,k⟩:=g.get f;obtain⟨o,i,l⟩:=d.get h;rw[bK h1]at e;rw[bK h2]at i;cases e;cases i;obtain⟨p,e3,m⟩:=al.get h;rw[f]at e3;cases e3;exact ZA5 I 6 (A:=A.in1) (by show A.units+1+6<cLine;omega) k l m
def Zw6(hu:X.A.units+64<cLine):zA X (compareOp .Eq) (Zl3 X.K false):=by
 intro i s σ H x y v u Q I m k h;obtain⟨p,j,xs,n,rfl,rfl,hs,al,q⟩:=h;obtain rfl:v=Value.ref p:=m;obtain rfl:u=Value.ref j:=k;have hl:=al.length;rcases hs with ⟨g,hb⟩ | ⟨g,hb⟩
 ·obtain⟨us,d,a,_⟩:=I.list g;obtain⟨f,c,b,_⟩:=I.list hb;refine SeqAt.eq_listAt (e:=λ_=>true) a.isList b.isList (by rw[List.size_toArray,List.size_toArray,<- d.length,<- c.length];exact hl) (by omega) (FT I (by omega) al d c) ?_;rw[show(List.range us.toArray.size).all (λ_=>true)=true from by rw[List.all_eq_true];intros;rfl];exact⟨.bl _,H,I,rfl,q⟩
 ·obtain⟨us,d,a,_⟩:=I.tuple g;obtain⟨f,c,b,_⟩:=I.tuple hb;have l:us.toArray.size=f.toArray.size:=by rw[List.size_toArray,List.size_toArray,<- d.length,<- c.length];exact hl
  refine SeqAt.eq_tupleAt (e:=λ_=>true) a b (by omega) (FT I (by omega) al d c) ?_;rw[show(List.range (min us.toArray.size f.toArray.size)).all (λ_=>true)=true from by rw[List.all_eq_true];intros;rfl,l];simp only[beq_self_eq_true,Bool.and_self];exact⟨.bl _,H,I,rfl,q⟩
def Zom(hu:X.A.units+64<cLine):zA X (compareOp .NotEq) (Zl3 X.K true):=by
 intro i s σ H x y v u Q I m k h;obtain⟨p,j,xs,n,rfl,rfl,hs,al,q⟩:=h;obtain rfl:v=Value.ref p:=m;obtain rfl:u=Value.ref j:=k;have hl:=al.length;rcases hs with ⟨g,hb⟩ | ⟨g,hb⟩
 ·obtain⟨us,d,a,_⟩:=I.list g;obtain⟨f,c,b,_⟩:=I.list hb;have:=SeqAt.RcNeAt.lists (A:=X.A) (s:=s) (e:=λ_=>true) a.isList b.isList (by rw[List.size_toArray,List.size_toArray,<- d.length,<- c.length];exact hl) (by omega) (FT I (by omega) al d c);rw[show(List.range us.toArray.size).all (λ_=>true)=true from by rw[List.all_eq_true];intros;rfl]at this;exact this _ _ _ _ ⟨.bl _,H,I,rfl,q⟩
 ·obtain⟨us,d,a,_⟩:=I.tuple g;obtain⟨f,c,b,_⟩:=I.tuple hb;have l:us.toArray.size=f.toArray.size:=by rw[List.size_toArray,List.size_toArray,<- d.length,<- c.length];exact hl
  have:=SeqAt.RcNeAt.tuples (A:=X.A) (s:=s) (e:=λ_=>true) a b (by omega) (FT I (by omega) al d c);rw[show(List.range (min us.toArray.size f.toArray.size)).all (λ_=>true)=true from by rw[List.all_eq_true];intros;rfl,l]at this;simp only[beq_self_eq_true,Bool.and_self]at this;exact this _ _ _ _ ⟨.bl _,H,I,rfl,q⟩
def Zpy{K:aB}{c:Bool}{H:Hp}{Q:VK}{a b:Addr}{xs d:List V}(hs:(cj K H a xs/\cj K H b d)\/(fZ K H a xs/\fZ K H b d))(al:Al (Dq K H 6) xs d)(q:Q (.bl (!c)) H):Zl3 K c (.ref a) (.ref b) H Q:=⟨a,b,xs,d,rfl,rfl,hs,al,q⟩
end
end G
namespace G
open PySem L2
def Znv(K:aB):V->V->Hp->VK->Prop:=λx y H Q=>∃p xs i v,x=.ref p/\y=.int i/\cj K H p xs/\0<=i/\Uy xs i=some v/\Q v H
def Zqe{X:Cx}:ZAh X (Znv X.K):=by
 intro b s σ H x y v u Q I f e h;obtain⟨p,xs,i,z,rfl,rfl,hq,c,d,q⟩:=h;cases f;obtain⟨t,rfl⟩:=e;obtain⟨k,r,pl,hz⟩:=I.list hq;obtain⟨j,h1,h2,h3,h4,h5⟩:=QS d;obtain⟨w,g,a⟩:=r.get h2;have hl:=r.length;have hn:=HS;have l:i.toNat=j:=by
  rw[seqIndex_of c h5]at h1;exact Option.some.inj h1
 exact wpAny_getItem_list pl.isList c (by omega) (by rw[l];simpa using g) ⟨z,H,I,a,q⟩
def Zxm{K:aB}{i:Nat}{p:Addr}{xs:List V}{k:Nat}{c x:Int}{f:Int->Int->Int}{n:L2.St->Hp->Prop}{r:VK}{b ct:L2.St->Hp->Prop}{σ:L2.St}{H:Hp}(e:σ[i]? =some (some (.ref p)))(h1:H p=some (.lst xs))(h2:xs[k]? =some (.int x))(h:n σ (upd H p (.lst (xs.set k (.int (f x c)))))):
  Zne (ak i) (tC (.int (k:Int))) (tC (.int c)) (Znv K) (ipI f) BV ⟨n,r,b,ct⟩ σ H:=
 ⟨_,e,p,xs,(k:Int),_,rfl,rfl,cj.of h1,by omega,iI h2,x,c,rfl,rfl,p,xs,(k:Int),k,rfl,rfl,h1,tY (dH h2).1,h⟩
end G
local macro_rules | `(tactic| walk_at "g2")=>`(tactic| with_reducible first | refine G.vL ?_ | refine G.Zxg ?_ | refine G.Zk4 ?_ | refine G.Zxc ?_ | refine G.TQ ?_ | refine G.i_C ?_ | refine G.Zib ?_ | refine G.ZB5 ?_ | refine G.i_B ?_ | refine G.Zx1 ?_ | refine G.Zzh ?_ | refine G.Zzt ?_ | refine G.Zzi ?_ | refine G.Zv3 ?_ | refine G.Zxn ?_ | refine G.Zx4 ?_ | refine G.Zzo ?_ | refine G.Zzu ?_ | refine G.i_U ?_ | refine G.Zzs ?_ | refine G.Zzr ?_ | refine G.Zzl ?_ | refine G.Zzk ?_ | refine G.Zxb ?_ | refine G.Zxa ?_ | refine G.Zx9 ?_ | refine G.Ztl ?_ | refine G.Ztk ?_ | refine G.Ztj ?_ | refine G.Zid ?_ | refine G.Zb1 ?_ | refine G.Ztq ?_ | refine G.Ztr ?_ | refine G.Zzj ?_ | refine G.Zxk ?_ | refine G.Zzm ?_ | refine G.Zze ?_ | refine G.Zxl ?_ | refine G.ZBj ?_ | refine G.Zx7 ?_ | refine G.Zzq ?_ | refine G.Zx2 ?_ | refine G.Zx6 ?_ | refine G.Zpw ?_ | refine G.Zx3 ?_ | refine G.ZB7 ?_ | refine G.ZB6 ?_ | refine G.ZBi ?_ | refine G.Zzp ?_ | refine G.ZBa ?_ | refine G.ZB9 ?_ | refine G.ZB4 ?_ | refine G.ZB3 ?_ | refine G.ZB2 ?_ | refine G.Zia ?_ | refine G.ZB1 ?_ | refine G.ZB0 ?_ | refine G.ZAz ?_ | refine G.ZAy ?_ | refine G.ZAx ?_ | refine G.ZAw ?_ | refine G.ZBh ?_ | refine G.Zxe ?_ | refine G.Zef ?_ | refine G.Zts ?_ | refine G.ZBg ?_ | refine G.ZBf ?_ | refine G.ZBe ?_ | refine G.ZBd ?_ | refine G.ZBc ?_ | refine G.Bs ?_ | refine G.Ztt ?_ | refine G.Zti ?_ | refine G.Ztu ?_ | refine G.Zzf ?_ | refine G.Zxd ?_ | refine G.Ztm ?_ | refine G.Zzg ?_ | refine G.Zxj ?_ | refine G.Zq0 ?_ | refine G.Zxh ?_ | refine G.Zx8 ?_ | refine G.Zif ?_ | refine G.Zee ?_ | refine G.Zie ?_ | refine G.Zwz ?_ | refine G.ZB8 ?_ | refine G.Zx0 ?_ | refine G.Zv2 ?_ | refine G.ZBb ?_ | refine G.Ztp ?_ | refine G.Zxi ?_)
local macro_rules | `(tactic| walk_at "g1")=>`(tactic| first | (with_reducible refine G.J2 ?_) | walk_at "g2")
local macro_rules | `(tactic| walk_at "ne")=>`(tactic| first | assumption | (exact Ne.symm (by assumption)) | exact L2.aD (by assumption) (by assumption) | exact Ne.symm (L2.aD (by assumption) (by assumption)) | exact Nat.ne_of_lt (by assumption))
local macro_rules | `(tactic| walk_at "hp")=>`(tactic| first | assumption | exact L2.aq | (refine Eq.trans (L2.aC ?hne) ?_;(case hne=>walk_at "ne");walk_at "hp"))
local macro_rules | `(tactic| walk_at"d")=>`(tactic| first | omega | decide | (show (_:Int)<_;decide) | exact ⟨by decide,by decide⟩ | exact ⟨by decide,by decide,by decide⟩ | (unfold L2.Uw;omega) | exact .inl (by unfold L2.Uw;omega))
local macro_rules | `(tactic| walk_at"e")=>`(tactic| repeat (first | walk_at "g1" | ((with_reducible refine G.i_I ?hc ?_);(case hc=>walk_at"d"))))
local macro_rules | `(tactic| walk_at"s")=>`(tactic| repeat (first | walk_at "g2" | ((with_reducible refine G.i_I ?hc ?_);(case hc=>walk_at"d"))))
local macro_rules | `(tactic| walk_at"c")=>`(tactic| simp only [List.map_cons,List.map_nil,G.pick,List.getElem?_cons_zero,List.getElem?_cons_succ])
namespace K25
open PySem L2 G
def nY(birth:Int)(bulk:Int)(tone:Int)(load:Int)(fa:Addr):List (Str×V):=[("birth",.int birth),("bulk",.int bulk),("tone",.int tone),("load",.int load),("fields",.ref fa)]
def gR{birth:Int}{bulk:Int}{tone:Int}{load:Int}{fa:Addr}:List.lookup ("birth":Str) (nY birth bulk tone load fa)=some (.int birth:V):=rfl
def GR{birth:Int}{bulk:Int}{tone:Int}{load:Int}{fa:Addr}:List.lookup ("bulk":Str) (nY birth bulk tone load fa)=some (.int bulk:V):=rfl
def WK{birth:Int}{bulk:Int}{tone:Int}{load:Int}{fa:Addr}:List.lookup ("tone":Str) (nY birth bulk tone load fa)=some (.int tone:V):=rfl
def yP{birth:Int}{bulk:Int}{tone:Int}{load:Int}{fa:Addr}:List.lookup ("load":Str) (nY birth bulk tone load fa)=some (.int load:V):=rfl
def lJ{birth:Int}{bulk:Int}{tone:Int}{load:Int}{fa:Addr}:List.lookup ("fields":Str) (nY birth bulk tone load fa)=some (.ref fa:V):=rfl
def Uj{birth:Int}{bulk:Int}{tone:Int}{load:Int}{fa:Addr}(y:Int):cC "tone" (.int y) (nY birth bulk tone load fa)=nY birth bulk y load fa:=rfl
def Uk{birth:Int}{bulk:Int}{tone:Int}{load:Int}{fa:Addr}(y:Int):cC "load" (.int y) (nY birth bulk tone load fa)=nY birth bulk tone y fa:=rfl
def Zr1{birth:Int}{bulk:Int}{tone:Int}{load:Int}{fa:Addr}:(cC "fields" (.ref fa) (cC "load" (.int load) (cC "tone" (.int tone) (cC "bulk" (.int bulk) (cC "birth" (.int birth) [])))))=nY birth bulk tone load fa:=rfl
def vQ{birth:Int}{bulk:Int}{tone:Int}{load:Int}{fa:Addr}:List.lookup ("units":Str) (nY birth bulk tone load fa)=none:=rfl
def Ib{birth:Int}{bulk:Int}{tone:Int}{load:Int}{fa:Addr}:List.lookup ("has_field":Str) (nY birth bulk tone load fa)=none:=rfl
def lH(room:Int)(ca:Addr)(used:Int)(born:Int):List (Str×V):=[("room",.int room),("cells",.ref ca),("used",.int used),("born",.int born)]
def Wk{room:Int}{ca:Addr}{used:Int}{born:Int}:List.lookup ("room":Str) (lH room ca used born)=some (.int room:V):=rfl
def bU{room:Int}{ca:Addr}{used:Int}{born:Int}:List.lookup ("cells":Str) (lH room ca used born)=some (.ref ca:V):=rfl
def yG{room:Int}{ca:Addr}{used:Int}{born:Int}:List.lookup ("used":Str) (lH room ca used born)=some (.int used:V):=rfl
def Wl{room:Int}{ca:Addr}{used:Int}{born:Int}:List.lookup ("born":Str) (lH room ca used born)=some (.int born:V):=rfl
def Eu{room:Int}{ca:Addr}{used:Int}{born:Int}(y:Int):cC "used" (.int y) (lH room ca used born)=lH room ca y born:=rfl
def TV{room:Int}{ca:Addr}{used:Int}{born:Int}(y:Int):cC "born" (.int y) (lH room ca used born)=lH room ca used y:=rfl
def Zq7{room:Int}{ca:Addr}{used:Int}{born:Int}:(cC "born" (.int born) (cC "used" (.int used) (cC "cells" (.ref ca) (cC "room" (.int room) []))))=lH room ca used born:=rfl
def Wh{room:Int}{ca:Addr}{used:Int}{born:Int}:List.lookup ("make":Str) (lH room ca used born)=none:=rfl
def Zb3{room:Int}{ca:Addr}{used:Int}{born:Int}:List.lookup ("lay":Str) (lH room ca used born)=none:=rfl
def Wj{room:Int}{ca:Addr}{used:Int}{born:Int}:List.lookup ("back":Str) (lH room ca used born)=none:=rfl
def Wi{room:Int}{ca:Addr}{used:Int}{born:Int}:List.lookup ("free":Str) (lH room ca used born)=none:=rfl
def Ew{room:Int}{ca:Addr}{used:Int}{born:Int}:List.lookup ("there":Str) (lH room ca used born)=none:=rfl
def Tj(lk:Addr)(tl:Int):List (Str×V):=[("looking",.ref lk),("tells",.int tl)]
def oZ{lk:Addr}{tl:Int}:List.lookup ("looking":Str) (Tj lk tl)=some (.ref lk:V):=rfl
def Er{lk:Addr}{tl:Int}:List.lookup ("tells":Str) (Tj lk tl)=some (.int tl:V):=rfl
def Zpn{lk:Addr}{tl:Int}:(cC "tells" (.int tl) (cC "looking" (.ref lk) []))=Tj lk tl:=rfl
def Zeh(nm:Str)(sa:Addr):List (Str×V):=[("name",.str nm),("slots",.ref sa)]
def rz{nm:Str}{sa:Addr}:List.lookup ("slots":Str) (Zeh nm sa)=some (.ref sa:V):=rfl
def Zqa{nm:Str}{sa:Addr}:(cC "slots" (.ref sa) (cC "name" (.str nm) []))=Zeh nm sa:=rfl
def Cp(hp:Addr)(ki:Addr)(hl:Addr)(nm:Addr)(sw:Addr):List (Str×V):=[("heap",.ref hp),("kind",.ref ki),("hands",.ref hl),("names",.ref nm),("sweeper",.ref sw)]
def bD{hp:Addr}{ki:Addr}{hl:Addr}{nm:Addr}{sw:Addr}:List.lookup ("heap":Str) (Cp hp ki hl nm sw)=some (.ref hp:V):=rfl
def mF{hp:Addr}{ki:Addr}{hl:Addr}{nm:Addr}{sw:Addr}:List.lookup ("kind":Str) (Cp hp ki hl nm sw)=some (.ref ki:V):=rfl
def eV{hp:Addr}{ki:Addr}{hl:Addr}{nm:Addr}{sw:Addr}:List.lookup ("hands":Str) (Cp hp ki hl nm sw)=some (.ref hl:V):=rfl
def nF{hp:Addr}{ki:Addr}{hl:Addr}{nm:Addr}{sw:Addr}:List.lookup ("names":Str) (Cp hp ki hl nm sw)=some (.ref nm:V):=rfl
def bw{hp:Addr}{ki:Addr}{hl:Addr}{nm:Addr}{sw:Addr}:List.lookup ("sweeper":Str) (Cp hp ki hl nm sw)=some (.ref sw:V):=rfl
def Zkn{hp:Addr}{ki:Addr}{hl:Addr}{nm:Addr}{sw:Addr}:(cC "sweeper" (.ref sw) (cC "names" (.ref nm) (cC "hands" (.ref hl) (cC "kind" (.ref ki) (cC "heap" (.ref hp) [])))))=Cp hp ki hl nm sw:=rfl
def cB(se:Int)(ph:Str)(gr:Addr)(lo:Int)(b:Int)(at_:Int)(st:Int)(c:Int)(ls:Int)(d:Int)(a:V):List (Str×V):=[("sense",.int se),("phase",.str ph),("grey",.ref gr),("looked",.int lo),("turn",.int b),("at",.int at_),("stop",.int st),("walks",.int c),("looks",.int ls),("passes",.int d),("loss",a)]
def nJ{se:Int}{ph:Str}{gr:Addr}{lo:Int}{b:Int}{at_:Int}{st:Int}{c:Int}{ls:Int}{d:Int}{a:V}:List.lookup ("sense":Str) (cB se ph gr lo b at_ st c ls d a)=some (.int se:V):=rfl
def fO{se:Int}{ph:Str}{gr:Addr}{lo:Int}{b:Int}{at_:Int}{st:Int}{c:Int}{ls:Int}{d:Int}{a:V}:List.lookup ("phase":Str) (cB se ph gr lo b at_ st c ls d a)=some (.str ph:V):=rfl
def jj{se:Int}{ph:Str}{gr:Addr}{lo:Int}{b:Int}{at_:Int}{st:Int}{c:Int}{ls:Int}{d:Int}{a:V}:List.lookup ("grey":Str) (cB se ph gr lo b at_ st c ls d a)=some (.ref gr:V):=rfl
def iJ{se:Int}{ph:Str}{gr:Addr}{lo:Int}{b:Int}{at_:Int}{st:Int}{c:Int}{ls:Int}{d:Int}{a:V}:List.lookup ("looked":Str) (cB se ph gr lo b at_ st c ls d a)=some (.int lo:V):=rfl
def qD{se:Int}{ph:Str}{gr:Addr}{lo:Int}{a:Int}{at_:Int}{st:Int}{c:Int}{ls:Int}{d:Int}{b:V}:List.lookup ("turn":Str) (cB se ph gr lo a at_ st c ls d b)=some (.int a:V):=rfl
def Iz{se:Int}{ph:Str}{gr:Addr}{lo:Int}{b:Int}{at_:Int}{st:Int}{c:Int}{ls:Int}{d:Int}{a:V}:List.lookup ("at":Str) (cB se ph gr lo b at_ st c ls d a)=some (.int at_:V):=rfl
def Rj{se:Int}{ph:Str}{gr:Addr}{lo:Int}{b:Int}{at_:Int}{st:Int}{c:Int}{ls:Int}{d:Int}{a:V}:List.lookup ("stop":Str) (cB se ph gr lo b at_ st c ls d a)=some (.int st:V):=rfl
def uz{se:Int}{ph:Str}{gr:Addr}{lo:Int}{c:Int}{at_:Int}{st:Int}{a:Int}{ls:Int}{d:Int}{b:V}:List.lookup ("walks":Str) (cB se ph gr lo c at_ st a ls d b)=some (.int a:V):=rfl
def pK{se:Int}{ph:Str}{gr:Addr}{lo:Int}{b:Int}{at_:Int}{st:Int}{c:Int}{ls:Int}{d:Int}{a:V}:List.lookup ("looks":Str) (cB se ph gr lo b at_ st c ls d a)=some (.int ls:V):=rfl
def rK{se:Int}{ph:Str}{gr:Addr}{lo:Int}{c:Int}{at_:Int}{st:Int}{d:Int}{ls:Int}{a:Int}{b:V}:List.lookup ("passes":Str) (cB se ph gr lo c at_ st d ls a b)=some (.int a:V):=rfl
def Rk{se:Int}{ph:Str}{gr:Addr}{lo:Int}{b:Int}{at_:Int}{st:Int}{c:Int}{ls:Int}{d:Int}{a:V}:List.lookup ("loss":Str) (cB se ph gr lo b at_ st c ls d a)=some (a:V):=rfl
def KZ{se:Int}{ph:Str}{gr:Addr}{lo:Int}{b:Int}{at_:Int}{st:Int}{c:Int}{ls:Int}{d:Int}{a:V}(y:Int):cC "sense" (.int y) (cB se ph gr lo b at_ st c ls d a)=cB y ph gr lo b at_ st c ls d a:=rfl
def oW{se:Int}{ph:Str}{gr:Addr}{lo:Int}{b:Int}{at_:Int}{st:Int}{c:Int}{ls:Int}{d:Int}{a:V}(y:Str):cC "phase" (.str y) (cB se ph gr lo b at_ st c ls d a)=cB se y gr lo b at_ st c ls d a:=rfl
def P0{se:Int}{ph:Str}{gr:Addr}{lo:Int}{b:Int}{at_:Int}{st:Int}{c:Int}{ls:Int}{d:Int}{a:V}(y:Addr):cC "grey" (.ref y) (cB se ph gr lo b at_ st c ls d a)=cB se ph y lo b at_ st c ls d a:=rfl
def wK{se:Int}{ph:Str}{gr:Addr}{lo:Int}{b:Int}{at_:Int}{st:Int}{c:Int}{ls:Int}{d:Int}{a:V}(y:Int):cC "looked" (.int y) (cB se ph gr lo b at_ st c ls d a)=cB se ph gr y b at_ st c ls d a:=rfl
def PL{se:Int}{ph:Str}{gr:Addr}{lo:Int}{d:Int}{at_:Int}{st:Int}{b:Int}{ls:Int}{c:Int}{a:V}(y:Int):cC "turn" (.int y) (cB se ph gr lo d at_ st b ls c a)=cB se ph gr lo y at_ st b ls c a:=rfl
def Gu{se:Int}{ph:Str}{gr:Addr}{lo:Int}{b:Int}{at_:Int}{st:Int}{c:Int}{ls:Int}{d:Int}{a:V}(y:Int):cC "at" (.int y) (cB se ph gr lo b at_ st c ls d a)=cB se ph gr lo b y st c ls d a:=rfl
def PN{se:Int}{ph:Str}{gr:Addr}{lo:Int}{b:Int}{at_:Int}{st:Int}{c:Int}{ls:Int}{d:Int}{a:V}(y:Int):cC "stop" (.int y) (cB se ph gr lo b at_ st c ls d a)=cB se ph gr lo b at_ y c ls d a:=rfl
def yX{se:Int}{ph:Str}{gr:Addr}{lo:Int}{b:Int}{at_:Int}{st:Int}{d:Int}{ls:Int}{c:Int}{a:V}(y:Int):cC "walks" (.int y) (cB se ph gr lo b at_ st d ls c a)=cB se ph gr lo b at_ st y ls c a:=rfl
def rJ{se:Int}{ph:Str}{gr:Addr}{lo:Int}{b:Int}{at_:Int}{st:Int}{c:Int}{ls:Int}{d:Int}{a:V}(y:Int):cC "looks" (.int y) (cB se ph gr lo b at_ st c ls d a)=cB se ph gr lo b at_ st c y d a:=rfl
def wJ{se:Int}{ph:Str}{gr:Addr}{lo:Int}{b:Int}{at_:Int}{st:Int}{c:Int}{ls:Int}{d:Int}{a:V}(y:Int):cC "passes" (.int y) (cB se ph gr lo b at_ st c ls d a)=cB se ph gr lo b at_ st c ls y a:=rfl
def PX{se:Int}{ph:Str}{gr:Addr}{lo:Int}{a:Int}{at_:Int}{st:Int}{b:Int}{ls:Int}{c:Int}{d:V}(y:V):cC "loss" (y) (cB se ph gr lo a at_ st b ls c d)=cB se ph gr lo a at_ st b ls c y:=rfl
def Zks{se:Int}{ph:Str}{gr:Addr}{lo:Int}{b:Int}{at_:Int}{st:Int}{c:Int}{ls:Int}{d:Int}{a:V}:(cC "loss" (a) (cC "passes" (.int d) (cC "looks" (.int ls) (cC "walks" (.int c) (cC "stop" (.int st) (cC "at" (.int at_) (cC "turn" (.int b) (cC "looked" (.int lo) (cC "grey" (.ref gr) (cC "phase" (.str ph) (cC "sense" (.int se) [])))))))))))=cB se ph gr lo b at_ st c ls d a:=rfl
def sE(K:aB):TS:=
 (aN (iu K (ak 0) (ak 1) "birth")
   (aN (iu K (ak 0) (ak 3) "bulk")
   (aN (iu K (ak 0) (ak 4) "tone")
   (aN (iu K (ak 0) (tC (.int 0)) "load")
   (iu K (ak 0) (bC (Zcz) (gJ (aj (tC .non) aF)) (ak 2)) "fields")))))
def yq(K:aB):TS:=
 (bG (bC (pL λi j=>.int (i+j)) (bC (pL λi j=>.int (i+j)) (tC (.int 1)) (xK (G.mq K) (aj (bz K (ak 0) "fields") aF))) (bz K (ak 0) "bulk")))
def qP(K:aB):TS:=
 (bG (Zfy (pL λi j=>.bl (decide (i<=j))) (pL λi j=>.bl (decide (i<j))) (tC (.int 0)) (ak 1) (xK (G.mq K) (aj (bz K (ak 0) "fields") aF))))
def sr(K:aB):TS:=
 (aN (iu K (ak 0) (ak 1) "room")
   (aN (iu K (ak 0) (gJ aF) "cells")
   (aN (iu K (ak 0) (tC (.int 0)) "used")
   (iu K (ak 0) (tC (.int 0)) "born"))))
def Aw(K:aB)(a e d:Addr)(g c f b:Sp)(E:XK):TS:=
 (aN (bF (BR a g [] E0 (aj (bC (pL λi j=>.int (i+j)) (bz K (ak 0) "born") (tC (.int 1))) (aj (ak 1) (aj (ak 2) (aj (ak 3) aF))))) (aO 4))
   (aN (dY (bT (bC (pL λi j=>.bl (decide (j<i))) (mj a "units" c [] E0 (ak 4) aF) (mj d "free" f [] E0 (ak 0) aF))) (G.KQ e E (aj (tC (.str "the room does not suffice")) aF)) cu)
   (aN (iu K (ak 0) (bz K (ak 4) "birth") "born")
   (aN (iu K (ak 0) (bC (pL λi j=>.int (i+j)) (bz K (ak 0) "used") (mj a "units" c [] E0 (ak 4) aF)) "used")
   (bG (mj d "lay" b [] E0 (ak 0) (aj (ak 4) aF)))))))
def Dv(K:aB):TS:=
 (aN (dY (bT (bC (G.Zvy K true) (tC .non) (bz K (ak 0) "cells"))) (aN (vg (tBM K "list" wM (bz K (ak 0) "cells") (aj (ak 1) aF)))
   (bG (bC (pL λi j=>.int (i - j)) (xK (G.mq K) (aj (bz K (ak 0) "cells") aF)) (tC (.int 1))))) cu)
   (aN (bF (tBM K "list" (G.Zjs K) (bz K (ak 0) "cells") (aj (tC .non) aF)) (aO 2))
   (aN (bF (ak 1) (TY (bz K (ak 0) "cells") (ak 2) BV))
   (bG (ak 2)))))
def Az(K:aB)(a:Addr)(b:Sp):TS:=
 (aN (bF (bC (mz K) (bz K (ak 0) "cells") (ak 1)) (aO 2))
   (aN (iu K (ak 0) (bC (pL λi j=>.int (i - j)) (bz K (ak 0) "used") (mj a "units" b [] E0 (ak 2) aF)) "used")
   (aN (bF (tC .non) (TY (bz K (ak 0) "cells") (ak 1) BV))
   (bG (bz K (ak 2) "birth")))))
def Ay(K:aB):TS:=
 (bG (bC (pL λi j=>.int (i - j)) (bz K (ak 0) "room") (bz K (ak 0) "used")))
def yp(K:aB):TS:=
 (bG (G.tLC (J9 (aj (xK (G.mq K) (aj (bz K (ak 0) "cells") aF)) aF)) [0] (bT (bC (G.Gv) (bC (mz K) (bz K (ak 1) "cells") (ak 0)) (tC .non))) (ak 0)))
def HN(K:aB):TS:=
 (aN (dY ((UT (bT (bC (G.Vo) (ak 1) (tC .non))) (UT (bT (bC (pL λi j=>.bl (decide (i<j))) (ak 1) (tC (.int 0)))) (bT (bC (pL λi j=>.bl (decide (j<=i))) (ak 1) (xK (G.mq K) (aj (bz K (ak 0) "cells") aF))))))) (bG (tC .non)) cu)
   (bG (bC (mz K) (bz K (ak 0) "cells") (ak 1))))
def Du(K:aB)(a:Sp):TS:=
 (aN (bF (aQ a [] E0 (aj (ak 0) (aj (ak 1) aF))) (aO 2))
   (aN (dY (bT (bC (G.Vo) (ak 2) (tC .non))) (bG (tC .non)) cu)
   (bG (bz K (ak 2) "birth"))))
def z9(K:aB)(a:Sp):TS:=
 (aN (bF (gJ aF) (aO 2))
   (aN (yW (G.Zeg K (aj (ak 1) aF)) (Zqf K 2 (Kc (aO 3) (Kc (aO 4) Zqg)))
   (vg (tBM K "list" Qx (ak 2) (aj (aQ a [] E0 (aj (ak 0) (aj (ak 4) (aj (gf (aj (ak 3) aF)) aF)))) aF))))
   (aN (bF (Rh) (aO 5))
   (aN (bF (tC (.int 0)) (aO 6))
   (aN (Zn8 (bT (bC (pL λi j=>.bl (decide (i<j))) (ak 6) (xK (G.mq K) (aj (ak 2) aF)))) (aN (bF (bC (eF K) (bC (mz K) (ak 2) (ak 6)) (tC (.int 0))) (aO 7))
   (aN (bF (bC (eF K) (bC (mz K) (ak 2) (ak 6)) (tC (.int 1))) (aO 8))
   (aN (bF (bC (pL λi j=>.int (i+j)) (ak 6) (tC (.int 1))) (aO 6))
   (dY (tB (G.Znd true (ak 7) (ak 5))) (aN (Oo (ak 5) (ak 7) (ak 8))
   (vg (tBM K "list" Qx (ak 2) (aj (aQ a [] E0 (aj (ak 0) (aj (bz K (bC (mz K) (bz K (ak 0) "cells") (ak 7)) "fields") (aj (ak 8) aF)))) aF)))) cu)))))
   (bG (xK (G.Zjb) (aj (G.Zfx (ak 5)) aF))))))))
def Fv(K:aB)(a:Sp):TS:=
 (bG (G.Znc K (G.Zeg K (aj (ak 1) aF)) [0,2] (bT (bC (G.Gv) (aQ a [] E0 (aj (ak 2) (aj (ak 1) aF))) (tC .non))) (gf (aj (ak 1) (aj (bC (Zux K) (ak 3) (gf (aj (ak 0) aF))) aF)))))
def su(K:aB):TS:=
 (aN (iu K (ak 0) (ak 1) "name")
   (iu K (ak 0) (bC (Zcz) (gJ (aj (tC .non) aF)) (ak 2)) "slots"))
def pq(K:aB):TS:=
 (aN (iu K (ak 0) (tC (.int 0)) "sense")
   (aN (iu K (ak 0) (tC (.str "rest")) "phase")
   (aN (iu K (ak 0) (gJ aF) "grey")
   (aN (iu K (ak 0) (tC (.int 0)) "looked")
   (aN (iu K (ak 0) (tC (.int 0)) "turn")
   (aN (iu K (ak 0) (tC (.int 0)) "at")
   (aN (iu K (ak 0) (tC (.int 0)) "stop")
   (aN (iu K (ak 0) (tC (.int 0)) "walks")
   (aN (iu K (ak 0) (tC (.int 0)) "looks")
   (aN (iu K (ak 0) (tC (.int 0)) "passes")
   (iu K (ak 0) (tC .non) "loss")))))))))))
def qL(K:aB)(b f e:Addr)(a d c:Sp):TS:=
 (aN (iu K (ak 0) (BR f d [] E0 (aj (ak 1) aF)) "heap")
   (aN (iu K (ak 0) (ak 2) "kind")
   (aN (iu K (ak 0) (G.Znc K (pG K (ak 3)) [] G.wI (BR b a [] E0 (aj (ak 0) (aj (ak 1) aF)))) "hands")
   (aN (iu K (ak 0) (Rh) "names")
   (iu K (ak 0) (BR e c [] E0 aF) "sweeper")))))
def Zx(K:aB):TS:=
 (bG (G.tLC (pG K (bz K (ak 0) "hands")) [] G.wI (xK (G.Ie K) (aj (bz K (ak 0) "slots") aF))))
def vD(K:aB)(a:Sp):TS:=
 (bG (G.tLC (pG K (bz K (ak 0) "hands")) [0] G.wI (aQ a [] E0 (aj (bz K (ak 1) "heap") (aj (bz K (ak 0) "slots") aF)))))
def Ad(K:aB)(a:Sp):TS:=
 (bG (G.tLC (pG K (ak 1)) [0] G.wI (aQ a [] E0 (aj (ak 1) (aj (ak 0) aF)))))
def Aa(K:aB):TS:=
 (bG (bC (Cd) (bC (pL λi j=>.int (Builtin.bitAnd i j)) (bC (rI (λ_ j=>0<=j) λi j=>.int (i / 2 ^ j.toNat)) (bz K (bz K (ak 0) "sweeper") "looked") (ak 1)) (tC (.int 1))) (tC (.int 1))))
def Ab(K:aB):TS:=
 (bG (bC (Cd) (bz K (ak 1) "tone") (bz K (bz K (ak 0) "sweeper") "sense")))
def ye(K:aB):TS:=
 (bG (bC (rIn K false) (bz K (bz K (ak 0) "sweeper") "phase") (gf (aj (tC (.str "walk")) (aj (tC (.str "lost")) aF)))))
def Hu(K:aB)(a:Sp):TS:=
 (aN (bF (bz K (ak 0) "sweeper") (aO 2))
   (aN (bF (aQ a [] E0 (aj (ak 0) (aj (bC (mz K) (bz K (bz K (ak 0) "heap") "cells") (ak 1)) aF))) (aO 3))
   (aN (dY (bT (bC (Cd) (bz K (ak 2) "phase") (tC (.str "rest")))) (bG (tC (.str "kept"))) cu)
   (aN (dY (bT (bC (Cd) (bz K (ak 2) "phase") (tC (.str "give")))) (bG (tIf (tB (ak 3)) (tC (.str "kept")) (tC (.str "doomed")))) cu)
   (aN (dY (zL (tB (ak 3))) (bG (tC (.str "pale"))) cu)
   (bG (tIf (bT (bC (rIn K false) (ak 1) (bz K (ak 2) "grey"))) (tC (.str "grey")) (tC (.str "dark")))))))))
def xY(K:aB)(b:Addr)(c a:Sp):TS:=
 (bG (G.tLC (pG K (mj b "there" c [] E0 (bz K (ak 0) "heap") aF)) [0] G.wI (aQ a [] E0 (aj (ak 1) (aj (ak 0) aF)))))
def z8(K:aB)(b a:Sp):TS:=
 (aN (bF (bC (mz K) (bz K (bz K (ak 0) "heap") "cells") (ak 1)) (aO 2))
   (aN (bF (aQ b [] E0 (aj (bz K (ak 0) "heap") (aj (bz K (ak 2) "fields") aF))) (aO 3))
   (bG (gf (aj (ak 1) (aj (bz K (ak 2) "birth") (aj (bz K (ak 2) "bulk") (aj (bz K (ak 2) "load") (aj (ak 3) (aj (aQ a [] E0 (aj (ak 0) (aj (ak 1) aF))) aF))))))))))
def RT(K:aB)(c d b:Addr)(e a:Sp):TS:=
 (aN (bF (bz K (ak 0) "sweeper") (aO 1))
   (aN (iu K (ak 1) (bC (pL λi j=>.int (i - j)) (tC (.int 1)) (bz K (ak 1) "sense")) "sense")
   (aN (iu K (ak 1) (bC (pL λi j=>.int (i+j)) (bz K (ak 1) "turn") (tC (.int 1))) "turn")
   (aN (iu K (ak 1) (tC (.str "walk")) "phase")
   (aN (iu K (ak 1) (gJ aF) "grey")
   (aN (iu K (ak 1) (G.KR (mj d "at_begin" e [] E0 (bz K (bz K (ak 0) "kind") "looking") (aj (xK (G.mq K) (aj (bz K (ak 0) "hands") aF)) aF)) (G.KR (mj c "at_begin" a [] E0 (bz K (bz K (ak 0) "kind") "looking") (aj (xK (G.mq K) (aj (bz K (ak 0) "hands") aF)) aF)) (mj b "at_begin" a [] E0 (bz K (bz K (ak 0) "kind") "looking") (aj (xK (G.mq K) (aj (bz K (ak 0) "hands") aF)) aF)))) "looked")
   (aN (iu K (ak 1) (tC (.int 0)) "walks")
   (aN (iu K (ak 1) (tC (.int 0)) "looks")
   (iu K (ak 1) (tC (.int 0)) "passes")))))))))
def Zw(K:aB)(a b:Sp):TS:=
 (aN (bF (bz K (ak 0) "sweeper") (aO 2))
   (aN (bF (aQ a [] E0 (aj (bz K (ak 0) "heap") (aj (ak 1) aF))) (aO 3))
   (aN (dY ((UT (bT (bC (rNe) (bz K (ak 2) "phase") (tC (.str "walk")))) (UT (bT (bC (G.Vo) (ak 3) (tC .non))) (tB (aQ b [] E0 (aj (ak 0) (aj (ak 3) aF))))))) (bG (tC .non)) cu)
   (aN (iu K (ak 3) (bz K (ak 2) "sense") "tone")
   (aN (vg (tBM K "list" wM (bz K (ak 2) "grey") (aj (ak 1) aF)))
   (bG (bz K (ak 3) "birth")))))))
def Dr(K:aB)(a:Sp):TS:=
 (aN (bF (gJ aF) (aO 2))
   (aN (yW (pG K (ak 1)) (aO 3)
   (aN (bF (aQ a [] E0 (aj (ak 0) (aj (ak 3) aF))) (aO 4))
   (dY (bT (bC (G.Gv) (ak 4) (tC .non))) (vg (tBM K "list" wM (ak 2) (aj (ak 4) aF))) cu)))
   (bG (ak 2))))
def Zy(K:aB)(a b:Sp):TS:=
 (aN (bF (aQ a [] E0 (aj (bz K (ak 0) "heap") (aj (ak 1) aF))) (aO 3))
   (aN (dY ((UT (bT (bC (G.Vo) (ak 3) (tC .non))) (bT (bC (rNe) (bz K (ak 3) "birth") (ak 2))))) (bG (tC (.bl true))) cu)
   (bG ((Zjn (bC (Cd) (bz K (bz K (ak 0) "sweeper") "phase") (tC (.str "give"))) (Zjm (aQ b [] E0 (aj (ak 0) (aj (ak 3) aF)))))))))
def RQ(K:aB)(b a:Sp)(H0:Hp):TS:=
 (bG (bC (wG) (aQ b [] E0 (aj (ak 0) aF)) (gJ (aj (G.Zna H0 (G.Znc K (G.Zq3 (G.Zn9 (bz K (ak 0) "names"))) [0] G.wI (aQ a [] E0 (aj (ak 2) (aj (ak 0) (aj (ak 1) aF)))))) aF))))
def Ht(K:aB)(a c b:Sp):TS:=
 (aN (dY (tB (aQ a [] E0 (aj (ak 0) (aj (ak 1) (aj (ak 2) aF))))) (bG (tC .non)) cu)
   (aN (dY ((Zg0 (tB (aQ b [] E0 (aj (ak 0) aF))) (zL (tB (aQ c [] E0 (aj (ak 0) (aj (bC (mz K) (bz K (bz K (ak 0) "heap") "cells") (ak 1)) aF))))))) (bG (tC .non)) cu)
   (bG (ak 1))))
def yd(K:aB)(a:Sp):TS:=
 (aN (bF (gJ aF) (aO 2))
   (aN (yW (G.Zeg K (aj (bz K (ak 0) "hands") aF)) (Zqf K 2 (Kc (aO 3) (Kc (aO 4) Zqg)))
   (dY (bT (bC (Cd) (bC (pL λi j=>.int (Builtin.bitAnd i j)) (bC (rI (λ_ j=>0<=j) λi j=>.int (i / 2 ^ j.toNat)) (ak 1) (ak 3)) (tC (.int 1))) (tC (.int 1)))) (vg (tBM K "list" Qx (ak 2) (aj (aQ a [] E0 (aj (ak 0) (aj (bz K (ak 4) "slots") aF))) aF))) cu))
   (bG (ak 2))))
def uH(K:aB)(a b:Sp):TS:=
 (aN (vg (aQ a [] E0 (aj (ak 0) aF)))
   (aN (bF (aQ b [] E0 (aj (ak 0) (aj (bz K (bz K (ak 0) "sweeper") "looked") aF))) (aO 1))
   (bG (gf (aj (tC (.str "begin")) (aj (bz K (bz K (ak 0) "sweeper") "turn") (aj (ak 1) aF)))))))
def uF(K:aB)(b a:Sp):TS:=
 (aN (dY (G.Zvh K (bz K (bz K (ak 0) "sweeper") "grey")) (bG (aQ a [] E0 (aj (ak 0) aF))) cu)
   (bG (aQ b [] E0 (aj (ak 0) aF))))
def Zu(K:aB)(a:Sp):TS:=
 (aN (bF (bz K (ak 0) "sweeper") (aO 1))
   (aN (bF (bC (mz K) (bz K (bz K (ak 0) "heap") "cells") (tBM K "list" Znt (bz K (ak 1) "grey") (aj (tC (.int 0)) aF))) (aO 2))
   (aN (iu K (ak 1) (bC (pL λi j=>.int (i+j)) (bz K (ak 1) "walks") (tC (.int 1))) "walks")
   (bG (gf (aj (tC (.str "walk")) (aj (bz K (ak 2) "birth") (aj (aQ a [] E0 (aj (ak 0) (aj (bz K (ak 2) "fields") aF))) aF))))))))
def o9(K:aB)(d e c:Addr)(f a b g:Sp):TS:=
 (aN (bF (aQ g [] E0 (aj (ak 0) (aj (ak 3) aF))) (aO 4))
   (aN (dY ((UT (bT (bC (Cd) (ak 3) (tC (.int 0)))) (zL ((UT (tB (G.KR (mj e "stays" a [] E0 (ak 2) aF) (G.KR (mj d "stays" a [] E0 (ak 2) aF) (mj c "stays" f [] E0 (ak 2) aF)))) (G.Zvh K (ak 4))))))) (bG (aQ b [] E0 (aj (ak 0) aF))) cu)
   (aN (iu K (ak 1) (bC (pL λi j=>.int (i+j)) (bz K (ak 1) "looks") (tC (.int 1))) "looks")
   (aN (dY (tB (G.KR (mj e "stays" a [] E0 (ak 2) aF) (G.KR (mj d "stays" a [] E0 (ak 2) aF) (mj c "stays" f [] E0 (ak 2) aF)))) (iu K (ak 1) (bC (pL λi j=>.int (Builtin.bitOr i j)) (bz K (ak 1) "looked") (ak 3)) "looked") cu)
   (bG (gf (aj (tC (.str "look")) (aj (ak 3) (aj (ak 4) aF)))))))))
def vC(K:aB)(c d b:Addr)(j g i e h a f:Sp):TS:=
 (aN (bF (bz K (ak 0) "sweeper") (aO 1))
   (aN (bF (bz K (bz K (ak 0) "kind") "looking") (aO 2))
   (aN (bF (G.KR (mj d "next_look" e [] E0 (ak 2) (aj (bz K (ak 1) "looked") (aj (xK (G.mq K) (aj (bz K (ak 0) "hands") aF)) aF))) (G.KR (mj c "next_look" j [] E0 (ak 2) (aj (bz K (ak 1) "looked") (aj (xK (G.mq K) (aj (bz K (ak 0) "hands") aF)) aF))) (mj b "next_look" g [] E0 (ak 2) (aj (bz K (ak 1) "looked") (aj (xK (G.mq K) (aj (bz K (ak 0) "hands") aF)) aF))))) (aO 3))
   (o9 K c d b i h a f))))
def Zh0(K:aB)(c d a b:Sp):TS:=
 (aN (bF (bz K (ak 0) "sweeper") (aO 1))
   (aN (iu K (ak 1) (xK (G.mq K) (aj (bz K (bz K (ak 0) "heap") "cells") aF)) "stop")
   (aN (iu K (ak 1) (tC (.int 0)) "at")
   (aN (bF (aQ d [] E0 (aj (ak 0) aF)) (aO 2))
   (aN (dY (bT (bC (G.Gv) (ak 2) (tC .non))) (aN (iu K (ak 1) (tC (.str "lost")) "phase")
   (aN (iu K (ak 1) (ak 2) "loss")
   (bG (aQ b [] E0 (aj (ak 2) aF))))) cu)
   (aN (iu K (ak 1) (tC (.str "give")) "phase")
   (aN (bF (aQ c [] E0 (aj (bz K (ak 0) "heap") (aj (aQ a [] E0 (aj (ak 0) aF)) aF))) (aO 3))
   (bG (gf (aj (tC (.str "cut")) (aj (xK (G.mq K) (aj (ak 3) aF)) (aj (ak 3) aF))))))))))))
def yf(K:aB)(c a b:Sp):TS:=
 (aN (yW (pG K (aQ a [] E0 (aj (bz K (ak 0) "heap") (aj (aQ b [] E0 (aj (ak 0) aF)) aF)))) (Zqf K 2 (Kc (aO 1) (Kc (aO 2) Zqg)))
   (aN (bF (bC (mz K) (bz K (bz K (ak 0) "heap") "cells") (ak 1)) (aO 3))
   (dY (zL (tB (aQ c [] E0 (aj (ak 0) (aj (ak 3) aF))))) (bG (gf (aj (tC (.str "lost")) (aj (bz K (ak 3) "birth") (aj (xK (G.Zr2 K) (aj (ak 2) aF)) aF))))) cu)))
   (bG (tC .non)))
def Ds(K:aB)(b:Addr)(c a:Sp):TS:=
 (aN (bF (bz K (ak 0) "heap") (aO 1))
   (bG (G.tLC (pG K (mj b "there" c [] E0 (ak 1) aF)) [0,1] (zL (tB (aQ a [] E0 (aj (ak 1) (aj (bC (mz K) (bz K (ak 2) "cells") (ak 0)) aF))))) (ak 0))))
def xZ(K:aB):TS:=
 (bG (gf (aj (bC (eF K) (ak 0) (tC (.int 0))) (aj (bC (eF K) (ak 0) (tC (.int 1))) (aj (xK (G.Ie K) (aj (bC (eF K) (ak 0) (tC (.int 2))) aF)) aF)))))
def uG(K:aB)(a b:Sp):TS:=
 (aN (dY (bT (bC (pL λi j=>.bl (decide (i<j))) (bz K (bz K (ak 0) "sweeper") "at") (bz K (bz K (ak 0) "sweeper") "stop"))) (bG (aQ b [] E0 (aj (ak 0) aF))) cu)
   (bG (aQ a [] E0 (aj (ak 0) aF))))
def yc(K:aB)(d:Addr)(c a b:Sp):TS:=
 (aN (bF (bz K (ak 0) "sweeper") (aO 1))
   (aN (bF (bz K (ak 1) "at") (aO 2))
   (aN (iu K (ak 1) (bC (pL λi j=>.int (i+j)) (ak 2) (tC (.int 1))) "at")
   (aN (iu K (ak 1) (bC (pL λi j=>.int (i+j)) (bz K (ak 1) "passes") (tC (.int 1))) "passes")
   (aN (bF (aQ a [] E0 (aj (bz K (ak 0) "heap") (aj (ak 2) aF))) (aO 3))
   (aN (dY ((UT (bT (bC (G.Vo) (ak 3) (tC .non))) (tB (aQ b [] E0 (aj (ak 0) (aj (ak 3) aF)))))) (bG (gf (aj (tC (.str "pass")) (aj (ak 2) (aj (gJ aF) aF))))) cu)
   (bG (gf (aj (tC (.str "back")) (aj (mj d "back" c [] E0 (bz K (ak 0) "heap") (aj (ak 2) aF)) (aj (gJ (aj (ak 2) aF)) aF)))))))))))
def Zgz(K:aB):TS:=
 (aN (bF (bz K (ak 0) "sweeper") (aO 1))
   (aN (iu K (ak 1) (tC (.str "rest")) "phase")
   (bG (gf (aj (tC (.str "end")) (aj (bz K (ak 1) "turn") (aj (gJ (aj (bz K (ak 1) "walks") (aj (bz K (ak 1) "looks") (aj (bz K (ak 1) "passes") aF)))) aF)))))))
def qI(K:aB)(a:Sp):TS:=
 (bG (aQ a [] E0 (aj (bz K (bz K (ak 0) "sweeper") "loss") aF)))
def Zv(K:aB)(d c b a:Addr)(e g h f:Sp):TS:=
 (aN (bF (G.Zrf [("rest",d),("walk",b),("give",c),("lost",a)] (bz K (bz K (ak 0) "sweeper") "phase")) (aO 1))
   (bG (G.YB 1 [(d,e),(b,h),(c,g),(a,f)] E0 (aj (ak 0) aF))))
def Ly:TS:=
 (bG (bC (pL λi j=>.int (i - j)) (bC (rI Zcj λi j=>.int (i * 2 ^ j.toNat)) (tC (.int 1)) (ak 0)) (tC (.int 1))))
def pA:TS:=
 (bG (tC (.int 0)))
def oA:TS:=
 (bG (tC (.int 0)))
def rY:TS:=
 (bG (tC (.bl true)))
def qN(a:Sp):TS:=
 (bG (aQ a [] E0 (aj (ak 1) aF)))
def qO:TS:=
 (aN (yW (J9 (aj (ak 2) aF)) (aO 3)
   (dY (bT (bC (Cd) (bC (pL λi j=>.int (Builtin.bitAnd i j)) (bC (rI (λ_ j=>0<=j) λi j=>.int (i / 2 ^ j.toNat)) (ak 1) (ak 3)) (tC (.int 1))) (tC (.int 0)))) (bG (bC (rI Zcj λi j=>.int (i * 2 ^ j.toNat)) (tC (.int 1)) (ak 3))) cu))
   (bG (tC (.int 0))))
def qM(a:Sp):TS:=
 (bG (aQ a [] E0 (aj (ak 2) aF)))
def yo:TS:=
 (bG (tC (.bl false)))
def rZ(K:aB):TS:=
 (aN (iu K (ak 0) (ak 1) "looking")
   (iu K (ak 0) (ak 2) "tells"))
def Dp(K:aB):TS:=
 (bG (bz K (bC (mz K) (bz K (ak 0) "hands") (ak 1)) "slots"))
def HJ(K:aB)(a:Addr)(c b:Sp)(E:XK):TS:=
 (aN (bF (aQ c [] E0 (aj (bz K (ak 0) "heap") (aj (bC (mz K) (aQ b [] E0 (aj (ak 0) (aj (ak 1) aF))) (ak 2)) aF))) (aO 3))
   (aN (dY (bT (bC (G.Vo) (ak 3) (tC .non))) (G.KQ a E (aj (tC (.str "the slot holds no cell")) aF)) cu)
   (bG (ak 3))))
def Ac(K:aB)(a b:Addr)(d c:Sp)(E:XK):TS:=
 (aN (bF (aQ c [] E (aj (ak 0) (aj (ak 1) (aj (ak 2) aF)))) (aO 4))
   (aN (dY (zL (tB (mj a "has_field" d [] E0 (ak 4) (aj (ak 3) aF)))) (G.KQ b E (aj (tC (.str "the cell does not have the field")) aF)) cu)
   (bG (bz K (ak 4) "fields"))))
def vz(K:aB):TS:=
 (aN (dY (bT (bC (Cd) (bC (pL λi j=>.int (Builtin.bitAnd i j)) (bz K (bz K (ak 0) "kind") "tells") (tC (.int 1))) (tC (.int 0)))) (bG (gJ aF)) cu)
   (bG (gJ (aj (ak 1) aF))))
def vA(K:aB)(a:Sp):TS:=
 (aN (dY ((UT (bT (bC (Cd) (bC (pL λi j=>.int (Builtin.bitAnd i j)) (bz K (bz K (ak 0) "kind") "tells") (tC (.int 2))) (tC (.int 0)))) (tB (aQ a [] E0 (aj (ak 0) (aj (ak 1) aF)))))) (bG (gJ aF)) cu)
   (bG (gJ (aj (ak 2) aF))))
def HB(K:aB)(c:Addr)(b d a:Sp)(E:XK):TS:=
 (aN (bF (aQ a [] E0 (aj (ak 0) (aj (bC (eF K) (ak 1) (tC (.int 1))) aF))) (aO 2))
   (aN (bF (bC (eF K) (ak 1) (tC (.int 3))) (aO 3))
   (aN (bF (bC (eF K) (ak 1) (tC (.int 4))) (aO 4))
   (aN (bF (mj c "make" b [] E (bz K (ak 0) "heap") (aj (ak 3) (aj (ak 4) (aj (bz K (bz K (ak 0) "sweeper") "sense") aF)))) (aO 5))
   (aN (bF (ak 5) (TY (ak 2) (bC (eF K) (ak 1) (tC (.int 2))) BV))
   (bG (gf (aj (tC (.str "made")) (aj (aQ d [] E0 (aj (bz K (ak 0) "heap") (aj (ak 5) aF))) (aj (gJ aF) aF))))))))))
def Lx(K:aB)(c b a:Sp)(E:XK):TS:=
 (aN (bF (bC (eF K) (ak 1) (tC (.int 1))) (aO 2))
   (aN (bF (bC (eF K) (ak 1) (tC (.int 3))) (aO 3))
   (aN (bF (bC (eF K) (ak 1) (tC (.int 4))) (aO 4))
   (aN (bF (bC (mz K) (aQ b [] E (aj (ak 0) (aj (ak 2) (aj (ak 3) (aj (ak 4) aF))))) (ak 4)) (aO 5))
   (aN (bF (ak 5) (TY (aQ a [] E0 (aj (ak 0) (aj (ak 2) aF))) (bC (eF K) (ak 1) (tC (.int 2))) BV))
   (bG (gf (aj (tC (.str "got")) (aj (aQ c [] E0 (aj (bz K (ak 0) "heap") (aj (ak 5) aF))) (aj (gJ aF) aF))))))))))
def Lw(K:aB)(f e c a d b:Sp)(E:XK):TS:=
 (aN (bF (bC (eF K) (ak 1) (tC (.int 1))) (aO 2))
   (aN (bF (bC (eF K) (ak 1) (tC (.int 3))) (aO 3))
   (aN (bF (aQ e [] E (aj (ak 0) (aj (ak 2) (aj (bC (eF K) (ak 1) (tC (.int 2))) (aj (ak 3) aF))))) (aO 4))
   (aN (bF (bC (mz K) (ak 4) (ak 3)) (aO 5))
   (aN (bF (bC (mz K) (aQ a [] E0 (aj (ak 0) (aj (ak 2) aF))) (bC (eF K) (ak 1) (tC (.int 4)))) (aO 6))
   (aN (bF (ak 6) (TY (ak 4) (ak 3) BV))
   (aN (bF (aQ c [] E0 (aj (ak 0) (aj (bC (wG) (aQ b [] E0 (aj (ak 0) (aj (ak 5) aF))) (aQ d [] E0 (aj (ak 0) (aj (ak 2) (aj (ak 6) aF))))) aF))) (aO 7))
   (bG (gf (aj (tC (.str "put")) (aj (aQ f [] E0 (aj (bz K (ak 0) "heap") (aj (ak 5) aF))) (aj (ak 7) aF))))))))))))
def HH(K:aB)(b a:Sp):TS:=
 (aN (bF (aQ a [] E0 (aj (ak 0) (aj (bC (eF K) (ak 1) (tC (.int 1))) aF))) (aO 2))
   (aN (bF (bC (mz K) (ak 2) (bC (eF K) (ak 1) (tC (.int 3)))) (aO 3))
   (aN (bF (ak 3) (TY (ak 2) (bC (eF K) (ak 1) (tC (.int 2))) BV))
   (bG (gf (aj (tC (.str "copied")) (aj (aQ b [] E0 (aj (bz K (ak 0) "heap") (aj (ak 3) aF))) (aj (gJ aF) aF))))))))
def HF(K:aB)(b a:Sp):TS:=
 (aN (bF (aQ a [] E0 (aj (ak 0) (aj (bC (eF K) (ak 1) (tC (.int 1))) aF))) (aO 2))
   (aN (bF (bC (mz K) (ak 2) (bC (eF K) (ak 1) (tC (.int 2)))) (aO 3))
   (aN (bF (tC .non) (TY (ak 2) (bC (eF K) (ak 1) (tC (.int 2))) BV))
   (bG (gf (aj (tC (.str "dropped")) (aj (aQ b [] E0 (aj (bz K (ak 0) "heap") (aj (ak 3) aF))) (aj (gJ aF) aF))))))))
def HD(K:aB)(d b a c:Sp):TS:=
 (aN (bF (bC (eF K) (ak 1) (tC (.int 1))) (aO 2))
   (aN (bF (bC (eF K) (ak 1) (tC (.int 3))) (aO 3))
   (aN (bF (bC (mz K) (aQ a [] E0 (aj (ak 0) (aj (ak 2) aF))) (bC (eF K) (ak 1) (tC (.int 2)))) (aO 4))
   (aN (bF (ak 4) (TY (aQ a [] E0 (aj (ak 0) (aj (ak 3) aF))) (bC (eF K) (ak 1) (tC (.int 4))) BV))
   (aN (bF (aQ b [] E0 (aj (ak 0) (aj (aQ c [] E0 (aj (ak 0) (aj (ak 2) (aj (ak 4) aF)))) aF))) (aO 5))
   (bG (gf (aj (tC (.str "given")) (aj (aQ d [] E0 (aj (bz K (ak 0) "heap") (aj (ak 4) aF))) (aj (ak 5) aF))))))))))
def Dt(K:aB)(a:Sp)(E:XK):TS:=
 (aN (bF (aQ a [] E (aj (ak 0) (aj (bC (eF K) (ak 1) (tC (.int 1))) (aj (bC (eF K) (ak 1) (tC (.int 2))) aF)))) (aO 2))
   (aN (bF (bz K (ak 2) "load") (aO 3))
   (aN (iu K (ak 2) (bC (eF K) (ak 1) (tC (.int 3))) "load")
   (bG (gf (aj (tC (.str "wrote")) (aj (ak 3) (aj (gJ aF) aF))))))))
def Hw(K:aB)(a:Sp)(E:XK):TS:=
 (aN (bF (aQ a [] E (aj (ak 0) (aj (bC (eF K) (ak 1) (tC (.int 1))) (aj (bC (eF K) (ak 1) (tC (.int 2))) aF)))) (aO 2))
   (bG (gf (aj (tC (.str "read")) (aj (bz K (ak 2) "load") (aj (gJ aF) aF))))))
def Hz(K:aB)(b a:Sp)(E:XK):TS:=
 (aN (bF (bC (eF K) (ak 1) (tC (.int 1))) (aO 2))
   (aN (bF (bC (eF K) (ak 1) (tC (.int 2))) (aO 3))
   (aN (bF (bz K (aQ b [] E (aj (ak 0) (aj (ak 2) (aj (ak 3) aF)))) "birth") (aO 4))
   (aN (Oo (bz K (ak 0) "names") (bC (eF K) (ak 1) (tC (.int 3))) (gf (aj (bC (mz K) (aQ a [] E0 (aj (ak 0) (aj (ak 2) aF))) (ak 3)) (aj (ak 4) aF))))
   (bG (gf (aj (tC (.str "named")) (aj (ak 4) (aj (gJ aF) aF)))))))))
def Hv(K:aB)(d b c a:Sp)(E:XK):TS:=
 (aN (bF (aQ c [] E (aj (ak 0) (aj (bC (eF K) (ak 1) (tC (.int 3))) aF))) (aO 2))
   (aN (bF (ak 2) (TY (aQ a [] E0 (aj (ak 0) (aj (bC (eF K) (ak 1) (tC (.int 1))) aF))) (bC (eF K) (ak 1) (tC (.int 2))) BV))
   (aN (bF (aQ b [] E0 (aj (ak 0) (aj (gJ (aj (ak 2) aF)) aF))) (aO 3))
   (bG (gf (aj (tC (.str "sought")) (aj (aQ d [] E0 (aj (bz K (ak 0) "heap") (aj (ak 2) aF))) (aj (ak 3) aF))))))))
def vB(K:aB)(b:Addr)(a:Sp)(E:XK):TS:=
 (aN (dY (tB (Yz (ak 1) (bz K (ak 0) "names"))) (G.KQ b E (aj (tC (.str "the weak name was never given")) aF)) cu)
   (aN (bF (bC (eF K) (Ri (bz K (ak 0) "names") (ak 1)) (tC (.int 0))) (aO 2))
   (aN (bF (bC (eF K) (Ri (bz K (ak 0) "names") (ak 1)) (tC (.int 1))) (aO 3))
   (aN (dY (tB (aQ a [] E0 (aj (ak 0) (aj (ak 2) (aj (ak 3) aF))))) (bG (tC .non)) cu)
   (bG (ak 2))))))
def Znr(K:aB)(q r n s o k l t m p:Addr)(g a d i h j e f c b:Sp)(E:XK):TS:=
 (aN (bF (G.Zrf [("make",o),("get",n),("put",l),("copy",q),("drop",r),("give",s),("write",p),("read",t),("name",k),("seek",m)] (bC (eF K) (ak 1) (tC (.int 0)))) (aO 2))
   (bG (G.YB 2 [(o,h),(n,d),(l,e),(q,g),(r,a),(s,i),(p,b),(t,f),(k,j),(m,c)] E (aj (ak 0) (aj (ak 1) aF)))))
def Av(K:aB):TS:=
 (aN (dY (bT (bC (pL λi j=>.bl (decide (i<j))) (ak 1) (xK (G.mq K) (aj (ak 0) aF)))) (bG (bC (mz K) (ak 0) (ak 1))) cu)
   (bG (tC (.int 0))))
def Aq:TS:=
 (bG (bC (rI (λ_ j=>0<j) λi j=>.int (i % j)) (bC (rI (λ_ j=>0<j) λi j=>.int (i % j)) (bC (rI Uw λi j=>.int (i * j)) (bC (rI (λ_ j=>0<j) λi j=>.int (i % j)) (ak 0) (ak 1)) (tC (.int 48271))) (ak 1)) (ak 2)))
def Ae:TS:=
 (aN (bF (tC (.str "abcdefghijklmnopqrstuvwxyz")) (aO 2))
   (aN (bF (bC (pL λi j=>.int (i+j)) (tC (.int 1)) (bC (rI (λ_ j=>0<j) λi j=>.int (i % j)) (ak 0) (tC (.int 12)))) (aO 3))
   (aN (bF (bC (rI (λ_ j=>0<j) λi j=>.int (i % j)) (bC (rI Oi λi j=>.int (i / j)) (ak 0) (tC (.int 12))) (ak 3)) (aO 4))
   (aN (bF (bC (Znu) (ak 2) (bC (rI (λ_ j=>0<j) λi j=>.int (i % j)) (bC (rI Oi λi j=>.int (i / j)) (ak 0) (tC (.int 5))) (tC (.int 26)))) (aO 5))
   (aN (bF (bC (Znu) (ak 2) (bC (rI (λ_ j=>0<j) λi j=>.int (i % j)) (bC (pL λi j=>.int (i+j)) (bC (rI Oi λi j=>.int (i / j)) (ak 0) (tC (.int 7))) (bC (rI Uw λi j=>.int (i * j)) (tC (.int 5)) (ak 1))) (tC (.int 26)))) (aO 6))
   (bG (bC (G.Znw) (bC (G.Znw) (bC (G.Zjr) (ak 5) (ak 4)) (ak 6)) (bC (G.Zjr) (ak 5) (bC (pL λi j=>.int (i - j)) (bC (pL λi j=>.int (i - j)) (ak 3) (tC (.int 1))) (ak 4))))))))))
def yj(K:aB)(c a b:Sp):TS:=
 (aN (bF (aQ c [] E0 (aj (ak 0) (aj (tC (.int 1)) aF))) (aO 1))
   (aN (bF (gJ aF) (aO 2))
   (aN (yW (J9 (aj (bC (pL λi j=>.int (i+j)) (tC (.int 1)) (aQ a [] E0 (aj (ak 1) (aj (tC (.int 104729)) (aj (tC (.int 5)) aF))))) aF)) (aO 3)
   (aN (bF (tC (.int 3)) (aO 4))
   (aN (dY (bT (bC (Cd) (bC (rI (λ_ j=>0<j) λi j=>.int (i % j)) (ak 1) (tC (.int 3))) (tC (.int 1)))) (bF (bC (pL λi j=>.int (i+j)) (tC (.int 3)) (aQ a [] E0 (aj (bC (pL λi j=>.int (i+j)) (ak 1) (bC (rI Uw λi j=>.int (i * j)) (bC (rI Uw λi j=>.int (i * j)) (tC (.int 7)) (ak 3)) (ak 3))) (aj (tC (.int 224737)) (aj (tC (.int 7)) aF))))) (aO 4)) cu)
   (vg (tBM K "list" wM (ak 2) (aj (gf (aj (aQ b [] E0 (aj (ak 1) (aj (ak 3) aF))) (aj (ak 4) aF))) aF))))))
   (bG (ak 2)))))
def Ai(b a:Sp):TS:=
 (aN (bF (aQ b [] E0 (aj (ak 0) (aj (tC (.int 2)) aF))) (aO 1))
   (aN (dY (bT (bC (Cd) (aQ a [] E0 (aj (ak 1) (aj (tC (.int 7919)) (aj (tC (.int 4)) aF)))) (tC (.int 1)))) (bG (bC (pL λi j=>.int (i+j)) (tC (.int 4)) (bC (rI (λ_ j=>0<j) λi j=>.int (i % j)) (bC (rI Oi λi j=>.int (i / j)) (ak 1) (tC (.int 4))) (tC (.int 60))))) cu)
   (bG (bC (pL λi j=>.int (i - j)) (bC (rI Zcj λi j=>.int (i ^ j.toNat)) (tC (.int 10)) (tC (.int 15))) (bC (rI (λ_ j=>0<j) λi j=>.int (i % j)) (ak 1) (bC (rI Zcj λi j=>.int (i ^ j.toNat)) (tC (.int 10)) (tC (.int 12))))))))
def An(d e a c:Addr)(b:Sp):TS:=
 (aN (dY (bT (bC (Cd) (bC (rI (λ_ j=>0<j) λi j=>.int (i % j)) (ak 0) (tC (.int 3))) (tC (.int 0)))) (bG (BR a b [] E0 (aj (G.KY e) (aj (bC (rI (λ_ j=>0<j) λi j=>.int (i % j)) (bC (rI Oi λi j=>.int (i / j)) (ak 0) (tC (.int 3))) (tC (.int 4))) aF)))) cu)
   (aN (dY (bT (bC (Cd) (bC (rI (λ_ j=>0<j) λi j=>.int (i % j)) (ak 0) (tC (.int 3))) (tC (.int 1)))) (bG (BR a b [] E0 (aj (G.KY d) (aj (bC (rI (λ_ j=>0<j) λi j=>.int (i % j)) (bC (rI Oi λi j=>.int (i / j)) (ak 0) (tC (.int 3))) (tC (.int 4))) aF)))) cu)
   (bG (BR a b [] E0 (aj (G.KY c) (aj (bC (rI (λ_ j=>0<j) λi j=>.int (i % j)) (bC (rI Oi λi j=>.int (i / j)) (ak 0) (tC (.int 3))) (tC (.int 4))) aF))))))
def Ak(K:aB)(a:Sp):TS:=
 (aN (bF (bC (mz K) (gJ (aj (tC (.int 1)) (aj (tC (.int 2)) (aj (tC (.int 2)) (aj (tC (.int 3)) (aj (tC (.int 0)) (aj (tC (.int 8)) aF))))))) (aQ a [] E0 (aj (ak 0) (aj (tC (.int 611953)) (aj (tC (.int 6)) aF))))) (aO 3))
   (aN (bF (tC (.int 0)) (aO 4))
   (aN (dY (bT (bC (Cd) (bC (rI (λ_ j=>0<j) λi j=>.int (i % j)) (ak 0) (tC (.int 3))) (tC (.int 1)))) (bF (bC (rI (λ_ j=>0<j) λi j=>.int (i % j)) (ak 0) (tC (.int 7))) (aO 4)) cu)
   (aN (dY (bT (bC (Cd) (bC (rI (λ_ j=>0<j) λi j=>.int (i % j)) (ak 0) (tC (.int 3))) (tC (.int 2)))) (bF (bC (rI (λ_ j=>0<j) λi j=>.int (i % j)) (ak 0) (bC (pL λi j=>.int (i+j)) (bC (rI Zcj λi j=>.int (i ^ j.toNat)) (tC (.int 10)) (tC (.int 12))) (tC (.int 1)))) (aO 4)) cu)
   (bG (gf (aj (tC (.str "make")) (aj (ak 1) (aj (ak 2) (aj (ak 3) (aj (ak 4) aF)))))))))))
def Am:TS:=
 (aN (bF (bC (rI (λ_ j=>0<j) λi j=>.int (i % j)) (ak 0) (bC (rI Zcj λi j=>.int (i ^ j.toNat)) (tC (.int 10)) (tC (.int 60)))) (aO 1))
   (aN (dY (bT (bC (Cd) (bC (rI (λ_ j=>0<j) λi j=>.int (i % j)) (bC (rI Oi λi j=>.int (i / j)) (ak 0) (tC (.int 7))) (tC (.int 2))) (tC (.int 1)))) (bG (tUn (rU λi=>.int (-i)) (ak 1))) cu)
   (bG (ak 1))))
def Ar(K:aB)(a b d c:Sp):TS:=
 (aN (bF (aQ a [] E0 (aj (ak 0) (aj (tC (.int 104729)) (aj (xK (G.mq K) (aj (ak 1) aF)) aF)))) (aO 3))
   (aN (bF (aQ a [] E0 (aj (ak 0) (aj (tC (.int 224737)) (aj (bC (eF K) (bC (mz K) (ak 1) (ak 3)) (tC (.int 1))) aF)))) (aO 4))
   (aN (bF (aQ a [] E0 (aj (ak 0) (aj (tC (.int 350377)) (aj (bC (eF K) (bC (mz K) (ak 1) (ak 3)) (tC (.int 1))) aF)))) (aO 5))
   (aN (bF (aQ a [] E0 (aj (ak 0) (aj (tC (.int 479909)) (aj (bC (mz K) (gJ (aj (tC (.int 3)) (aj (tC (.int 8)) aF))) (bC (rI Oi λi j=>.int (i / j)) (bC (rI (λ_ j=>0<j) λi j=>.int (i % j)) (ak 0) (tC (.int 5))) (tC (.int 4)))) aF)))) (aO 6))
   (aN (bF (aQ a [] E0 (aj (ak 0) (aj (tC (.int 7919)) (aj (tC (.int 20)) aF)))) (aO 7))
   (aN (dY (bT (bC (pL λi j=>.bl (decide (i<j))) (ak 7) (tC (.int 5)))) (bG (aQ d [] E0 (aj (ak 0) (aj (ak 3) (aj (ak 4) aF))))) cu)
   (aN (dY (bT (bC (pL λi j=>.bl (decide (i<j))) (ak 7) (tC (.int 8)))) (bG (gf (aj (tC (.str "get")) (aj (ak 3) (aj (ak 4) (aj (ak 5) (aj (ak 6) aF))))))) cu)
   (aN (dY (bT (bC (pL λi j=>.bl (decide (i<j))) (ak 7) (tC (.int 11)))) (bG (gf (aj (tC (.str "put")) (aj (ak 3) (aj (ak 5) (aj (ak 6) (aj (ak 4) aF))))))) cu)
   (aN (dY (bT (bC (Cd) (ak 7) (tC (.int 11)))) (bG (gf (aj (tC (.str "copy")) (aj (ak 3) (aj (ak 4) (aj (ak 5) aF)))))) cu)
   (aN (dY (bT (bC (Cd) (ak 7) (tC (.int 12)))) (bG (gf (aj (tC (.str "drop")) (aj (ak 3) (aj (ak 4) aF))))) cu)
   (aN (dY (bT (bC (pL λi j=>.bl (decide (i<j))) (ak 7) (tC (.int 15)))) (aN (bF (aQ a [] E0 (aj (ak 0) (aj (tC (.int 746773)) (aj (xK (G.mq K) (aj (ak 1) aF)) aF)))) (aO 8))
   (bG (gf (aj (tC (.str "give")) (aj (ak 3) (aj (ak 4) (aj (ak 8) (aj (aQ a [] E0 (aj (ak 0) (aj (tC (.int 882377)) (aj (bC (eF K) (bC (mz K) (ak 1) (ak 8)) (tC (.int 1))) aF)))) aF)))))))) cu)
   (aN (dY (bT (bC (Cd) (ak 7) (tC (.int 15)))) (bG (gf (aj (tC (.str "write")) (aj (ak 3) (aj (ak 5) (aj (aQ b [] E0 (aj (ak 0) aF)) aF)))))) cu)
   (aN (bF (aQ c [] E0 (aj (ak 2) (aj (aQ a [] E0 (aj (ak 0) (aj (tC (.int 1299709)) (aj (tC (.int 2)) aF)))) aF))) (aO 9))
   (aN (dY (bT (bC (pL λi j=>.bl (decide (i<j))) (ak 7) (tC (.int 18)))) (bG (gf (aj (tC (.str "name")) (aj (ak 3) (aj (ak 5) (aj (ak 9) aF)))))) cu)
   (bG (gf (aj (tC (.str "seek")) (aj (ak 3) (aj (ak 4) (aj (ak 9) aF))))))))))))))))))))
def ym(K:aB)(a b:Sp):TS:=
 (aN (bF (aQ a [] E0 (aj (ak 0) (aj (ak 1) (aj (ak 2) aF)))) (aO 3))
   (aN (dY ((Zg0 (bT (bC (Cd) (bC (eF K) (ak 3) (tC (.int 0))) (tC (.str "put")))) (bT (bC (Cd) (bC (rI (λ_ j=>0<j) λi j=>.int (i % j)) (bC (rI Oi λi j=>.int (i / j)) (ak 0) (tC (.int 5))) (tC (.int 2))) (tC (.int 0)))))) (bG (gJ (aj (ak 3) (aj (gf (aj (tC (.str "drop")) (aj (bC (eF K) (ak 3) (tC (.int 1))) (aj (bC (eF K) (ak 3) (tC (.int 4))) aF)))) aF)))) cu)
   (aN (dY ((Zg0 (bT (bC (Cd) (bC (eF K) (ak 3) (tC (.int 0))) (tC (.str "get")))) (bT (bC (Cd) (bC (rI (λ_ j=>0<j) λi j=>.int (i % j)) (bC (rI Oi λi j=>.int (i / j)) (ak 0) (tC (.int 5))) (tC (.int 2))) (tC (.int 0)))))) (bG (gJ (aj (ak 3) (aj (gf (aj (tC (.str "put")) (aj (bC (eF K) (ak 3) (tC (.int 1))) (aj (bC (eF K) (ak 3) (tC (.int 3))) (aj (bC (eF K) (ak 3) (tC (.int 4))) (aj (aQ b [] E0 (aj (ak 0) (aj (tC (.int 1159523)) (aj (tC (.int 3)) aF)))) aF)))))) aF)))) cu)
   (bG (gJ (aj (ak 3) aF))))))
def p7(K:aB)(a:Sp):TS:=
 (aN (yW (J9 (aj (xK (G.mq K) (aj (ak 0) aF)) aF)) (aO 4)
   (aN (dY (bT (bC (Cd) (ak 5) (tC (.int 1)))) (bF (bC (wG) (ak 3) (gJ (aj (gf (aj (tC (.str "get")) (aj (ak 4) (aj (tC (.int 1)) (aj (tC (.int 0)) (aj (bC (rI (λ_ j=>0<j) λi j=>.int (i % j)) (ak 4) (tC (.int 2))) aF)))))) (aj (gf (aj (tC (.str "put")) (aj (ak 4) (aj (tC (.int 0)) (aj (bC (rI (λ_ j=>0<j) λi j=>.int (i % j)) (ak 4) (tC (.int 2))) (aj (tC (.int 2)) aF)))))) aF)))) (aO 3)) cu)
   (aN (dY (bT (bC (pL λi j=>.bl (decide (j<i))) (ak 5) (tC (.int 1)))) (bF (bC (wG) (ak 3) (gJ (aj (gf (aj (tC (.str "make")) (aj (ak 4) (aj (tC (.int 0)) (aj (tC (.int 1)) (aj (tC (.int 0)) aF)))))) (aj (gf (aj (tC (.str "put")) (aj (ak 4) (aj (tC (.int 0)) (aj (tC (.int 0)) (aj (tC (.int 1)) aF)))))) (aj (gf (aj (tC (.str "drop")) (aj (ak 4) (aj (tC (.int 1)) aF)))) aF))))) (aO 3)) cu)
   (dY (bT (bC (Cd) (ak 5) (tC (.int 3)))) (bF (bC (wG) (ak 3) (gJ (aj (gf (aj (tC (.str "name")) (aj (ak 4) (aj (tC (.int 0)) (aj (aQ a [] E0 (aj (ak 2) (aj (bC (rI (λ_ j=>0<j) λi j=>.int (i % j)) (ak 4) (tC (.int 2))) aF))) aF))))) (aj (gf (aj (tC (.str "drop")) (aj (ak 4) (aj (tC (.int 0)) aF)))) aF)))) (aO 3)) cu))))
   (bG (ak 3)))
def yh(K:aB)(a b:Sp):TS:=
 (aN (bF (gJ aF) (aO 3))
   (aN (yW (J9 (aj (xK (G.mq K) (aj (ak 0) aF)) aF)) (aO 4)
   (aN (bF (bC (wG) (ak 3) (gJ (aj (gf (aj (tC (.str "make")) (aj (ak 4) (aj (tC (.int 0)) (aj (tC (.int 2)) (aj (tC (.int 0)) aF)))))) (aj (gf (aj (tC (.str "make")) (aj (ak 4) (aj (tC (.int 1)) (aj (tC (.int 1)) (aj (tC (.int 0)) aF)))))) aF)))) (aO 3))
   (bF (bC (wG) (ak 3) (gJ (aj (gf (aj (tC (.str "put")) (aj (ak 4) (aj (tC (.int 0)) (aj (bC (rI (λ_ j=>0<j) λi j=>.int (i % j)) (ak 4) (tC (.int 2))) (aj (tC (.int 1)) aF)))))) (aj (gf (aj (tC (.str "drop")) (aj (ak 4) (aj (tC (.int 1)) aF)))) aF)))) (aO 3))))
   (aN (bF (aQ a [] E0 (aj (ak 1) (aj (tC (.int 746773)) (aj (tC (.int 4)) aF)))) (aO 5))
   (aN (dY (bT (bC (pL λi j=>.bl (decide (j<i))) (ak 5) (tC (.int 1)))) (bF (bC (wG) (ak 3) (G.tLC (J9 (aj (xK (G.mq K) (aj (ak 0) aF)) aF)) [] G.wI (gf (aj (tC (.str "make")) (aj (ak 0) (aj (tC (.int 1)) (aj (tC (.int 0)) (aj (tC (.int 0)) aF)))))))) (aO 3)) cu)
   (aN (bF (bC (wG) (ak 3) (bC (Zcz) (gJ (aj (tC .non) aF)) (bC (pL λi j=>.int (i+j)) (tC (.int 1)) (aQ a [] E0 (aj (ak 1) (aj (tC (.int 882377)) (aj (tC (.int 4)) aF))))))) (aO 3))
   (p7 K b))))))
def qK(K:aB)(c b a:Sp):TS:=
 (aN (bF (aQ c [] E0 (aj (ak 0) (aj (tC (.int 2)) aF))) (aO 3))
   (aN (bF (tC (.int 0)) (aO 4))
   (aN (yW (pG K (tSl (Zvx K) (ak 0) (Rg (tC (.int 3))) (Rg (tC (.int 63))))) (aO 5)
   (aN (bF (bC (pL λi j=>.int (i+j)) (ak 5) (bC (rI Uw λi j=>.int (i * j)) (bC (rI Uw λi j=>.int (i * j)) (ak 4) (ak 4)) (tC (.int 1000003)))) (aO 6))
   (aN (dY (bT (bC (Cd) (aQ a [] E0 (aj (ak 6) (aj (tC (.int 1020379)) (aj (tC (.int 3)) aF)))) (tC (.int 0)))) (bF (bC (wG) (ak 2) (bC (Zcz) (gJ (aj (tC .non) aF)) (bC (pL λi j=>.int (i+j)) (tC (.int 1)) (aQ a [] E0 (aj (ak 6) (aj (tC (.int 1159523)) (aj (tC (.int 6)) aF))))))) (aO 2)) (bF (bC (wG) (ak 2) (aQ b [] E0 (aj (ak 6) (aj (ak 1) (aj (ak 3) aF))))) (aO 2)))
   (Zvi 4 (tC (.int 1)) (ipI λi j=>i+j)))))
   (bG (bC (wG) (ak 2) (bC (Zcz) (gJ (aj (tC .non) aF)) (bC (pL λi j=>.int (i+j)) (tC (.int 12)) (aQ a [] E0 (aj (ak 3) (aj (tC (.int 1020379)) (aj (tC (.int 12)) aF)))))))))))
def Ah(K:aB)(a d b c:Sp):TS:=
 (aN (bF (gJ aF) (aO 2))
   (aN (dY (bT (bC (pL λi j=>.bl (decide (j<i))) (aQ b [] E0 (aj (aQ a [] E0 (aj (ak 0) (aj (tC (.int 0)) aF))) (aj (tC (.int 611953)) (aj (tC (.int 4)) aF)))) (tC (.int 0)))) (bF (aQ c [] E0 (aj (ak 1) (aj (aQ a [] E0 (aj (ak 0) (aj (tC (.int 0)) aF))) (aj (aQ a [] E0 (aj (ak 0) (aj (tC (.int 2)) aF))) aF)))) (aO 2)) cu)
   (qK K a d b)))
def vH:TS:=
 (bG ((Zjn (xK (G.NP) (aj (ak 0) (aj (tC (.ty "int")) aF))) (Zjm (xK (G.NP) (aj (ak 0) (aj (tC (.ty "bool")) aF)))))))
def yl(K:aB)(a:Sp):TS:=
 (aN (dY ((UT (zL (tB (xK (G.NP) (aj (ak 0) (aj (tC (.ty "tuple")) aF))))) (UT (bT (bC (rNe) (xK (G.mq K) (aj (ak 0) aF)) (tC (.int 3)))) (zL (tB (xK (G.NP) (aj (bC (eF K) (ak 0) (tC (.int 0))) (aj (tC (.ty "str")) aF)))))))) (bG (tC (.bl false))) cu)
   (aN (dY ((UT (zL (tB (aQ a [] E0 (aj (bC (eF K) (ak 0) (tC (.int 1))) aF)))) (zL (tB (xK (G.NP) (aj (bC (eF K) (ak 0) (tC (.int 2))) (aj (tC (.ty "list")) aF))))))) (bG (tC (.bl false))) cu)
   (aN (yW (pG K (bC (eF K) (ak 0) (tC (.int 2)))) (aO 2)
   (dY (zL (tB (aQ a [] E0 (aj (ak 2) aF)))) (bG (tC (.bl false))) cu))
   (bG (bC (G.Zl3 K false) (ak 0) (ak 1))))))
def Ao(c e d f:Addr)(b:Sp):TS:=
 (aN (bF (tC .non) (aO 2))
   (aN (G.Zvg (λa=>a=Value.ref c\/a=Value.ref d\/a=Value.ref e\/a=Value.ref f) (λEx=>(bF (G.Zfz b [] Ex (aj (ak 0) (aj (ak 1) aF))) (aO 2))) (bF (tC .non) (aO 2)))
   (bG (ak 2))))
def Af(K:aB):TS:=
 (aN (bF (Rh) (aO 3))
   (aN (yW (pG K (ak 0)) (aO 4)
   (Oo (ak 3) (bC (eF K) (ak 4) (tC (.int 1))) (bC (eF K) (ak 4) (tC (.int 5)))))
   (aN (yW (pG K (ak 1)) (aO 5)
   (Oo (ak 3) (ak 5) (ak 2)))
   (bG (ak 3)))))
def vI(K:aB):TS:=
 (aN (dY ((UT (zL (tB (xK (G.NP) (aj (ak 0) (aj (tC (.ty "list")) aF))))) (bT (bC (rNe) (xK (G.mq K) (aj (ak 0) aF)) (xK (G.mq K) (aj (ak 1) aF)))))) (bG (tC (.bl false))) cu)
   (aN (yW (J9 (aj (xK (G.mq K) (aj (ak 1) aF)) aF)) (aO 3)
   (aN (dY ((UT (zL (tB (xK (G.NP) (aj (bC (mz K) (ak 0) (ak 3)) (aj (tC (.ty "tuple")) aF))))) (bT (bC (rNe) (xK (G.mq K) (aj (bC (mz K) (ak 0) (ak 3)) aF)) (tC (.int 6)))))) (bG (tC (.bl false))) cu)
   (dY ((UT (bT (bC (G.Zl3 K true) (tSl (Zvw K) (bC (mz K) (ak 0) (ak 3)) Iw (Rg (tC (.int 5)))) (tSl (Zvw K) (bC (mz K) (ak 1) (ak 3)) Iw (Rg (tC (.int 5)))))) (bT (bC (rNe) (bC (eF K) (bC (mz K) (ak 0) (ak 3)) (tC (.int 5))) (Ri (ak 2) (bC (eF K) (bC (mz K) (ak 1) (ak 3)) (tC (.int 1)))))))) (bG (tC (.bl false))) cu)))
   (bG (tC (.bl true)))))
def vG(K:aB):TS:=
 (aN (bF (Rh) (aO 2))
   (aN (yW (pG K (ak 0)) (aO 3)
   (Oo (ak 2) (bC (eF K) (ak 3) (tC (.int 1))) (bC (eF K) (ak 3) (tC (.int 0)))))
   (bG (G.tLC (pG K (ak 1)) [2] G.wI (Ri (ak 1) (ak 0))))))
def yg(K:aB)(a:Sp):TS:=
 (aN (bF (gJ (aj (bz K (ak 0) "sense") (aj (bz K (ak 0) "turn") (aj (bz K (ak 0) "looked") aF)))) (aO 1))
   (aN (bF (bC (wG) (ak 1) (gJ (aj (bz K (ak 0) "walks") (aj (bz K (ak 0) "looks") (aj (bz K (ak 0) "passes") aF))))) (aO 1))
   (aN (yW (pG K (bC (wG) (ak 1) (bz K (ak 0) "grey"))) (aO 2)
   (dY (zL (tB (aQ a [] E0 (aj (ak 2) aF)))) (bG (gJ aF)) cu))
   (bG (ak 1)))))
def Aj(K:aB):TS:=
 (aN (bF (gJ aF) (aO 2))
   (aN (yW (pG K (ak 0)) (aO 3)
   (dY (bT (bC (Cd) (bC (eF K) (ak 3) (tC (.int 5))) (tC (.str "pale")))) (vg (tBM K "list" wM (ak 2) (aj (bC (eF K) (ak 3) (tC (.int 1))) aF))) cu))
   (aN (bF (gJ aF) (aO 4))
   (aN (yW (pG K (ak 1)) (aO 5)
   (dY ((Zg0 (bT (bC (rIn K false) (ak 5) (ak 2))) (bT (bC (rIn K true) (ak 5) (ak 4))))) (vg (tBM K "list" wM (ak 4) (aj (ak 5) aF))) cu))
   (bG (ak 4))))))
def pZ(K:aB)(d e f a b c:Sp):TS:=
 (aN (bF (aQ a [] E0 (aj (ak 3) (aj (ak 8) (aj (tC (.str "grey")) aF)))) (aO 9))
   (aN (Oo (ak 9) (bC (eF K) (bC (mz K) (ak 7) (tC (.int 0))) (tC (.int 1))) (tC (.str "dark")))
   (aN (dY ((UT (zL (tB (aQ d [] E0 (aj (aQ c [] E0 (aj (ak 0) aF)) (aj (ak 3) (aj (ak 9) aF)))))) (bT (bC (G.Zl3 K true) (aQ b [] E0 (aj (ak 0) aF)) (ak 4))))) (bG (tC (.bl false))) cu)
   (aN (dY ((UT (bT (bC (rNe) (bz K (ak 2) "phase") (tC (.str "walk")))) (bT (bC (G.ZC K true) (aQ f [] E0 (aj (ak 2) aF)) (ak 6))))) (bG (tC (.bl false))) cu)
   (bG (bC (G.ZC K false) (bz K (ak 2) "grey") (bC (wG) (tSl (Zvx K) (ak 5) (Rg (tC (.int 1))) Iw) (aQ e [] E0 (aj (ak 3) (aj (ak 8) aF))))))))))
def p6(K:aB)(d f a h i b c g e:Sp):TS:=
 (aN (bF (aQ a [] E0 (aj (ak 3) (aj (bC (eF K) (bC (mz K) (ak 7) (tC (.int 0))) (tC (.int 4))) aF))) (aO 8))
   (aN (dY (zL (tB (aQ d [] E0 (aj (aQ g [] E0 (aj (ak 0) aF)) (aj (gf (aj (tC (.str "walk")) (aj (bC (eF K) (bC (mz K) (ak 7) (tC (.int 0))) (tC (.int 1))) (aj (xK (G.Ie K) (aj (ak 8) aF)) aF)))) aF))))) (bG (tC (.bl false))) cu)
   (pZ K f h i b c e)))
def qJ(K:aB)(h f b k a c d g e:Sp):TS:=
 (aN (bF (aQ a [] E0 (aj (ak 2) aF)) (aO 6))
   (aN (dY (bT (bC (G.ZC K false) (ak 6) (gJ aF))) (bG (tC (.bl false))) cu)
   (aN (Zne ((ak 6)) ((tC (.int 3))) ((tC (.int 1))) (G.Znv K) (ipI λi j=>i+j) BV)
   (aN (bF (G.tLC (pG K (ak 3)) [5] (bT (bC (Cd) (bC (eF K) (ak 0) (tC (.int 0))) (bC (mz K) (ak 1) (tC (.int 0))))) (ak 0)) (aO 7))
   (aN (dY ((UT (bT (bC (rNe) (xK (G.mq K) (aj (ak 7) aF)) (tC (.int 1)))) (bT (bC (rNe) (bC (eF K) (bC (mz K) (ak 7) (tC (.int 0))) (tC (.int 5))) (tC (.str "grey")))))) (bG (tC (.bl false))) cu)
   (p6 K h f b k a c d g e))))))
def Ag(K:aB)(f g d h i e a c b:Sp):TS:=
 (aN (bF (bz K (ak 0) "sweeper") (aO 2))
   (aN (dY ((UT (bT (bC (rNe) (bz K (ak 2) "phase") (tC (.str "walk")))) (bT (bC (G.ZC K false) (bz K (ak 2) "grey") (gJ aF))))) (aN (vg (aQ c [] E0 (aj (ak 0) aF)))
   (bG (tC (.bl true)))) cu)
   (aN (bF (aQ b [] E0 (aj (ak 0) aF)) (aO 3))
   (aN (bF (aQ a [] E0 (aj (ak 0) aF)) (aO 4))
   (aN (bF (xK (G.Ie K) (aj (bz K (ak 2) "grey") aF)) (aO 5))
   (qJ K f g d h i e a c b))))))
def Zgy(K:aB)(e:Addr)(f h g b k c d a:Sp):TS:=
 (aN (bF (bC (rI (λ_ j=>0<j) λi j=>.int (i % j)) (aQ h [] E0 (aj (ak 0) (aj (tC (.int 0)) aF))) (tC (.int 12))) (aO 1))
   (aN (bF (aQ b [] E0 (aj (ak 0) aF)) (aO 2))
   (aN (bF (BR e f [] E0 (aj (aQ c [] E0 (aj (ak 0) aF)) (aj (aQ k [] E0 (aj (ak 1) aF)) (aj (xK (G.Ie K) (aj (ak 2) aF)) aF)))) (aO 3))
   (aN (yW (pG K (aQ d [] E0 (aj (ak 0) (aj (ak 2) aF)))) (aO 4)
   (aN (dY (bT (bC (Cd) (bz K (bz K (ak 3) "sweeper") "phase") (tC (.str "lost")))) (bG (tC (.bl true))) cu)
   (dY (bT (bC (G.Gv) (ak 4) (tC .non))) (vg (aQ g [] E0 (aj (ak 3) (aj (ak 4) aF)))) (dY (zL (tB (aQ a [] E0 (aj (ak 3) (aj (bC (rI (λ_ j=>0<j) λi j=>.int (i % j)) (ak 1) (tC (.int 3))) aF))))) (bG (tC (.bl false))) cu))))
   (bG (tC (.bl true)))))))
structure TxC(K:aB)(bA aZ:Addr):Prop where
 di:Hg K bA
 dX:bM K bA "birth"
 mO:bM K bA "bulk"
 mL:bM K bA "tone"
 jK:bM K bA "load"
 eX:bM K bA "fields"
 cM:Hg K aZ
 oG:bM K aZ "room"
 bN:bM K aZ "cells"
 jm:bM K aZ "used"
 mK:bM K aZ "born"
 QM:EqD K bA
structure zJ(CC:Addr)(H:Hp)(p fa:Addr)(birth bulk tone load:Int)(fl:List V):Prop where
 o:∃dx,H p=some (.ins CC dx (nY birth bulk tone load fa))
 f:H fa=some (.lst fl)
def zJ.same{a:Addr}{H H':Hp}{p fa:Addr}{birth bulk tone load:Int}{fl:List V}(h:zJ a H p fa birth bulk tone load fl)(s:aV H H'):zJ a H' p fa birth bulk tone load fl:=by
 obtain⟨⟨dx,h1⟩,h2⟩:=h;exact⟨⟨dx,s _ _ h1⟩,s _ _ h2⟩
structure HpO(CH:Addr)(H:Hp)(hp ca:Addr)(room used born:Int)(cs:List V):Prop where
 o:∃dx,H hp=some (.ins CH dx (lH room ca used born))
 c:H ca=some (.lst cs)
def Ul{a b c d e f g:Int}{x y:Addr}:nY a b c d x≠lH e y f g:=λz=>by
 have:=congrArg List.length z;cases this
def xJ(a:Addr):Sp:=λvs H Q E=>∃p birth many bulk tone,vs=[.ref p,.int birth,.int many,.int bulk,.int tone]/\∃dx,H p=some (.ins a dx [])/\0<=many/\many<=1000/\
 ∀fa H',H fa=none->H' p=some (.ins a dx (nY birth bulk tone 0 fa))->H' fa=some (.lst (List.replicate many.toNat V.non))->(∀b o,H b=some o->b≠p->H' b=some o)->Q .non H'
def m7(a:Addr):Sp:=λvs H Q E=>∃p,vs=[.ref p]/\∃fa birth bulk tone load fl,zJ a H p fa birth bulk tone load fl/\Q (.int (1+fl.length+bulk)) H
def xF(a:Addr):Sp:=λvs H Q E=>∃p room,vs=[.ref p,.int room]/\∃dx,H p=some (.ins a dx [])/\
 ∀ca H',H ca=none->H' p=some (.ins a dx (lH room ca 0 0))->H' ca=some (.lst [])->(∀b o,H b=some o->b≠p->H' b=some o)->Q .non H'
def xG(a:Addr):Sp:=λvs H Q E=>∃hp,vs=[.ref hp]/\∃ca room used born cs,HpO a H hp ca room used born cs/\Q (.int (room - used)) H
def plc(cs:List V):List Int:=((List.range cs.length).filter λi=>!decide (cs[i]? =some V.non)).map λ(i:Nat)=>(i:Int)
def m6(a:Addr):Sp:=λvs H Q E=>∃hp,vs=[.ref hp]/\∃ca room used born cs,HpO a H hp ca room used born cs/\cs.length<=1000/\∀l,H l=none->Q (.ref l) (upd H l (.lst ((plc cs).map V.int)))
def putN(cs:List V)(v:V):List V:=if V.non∈cs then cs.set (cs.idxOf V.non) v else cs++[v]
def BK(K:aB)(a:Addr):Sp:=λvs H Q E=>∃hp v,vs=[.ref hp,v]/\∃ca room used born cs,HpO a H hp ca room used born cs/\OkN K H cs/\cs.length<=1000/\Q (.int (cs.idxOf V.non)) (upd H ca (.lst (putN cs v)))
def uv(b a:Addr):Sp:=λvs H Q E=>∃hp i,vs=[.ref hp,.int i]/\∃ca dx room used born cs p fa birth bulk tone load fl,0<=i/\H hp=some (.ins a dx (lH room ca used born))/\H ca=some (.lst cs)/\cs[i.toNat]? =some (.ref p)/\zJ b H p fa birth bulk tone load fl/\
 Q (.int birth) (upd (upd H hp (.ins a dx (lH room ca (used - (1+fl.length+bulk)) born))) ca (.lst (cs.set i.toNat V.non)))
def xx(K:aB)(c a b:Addr):Sp:=λvs H Q E=>∃hp many bulk tone,vs=[.ref hp,.int many,.int bulk,.int tone]/\∃ca dx room used born cs,H hp=some (.ins a dx (lH room ca used born))/\H ca=some (.lst cs)/\OkN K H cs/\cs.length<=1000/\0<=many/\many<=1000/\
 (room - used<1+many+bulk->∀H',aV H H'->E (.ref b) none H')/\
 (1+many+bulk<=room - used->∀p fa H',H p=none->H fa=none->Fm [hp,ca] H H'->H' hp=some (.ins a dx (lH room ca (used+(1+many+bulk)) (born+1)))->H' ca=some (.lst (putN cs (.ref p)))->
  zJ c H' p fa (born+1) bulk tone 0 (List.replicate many.toNat V.non)->Q (.int (cs.idxOf V.non)) H')
section
variable {K:aB}{bA aZ bR:Addr}{H:Hp}{Q:VK}{E:XK}{n:St->Hp->Prop}{bk ct:St->Hp->Prop}
def W6{p:Addr}(T:TxC K bA aZ)(q:∃fa birth bulk tone load fl,zJ bA H p fa birth bulk tone load fl/\Q (.int (1+fl.length+bulk)) H):yq K ⟨n,Q,bk,ct⟩ [some (.ref p)] H:=by
 obtain⟨fa,birth,bulk,tone,load,fl,⟨⟨dx,h1⟩,h2⟩,h⟩:=q;unfold yq;walk_at"e";refine aH h1 T.di T.eX lJ ?_;walk_at"e";refine jG (cj.of h2) ?_;walk_at"e";refine aH h1 T.di T.mO GR ?_;walk_at"e";exact h
def Oh{p:Addr}{birth many bulk tone:Int}(T:TxC K bA aZ)(q:∃dx,H p=some (.ins bA dx [])/\0<=many/\many<=1000/\
 ∀fa H',H fa=none->H' p=some (.ins bA dx (nY birth bulk tone 0 fa))->H' fa=some (.lst (List.replicate many.toNat V.non))->(∀b o,H b=some o->b≠p->H' b=some o)->Q .non H'):
  sE K ⟨λ_ H'=>Q .non H',Q,bk,ct⟩ [some (.ref p),some (.int birth),some (.int many),some (.int bulk),some (.int tone)] H:=by
 obtain⟨dx,hp,r,h1,h⟩:=q;unfold sE;walk_at"e";refine⟨p,bA,dx,[],rfl,hp,T.di,T.dX,by decide,?_⟩;walk_at"e";refine⟨p,bA,dx,_,rfl,aq,T.di,T.mO,by show 1<1000;decide,?_⟩;rw[eG];walk_at"e";refine⟨p,bA,dx,_,rfl,aq,T.di,T.mL,by show 2<1000;decide,?_⟩;rw[eG];walk_at"e";refine⟨p,bA,dx,_,rfl,aq,T.di,T.jK,by show 3<1000;decide,?_⟩;rw[eG];walk_at"e";refine⟨by decide,λi g=>?_⟩;walk_at"e";refine⟨i,many,_,rfl,rfl,aq,by omega,by omega,?_,λfa a=>?_⟩
 ·show 1 * many.toNat<=sizeLine;exact aU (by omega)
 have f:p≠i:=aD aq g;have c:p≠fa:=aD ((aC f).trans aq) a;walk_at"e";refine⟨p,bA,dx,_,rfl,(aC c).trans ((aC f).trans aq),T.di,T.eX,by show 4<1000;decide,?_⟩;have j:H fa=none:=by
  have e:=a;have n1:fa≠i:=λz=>by rw[z,aq]at e;cases e
  rw[aC n1,aC c.symm]at e;exact e
 refine h fa _ j (aq.trans (congrArg (λl=>some (HO.ins bA dx l)) Zr1)) ?_ λb o hb d=>?_
 ·rw[aC c.symm,aq];have e:(List.replicate many.toNat [V.non]).flatten=List.replicate many.toNat V.non:=by
   generalize many.toNat=k
   induction k with
   | zero=>rfl
   | succ k n=>rw[List.replicate_succ,List.replicate_succ,List.flatten_cons,n];rfl
  rw[e]
 ·have m:upd H p (HO.ins bA dx (cC "load" (V.int 0) (cC "tone" (V.int tone) (cC "bulk" (V.int bulk) (cC "birth" (V.int birth) []))))) b=some o:=(aC d).trans hb;have n1:b≠i:=aD m g;have n2:b≠fa:=aD ((aC n1).trans m) a;rw[aC d,aC n2,aC n1];exact m
def N5{p:Addr}{room:Int}(T:TxC K bA aZ)(q:∃dx,H p=some (.ins aZ dx [])/\
 ∀ca H',H ca=none->H' p=some (.ins aZ dx (lH room ca 0 0))->H' ca=some (.lst [])->(∀b o,H b=some o->b≠p->H' b=some o)->Q .non H'):
  sr K ⟨λ_ H'=>Q .non H',Q,bk,ct⟩ [some (.ref p),some (.int room)] H:=by
 obtain⟨dx,hp,h⟩:=q;unfold sr;walk_at"e";refine⟨p,aZ,dx,[],rfl,hp,T.cM,T.oG,by decide,?_⟩;walk_at"e";refine⟨by decide,λca d=>?_⟩;walk_at"e";have c:p≠ca:=aD aq d;refine⟨p,aZ,dx,_,rfl,(aC c).trans aq,T.cM,T.bN,by show 1<1000;decide,?_⟩;walk_at"e";refine⟨p,aZ,dx,_,rfl,aq,T.cM,T.jm,by show 2<1000;decide,?_⟩;rw[eG];walk_at"e";refine⟨p,aZ,dx,_,rfl,aq,T.cM,T.mK,by show 3<1000;decide,?_⟩;rw[eG];have f:H ca=none:=by
  have e:=d;rw[aC c.symm]at e;exact e
 refine h ca _ f (aq.trans (congrArg (λl=>some (HO.ins aZ dx l)) Zq7)) ?_ λb o hb a=>?_
 ·rw[aC c.symm,aq]
 ·rw[aC a,aC (aD ((aC a).trans hb) d),aC a];exact hb
def Zca{hp:Addr}(T:TxC K bA aZ)(q:∃ca room used born cs,HpO aZ H hp ca room used born cs/\Q (.int (room - used)) H):Ay K ⟨n,Q,bk,ct⟩ [some (.ref hp)] H:=by
 obtain⟨ca,room,used,born,cs,⟨⟨dx,h1⟩,h2⟩,h⟩:=q;unfold Ay;walk_at"e";refine aH h1 T.cM T.oG Wk ?_;walk_at"e";refine aH h1 T.cM T.jm yG ?_;walk_at"e";exact h
def WY{hp:Addr}(T:TxC K bA aZ)(q:∃ca room used born cs,HpO aZ H hp ca room used born cs/\cs.length<=1000/\∀l,H l=none->Q (.ref l) (upd H l (.lst ((plc cs).map V.int)))):yp K ⟨n,Q,bk,ct⟩ [some (.ref hp)] H:=by
 obtain⟨ca,room,used,born,cs,⟨⟨dx,h1⟩,h2⟩,hl,h⟩:=q;unfold yp;walk_at"e";refine J7 ?_;walk_at"e";refine aH h1 T.cM T.bN bU ?_;walk_at"e";refine jG (cj.of h2) ?_;walk_at"e";refine⟨_,rfl,by omega,by omega,?_⟩;refine Zpk (n:=cs.length) (by omega) (p:=λi=>!decide (cs[i]? =some V.non)) (f:=λi=>.int i) (by omega) ?_ ?_ ?_
 ·intro i a k hk;walk_at"c";walk_at"e";refine aH h1 T.cM T.bN bU ?_;walk_at"e";refine iw (cj.of h2) (iI (bK a)) ?_;walk_at"e";refine Zic ?_;rw[bK a]at hk;walk_at"e";simpa using hk
 ·intro i a _ k hk;walk_at"c";walk_at"e";exact hk
 ·have e:((plc cs).map V.int)=((List.range cs.length).filter λi=>!decide (cs[i]? =some V.non)).map λ(i:Nat)=>V.int i:=by
   unfold plc;rw[List.map_map];rfl
  rw[<- e];exact h
def Zf8{hp:Addr}{v:V}(T:TxC K bA aZ)(q:∃ca room used born cs,HpO aZ H hp ca room used born cs/\OkN K H cs/\cs.length<=1000/\Q (.int (cs.idxOf V.non)) (upd H ca (.lst (putN cs v)))):Dv K ⟨n,Q,bk,ct⟩ [some (.ref hp),some v,none] H:=by
 obtain⟨ca,room,used,born,cs,⟨⟨dx,h1⟩,h2⟩,c,hl,h⟩:=q;unfold Dv;walk_at"e";refine aH h1 T.cM T.bN bU ?_;walk_at"e";refine Zpv (cj.of h2) c ?_;walk_at"e";refine HY (λhn=>?_) (λhn=>?_)
 ·walk_at"e";refine aH h1 T.cM T.bN bU ?_;refine⟨.inl ⟨rfl,_,cj.of h2⟩,?_⟩;walk_at"e";refine⟨ca,cs,v,rfl,rfl,h2,Nat.lt_of_le_of_lt hl (by decide),?_⟩;walk_at"e";have a:hp≠ca:=qU h1 h2 (λz=>by cases z);refine aH ((aC a).trans h1) T.cM T.bN bU ?_;walk_at"e";refine jG (cj.of aq) ?_;walk_at"e";have e:(((cs++[v]).length:Int) - 1)=(cs.idxOf V.non:Nat):=by
   rw[List.length_append,List.idxOf_eq_length hn];simp
  have b:putN cs v=cs++[v]:=by unfold putN;rw[if_neg hn]
  rw[e,<- b];exact h
 ·walk_at"e";refine aH h1 T.cM T.bN bU ?_;refine⟨.inl ⟨rfl,_,cj.of h2⟩,?_⟩;walk_at"e";refine⟨ca,cs,rfl,rfl,cj.of h2,c,hn,?_⟩;walk_at"e";refine aH h1 T.cM T.bN bU ?_;walk_at"e";have d:cs.idxOf V.non<cs.length:=List.idxOf_lt_length_iff.mpr hn;refine⟨ca,cs,_,_,rfl,rfl,h2,tY d,?_⟩;have b:putN cs v=cs.set (cs.idxOf V.non) v:=by unfold putN;rw[if_pos hn]
  rw[<- b];walk_at"e";exact h
def Zcb{hp:Addr}{i:Int}(T:TxC K bA aZ)(q:∃ca dx room used born cs p fa birth bulk tone load fl,0<=i/\H hp=some (.ins aZ dx (lH room ca used born))/\H ca=some (.lst cs)/\cs[i.toNat]? =some (.ref p)/\zJ bA H p fa birth bulk tone load fl/\
 Q (.int birth) (upd (upd H hp (.ins aZ dx (lH room ca (used - (1+fl.length+bulk)) born))) ca (.lst (cs.set i.toNat V.non)))):Az K bA (m7 bA) ⟨n,Q,bk,ct⟩ [some (.ref hp),some (.int i),none] H:=by
 obtain⟨ca,dx,room,used,born,cs,p,fa,birth,bulk,tone,load,fl,f,h1,h2,e,co,h⟩:=q;obtain⟨⟨dp,b⟩,g⟩:=id co;unfold Az;walk_at"e";refine aH h1 T.cM T.bN bU ?_;walk_at"e";refine iw (cj.of h2) (rC f e) ?_;walk_at"e";refine aH h1 T.cM T.jm yG ?_;walk_at"e";refine⟨p,dp,_,rfl,b,vQ,?_⟩;walk_at"e";refine⟨p,rfl,fa,birth,bulk,tone,load,fl,co,?_⟩;walk_at"e";refine⟨hp,aZ,dx,_,rfl,h1,T.cM,T.jm,by show 4<1000;decide,?_⟩;rw[Eu];have c:hp≠ca:=qU h1 h2 (λz=>by cases z);walk_at"e";refine aH aq T.cM T.bN bU ?_;walk_at"e";have d:i.toNat<cs.length:=(dH e).1;refine⟨ca,cs,_,_,rfl,rfl,(aC c.symm).trans h2,Ztg f d,?_⟩;walk_at"e";refine aH (C:=bA) (a:=p) (dx:=dp) (fs:=nY birth bulk tone load fa) ?_ T.di T.dX gR ?_
 ·have n1:p≠ca:=qU b h2 (λz=>by cases z);have n2:p≠hp:=qU b h1 (λz=>by injection z with _ _ z;exact Ul z);rw[aC n1,aC n2];exact b
 exact h
def Zc9{hp:Addr}{many bulk tone:Int}(T:TxC K bA aZ)(q:∃ca dx room used born cs,H hp=some (.ins aZ dx (lH room ca used born))/\H ca=some (.lst cs)/\OkN K H cs/\cs.length<=1000/\0<=many/\many<=1000/\
 (room - used<1+many+bulk->∀H',aV H H'->E (.ref bR) none H')/\
 (1+many+bulk<=room - used->∀p fa H',H p=none->H fa=none->Fm [hp,ca] H H'->H' hp=some (.ins aZ dx (lH room ca (used+(1+many+bulk)) (born+1)))->H' ca=some (.lst (putN cs (.ref p)))->
  zJ bA H' p fa (born+1) bulk tone 0 (List.replicate many.toNat V.non)->Q (.int (cs.idxOf V.non)) H')):
  Aw K bA bR aZ (xJ bA) (m7 bA) (xG aZ) (BK K aZ) E ⟨n,Q,bk,ct⟩ [some (.ref hp),some (.int many),some (.int bulk),some (.int tone),none] H:=by
 obtain⟨ca,dx,room,used,born,cs,h1,h2,w,hl,v,J,D,I⟩:=q;have h:hp≠ca:=qU h1 h2 (λz=>by cases z);unfold Aw;walk_at"e";refine aH h1 T.cM T.mK Wl ?_;walk_at"e";intro p dp g m A;refine⟨p,_,many,_,_,rfl,dp,aq,v,J,λfa k j f l F=>⟨rfl,?_⟩⟩;have c:H fa=none:=by
  have e:=j
  by_cases z1:fa=p
  ·rw[z1,aq]at e;cases e
  ·rw[aC z1]at e
   by_cases r:fa=dp
   ·rw[r,aq]at e;cases e
   ·rw[aC r]at e;exact e
 have sm:aV H k:=λb o hb=>by
  refine F b o ?_ (aD hb g);rw[aC (aD hb g),aC (aD hb m)];exact hb
 have co:zJ bA k p fa (born+1) bulk tone 0 (List.replicate many.toNat V.non):=⟨⟨dp,f⟩,l⟩;have u:((List.replicate many.toNat V.non).length:Int)=many:=by rw[List.length_replicate];omega
 walk_at"e";refine⟨p,dp,_,rfl,f,vQ,?_⟩;walk_at"e";refine⟨p,rfl,fa,_,_,_,_,_,co,?_⟩;walk_at"e";refine⟨hp,dx,_,rfl,sm _ _ h1,Wi,?_⟩;walk_at"e";refine⟨hp,rfl,ca,room,used,born,cs,⟨⟨dx,sm _ _ h1⟩,sm _ _ h2⟩,?_⟩;walk_at"e";rw[u];refine wD (λt=>?_) (λt=>?_)
 ·walk_at"e";exact⟨by decide,D t k sm⟩
 ·walk_at"e";refine aH f T.di T.dX gR ?_;walk_at"e";refine⟨hp,aZ,dx,_,rfl,sm _ _ h1,T.cM,T.mK,by show 4<1000;decide,?_⟩;rw[TV];walk_at"e";refine aH aq T.cM T.jm yG ?_;walk_at"e";have n1:p≠hp:=(aD h1 g).symm;have n2:fa≠hp:=(aD h1 c).symm;have n3:p≠ca:=(aD h2 g).symm;have n4:fa≠ca:=(aD h2 c).symm;refine⟨p,dp,_,rfl,(aC n1).trans f,vQ,?_⟩;walk_at"e";refine⟨p,rfl,fa,_,_,_,_,_,⟨⟨dp,(aC n1).trans f⟩,(aC n2).trans l⟩,?_⟩;walk_at"e";rw[u];refine⟨hp,aZ,dx,_,rfl,aq,T.cM,T.jm,by show 4<1000;decide,?_⟩;rw[Eu,eG];walk_at"e";refine⟨hp,dx,_,rfl,aq,Zb3,?_⟩;walk_at"e";refine⟨hp,.ref p,rfl,ca,room,_,_,cs,⟨⟨dx,aq⟩,(aC h.symm).trans (sm _ _ h2)⟩,?_,hl,?_⟩
  ·intro y hy;rcases w y hy with e | ⟨a,C,d,fs,e,i,hc,s⟩
   ·exact .inl e
   ·refine .inr ?_
    by_cases z:a=hp
    ·rw[z]at i e;rw[h1]at i;cases i;exact⟨hp,_,_,_,e,aq,hc,s⟩
    ·exact⟨a,C,d,fs,e,(aC z).trans (sm _ _ i),hc,s⟩
  ·refine I (by omega) p fa _ g c ?_ ((aC h).trans aq) aq ⟨⟨dp,?_⟩,?_⟩
   ·intro b o hb hn;have B:b≠hp:=λz=>hn (by rw[z];exact List.mem_cons_self);have x:b≠ca:=λz=>hn (by rw[z];exact List.mem_cons_of_mem _ List.mem_cons_self);rw[aC x,aC B];exact sm _ _ hb
   ·rw[aC n3,aC n1];exact f
   ·rw[aC n4,aC n2];exact l
end
structure Ce where
 birth:Int
 bulk:Int
 tone:Int
 load:Int
 fl:List (Option Int)
 deriving DecidableEq
structure Sw where
 sense:Int
 phase:Str
 grey:List Int
 looked:Int
 turn:Int
 at':Int
 stop:Int
 walks:Int
 looks:Int
 passes:Int
 loss:V
structure Wm where
 room:Int
 used:Int
 born:Int
 cells:List (Option Ce)
 hands:List (Str×List (Option Int))
 names:List (Str×(Int×Int))
 w:Int
 tells:Int
 sw:Sw
structure Wa where
 wo:Addr
 hp:Addr
 ca:Addr
 ki:Addr
 lk:Addr
 hl:Addr
 nm:Addr
 sw:Addr
 gr:Addr
 hs:List (Addr×Addr)
 cs:List (Option (Addr×Addr))
 ns:List Addr
def oV:Option Int->V
 | none=>.non
 | some i=>.int i
def pV:Option (Addr×Addr)->V
 | none=>.non
 | some p=>.ref p.1
structure yU(s:Nat)(t0:Nat->Prop)(H H':Hp)(T T':Tg):Prop where
 kp:∀b o,H b=some o->(T b).1=s->¬ t0 (T b).2->H' b=some o
 tg:∀b o,H b=some o->T' b=T b
section
variable {CHd CC:Addr}{H H':Hp}{T T':Tg}{s j i:Nat}{t0:Nat->Prop}
def yU.at{a:Addr}{o:HO}{m:Nat}(f:yU s t0 H H' T T')(b:T a=(s,m))(n:¬ t0 m)(h:H a=some o):H' a=some o:=f.kp a o h (by rw[b]) (by rw[b];exact n)
def yU.tag{a:Addr}{o:HO}{x:Nat×Nat}(f:yU s t0 H H' T T')(h:H a=some o)(b:T a=x):T' a=x:=(f.tg a o h).trans b
def yU.Ej{a:Addr}{o:HO}{m:Nat}(c:T a=(s,m)):yU s (·=m) H (upd H a o) T T:=⟨λb u h e n=>by
  have:b≠a:=λz=>n (by rw[z,c]);rw[aC this];exact h,λ_ _ _=>rfl⟩
def yU.of_same(e:aV H H'):yU s (λ_=>False) H H' T T:=⟨λb o h _ _=>e b o h,λ_ _ _=>rfl⟩
def yU.Zoq{s':Nat}(e:jw s' H H' T T')(n:s≠s'):yU s (λ_=>False) H H' T T':=⟨λb o h z _=>e.kp b o h (by rw[z];exact n),e.tg⟩
structure HdO(CHd:Addr)(H:Hp)(T:Tg)(s j:Nat)(p:Addr×Addr)(m:Str×List (Option Int)):Prop where
 t1:T p.1=(s,20+2 * j)
 t2:T p.2=(s,21+2 * j)
 o1:∃dx,H p.1=some (.ins CHd dx (Zeh m.1 p.2))
 o2:H p.2=some (.lst (m.2.map oV))
def HdO.mv{p:Addr×Addr}{m:Str×List (Option Int)}(h:HdO CHd H T s j p m)(f:yU s t0 H H' T T')(n1:¬ t0 (20+2 * j))(n2:¬ t0 (21+2 * j)):HdO CHd H' T' s j p m:=by
 obtain⟨d,c,⟨dx,a⟩,b⟩:=h;exact⟨f.tag a d,f.tag b c,⟨dx,f.at d n1 a⟩,f.at c n2 b⟩
structure W7(CC:Addr)(H:Hp)(T:Tg)(s i:Nat)(p:Addr×Addr)(c:Ce):Prop where
 t1:T p.1=(s,100+2 * i)
 t2:T p.2=(s,101+2 * i)
 o1:∃dx,H p.1=some (.ins CC dx (nY c.birth c.bulk c.tone c.load p.2))
 o2:H p.2=some (.lst (c.fl.map oV))
def W7.mv{p:Addr×Addr}{c:Ce}(h:W7 CC H T s i p c)(f:yU s t0 H H' T T')(n1:¬ t0 (100+2 * i))(n2:¬ t0 (101+2 * i)):W7 CC H' T' s i p c:=by
 obtain⟨e,d,⟨dx,a⟩,b⟩:=h;exact⟨f.tag a e,f.tag b d,⟨dx,f.at e n1 a⟩,f.at d n2 b⟩
def CeP(CC:Addr)(H:Hp)(T:Tg)(s i:Nat):Option (Addr×Addr)->Option Ce->Prop
 | none,none=>True
 | some p,some c=>W7 CC H T s i p c
 | _,_=>False
def CeP.mv{p:Option (Addr×Addr)}{c:Option Ce}(h:CeP CC H T s i p c)(f:yU s t0 H H' T T')(n1:¬ t0 (100+2 * i))(n2:¬ t0 (101+2 * i)):CeP CC H' T' s i p c:=by
 cases p with
 | none=>cases c with
  | none=>trivial
  | some c=>exact h.elim
 | some p=>cases c with
  | none=>exact h.elim
  | some c=>exact W7.mv h f n1 n2
end
def NmO(H:Hp)(T:Tg)(t:Addr)(m:Str×(Int×Int)):Prop:=T t=(0,0)/\H t=some (.tup [.int m.2.1,.int m.2.2])
structure Cs where
 W:Addr
 H:Addr
 C:Addr
 K:Addr
 D:Addr
 S:Addr
 F:Addr
 E:Addr
 L:Addr
structure WB(X:Cs)(H:Hp)(T:Tg)(s:Nat)(A:Wa)(w tells:Int):Prop where
 tw:T A.wo=(s,0)
 tk:T A.ki=(0,0)
 tl:T A.lk=(0,0)
 tn:T A.hl=(s,5)
 ow:∃dx,H A.wo=some (.ins X.W dx (Cp A.hp A.ki A.hl A.nm A.sw))
 ok:∃dx,H A.ki=some (.ins X.K dx (Tj A.lk tells))
 ol:∃dx,(w=0/\H A.lk=some (.ins X.F dx []))\/(w=1/\H A.lk=some (.ins X.E dx []))\/(w=2/\H A.lk=some (.ins X.L dx []))
 on:H A.hl=some (.lst (A.hs.map λp=>V.ref p.1))
structure WH(X:Cs)(H:Hp)(T:Tg)(s:Nat)(A:Wa)(room used born:Int):Prop where
 th:T A.hp=(s,1)
 tc:T A.ca=(s,2)
 oh:∃dx,H A.hp=some (.ins X.H dx (lH room A.ca used born))
 oc:H A.ca=some (.lst (A.cs.map pV))
def Cg(M:List (Str×(Int×Int)))(ns:List Addr):List ((Int ⊕ Str)×V):=List.zipWith (λ(m:Str×(Int×Int)) (t:Addr)=>(Sum.inr m.1,V.ref t)) M ns
structure WN(H:Hp)(T:Tg)(s:Nat)(A:Wa)(names:List (Str×(Int×Int))):Prop where
 tm:T A.nm=(s,6)
 om:H A.nm=some (.dK (Cg names A.ns))
 nms:Al (NmO H T) A.ns names
structure WS(X:Cs)(H:Hp)(T:Tg)(s:Nat)(A:Wa)(S:Sw):Prop where
 ts:T A.sw=(s,7)
 tg:T A.gr=(s,8)
 os:∃dx,H A.sw=some (.ins X.S dx (cB S.sense S.phase A.gr S.looked S.turn S.at' S.stop S.walks S.looks S.passes S.loss))
 og:H A.gr=some (.lst (S.grey.map V.int))
structure WD(X:Cs)(H:Hp)(T:Tg)(s:Nat)(hs:List (Addr×Addr))(hands:List (Str×List (Option Int))):Prop where
 lh:hs.length=hands.length
 l5:hs.length<=30
 hd:∀(j:Nat) p m,hs[j]? =some p->hands[j]? =some m->HdO X.D H T s j p m
structure WC(X:Cs)(H:Hp)(T:Tg)(s:Nat)(cs:List (Option (Addr×Addr)))(cells:List (Option Ce)):Prop where
 lc:cs.length=cells.length
 ce:∀(i:Nat) p c,cs[i]? =some p->cells[i]? =some c->CeP X.C H T s i p c
structure WJ(X:Cs)(H:Hp)(T:Tg)(s:Nat)(A:Wa)(M:Wm):Prop where
 jb:WB X H T s A M.w M.tells
 jh:WH X H T s A M.room M.used M.born
 jn:WN H T s A M.names
 js:WS X H T s A M.sw
 jd:WD X H T s A.hs M.hands
 jc:WC X H T s A.cs M.cells
section
variable {X:Cs}{H H':Hp}{T T':Tg}{s:Nat}{t0:Nat->Prop}{A:Wa}{M:Wm}
def WB.mv{w tells:Int}(j:WB X H T s A w tells)(f:yU s t0 H H' T T')(a:∀b o,H b=some o->T b=(0,0)->H' b=some o)(i:¬ t0 0)(n5:¬ t0 5):WB X H' T' s A w tells:=by
 obtain⟨tw,tk,tl,tn,⟨l,ow⟩,⟨h,ok⟩,⟨k,ol⟩,on⟩:=j;have d:∃o,H A.lk=some o:=by
  rcases ol with ⟨_,e⟩ | ⟨_,e⟩ | ⟨_,e⟩
  ·exact⟨_,e⟩
  ·exact⟨_,e⟩
  ·exact⟨_,e⟩
 obtain⟨g,c⟩:=d;refine⟨f.tag ow tw,f.tag ok tk,f.tag c tl,f.tag on tn,⟨l,f.at tw i ow⟩,⟨h,a _ _ ok tk⟩,⟨k,?_⟩,f.at tn n5 on⟩;rcases ol with ⟨z,e⟩ | ⟨z,e⟩ | ⟨z,e⟩
 ·exact .inl ⟨z,a _ _ e tl⟩
 ·exact .inr (.inl ⟨z,a _ _ e tl⟩)
 ·exact .inr (.inr ⟨z,a _ _ e tl⟩)
def WH.mv{room used born:Int}(j:WH X H T s A room used born)(f:yU s t0 H H' T T')(n1:¬ t0 1)(n2:¬ t0 2):WH X H' T' s A room used born:=by
 obtain⟨th,tc,⟨d,oh⟩,oc⟩:=j;exact⟨f.tag oh th,f.tag oc tc,⟨d,f.at th n1 oh⟩,f.at tc n2 oc⟩
def WN.mv{names:List (Str×(Int×Int))}(j:WN H T s A names)(f:yU s t0 H H' T T')(a:∀b o,H b=some o->T b=(0,0)->H' b=some o)(n6:¬ t0 6):WN H' T' s A names:=by
 obtain⟨tm,om,nms⟩:=j;exact⟨f.tag om tm,f.at tm n6 om,nms.mono λt m ⟨z1,z2⟩=>⟨f.tag z2 z1,a _ _ z2 z1⟩⟩
def WS.mv{S:Sw}(j:WS X H T s A S)(f:yU s t0 H H' T T')(n7:¬ t0 7)(n8:¬ t0 8):WS X H' T' s A S:=by
 obtain⟨ts,tg,⟨d,os⟩,og⟩:=j;exact⟨f.tag os ts,f.tag og tg,⟨d,f.at ts n7 os⟩,f.at tg n8 og⟩
def WD.mv{hs:List (Addr×Addr)}{hands:List (Str×List (Option Int))}(j:WD X H T s hs hands)(f:yU s t0 H H' T T')(n:∀k,20<=k->k<100->¬ t0 k):WD X H' T' s hs hands:=by
 obtain⟨lh,l5,hd⟩:=j;refine⟨lh,l5,λj p m a b=>?_⟩;have hl:j<hs.length:=(dH a).1;exact(hd j p m a b).mv f (n _ (by omega) (by omega)) (n _ (by omega) (by omega))
def WC.mv{cs:List (Option (Addr×Addr))}{cells:List (Option Ce)}(j:WC X H T s cs cells)(f:yU s t0 H H' T T')(n:∀k,100<=k->¬ t0 k):WC X H' T' s cs cells:=by
 obtain⟨lc,ce⟩:=j;exact⟨lc,λi p c a b=>(ce i p c a b).mv f (n _ (by omega)) (n _ (by omega))⟩
def WJ.mv(j:WJ X H T s A M)(f:yU s (λ_=>False) H H' T T')(a:∀b o,H b=some o->T b=(0,0)->H' b=some o):WJ X H' T' s A M:=
 ⟨j.jb.mv f a id id,j.jh.mv f id id,j.jn.mv f a id,j.js.mv f id id,j.jd.mv f λ_ _ _=>id,j.jc.mv f λ_ _=>id⟩
def WJ.same(j:WJ X H T s A M)(e:aV H H'):WJ X H' T s A M:=j.mv (yU.of_same e) λb o h _=>e b o h
def WJ.other{s':Nat}(j:WJ X H T s A M)(e:jw s' H H' T T')(n:s≠s')(a:s'≠0):WJ X H' T' s A M:=j.mv (yU.Zoq e n) λb o h t=>e.kp b o h (by rw[t];exact λz=>a z.symm)
def qg{a:Addr}{f:HO}{m:Nat}(c:s≠0)(d:T a=(s,m)):∀b o,H b=some o->T b=(0,0)->upd H a f b=some o:=λb o e t=>by
 rw[aC (SN t d (λz=>c (congrArg Prod.fst z).symm))];exact e
def WJ.slot(j:WJ X H T s A M)(w:WT H T)(g:s≠0){h k:Nat}{p:Addr×Addr}{m:Str×List (Option Int)}{x:Option Int}(hp:A.hs[h]? =some p)(hm:M.hands[h]? =some m):
  jw s H (upd H p.2 (.lst ((m.2.map oV).set k (oV x)))) T T/\WJ X (upd H p.2 (.lst ((m.2.map oV).set k (oV x)))) T s A { M with hands:=M.hands.set h (m.1,m.2.set k x) }:=by
 have hl:=j.jd.l5;have hh:h<A.hs.length:=(dH hp).1;have c:h<M.hands.length:=(dH hm).1;have d:=j.jd.hd h p m hp hm;refine⟨jw.upd w d.o2 (by rw[d.t2]),?_⟩;have f:yU s (·=21+2 * h) H (upd H p.2 (.lst ((m.2.map oV).set k (oV x)))) T T:=yU.Ej d.t2;have l:upd H p.2 (.lst ((m.2.map oV).set k (oV x))) p.2=some (.lst ((m.2.set k x).map oV)):=by rw[aq,List.map_set]
 refine⟨j.jb.mv f (qg g d.t2) (by omega) (by omega),j.jh.mv f (by omega) (by omega),j.jn.mv f (qg g d.t2) (by omega),j.js.mv f (by omega) (by omega),⟨by rw[List.length_set];exact j.jd.lh,hl,λe n o b a=>?_⟩,j.jc.mv f λ_ _=>by omega⟩
 by_cases i:e=h
 ·subst i;dsimp only at a;rw[List.getElem?_set_self c]at a;rw[hp]at b;cases b;cases a;obtain⟨dd,o1⟩:=d.o1;exact⟨d.t1,d.t2,⟨dd,f.at d.t1 (by omega) o1⟩,l⟩
 ·dsimp only at a;rw[List.getElem?_set_ne (λz=>i z.symm)]at a;exact(j.jd.hd e n o b a).mv f (by omega) (by omega)
def WC.at(j:WC X H T s A.cs M.cells){i:Nat}{c:Ce}(h:M.cells[i]? =some (some c)):∃p,A.cs[i]? =some (some p)/\W7 X.C H T s i p c:=by
 have hl:i<A.cs.length:=by rw[j.lc];exact(dH h).1
 have e:=j.ce i _ _ (bK hl) h;cases a:A.cs[i]with
 | none=>rw[a]at e;exact e.elim
 | some g=>rw[a]at e;exact⟨g,by rw[bK hl,a],e⟩
def WC.at0(j:WC X H T s A.cs M.cells){i:Nat}(h:M.cells[i]? =some none):A.cs[i]? =some none:=by
 have hl:i<A.cs.length:=by rw[j.lc];exact(dH h).1
 have e:=j.ce i _ _ (bK hl) h;cases a:A.cs[i]with
 | none=>rw[bK hl,a]
 | some g=>rw[a]at e;exact e.elim
def WC.chg(j:WC X H T s A.cs M.cells){i:Nat}{p:Addr×Addr}{c':Ce}(f:yU s t0 H H' T T')(hp:A.cs[i]? =some (some p))(n:∀k,100<=k->k≠100+2 * i->k≠101+2 * i->¬ t0 k)(e:W7 X.C H' T' s i p c'):
  WC X H' T' s A.cs (M.cells.set i (some c')):=by
 have hl:i<A.cs.length:=(dH hp).1;refine⟨by rw[List.length_set];exact j.lc,λk g c b a=>?_⟩
 by_cases hk:k=i
 ·subst hk;rw[List.getElem?_set_self (by rw[<- j.lc];exact hl)]at a;rw[hp]at b;cases b;cases a;exact e
 ·rw[List.getElem?_set_ne (λz=>hk z.symm)]at a;exact(j.ce k g c b a).mv f (n _ (by omega) (by omega) (by omega)) (n _ (by omega) (by omega) (by omega))
def WJ.field(j:WJ X H T s A M)(w:WT H T)(a:s≠0){i k:Nat}{p:Addr×Addr}{c:Ce}{x:Option Int}(hp:A.cs[i]? =some (some p))(e:W7 X.C H T s i p c):
  jw s H (upd H p.2 (.lst ((c.fl.map oV).set k (oV x)))) T T/\WJ X (upd H p.2 (.lst ((c.fl.map oV).set k (oV x)))) T s A { M with cells:=M.cells.set i (some { c with fl:=c.fl.set k x }) }:=by
 refine⟨jw.upd w e.o2 (by rw[e.t2]),?_⟩;have f:yU s (·=101+2 * i) H (upd H p.2 (.lst ((c.fl.map oV).set k (oV x)))) T T:=yU.Ej e.t2;have b:upd H p.2 (.lst ((c.fl.map oV).set k (oV x))) p.2=some (.lst ((c.fl.set k x).map oV)):=by rw[aq,List.map_set]
 obtain⟨dd,o1⟩:=e.o1;exact⟨j.jb.mv f (qg a e.t2) (by omega) (by omega),j.jh.mv f (by omega) (by omega),j.jn.mv f (qg a e.t2) (by omega),j.js.mv f (by omega) (by omega),j.jd.mv f λ_ _ _=>by omega,
  j.jc.chg f hp (λk _ _ n2 z=>n2 z) ⟨e.t1,e.t2,⟨dd,f.at e.t1 (by omega) o1⟩,b⟩⟩
def WJ.cell(j:WJ X H T s A M)(w:WT H T)(a:s≠0){i:Nat}{p:Addr×Addr}{c:Ce}{dx:Addr}{tone load:Int}(hp:A.cs[i]? =some (some p))(e:W7 X.C H T s i p c):
  jw s H (upd H p.1 (.ins X.C dx (nY c.birth c.bulk tone load p.2))) T T/\WJ X (upd H p.1 (.ins X.C dx (nY c.birth c.bulk tone load p.2))) T s A { M with cells:=M.cells.set i (some { c with tone:=tone,load:=load }) }:=by
 obtain⟨dd,o1⟩:=e.o1;refine⟨jw.upd w o1 (by rw[e.t1]),?_⟩;have f:yU s (·=100+2 * i) H (upd H p.1 (.ins X.C dx (nY c.birth c.bulk tone load p.2))) T T:=yU.Ej e.t1;exact⟨j.jb.mv f (qg a e.t1) (by omega) (by omega),j.jh.mv f (by omega) (by omega),j.jn.mv f (qg a e.t1) (by omega),j.js.mv f (by omega) (by omega),j.jd.mv f λ_ _ _=>by omega,
  j.jc.chg f hp (λk _ n1 _ z=>n1 z) ⟨e.t1,e.t2,⟨dx,aq⟩,f.at e.t2 (by omega) e.o2⟩⟩
def WJ.sweep(j:WJ X H T s A M)(w:WT H T)(a:s≠0){dx:Addr}(S:Sw)(b:S.grey=M.sw.grey):
  jw s H (upd H A.sw (.ins X.S dx (cB S.sense S.phase A.gr S.looked S.turn S.at' S.stop S.walks S.looks S.passes S.loss))) T T/\
  WJ X (upd H A.sw (.ins X.S dx (cB S.sense S.phase A.gr S.looked S.turn S.at' S.stop S.walks S.looks S.passes S.loss))) T s A { M with sw:=S }:=by
 obtain⟨ts,tg,⟨dd,os⟩,og⟩:=j.js;refine⟨jw.upd w os (by rw[ts]),?_⟩;have f:yU s (·=7) H (upd H A.sw (.ins X.S dx (cB S.sense S.phase A.gr S.looked S.turn S.at' S.stop S.walks S.looks S.passes S.loss))) T T:=yU.Ej ts;exact⟨j.jb.mv f (qg a ts) (by omega) (by omega),j.jh.mv f (by omega) (by omega),j.jn.mv f (qg a ts) (by omega),⟨ts,tg,⟨dx,aq⟩,by rw[b];exact f.at tg (by omega) og⟩,j.jd.mv f λ_ _ _=>by omega,j.jc.mv f λ_ _=>by omega⟩
def WJ.Zv4(j:WJ X H T s A M)(w:WT H T)(a:s≠0){g:List Int}:jw s H (upd H A.gr (.lst (g.map V.int))) T T/\WJ X (upd H A.gr (.lst (g.map V.int))) T s A { M with sw:={ M.sw with grey:=g } }:=by
 obtain⟨ts,tg,⟨dd,os⟩,og⟩:=j.js;refine⟨jw.upd w og (by rw[tg]),?_⟩;have f:yU s (·=8) H (upd H A.gr (.lst (g.map V.int))) T T:=yU.Ej tg;exact⟨j.jb.mv f (qg a tg) (by omega) (by omega),j.jh.mv f (by omega) (by omega),j.jn.mv f (qg a tg) (by omega),⟨ts,tg,⟨dd,f.at ts (by omega) os⟩,aq⟩,j.jd.mv f λ_ _ _=>by omega,j.jc.mv f λ_ _=>by omega⟩
def WJ.back(j:WJ X H T s A M)(w:WT H T)(D:s≠0){i:Nat}{dx:Addr}{used':Int}(v:i<A.cs.length)(H':Hp)(kp:∀b o,H b=some o->b≠A.hp->b≠A.ca->H' b=some o)(x:H' A.hp=some (.ins X.H dx (lH M.room A.ca used' M.born)))(B:H' A.ca=some (.lst ((A.cs.map pV).set i V.non))):
  jw s H H' T T/\WJ X H' T s { A with cs:=A.cs.set i none } { M with used:=used',cells:=M.cells.set i none }:=by
 obtain⟨th,tc,⟨dd,oh⟩,oc⟩:=j.jh;have al:∀b o,H b=some o->∃u,H' b=some u:=λb o h=>by
  by_cases z1:b=A.hp
  ·exact⟨_,by rw[z1];exact x⟩
  ·by_cases r:b=A.ca
   ·exact⟨_,by rw[r];exact B⟩
   ·exact⟨o,kp b o h z1 r⟩
 have f:yU s (λk=>k=1\/k=2) H H' T T:=⟨λb o h e n=>kp b o h (λz=>n (.inl (by rw[z,th]))) (λz=>n (.inr (by rw[z,tc]))),λ_ _ _=>rfl⟩;have y:∀b o,H b=some o->T b=(0,0)->H' b=some o:=λb o h t=>kp b o h (SN t th (λz=>D (congrArg Prod.fst z).symm)) (SN t tc (λz=>D (congrArg Prod.fst z).symm));refine⟨⟨λb o h n=>kp b o h (λz=>n (by rw[z,th])) (λz=>n (by rw[z,tc])),al,λ_ _ _=>rfl,λb h=>w b ?_⟩,?_⟩
 ·cases z:H b with
  | none=>rfl
  | some o=>obtain⟨u,C⟩:=al b o z;rw[h]at C;cases C
 ·refine⟨?_,⟨th,tc,⟨dx,x⟩,by rw[List.map_set];exact B⟩,?_,?_,j.jd.mv f λ_ _ _=>by omega,⟨by rw[List.length_set,List.length_set];exact j.jc.lc,λk g c a d=>?_⟩⟩
  ·obtain⟨m,l,p,q,F,J,I,E⟩:=j.jb.mv f y (by omega) (by omega);exact⟨m,l,p,q,F,J,I,E⟩
  ·obtain⟨m,l,p⟩:=j.jn.mv f y (by omega);exact⟨m,l,p⟩
  ·obtain⟨m,l,p,q⟩:=j.js.mv f (by omega) (by omega);exact⟨m,l,p,q⟩
  ·by_cases hk:k=i
   ·subst hk;dsimp only at a d;rw[List.getElem?_set_self v]at a;rw[List.getElem?_set_self (by rw[<- j.jc.lc];exact v)]at d;cases a;cases d
    trivial
   ·dsimp only at a d;rw[List.getElem?_set_ne (λz=>hk z.symm)]at a d;exact(j.jc.ce k g c a d).mv f (by omega) (by omega)
end
def mJ{a:Type}:List (Option a)->Nat
 | []=>0
 | none::_=>0
 | some _::l=>mJ l+1
def qz{a:Type}(l:List (Option a))(x:a):List (Option a):=if mJ l<l.length then l.set (mJ l) (some x)else l++[some x]
def Zb5{c:Type}(l:List (Option c)):mJ l<=l.length:=by
 induction l with
 | nil=>exact Nat.le_refl _
 | cons a l b=>cases a with
  | none=>exact Nat.zero_le _
  | some a=>exact Nat.succ_le_succ b
def Zu8{c:Type}{l:List (Option c)}(h:mJ l<l.length):l[mJ l]? =some none:=by
 induction l with
 | nil=>exact absurd h (Nat.lt_irrefl _)
 | cons a l b=>cases a with
  | none=>rfl
  | some a=>exact b (Nat.lt_of_succ_lt_succ h)
def Zej{g:Type}{f:Option g->V}(d:∀x,f x=V.non↔x=none)(l:List (Option g)):(l.map f).idxOf V.non=mJ l/\(V.non∈l.map f↔mJ l<l.length):=by
 induction l with
 | nil=>exact⟨rfl,⟨λz=>(nomatch z),λz=>absurd z (Nat.lt_irrefl _)⟩⟩
 | cons a l c=>
  rw[List.map_cons,List.idxOf_cons];cases a with
  | none=>
   have e:f none=V.non:=(d none).mpr rfl;rw[e];exact⟨rfl,⟨λ_=>Nat.zero_lt_succ _,λ_=>List.mem_cons_self⟩⟩
  | some a=>
   have e:f (some a)≠V.non:=λz=>by cases (d (some a)).mp z
   have b:(f (some a) == V.non)=false:=beq_eq_false_iff_ne.mpr e;rw[b];refine⟨congrArg (· + 1) c.1,?_⟩;show _↔mJ l+1<l.length+1;rw[List.mem_cons,c.2];constructor
   ·rintro(z | z)
    ·exact absurd z.symm e
    ·omega
   ·intro z;exact .inr (by omega)
def Znx{a:Type}{f:Option a->V}(d:∀x,f x=V.non↔x=none)(l:List (Option a))(x:a):putN (l.map f) (f (some x))=(qz l x).map f:=by
 obtain⟨c,b⟩:=Zej d l;unfold putN qz
 by_cases z:mJ l<l.length
 ·rw[if_pos z,if_pos (b.mpr z),List.map_set];exact congrArg (λk=>(l.map f).set k (f (some x))) c
 ·rw[if_neg z,if_neg (λw=>z (b.mp w)),List.map_append];rfl
def Zok(p:Option (Addr×Addr)):pV p=V.non↔p=none:=by cases p<;>simp[pV]
def Qz{a:Type}(l:List (Option a))(x:a):(qz l x)[mJ l]? =some (some x):=by
 unfold qz
 by_cases z:mJ l<l.length
 ·rw[if_pos z,List.getElem?_set_self z]
 ·have e:mJ l=l.length:=Nat.le_antisymm (Zb5 l) (by omega);rw[if_neg z,e,List.getElem?_append_right (Nat.le_refl _),Nat.sub_self];rfl
def Zjt{a:Type}{l:List (Option a)}{x:a}{i:Nat}{y:Option a}(b:i≠mJ l)(h:(qz l x)[i]? =some y):l[i]? =some y:=by
 unfold qz at h
 by_cases z:mJ l<l.length
 ·rw[if_pos z,List.getElem?_set_ne (λw=>b w.symm)]at h;exact h
 ·rw[if_neg z]at h;have e:mJ l=l.length:=Nat.le_antisymm (Zb5 l) (by omega);have hl:=(dH h).1;rw[List.length_append,List.length_singleton]at hl;rw[List.getElem?_append_left (by omega)]at h;exact h
def Zny{b a:Type}{l:List (Option b)}{m:List (Option a)}{x:b}{y:a}(hl:l.length=m.length)(c:mJ l=mJ m):(qz l x).length=(qz m y).length:=by
 unfold qz
 by_cases z:mJ l<l.length
 ·rw[if_pos z,if_pos (by omega),List.length_set,List.length_set];exact hl
 ·rw[if_neg z,if_neg (by omega),List.length_append,List.length_append,hl];rfl
def Zs3{a:Type}(l:List (Option a))(x:a):(qz l x).length<=l.length+1:=by
 unfold qz
 by_cases z:mJ l<l.length
 ·rw[if_pos z,List.length_set];omega
 ·rw[if_neg z,List.length_append];exact Nat.le_refl _
def Zu7{g d:Type}:∀(l:List (Option g)) (m:List (Option d)),l.length=m.length->(∀(i:Nat) x y,l[i]? =some x->m[i]? =some y->(x=none↔y=none))->mJ l=mJ m:=by
 intro l
 induction l with
 | nil=>
  intro m hl _;cases m with
  | nil=>rfl
  | cons b m=>simp at hl
 | cons a l f=>
  intro m hl h;cases m with
  | nil=>simp at hl
  | cons b m=>
   have c:=f m (by simpa using hl) λi x y h1 h2=>h (i+1) x y (by simpa using h1) (by simpa using h2);have e:=h 0 a b rfl rfl;cases a with
   | none=>rw[e.mp rfl];rfl
   | some a=>cases b with
    | none=>exact absurd (e.mpr rfl) (λz=>by cases z)
    | some b=>exact congrArg (· + 1) c
section
variable {X:Cs}{H H':Hp}{T T':Tg}{s:Nat}{A:Wa}{M:Wm}
def WC.fst(j:WC X H T s A.cs M.cells):mJ A.cs=mJ M.cells:=Zu7 _ _ j.lc λi p c a b=>by
 have e:=j.ce i p c a b;cases p with
 | none=>cases c with
  | none=>exact⟨λ_=>rfl,λ_=>rfl⟩
  | some c=>exact e.elim
 | some p=>cases c with
  | none=>exact e.elim
  | some c=>exact⟨λz=>(by cases z),λz=>(by cases z)⟩
def WJ.put(j:WJ X H T s A M)(w:WT H T)(J:s≠0){dx:Addr}{used':Int}{p fa:Addr}{c:Ce}(kp:∀b o,H b=some o->b≠A.hp->b≠A.ca->H' b=some o)(D:H' A.hp=some (.ins X.H dx (lH M.room A.ca used' (M.born+1))))(F:H' A.ca=some (.lst (putN (A.cs.map pV) (.ref p))))
  (n1:H p=none) (n2:H fa=none) (Q:p≠fa) (o1:∃dx,H' p=some (.ins X.C dx (nY c.birth c.bulk c.tone c.load fa))) (o2:H' fa=some (.lst (c.fl.map oV))):
  ∃T',jw s H H' T T'/\WJ X H' T' s { A with cs:=qz A.cs (p,fa) } { M with used:=used',born:=M.born+1,cells:=qz M.cells c }:=by
 obtain⟨th,tc,⟨dd,oh⟩,oc⟩:=j.jh;have u:=j.jc.fst
 let k:=mJ A.cs
 let T':Tg:=kJ (kJ T p (s,100+2 * k)) fa (s,101+2 * k)
 have told:∀b o,H b=some o->T' b=T b:=λb o h=>by
  show kJ _ _ _ b=_;rw[mC (aD h n2),mC (aD h n1)]
 have t1:T' p=(s,100+2 * k):=by show kJ _ _ _ p=_;rw[mC Q,jx]
 have t2:T' fa=(s,101+2 * k):=by show kJ _ _ _ fa=_;rw[jx]
 have al:∀b o,H b=some o->∃y,H' b=some y:=λb o h=>by
  by_cases z1:b=A.hp
  ·exact⟨_,by rw[z1];exact D⟩
  ·by_cases x:b=A.ca
   ·exact⟨_,by rw[x];exact F⟩
   ·exact⟨o,kp b o h z1 x⟩
 have f:yU s (λk=>k=1\/k=2) H H' T T':=⟨λb o h e n=>kp b o h (λz=>n (.inl (by rw[z,th]))) (λz=>n (.inr (by rw[z,tc]))),told⟩;have E:∀b o,H b=some o->T b=(0,0)->H' b=some o:=λb o h t=>kp b o h (SN t th (λz=>J (congrArg Prod.fst z).symm)) (SN t tc (λz=>J (congrArg Prod.fst z).symm));refine⟨T',⟨λb o h B=>kp b o h (λz=>B (by rw[z,th])) (λz=>B (by rw[z,tc])),al,told,λb h=>?_⟩,?_⟩
 ·have l:b≠p:=λe=>by obtain⟨d,z⟩:=o1;rw[e,z]at h;cases h
  have a:b≠fa:=λe=>by rw[e,o2]at h;cases h
  have hb:H b=none:=by
   cases z:H b with
   | none=>rfl
   | some o=>obtain⟨y,I⟩:=al b o z;rw[h]at I;cases I
  show kJ _ _ _ b=_;rw[mC a,mC l];exact w b hb
 ·refine⟨?_,⟨f.tag oh th,f.tag oc tc,⟨dx,D⟩,?_⟩,?_,?_,j.jd.mv f λ_ _ _=>by omega,⟨Zny j.jc.lc u,λi g O q r=>?_⟩⟩
  ·obtain⟨l,a,m,v,L,P,N,K⟩:=j.jb.mv f E (by omega) (by omega);exact⟨l,a,m,v,L,P,N,K⟩
  ·show H' A.ca=some (.lst ((qz A.cs (p,fa)).map pV));rw[<- Znx Zok];exact F
  ·obtain⟨l,a,m⟩:=j.jn.mv f E (by omega);exact⟨l,a,m⟩
  ·obtain⟨l,a,m,v⟩:=j.js.mv f (by omega) (by omega);exact⟨l,a,m,v⟩
  ·dsimp only at q r
   by_cases hk:i=mJ A.cs
   ·subst hk;rw[Qz]at q;rw[u,Qz]at r;cases q;cases r;exact⟨t1,t2,o1,o2⟩
   ·exact(j.jc.ce i g O (Zjt hk q) (Zjt (by rw[<- u];exact hk) r)).mv f (by omega) (by omega)
end
def cellAt(M:Wm)(x:Int):Option Ce:=if 0<=x then(M.cells[x.toNat]?).join else none
def vV(M:Wm):Option Int->Option Int
 | none=>none
 | some x=>(cellAt M x).map (·.birth)
def aW(M:Wm)(h k:Nat):Option Int:=((M.hands[h]?).bind λm=>m.2[k]?).join
def setSlot(M:Wm)(h k:Nat)(x:Option Int):Wm:={ M with hands:=M.hands.modify h λm=>(m.1,m.2.set k x) }
def setCell(M:Wm)(i:Int)(c:Ce):Wm:={ M with cells:=M.cells.set i.toNat (some c) }
def cg(M:Wm):Option Int->Option Int×Wm
 | none=>(none,M)
 | some i=>match cellAt M i with
  | none=>(none,M)
  | some c=>if M.sw.phase="walk"/\c.tone≠M.sw.sense then(some c.birth,{ setCell M i { c with tone:=M.sw.sense }with sw:={ M.sw with grey:=M.sw.grey++[i] } })else(none,M)
def dR(M:Wm)(h:Nat):Bool:=decide (M.sw.looked / 2 ^ h % 2=1)
def um(M:Wm)(a birth:Int):Bool:=match cellAt M a with
 | none=>true
 | some c=>if c.birth=birth then decide (M.sw.phase="give"/\c.tone≠M.sw.sense)else true
def wN(l:List (Str×(Int×Int)))(k:Str)(v:Int×Int):List (Str×(Int×Int)):=if (l.any λm=>decide (m.1=k))=true then l.map (λm=>if m.1=k then(m.1,v)else m)else l++[(k,v)]
def zy(l:List (Str×(Int×Int)))(k:Str):Option (Int×Int):=(l.find? λm=>decide (m.1=k)).map (·.2)
inductive Rf where
 | full | empty | tR | SJ
 deriving DecidableEq
structure Ev where
 word:Str
 thing:Option Int
 notes:List Int
inductive pI where
 | make (h s:Nat) (many bulk:Int)
 | get (h s t f:Nat)
 | put (h t f s:Nat)
 | copy (h s t:Nat)
 | drop (h s:Nat)
 | give (h s g t:Nat)
 | write (h t:Nat) (load:Int)
 | read (h t:Nat)
 | name (h t:Nat) (word:Str)
 | seek (h s:Nat) (word:Str)
def old?(M:Wm):Bool:=decide (M.tells % 2=1)
def sV(M:Wm):Bool:=decide (M.tells / 2 % 2=1)
def ofN:Option Int->List Int
 | none=>[]
 | some b=>[b]
def aY(M:Wm):List (Option Int)->List Int×Wm
 | []=>([],M)
 | x::l=>(ofN (cg M x).1++(aY (cg M x).2 l).1,(aY (cg M x).2 l).2)
def yV(M:Wm):pI->Except Rf (Ev×Wm)
 | .make h s many bulk=>
  if M.used+(1+many+bulk)<=M.room then
   .ok (⟨"made",some (M.born+1),[]⟩,setSlot { M with used:=M.used+(1+many+bulk),born:=M.born+1,cells:=qz M.cells ⟨M.born+1,bulk,M.sw.sense,0,List.replicate many.toNat none⟩ } h s (some (mJ M.cells)))
  else .error .full
 | .get h s t f=>match aW M h t with
  | none=>.error .empty
  | some x=>match cellAt M x with
   | none=>.error .empty
   | some c=>match c.fl[f]? with
    | none=>.error .tR
    | some v=>.ok (⟨"got",vV M v,[]⟩,setSlot M h s v)
 | .put h t f s=>match aW M h t with
  | none=>.error .empty
  | some x=>match cellAt M x with
   | none=>.error .empty
   | some c=>match c.fl[f]? with
    | none=>.error .tR
    | some v=>
     let M1:=setCell M x { c with fl:=c.fl.set f (aW M h s) }
     let r:=aY M1 ((if old? M=true then [v]else [])++if (sV M && !dR M h)=true then [aW M h s]else [])
     .ok (⟨"put",vV M v,r.1⟩,r.2)
 | .copy h s t=>.ok (⟨"copied",vV M (aW M h t),[]⟩,setSlot M h s (aW M h t))
 | .drop h s=>.ok (⟨"dropped",vV M (aW M h s),[]⟩,setSlot M h s none)
 | .give h s g t=>
  let r:=aY (setSlot M g t (aW M h s)) (if (sV M && !dR M h)=true then [aW M h s]else [])
  .ok (⟨"given",vV M (aW M h s),r.1⟩,r.2)
 | .write h t load=>match aW M h t with
  | none=>.error .empty
  | some x=>match cellAt M x with
   | none=>.error .empty
   | some c=>.ok (⟨"wrote",some c.load,[]⟩,setCell M x { c with load:=load })
 | .read h t=>match aW M h t with
  | none=>.error .empty
  | some x=>match cellAt M x with
   | none=>.error .empty
   | some c=>.ok (⟨"read",some c.load,[]⟩,M)
 | .name h t word=>match aW M h t with
  | none=>.error .empty
  | some x=>match cellAt M x with
   | none=>.error .empty
   | some c=>.ok (⟨"named",some c.birth,[]⟩,{ M with names:=wN M.names word (x,c.birth) })
 | .seek h s word=>match zy M.names word with
  | none=>.error .SJ
  | some (p,b)=>
   if um M p b=true then .ok (⟨"sought",none,[]⟩,setSlot M h s none)
   else
    let r:=aY (setSlot M h s (some p)) [some p]
    .ok (⟨"sought",some b,r.1⟩,r.2)
def dV:pI->List V
 | .make h s many bulk=>[.str "make",.int h,.int s,.int many,.int bulk]
 | .get h s t f=>[.str "get",.int h,.int s,.int t,.int f]
 | .put h t f s=>[.str "put",.int h,.int t,.int f,.int s]
 | .copy h s t=>[.str "copy",.int h,.int s,.int t]
 | .drop h s=>[.str "drop",.int h,.int s]
 | .give h s g t=>[.str "give",.int h,.int s,.int g,.int t]
 | .write h t load=>[.str "write",.int h,.int t,.int load]
 | .read h t=>[.str "read",.int h,.int t]
 | .name h t word=>[.str "name",.int h,.int t,.str word]
 | .seek h s word=>[.str "seek",.int h,.int s,.str word]
def Ck(M:Wm)(h s:Nat):Prop:=∃m,M.hands[h]? =some m/\s<m.2.length
def okD(M:Wm):pI->Prop
 | .make h s many bulk=>Ck M h s/\0<=many/\many<=1000/\0<=bulk
 | .get h s t _=>Ck M h s/\Ck M h t
 | .put h t _ s=>Ck M h t/\Ck M h s
 | .copy h s t=>Ck M h s/\Ck M h t
 | .drop h s=>Ck M h s
 | .give h s g t=>Ck M h s/\Ck M g t
 | .write h t _=>Ck M h t
 | .read h t=>Ck M h t
 | .name h t _=>Ck M h t
 | .seek h s _=>Ck M h s
structure Ok(M:Wm):Prop where
 sl:∀m∈M.hands,∀x,some x∈m.2->∃c,cellAt M x=some c
 fl:∀c,some c∈M.cells->∀x,some x∈c.fl->∃d,cellAt M x=some d
 tn:∀c,some c∈M.cells->c.tone=0\/c.tone=1
def Cj(a c d b:Addr):Rf->Addr
 | .full=>a
 | .empty=>c
 | .tR=>d
 | .SJ=>b
def EvN(H0 H:Hp)(a:Addr)(e:Ev):Prop:=∃l,H0 l=none/\H a=some (.tup [.str e.word,oV e.thing,.ref l])/\H l=some (.lst (e.notes.map V.int))
def cz(X:Cs)(f:Rf->Addr)(P:pI->Prop):Sp:=λvs H Q E=>∃wo dd,vs=[.ref wo,.ref dd]/\∃T s A M d,P d/\WT H T/\s≠0/\WJ X H T s A M/\A.wo=wo/\H dd=some (.tup (dV d))/\okD M d/\M.cells.length<=900/\(M.sw.phase="walk"->M.sw.grey.length<=10000)/\(0<=M.tells/\M.tells<4)/\M.names.length<=1000/\
 (∀r,yV M d=.error r->∀H',aV H H'->E (.ref (f r)) none H')/\
 (∀e c,yV M d=.ok (e,c)->∀H' T' b a,jw s H H' T T'->WJ X H' T' s b c->b.wo=wo->EvN H H' a e->Q (.ref a) H')
abbrev ZJ3(X:Cs)(rf:Rf->Addr):Sp:=cz X rf λ_=>True
def Zl4{b:Type}{l:List (Option b)}{x a:b}{i:Nat}(h:l[i]? =some (some a)):(qz l x)[i]? =some (some a):=by
 have hl:=(dH h).1;unfold qz
 by_cases z:mJ l<l.length
 ·have c:i≠mJ l:=λe=>by rw[e,Zu8 z]at h;cases h
  rw[if_pos z,List.getElem?_set_ne (λw=>c w.symm)];exact h
 ·rw[if_neg z,List.getElem?_append_left hl];exact h
def dm{M:Wm}{x:Int}{c:Ce}:cellAt M x=some c↔0<=x/\M.cells[x.toNat]? =some (some c):=by
 unfold cellAt
 by_cases z:0<=x
 ·rw[if_pos z];cases e:M.cells[x.toNat]? with
  | none=>simp
  | some y=>cases y with
   | none=>simp
   | some d=>simp[z]
 ·rw[if_neg z];simp[z]
def sY{M:Wm}{x:Int}{c:Ce}(h:cellAt M x=some c):some c∈M.cells:=List.mem_of_getElem? (dm.mp h).2
def Zj8{M:Wm}{x u b:Int}{c d:Ce}(h:cellAt M x=some d):cellAt { M with used:=u,born:=b,cells:=qz M.cells c } x=some d:=by
 obtain⟨a,h1⟩:=dm.mp h;exact dm.mpr ⟨a,Zl4 h1⟩
def Zj9{M:Wm}{u b:Int}{c:Ce}:cellAt { M with used:=u,born:=b,cells:=qz M.cells c } (mJ M.cells)=some c:=
 dm.mpr ⟨by omega,by rw[Int.toNat_natCast];exact Qz _ _⟩
def Zp1{a:Type}{l:List (Option a)}{x:a}{y:Option a}(h:y∈qz l x):y∈l\/y=some x:=by
 unfold qz at h
 by_cases z:mJ l<l.length
 ·rw[if_pos z]at h;rcases List.mem_or_eq_of_mem_set h with h | h
  ·exact .inl h
  ·exact .inr h
 ·rw[if_neg z]at h;rcases List.mem_append.mp h with h | h
  ·exact .inl h
  ·exact .inr (List.mem_singleton.mp h)
def Zkw{M:Wm}{h k:Nat}{m:Str×List (Option Int)}{x:Option Int}(hm:M.hands[h]? =some m)(hk:m.2[k]? =some x):aW M h k=x:=by
 unfold aW;rw[hm];show(m.2[k]?).join=x;rw[hk];rfl
def Zde{M:Wm}{h k:Nat}(o:Ck M h k):∃m,M.hands[h]? =some m/\m.2[k]? =some (aW M h k)/\k<m.2.length:=by
 obtain⟨m,hm,hk⟩:=o;refine⟨m,hm,?_,hk⟩;rw[Zkw hm (bK hk)];exact bK hk
def U7{M:Wm}{h k:Nat}{x:Option Int}{m:Str×List (Option Int)}(hm:M.hands[h]? =some m):(setSlot M h k x).hands=M.hands.set h (m.1,m.2.set k x):=by
 show M.hands.modify h _=_;apply List.ext_getElem?;intro i;rw[List.getElem?_modify]
 by_cases e:h=i
 ·subst e;rw[List.getElem?_set_self (dH hm).1,hm];simp
 ·rw[List.getElem?_set_ne e];simp[e]
def qx{M:Wm}{h k:Nat}{x:Option Int}{y:Option Int}:vV (setSlot M h k x) y=vV M y:=by cases y<;>rfl
def rowsOf(M:Wm):List (List (Option Int)):=M.hands.map λm=>m.2.map (vV M)
def Zhr{M:Wm}(h:M.sw.phase≠"walk")(x:Option Int):cg M x=(none,M):=by
 cases x with
 | none=>rfl
 | some x=>
  unfold cg;dsimp only;cases cellAt M x with
  | none=>rfl
  | some c=>
   dsimp only;rw[if_neg (λz=>h z.1)]
def Zev{M:Wm}{h s:Nat}{many bulk:Int}(a:M.used+(1+many+bulk)<=M.room):yV M (.make h s many bulk)=.ok (⟨"made",some (M.born+1),[]⟩,setSlot { M with used:=M.used+(1+many+bulk),born:=M.born+1,cells:=qz M.cells ⟨M.born+1,bulk,M.sw.sense,0,List.replicate many.toNat none⟩ } h s (some (mJ M.cells))):=by
 show(if _ then _ else _)=_;rw[if_pos a]
structure qC(K:aB)(X:Cs):Prop where
 c:TxC K X.C X.H
 cW:Hg K X.W
 Ow:bM K X.W "heap"
 nWk:bM K X.W "kind"
 nWd:bM K X.W "hands"
 nWn:bM K X.W "names"
 SQ:bM K X.W "sweeper"
 cD:Hg K X.D
 nDn:bM K X.D "name"
 nDs:bM K X.D "slots"
 cK:Hg K X.K
 nKl:bM K X.K "looking"
 nKt:bM K X.K "tells"
 cS:Hg K X.S
 n1:bM K X.S "sense"
 n2:bM K X.S "phase"
 n3:bM K X.S "grey"
 n4:bM K X.S "looked"
 n5:bM K X.S "turn"
 n6:bM K X.S "at"
 n7:bM K X.S "stop"
 n8:bM K X.S "walks"
 n9:bM K X.S "looks"
 n10:bM K X.S "passes"
 n11:bM K X.S "loss"
structure WJ0(X:Cs)(H:Hp)(T:Tg)(s:Nat)(A:Wa)(M:Wm):Prop where
 jb:WB X H T s A M.w M.tells
 jh:WH X H T s A M.room M.used M.born
 js:WS X H T s A M.sw
 jd:WD X H T s A.hs M.hands
 jc:WC X H T s A.cs M.cells
def WJ.w0{X:Cs}{H:Hp}{T:Tg}{s:Nat}{A:Wa}{M:Wm}(j:WJ X H T s A M):WJ0 X H T s A M:=⟨j.jb,j.jh,j.js,j.jd,j.jc⟩
def WJ.names{X:Cs}{H:Hp}{T:Tg}{s:Nat}{A:Wa}{M:Wm}{o:HO}(j:WJ X H T s A M)(a:s≠0):WJ0 X (upd H A.nm o) T s A M:=by
 have f:yU s (·=6) H (upd H A.nm o) T T:=yU.Ej j.jn.tm;exact⟨j.jb.mv f (qg a j.jn.tm) (by omega) (by omega),j.jh.mv f (by omega) (by omega),j.js.mv f (by omega) (by omega),j.jd.mv f λ_ _ _=>by omega,j.jc.mv f λ_ _=>by omega⟩
def WJ0.same{X:Cs}{H H':Hp}{T:Tg}{s:Nat}{A:Wa}{M:Wm}(j:WJ0 X H T s A M)(e:aV H H'):WJ0 X H' T s A M:=by
 have f:yU s (λ_=>False) H H' T T:=yU.of_same e;exact⟨j.jb.mv f (λb o h _=>e b o h) id id,j.jh.mv f id id,j.js.mv f id id,j.jd.mv f λ_ _ _=>id,j.jc.mv f λ_ _=>id⟩
def atO(cs:List V):V->V
 | .int i=>if 0<=i then(cs[i.toNat]?).getD .non else .non
 | _=>.non
def dZ(a:Addr):Sp:=λvs H Q E=>∃hp pl,vs=[.ref hp,pl]/\(pl=.non\/∃i,pl=.int i)/\∃ca room used born cs,HpO a H hp ca room used born cs/\Q (atO cs pl) H
def cO(M:Wm)(x:Option Int):Option Ce:=x.bind (cellAt M)
def cJ(X:Cs):Sp:=λvs H Q E=>∃hp pl,vs=[.ref hp,pl]/\∃x,pl=oV x/\∃T s A M,WJ X H T s A M/\A.hp=hp/\Q (oV (vV M x)) H
def xu(X:Cs):Sp:=λvs H Q E=>∃p f,vs=[.ref p,.int f]/\∃T s i q c,W7 X.C H T s i q c/\q.1=p/\Q (.bl (decide (0<=f) && decide (f<c.fl.length))) H
def bZ(X:Cs):Sp:=λvs H Q E=>∃wo h,vs=[.ref wo,.int h]/\∃T s A M k p,WJ X H T s A M/\A.wo=wo/\h=((k:Nat):Int)/\A.hs[k]? =some p/\Q (.ref p.2) H
def cL(X:Cs):Sp:=λvs H Q E=>∃wo p,vs=[.ref wo,.ref p]/\∃T s A M i q c,WJ0 X H T s A M/\A.wo=wo/\W7 X.C H T s i q c/\q.1=p/\Q (.bl (decide (c.tone=M.sw.sense))) H
def xr(X:Cs):Sp:=λvs H Q E=>∃wo h,vs=[.ref wo,.int h]/\∃T s A M k,WJ X H T s A M/\A.wo=wo/\h=((k:Nat):Int)/\Q (.bl (dR M k)) H
def By(X:Cs):Sp:=λvs H Q E=>∃wo v,vs=[.ref wo,v]/\∃T s A M,WJ X H T s A M/\A.wo=wo/\(0<=M.tells/\M.tells<4)/\∀l,H l=none->Q (.ref l) (upd H l (.lst (if old? M=true then [v]else [])))
def qi(X:Cs):Sp:=λvs H Q E=>∃wo h v,vs=[.ref wo,.int h,v]/\∃T s A M k,WJ X H T s A M/\A.wo=wo/\(0<=M.tells/\M.tells<4)/\h=((k:Nat):Int)/\∀l,H l=none->Q (.ref l) (upd H l (.lst (if (sV M && !dR M k)=true then [v]else [])))
def j9(X:Cs)(CE:Addr):Sp:=λvs H Q E=>∃wo h t,vs=[.ref wo,.int h,.int t]/\∃T s A M hn tn,WJ X H T s A M/\A.wo=wo/\h=((hn:Nat):Int)/\t=((tn:Nat):Int)/\Ck M hn tn/\
 (cO M (aW M hn tn)=none->E (.ref CE) none H)/\
 (∀i c p,aW M hn tn=some i->0<=i->cellAt M i=some c->A.cs[i.toNat]? =some (some p)->W7 X.C H T s i.toNat p c->Q (.ref p.1) H)
def oO(X:Cs)(CE a:Addr):Sp:=λvs H Q E=>∃wo h t f,vs=[.ref wo,.int h,.int t,.int f]/\∃T s A M hn tn fn,WJ X H T s A M/\A.wo=wo/\h=((hn:Nat):Int)/\t=((tn:Nat):Int)/\f=((fn:Nat):Int)/\Ck M hn tn/\
 (cO M (aW M hn tn)=none->E (.ref CE) none H)/\
 (∀i c,aW M hn tn=some i->0<=i->cellAt M i=some c->c.fl[fn]? =none->E (.ref a) none H)/\
 (∀i c p,aW M hn tn=some i->0<=i->cellAt M i=some c->A.cs[i.toNat]? =some (some p)->W7 X.C H T s i.toNat p c->fn<c.fl.length->Q (.ref p.2) H)
def Zc5(X:Cs):Sp:=λvs H Q E=>∃wo pl,vs=[.ref wo,pl]/\∃x,pl=oV x/\∃T s A M,WT H T/\s≠0/\WJ X H T s A M/\A.wo=wo/\(M.sw.phase="walk"->M.sw.grey.length<=20000)/\
 ∀H',jw s H H' T T->WJ X H' T s A (cg M x).2->Q (oV (cg M x).1) H'
def PlO(H:Hp)(T:Tg)(A:Wa)(M:Wm)(pl:Addr)(xs:List (Option Int)):Prop:=(H pl=some (.lst (xs.map oV))/\T pl=(0,0))\/(∃(k:Nat) (p:Addr×Addr) (m:Str×List (Option Int)),A.hs[k]? =some p/\M.hands[k]? =some m/\pl=p.2/\xs=m.2)\/(∃(k:Nat) (p:Addr×Addr) (c:Ce),A.cs[k]? =some (some p)/\M.cells[k]? =some (some c)/\pl=p.2/\xs=c.fl)
def PlO.get{X:Cs}{H:Hp}{T:Tg}{s:Nat}{A:Wa}{M:Wm}{pl:Addr}{xs:List (Option Int)}(h:PlO H T A M pl xs)(j:WJ X H T s A M):H pl=some (.lst (xs.map oV)):=by
 rcases h with ⟨h,_⟩ | ⟨k,p,m,h1,h2,rfl,rfl⟩ | ⟨k,p,c,h1,h2,rfl,rfl⟩
 ·exact h
 ·exact(j.jd.hd k p m h1 h2).o2
 ·have e:=j.jc.ce k _ _ h1 h2;exact(show W7 X.C H T s k p c from e).o2
def fD(X:Cs):Sp:=λvs H Q E=>∃wo pl,vs=[.ref wo,.ref pl]/\∃xs T s A M,WT H T/\s≠0/\WJ X H T s A M/\A.wo=wo/\PlO H T A M pl xs/\xs.length<=100/\(M.sw.phase="walk"->M.sw.grey.length<=10000)/\
 ∀H' T' l,jw s H H' T T'->WJ X H' T' s A (aY M xs).2->H' l=some (.lst ((aY M xs).1.map V.int))->H l=none->Q (.ref l) H'
def Ih(X:Cs):Sp:=λvs H Q E=>∃wo p b,vs=[.ref wo,.int p,.int b]/\∃T s A M,WJ0 X H T s A M/\A.wo=wo/\Q (.bl (um M p b)) H
def uc(X:Cs)(a:Addr):Sp:=λvs H Q E=>∃wo z,vs=[.ref wo,.str z]/\∃T s A M,WJ X H T s A M/\A.wo=wo/\(zy M.names z=none->E (.ref a) none H)/\(∀p b,zy M.names z=some (p,b)->Q (if um M p b=true then .non else .int p) H)
def zj(x:Option Int):oV x=.non\/∃i,oV x=.int i:=by cases x with
 | none=>exact .inl rfl
 | some i=>exact .inr ⟨i,rfl⟩
section
variable {X:Cs}{H H':Hp}{T T':Tg}{s:Nat}{A:Wa}{M:Wm}
def WJ0.hpO(j:WJ0 X H T s A M):HpO X.H H A.hp A.ca M.room M.used M.born (A.cs.map pV):=⟨j.jh.oh,j.jh.oc⟩
def WJ0.look(j:WJ0 X H T s A M)(x:Option Int):(cO M x=none/\atO (A.cs.map pV) (oV x)=.non)\/∃i c p,x=some i/\0<=i/\cellAt M i=some c/\M.cells[i.toNat]? =some (some c)/\A.cs[i.toNat]? =some (some p)/\atO (A.cs.map pV) (oV x)=.ref p.1/\W7 X.C H T s i.toNat p c:=by
 cases x with
 | none=>exact .inl ⟨rfl,rfl⟩
 | some i=>
  show(cellAt M i=none/\atO _ (.int i)=_)\/_
  by_cases a:0<=i
  ·cases hc:M.cells[i.toNat]? with
   | none=>
    have hl:A.cs[i.toNat]? =none:=by
     rw[List.getElem?_eq_none_iff]at hc ⊢;rw[j.jc.lc];exact hc
    refine .inl ⟨by unfold cellAt;rw[if_pos a,hc];rfl,?_⟩;show(if 0<=i then _ else _)=_;rw[if_pos a,cA,hl];rfl
   | some y=>cases y with
    | none=>
     refine .inl ⟨by unfold cellAt;rw[if_pos a,hc];rfl,?_⟩;show(if 0<=i then _ else _)=_;rw[if_pos a,cA,j.jc.at0 hc];rfl
    | some c=>
     obtain⟨p,hp,e⟩:=j.jc.at hc;refine .inr ⟨i,c,p,rfl,a,by unfold cellAt;rw[if_pos a,hc];rfl,hc,hp,?_,e⟩;show(if 0<=i then _ else _)=_;rw[if_pos a,cA,hp];rfl
  ·refine .inl ⟨by unfold cellAt;rw[if_neg a],?_⟩;show(if 0<=i then _ else _)=_;rw[if_neg a]
def WJ.hpO(j:WJ X H T s A M):HpO X.H H A.hp A.ca M.room M.used M.born (A.cs.map pV):=j.w0.hpO
def WJ.look(j:WJ X H T s A M)(x:Option Int):(cO M x=none/\atO (A.cs.map pV) (oV x)=.non)\/∃i c p,x=some i/\0<=i/\cellAt M i=some c/\M.cells[i.toNat]? =some (some c)/\A.cs[i.toNat]? =some (some p)/\atO (A.cs.map pV) (oV x)=.ref p.1/\W7 X.C H T s i.toNat p c:=j.w0.look x
def WJ.hand(j:WJ X H T s A M){k:Nat}{p:Addr×Addr}(hp:A.hs[k]? =some p):∃m,M.hands[k]? =some m/\HdO X.D H T s k p m:=by
 have hl:k<M.hands.length:=by rw[<- j.jd.lh];exact(dH hp).1
 exact⟨_,bK hl,j.jd.hd k p _ hp (bK hl)⟩
def WJ.handOf(j:WJ X H T s A M){h t:Nat}(o:Ck M h t):∃p m,A.hs[h]? =some p/\M.hands[h]? =some m/\m.2[t]? =some (aW M h t)/\t<m.2.length/\HdO X.D H T s h p m:=by
 obtain⟨m,hm,hk,hl⟩:=Zde o;have hh:h<A.hs.length:=by rw[j.jd.lh];exact(dH hm).1
 exact⟨_,m,bK hh,hm,hk,hl,j.jd.hd h _ m (bK hh) hm⟩
def WJ.fresh(j:WJ X H T s A M){l:Addr}{o:HO}{v:Nat×Nat}(h:H l=none):WJ X (upd H l o) (kJ T l v) s A M:=
 j.mv (H':=upd H l o) (T':=kJ T l v) ⟨λb u e _ _=>by rw[aC (aD e h)];exact e,λb u e=>mC (aD e h)⟩ λb u e _=>by rw[aC (aD e h)];exact e
end
def ZAe{t:Int}(h:0<=t/\t<4):Builtin.bitAnd t 1=t % 2/\(Builtin.bitAnd t 2=0↔¬ t / 2 % 2=1):=by
 have:t=0\/t=1\/t=2\/t=3:=by omega
 rcases this with rfl | rfl | rfl | rfl<;>decide
section
variable {K:aB}{X:Cs}{H:Hp}{Q:VK}{E:XK}{n:St->Hp->Prop}{bk ct:St->Hp->Prop}
def Zj7{hp:Addr}{pl:V}(T:qC K X)(q:(pl=.non\/∃i,pl=.int i)/\∃ca room used born cs,HpO X.H H hp ca room used born cs/\Q (atO cs pl) H):HN K ⟨n,Q,bk,ct⟩ [some (.ref hp),some pl] H:=by
 obtain⟨a,ca,room,used,born,cs,⟨⟨dx,h1⟩,h2⟩,q⟩:=q;unfold HN;rcases a with rfl | ⟨i,rfl⟩
 ·walk_at"e";exact q
 ·walk_at"e";refine wD (λz=>?_) (λz=>?_)
  ·walk_at"e";rw[show atO cs (.int i)=.non from if_neg (by omega)]at q;exact q
  ·rw[show atO cs (.int i)=(cs[i.toNat]?).getD .non from if_pos (by omega)]at q;walk_at"e";refine aH h1 T.c.cM T.c.bN bU ?_;walk_at"e";refine jG (cj.of h2) ?_;walk_at"e";refine wD (λy=>?_) (λy=>?_)
   ·walk_at"e";rw[List.getElem?_eq_none_iff.mpr (by omega)]at q;exact q
   ·walk_at"e";refine aH h1 T.c.cM T.c.bN bU ?_;walk_at"e";have hl:i.toNat<cs.length:=by omega
    refine iw (cj.of h2) (rC (by omega) (bK hl)) ?_;rw[bK hl]at q;exact q
def Zf2{hp:Addr}{pl:V}(T:qC K X)(q:∃x,pl=oV x/\∃T s A M,WJ X H T s A M/\A.hp=hp/\Q (oV (vV M x)) H):Du K (dZ X.H) ⟨n,Q,bk,ct⟩ [some (.ref hp),some pl,none] H:=by
 obtain⟨x,rfl,Tg,s,A,M,j,rfl,q⟩:=q;unfold Du;walk_at"e";refine⟨_,_,rfl,zj x,_,_,_,_,_,j.hpO,?_⟩;rcases j.look x with ⟨d,a⟩ | ⟨i,c,p,rfl,e,b,_,_,a,⟨t1,t2,⟨dx,o1⟩,o2⟩⟩
 ·rw[a];have:vV M x=none:=by
   cases x with
   | none=>rfl
   | some i=>show(cellAt M i).map _=none;rw[show cellAt M i=none from d];rfl
  rw[this]at q;walk_at"e";exact q
 ·rw[a];have:vV M (some i)=some c.birth:=by show(cellAt M i).map _=_;rw[b];rfl
  rw[this]at q;walk_at"e";refine aH o1 T.c.di T.c.dX gR ?_;exact q
def KN{p:Addr}{f:Int}(T:qC K X)(q:∃T s i q c,W7 X.C H T s i q c/\q.1=p/\Q (.bl (decide (0<=f) && decide (f<c.fl.length))) H):qP K ⟨n,Q,bk,ct⟩ [some (.ref p),some (.int f)] H:=by
 obtain⟨Tg,s,i,r,c,⟨t1,t2,⟨dx,o1⟩,o2⟩,rfl,q⟩:=q;unfold qP;walk_at"e";refine wD (λz=>?_) (λz=>?_)
 ·rw[decide_eq_true z,Bool.true_and]at q;walk_at"e";refine aH o1 T.c.di T.c.eX lJ ?_;walk_at"e";refine jG (cj.of o2) ?_;walk_at"e";rw[aX];exact q
 ·rw[decide_eq_false z,Bool.false_and]at q;walk_at"e";exact q
def Zcp{wo:Addr}{h:Int}(T:qC K X)(q:∃T s A M k p,WJ X H T s A M/\A.wo=wo/\h=((k:Nat):Int)/\A.hs[k]? =some p/\Q (.ref p.2) H):Dp K ⟨n,Q,bk,ct⟩ [some (.ref wo),some (.int h)] H:=by
 obtain⟨Tg,s,A,M,k,p,j,rfl,rfl,hp,q⟩:=q;obtain⟨a,ow⟩:=j.jb.ow;obtain⟨m,hm,⟨t1,t2,⟨dx,o1⟩,o2⟩⟩:=j.hand hp;unfold Dp;walk_at"e";refine aH ow T.cW T.nWd eV ?_;walk_at"e";refine iw (cj.of j.jb.on) (iI (v:=.ref p.1) (by rw[cA,hp];rfl)) ?_;refine aH o1 T.cD T.nDs rz ?_;exact q
def Zb4{wo p:Addr}(T:qC K X)(q:∃T s A M i q c,WJ0 X H T s A M/\A.wo=wo/\W7 X.C H T s i q c/\q.1=p/\Q (.bl (decide (c.tone=M.sw.sense))) H):Ab K ⟨n,Q,bk,ct⟩ [some (.ref wo),some (.ref p)] H:=by
 obtain⟨Tg,s,A,M,i,r,c,j,rfl,⟨t1,t2,⟨dx,o1⟩,o2⟩,rfl,q⟩:=q;obtain⟨b,ow⟩:=j.jb.ow;obtain⟨a,os⟩:=j.js.os;unfold Ab;walk_at"e";refine aH o1 T.c.di T.c.mL WK ?_;walk_at"e";refine aH ow T.cW T.SQ bw ?_;walk_at"e";refine aH os T.cS T.n1 nJ ?_;walk_at"e";exact q
end
def Zy6{y:Int}:Builtin.bitAnd y 1=y % 2:=by
 unfold Builtin.bitAnd
 by_cases h:0<=y
 ·rw[decide_eq_true h,decide_eq_true (show(0:Int)<=1 by decide)];show((y.toNat &&& 1:Nat):Int)=_;rw[Nat.and_one_is_mod];omega
 ·rw[decide_eq_false h,decide_eq_true (show(0:Int)<=1 by decide)];show(1:Int) - ((1 &&& (Builtin.bitNot y).toNat:Nat):Int)=_;rw[Nat.and_comm,Nat.and_one_is_mod];unfold Builtin.bitNot;omega
section
variable {K:aB}{X:Cs}{H:Hp}{Q:VK}{E:XK}{n:St->Hp->Prop}{bk ct:St->Hp->Prop}{CE CF CN:Addr}
def Zab{wo:Addr}{h:Int}(T:qC K X)(q:∃T s A M k,WJ X H T s A M/\A.wo=wo/\h=((k:Nat):Int)/\Q (.bl (dR M k)) H):Aa K ⟨n,Q,bk,ct⟩ [some (.ref wo),some (.int h)] H:=by
 obtain⟨Tg,s,A,M,k,j,rfl,rfl,q⟩:=q;obtain⟨a,ow⟩:=j.jb.ow;obtain⟨b,os⟩:=j.js.os;unfold Aa;walk_at"e";refine aH ow T.cW T.SQ bw ?_;walk_at"e";refine aH os T.cS T.n4 iJ ?_;walk_at"e";rw[Zy6,Int.toNat_natCast];exact q
def Ra{wo:Addr}{v:V}(T:qC K X)(q:∃T s A M,WJ X H T s A M/\A.wo=wo/\(0<=M.tells/\M.tells<4)/\∀l,H l=none->Q (.ref l) (upd H l (.lst (if old? M=true then [v]else [])))):
  vz K ⟨n,Q,bk,ct⟩ [some (.ref wo),some v] H:=by
 obtain⟨Tg,s,A,M,j,rfl,a,q⟩:=q;obtain⟨d,ow⟩:=j.jb.ow;obtain⟨c,ok⟩:=j.jb.ok;obtain⟨b,_⟩:=ZAe a;unfold vz;walk_at"e";refine aH ow T.cW T.nWk mF ?_;walk_at"e";refine aH ok T.cK T.nKt Er ?_;walk_at"e";rw[b];refine wD (λz=>?_) (λz=>?_)
 ·walk_at"e";refine⟨aU (by simp),λl hl=>?_⟩;have:=q l hl;rw[if_neg (by unfold old?;rw[decide_eq_true_iff];omega)]at this;exact this
 ·walk_at"e";refine⟨aU (by simp),λl hl=>?_⟩;have:=q l hl;rw[if_pos (by unfold old?;rw[decide_eq_true_iff];omega)]at this;exact this
def Rb{wo:Addr}{h:Int}{v:V}(T:qC K X)(q:∃T s A M k,WJ X H T s A M/\A.wo=wo/\(0<=M.tells/\M.tells<4)/\h=((k:Nat):Int)/\∀l,H l=none->Q (.ref l) (upd H l (.lst (if (sV M && !dR M k)=true then [v]else [])))):
  vA K (xr X) ⟨n,Q,bk,ct⟩ [some (.ref wo),some (.int h),some v] H:=by
 obtain⟨Tg,s,A,M,k,j,rfl,b,rfl,q⟩:=q;obtain⟨d,ow⟩:=j.jb.ow;obtain⟨c,ok⟩:=j.jb.ok;obtain⟨_,a⟩:=ZAe b;unfold vA;walk_at"e";refine aH ow T.cW T.nWk mF ?_;walk_at"e";refine aH ok T.cK T.nKt Er ?_;walk_at"e";refine wD (λz=>?_) (λz=>?_)
 ·walk_at"e";refine⟨aU (by simp),λl hl=>?_⟩;have:=q l hl;have e:sV M=false:=by unfold sV;exact decide_eq_false (a.mp z)
  rw[e,Bool.false_and,if_neg (by decide)]at this;exact this
 ·have e:sV M=true:=by unfold sV;exact decide_eq_true (Decidable.not_not.mp λw=>z (a.mpr w))
  rw[e,Bool.true_and]at q;walk_at"e";refine⟨_,_,rfl,Tg,s,A,M,k,j,rfl,rfl,?_⟩;cases hl:dR M k with
  | true=>
   rw[hl]at q;walk_at"e";refine⟨aU (by simp),λl hl=>?_⟩;exact q l hl
  | false=>
   rw[hl]at q;walk_at"e";refine⟨aU (by simp),λl hl=>?_⟩;exact q l hl
def Zj6{wo:Addr}{h t:Int}(T:qC K X)(q:∃T s A M hn tn,WJ X H T s A M/\A.wo=wo/\h=((hn:Nat):Int)/\t=((tn:Nat):Int)/\Ck M hn tn/\
 (cO M (aW M hn tn)=none->E (.ref CE) none H)/\
 (∀i c p,aW M hn tn=some i->0<=i->cellAt M i=some c->A.cs[i.toNat]? =some (some p)->W7 X.C H T s i.toNat p c->Q (.ref p.1) H)):
  HJ K CE (dZ X.H) (bZ X) E ⟨n,Q,bk,ct⟩ [some (.ref wo),some (.int h),some (.int t),none] H:=by
 obtain⟨Tg,s,A,M,hn,tn,j,rfl,rfl,rfl,ok,k,l⟩:=q;obtain⟨r,ow⟩:=j.jb.ow;obtain⟨p,m,hp,hm,hs,hl,⟨t1,t2,o1,o2⟩⟩:=j.handOf ok;unfold HJ;walk_at"e";refine aH ow T.cW T.Ow bD ?_;walk_at"e";refine⟨_,_,rfl,Tg,s,A,M,hn,p,j,rfl,rfl,hp,?_⟩;walk_at"e";refine iw (cj.of o2) (iI (v:=oV (aW M hn tn)) (by rw[cA,hs];rfl)) ?_;walk_at"e";refine⟨_,_,rfl,zj _,_,_,_,_,_,j.hpO,?_⟩;rcases j.look (aW M hn tn)with ⟨f,b⟩ | ⟨i,c,g,e,o,d,_,a,b,ce⟩
 ·rw[b];walk_at"e";exact⟨by decide,k f⟩
 ·rw[b];walk_at"e";exact l i c g e o d a ce
def Zb7{wo:Addr}{h t f:Int}(T:qC K X)(q:∃T s A M hn tn fn,WJ X H T s A M/\A.wo=wo/\h=((hn:Nat):Int)/\t=((tn:Nat):Int)/\f=((fn:Nat):Int)/\Ck M hn tn/\
 (cO M (aW M hn tn)=none->E (.ref CE) none H)/\
 (∀i c,aW M hn tn=some i->0<=i->cellAt M i=some c->c.fl[fn]? =none->E (.ref CF) none H)/\
 (∀i c p,aW M hn tn=some i->0<=i->cellAt M i=some c->A.cs[i.toNat]? =some (some p)->W7 X.C H T s i.toNat p c->fn<c.fl.length->Q (.ref p.2) H)):
  Ac K X.C CF (xu X) (j9 X CE) E ⟨n,Q,bk,ct⟩ [some (.ref wo),some (.int h),some (.int t),some (.int f),none] H:=by
 obtain⟨Tg,s,A,M,hn,tn,fn,j,rfl,rfl,rfl,rfl,ok,g,e,k⟩:=q;unfold Ac;walk_at"e";refine⟨_,_,_,rfl,Tg,s,A,M,hn,tn,j,rfl,rfl,rfl,ok,g,λi c p b d a hp ce=>?_⟩;obtain⟨t1,t2,⟨dx,o1⟩,o2⟩:=id ce;walk_at"e";refine⟨p.1,dx,_,rfl,o1,Ib,?_⟩;walk_at"e";refine⟨_,_,rfl,Tg,s,_,p,c,ce,rfl,?_⟩
 by_cases z:fn<c.fl.length
 ·rw[show(decide ((0:Int)<=(fn:Int)) && decide ((fn:Int)<c.fl.length))=true from by simp;omega];walk_at"e";refine aH o1 T.c.di T.c.eX lJ ?_;exact k i c p b d a hp ce z
 ·rw[show(decide ((0:Int)<=(fn:Int)) && decide ((fn:Int)<c.fl.length))=false from by simp;omega];walk_at"e";exact⟨by decide,e i c b d a (List.getElem?_eq_none_iff.mpr (by omega))⟩
def Zu5{wo:Addr}{pl b:Int}(T:qC K X)(q:∃T s A M,WJ0 X H T s A M/\A.wo=wo/\Q (.bl (um M pl b)) H):Zy K (dZ X.H) (cL X) ⟨n,Q,bk,ct⟩ [some (.ref wo),some (.int pl),some (.int b),none] H:=by
 obtain⟨Tg,s,A,M,j,rfl,q⟩:=q;obtain⟨h,ow⟩:=j.jb.ow;obtain⟨g,os⟩:=j.js.os;unfold Zy;walk_at"e";refine aH ow T.cW T.Ow bD ?_;walk_at"e";refine⟨_,_,rfl,zj (some pl),_,_,_,_,_,j.hpO,?_⟩;unfold um at q;rcases j.look (some pl)with ⟨e,a⟩ | ⟨i,c,p,f,k,d,_,hp,a,ce⟩
 ·rw[show atO (A.cs.map pV) (.int pl)=.non from a];rw[show cellAt M pl=none from e]at q;walk_at"e";exact q
 ·cases f;rw[show atO (A.cs.map pV) (.int pl)=.ref p.1 from a];rw[d]at q;dsimp only at q;obtain⟨t1,t2,⟨dx,o1⟩,o2⟩:=id ce;walk_at"e";refine aH o1 T.c.di T.c.dX gR ?_;walk_at"e";refine HY (λz=>?_) (λz=>?_)
  ·rw[if_neg z]at q;walk_at"e";exact q
  ·rw[if_pos z]at q;walk_at"e";refine aH ow T.cW T.SQ bw ?_;walk_at"e";refine aH os T.cS T.n2 fO ?_;walk_at"e";refine wD (λy=>?_) (λy=>?_)
   ·walk_at"e";refine⟨_,_,rfl,Tg,s,A,M,_,p,c,j,rfl,ce,rfl,?_⟩;walk_at"e";have:decide (M.sw.phase="give"/\c.tone≠M.sw.sense)=!decide (c.tone=M.sw.sense):=by simp[y]
    rw[this]at q;exact q
   ·have:decide (M.sw.phase="give"/\c.tone≠M.sw.sense)=false:=decide_eq_false λw=>y w.1;rw[this]at q;exact q
def Zt1{wo:Addr}{pl:V}(T:qC K X)(q:∃x,pl=oV x/\∃T s A M,WT H T/\s≠0/\WJ X H T s A M/\A.wo=wo/\(M.sw.phase="walk"->M.sw.grey.length<=20000)/\
 ∀H',jw s H H' T T->WJ X H' T s A (cg M x).2->Q (oV (cg M x).1) H'):Zw K (dZ X.H) (cL X) ⟨n,Q,bk,ct⟩ [some (.ref wo),some pl,none,none] H:=by
 obtain⟨x,rfl,Tg,s,A,M,w,v,j,rfl,D,q⟩:=q;obtain⟨S,ow⟩:=j.jb.ow;obtain⟨P,os⟩:=j.js.os;unfold Zw;walk_at"e";refine aH ow T.cW T.SQ bw ?_;walk_at"e";refine aH ow T.cW T.Ow bD ?_;walk_at"e";refine⟨_,_,rfl,zj x,_,_,_,_,_,j.hpO,?_⟩;walk_at"e";refine aH os T.cS T.n2 fO ?_;walk_at"e";have stay:cg M x=(none,M)->Q .non H:=λe=>by
  have:=q H (jw.refl w);rw[e]at this;exact this j
 refine HY (λz=>?_) (λz=>?_)
 ·walk_at"e";exact stay (Zhr z x)
 ·rcases j.look x with ⟨F,r⟩ | ⟨i,c,p,rfl,U,t,hc,hp,r,ce⟩
  ·rw[r];walk_at"e";refine stay ?_;cases x with
   | none=>rfl
   | some i=>unfold cg;dsimp only;rw[show cellAt M i=none from F]
  ·rw[r];obtain⟨t1,t2,⟨dx,o1⟩,o2⟩:=id ce;walk_at"e";refine⟨_,_,rfl,Tg,s,A,M,_,p,c,j.w0,rfl,ce,rfl,?_⟩
   by_cases y:c.tone=M.sw.sense
   ·rw[decide_eq_true y];walk_at"e";refine stay ?_;unfold cg;dsimp only;rw[t];dsimp only;rw[if_neg λw=>w.2 y]
   ·rw[decide_eq_false y];have N:cg M (some i)=(some c.birth,{ setCell M i { c with tone:=M.sw.sense }with sw:={ M.sw with grey:=M.sw.grey++[i] } }):=by
     unfold cg;dsimp only;rw[t];dsimp only;rw[if_pos ⟨z,y⟩]
    rw[N]at q;walk_at"e";refine aH os T.cS T.n1 nJ ?_;walk_at"e";refine⟨p.1,X.C,dx,_,rfl,o1,T.c.di,T.c.mL,by show 5<1000;decide,?_⟩;rw[Uj];obtain⟨a,b⟩:=j.cell w v (dx:=dx) (tone:=M.sw.sense) (load:=c.load) hp ce;generalize upd H p.1 (.ins X.C dx (nY c.birth c.bulk M.sw.sense c.load p.2))=u at a b ⊢;obtain⟨R,o⟩:=b.js.os;obtain⟨W,h,B⟩:=b.jc.at (i:=i.toNat) (c:={ c with tone:=M.sw.sense,load:=c.load }) (by rw[List.getElem?_set_self (dH hc).1]);rw[hp]at h;cases h;walk_at"e";refine aH o T.cS T.n3 jj ?_;walk_at"e";have k:=D z;refine⟨.inl ⟨rfl,_,cj.of b.js.og⟩,?_⟩;walk_at"e";refine⟨_,_,_,rfl,rfl,b.js.og,?_,?_⟩
    ·rw[aX];exact Nat.lt_of_le_of_lt k (by decide)
    obtain⟨d,m⟩:=b.Zv4 a.wt v (g:=M.sw.grey++[i]);have E:(M.sw.grey.map V.int++[V.int i])=(M.sw.grey++[i]).map V.int:=by rw[List.map_append];rfl
    show bG _ _ _ (upd u A.gr (.lst (M.sw.grey.map V.int++[oV (some i)])));rw[show(M.sw.grey.map V.int++[oV (some i)])=(M.sw.grey++[i]).map V.int from E];generalize upd u A.gr (.lst ((M.sw.grey++[i]).map V.int))=I at d m ⊢;obtain⟨O,f,l⟩:=m.jc.at (i:=i.toNat) (c:={ c with tone:=M.sw.sense,load:=c.load }) (by show(M.cells.set _ _)[_]? =_;rw[List.getElem?_set_self (dH hc).1]);rw[hp]at f;cases f;obtain⟨_,_,⟨L,J⟩,_⟩:=l;walk_at"e";refine aH J T.c.di T.c.dX gR ?_;exact q I (a.trans d) m
def Zwg{Tg:Tg}{z:Str}:∀{ns:List Addr}{names:List (Str×(Int×Int))},Al (NmO H Tg) ns names->(zy names z=none/\nZ (Cg names ns) (Sum.inr z)=none)\/∃p b t,zy names z=some (p,b)/\nZ (Cg names ns) (Sum.inr z)=some (.ref t)/\H t=some (.tup [.int p,.int b])/\Tg t=(0,0):=by
 intro ns names h
 induction h with
 | nil=>exact .inl ⟨rfl,rfl⟩
 | @cons t m ns names h1 _ a=>
  by_cases e:m.1=z
  ·refine .inr ⟨m.2.1,m.2.2,t,?_,?_,h1.2,h1.1⟩
   ·unfold zy;rw[List.find?_cons_of_pos (by simpa using e)];rfl
   ·show(List.find? _ ((Sum.inr m.1,V.ref t)::Cg names ns)).map _=_;rw[List.find?_cons_of_pos (by simpa using e)];rfl
  ·have g:zy (m::names) z=zy names z:=by unfold zy;rw[List.find?_cons_of_neg (by simpa using e)]
   have v:nZ (Cg (m::names) (t::ns)) (Sum.inr z)=nZ (Cg names ns) (Sum.inr z):=by
    show(List.find? _ ((Sum.inr m.1,V.ref t)::Cg names ns)).map _=_;rw[List.find?_cons_of_neg (by simpa using e)];rfl
   rw[g,v];exact a
def RX{wo:Addr}{z:Str}(T:qC K X)(q:∃T s A M,WJ X H T s A M/\A.wo=wo/\(zy M.names z=none->E (.ref CN) none H)/\(∀p b,zy M.names z=some (p,b)->Q (if um M p b=true then .non else .int p) H)):
  vB K CN (Ih X) E ⟨n,Q,bk,ct⟩ [some (.ref wo),some (.str z),none,none] H:=by
 obtain⟨Tg,s,A,M,j,rfl,f,g⟩:=q;obtain⟨h,ow⟩:=j.jb.ow;obtain⟨tm,om,nms⟩:=j.jn;unfold vB;walk_at"e";refine aH ow T.cW T.nWn nF ?_;refine⟨_,_,rfl,Zqz om,?_⟩;rcases Zwg (z:=z) nms with ⟨c,a⟩ | ⟨p,b,t,c,a,e,_⟩
 ·rw[a];walk_at"e";exact⟨by decide,f c⟩
 ·rw[a,show(!(some (V.ref t)).isSome)=false from rfl];walk_at"e";refine aH ow T.cW T.nWn nF ?_;walk_at"e";refine⟨_,_,rfl,by have:=Zqz (z:=z) om;rw[a]at this;exact this,?_⟩;walk_at"e";refine⟨t,_,0,_,rfl,rfl,fZ.of e,rfl,?_⟩;walk_at"e";refine aH ow T.cW T.nWn nF ?_;walk_at"e";refine⟨_,_,rfl,by have:=Zqz (z:=z) om;rw[a]at this;exact this,?_⟩;walk_at"e";refine⟨t,_,1,_,rfl,rfl,fZ.of e,rfl,?_⟩;walk_at"e";refine⟨_,_,_,rfl,Tg,s,A,M,j.w0,rfl,?_⟩;have:=g p b c;cases d:um M p b with
  | true=>
   rw[d]at this;walk_at"e";exact this
  | false=>
   rw[d]at this;walk_at"e";exact this
def jw.new{s:Nat}{H a:Hp}{T c:Tg}{l:Addr}{o d:HO}(e:jw s H a T c)(hl:H l=none)(hx:a l=some d):jw s H (upd a l o) T c where
 kp:=λb u h z=>by rw[aC (aD h hl)];exact e.kp b u h z
 al:=λb u h=>by rw[aC (aD h hl)];exact e.al b u h
 tg:=e.tg
 wt:=λb h=>e.wt b (by
  by_cases z:b=l
  ·rw[z,aq]at h;cases h
  ·rw[aC z]at h;exact h)
def jw.fresh{s:Nat}{H:Hp}{T:Tg}{l:Addr}{o:HO}{v:Nat×Nat}(w:WT H T)(hl:H l=none):jw s H (upd H l o) T (kJ T l v) where
 kp:=λb u h z=>by rw[aC (aD h hl)];exact h
 al:=λb u h=>⟨u,by rw[aC (aD h hl)];exact h⟩
 tg:=λb u h=>mC (aD h hl)
 wt:=λb h=>by
  by_cases z:b=l
  ·rw[z,aq]at h;cases h
  ·rw[aC z]at h;rw[mC z];exact w b h
def Zhs{M:Wm}{x:Option Int}:(cg M x).2.sw.phase=M.sw.phase/\(cg M x).2.sw.grey.length<=M.sw.grey.length+1/\(cg M x).2.tells=M.tells/\(cg M x).2.names=M.names:=by
 cases x with
 | none=>exact⟨rfl,Nat.le_succ _,rfl,rfl⟩
 | some i=>
  unfold cg;dsimp only;cases cellAt M i with
  | none=>exact⟨rfl,Nat.le_succ _,rfl,rfl⟩
  | some c=>
   dsimp only
   by_cases z:M.sw.phase="walk"/\c.tone≠M.sw.sense
   ·rw[if_pos z];exact⟨rfl,by show(M.sw.grey++[i]).length<=_;rw[List.length_append];exact Nat.le_refl _,rfl,rfl⟩
   ·rw[if_neg z];exact⟨rfl,Nat.le_succ _,rfl,rfl⟩
def Ou{M:Wm}{x:Option Int}:(cg M x).2.hands=M.hands:=by
 cases x with
 | none=>rfl
 | some i=>
  unfold cg;dsimp only;cases cellAt M i with
  | none=>rfl
  | some c=>
   dsimp only;split<;>rfl
def Zht{M:Wm}{x:Option Int}{k:Nat}{c:Ce}(h:M.cells[k]? =some (some c)):∃c',(cg M x).2.cells[k]? =some (some c')/\c'.fl=c.fl/\c'.birth=c.birth/\c'.bulk=c.bulk/\c'.load=c.load:=by
 cases x with
 | none=>exact⟨c,h,rfl,rfl,rfl,rfl⟩
 | some i=>
  unfold cg;dsimp only;cases hc:cellAt M i with
  | none=>exact⟨c,h,rfl,rfl,rfl,rfl⟩
  | some d=>
   dsimp only;split
   ·show ∃c',(M.cells.set i.toNat _)[k]? =_/\_
    by_cases z:i.toNat=k
    ·subst z;obtain⟨_,hd⟩:=dm.mp hc;rw[h]at hd;cases hd;exact⟨_,List.getElem?_set_self (dH h).1,rfl,rfl,rfl,rfl⟩
    ·rw[List.getElem?_set_ne z];exact⟨c,h,rfl,rfl,rfl,rfl⟩
   ·exact⟨c,h,rfl,rfl,rfl,rfl⟩
def lX:∀{l:List (Option Int)}{M:Wm}{x:Option Int},aY M (l++[x])=((aY M l).1++ofN (cg (aY M l).2 x).1,(cg (aY M l).2 x).2)
 | [],M,x=>by
  show(ofN (cg M x).1++[],(cg M x).2)=([]++ofN (cg M x).1,(cg M x).2);rw[List.append_nil,List.nil_append]
 | y::l,M,x=>by
  show(ofN (cg M y).1++(aY (cg M y).2 (l++[x])).1,(aY (cg M y).2 (l++[x])).2)=_;rw[lX];show _=((ofN (cg M y).1++(aY (cg M y).2 l).1)++_,_);rw[List.append_assoc];rfl
def wV:∀{l:List (Option Int)}{M:Wm},(aY M l).2.sw.phase=M.sw.phase/\(aY M l).2.sw.grey.length<=M.sw.grey.length+l.length
 | [],M=>⟨rfl,Nat.le_refl _⟩
 | y::l,M=>by
  obtain⟨a,b,_⟩:=Zhs (M:=M) (x:=y);obtain⟨c,d⟩:=wV (l:=l) (M:=(cg M y).2);refine⟨c.trans a,?_⟩;show(aY (cg M y).2 l).2.sw.grey.length<=_;rw[List.length_cons];omega
def Bk:∀{l:List (Option Int)}{M:Wm},(aY M l).1.length<=l.length
 | [],M=>Nat.le_refl _
 | y::l,M=>by
  have:=Bk (l:=l) (M:=(cg M y).2);show(ofN (cg M y).1++(aY (cg M y).2 l).1).length<=_;rw[List.length_append,List.length_cons];have:(ofN (cg M y).1).length<=1:=by cases (cg M y).1<;>simp[ofN]
  omega
def Zdf{wo pl:Addr}(T:qC K X)(q:∃xs T s A M,WT H T/\s≠0/\WJ X H T s A M/\A.wo=wo/\PlO H T A M pl xs/\xs.length<=100/\(M.sw.phase="walk"->M.sw.grey.length<=10000)/\
 ∀H' T' l,jw s H H' T T'->WJ X H' T' s A (aY M xs).2->H' l=some (.lst ((aY M xs).1.map V.int))->H l=none->Q (.ref l) H'):Dr K (Zc5 X) ⟨n,Q,bk,ct⟩ [some (.ref wo),some (.ref pl),none,none,none] H:=by
 obtain⟨xs,Tg,s,A,M,w,W,j,rfl,B,hx,hg,q⟩:=q;have F:=B.get j;unfold Dr;walk_at"e";refine⟨aU (by simp),λl hl=>?_⟩;have f:pl≠l:=aD F hl;have o:jw s H (upd H l (.lst [])) Tg (kJ Tg l (s+1,0)):=jw.fresh w hl;have R:WJ X (upd H l (.lst [])) (kJ Tg l (s+1,0)) s A M:=j.fresh hl;have U:upd H l (.lst []) l=some (.lst []):=aq;have tl:kJ Tg l (s+1,0) l=(s+1,0):=jx;have r:PlO (upd H l (.lst [])) (kJ Tg l (s+1,0)) A M pl xs:=by
  rcases B with ⟨h1,h2⟩ | h
  ·exact .inl ⟨(aC f).trans h1,(mC f).trans h2⟩
  ·exact .inr h
 have C:upd H l (.lst []) pl=some (.lst (xs.map oV)):=(aC f).trans F;generalize upd H l (.lst [])=H1 at o R U C r ⊢;generalize kJ Tg l (s+1,0)=u at o R tl r;walk_at"e";refine⟨pl,rfl,⟨_,cj.of C⟩,forL (xs.map oV) (λi σ t=>∃P O,σ=[some (.ref A.wo),some (.ref pl),some (.ref l),P,O]/\jw s H t Tg u/\WJ X t u s A (aY M (xs.take i)).2/\t l=some (.lst ((aY M (xs.take i)).1.map V.int))/\PlO t u A (aY M (xs.take i)).2 pl xs) ⟨_,_,rfl,o,R,U,r⟩ (λ_ _ _ _ ⟨_,_,_,_,j,_,e⟩=>cj.of (e.get j)) ?_ ?_⟩
 ·rintro i x σ t S ⟨P,O,rfl,d,L,J,D⟩;obtain⟨y,hy,rfl⟩:∃y,xs[i]? =some y/\oV y=x:=by
   rw[cA]at S;obtain⟨y,a,b⟩:=Option.map_eq_some_iff.mp S;exact⟨y,a,b⟩
  have il:=(dH hy).1;have v:xs.take (i+1)=xs.take i++[y]:=by
   rw[List.take_add_one,hy];rfl
  obtain⟨gp,gl⟩:=wV (l:=xs.take i) (M:=M);have nl:=Bk (l:=xs.take i) (M:=M);have tk:(xs.take i).length<=100:=by rw[List.length_take];omega
  walk_at"e";refine⟨_,_,rfl,y,rfl,u,s,A,_,d.wt,W,L,rfl,λz=>?_,λN g Z=>?_⟩
  ·have:=hg (gp.symm.trans z);omega
  have E:N l=some (.lst ((aY M (xs.take i)).1.map V.int)):=g.kp _ _ J (by rw[tl];show s+1≠s;omega);have Y:PlO N u A (cg (aY M (xs.take i)).2 y).2 pl xs:=by
   rcases D with ⟨h1,h2⟩ | ⟨k,p,m,h1,h2,h3,h4⟩ | ⟨k,p,c,h1,h2,h3,h4⟩
   ·exact .inl ⟨g.kp _ _ h1 (by rw[h2];exact λz=>W z.symm),h2⟩
   ·exact .inr (.inl ⟨k,p,m,h1,by rw[Ou];exact h2,h3,h4⟩)
   ·obtain⟨c',e1,e2,_⟩:=Zht (x:=y) h2;exact .inr (.inr ⟨k,p,c',h1,e1,h3,by rw[e2];exact h4⟩)
  have I:=d.trans g;walk_at"e";cases hn:(cg (aY M (xs.take i)).2 y).1 with
  | none=>
   dsimp only[oV];walk_at"e";refine⟨_,_,rfl,I,?_,?_,by rw[v,lX];exact Y⟩
   ·rw[v,lX];exact Z
   ·rw[v,lX];show N l=some (.lst (((aY M (xs.take i)).1++ofN (cg (aY M (xs.take i)).2 y).1).map V.int));rw[hn];show N l=some (.lst (((aY M (xs.take i)).1++[]).map V.int));rw[List.append_nil];exact E
  | some b=>
   dsimp only[oV];walk_at"e";refine⟨.inl ⟨rfl,_,cj.of E⟩,?_⟩;walk_at"e";refine⟨_,_,_,rfl,rfl,E,?_,?_⟩
   ·rw[aX];exact Nat.lt_of_le_of_lt (show _<=100 by omega) (by decide)
   walk_at"e";refine⟨_,_,rfl,jw.new I hl E,?_,?_,?_⟩
   ·rw[v,lX];exact Z.other (s':=s+1) (jw.upd g.wt E (by rw[tl])) (by omega) (by omega)
   ·rw[v,lX,aq];show some (HO.lst _)=some (HO.lst (((aY M (xs.take i)).1++ofN (cg (aY M (xs.take i)).2 y).1).map V.int));rw[hn,List.map_append];rfl
   ·rw[v,lX];rcases Y with ⟨h1,h2⟩ | h
    ·exact .inl ⟨by rw[aC f];exact h1,h2⟩
    ·exact .inr h
 ·rintro σ t ⟨P,O,rfl,d,L,J,D⟩;walk_at"e";rw[show(xs.map oV).length=xs.length from aX _,List.take_length]at L J;exact q t u l d L J hl
end
def rN{M:Wm}{h k:Nat}{x:Option Int}{m:Str×List (Option Int)}(hm:M.hands[h]? =some m):{ M with hands:=M.hands.set h (m.1,m.2.set k x) }=setSlot M h k x:=by
 have e:=U7 (k:=k) (x:=x) hm;show _={ M with hands:=_ };rw[show(M.hands.modify h λm=>(m.1,m.2.set k x))=M.hands.set h (m.1,m.2.set k x)from e]
def Ng(d:pI):Prop:=∃h s many bulk,d=.make h s many bulk
def XR(d:pI):Prop:=∃h s t f,d=.get h s t f
def XN(d:pI):Prop:=∃h t f s,d=.put h t f s
def Nm(d:pI):Prop:=∃h s t,d=.copy h s t
def Nk(d:pI):Prop:=∃h s,d=.drop h s
def Nj(d:pI):Prop:=∃h s g t,d=.give h s g t
def FQ(d:pI):Prop:=∃h t load,d=.write h t load
def Nf(d:pI):Prop:=∃h t,d=.read h t
def isName(d:pI):Prop:=∃h t word,d=.name h t word
def Nb(d:pI):Prop:=∃h s word,d=.seek h s word
abbrev Fl(X:Cs)(rf:Rf->Addr)(P:pI->Prop)(wo dd:Addr)(H:Hp)(Q:VK)(E:XK):Prop:=∃T s A M d,P d/\WT H T/\s≠0/\WJ X H T s A M/\A.wo=wo/\H dd=some (.tup (dV d))/\okD M d/\M.cells.length<=900/\(M.sw.phase="walk"->M.sw.grey.length<=10000)/\(0<=M.tells/\M.tells<4)/\M.names.length<=1000/\
 (∀r,yV M d=.error r->∀H',aV H H'->E (.ref (rf r)) none H')/\
 (∀e M',yV M d=.ok (e,M')->∀H' T' A' a,jw s H H' T T'->WJ X H' T' s A' M'->A'.wo=wo->EvN H H' a e->Q (.ref a) H')
section
variable {X:Cs}{H Hx:Hp}{T Tx:Tg}{s:Nat}{A Ax:Wa}{M M':Wm}{d:pI}{e:Ev}{wo:Addr}{Q:VK}
def jw.free{s:Nat}{H Hx:Hp}{T Tx:Tg}{l:Addr}(e:jw s H Hx T Tx)(h:Hx l=none):H l=none:=by
 cases z:H l with
 | none=>rfl
 | some o=>obtain⟨b,a⟩:=e.al l o z;rw[h]at a;cases a
def ev0(h:∀e M',yV M d=.ok (e,M')->∀H' T' c a,jw s H H' T T'->WJ X H' T' s c M'->c.wo=wo->EvN H H' a e->Q (.ref a) H')(i:yV M d=.ok (e,M'))(hn:e.notes=[])(st:jw s H Hx T Tx)(j:WJ X Hx Tx s Ax M')(k:Ax.wo=wo){l a:Addr}(hl:Hx l=none)(m:upd Hx l (.lst []) a=none):
  Q (.ref a) (upd (upd Hx l (.lst [])) a (.tup [.str e.word,oV e.thing,.ref l])):=by
 have g:=aL hl (.lst []);have b:=aL m (.tup [.str e.word,oV e.thing,.ref l]);have f:=g.trans b;refine h e M' i _ Tx Ax a (st.trans (jw.same st.wt f)) (j.same f) k ⟨l,jw.free st hl,aq,?_⟩;rw[hn];exact b _ _ aq
def ev1{l a:Addr}(c:H l=none)(g:∀e M',yV M d=.ok (e,M')->∀H' T' f a,jw s H H' T T'->WJ X H' T' s f M'->f.wo=wo->EvN H H' a e->Q (.ref a) H')(h:yV M d=.ok (e,M'))(st:jw s H Hx T Tx)(j:WJ X Hx Tx s Ax M')(i:Ax.wo=wo)(hl:Hx l=some (.lst (e.notes.map V.int)))(k:Hx a=none):
  Q (.ref a) (upd Hx a (.tup [.str e.word,oV e.thing,.ref l])):=by
 have b:=aL k (.tup [.str e.word,oV e.thing,.ref l]);exact g e M' h _ Tx Ax a (st.trans (jw.same st.wt b)) (j.same b) i ⟨l,c,aq,b _ _ hl⟩
end
def Om{M:Wm}{i:Int}{c c':Ce}(h:cellAt M i=some c)(hb:c'.birth=c.birth)(x:Option Int):vV (setCell M i c') x=vV M x:=by
 cases x with
 | none=>rfl
 | some y=>
  obtain⟨a,h1⟩:=dm.mp h;show(cellAt (setCell M i c') y).map _=(cellAt M y).map _
  by_cases e:y=i
  ·subst e;rw[h,show cellAt (setCell M y c') y=some c' from dm.mpr ⟨a,by show(M.cells.set _ _)[_]? =_;rw[List.getElem?_set_self (dH h1).1]⟩];show some c'.birth=some c.birth;rw[hb]
  ·have:cellAt (setCell M i c') y=cellAt M y:=by
    unfold cellAt setCell
    by_cases z:0<=y
    ·rw[if_pos z,if_pos z];show((M.cells.set _ _)[_]?).join=_;rw[List.getElem?_set_ne (by omega)]
    ·rw[if_neg z,if_neg z]
   rw[this]
def Zlh{M:Wm}{y:Option Int}(x:Option Int):vV (cg M y).2 x=vV M x:=by
 cases y with
 | none=>rfl
 | some i=>
  unfold cg;dsimp only;cases hc:cellAt M i with
  | none=>rfl
  | some c=>
   dsimp only
   by_cases z:M.sw.phase="walk"/\c.tone≠M.sw.sense
   ·rw[if_pos z];have e:=Om (M:=M) (i:=i) (c:=c) (c':={ c with tone:=M.sw.sense }) hc rfl x;cases x with
    | none=>rfl
    | some y=>exact e
   ·rw[if_neg z]
def Bl:∀{l:List (Option Int)}{M:Wm} (x:Option Int),vV (aY M l).2 x=vV M x
 | [],_,_=>rfl
 | y::l,M,x=>(Bl (l:=l) (M:=(cg M y).2) x).trans (Zlh x)
def Zpt{b:Bool}{x:Option Int}:(if b=true then [oV x]else [])=(if b=true then [x]else []).map oV:=by cases b<;>rfl
section
variable {K:aB}{X:Cs}{H:Hp}{Q:VK}{E:XK}{n:St->Hp->Prop}{bk ct:St->Hp->Prop}{rf:Rf->Addr}
def Zj2{wo dd:Addr}(T:qC K X)(q:Fl X rf Nm wo dd H Q E):HH K (cJ X) (bZ X) ⟨n,Q,bk,ct⟩ [some (.ref wo),some (.ref dd),none,none] H:=by
 obtain⟨Tg,s,A,M,_,⟨h,sl,t,rfl⟩,w,g,j,rfl,od,⟨o1,o2⟩,hc,u,r,hn,z,i⟩:=q;obtain⟨p,m,hp,hm,hs,hl,hd⟩:=j.handOf o2;obtain⟨C,c,_,f⟩:=Zde o1;rw[hm]at c;cases c;unfold HH;walk_at"e";refine⟨dd,_,1,_,rfl,rfl,fZ.of od,rfl,?_⟩;walk_at"e";refine⟨_,_,rfl,Tg,s,A,M,h,p,j,rfl,rfl,hp,?_⟩;walk_at"e";refine⟨dd,_,3,_,rfl,rfl,fZ.of od,rfl,?_⟩;refine iw (cj.of hd.o2) (iI (v:=oV (aW M h t)) (by rw[cA,hs];rfl)) ?_;walk_at"e";refine⟨dd,_,2,_,rfl,rfl,fZ.of od,rfl,?_⟩;refine⟨p.2,_,_,sl,rfl,rfl,hd.o2,tY (by rw[aX];exact f),?_⟩;obtain⟨b,e⟩:=j.slot w g (k:=sl) (x:=aW M h t) hp hm;rw[rN hm]at e;generalize upd H p.2 (.lst ((m.2.map oV).set sl (oV (aW M h t))))=y at b e ⊢;obtain⟨B,ow⟩:=e.jb.ow;walk_at"e";refine aH ow T.cW T.Ow bD ?_;walk_at"e";refine⟨_,_,rfl,aW M h t,rfl,Tg,s,A,_,e,rfl,?_⟩;rw[qx];walk_at"e";refine⟨aU (by simp),λl hl=>⟨aU (by simp),λa o=>?_⟩⟩;exact ev0 i (d:=.copy h sl t) rfl rfl b e rfl hl o
def Zj1{wo dd:Addr}(T:qC K X)(q:Fl X rf Nk wo dd H Q E):HF K (cJ X) (bZ X) ⟨n,Q,bk,ct⟩ [some (.ref wo),some (.ref dd),none,none] H:=by
 obtain⟨Tg,s,A,M,_,⟨h,sl,rfl⟩,w,e,j,rfl,od,o1,hc,o,i,hn,t,f⟩:=q;obtain⟨p,m,hp,hm,hs,hl,hd⟩:=j.handOf o1;unfold HF;walk_at"e";refine⟨dd,_,1,_,rfl,rfl,fZ.of od,rfl,?_⟩;walk_at"e";refine⟨_,_,rfl,Tg,s,A,M,h,p,j,rfl,rfl,hp,?_⟩;walk_at"e";refine⟨dd,_,2,_,rfl,rfl,fZ.of od,rfl,?_⟩;refine iw (cj.of hd.o2) (iI (v:=oV (aW M h sl)) (by rw[cA,hs];rfl)) ?_;walk_at"e";refine⟨dd,_,2,_,rfl,rfl,fZ.of od,rfl,?_⟩;refine⟨p.2,_,_,sl,rfl,rfl,hd.o2,tY (by rw[aX];exact hl),?_⟩;obtain⟨b,c⟩:=j.slot w e (k:=sl) (x:=none) hp hm;rw[rN hm]at c;show bG _ _ _ (upd H p.2 (.lst ((m.2.map oV).set sl (oV none))));generalize upd H p.2 (.lst ((m.2.map oV).set sl (oV none)))=r at b c ⊢;obtain⟨u,ow⟩:=c.jb.ow;walk_at"e";refine aH ow T.cW T.Ow bD ?_;walk_at"e";refine⟨_,_,rfl,aW M h sl,rfl,Tg,s,A,_,c,rfl,?_⟩;rw[qx];walk_at"e";refine⟨aU (by simp),λl hl=>⟨aU (by simp),λa g=>?_⟩⟩;exact ev0 f (d:=.drop h sl) rfl rfl b c rfl hl g
def Zj0{wo dd:Addr}(T:qC K X)(q:Fl X rf Nj wo dd H Q E):HD K (cJ X) (fD X) (bZ X) (qi X) ⟨n,Q,bk,ct⟩ [some (.ref wo),some (.ref dd),none,none,none,none] H:=by
 obtain⟨Tg,s,A,M,_,⟨h,sl,g,t,rfl⟩,w,C,j,rfl,od,⟨o1,o2⟩,hc,J,D,hn,Y,R⟩:=q;obtain⟨p,m,hp,hm,hs,hl,hd⟩:=j.handOf o1;obtain⟨u,S,c,f,P,o,r⟩:=j.handOf o2;unfold HD;walk_at"e";refine⟨dd,_,1,_,rfl,rfl,fZ.of od,rfl,?_⟩;walk_at"e";refine⟨dd,_,3,_,rfl,rfl,fZ.of od,rfl,?_⟩;walk_at"e";refine⟨_,_,rfl,Tg,s,A,M,h,p,j,rfl,rfl,hp,?_⟩;walk_at"e";refine⟨dd,_,2,_,rfl,rfl,fZ.of od,rfl,?_⟩;refine iw (cj.of hd.o2) (iI (v:=oV (aW M h sl)) (by rw[cA,hs];rfl)) ?_;walk_at"e";refine⟨_,_,rfl,Tg,s,A,M,g,u,j,rfl,rfl,c,?_⟩;walk_at"e";refine⟨dd,_,4,_,rfl,rfl,fZ.of od,rfl,?_⟩;refine⟨u.2,_,_,t,rfl,rfl,r.o2,tY (by rw[aX];exact o),?_⟩;obtain⟨b,l⟩:=j.slot w C (k:=t) (x:=aW M h sl) c f;rw[rN f]at l;generalize upd H u.2 (.lst ((S.2.map oV).set t (oV (aW M h sl))))=L at b l ⊢;walk_at"e";refine⟨_,_,_,rfl,Tg,s,A,_,h,l,rfl,D,rfl,λN e=>?_⟩;rw[show(sV (setSlot M g t (aW M h sl)) && !dR (setSlot M g t (aW M h sl)) h)=(sV M && !dR M h)from rfl,Zpt];generalize zz:upd L N _=H2;obtain⟨i,F⟩:=nwO e zz;walk_at"e";refine⟨_,_,rfl,_,Tg,s,A,_,b.wt.same i,C,l.same i,rfl,.inl ⟨F,b.wt _ e⟩,by cases (sV M && !dR M h)<;>simp,J,λV O W z B I y=>?_⟩;obtain⟨Z,ow⟩:=B.jb.ow;walk_at"e";refine aH ow T.cW T.Ow bD ?_;walk_at"e";refine⟨_,_,rfl,aW M h sl,rfl,O,s,A,_,B,rfl,?_⟩;rw[Bl,qx];walk_at"e";refine⟨aU (by simp),λa U=>?_⟩;exact ev1 (jw.free b (i.free y)) R (d:=.give h sl g t) rfl (b.trans ((jw.same b.wt i).trans z)) B rfl I U
def Ziz{wo dd S:Addr}(T:qC K X)(hF:rf .full=S)(q:Fl X rf Ng wo dd H Q E):HB K X.H (xx K X.C X.H S) (cJ X) (bZ X) E ⟨n,Q,bk,ct⟩ [some (.ref wo),some (.ref dd),none,none,none,none] H:=by
 obtain⟨Tg,s,A,M,_,⟨h,sl,many,bulk,rfl⟩,w,R,j,rfl,od,⟨o1,m0,m1,b0⟩,hc,hg,ht,hn,hE,hQ⟩:=q;obtain⟨p,m,hp,hm,hs,hl,hd⟩:=j.handOf o1;obtain⟨d1,ow⟩:=j.jb.ow;obtain⟨d2,os⟩:=j.js.os;obtain⟨th,tc,⟨B,oh⟩,oc⟩:=j.jh;have hcs:A.cs.length<=900:=by rw[j.jc.lc];exact hc
 unfold HB;walk_at"e";refine⟨dd,_,1,_,rfl,rfl,fZ.of od,rfl,?_⟩;walk_at"e";refine⟨_,_,rfl,Tg,s,A,M,h,p,j,rfl,rfl,hp,?_⟩;walk_at"e";refine⟨dd,_,3,_,rfl,rfl,fZ.of od,rfl,?_⟩;walk_at"e";refine⟨dd,_,4,_,rfl,rfl,fZ.of od,rfl,?_⟩;walk_at"e";refine aH ow T.cW T.Ow bD ?_;refine⟨A.hp,B,_,rfl,oh,Wh,?_⟩;walk_at"e";refine aH ow T.cW T.SQ bw ?_;walk_at"e";refine aH os T.cS T.n1 nJ ?_;walk_at"e";refine⟨_,_,_,_,rfl,A.ca,B,_,_,_,_,oh,oc,?_,by rw[aX];omega,m0,m1,λhf H' sm=>?_,λhf U fa L I v Y a1 a2 co=>?_⟩
 ·intro y hy;obtain⟨o,ho,rfl⟩:=List.mem_map.mp hy;cases o with
  | none=>exact .inl rfl
  | some g=>
   obtain⟨i,D,N⟩:=List.getElem_of_mem ho;have e:=j.jc.ce i _ _ (bK D) (bK (by rw[<- j.jc.lc];exact D));rw[N]at e;cases u:M.cells[i]'(by rw[<- j.jc.lc];exact D)with
   | none=>rw[u]at e;exact e.elim
   | some c=>
    rw[u]at e;obtain⟨_,_,⟨dx,o1⟩,_⟩:=(show W7 X.C H Tg s i g c from e);exact .inr ⟨g.1,X.C,dx,_,rfl,o1,T.c.di,T.c.QM⟩
 ·rw[<- hF];refine hE .full ?_ H' sm;show(if _ then _ else _)=_;rw[if_neg (by omega)]
 ·obtain⟨⟨dp,Z⟩,P⟩:=co;have J:U≠fa:=qU Z P (λz=>by cases z);obtain⟨T1,t,W⟩:=j.put w R (H':=L) (dx:=B) (used':=M.used+(1+many+bulk)) (p:=U) (fa:=fa) (c:=⟨M.born+1,bulk,M.sw.sense,0,List.replicate many.toNat none⟩)
   (λb o hb n1 n2=>Y b o hb (by simp[n1,n2])) a1 a2 I v J ⟨dp,Z⟩ (by rw[P,List.map_replicate];rfl)
  have N:((A.cs.map pV).idxOf V.non:Int)=(mJ M.cells:Nat):=by rw[(Zej Zok A.cs).1,j.jc.fst]
  walk_at"e";rw[N];refine⟨dd,_,2,_,rfl,rfl,fZ.of (Y _ _ od ?_),rfl,?_⟩
  ·intro z;rcases List.mem_cons.mp z with z | z
   ·rw[z,oh]at od;cases od
   ·rw[List.mem_singleton.mp z,oc]at od;cases od
  have F:=W.jd.hd h p m hp hm;refine⟨p.2,_,_,sl,rfl,rfl,F.o2,tY (by rw[aX];exact hl),?_⟩;obtain⟨f,r⟩:=W.slot t.wt R (k:=sl) (x:=some (mJ M.cells:Nat)) hp hm;rw[rN (M:={ M with used:=M.used+(1+many+bulk),born:=M.born+1,cells:=qz M.cells ⟨M.born+1,bulk,M.sw.sense,0,List.replicate many.toNat none⟩ }) hm]at r;show bG _ _ _ (upd L p.2 (.lst ((m.2.map oV).set sl (oV (some (mJ M.cells:Nat))))));generalize upd L p.2 (.lst ((m.2.map oV).set sl (oV (some (mJ M.cells:Nat)))))=H2 at f r ⊢;obtain⟨d5,O⟩:=r.jb.ow;walk_at"e";refine aH O T.cW T.Ow bD ?_;walk_at"e";refine⟨_,_,rfl,some (mJ M.cells:Nat),rfl,T1,s,_,_,r,rfl,?_⟩;rw[qx];rw[show vV { M with used:=M.used+(1+many+bulk),born:=M.born+1,cells:=qz M.cells ⟨M.born+1,bulk,M.sw.sense,0,List.replicate many.toNat none⟩ } (some (mJ M.cells:Nat))=some (M.born+1)from by
   show(cellAt _ _).map _=_;rw[Zj9];rfl]
  walk_at"e";refine⟨aU (by simp),λl hl=>⟨aU (by simp),λa ha=>?_⟩⟩;exact ev0 hQ (d:=.make h sl many bulk) (Zev (by omega)) rfl (t.trans f) r rfl hl ha
end
def Zmp{M:Wm}{h s t f:Nat}(e:cO M (aW M h t)=none):yV M (.get h s t f)=.error .empty:=by
 show(match aW M h t with | none=>_ | some x=>_)=_;cases hs:aW M h t with
 | none=>rfl
 | some x=>
  rw[hs]at e;show(match cellAt M x with | none=>_ | some c=>_)=_;rw[show cellAt M x=none from e]
def Zmn{M:Wm}{h s t f:Nat}(e:cO M (aW M h t)=none):yV M (.put h t f s)=.error .empty:=by
 show(match aW M h t with | none=>_ | some x=>_)=_;cases hs:aW M h t with
 | none=>rfl
 | some x=>
  rw[hs]at e;show(match cellAt M x with | none=>_ | some c=>_)=_;rw[show cellAt M x=none from e]
def Zew{M:Wm}{h t:Nat}{l:Int}(e:cO M (aW M h t)=none):yV M (.write h t l)=.error .empty:=by
 show(match aW M h t with | none=>_ | some x=>_)=_;cases hs:aW M h t with
 | none=>rfl
 | some x=>
  rw[hs]at e;show(match cellAt M x with | none=>_ | some c=>_)=_;rw[show cellAt M x=none from e]
def Zj4{M:Wm}{h t:Nat}(e:cO M (aW M h t)=none):yV M (.read h t)=.error .empty:=by
 show(match aW M h t with | none=>_ | some x=>_)=_;cases hs:aW M h t with
 | none=>rfl
 | some x=>
  rw[hs]at e;show(match cellAt M x with | none=>_ | some c=>_)=_;rw[show cellAt M x=none from e]
def Zj5{M:Wm}{h t:Nat}{z:Str}(e:cO M (aW M h t)=none):yV M (.name h t z)=.error .empty:=by
 show(match aW M h t with | none=>_ | some x=>_)=_;cases hs:aW M h t with
 | none=>rfl
 | some x=>
  rw[hs]at e;show(match cellAt M x with | none=>_ | some c=>_)=_;rw[show cellAt M x=none from e]
def Zqx{M:Wm}{h s t f:Nat}{i:Int}{c:Ce}(a:aW M h t=some i)(b:cellAt M i=some c)(d:c.fl[f]? =none):yV M (.get h s t f)=.error .tR:=by
 show(match aW M h t with | none=>_ | some x=>_)=_;rw[a];show(match cellAt M i with | none=>_ | some c=>_)=_;rw[b];show(match c.fl[f]? with | none=>_ | some v=>_)=_;rw[d]
def Zqv{M:Wm}{h s t f:Nat}{i:Int}{c:Ce}(a:aW M h t=some i)(b:cellAt M i=some c)(d:c.fl[f]? =none):yV M (.put h t f s)=.error .tR:=by
 show(match aW M h t with | none=>_ | some x=>_)=_;rw[a];show(match cellAt M i with | none=>_ | some c=>_)=_;rw[b];show(match c.fl[f]? with | none=>_ | some v=>_)=_;rw[d]
def Zqw{M:Wm}{h s t f:Nat}{i:Int}{c:Ce}{v:Option Int}(a:aW M h t=some i)(b:cellAt M i=some c)(d:c.fl[f]? =some v):yV M (.get h s t f)=.ok (⟨"got",vV M v,[]⟩,setSlot M h s v):=by
 show(match aW M h t with | none=>_ | some x=>_)=_;rw[a];show(match cellAt M i with | none=>_ | some c=>_)=_;rw[b];show(match c.fl[f]? with | none=>_ | some v=>_)=_;rw[d]
def putL(M:Wm)(h s:Nat)(v:Option Int):List (Option Int):=(if old? M=true then [v]else [])++if (sV M && !dR M h)=true then [aW M h s]else []
def Zqu{M:Wm}{h s t f:Nat}{i:Int}{c:Ce}{v:Option Int}(a:aW M h t=some i)(b:cellAt M i=some c)(d:c.fl[f]? =some v):yV M (.put h t f s)=.ok (⟨"put",vV M v,(aY (setCell M i { c with fl:=c.fl.set f (aW M h s) }) (putL M h s v)).1⟩,(aY (setCell M i { c with fl:=c.fl.set f (aW M h s) }) (putL M h s v)).2):=by
 show(match aW M h t with | none=>_ | some x=>_)=_;rw[a];show(match cellAt M i with | none=>_ | some c=>_)=_;rw[b];show(match c.fl[f]? with | none=>_ | some v=>_)=_;rw[d];rfl
def Zj3{M:Wm}{h t:Nat}{l i:Int}{c:Ce}(a:aW M h t=some i)(b:cellAt M i=some c):yV M (.write h t l)=.ok (⟨"wrote",some c.load,[]⟩,setCell M i { c with load:=l }):=by
 show(match aW M h t with | none=>_ | some x=>_)=_;rw[a];show(match cellAt M i with | none=>_ | some c=>_)=_;rw[b]
def Zmm{M:Wm}{h t:Nat}{i:Int}{c:Ce}(a:aW M h t=some i)(b:cellAt M i=some c):yV M (.read h t)=.ok (⟨"read",some c.load,[]⟩,M):=by
 show(match aW M h t with | none=>_ | some x=>_)=_;rw[a];show(match cellAt M i with | none=>_ | some c=>_)=_;rw[b]
def Zmo{M:Wm}{h t:Nat}{z:Str}{i:Int}{c:Ce}(a:aW M h t=some i)(b:cellAt M i=some c):yV M (.name h t z)=.ok (⟨"named",some c.birth,[]⟩,{ M with names:=wN M.names z (i,c.birth) }):=by
 show(match aW M h t with | none=>_ | some x=>_)=_;rw[a];show(match cellAt M i with | none=>_ | some c=>_)=_;rw[b]
section
variable {X:Cs}{H H':Hp}{T T':Tg}{s:Nat}{A:Wa}{M:Wm}
def Zwf{z:Str}{v:Int×Int}{t:Addr}(c:NmO H T t (z,v)):∀{ns:List Addr}{names:List (Str×(Int×Int))},Al (NmO H T) ns names->(∃b,(Cg names ns).map (λkv=>if kv.1=Sum.inr z then(kv.1,V.ref t)else kv)=Cg (names.map λm=>if m.1=z then(m.1,v)else m) b/\Al (NmO H T) b (names.map λm=>if m.1=z then(m.1,v)else m))/\
  ((Cg names ns).any λkv=>decide (kv.1=Sum.inr z))=(names.any λm=>decide (m.1=z))/\Cg names ns++[(Sum.inr z,V.ref t)]=Cg (names++[(z,v)]) (ns++[t])/\Al (NmO H T) (ns++[t]) (names++[(z,v)]):=by
 intro ns names h
 induction h with
 | nil=>exact⟨⟨[],rfl,.nil⟩,rfl,rfl,.cons c .nil⟩
 | @cons a m ns names h1 _ g=>
  obtain⟨⟨b,d,f⟩,e3,i,j⟩:=g;refine⟨?_,?_,?_,.cons h1 j⟩
  ·by_cases e:m.1=z
   ·refine⟨t::b,?_,?_⟩
    ·show(if (Sum.inr m.1:Int ⊕ Str)=Sum.inr z then _ else _)::_=_;rw[if_pos (by rw[e]),List.map_cons,if_pos e];show _::_=(Sum.inr m.1,V.ref t)::Cg _ b;rw[<- d];rfl
    ·rw[List.map_cons,if_pos e];exact .cons (by rw[e];exact c) f
   ·refine⟨a::b,?_,?_⟩
    ·show(if (Sum.inr m.1:Int ⊕ Str)=Sum.inr z then _ else _)::_=_;rw[if_neg (λw=>e (Sum.inr.inj w)),List.map_cons,if_neg e];show _::_=(Sum.inr m.1,V.ref a)::Cg _ b;rw[<- d];rfl
    ·rw[List.map_cons,if_neg e];exact .cons h1 f
  ·show(decide ((Sum.inr m.1:Int ⊕ Str)=Sum.inr z) || (Cg names ns).any _)=(decide (m.1=z) || names.any _);rw[e3];congr 1
   by_cases e:m.1=z<;>simp[e]
  ·show(Sum.inr m.1,V.ref a)::(Cg names ns++_)=(Sum.inr m.1,V.ref a)::Cg (names++_) (ns++_);rw[i]
def Zov{ns:List Addr}{names:List (Str×(Int×Int))}(h:Al (NmO H T) ns names):(Cg names ns).length=names.length:=by
 induction h with
 | nil=>rfl
 | @cons a m ns names h1 _ b=>show(_::Cg names ns).length=_;rw[List.length_cons,List.length_cons,b]
def WJ.named(j:WJ X H T s A M)(w:WT H T)(k:s≠0){z:Str}{v:Int×Int}{t:Addr}(n:NmO H T t (z,v)):∃a,jw s H (upd H A.nm (.dK (putK (Cg M.names A.ns) (Sum.inr z) (.ref t)))) T T/\
  WJ X (upd H A.nm (.dK (putK (Cg M.names A.ns) (Sum.inr z) (.ref t)))) T s { A with ns:=a } { M with names:=wN M.names z v }:=by
 obtain⟨tm,om,nms⟩:=j.jn;obtain⟨⟨n1,q,C⟩,e3,x,D⟩:=Zwf n nms;have f:yU s (·=6) H (upd H A.nm (.dK (putK (Cg M.names A.ns) (Sum.inr z) (.ref t)))) T T:=yU.Ej tm;have i:∀{ns:List Addr}{names:List (Str×(Int×Int))},Al (NmO H T) ns names->Al (NmO (upd H A.nm (.dK (putK (Cg M.names A.ns) (Sum.inr z) (.ref t)))) T) ns names:=λh=>h.mono λt m ⟨z1,z2⟩=>⟨z1,qg k tm _ _ z2 z1⟩;have go:∀a,putK (Cg M.names A.ns) (Sum.inr z) (.ref t)=Cg (wN M.names z v) a->Al (NmO H T) a (wN M.names z v)->WJ X (upd H A.nm (.dK (putK (Cg M.names A.ns) (Sum.inr z) (.ref t)))) T s { A with ns:=a } { M with names:=wN M.names z v }:=λa o l=>by
  refine⟨?_,?_,⟨tm,by show upd _ A.nm _ A.nm=_;rw[aq,o],i l⟩,?_,j.jd.mv f λ_ _ _=>by omega,j.jc.mv f λ_ _=>by omega⟩
  ·obtain⟨d,c,e,g,r,B,u,p⟩:=j.jb.mv f (qg k tm) (by omega) (by omega);exact⟨d,c,e,g,r,B,u,p⟩
  ·obtain⟨d,c,e,g⟩:=j.jh.mv f (by omega) (by omega);exact⟨d,c,e,g⟩
  ·obtain⟨d,c,e,g⟩:=j.js.mv f (by omega) (by omega);exact⟨d,c,e,g⟩
 by_cases b:(M.names.any λm=>decide (m.1=z))=true
 ·refine⟨n1,jw.upd w om (by rw[tm]),go n1 ?_ ?_⟩
  ·unfold putK wN;rw[if_pos (e3.trans b),if_pos b,q]
  ·unfold wN;rw[if_pos b];exact C
 ·refine⟨A.ns++[t],jw.upd w om (by rw[tm]),go _ ?_ ?_⟩
  ·unfold putK wN;rw[if_neg (λy=>b (e3.symm.trans y)),if_neg b,x]
  ·unfold wN;rw[if_neg b];exact D
end
section
variable {K:aB}{X:Cs}{H:Hp}{Q:VK}{E:XK}{n:St->Hp->Prop}{bk ct:St->Hp->Prop}{rf:Rf->Addr}{CE CF CN:Addr}
def Zml{wo dd:Addr}(T:qC K X)(z:rf .empty=CE)(r:rf .tR=CF)(q:Fl X rf XR wo dd H Q E):Lx K (cJ X) (oO X CE CF) (bZ X) E ⟨n,Q,bk,ct⟩ [some (.ref wo),some (.ref dd),none,none,none,none] H:=by
 obtain⟨Tg,s,A,M,_,⟨h,sl,t,f,rfl⟩,w,C,j,rfl,od,⟨o1,o2⟩,hc,N,L,hn,B,I⟩:=q;obtain⟨p,m,hp,hm,hs,hl,hd⟩:=j.handOf o1;unfold Lx;walk_at"e";refine⟨dd,_,1,_,rfl,rfl,fZ.of od,rfl,?_⟩;walk_at"e";refine⟨dd,_,3,_,rfl,rfl,fZ.of od,rfl,?_⟩;walk_at"e";refine⟨dd,_,4,_,rfl,rfl,fZ.of od,rfl,?_⟩;walk_at"e";refine⟨_,_,_,_,rfl,Tg,s,A,M,h,t,f,j,rfl,rfl,rfl,rfl,o2,λe=>?_,λi c u F o y=>?_,λi c P u F o D ce y=>?_⟩
 ·rw[<- z];exact B .empty (Zmp e) H (aV.refl _)
 ·rw[<- r];exact B .tR (Zqx u o y) H (aV.refl _)
 ·have hv:=bK y;walk_at"e";refine iw (cj.of ce.o2) (iI (v:=oV (c.fl[f])) (by rw[cA,hv];rfl)) ?_;walk_at"e";refine⟨_,_,rfl,Tg,s,A,M,h,p,j,rfl,rfl,hp,?_⟩;walk_at"e";refine⟨dd,_,2,_,rfl,rfl,fZ.of od,rfl,?_⟩;refine⟨p.2,_,_,sl,rfl,rfl,hd.o2,tY (by rw[aX];exact hl),?_⟩;obtain⟨b,g⟩:=j.slot w C (k:=sl) (x:=c.fl[f]) hp hm;rw[rN hm]at g;generalize upd H p.2 (.lst ((m.2.map oV).set sl (oV c.fl[f])))=O at b g ⊢;obtain⟨R,ow⟩:=g.jb.ow;walk_at"e";refine aH ow T.cW T.Ow bD ?_;walk_at"e";refine⟨_,_,rfl,c.fl[f],rfl,Tg,s,A,_,g,rfl,?_⟩;rw[qx];walk_at"e";refine⟨aU (by simp),λl hl=>⟨aU (by simp),λa J=>?_⟩⟩;exact ev0 I (d:=.get h sl t f) (Zqw u o hv) rfl b g rfl hl J
def Zmk{wo dd:Addr}(T:qC K X)(L:rf .empty=CE)(y:rf .tR=CF)(q:Fl X rf XN wo dd H Q E):Lw K (cJ X) (oO X CE CF) (fD X) (bZ X) (qi X) (By X) E ⟨n,Q,bk,ct⟩ [some (.ref wo),some (.ref dd),none,none,none,none,none,none] H:=by
 obtain⟨Tg,s,A,M,_,⟨h,t,f,sl,rfl⟩,w,V,j,rfl,od,⟨o2,o1⟩,hc,hg,R,hn,Y,hQ⟩:=q;obtain⟨p,m,hp,hm,hs,hl,hd⟩:=j.handOf o1;unfold Lw;walk_at"e";refine⟨dd,_,1,_,rfl,rfl,fZ.of od,rfl,?_⟩;walk_at"e";refine⟨dd,_,3,_,rfl,rfl,fZ.of od,rfl,?_⟩;walk_at"e";refine⟨dd,_,2,_,rfl,rfl,fZ.of od,rfl,?_⟩;walk_at"e";refine⟨_,_,_,_,rfl,Tg,s,A,M,h,t,f,j,rfl,rfl,rfl,rfl,o2,λe=>?_,λi c B h0 r u=>?_,λi c W B h0 r J ce u=>?_⟩
 ·rw[<- L];exact Y .empty (Zmn e) H (aV.refl _)
 ·rw[<- y];exact Y .tR (Zqv B r u) H (aV.refl _)
 ·have hv:=bK u;walk_at"e";refine iw (cj.of ce.o2) (iI (v:=oV (c.fl[f])) (by rw[cA,hv];rfl)) ?_;walk_at"e";refine⟨_,_,rfl,Tg,s,A,M,h,p,j,rfl,rfl,hp,?_⟩;walk_at"e";refine⟨dd,_,4,_,rfl,rfl,fZ.of od,rfl,?_⟩;refine iw (cj.of hd.o2) (iI (v:=oV (aW M h sl)) (by rw[cA,hs];rfl)) ?_;walk_at"e";refine⟨W.2,_,_,f,rfl,rfl,ce.o2,tY (by rw[aX];exact u),?_⟩;obtain⟨b,l⟩:=j.field w V (k:=f) (x:=aW M h sl) J ce;have l:WJ X _ Tg s A (setCell M i { c with fl:=c.fl.set f (aW M h sl) }):=l;generalize upd H W.2 (.lst ((c.fl.map oV).set f (oV (aW M h sl))))=H1 at b l ⊢;walk_at"e";refine⟨_,_,rfl,Tg,s,A,_,l,rfl,R,λU D=>?_⟩;rw[show old? (setCell M i { c with fl:=c.fl.set f (aW M h sl) })=old? M from rfl,Zpt];generalize zz:upd H1 U _=H2;obtain⟨I,g1⟩:=nwO D zz;walk_at"e";refine⟨_,_,_,rfl,Tg,s,A,_,h,l.same I,rfl,R,rfl,λZ O=>?_⟩;rw[show(sV (setCell M i { c with fl:=c.fl.set f (aW M h sl) }) && !dR (setCell M i { c with fl:=c.fl.set f (aW M h sl) }) h)=(sV M && !dR M h)from rfl,Zpt];generalize zz:upd H2 Z _=H3;obtain⟨P,g2⟩:=nwO O zz;walk_at"e";refine⟨U,Z,_,_,rfl,rfl,P _ _ g1,g2,?_,λS o=>?_⟩
  ·refine aU ?_;cases old? M<;>cases (sV M && !dR M h)<;>simp
  rw[<- List.map_append];generalize zz:upd H3 S _=H4;obtain⟨s3,z⟩:=nwO o zz;have z:H4 S=some (.lst ((putL M h sl c.fl[f]).map oV)):=z;have g:=I.trans (P.trans s3);walk_at"e";refine⟨_,_,rfl,putL M h sl c.fl[f],Tg,s,A,_,b.wt.same g,V,l.same g,rfl,.inl ⟨z,(b.wt.same (I.trans P)) _ o⟩,?_,hg,λH5 T5 l5 N F g5 C=>?_⟩
  ·unfold putL;cases old? M<;>cases (sV M && !dR M h)<;>simp
  obtain⟨d1,ow⟩:=F.jb.ow;walk_at"e";refine aH ow T.cW T.Ow bD ?_;walk_at"e";refine⟨_,_,rfl,c.fl[f],rfl,T5,s,A,_,F,rfl,?_⟩;rw[Bl,Om (c':={ c with fl:=c.fl.set f (aW M h sl) }) r rfl];walk_at"e";refine⟨aU (by simp),λa ha=>?_⟩;exact ev1 (jw.free b (g.free C)) hQ (d:=.put h t f sl) (Zqu B r hv) (b.trans ((jw.same b.wt g).trans N)) F rfl g5 ha
def Zeu{wo dd:Addr}(T:qC K X)(m:rf .empty=CE)(q:Fl X rf FQ wo dd H Q E):Dt K (j9 X CE) E ⟨n,Q,bk,ct⟩ [some (.ref wo),some (.ref dd),none,none] H:=by
 obtain⟨Tg,s,A,M,_,⟨h,t,load,rfl⟩,w,v,j,rfl,od,o1,hc,D,B,hn,x,y⟩:=q;unfold Dt;walk_at"e";refine⟨dd,_,1,_,rfl,rfl,fZ.of od,rfl,?_⟩;walk_at"e";refine⟨dd,_,2,_,rfl,rfl,fZ.of od,rfl,?_⟩;walk_at"e";refine⟨_,_,_,rfl,Tg,s,A,M,h,t,j,rfl,rfl,rfl,o1,λe=>?_,λi c k r I p g ce=>?_⟩
 ·rw[<- m];exact x .empty (Zew e) H (aV.refl _)
 ·obtain⟨t1,t2,⟨dx,f⟩,u⟩:=id ce;walk_at"e";refine aH f T.c.di T.c.jK yP ?_;walk_at"e";refine⟨dd,_,3,_,rfl,rfl,fZ.of od,rfl,?_⟩;walk_at"e";refine⟨k.1,X.C,dx,_,rfl,f,T.c.di,T.c.jK,by show 5<1000;decide,?_⟩;rw[Uk];obtain⟨b,o⟩:=j.cell w v (dx:=dx) (tone:=c.tone) (load:=load) g ce;generalize upd H k.1 (.ins X.C dx (nY c.birth c.bulk c.tone load k.2))=F at b o ⊢;walk_at"e";refine⟨aU (by simp),λl hl=>⟨aU (by simp),λa z=>?_⟩⟩;exact ev0 y (d:=.write h t load) (Zj3 r p) rfl b o rfl hl z
def Zix{wo dd:Addr}(T:qC K X)(b:rf .empty=CE)(q:Fl X rf Nf wo dd H Q E):Hw K (j9 X CE) E ⟨n,Q,bk,ct⟩ [some (.ref wo),some (.ref dd),none] H:=by
 obtain⟨Tg,s,A,M,_,⟨h,t,rfl⟩,w,y,j,rfl,od,o1,hc,x,v,hn,p,r⟩:=q;unfold Hw;walk_at"e";refine⟨dd,_,1,_,rfl,rfl,fZ.of od,rfl,?_⟩;walk_at"e";refine⟨dd,_,2,_,rfl,rfl,fZ.of od,rfl,?_⟩;walk_at"e";refine⟨_,_,_,rfl,Tg,s,A,M,h,t,j,rfl,rfl,rfl,o1,λe=>?_,λi c z k B g o ce=>?_⟩
 ·rw[<- b];exact p .empty (Zj4 e) H (aV.refl _)
 ·obtain⟨t1,t2,⟨dx,f⟩,m⟩:=id ce;walk_at"e";refine aH f T.c.di T.c.jK yP ?_;walk_at"e";refine⟨aU (by simp),λl hl=>⟨aU (by simp),λa u=>?_⟩⟩;exact ev0 r (d:=.read h t) (Zmm k g) rfl (jw.refl w) j rfl hl u
def Ziy{wo dd:Addr}(T:qC K X)(r:rf .empty=CE)(q:Fl X rf isName wo dd H Q E):Hz K (j9 X CE) (bZ X) E ⟨n,Q,bk,ct⟩ [some (.ref wo),some (.ref dd),none,none,none] H:=by
 obtain⟨Tg,s,A,M,_,⟨h,t,z,rfl⟩,w,D,j,rfl,od,o1,hc,R,P,hn,I,L⟩:=q;obtain⟨p,m,hp,hm,hs,hl,hd⟩:=j.handOf o1;unfold Hz;walk_at"e";refine⟨dd,_,1,_,rfl,rfl,fZ.of od,rfl,?_⟩;walk_at"e";refine⟨dd,_,2,_,rfl,rfl,fZ.of od,rfl,?_⟩;walk_at"e";refine⟨_,_,_,rfl,Tg,s,A,M,h,t,j,rfl,rfl,rfl,o1,λe=>?_,λi c U x V B F ce=>?_⟩
 ·rw[<- r];exact I .empty (Zj5 e) H (aV.refl _)
 ·obtain⟨t1,t2,⟨dx,u⟩,C⟩:=id ce;walk_at"e";refine aH u T.c.di T.c.dX gR ?_;walk_at"e";refine⟨_,_,rfl,Tg,s,A,M,h,p,j,rfl,rfl,hp,?_⟩;walk_at"e";refine iw (cj.of hd.o2) (iI (v:=oV (aW M h t)) (by rw[cA,hs];rfl)) ?_;rw[x];walk_at"e";refine⟨aU (by simp),λtp f=>?_⟩;generalize zz:upd H tp _=H1;obtain⟨g,o⟩:=nwO f zz;have o:H1 tp=some (.tup [.int i,.int c.birth]):=o;have k:=j.same g;have J:=w.same g;obtain⟨W,ow⟩:=k.jb.ow;walk_at"e";refine aH ow T.cW T.nWn nF ?_;walk_at"e";refine⟨dd,_,3,_,rfl,rfl,fZ.of (g _ _ od),rfl,?_⟩;refine⟨_,_,rfl,ZA6 k.jn.om (by rw[Zov k.jn.nms];exact Nat.lt_of_le_of_lt hn (by decide)),?_⟩;obtain⟨N,b,y⟩:=k.named J D (z:=z) (v:=(i,c.birth)) (t:=tp) ⟨w _ f,o⟩;generalize upd H1 A.nm (.dK (putK (Cg M.names A.ns) (Sum.inr z) (.ref tp)))=S at b y ⊢;walk_at"e";refine⟨aU (by simp),λl hl=>⟨aU (by simp),λa O=>?_⟩⟩;exact ev0 L (d:=.name h t z) (Zmo x B) rfl ((jw.same w g).trans b) y rfl hl O
def Ziw{wo dd:Addr}(T:qC K X)(t:rf .SJ=CN)(q:Fl X rf Nb wo dd H Q E):Hv K (cJ X) (fD X) (uc X CN) (bZ X) E ⟨n,Q,bk,ct⟩ [some (.ref wo),some (.ref dd),none,none] H:=by
 obtain⟨Tg,s,A,M,_,⟨h,sl,z,rfl⟩,w,F,j,rfl,od,o1,hc,L,W,hn,P,R⟩:=q;obtain⟨p,m,hp,hm,hs,hl,hd⟩:=j.handOf o1;unfold Hv;walk_at"e";refine⟨dd,_,3,_,rfl,rfl,fZ.of od,rfl,?_⟩;walk_at"e";refine⟨_,_,rfl,Tg,s,A,M,j,rfl,λe=>?_,λpl b e=>?_⟩
 ·rw[<- t];refine P .SJ ?_ H (aV.refl _);show(match zy M.names z with | none=>_ | some (p,b)=>_)=_;rw[e]
 ·let x:Option Int:=if um M pl b=true then none else some pl
  have ex:(if um M pl b=true then V.non else .int pl)=oV x:=by
   show _=oV (if _ then _ else _);cases um M pl b<;>rfl
  rw[ex];have I:yV M (.seek h sl z)=.ok (⟨"sought",vV M x,(aY (setSlot M h sl x) [x]).1⟩,(aY (setSlot M h sl x) [x]).2):=by
   show(match zy M.names z with | none=>_ | some (p,b)=>_)=_;rw[e];dsimp only;cases f:um M pl b with
   | true=>
    have:x=none:=by show(if _ then _ else _)=_;rw[f];rfl
    rw[this];rfl
   | false=>
    have hx:x=some pl:=by show(if _ then _ else _)=_;rw[f];rfl
    have:vV M (some pl)=some b:=by
     unfold um at f;show(cellAt M pl).map _=_;cases i:cellAt M pl with
     | none=>rw[i]at f;cases f
     | some c=>
      rw[i]at f;dsimp only at f
      by_cases y:c.birth=b
      ·rw[<- y];rfl
      ·rw[if_neg y]at f;cases f
    rw[hx,this];rfl
  clear_value x;walk_at"e";refine⟨dd,_,1,_,rfl,rfl,fZ.of od,rfl,?_⟩;walk_at"e";refine⟨_,_,rfl,Tg,s,A,M,h,p,j,rfl,rfl,hp,?_⟩;walk_at"e";refine⟨dd,_,2,_,rfl,rfl,fZ.of od,rfl,?_⟩;refine⟨p.2,_,_,sl,rfl,rfl,hd.o2,tY (by rw[aX];exact hl),?_⟩;obtain⟨g,u⟩:=j.slot w F (k:=sl) (x:=x) hp hm;rw[rN hm]at u;generalize upd H p.2 (.lst ((m.2.map oV).set sl (oV x)))=N at g u ⊢;walk_at"e";refine⟨aU (by simp),λD l=>?_⟩;generalize zz:upd N D _=H2;obtain⟨o,r⟩:=nwO l zz;have r:H2 D=some (.lst ([x].map oV)):=r;walk_at"e";refine⟨_,_,rfl,[x],Tg,s,A,_,g.wt.same o,F,u.same o,rfl,.inl ⟨r,g.wt _ l⟩,by simp,L,λU O Y B C J v=>?_⟩;obtain⟨Z,ow⟩:=C.jb.ow;walk_at"e";refine aH ow T.cW T.Ow bD ?_;walk_at"e";refine⟨_,_,rfl,x,rfl,O,s,A,_,C,rfl,?_⟩;rw[Bl,qx];walk_at"e";refine⟨aU (by simp),λa S=>?_⟩;exact ev1 (jw.free g (o.free v)) R (d:=.seek h sl z) I (g.trans ((jw.same g.wt o).trans B)) C rfl J S
end
section
variable {K:aB}{X:Cs}{H:Hp}{Q:VK}{E:XK}{n:St->Hp->Prop}{bk ct:St->Hp->Prop}{rf:Rf->Addr}{f1 f2 f3 f4 f5 f6 f7 f8 f9 f10:Addr}
def ZA8{wo dd:Addr}(T:qC K X)(q:Fl X rf (λ_=>True) wo dd H Q E):
  Znr K f1 f2 f3 f4 f5 f6 f7 f8 f9 f10 (cz X rf Nm) (cz X rf Nk) (cz X rf XR) (cz X rf Nj) (cz X rf Ng) (cz X rf isName) (cz X rf XN) (cz X rf Nf) (cz X rf Nb) (cz X rf FQ) E ⟨n,Q,bk,ct⟩ [some (.ref wo),some (.ref dd),none] H:=by
 obtain⟨Tg,s,A,M,d,_,w,a,j,rfl,od,r⟩:=q;unfold Znr;cases d with
 | make h s' many bulk=>
  walk_at"e";refine⟨dd,_,0,_,rfl,rfl,fZ.of od,rfl,?_⟩;refine⟨_,f5,rfl,rfl,?_⟩;walk_at"e";refine nU (cz X rf Ng) rfl (by simp) ?_;walk_at"e";exact⟨_,_,rfl,Tg,s,A,M,_,⟨_,_,_,_,rfl⟩,w,a,j,rfl,od,r⟩
 | get h s' t f=>
  walk_at"e";refine⟨dd,_,0,_,rfl,rfl,fZ.of od,rfl,?_⟩;refine⟨_,f3,rfl,rfl,?_⟩;walk_at"e";refine nU (cz X rf XR) rfl (by simp) ?_;walk_at"e";exact⟨_,_,rfl,Tg,s,A,M,_,⟨_,_,_,_,rfl⟩,w,a,j,rfl,od,r⟩
 | put h t f s'=>
  walk_at"e";refine⟨dd,_,0,_,rfl,rfl,fZ.of od,rfl,?_⟩;refine⟨_,f7,rfl,rfl,?_⟩;walk_at"e";refine nU (cz X rf XN) rfl (by simp) ?_;walk_at"e";exact⟨_,_,rfl,Tg,s,A,M,_,⟨_,_,_,_,rfl⟩,w,a,j,rfl,od,r⟩
 | copy h s' t=>
  walk_at"e";refine⟨dd,_,0,_,rfl,rfl,fZ.of od,rfl,?_⟩;refine⟨_,f1,rfl,rfl,?_⟩;walk_at"e";refine nU (cz X rf Nm) rfl (by simp) ?_;walk_at"e";exact⟨_,_,rfl,Tg,s,A,M,_,⟨_,_,_,rfl⟩,w,a,j,rfl,od,r⟩
 | drop h s'=>
  walk_at"e";refine⟨dd,_,0,_,rfl,rfl,fZ.of od,rfl,?_⟩;refine⟨_,f2,rfl,rfl,?_⟩;walk_at"e";refine nU (cz X rf Nk) rfl (by simp) ?_;walk_at"e";exact⟨_,_,rfl,Tg,s,A,M,_,⟨_,_,rfl⟩,w,a,j,rfl,od,r⟩
 | give h s' g t=>
  walk_at"e";refine⟨dd,_,0,_,rfl,rfl,fZ.of od,rfl,?_⟩;refine⟨_,f4,rfl,rfl,?_⟩;walk_at"e";refine nU (cz X rf Nj) rfl (by simp) ?_;walk_at"e";exact⟨_,_,rfl,Tg,s,A,M,_,⟨_,_,_,_,rfl⟩,w,a,j,rfl,od,r⟩
 | write h t load=>
  walk_at"e";refine⟨dd,_,0,_,rfl,rfl,fZ.of od,rfl,?_⟩;refine⟨_,f10,rfl,rfl,?_⟩;walk_at"e";refine nU (cz X rf FQ) rfl (by simp) ?_;walk_at"e";exact⟨_,_,rfl,Tg,s,A,M,_,⟨_,_,_,rfl⟩,w,a,j,rfl,od,r⟩
 | read h t=>
  walk_at"e";refine⟨dd,_,0,_,rfl,rfl,fZ.of od,rfl,?_⟩;refine⟨_,f8,rfl,rfl,?_⟩;walk_at"e";refine nU (cz X rf Nf) rfl (by simp) ?_;walk_at"e";exact⟨_,_,rfl,Tg,s,A,M,_,⟨_,_,rfl⟩,w,a,j,rfl,od,r⟩
 | name h t z=>
  walk_at"e";refine⟨dd,_,0,_,rfl,rfl,fZ.of od,rfl,?_⟩;refine⟨_,f6,rfl,rfl,?_⟩;walk_at"e";refine nU (cz X rf isName) rfl (by simp) ?_;walk_at"e";exact⟨_,_,rfl,Tg,s,A,M,_,⟨_,_,_,rfl⟩,w,a,j,rfl,od,r⟩
 | seek h s' z=>
  walk_at"e";refine⟨dd,_,0,_,rfl,rfl,fZ.of od,rfl,?_⟩;refine⟨_,f9,rfl,rfl,?_⟩;walk_at"e";refine nU (cz X rf Nb) rfl (by simp) ?_;walk_at"e";exact⟨_,_,rfl,Tg,s,A,M,_,⟨_,_,_,rfl⟩,w,a,j,rfl,od,r⟩
end
def jY(X:Cs):Sp:=λvs H Q E=>∃hp sl,vs=[.ref hp,.ref sl]/\∃T s A M,∃xs:List (Option Int),WJ X H T s A M/\A.hp=hp/\H sl=some (.lst (xs.map oV))/\xs.length<=1000/\∀l,H l=none->Q (.ref l) (upd H l (.lst ((xs.map (vV M)).map oV)))
def vZ(X:Cs):Sp:=λvs H Q E=>∃wo,vs=[.ref wo]/\∃T s A M,WJ X H T s A M/\A.wo=wo/\M.cells.length<=1000/\(∀m∈M.hands,m.2.length<=1000)/\∀(l:Addr) (ls:List Addr) H',aV H H'->H' l=some (.lst (ls.map V.ref))->ls.length=(rowsOf M).length->(∀(j:Nat) r x,ls[j]? =some r->(rowsOf M)[j]? =some x->H' r=some (.lst (x.map oV)))->(H l=none/\(∀r∈ls,H r=none)/\l∉ls)->Q (.ref l) H'
section
variable {K:aB}{X:Cs}{H:Hp}{Q:VK}{E:XK}{n:St->Hp->Prop}{bk ct:St->Hp->Prop}
def Zbp{hp sl:Addr}(T:qC K X)(q:∃T s A M,∃xs:List (Option Int),WJ X H T s A M/\A.hp=hp/\H sl=some (.lst (xs.map oV))/\xs.length<=1000/\∀l,H l=none->Q (.ref l) (upd H l (.lst ((xs.map (vV M)).map oV)))):
  Ad K (cJ X) ⟨n,Q,bk,ct⟩ [some (.ref hp),some (.ref sl)] H:=by
 obtain⟨Tg,s,A,M,xs,j,rfl,o,hx,q⟩:=q;unfold Ad;walk_at"e";refine J7 ?_;walk_at"e";refine⟨_,rfl,⟨_,cj.of o⟩,?_⟩;refine QK (cj.of o) (λi=>(xs[i]?).map λx=>oV (vV M x)) (by rw[aX];omega) (λi x hx=>?_) ?_
 ·rw[cA]at hx;obtain⟨y,hy,rfl⟩:=Option.map_eq_some_iff.mp hx;refine⟨λq hq=>?_,λz q hz hq=>?_⟩
  ·rw[hy]at hq;exact Bs hq
  ·rw[hy]at hz;cases hz;walk_at"c";walk_at"e";exact⟨_,_,rfl,y,rfl,Tg,s,A,M,j,rfl,hq⟩
 ·intro p hp;have:(List.range (xs.map oV).length).filterMap (λi=>(xs[i]?).map λx=>oV (vV M x))=(xs.map (vV M)).map oV:=by
   rw[aX,List.map_map];clear q o hx
   induction xs with
   | nil=>rfl
   | cons a l b=>
    rw[List.length_cons,List.range_succ_eq_map,List.filterMap_cons];simp only[List.getElem?_cons_zero,Option.map_some,List.map_cons,List.filterMap_map];congr 1
  rw[this];exact q p hp
def Um{wo:Addr}(T:qC K X)(q:∃T s A M,WJ X H T s A M/\A.wo=wo/\M.cells.length<=1000/\(∀m∈M.hands,m.2.length<=1000)/\∀(l:Addr) (ls:List Addr) H',aV H H'->H' l=some (.lst (ls.map V.ref))->ls.length=(rowsOf M).length->(∀(j:Nat) r x,ls[j]? =some r->(rowsOf M)[j]? =some x->H' r=some (.lst (x.map oV)))->(H l=none/\(∀r∈ls,H r=none)/\l∉ls)->Q (.ref l) H'):
  vD K (jY X) ⟨n,Q,bk,ct⟩ [some (.ref wo)] H:=by
 obtain⟨Tg,s,A,M,j,rfl,hc,hh,q⟩:=q;obtain⟨D,ow⟩:=j.jb.ow;have l5:=j.jd.l5;unfold vD;walk_at"e";refine J7 ?_;walk_at"e";refine aH ow T.cW T.nWd eV ?_;refine⟨_,rfl,⟨_,cj.of j.jb.on⟩,?_⟩;refine Tf (cj.of j.jb.on) (by rw[aX];omega) (λi r v=>∃x,(rowsOf M)[i]? =some x/\v r=some (.lst (x.map oV))) (λ_ _ _ _ ⟨x,e,z⟩ s=>⟨x,e,s _ _ z⟩) (λ_ _ _ ⟨_,_,z⟩=>⟨_,z⟩) (λx o q hq=>Bs hq) (λi x o d a B hq=>?_) ?_
 ·rw[cA]at d;obtain⟨p,hp,rfl⟩:=Option.map_eq_some_iff.mp d;have b:=j.same a;obtain⟨m,hm,hd⟩:=b.hand hp;obtain⟨dx,o1⟩:=hd.o1;obtain⟨C,c⟩:=b.jb.ow;walk_at"c";walk_at"e";refine aH c T.cW T.Ow bD ?_;walk_at"e";refine aH o1 T.cD T.nDs rz ?_;walk_at"e";refine⟨_,_,rfl,Tg,s,A,M,m.2,b,rfl,hd.o2,hh m (List.mem_of_getElem? hm),λl hl=>?_⟩;exact hq l _ (aL hl _) hl ⟨_,by unfold rowsOf;rw[cA,hm];rfl,aq⟩
 ·intro rs H' a hl _ u hr p hp;have g:=aL hp (.lst (rs.map V.ref));refine q p rs _ (a.trans g) aq ?_ (λh r x t w=>?_) ⟨a.free hp,u,λz=>?_⟩
  ·rw[hl,aX];unfold rowsOf;rw[aX,j.jd.lh]
  ·obtain⟨y,e3,z⟩:=hr h r t;rw[w]at e3;cases e3;exact g _ _ z
  ·obtain⟨k,hk,e⟩:=List.getElem_of_mem z;obtain⟨_,_,f⟩:=hr k p (by rw[bK hk,e]);rw[hp]at f;cases f
end
def xH(a:Addr):Sp:=λvs H Q E=>∃p nm many,vs=[.ref p,.str nm,.int many]/\∃dx,H p=some (.ins a dx [])/\0<=many/\many<=1000/\
 ∀sa H',H sa=none->H' p=some (.ins a dx (Zeh nm sa))->H' sa=some (.lst (List.replicate many.toNat V.non))->(∀b o,H b=some o->b≠p->H' b=some o)->Q .non H'
def rF(a:Addr):Sp:=λvs H Q E=>∃p,vs=[.ref p]/\∃dx,H p=some (.ins a dx [])/\
 ∀gr H',H gr=none->H' p=some (.ins a dx (cB 0 "rest" gr 0 0 0 0 0 0 0 .non))->H' gr=some (.lst [])->(∀b o,H b=some o->b≠p->H' b=some o)->Q .non H'
section
variable {K:aB}{X:Cs}{H:Hp}{Q:VK}{E:XK}{n:St->Hp->Prop}{bk ct:St->Hp->Prop}
def N6{p:Addr}{nm:Str}{many:Int}(T:qC K X)(q:∃dx,H p=some (.ins X.D dx [])/\0<=many/\many<=1000/\
 ∀sa H',H sa=none->H' p=some (.ins X.D dx (Zeh nm sa))->H' sa=some (.lst (List.replicate many.toNat V.non))->(∀b o,H b=some o->b≠p->H' b=some o)->Q .non H'):
  su K ⟨λ_ H'=>Q .non H',Q,bk,ct⟩ [some (.ref p),some (.str nm),some (.int many)] H:=by
 obtain⟨dx,hp,n,h1,h⟩:=q;unfold su;walk_at"e";refine⟨p,X.D,dx,[],rfl,hp,T.cD,T.nDn,by decide,?_⟩;walk_at"e";refine⟨by decide,λi f=>?_⟩;walk_at"e";refine⟨i,many,_,rfl,rfl,aq,by omega,by omega,?_,λfa a=>?_⟩
 ·show 1 * many.toNat<=sizeLine;exact aU (by omega)
 have d:p≠i:=aD aq f;have c:p≠fa:=aD (by rw[aC d];exact aq) a;have g:H fa=none:=by
  by_cases z:fa=i
  ·rw[z,aq]at a;cases a
  ·rw[aC z,aC (λe=>c e.symm)]at a;exact a
 have j:H i=none:=by rw[aC (λe=>d e.symm)]at f;exact f
 walk_at"e";refine⟨p,X.D,dx,_,rfl,by rw[aC c,aC d];exact aq,T.cD,T.nDs,by show 1<1000;decide,?_⟩;refine h fa _ g ?_ ?_ λb o hb l=>?_
 ·rw[aq,Zqa]
 ·rw[aC c.symm,aq];congr 2;generalize many.toNat=k
  induction k with
  | zero=>rfl
  | succ k m=>rw[List.replicate_succ,List.replicate_succ,List.flatten_cons,m];rfl
 ·rw[aC l,aC (aD hb g),aC (aD hb j),aC l];exact hb
def Gq{p:Addr}(T:qC K X)(q:∃dx,H p=some (.ins X.S dx [])/\
 ∀gr H',H gr=none->H' p=some (.ins X.S dx (cB 0 "rest" gr 0 0 0 0 0 0 0 .non))->H' gr=some (.lst [])->(∀b o,H b=some o->b≠p->H' b=some o)->Q .non H'):
  pq K ⟨λ_ H'=>Q .non H',Q,bk,ct⟩ [some (.ref p)] H:=by
 obtain⟨dx,hp,h⟩:=q;unfold pq;walk_at"e";refine⟨p,X.S,dx,[],rfl,hp,T.cS,T.n1,by decide,?_⟩;walk_at"e";refine⟨p,X.S,dx,_,rfl,aq,T.cS,T.n2,by show 1<1000;decide,?_⟩;rw[eG];walk_at"e";refine⟨by decide,λgr c=>?_⟩;have a:p≠gr:=aD aq c;have d:H gr=none:=by rw[aC a.symm]at c;exact c
 walk_at"e";refine⟨p,X.S,dx,_,rfl,by rw[aC a];exact aq,T.cS,T.n3,by show 2<1000;decide,?_⟩;walk_at"e";refine⟨p,X.S,dx,_,rfl,aq,T.cS,T.n4,by show 3<1000;decide,?_⟩;rw[eG];walk_at"e";refine⟨p,X.S,dx,_,rfl,aq,T.cS,T.n5,by show 4<1000;decide,?_⟩;rw[eG];walk_at"e";refine⟨p,X.S,dx,_,rfl,aq,T.cS,T.n6,by show 5<1000;decide,?_⟩;rw[eG];walk_at"e";refine⟨p,X.S,dx,_,rfl,aq,T.cS,T.n7,by show 6<1000;decide,?_⟩;rw[eG];walk_at"e";refine⟨p,X.S,dx,_,rfl,aq,T.cS,T.n8,by show 7<1000;decide,?_⟩;rw[eG];walk_at"e";refine⟨p,X.S,dx,_,rfl,aq,T.cS,T.n9,by show 8<1000;decide,?_⟩;rw[eG];walk_at"e";refine⟨p,X.S,dx,_,rfl,aq,T.cS,T.n10,by show 9<1000;decide,?_⟩;rw[eG];walk_at"e";refine⟨p,X.S,dx,_,rfl,aq,T.cS,T.n11,by show 10<1000;decide,?_⟩;rw[eG];refine h gr _ d ?_ ?_ λb o hb e=>?_
 ·rw[aq,Zks]
 ·rw[aC a.symm,aq]
 ·rw[aC e,aC (aD hb d),aC e];exact hb
end
def wd(w:Int):Str:=if w=0 then "first" else if w=1 then "each" else "last"
def tlS(t:Int):Str:=if t=0 then "" else if t=1 then " old" else if t=2 then " new" else " old new"
def words(w t:Int):Str:=wd w++tlS t
structure KdO(X:Cs)(H:Hp)(ki lk:Addr)(w t:Int):Prop where
 ok:∃dx,H ki=some (.ins X.K dx (Tj lk t))
 ol:∃dx,(w=0/\H lk=some (.ins X.F dx []))\/(w=1/\H lk=some (.ins X.E dx []))\/(w=2/\H lk=some (.ins X.L dx []))
def KdO.same{X:Cs}{H H':Hp}{ki lk:Addr}{w t:Int}(k:KdO X H ki lk w t)(s:aV H H'):KdO X H' ki lk w t:=by
 obtain⟨⟨c,a⟩,⟨d,b⟩⟩:=k;refine⟨⟨c,s _ _ a⟩,⟨d,?_⟩⟩;rcases b with ⟨z,e⟩ | ⟨z,e⟩ | ⟨z,e⟩
 ·exact .inl ⟨z,s _ _ e⟩
 ·exact .inr (.inl ⟨z,s _ _ e⟩)
 ·exact .inr (.inr ⟨z,s _ _ e⟩)
def Zdr(room:Int)(hands:List (Str×Int))(w t:Int):Wm:=⟨room,0,0,[],hands.map λm=>(m.1,List.replicate m.2.toNat none),[],w,t,⟨0,"rest",[],0,0,0,0,0,0,0,.non⟩⟩
def u6(X:Cs):Sp:=λvs H Q E=>∃p room ki a,vs=[.ref p,.int room,.ref ki,.ref a]/\∃dx T s lk w t ts hands,H p=some (.ins X.W dx [])/\WT H T/\s≠0/\KdO X H ki lk w t/\T ki=(0,0)/\T lk=(0,0)/\ki≠p/\lk≠p/\H a=some (.lst (ts.map V.ref))/\
 Al (λ(t:Addr) (m:Str×Int)=>H t=some (.tup [.str m.1,.int m.2])/\0<=m.2/\m.2<=1000) ts hands/\hands.length<=30/\
 ∀H' T' A,(∀b o,H b=some o->b≠p->H' b=some o)->(∀b o,H b=some o->b≠p->T' b=T b)->WT H' T'->A.wo=p->WJ X H' T' s A (Zdr room hands w t)->Q .non H'
def ur(a:Addr):Sp:=λvs H Q E=>∃p l t,vs=[.ref p,.ref l,.int t]/\∃dx,H p=some (.ins a dx [])/\∀H',H' p=some (.ins a dx (Tj l t))->(∀b o,H b=some o->b≠p->H' b=some o)->Q .non H'
def sZ(v:V):Sp:=λvs H Q E=>∃a,vs=[.ref a]/\Q v H
section
variable {K:aB}{X:Cs}{H:Hp}{Q:VK}{E:XK}{n:St->Hp->Prop}{bk ct:St->Hp->Prop}
def NZ{p l:Addr}{t:Int}(T:qC K X)(q:∃dx,H p=some (.ins X.K dx [])/\∀H',H' p=some (.ins X.K dx (Tj l t))->(∀b o,H b=some o->b≠p->H' b=some o)->Q .non H'):
  rZ K ⟨λ_ H'=>Q .non H',Q,bk,ct⟩ [some (.ref p),some (.ref l),some (.int t)] H:=by
 obtain⟨dx,hp,h⟩:=q;unfold rZ;walk_at"e";refine⟨p,X.K,dx,[],rfl,hp,T.cK,T.nKl,by decide,?_⟩;walk_at"e";refine⟨p,X.K,dx,_,rfl,aq,T.cK,T.nKt,by show 1<1000;decide,?_⟩;rw[eG];refine h _ ?_ λb o hb a=>?_
 ·rw[aq,Zpn]
 ·rw[aC a];exact hb
def w0{w:Int}(a:w=0\/w=1\/w=2):words w 0=wd w:=by rcases a with rfl | rfl | rfl<;>decide +kernel
def w3{w:Int}(a:w=0\/w=1\/w=2):words w 3=(wd w++" old")++" new":=by rcases a with rfl | rfl | rfl<;>decide +kernel
end
structure Ex(p:Addr)(H H':Hp)(T T':Tg):Prop where
 kp:∀b o,H b=some o->b≠p->H' b=some o
 al:∀b o,H b=some o->∃o',H' b=some o'
 tg:∀b o,H b=some o->T' b=T b
 wt:WT H' T'
section
variable {p:Addr}{H H1 H2 H':Hp}{T T1 T2 T':Tg}
def Ex.trans(a:Ex p H H1 T T1)(b:Ex p H1 H2 T1 T2):Ex p H H2 T T2 where
 kp:=λx o h n=>b.kp x o (a.kp x o h n) n
 al:=λx o h=>by obtain⟨o1,h1⟩:=a.al x o h;exact b.al x o1 h1
 tg:=λx o h=>by obtain⟨o1,h1⟩:=a.al x o h;rw[b.tg x o1 h1,a.tg x o h]
 wt:=b.wt
def Zyo(w:WT H T)(al:∀b o,H b=some o->∃a,H' b=some a):WT H' T:=λb h=>w b (by
 cases z:H b with
 | none=>rfl
 | some o=>obtain⟨a,e⟩:=al b o z;rw[h]at e;cases e)
def Zfm{a:Addr}{o:HO}{v:Nat×Nat}(w:WT H T)(h:H a=some o):WT H (kJ T a v):=λb hb=>by
 rw[mC (λe=>by rw[e,h]at hb;cases hb)];exact w b hb
def Ex.Zn1{o a:HO}(w:WT H T)(h:H p=some a):Ex p H (upd H p o) T T where
 kp:=λx u hx n=>by rw[aC n];exact hx
 al:=λx u hx=>by
  by_cases e:x=p
  ·exact⟨o,by rw[e,aq]⟩
  ·exact⟨u,by rw[aC e];exact hx⟩
 tg:=λ_ _ _=>rfl
 wt:=Zyo w λx u hx=>by
  by_cases e:x=p
  ·exact⟨o,by rw[e,aq]⟩
  ·exact⟨u,by rw[aC e];exact hx⟩
def Ex.news{vs:List (Addr×(Nat×Nat))}(w:WT H T)(s:aV H H')(hn:∀v∈vs,H v.1=none/\∃o,H' v.1=some o):Ex p H H' T (vs.foldr (λv t=>kJ t v.1 v.2) T):=by
 have tg:∀b o,H b=some o->(vs.foldr (λv t=>kJ t v.1 v.2) T) b=T b:=by
  intro b o hb
  induction vs with
  | nil=>rfl
  | cons v vs a=>
   show kJ _ v.1 v.2 b=_;rw[mC (aD hb (hn v List.mem_cons_self).1)];exact a λu hu=>hn u (List.mem_cons_of_mem _ hu)
 refine⟨λb o hb _=>s _ _ hb,λb o hb=>⟨o,s _ _ hb⟩,tg,?_⟩;clear tg
 induction vs with
 | nil=>exact w.same s
 | cons v vs a=>
  obtain⟨o,c⟩:=(hn v List.mem_cons_self).2;exact Zfm (a λu hu=>hn u (List.mem_cons_of_mem _ hu)) c
end
section
variable {K:aB}{X:Cs}{H:Hp}{Q:VK}{E:XK}{n:St->Hp->Prop}{bk ct:St->Hp->Prop}
def Kw{p ki hl0:Addr}{room:Int}(T:qC K X)(q:∃dx T s lk w t,∃ts:List Addr,∃hands,H p=some (.ins X.W dx [])/\WT H T/\s≠0/\KdO X H ki lk w t/\T ki=(0,0)/\T lk=(0,0)/\ki≠p/\lk≠p/\H hl0=some (.lst (ts.map V.ref))/\
 Al (λ(t:Addr) (m:Str×Int)=>H t=some (.tup [.str m.1,.int m.2])/\0<=m.2/\m.2<=1000) ts hands/\hands.length<=30/\
 ∀H' T' A,(∀b o,H b=some o->b≠p->H' b=some o)->(∀b o,H b=some o->b≠p->T' b=T b)->WT H' T'->A.wo=p->WJ X H' T' s A (Zdr room hands w t)->Q .non H'):
  qL K X.D X.H X.S (xH X.D) (xF X.H) (rF X.S) ⟨λ_ H'=>Q .non H',Q,bk,ct⟩ [some (.ref p),some (.int room),some (.ref ki),some (.ref hl0)] H:=by
 obtain⟨dx,T0,s,lk,w,t,ts,hands,hp,wt0,s0,kd,tki,tlk,nki,U,oh0,al,hn,hQ⟩:=q;have x0:WT H (kJ T0 p (s,0)):=Zfm wt0 hp;have tp:kJ T0 p (s,0) p=(s,0):=jx;have O:∀b o,H b=some o->b≠p->kJ T0 p (s,0) b=T0 b:=λb _ _ hb=>mC hb;generalize hT:kJ T0 p (s,0)=Ta at x0 tp O;unfold qL;walk_at"e";intro hq dh nh ndh neh;refine⟨hq,room,rfl,dh,aq,λca H1 l J L k1=>⟨rfl,?_⟩⟩;have Zwj:H ca=none:=by
  by_cases z:ca=hq
  ·rw[z,aq]at l;cases l
  ·rw[aC z]at l
   by_cases y:ca=dh
   ·rw[y,aq]at l;cases l
   ·rw[aC y]at l;exact l
 have sm1:aV H H1:=λb o hb=>k1 b o (by rw[aC (aD hb nh),aC (aD hb ndh)];exact hb) (aD hb nh);have e1:Ex p H H1 Ta _:=Ex.news (vs:=[(hq,(s,1)),(ca,(s,2))]) x0 sm1 (by
  intro v hv;simp only[List.mem_cons,List.not_mem_nil,or_false]at hv;rcases hv with rfl | rfl
  ·exact⟨nh,_,J⟩
  ·exact⟨Zwj,_,L⟩)
 have nhc:hq≠ca:=qU J L (λz=>by cases z);have th1:([(hq,(s,1)),(ca,(s,2))].foldr (λv t=>kJ t v.1 v.2) Ta) hq=(s,1):=jx;have tc1:([(hq,(s,1)),(ca,(s,2))].foldr (λv t=>kJ t v.1 v.2) Ta) ca=(s,2):=(mC nhc.symm).trans jx;generalize ([(hq,(s,1)),(ca,(s,2))]:List (Addr×(Nat×Nat))).foldr (λv t=>kJ t v.1 v.2) Ta=Tb at e1 th1 tc1;have hp1:=sm1 _ _ hp;have nph:hq≠p:=λz=>by rw[z,hp]at nh;cases nh
 have npc:ca≠p:=λz=>by rw[z,hp]at Zwj;cases Zwj
 clear k1 l;walk_at"e";refine⟨p,X.W,dx,[],rfl,hp1,T.cW,T.Ow,by decide,?_⟩;have e2:=e1.trans (Ex.Zn1 (o:=.ins X.W dx (cC "heap" (.ref hq) [])) e1.wt hp1);have g2:upd H1 p (.ins X.W dx (cC "heap" (.ref hq) [])) p=some (.ins X.W dx (cC "heap" (.ref hq) [])):=aq;have J:=(aC (o:=.ins X.W dx (cC "heap" (.ref hq) [])) nph).trans J;have L:=(aC (o:=.ins X.W dx (cC "heap" (.ref hq) [])) npc).trans L;generalize upd H1 p (.ins X.W dx (cC "heap" (.ref hq) []))=H2 at e2 g2 J L ⊢;walk_at"e";refine⟨p,X.W,dx,_,rfl,g2,T.cW,T.nWk,by show 1<1000;decide,?_⟩;have e3:=e2.trans (Ex.Zn1 (o:=.ins X.W dx (cC "kind" (.ref ki) (cC "heap" (.ref hq) []))) e2.wt g2);have g3:upd H2 p (.ins X.W dx (cC "kind" (.ref ki) (cC "heap" (.ref hq) []))) p=some (.ins X.W dx (cC "kind" (.ref ki) (cC "heap" (.ref hq) []))):=aq;have J:=(aC (o:=.ins X.W dx (cC "kind" (.ref ki) (cC "heap" (.ref hq) []))) nph).trans J;have L:=(aC (o:=.ins X.W dx (cC "kind" (.ref ki) (cC "heap" (.ref hq) []))) npc).trans L;generalize upd H2 p (.ins X.W dx (cC "kind" (.ref ki) (cC "heap" (.ref hq) [])))=H3 at e3 g3 J L ⊢;generalize Y:(cC "kind" (.ref ki) (cC "heap" (.ref hq) []))=r at g3 ⊢;have lF3:r.length=2:=by rw[<- Y];rfl
 have P:H3 hl0=some (.lst (ts.map V.ref)):=e3.kp _ _ oh0 (λz=>by rw[z,hp]at oh0;cases oh0);have ltl:ts.length=hands.length:=al.length;have ZAl:∀(i:Nat) a,ts[i]? =some a->∃m,hands[i]? =some m/\H3 a=some (.tup [.str m.1,.int m.2])/\0<=m.2/\m.2<=1000:=λi a ha=>by
  have hl:i<hands.length:=by rw[<- ltl];exact(dH ha).1
  obtain⟨a',ha',z1,I,z3⟩:=al.get (bK hl);rw[ha]at ha';cases ha';exact⟨_,bK hl,e3.kp _ _ z1 (λz=>by rw[z,hp]at z1;cases z1),I,z3⟩
 have lo:=e3.wt;walk_at"e";refine⟨_,rfl,⟨_,cj.of P⟩,Zk0 ?_⟩;refine⟨λi m ys Hx=>i<=ts.length/\m=ts.length - i/\∃(hs:List (Addr×Addr)) (Tx:Tg),ys=hs.map (λq=>V.ref q.1)/\hs.length=i/\aV H3 Hx/\Ex p H3 Hx Tb Tx/\∀(j:Nat) q m,hs[j]? =some q->hands[j]? =some m->HdO X.D Hx Tx s j q (m.1,List.replicate m.2.toNat none)/\q.1≠p/\q.2≠p,
  ⟨ts.length,Nat.zero_le _,rfl,[],Tb,rfl,rfl,aV.refl _,⟨λ_ _ h _=>h,λ_ o h=>⟨o,h⟩,λ_ _ _=>rfl,lo⟩,λj q m e=>by simp at e⟩,?_⟩
 rintro i m ys Hx ⟨hi,rfl,hs,Tx,rfl,hl,sx,ex,hds⟩
 by_cases hk:i=ts.length
 ·refine .inl ⟨⟨_,cj.of (sx _ _ P),by rw[aX];omega⟩,λd C=>?_⟩;have ZJd:H3 d=none:=sx.free C;have s4:=aL C (.lst (hs.map λq=>V.ref q.1));have e4:Ex p Hx _ Tx _:=Ex.news (p:=p) (vs:=[(d,(s,5))]) ex.wt s4 (by
   intro v hv;rw[List.mem_singleton.mp hv];exact⟨C,_,aq⟩)
  have t4:([(d,(s,5))].foldr (λv t=>kJ t v.1 v.2) Tx) d=(s,5):=jx;have o4:upd Hx d (.lst (hs.map λq=>V.ref q.1)) d=some (.lst (hs.map λq=>V.ref q.1)):=aq;have u:=sx _ _ g3;have nhp:d≠p:=λz=>by rw[z,u]at C;cases C
  have hp4:=s4 _ _ u;generalize upd Hx d (.lst (hs.map λq=>V.ref q.1))=H4 at s4 e4 o4 hp4 ⊢;generalize ([(d,(s,5))]:List (Addr×(Nat×Nat))).foldr (λv t=>kJ t v.1 v.2) Tx=T4 at e4 t4;walk_at"e";refine⟨p,X.W,dx,_,rfl,hp4,T.cW,T.nWd,by rw[lF3];decide,?_⟩;have e5:=Ex.Zn1 (p:=p) (o:=.ins X.W dx (cC "hands" (.ref d) r)) e4.wt hp4;have hp5:upd H4 p (.ins X.W dx (cC "hands" (.ref d) r)) p=some (.ins X.W dx (cC "hands" (.ref d) r)):=aq;generalize upd H4 p (.ins X.W dx (cC "hands" (.ref d) r))=H5 at e5 hp5 ⊢;walk_at"e";intro nm N;have nnp:nm≠p:=λz=>by rw[z,hp5]at N;cases N
  have s6:=aL N (.dK []);have e6:Ex p H5 _ T4 _:=Ex.news (p:=p) (vs:=[(nm,(s,6))]) e5.wt s6 (by
   intro v hv;rw[List.mem_singleton.mp hv];exact⟨N,_,aq⟩)
  have t6:([(nm,(s,6))].foldr (λv t=>kJ t v.1 v.2) T4) nm=(s,6):=jx;have o6:upd H5 nm (.dK []) nm=some (.dK []):=aq;have hp6:=s6 _ _ hp5;generalize upd H5 nm (.dK [])=H6 at s6 e6 o6 hp6 ⊢;generalize ([(nm,(s,6))]:List (Addr×(Nat×Nat))).foldr (λv t=>kJ t v.1 v.2) T4=T6 at e6 t6;walk_at"e";refine⟨p,X.W,dx,_,rfl,hp6,T.cW,T.nWn,by rw[<- Y];show 3<1000;decide,?_⟩;have e7:=Ex.Zn1 (p:=p) (o:=.ins X.W dx (cC "names" (.ref nm) (cC "hands" (.ref d) r))) e6.wt hp6;have R:upd H6 p (.ins X.W dx (cC "names" (.ref nm) (cC "hands" (.ref d) r))) p=some (.ins X.W dx (cC "names" (.ref nm) (cC "hands" (.ref d) r))):=aq;generalize upd H6 p (.ins X.W dx (cC "names" (.ref nm) (cC "hands" (.ref d) r)))=H7 at e7 R ⊢;walk_at"e";intro sw ds F nds nes;refine⟨sw,rfl,ds,aq,λgr H8 g b1 b2 k8=>⟨rfl,?_⟩⟩;have Zwh:H7 gr=none:=by
   by_cases z:gr=sw
   ·rw[z,aq]at g;cases g
   ·rw[aC z]at g
    by_cases y:gr=ds
    ·rw[y,aq]at g;cases g
    ·rw[aC y]at g;exact g
  have s8:aV H7 H8:=λb o hb=>k8 b o (by rw[aC (aD hb F),aC (aD hb nds)];exact hb) (aD hb F);have e8:Ex p H7 H8 T6 _:=Ex.news (p:=p) (vs:=[(sw,(s,7)),(gr,(s,8))]) e7.wt s8 (by
   intro v hv;simp only[List.mem_cons,List.not_mem_nil,or_false]at hv;rcases hv with rfl | rfl
   ·exact⟨F,_,b1⟩
   ·exact⟨Zwh,_,b2⟩)
  have nsg:sw≠gr:=qU b1 b2 (λz=>by cases z);have ts8:([(sw,(s,7)),(gr,(s,8))].foldr (λv t=>kJ t v.1 v.2) T6) sw=(s,7):=jx;have tg8:([(sw,(s,7)),(gr,(s,8))].foldr (λv t=>kJ t v.1 v.2) T6) gr=(s,8):=(mC nsg.symm).trans jx;generalize ([(sw,(s,7)),(gr,(s,8))]:List (Addr×(Nat×Nat))).foldr (λv t=>kJ t v.1 v.2) T6=T8 at e8 ts8 tg8;have hp8:=s8 _ _ R;have nsp:sw≠p:=λz=>by rw[z,R]at F;cases F
  have ngp:gr≠p:=λz=>by rw[z,R]at Zwh;cases Zwh
  clear k8 g;walk_at"e";refine⟨p,X.W,dx,_,rfl,hp8,T.cW,T.SQ,by rw[<- Y];show 4<1000;decide,?_⟩;have e9:=Ex.Zn1 (p:=p) (o:=.ins X.W dx (cC "sweeper" (.ref sw) (cC "names" (.ref nm) (cC "hands" (.ref d) r)))) e8.wt hp8;have hp9:upd H8 p (.ins X.W dx (cC "sweeper" (.ref sw) (cC "names" (.ref nm) (cC "hands" (.ref d) r)))) p=some (.ins X.W dx (Cp hq ki d nm sw)):=by
   rw[aq,<- Y,Zkn]
  generalize upd H8 p (.ins X.W dx (cC "sweeper" (.ref sw) (cC "names" (.ref nm) (cC "hands" (.ref d) r))))=H9 at e9 hp9 ⊢;have Z:=e9;have f69:=e7.trans (e8.trans e9);have f49:=e5.trans (e6.trans f69);have E:=e4.trans f49;have B:=ex.trans E;have f:=e3.trans B;obtain⟨⟨dk,ok⟩,⟨dl,ol⟩⟩:=kd;have hlk:∃o,H lk=some o:=by
   rcases ol with ⟨_,z⟩ | ⟨_,z⟩ | ⟨_,z⟩
   ·exact⟨_,z⟩
   ·exact⟨_,z⟩
   ·exact⟨_,z⟩
  obtain⟨olk,elk⟩:=hlk;refine hQ H9 T8 ⟨p,hq,ca,ki,lk,d,nm,sw,gr,hs,[],[]⟩ f.kp (λb o hb nb=>(f.tg b o hb).trans (O b o hb nb)) f.wt rfl ⟨⟨(f.tg _ _ hp).trans tp,(f.tg _ _ ok).trans ((O _ _ ok nki).trans tki),(f.tg _ _ elk).trans ((O _ _ elk U).trans tlk),(f49.tg _ _ o4).trans t4,⟨dx,hp9⟩,⟨dk,f.kp _ _ ok nki⟩,⟨dl,?_⟩,f49.kp _ _ o4 nhp⟩,
   ⟨(B.tg _ _ J).trans th1,(B.tg _ _ L).trans tc1,⟨dh,B.kp _ _ J nph⟩,B.kp _ _ L npc⟩,⟨(f69.tg _ _ o6).trans t6,f69.kp _ _ o6 nnp,.nil⟩,
   ⟨(Z.tg _ _ b1).trans ts8,(Z.tg _ _ b2).trans tg8,⟨ds,Z.kp _ _ b1 nsp⟩,Z.kp _ _ b2 ngp⟩,⟨?_,by show hs.length<=30;rw[hl,hk,ltl];exact hn,?_⟩,⟨rfl,λi q c z=>by simp at z⟩⟩
  ·rcases ol with ⟨z,y⟩ | ⟨z,y⟩ | ⟨z,y⟩
   ·exact .inl ⟨z,f.kp _ _ y U⟩
   ·exact .inr (.inl ⟨z,f.kp _ _ y U⟩)
   ·exact .inr (.inr ⟨z,f.kp _ _ y U⟩)
  ·show hs.length=(hands.map _).length;rw[aX,hl,hk,ltl]
  ·intro j q m z1 I;have I:(hands.map λm=>(m.1,List.replicate m.2.toNat none))[j]? =some m:=I;rw[cA]at I;obtain⟨m0,y1,rfl⟩:=Option.map_eq_some_iff.mp I;obtain⟨⟨u1,u2,⟨du,u3⟩,u4⟩,v1,v2⟩:=hds j q m0 z1 y1;exact⟨(E.tg _ _ u3).trans u1,(E.tg _ _ u4).trans u2,⟨du,E.kp _ _ u3 v1⟩,E.kp _ _ u4 v2⟩
 ·have M:i<ts.length:=by omega
  refine .inr ⟨⟨_,_,cj.of (sx _ _ P),by rw[cA,bK M];rfl⟩,?_,λx H' y=>?_⟩
  ·rw[aX,hl];exact Nat.lt_of_lt_of_le M (aU (by omega))
  obtain⟨y1,y2⟩:=y;subst y1;have ey:=y2 _ (cj.of (sx _ _ P));rw[cA,bK M]at ey;have ey:x=.ref ts[i]:=(Option.some.inj ey).symm;subst ey;obtain⟨m,hm,ot,m0,m1⟩:=ZAl i _ (bK M);refine Bs (Zi8 ⟨ts[i],.str m.1,.int m.2,_,rfl,fZ.of (sx _ _ ot),?_⟩);walk_at"c";walk_at"e";intro q1 dq nq ndq neq;refine⟨q1,m.1,m.2,rfl,dq,aq,m0,m1,λsa Hy n b1 b2 k=>⟨rfl,?_⟩⟩;have Zwd:H' sa=none:=by
   by_cases z:sa=q1
   ·rw[z,aq]at n;cases n
   ·rw[aC z]at n
    by_cases y:sa=dq
    ·rw[y,aq]at n;cases n
    ·rw[aC y]at n;exact n
  have sy:aV H' Hy:=λb o hb=>k b o (by rw[aC (aD hb nq),aC (aD hb ndq)];exact hb) (aD hb nq);have ey:Ex p H' Hy Tx _:=Ex.news (p:=p) (vs:=[(q1,(s,20+2 * i)),(sa,(s,21+2 * i))]) ex.wt sy (by
   intro v hv;simp only[List.mem_cons,List.not_mem_nil,or_false]at hv;rcases hv with rfl | rfl
   ·exact⟨nq,_,b1⟩
   ·exact⟨Zwd,_,b2⟩)
  have nqs:q1≠sa:=qU b1 b2 (λz=>by cases z);have u:=sx _ _ g3;refine⟨ts.length - (i+1),by omega,by omega,rfl,hs++[(q1,sa)],_,by rw[List.map_append];rfl,by rw[List.length_append,hl];rfl,sx.trans sy,ex.trans ey,λj q m' z1 I=>?_⟩
  by_cases hj:j<hs.length
  ·rw[List.getElem?_append_left hj]at z1;obtain⟨⟨u1,u2,⟨du,u3⟩,u4⟩,v1,v2⟩:=hds j q m' z1 I;exact⟨⟨(ey.tg _ _ u3).trans u1,(ey.tg _ _ u4).trans u2,⟨du,sy _ _ u3⟩,sy _ _ u4⟩,v1,v2⟩
  ·have hj':=(dH z1).1;rw[List.length_append,List.length_singleton]at hj';have ej:j=hs.length:=by omega
   subst ej;rw[List.getElem?_append_right (Nat.le_refl _),Nat.sub_self]at z1;cases z1;rw[hl]at I ⊢;rw[hm]at I;cases I;exact⟨⟨jx,(mC nqs.symm).trans jx,⟨dq,b1⟩,by rw[b2,List.map_replicate];rfl⟩,(λz=>by rw[show q1=p from z,u]at nq;cases nq),(λz=>by rw[show sa=p from z,u]at Zwd;cases Zwd)⟩
end
def zq(M:Wm)(i:Int)(c:Ce):Str:=if M.sw.phase="rest" then "kept" else if M.sw.phase="give" then(if c.tone=M.sw.sense then "kept" else "doomed")else if c.tone=M.sw.sense then(if i∈M.sw.grey then "grey" else "dark")else "pale"
def gb(M:Wm):List (Int×Ce):=(List.range M.cells.length).filterMap λ(i:Nat)=>((M.cells[i]?).join).map λc=>((i:Int),c)
def Gb(X:Cs):Sp:=λvs H Q E=>∃wo i,vs=[.ref wo,.int i]/\∃T s A M c,WJ X H T s A M/\A.wo=wo/\0<=i/\M.cells[i.toNat]? =some (some c)/\Q (.str (zq M i c)) H
def TcO(M:Wm)(H:Hp)(p:Addr×Addr)(t:Int×Ce):Prop:=H p.1=some (.tup [.int t.1,.int t.2.birth,.int t.2.bulk,.int t.2.load,.ref p.2,.str (zq M t.1 t.2)])/\H p.2=some (.lst ((t.2.fl.map (vV M)).map oV))
def xq(X:Cs):Sp:=λvs H Q E=>∃wo i,vs=[.ref wo,.int i]/\∃T s A M c,WJ X H T s A M/\A.wo=wo/\0<=i/\M.cells[i.toNat]? =some (some c)/\c.fl.length<=1000/\∀a l H',aV H H'->H a=none->H l=none->TcO M H' (a,l) (i,c)->Q (.ref a) H'
def Ig(X:Cs):Sp:=λvs H Q E=>∃wo,vs=[.ref wo]/\∃T s A M,WJ X H T s A M/\A.wo=wo/\M.cells.length<=1000/\(∀c,some c∈M.cells->c.fl.length<=1000)/\
 ∀(l:Addr) (ls:List Addr) H',aV H H'->H' l=some (.lst (ls.map V.ref))->ls.length=(gb M).length->(∀(j:Nat) r t,ls[j]? =some r->(gb M)[j]? =some t->∃f,TcO M H' (r,f) t/\H f=none/\H r=none)->H l=none->Q (.ref l) H'
def Zo5{X:Cs}{H:Hp}{T:Tg}{s:Nat}{A:Wa}{M:Wm}(j:WJ X H T s A M):plc (A.cs.map pV)=(gb M).map (·.1):=by
 have a:∀i,i<M.cells.length->(decide ((A.cs.map pV)[i]? =some V.non)=true↔(M.cells[i]?).join=none):=λi b=>by
  rw[decide_eq_true_iff,cA];cases hc:M.cells[i]? with
  | none=>rw[List.getElem?_eq_none_iff]at hc;omega
  | some y=>cases y with
   | none=>rw[j.jc.at0 hc];simp[pV]
   | some c=>
    obtain⟨p,hp,_⟩:=j.jc.at hc;rw[hp];simp[pV]
 unfold plc gb;rw[aX,j.jc.lc];generalize hn:M.cells.length=n at a;clear hn
 induction n with
 | zero=>rfl
 | succ n d=>
  rw[List.range_succ,List.filter_append,List.map_append,List.filterMap_append,List.map_append,d λi b=>a i (by omega)];congr 1;have k:=a n (by omega);cases hc:(M.cells[n]?).join with
  | none=>
   have:decide ((A.cs.map pV)[n]? =some V.non)=true:=k.mpr hc;simp only[List.filter_cons,this,Bool.not_true,List.filter_nil,List.filterMap_cons,hc,Option.map_none,List.filterMap_nil];rfl
  | some c=>
   have:decide ((A.cs.map pV)[n]? =some V.non)=false:=by
    cases hd:decide ((A.cs.map pV)[n]? =some V.non)with
    | false=>rfl
    | true=>rw[k.mp hd]at hc;cases hc
   simp only[List.filter_cons,this,Bool.not_false,List.filter_nil,List.filterMap_cons,hc,Option.map_some,List.filterMap_nil];rfl
def Zjl{M:Wm}{j:Nat}{t:Int×Ce}(h:(gb M)[j]? =some t):0<=t.1/\M.cells[t.1.toNat]? =some (some t.2):=by
 have hm:=List.mem_of_getElem? h;unfold gb at hm;obtain⟨i,a,e⟩:=List.mem_filterMap.mp hm;obtain⟨c,hc,rfl⟩:=Option.map_eq_some_iff.mp e;refine⟨by show(0:Int)<=(i:Nat);omega,?_⟩;show M.cells[((i:Nat):Int).toNat]? =some (some c);rw[Int.toNat_natCast];cases hx:M.cells[i]? with
 | none=>rw[hx]at hc;cases hc
 | some y=>rw[hx]at hc;rw[show y=some c from hc]
section
variable {K:aB}{X:Cs}{H:Hp}{Q:VK}{E:XK}{n:St->Hp->Prop}{bk ct:St->Hp->Prop}
def Zed{i:Int}{l:List Int}:inV (.int i) (l.map V.int)=decide (i∈l):=by
 unfold inV
 induction l with
 | nil=>rfl
 | cons a l b=>
  rw[List.map_cons,List.any_cons,b]
  by_cases e:i=a
  ·subst e;simp[Yj]
  ·have c:¬ a=i:=λz=>e z.symm;simp[Yj,e,c]
def Zhu{wo:Addr}{i:Int}(T:qC K X)(q:∃T s A M c,WJ X H T s A M/\A.wo=wo/\0<=i/\M.cells[i.toNat]? =some (some c)/\Q (.str (zq M i c)) H):Hu K (cL X) ⟨n,Q,bk,ct⟩ [some (.ref wo),some (.int i),none,none] H:=by
 obtain⟨Tg,s,A,M,c,j,rfl,b,hc,q⟩:=q;obtain⟨f,ow⟩:=j.jb.ow;obtain⟨d,os⟩:=j.js.os;obtain⟨th,tc,⟨e,oh⟩,oc⟩:=j.jh;obtain⟨p,hp,ce⟩:=j.jc.at hc;unfold Hu;walk_at"e";refine aH ow T.cW T.SQ bw ?_;walk_at"e";refine aH ow T.cW T.Ow bD ?_;refine aH oh T.c.cM T.c.bN bU ?_;walk_at"e";refine iw (cj.of oc) (rC (v:=.ref p.1) b (by rw[cA,hp];rfl)) ?_;walk_at"e";refine⟨_,_,rfl,Tg,s,A,M,_,p,c,j.w0,rfl,ce,rfl,?_⟩;walk_at"e";refine aH os T.cS T.n2 fO ?_;walk_at"e";unfold zq at q;refine wD (λz=>?_) (λz=>?_)
 ·rw[if_pos z]at q;walk_at"e";exact q
 ·rw[if_neg z]at q;walk_at"e";refine aH os T.cS T.n2 fO ?_;walk_at"e";refine wD (λy=>?_) (λy=>?_)
  ·rw[if_pos y]at q;walk_at"e";refine wD (λx=>?_) (λx=>?_)
   ·rw[if_pos x]at q;walk_at"e";exact q
   ·rw[if_neg x]at q;walk_at"e";exact q
  ·rw[if_neg y]at q;walk_at"e";refine HY (λx=>?_) (λx=>?_)
   ·rw[if_neg x]at q;walk_at"e";exact q
   ·rw[if_pos x]at q;walk_at"e";refine aH os T.cS T.n3 jj ?_;refine⟨_,_,rfl,.inl (cj.of j.js.og),rfl,?_,?_⟩
    ·rw[List.all_map,List.all_eq_true];intro a _;rfl
    rw[if_neg (by decide),Zed];walk_at"e";refine wD (λy=>?_) (λy=>?_)
    ·rw[if_pos y]at q;walk_at"e";exact q
    ·rw[if_neg y]at q;walk_at"e";exact q
def Yy{wo:Addr}{i:Int}(T:qC K X)(q:∃T s A M c,WJ X H T s A M/\A.wo=wo/\0<=i/\M.cells[i.toNat]? =some (some c)/\c.fl.length<=1000/\∀a l H',aV H H'->H a=none->H l=none->TcO M H' (a,l) (i,c)->Q (.ref a) H'):
  z8 K (jY X) (Gb X) ⟨n,Q,bk,ct⟩ [some (.ref wo),some (.int i),none,none] H:=by
 obtain⟨Tg,s,A,M,c,j,rfl,e,hc,hl,q⟩:=q;obtain⟨k,ow⟩:=j.jb.ow;obtain⟨th,tc,⟨h,oh⟩,oc⟩:=j.jh;obtain⟨p,hp,ce⟩:=j.jc.at hc;obtain⟨t1,t2,⟨dx,o1⟩,o2⟩:=id ce;unfold z8;walk_at"e";refine aH ow T.cW T.Ow bD ?_;refine aH oh T.c.cM T.c.bN bU ?_;walk_at"e";refine iw (cj.of oc) (rC (v:=.ref p.1) e (by rw[cA,hp];rfl)) ?_;walk_at"e";refine aH ow T.cW T.Ow bD ?_;walk_at"e";refine aH o1 T.c.di T.c.eX lJ ?_;walk_at"e";refine⟨_,_,rfl,Tg,s,A,M,c.fl,j,rfl,o2,hl,λl nl=>?_⟩;generalize zz:upd H l _=H1;obtain⟨b,g⟩:=nwO nl zz;walk_at"e";refine aH (b _ _ o1) T.c.di T.c.dX gR ?_;walk_at"e";refine aH (b _ _ o1) T.c.di T.c.mO GR ?_;walk_at"e";refine aH (b _ _ o1) T.c.di T.c.jK yP ?_;walk_at"e";refine⟨_,_,rfl,Tg,s,A,M,c,j.same b,rfl,e,hc,?_⟩;walk_at"e";refine⟨aU (by simp),λa d=>?_⟩;have f:=aL d (.tup [.int i,.int c.birth,.int c.bulk,.int c.load,.ref l,.str (zq M i c)]);exact q a l _ (b.trans f) (b.free d) nl ⟨aq,f _ _ g⟩
def UJ{wo:Addr}(T:qC K X)(q:∃T s A M,WJ X H T s A M/\A.wo=wo/\M.cells.length<=1000/\(∀c,some c∈M.cells->c.fl.length<=1000)/\
 ∀(l:Addr) (ls:List Addr) H',aV H H'->H' l=some (.lst (ls.map V.ref))->ls.length=(gb M).length->(∀(j:Nat) r t,ls[j]? =some r->(gb M)[j]? =some t->∃f,TcO M H' (r,f) t/\H f=none/\H r=none)->H l=none->Q (.ref l) H'):
  xY K X.H (m6 X.H) (xq X) ⟨n,Q,bk,ct⟩ [some (.ref wo)] H:=by
 obtain⟨Tg,s,A,M,j,rfl,hc,N,q⟩:=q;obtain⟨Y,ow⟩:=j.jb.ow;obtain⟨th,tc,⟨L,oh⟩,oc⟩:=j.jh;have hl:(gb M).length<=1000:=by
  have:=List.length_filterMap_le (λ(i:Nat)=>((M.cells[i]?).join).map λc=>((i:Int),c)) (List.range M.cells.length);rw[List.length_range]at this;exact Nat.le_trans this hc
 unfold xY;walk_at"e";refine J7 ?_;walk_at"e";refine aH ow T.cW T.Ow bD ?_;refine⟨A.hp,L,_,rfl,oh,Ew,?_⟩;walk_at"e";refine⟨_,rfl,_,_,_,_,_,j.hpO,by rw[aX,j.jc.lc];exact hc,λI v=>?_⟩;rw[Zo5 j];generalize zz:upd H I _=F;obtain⟨h,C⟩:=nwO v zz;refine⟨_,rfl,⟨_,cj.of C⟩,?_⟩;refine Tf (cj.of C) (by rw[aX,aX];omega) (λi r O=>∃t f,(gb M)[i]? =some t/\TcO M O (r,f) t/\H f=none) (λ_ _ _ _ ⟨t,f,e,⟨z1,u⟩,B⟩ s=>⟨t,f,e,⟨s _ _ z1,s _ _ u⟩,B⟩) (λ_ _ _ ⟨_,_,_,⟨z,_⟩,_⟩=>⟨_,z⟩) (λx F q hq=>Bs hq) (λi x W d m U hq=>?_) ?_
 ·rw[cA,cA]at d;cases o:(gb M)[i]? with
  | none=>rw[o]at d;cases d
  | some t=>
   rw[o]at d;cases d;obtain⟨R,b⟩:=Zjl o;walk_at"c";walk_at"e";refine⟨_,_,rfl,Tg,s,A,M,t.2,j.same (h.trans m),rfl,R,b,N _ (List.mem_of_getElem? b),λa l E g P nl w=>?_⟩;exact hq a E g P ⟨t,l,o,w,(h.trans m).free nl⟩
 ·intro rs H' m y _ J hr p hp;have g:=aL hp (.lst (rs.map V.ref));refine q p rs _ (h.trans (m.trans g)) aq (by rw[y,aX,aX]) (λk r t D S=>?_) (h.free (m.free hp));obtain⟨t',f,e3,⟨z1,u⟩,B⟩:=hr k r D;rw[S]at e3;cases e3;exact⟨f,⟨g _ _ z1,g _ _ u⟩,B,h.free (J r (List.mem_of_getElem? D))⟩
end
section
variable {K:aB}{X:Cs}{H:Hp}{Q:VK}{E:XK}{T:Tg}{s:Nat}{A:Wa}{M:Wm}
def Zme{i:Nat}{c:Ce}(j:WJ X H T s A M)(w:WT H T)(n:s≠0)(hc:M.cells[i]? =some (some c))
  (k:∀H' a,jw s H H' T T->WJ X H' T s a { M with used:=M.used - (1+c.fl.length+c.bulk),cells:=M.cells.set i none }->a.wo=A.wo/\a.sw=A.sw->Q (.int c.birth) H'):
  uv X.C X.H [.ref A.hp,.int i] H Q E:=by
 obtain⟨th,tc,⟨h,oh⟩,oc⟩:=j.jh;obtain⟨l,f,ce⟩:=j.jc.at hc;obtain⟨_,_,⟨p,o1⟩,d⟩:=id ce;have hl:=(dH hc).1;refine⟨A.hp,i,rfl,A.ca,h,M.room,M.used,M.born,A.cs.map pV,l.1,l.2,c.birth,c.bulk,c.tone,c.load,c.fl.map oV,by omega,oh,oc,by rw[Int.toNat_natCast,cA,f];rfl,⟨⟨p,o1⟩,d⟩,?_⟩;rw[Int.toNat_natCast,aX];have e:A.hp≠A.ca:=qU oh oc (λz=>by cases z);obtain⟨g,m⟩:=j.back w n (i:=i) (used':=M.used - (1+c.fl.length+c.bulk)) (by rw[j.jc.lc];exact hl) (upd (upd H A.hp (.ins X.H h (lH M.room A.ca (M.used - (1+c.fl.length+c.bulk)) M.born))) A.ca (.lst ((A.cs.map pV).set i V.non)))
  (λb o hb n1 n2=>by rw[aC n2,aC n1];exact hb) (by rw[aC e];exact aq) aq
 exact k _ _ g m ⟨rfl,rfl⟩
end
def heldOf(M:Wm):List (List (Option Int)):=M.hands.map (·.2)
def Zc6(X:Cs):Sp:=λvs H Q E=>∃wo,vs=[.ref wo]/\∃T s A M,WJ X H T s A M/\A.wo=wo/\M.hands.length<=1000/\∀(l:Addr) (ls:List Addr) H',aV H H'->H l=none->H' l=some (.lst (ls.map V.ref))->ls.length=(heldOf M).length->ls.Nodup->(∀r∈ls,H r=none)->l∉ls->(∀(j:Nat) r x,ls[j]? =some r->(heldOf M)[j]? =some x->H' r=some (.lst (x.map oV)))->Q (.ref l) H'
section
variable {K:aB}{X:Cs}{H:Hp}{Q:VK}{E:XK}{n:St->Hp->Prop}{bk ct:St->Hp->Prop}
def Ztv{wo:Addr}(T:qC K X)(q:∃T s A M,WJ X H T s A M/\A.wo=wo/\M.hands.length<=1000/\∀(l:Addr) (ls:List Addr) H',aV H H'->H l=none->H' l=some (.lst (ls.map V.ref))->ls.length=(heldOf M).length->ls.Nodup->(∀r∈ls,H r=none)->l∉ls->(∀(j:Nat) r x,ls[j]? =some r->(heldOf M)[j]? =some x->H' r=some (.lst (x.map oV)))->Q (.ref l) H'):
  Zx K ⟨n,Q,bk,ct⟩ [some (.ref wo)] H:=by
 obtain⟨Tg,s,A,M,j,rfl,hl,q⟩:=q;obtain⟨dx,ow⟩:=j.jb.ow;unfold Zx;walk_at"e";refine J7 ?_;walk_at"e";refine aH ow T.cW T.nWd eV ?_;have l5:=j.jd.l5;refine⟨_,rfl,⟨_,cj.of j.jb.on⟩,?_⟩;refine Tf (cj.of j.jb.on) (by rw[aX];omega) (λi r t=>∃x,(heldOf M)[i]? =some x/\t r=some (.lst (x.map oV))) (λ_ _ _ _ ⟨x,e,z⟩ s=>⟨x,e,s _ _ z⟩) (λ_ _ _ ⟨_,_,z⟩=>⟨_,z⟩) (λx g q hq=>Bs hq) (λi x g b a w hq=>?_) ?_
 ·rw[cA]at b;obtain⟨p,hp,rfl⟩:=Option.map_eq_some_iff.mp b;have u:=j.same a;obtain⟨m,hm,hd⟩:=u.hand hp;obtain⟨dx,o1⟩:=hd.o1;walk_at"c";walk_at"e";refine aH o1 T.cD T.nDs rz ?_;walk_at"e";refine J4 (cj.of hd.o2) λl hl=>?_;exact hq l _ (aL hl _) hl ⟨_,by unfold heldOf;rw[cA,hm];rfl,aq⟩
 ·intro rs H' a hl nd o hr p hp;have d:=aL hp (.lst (rs.map V.ref));refine q p rs _ (a.trans d) (a.free hp) aq ?_ nd o (λz=>?_) λf r x h v=>?_
  ·rw[hl,aX];unfold heldOf;rw[aX,j.jd.lh]
  ·obtain⟨k,hk,e⟩:=List.getElem_of_mem z;obtain⟨_,_,c⟩:=hr k p (by rw[bK hk,e]);rw[hp]at c;cases c
  ·obtain⟨y,e3,z⟩:=hr f r h;rw[v]at e3;cases e3;exact d _ _ z
end
def pU(w:Int)(h:Nat):Int:=if w=0 then 2 ^ h - 1 else 0
def Fb(M:Wm):Wm:={ M with sw:={ M.sw with sense:=1 - M.sw.sense,phase:="walk",grey:=[],looked:=pU M.w M.hands.length,turn:=M.sw.turn+1,walks:=0,looks:=0,passes:=0 } }
def wg:Sp:=λvs H Q E=>∃h,vs=[.int h]/\0<=h/\h<=30/\Q (.int (2 ^ h.toNat - 1)) H
def oR(k:Nat):Sp:=λvs H Q E=>∃a h,vs=[.ref a,.int h]/\0<=h/\h<=30/\Q (.int (if k=0 then 2 ^ h.toNat - 1 else 0)) H
def Z0q (H:Hp)(X:Cs)(wo:Addr)(Q:VK):Prop:=∃T s A M,WT H T/\s≠0/\WJ X H T s A M/\A.wo=wo/\∀H' T' a,jw s H H' T T'->WJ X H' T' s a (Fb M)->a.wo=wo/\a.sw=A.sw->Q .non H'
def Q7(X:Cs):Sp:=λvs H Q E=>∃wo,vs=[.ref wo]/\Z0q H X wo Q
section
variable {X:Cs}{H H':Hp}{T T':Tg}{s:Nat}{A:Wa}{M:Wm}
def WJ.Zt3(j:WJ X H T s A M)(w:WT H T)(i:s≠0){dx l:Addr}(S:Sw)(hl:H l=none)(D:S.grey=[]):
  jw s H (upd (upd H l (.lst [])) A.sw (.ins X.S dx (cB S.sense S.phase l S.looked S.turn S.at' S.stop S.walks S.looks S.passes S.loss))) T (kJ T l (s,8))/\
  WJ X (upd (upd H l (.lst [])) A.sw (.ins X.S dx (cB S.sense S.phase l S.looked S.turn S.at' S.stop S.walks S.looks S.passes S.loss))) (kJ T l (s,8)) s { A with gr:=l } { M with sw:=S }:=by
 obtain⟨ts,tg,⟨dd,os⟩,og⟩:=id j.js;have g:l≠A.sw:=(aD os hl).symm;have k:WT (upd H l (.lst [])) (kJ T l (s,8)):=Zfm (w.same (aL hl _)) aq;have d:jw s H (upd H l (.lst [])) T (kJ T l (s,8)):=⟨λb o h _=>(aL hl _) _ _ h,λb o h=>⟨o,(aL hl _) _ _ h⟩,λb o h=>mC (aD h hl),k⟩;have c:WJ X (upd H l (.lst [])) (kJ T l (s,8)) s A M:=j.fresh hl;obtain⟨a,O,⟨F,e⟩,q⟩:=id c.js;refine⟨d.trans (jw.upd k e (by rw[a])),?_⟩;have f:yU s (·=7) (upd H l (.lst [])) (upd (upd H l (.lst [])) A.sw (.ins X.S dx (cB S.sense S.phase l S.looked S.turn S.at' S.stop S.walks S.looks S.passes S.loss))) (kJ T l (s,8)) (kJ T l (s,8)):=yU.Ej a;have C:=c.jb.mv f (qg i a) (by omega) (by omega);have v:=c.jh.mv f (by omega) (by omega);have K:=c.jn.mv f (qg i a) (by omega);have x:=c.jd.mv f λ_ _ _=>by omega
 have N:=c.jc.mv f λ_ _=>by omega
 obtain⟨I,n,E,m,u,t,r,B⟩:=C;obtain⟨y1,L,z,y⟩:=v;obtain⟨z1,p,J⟩:=K;exact⟨⟨I,n,E,m,u,t,r,B⟩,⟨y1,L,z,y⟩,⟨z1,p,J⟩,⟨a,jx,⟨dx,aq⟩,by rw[aC g,aq,D];rfl⟩,x,N⟩
end
section
variable {K:aB}{X:Cs}{H:Hp}{Q:VK}{E:XK}{n:St->Hp->Prop}{bk ct:St->Hp->Prop}
def Zv9{j:Int}(a:0<=j)(h1:j<=1000):Zcj 1 j:=⟨a,by omega,by decide⟩
def Zms{h:Int}(q:0<=h/\h<=30/\Q (.int (2 ^ h.toNat - 1)) H):Ly ⟨n,Q,bk,ct⟩ [some (.int h)] H:=by
 obtain⟨a,h1,q⟩:=q;unfold Ly;walk_at"e";refine⟨_,_,rfl,rfl,Zv9 a (by omega),?_⟩;walk_at"e";rw[Int.one_mul];exact q
def Gs{a:Addr}{h:Int}(q:0<=h/\h<=30/\Q (.int (if (1:Nat)=0 then 2 ^ h.toNat - 1 else 0)) H):pA ⟨n,Q,bk,ct⟩ [some (.ref a),some (.int h)] H:=by
 unfold pA;walk_at"e";exact q.2.2
def KH{a:Addr}{h:Int}(q:0<=h/\h<=30/\Q (.int (if (0:Nat)=0 then 2 ^ h.toNat - 1 else 0)) H):qN wg ⟨n,Q,bk,ct⟩ [some (.ref a),some (.int h)] H:=by
 obtain⟨b,h1,q⟩:=q;unfold qN;walk_at"e";exact⟨h,rfl,b,h1,q⟩
def Zr3{wo:Addr}(c:qC K X)(q:Z0q H X wo Q):
  RT K X.E X.F X.L (oR 0) (oR 1) ⟨λ_ H'=>Q .non H',Q,bk,ct⟩ [some (.ref wo),none] H:=by
 obtain⟨T,s,A,M,w,N,j,rfl,q⟩:=q;obtain⟨R,ow⟩:=j.jb.ow;obtain⟨ds,os⟩:=j.js.os;obtain⟨P,ok⟩:=j.jb.ok;obtain⟨dl,ol⟩:=j.jb.ol;have on:=j.jb.on;have lh:=j.jd.lh;have l5:=j.jd.l5;unfold RT;walk_at"e";refine aH ow c.cW c.SQ bw ?_;walk_at"e";refine aH os c.cS c.n1 nJ ?_;walk_at"e";refine⟨A.sw,X.S,ds,_,rfl,os,c.cS,c.n1,by show 11<1000;decide,?_⟩;rw[KZ];walk_at"e";refine aH aq c.cS c.n5 qD ?_;walk_at"e";refine⟨A.sw,X.S,ds,_,rfl,aq,c.cS,c.n5,by show 11<1000;decide,?_⟩;rw[PL,eG];walk_at"e";refine⟨A.sw,X.S,ds,_,rfl,aq,c.cS,c.n2,by show 11<1000;decide,?_⟩;rw[oW,eG];walk_at"e";refine⟨by decide,λgr m=>?_⟩;have v:A.sw≠gr:=aD aq m;have t:H gr=none:=by rw[aC v.symm]at m;exact m
 walk_at"e";refine⟨A.sw,X.S,ds,_,rfl,by rw[aC v];exact aq,c.cS,c.n3,by show 11<1000;decide,?_⟩;rw[P0];have B:∀(a b:HO) (o:HO),upd (upd (upd H A.sw a) gr o) A.sw b=upd (upd H gr o) A.sw b:=λa b o=>by
  funext x
  by_cases z:x=A.sw
  ·rw[z,aq,aq]
  ·rw[aC z,aC z]
   by_cases y:x=gr
   ·rw[y,aq,aq]
   ·rw[aC y,aC y,aC z]
 rw[B];have fin:∀{lo:Int}{σ:St},σ=[some (.ref A.wo),some (.ref A.sw)]->lo=pU M.w M.hands.length->∀(n:Hp),n=upd (upd H gr (.lst [])) A.sw (.ins X.S ds (cB (1 - M.sw.sense) "walk" gr M.sw.looked (M.sw.turn+1) M.sw.at' M.sw.stop M.sw.walks M.sw.looks M.sw.passes M.sw.loss))->
   (∃a C dx fs,V.ref A.sw=.ref a/\n a=some (.ins C dx fs)/\Hg K C/\bM K C "looked"/\fs.length<1000/\(aN (iu K (ak 1) (tC (.int 0)) "walks") (aN (iu K (ak 1) (tC (.int 0)) "looks") (iu K (ak 1) (tC (.int 0)) "passes"))) ⟨λ_ H'=>Q .non H',Q,bk,ct⟩ σ (upd n a (.ins C dx (cC "looked" (.int lo) fs)))):=by
  rintro lo σ rfl D n rfl;refine⟨A.sw,X.S,ds,_,rfl,aq,c.cS,c.n4,by show 11<1000;decide,?_⟩;rw[wK,eG];walk_at"e";refine⟨A.sw,X.S,ds,_,rfl,aq,c.cS,c.n8,by show 11<1000;decide,?_⟩;rw[yX,eG];walk_at"e";refine⟨A.sw,X.S,ds,_,rfl,aq,c.cS,c.n9,by show 11<1000;decide,?_⟩;rw[rJ,eG];walk_at"e";refine⟨A.sw,X.S,ds,_,rfl,aq,c.cS,c.n10,by show 11<1000;decide,?_⟩;rw[wJ,eG];obtain⟨st,J⟩:=j.Zt3 w N (dx:=ds) (l:=gr) { M.sw with sense:=1 - M.sw.sense,phase:="walk",grey:=[],looked:=pU M.w M.hands.length,turn:=M.sw.turn+1,walks:=0,looks:=0,passes:=0 } t rfl;subst D;exact q _ _ _ st J ⟨rfl,rfl⟩
 have kp:∀b o,H b=some o->b≠A.sw->upd (upd H gr (.lst [])) A.sw (.ins X.S ds (cB (1 - M.sw.sense) "walk" gr M.sw.looked (M.sw.turn+1) M.sw.at' M.sw.stop M.sw.walks M.sw.looks M.sw.passes M.sw.loss)) b=some o:=λb o hb O=>by
  rw[aC O,aC (aD hb t)];exact hb
 have r:∀{a:Addr}{C d:Addr}{fs:List (Str×V)},H a=some (.ins C d fs)->fs.length<11->a≠A.sw:=λe hl z=>by
  rw[z,os]at e;have:=Option.some.inj e
  injection this with _ _ e3
  rw[<- e3]at hl;exact absurd hl (by show ¬ 11<11;decide)
 have f:=kp _ _ ow (r ow (by show 5<11;decide));have g:=kp _ _ ok (r ok (by show 2<11;decide));have h:=kp _ _ on (qU on os (λz=>by cases z));generalize i:upd (upd H gr (.lst [])) A.sw (.ins X.S ds (cB (1 - M.sw.sense) "walk" gr M.sw.looked (M.sw.turn+1) M.sw.at' M.sw.stop M.sw.walks M.sw.looks M.sw.passes M.sw.loss))=n at kp f g h ⊢;have k:((A.hs.map λp=>V.ref p.1).length:Int)=(M.hands.length:Int):=by rw[aX,lh]
 refine J2 ?_;walk_at"s";rcases ol with ⟨I,o⟩ | ⟨I,o⟩ | ⟨I,o⟩
 ·have u:=kp _ _ o (r o (by show 0<11;decide));refine XS ?_;walk_at"s";refine aH f c.cW c.nWk mF ?_;refine aH g c.cK c.nKl oZ ?_;walk_at"s";refine⟨A.lk,dl,_,rfl,u,rfl,?_⟩;walk_at"s";refine aH f c.cW c.nWd eV ?_;walk_at"s";refine jG (cj.of h) ?_;rw[k];walk_at"s";refine⟨A.lk,_,rfl,by omega,by omega,?_⟩;walk_at"s";exact fin rfl (by unfold pU;rw[if_pos I,if_pos rfl,Int.toNat_natCast]) _ i.symm
 ·have u:=kp _ _ o (r o (by show 0<11;decide));refine J3 (XS ?_);walk_at"s";refine aH f c.cW c.nWk mF ?_;refine aH g c.cK c.nKl oZ ?_;walk_at"s";refine⟨A.lk,dl,_,rfl,u,rfl,?_⟩;walk_at"s";refine aH f c.cW c.nWd eV ?_;walk_at"s";refine jG (cj.of h) ?_;rw[k];walk_at"s";refine⟨A.lk,_,rfl,by omega,by omega,?_⟩;walk_at"s";exact fin rfl (by unfold pU;rw[if_neg (show ¬ (1:Nat)=0 by decide),if_neg (by omega)]) _ i.symm
 ·have u:=kp _ _ o (r o (by show 0<11;decide));refine J3 (J3 ?_);walk_at"s";refine aH f c.cW c.nWk mF ?_;refine aH g c.cK c.nKl oZ ?_;walk_at"s";refine⟨A.lk,dl,_,rfl,u,rfl,?_⟩;walk_at"s";refine aH f c.cW c.nWd eV ?_;walk_at"s";refine jG (cj.of h) ?_;rw[k];walk_at"s";refine⟨A.lk,_,rfl,by omega,by omega,?_⟩;walk_at"s";exact fin rfl (by unfold pU;rw[if_neg (show ¬ (1:Nat)=0 by decide),if_neg (by omega)]) _ i.symm
end
def Q8(M:Wm):Bool:=decide (M.sw.phase="walk"\/M.sw.phase="lost")
def RN(M:Wm)(p b:Int):Option Int:=if um M p b=true then none else match cellAt M p with
 | none=>none
 | some c=>if Q8 M=true/\¬ c.tone=M.sw.sense then none else some p
def uZ(X:Cs):Sp:=λvs H Q E=>∃wo,vs=[.ref wo]/\∃T s A M,WJ0 X H T s A M/\A.wo=wo/\∀H',aV H H'->Q (.bl (Q8 M)) H'
def FW(X:Cs):Sp:=λvs H Q E=>∃wo p b,vs=[.ref wo,.int p,.int b]/\∃T s A M,WJ0 X H T s A M/\A.wo=wo/\∀H',aV H H'->Q (oV (RN M p b)) H'
section
variable {K:aB}{X:Cs}{H:Hp}{Q:VK}{E:XK}{n:St->Hp->Prop}{bk ct:St->Hp->Prop}
def V2{wo:Addr}(T:qC K X)(q:∃T s A M,WJ0 X H T s A M/\A.wo=wo/\∀H',aV H H'->Q (.bl (Q8 M)) H'):ye K ⟨n,Q,bk,ct⟩ [some (.ref wo)] H:=by
 obtain⟨Tg,s,A,M,j,rfl,q⟩:=q;obtain⟨g,ow⟩:=j.jb.ow;obtain⟨f,os⟩:=j.js.os;unfold ye;walk_at"e";refine aH ow T.cW T.SQ bw ?_;walk_at"e";refine aH os T.cS T.n2 fO ?_;walk_at"e";refine⟨aU (by simp),λtp a=>?_⟩;generalize zz:upd H tp _=H1;obtain⟨d,b⟩:=nwO a zz;refine⟨tp,_,rfl,.inr (fZ.of b),rfl,rfl,?_⟩;have q:=q H1 d;rw[show Q8 M=(if false=true then !inV (V.str M.sw.phase) [V.str "walk",.str "lost"]else inV (V.str M.sw.phase) [V.str "walk",.str "lost"])from by
  rw[if_neg Bool.false_ne_true];unfold Q8 inV
  by_cases h1:M.sw.phase="walk"
  ·simp[h1,Yj]
  ·by_cases h2:M.sw.phase="lost"
   ·simp[h2,Yj]
   ·have c:¬ ("walk":Str)=M.sw.phase:=λz=>h1 z.symm;have e:¬ ("lost":Str)=M.sw.phase:=λz=>h2 z.symm;simp[h1,h2,c,e,Yj]]at q
 exact q
def Zgw{wo:Addr}{p b:Int}(T:qC K X)(q:∃T s A M,WJ0 X H T s A M/\A.wo=wo/\∀H',aV H H'->Q (oV (RN M p b)) H'):Ht K (Ih X) (cL X) (uZ X) ⟨n,Q,bk,ct⟩ [some (.ref wo),some (.int p),some (.int b)] H:=by
 obtain⟨Tg,s,A,M,j,rfl,q⟩:=q;unfold Ht;walk_at"e";refine⟨_,_,_,rfl,Tg,s,A,M,j,rfl,?_⟩;have h:∀c,cellAt M p=some c->um M p b=false->RN M p b=if Q8 M=true/\¬ c.tone=M.sw.sense then none else some p:=λc hc a=>by
  unfold RN;rw[a,if_neg Bool.false_ne_true,hc]
 cases a:um M p b with
 | true=>
  walk_at"e";have:=q H (aV.refl _);rw[show RN M p b=none from if_pos a]at this;exact this
 | false=>
  walk_at"e";refine⟨_,rfl,Tg,s,A,M,j,rfl,λt m=>?_⟩;obtain⟨c,hc⟩:∃c,cellAt M p=some c:=by
   cases e:cellAt M p with
   | none=>
    have:um M p b=true:=by unfold um;rw[e]
    rw[this]at a;cases a
   | some c=>exact⟨c,rfl⟩
  have q:=q t m;rw[h c hc a]at q;have d:=j.same m;cases o:Q8 M with
  | false=>
   walk_at"e";rw[if_neg (λz=>by rw[o]at z;cases z.1)]at q;exact q
  | true=>
   walk_at"e";obtain⟨y,ow⟩:=d.jb.ow;obtain⟨x,oh⟩:=d.jh.oh;rcases d.look (some p)with ⟨g,_⟩ | ⟨i,c',l,w,u,k,r,hp,_,ce⟩
   ·have g:cellAt M p=none:=g;rw[hc]at g;cases g
   cases w;rw[hc]at k;cases k;refine aH ow T.cW T.Ow bD ?_;walk_at"e";refine aH oh T.c.cM T.c.bN bU ?_;walk_at"e";refine iw (cj.of d.jh.oc) (rC (v:=.ref l.1) u (by rw[cA,hp];rfl)) ?_;walk_at"e";refine⟨_,_,rfl,Tg,s,A,M,_,l,c,d,rfl,ce,rfl,?_⟩;walk_at"e"
   by_cases f:c.tone=M.sw.sense
   ·rw[if_neg (λz=>z.2 f)]at q;refine HY (λz=>absurd f z) (λ_=>?_);walk_at"e";exact q
   ·rw[if_pos ⟨o,f⟩]at q;refine HY (λ_=>?_) (λz=>absurd z f);walk_at"e";exact q
end
def vq(M:Wm):List (Option Int):=M.names.map λm=>RN M m.2.1 m.2.2
def jE(M:Wm):List (List (Option Int)):=heldOf M++[vq M]
def QW(X:Cs):Sp:=λvs H Q E=>∃wo,vs=[.ref wo]/\∃T s A M,s≠0/\WJ X H T s A M/\A.wo=wo/\M.hands.length<=1000/\M.names.length<=1000/\∀(l:Addr) (ls:List Addr) H',aV H H'->H l=none->H' l=some (.lst (ls.map V.ref))->ls.length=(jE M).length->(∀r∈ls,H r=none)->l∉ls->(∀(j:Nat) r x,ls[j]? =some r->(jE M)[j]? =some x->H' r=some (.lst (x.map oV)))->Q (.ref l) H'
section
variable {K:aB}{X:Cs}{H:Hp}{Q:VK}{E:XK}{n:St->Hp->Prop}{bk ct:St->Hp->Prop}
def Zz5{T:Tg}{ns:List Addr}{names:List (Str×(Int×Int))}(h:Al (NmO H T) ns names):∀{i:Nat}{kv:L2.Key×V},(Cg names ns)[i]? =some kv->∃t m,names[i]? =some m/\kv.2=.ref t/\H t=some (.tup [.int m.2.1,.int m.2.2])/\T t=(0,0):=by
 induction h with
 | nil=>intro i kv e;simp[Cg]at e
 | cons a h b=>
  intro i kv e;cases i with
  | zero=>cases e;exact⟨_,_,rfl,rfl,a.2,a.1⟩
  | succ i=>exact b (i:=i) (kv:=kv) (by simpa[Cg]using e)
def Znq{wo:Addr}(T:qC K X)(q:∃T s A M,s≠0/\WJ X H T s A M/\A.wo=wo/\M.hands.length<=1000/\M.names.length<=1000/\∀(l:Addr) (ls:List Addr) H',aV H H'->H l=none->H' l=some (.lst (ls.map V.ref))->ls.length=(jE M).length->(∀r∈ls,H r=none)->l∉ls->(∀(j:Nat) r x,ls[j]? =some r->(jE M)[j]? =some x->H' r=some (.lst (x.map oV)))->Q (.ref l) H'):
  RQ K (Zc6 X) (FW X) H ⟨n,Q,bk,ct⟩ [some (.ref wo)] H:=by
 obtain⟨Tg,s,A,M,h0,j,rfl,hh,hn,q⟩:=q;unfold RQ;walk_at"e";refine⟨_,rfl,Tg,s,A,M,j,rfl,hh,λl1 c H1 s1 nl1 ol1 I nd1 nn1 ZJc g1=>?_⟩;have j1:=j.same s1;obtain⟨dw,ow⟩:=j1.jb.ow;have om:=j1.jn.om;walk_at"e";refine aH ow T.cW T.nWn nF ?_;refine⟨_,_,rfl,.inl om,λvv nvv=>?_⟩;generalize zz:upd H1 vv _=H2;obtain⟨O,g2⟩:=nwO nvv zz;have W:=j1.same O;have C:=W.jn.om;refine⟨_,_,_,rfl,g2,C,λo=>?_⟩;have lnm:(Cg M.names A.ns).length=M.names.length:=Zov W.jn.nms;have w3:=W.names (o:=.zK o (.dK (Cg M.names A.ns))) h0;have d:∀b u,H2 b=some u->b≠A.nm->upd H2 A.nm (.zK o (.dK (Cg M.names A.ns))) b=some u:=λb u hb nb=>by rw[aC nb];exact hb
 have S:upd H2 A.nm (.zK o (.dK (Cg M.names A.ns))) A.nm=some (.zK o (.dK (Cg M.names A.ns))):=aq;generalize upd H2 A.nm (.zK o (.dK (Cg M.names A.ns)))=H3 at w3 d S ⊢;have nmn:∀t xs,H2 t=some (.tup xs)->t≠A.nm:=λt xs z=>qU z C (λy=>by cases y);refine Zk0 ?_;refine Zpl M.names.length (by omega) (λi y _=>∃m,M.names[i]? =some m/\y=oV (RN M m.2.1 m.2.2)) (λ_ _ _ _ h _=>h) (λH' s=>⟨s _ _ S,by omega⟩) (λi H' R s=>⟨s _ _ S,by omega⟩) (λi x H4 U R w y=>?_) ?_
 ·obtain⟨rfl,kv,ekv,rfl⟩:=y;obtain⟨t,m,em,et,ot,tt⟩:=Zz5 W.jn.nms ekv;refine⟨rfl,λq hq=>Bs hq,λq hq=>?_⟩;have ot4:=w _ _ (d _ _ ot (nmn _ _ ot));refine⟨t,_,_,_,by rw[et],fZ.of ot4,?_⟩;walk_at"c";walk_at"e";exact⟨_,_,_,rfl,Tg,s,A,M,w3.same w,rfl,λH6 f=>hq _ _ f ⟨m,em,rfl⟩⟩
 ·intro Z H4 w ly hy p P;have ey:Z=(vq M).map oV:=by
   refine List.ext_getElem? λi=>?_
   by_cases R:i<Z.length
   ·obtain⟨m,g,v⟩:=hy i Z[i] (bK R);rw[bK R,v];unfold vq;rw[cA,cA,g];rfl
   ·rw[List.getElem?_eq_none (by omega),List.getElem?_eq_none];unfold vq;rw[aX,aX];omega
  subst ey;have g5:=w _ _ S;have E:p≠A.nm:=λz=>by rw[z,g5]at P;cases P
  refine⟨A.nm,o,_,by rw[aC E.symm];exact g5,(λo' u z=>by rw[j.jn.om]at z;cases z),?_⟩;generalize B:upd (upd H4 p (.lst ((vq M).map oV))) A.nm (.dK (Cg M.names A.ns))=U;have N:aV H2 U:=λb u hb=>by
   rw[<- B]
   by_cases z:b=A.nm
   ·subst z;rw[aq];rw[C]at hb;exact hb
   ·have h3:=d b u hb z;rw[aC z,aC (aD (w _ _ h3) P)];exact w _ _ h3
  have np2:H2 p=none:=by
   cases z:H2 p with
   | none=>rfl
   | some u=>
    have:=w _ _ (d p u z E);rw[P]at this;cases this
  have L:U p=some (.lst ((vq M).map oV)):=by rw[<- B,aC E];exact aq
  clear B;have J:=s1.trans (O.trans N);have D:=O.trans N;walk_at"e";refine⟨aU (by simp),λl2 nl2=>?_⟩;generalize zz:upd U l2 _=H6;obtain⟨f,g6⟩:=nwO nl2 zz;refine⟨l1,l2,_,_,rfl,rfl,f _ _ (D _ _ ol1),g6,?_,λl3 a=>?_⟩
  ·rw[aX];have:(heldOf M).length=M.hands.length:=by unfold heldOf;rw[aX]
   exact aU (by simp;omega)
  have Y:=aL a (.lst (c.map V.ref++[.ref p]));have F:=J.trans (f.trans Y);have e7:c.map V.ref++[V.ref p]=(c++[p]).map V.ref:=by rw[List.map_append];rfl
  rw[e7]at Y F ⊢;have fp:H p=none:=s1.free (O.free np2);refine q l3 (c++[p]) _ F (J.free (f.free a)) aq ?_ (λr hr=>?_) (λhr=>?_) λk r x g v=>?_
  ·unfold jE;rw[List.length_append,List.length_append,I];rfl
  ·rcases List.mem_append.mp hr with hr | hr
   ·exact nn1 r hr
   ·rw[List.mem_singleton.mp hr];exact fp
  ·rcases List.mem_append.mp hr with hr | hr
   ·obtain⟨k,hk,e⟩:=List.getElem_of_mem hr;have:=g1 k l3 (heldOf M)[k] (by rw[bK hk,e]) (bK (by omega));rw[f _ _ (D _ _ this)]at a;cases a
   ·rw[List.mem_singleton.mp hr,f _ _ L]at a;cases a
  ·unfold jE at v
   by_cases hk:k<c.length
   ·rw[List.getElem?_append_left hk]at g;rw[List.getElem?_append_left (by omega)]at v;exact Y _ _ (f _ _ (D _ _ (g1 k r x g v)))
   ·have hk2:=(dH g).1;rw[List.length_append,List.length_singleton]at hk2;have ek:k=c.length:=by omega
    rw[List.getElem?_append_right (by omega)]at g v;rw[ek,Nat.sub_self]at g;rw[ek,I,Nat.sub_self]at v;cases g;cases v;exact Y _ _ (f _ _ L)
end
namespace KB
abbrev Fd:=List (Option (List (Option Int)))
def fat(F:Fd)(p:Int):Option (List (Option Int)):=if 0<=p then(F[p.toNat]?).join else none
def nxt(F:Fd)(pl:Option Int)(f:Int):Option Int:=match pl with
 | none=>none
 | some p=>match fat F p with
  | none=>none
  | some fl=>if 0<=f then(fl[f.toNat]?).join else none
abbrev Rw:=List (List (Option Int))
def slt(R:Rw)(r s:Int):Option Int:=((R[r.toNat]?).bind λx=>x[s.toNat]?).join
def Zd7(F:Fd)(w:List Int)(x:Option Int×Nat):Option (Int×List Int):=match x.1 with
 | none=>none
 | some q=>if (fat F q).isSome then some (q,w++[(x.2:Int)])else none
def onw(F:Fd)(w:List Int)(n:Nat)(ps:List (Option Int)):List (Int×List Int):=(ps.zipIdx n).filterMap (Zd7 F w)
def q0(F:Fd)(n:Nat)(R:Rw):List (Int×List Int):=(R.zipIdx n).flatMap λx=>onw F [(x.2:Int)] 0 x.1
structure Good(F:Fd)(R:Rw)(p:Int)(w:List Int):Prop where
 ex:∃r s fs row,w=r::s::fs/\0<=r/\0<=s/\R[r.toNat]? =some row/\s.toNat<row.length/\(∀f∈fs,0<=f)/\fs.foldl (nxt F) (slt R r s)=some p
 there:(fat F p).isSome=true
def QJ{F:Fd}{w:List Int}{n:Nat}{ps:List (Option Int)}{q:Int}{v:List Int}(h:(q,v)∈onw F w n ps):∃k,ps[k]? =some (some q)/\v=w++[((n+k:Nat):Int)]/\(fat F q).isSome=true:=by
 obtain⟨⟨x,m⟩,hm,e⟩:=List.mem_filterMap.mp h;obtain⟨b,a⟩:=List.mem_zipIdx_iff_le_and_getElem?_sub.mp hm;unfold Zd7 at e;cases x with
 | none=>cases e
 | some c=>
  simp only at e;split at e
  ·rename_i hs
   cases e;refine⟨m - n,a,?_,hs⟩;have:n+(m - n)=m:=by have:=b;simp only at this;omega
   rw[this]
  ·cases e
def Zqb{F:Fd}{R:Rw}{p q:Int}{w v:List Int}{fl:List (Option Int)}(g:Good F R p w)(a:fat F p=some fl)(h:(q,v)∈onw F w 0 fl):Good F R q v:=by
 obtain⟨k,hk,rfl,hs⟩:=QJ h;obtain⟨⟨r,s,fs,b,rfl,h1,h2,h3,h4,h5,h6⟩,_⟩:=g;refine⟨⟨r,s,fs++[((0+k:Nat):Int)],b,rfl,h1,h2,h3,h4,λf a=>?_,?_⟩,hs⟩
 ·rcases List.mem_append.mp a with z | z
  ·exact h5 f z
  ·have:f=((0+k:Nat):Int):=by simpa using z
   omega
 ·rw[List.foldl_append,h6];show nxt F (some p) _=some q;unfold nxt;simp only[a];rw[if_pos (by omega)];have:(((0+k:Nat):Int)).toNat=k:=by omega
  rw[this,hk];rfl
def Zu4{F:Fd}{R:Rw}{q:Int}{v:List Int}(h:(q,v)∈q0 F 0 R):Good F R q v:=by
 obtain⟨⟨a,n⟩,hm,h⟩:=List.mem_flatMap.mp h;have hr:R[n]? =some a:=List.mem_zipIdx_iff_getElem?.mp hm;obtain⟨k,hk,rfl,hs⟩:=QJ h;refine⟨⟨(n:Int),((0+k:Nat):Int),[],a,rfl,by omega,by omega,by simpa using hr,?_,(λf c=>by cases c),?_⟩,hs⟩
 ·have:k<a.length:=(dH hk).1;omega
 ·show slt R _ _=some q;unfold slt;have b:((n:Int)).toNat=n:=by omega
  have d:(((0+k:Nat):Int)).toNat=k:=by omega
  rw[b,d,hr];simp only[Option.bind_some,hk,Option.join_some]
inductive UG(F:Fd)(R:Rw):List (Int×List Int)->Nat->List (Int×List Int)->Prop
 | start:UG F R (q0 F 0 R) 0 []
 | old {q k l p w}:UG F R q k l->q[k]? =some (p,w)->p∈l.map (·.1)->UG F R q (k+1) l
 | new {q k l p w fl}:UG F R q k l->q[k]? =some (p,w)->p∉l.map (·.1)->fat F p=some fl->UG F R (q++onw F w 0 fl) (k+1) (l++[(p,w)])
def UG.good{F:Fd}{R:Rw}{q l:List (Int×List Int)}{k:Nat}(b:UG F R q k l):(∀x∈q,Good F R x.1 x.2)/\∀x∈l,Good F R x.1 x.2:=by
 induction b with
 | start=>exact⟨λx hx=>Zu4 hx,λx hx=>nomatch hx⟩
 | old _ _ _ a=>exact a
 | new b hq hn c a=>
  have g:=a.1 _ (List.mem_of_getElem? hq);refine⟨λx hx=>?_,λx hx=>?_⟩
  ·rcases List.mem_append.mp hx with z | z
   ·exact a.1 x z
   ·exact Zqb g c z
  ·rcases List.mem_append.mp hx with z | z
   ·exact a.2 x z
   ·have d:=List.mem_singleton.mp z;rw[d];exact g
def wgt:Option (List (Option Int))->Nat
 | none=>0
 | some fl=>fl.length
def Zfv(F:Fd)(l:List (Int×List Int)):Nat:=((F.zipIdx).map λx=>if (x.2:Int)∈l.map (·.1)then 0 else wgt x.1).sum
def Znf{a:Type}(f g:a->Nat):∀(xs:List a),(∀x∈xs,g x<=f x)->(xs.map g).sum<=(xs.map f).sum
 | [],_=>Nat.le_refl _
 | x::xs,h=>by
  have h1:=h x (by simp);have h2:=Znf f g xs λy hy=>h y (by simp[hy]);simp only[List.map_cons,List.sum_cons];omega
def Zcl{b:Type}(f g:b->Nat)(d:Nat):∀(xs:List b) (a:b),a∈xs->(∀x∈xs,g x<=f x)->g a+d<=f a->(xs.map g).sum+d<=(xs.map f).sum
 | [],_,h,_,_=>nomatch h
 | x::xs,a,c,h,hd=>by
  have h1:=h x (by simp);have h2:=Znf f g xs λy hy=>h y (by simp[hy]);simp only[List.map_cons,List.sum_cons];rcases List.mem_cons.mp c with z | z
  ·subst z;omega
  ·have h3:=Zcl f g d xs a z (λy hy=>h y (by simp[hy])) hd;omega
def QD{F:Fd}{w:List Int}{n:Nat}{ps:List (Option Int)}:(onw F w n ps).length<=ps.length:=by
 unfold onw;have:=List.length_filterMap_le (Zd7 F w) (ps.zipIdx n);rw[List.length_zipIdx]at this;exact this
def Zn5{F:Fd}{l:List (Int×List Int)}{p:Int}{w:List Int}{fl:List (Option Int)}(hn:p∉l.map (·.1))(a:fat F p=some fl):Zfv F (l++[(p,w)])+fl.length<=Zfv F l:=by
 unfold fat at a;split at a
 ·rename_i b
  have hp:F[p.toNat]? =some (some fl):=by
   cases e:F[p.toNat]? with
   | none=>rw[e]at a;cases a
   | some x=>rw[e]at a;simp only[Option.join_some]at a;rw[a]
  unfold Zfv;refine Zcl _ _ fl.length _ (some fl,p.toNat) (List.mem_zipIdx_iff_getElem?.mpr hp) (λx _=>?_) ?_
  ·simp only[List.map_append,List.map_cons,List.map_nil,List.mem_append]
   by_cases h1:(x.2:Int)∈l.map (·.1)
   ·simp only[h1,true_or,↓reduceIte,Nat.le_refl]
   ·simp only[h1,false_or];split
    ·exact Nat.zero_le _
    ·exact Nat.le_refl _
  ·have e:((p.toNat:Nat):Int)=p:=by omega
   simp only[List.map_append,List.map_cons,List.map_nil,List.mem_append,e];rw[if_pos (.inr (by simp)),if_neg hn];show 0+fl.length<=wgt (some fl);show 0+fl.length<=fl.length;omega
 ·cases a
def total(F:Fd)(R:Rw):Nat:=(q0 F 0 R).length+Zfv F []
def UG.bound{F:Fd}{R:Rw}{q l:List (Int×List Int)}{k:Nat}(b:UG F R q k l):q.length+Zfv F l<=total F R:=by
 induction b with
 | start=>exact Nat.le_refl _
 | old _ _ _ a=>exact a
 | new b hq hn c a=>
  have h2:=@QD F;rw[List.length_append];refine Nat.le_trans ?_ a
  rename_i w fl
  have h3:=h2 (w:=w) (n:=0) (ps:=fl);have h4:=Zn5 (w:=w) hn c;omega
end KB
def Zuk(cs:List V)(i:Int):V:=if 0<=i then(cs[i.toNat]?).getD .non else .non
def CO(a:Addr)(H:Hp)(cs:List V)(i:Nat):Option (List (Option Int))->Prop
 | none=>cs[i]? =some .non
 | some fl=>∃p fa b u t l,cs[i]? =some (.ref p)/\zJ a H p fa b u t l (fl.map oV)
structure HV(CC CH:Addr)(H:Hp)(hp:Addr)(F:KB.Fd):Prop where
 ex:∃ca room used born cs,HpO CH H hp ca room used born cs/\cs.length=F.length/\∀(i:Nat) x,F[i]? =some x->CO CC H cs i x
def HpO.same{a:Addr}{H H':Hp}{hp ca:Addr}{room used born:Int}{cs:List V}(h:HpO a H hp ca room used born cs)(s:aV H H'):HpO a H' hp ca room used born cs:=by
 obtain⟨⟨dx,h1⟩,h2⟩:=h;exact⟨⟨dx,s _ _ h1⟩,s _ _ h2⟩
def CO.same{a:Addr}{H H':Hp}{cs:List V}{i:Nat}{x:Option (List (Option Int))}(h:CO a H cs i x)(s:aV H H'):CO a H' cs i x:=by
 cases x with
 | none=>exact h
 | some fl=>
  obtain⟨p,fa,b,u,t,l,e,c⟩:=h;exact⟨p,fa,b,u,t,l,e,c.same s⟩
def HV.same{b a:Addr}{H H':Hp}{hp:Addr}{F:KB.Fd}(h:HV b a H hp F)(s:aV H H'):HV b a H' hp F:=by
 obtain⟨ca,room,used,born,cs,o,l,e⟩:=h;exact⟨ca,room,used,born,cs,o.same s,l,λi x hx=>(e i x hx).same s⟩
def Zqp{d:Addr}{H:Hp}{cs:List V}{F:KB.Fd}(hl:cs.length=F.length)(e:∀(i:Nat) x,F[i]? =some x->CO d H cs i x)(i:Int):
  (KB.fat F i=none/\Zuk cs i=.non)\/∃fl p fa b u t l,KB.fat F i=some fl/\Zuk cs i=.ref p/\cs[i.toNat]? =some (.ref p)/\0<=i/\zJ d H p fa b u t l (fl.map oV):=by
 unfold KB.fat Zuk
 by_cases g:0<=i
 ·simp only[g,↓reduceIte];cases f:F[i.toNat]? with
  | none=>
   have:cs[i.toNat]? =none:=by rw[List.getElem?_eq_none_iff]at f ⊢;omega
   exact .inl ⟨rfl,by rw[this];rfl⟩
  | some x=>
   have c:=e _ _ f;cases x with
   | none=>exact .inl ⟨rfl,by rw[show cs[i.toNat]? =some V.non from c];rfl⟩
   | some fl=>
    obtain⟨p,fa,b,u,t,l,a,h⟩:=c;exact .inr ⟨fl,p,fa,b,u,t,l,rfl,by rw[a];rfl,a,trivial,h⟩
 ·simp only[g,↓reduceIte];exact .inl ⟨trivial,trivial⟩
def Ik(H:Hp):List Addr->List (Int×List Int)->Prop
 | [],[]=>True
 | t::ts,x::b=>(∃a,H t=some (.tup [.int x.1,.ref a])/\H a=some (.tup (x.2.map V.int)))/\Ik H ts b
 | _,_=>False
def Ik.same{H H':Hp}(s:aV H H'):∀{ts:List Addr}{b:List (Int×List Int)},Ik H ts b->Ik H' ts b
 | [],[],_=>trivial
 | [],_::_,h=>h.elim
 | _::_,[],h=>h.elim
 | _::_,_::_,⟨⟨a,h1,h2⟩,h3⟩=>⟨⟨a,s _ _ h1,s _ _ h2⟩,Ik.same s h3⟩
def Ik.app{H:Hp}:∀{ts us:List Addr}{a rs:List (Int×List Int)},Ik H ts a->Ik H us rs->Ik H (ts++us) (a++rs)
 | [],_,[],_,_,h=>h
 | [],_,_::_,_,h,_=>h.elim
 | _::_,_,[],_,h,_=>h.elim
 | _::_,_,_::_,_,⟨h1,h3⟩,h=>⟨h1,Ik.app h3 h⟩
def Ik.len{H:Hp}:∀{ts:List Addr}{a:List (Int×List Int)},Ik H ts a->ts.length=a.length
 | [],[],_=>rfl
 | [],_::_,h=>h.elim
 | _::_,[],h=>h.elim
 | _::_,_::_,⟨_,h3⟩=>by rw[List.length_cons,List.length_cons,Ik.len h3]
def Ik.at{H:Hp}:∀{ts:List Addr}{b:List (Int×List Int)}{i:Nat}{x:Int×List Int},Ik H ts b->b[i]? =some x->∃t a,ts[i]? =some t/\H t=some (.tup [.int x.1,.ref a])/\H a=some (.tup (x.2.map V.int))
 | [],[],_,_,_,e=>by simp at e
 | [],_::_,_,_,h,_=>h.elim
 | _::_,[],_,_,h,_=>h.elim
 | t::_,_::_,0,_,⟨⟨a,h1,h2⟩,_⟩,e=>by cases e;exact⟨t,a,rfl,h1,h2⟩
 | _::_,_::_,i+1,_,⟨_,h3⟩,e=>Ik.at (i:=i) h3 e
def Ff(K:aB)(c b:Addr):Sp:=λvs H Q E=>∃hp a wt F ps w,vs=[.ref hp,.ref a,.ref wt]/\HV c b H hp F/\cj K H a (ps.map oV)/\fZ K H wt (w.map V.int)/\w≠[]/\w.length<=100000/\ps.length<=1000/\
 ∀l ts H',H l=none->aV H H'->H' l=some (.lst (ts.map V.ref))->Ik H' ts (KB.onw F w 0 ps)->Q (.ref l) H'
def Ii(K:aB)(H:Hp):List Addr->KB.Rw->Prop
 | [],[]=>True
 | a::b,r::R=>cj K H a (r.map oV)/\Ii K H b R
 | _,_=>False
def Ii.same{K:aB}{H H':Hp}(s:aV H H'):∀{a:List Addr}{R:KB.Rw},Ii K H a R->Ii K H' a R
 | [],[],_=>trivial
 | [],_::_,h=>h.elim
 | _::_,[],h=>h.elim
 | _::_,_::_,⟨h1,h3⟩=>⟨s.seq h1,Ii.same s h3⟩
def Ii.len{K:aB}{H:Hp}:∀{a:List Addr}{R:KB.Rw},Ii K H a R->a.length=R.length
 | [],[],_=>rfl
 | [],_::_,h=>h.elim
 | _::_,[],h=>h.elim
 | _::_,_::_,⟨_,h3⟩=>by rw[List.length_cons,List.length_cons,Ii.len h3]
def Ii.at{K:aB}{H:Hp}:∀{b:List Addr}{R:KB.Rw}{i:Nat}{a:Addr},Ii K H b R->b[i]? =some a->∃r,R[i]? =some r/\cj K H a (r.map oV)
 | [],[],_,_,_,e=>by simp at e
 | [],_::_,_,_,h,_=>h.elim
 | _::_,[],_,_,h,_=>h.elim
 | _::_,r::_,0,_,⟨h1,_⟩,e=>by cases e;exact⟨r,rfl,h1⟩
 | _::_,_::_,i+1,_,⟨_,h3⟩,e=>Ii.at (i:=i) h3 e
structure Few(F:KB.Fd)(R:KB.Rw):Prop where
 f:F.length<=1000
 g:∀p fl,KB.fat F p=some fl->fl.length<=1000
 r:R.length<=1000
 s:∀x∈R,x.length<=1000
 t:KB.total F R<=90000
def FZ(K:aB)(d c:Addr):Sp:=λvs H Q E=>∃hp a F rs R,vs=[.ref hp,.ref a]/\HV d c H hp F/\cj K H a (rs.map V.ref)/\Ii K H rs R/\Few F R/\
 ∀l ts q b H',KB.UG F R q q.length b->H l=none->aV H H'->H' l=some (.lst (ts.map V.ref))->Ik H' ts b->Q (.ref l) H'
def ZAd{f e hp:Addr}{H:Hp}{Q:VK}{E:XK}{pl:Option Int}{F:KB.Fd}(v:HV f e H hp F)(g:pl.bind (KB.fat F)=none->Q .non H)(j:∀fl p fa b u t l,pl.bind (KB.fat F)=some fl->zJ f H p fa b u t l (fl.map oV)->Q (.ref p) H):dZ e [.ref hp,oV pl] H Q E:=by
 obtain⟨ca,room,used,born,cs,o,hl,h⟩:=v;refine⟨hp,oV pl,rfl,zj pl,ca,room,used,born,cs,o,?_⟩;cases pl with
 | none=>exact g rfl
 | some i=>
  show Q (Zuk cs i) H;rcases Zqp hl h i with ⟨a,d⟩ | ⟨fl,p,fa,b,u,t,l,a,d,_,_,c⟩
  ·rw[d];exact g a
  ·rw[d];exact j fl p fa b u t l a c
def Zd6(F:KB.Fd)(w:List Int)(n:Nat)(ps:List (Option Int))(x:Option Int):KB.onw F w n (ps++[x])=KB.onw F w n ps++(KB.Zd7 F w (x,n+ps.length)).toList:=by
 unfold KB.onw;rw[List.zipIdx_append,List.filterMap_append];congr 1
def take_snoc{a:Type}{xs:List a}{i:Nat}{x:a}(h:xs[i]? =some x):xs.take (i+1)=xs.take i++[x]:=by
 rw[List.take_add_one,h];rfl
def mG{H:Hp}{a:Addr}{o:HO}(h:H a=none):aV H (upd H a o):=λb u q=>by rw[aC (aD q h)];exact q
section
variable {K:aB}{bA aZ bR:Addr}{H:Hp}{Q:VK}{E:XK}{n:St->Hp->Prop}{bk ct:St->Hp->Prop}
def Zhe{hp a wt:Addr}{F:KB.Fd}{ps:List (Option Int)}{w:List Int}(v:HV bA aZ H hp F)(P:cj K H a (ps.map oV))(Y:fZ K H wt (w.map V.int))(A:w≠[])(W:w.length<=100000)(S:ps.length<=1000)
  (Zvq:∀{H':Hp},aV H H'->fZ K H' wt (w.map V.int))
  (q:∀l ts H',H l=none->aV H H'->H' l=some (.lst (ts.map V.ref))->Ik H' ts (KB.onw F w 0 ps)->Q (.ref l) H'):
  Fv K (dZ aZ) ⟨n,Q,bk,ct⟩ [some (.ref hp),some (.ref a),some (.ref wt)] H:=by
 unfold Fv;walk_at"e";refine⟨a,rfl,⟨_,P⟩,Zt9 P (by rw[aX];omega) (λi s f=>aV H f/\i<=ps.length/\∃ts,s=ts.map V.ref/\Ik f ts (KB.onw F w 0 (ps.take i))) ⟨aV.refl _,Nat.zero_le _,[],rfl,trivial⟩ ?_ ?_ ?_⟩
 ·rintro i s f ⟨sm,T,ts,rfl,g⟩;refine⟨sm,?_⟩;rw[aX,g.len];refine Nat.le_trans KB.QD ?_;rw[List.length_take];omega
 ·rintro i x s f t C N hx ⟨sm,T,ts,rfl,g⟩ R;walk_at"c";rw[cA]at hx;obtain⟨y,hy,rfl⟩:=Option.map_eq_some_iff.mp hx;have k:i<ps.length:=(dH hy).1;have j:0+(ps.take i).length=i:=by rw[List.length_take];omega
  have I:aV f (upd f t (.tup [.int i,oV y])):=mG R;have r:=sm.trans I;walk_at"e";refine ZAd (v.same r) (λe=>?_) (λfl p fa b u t' l e c=>?_)
  ·refine Zic ?_;walk_at"e";refine Zth (N _ _ ⟨r,k,ts,rfl,?_⟩);rw[take_snoc hy,Zd6,j];have E:KB.Zd7 F w (y,i)=none:=by
    unfold KB.Zd7;cases y with
    | none=>rfl
    | some d=>simp only;rw[show KB.fat F d=none from e];rfl
   rw[E];simp only[Option.toList_none,List.append_nil];exact g.same I
  ·refine Zic ?_;walk_at"e";refine Zi8 ?_;obtain⟨d,rfl⟩:∃d,y=some d:=by
    cases y with
    | none=>cases e
    | some d=>exact⟨d,rfl⟩
   have X:KB.fat F d=some fl:=e;walk_at"e";refine⟨(by show 1<=sizeLine;decide),λt2 B=>?_⟩;have O:=I.trans (mG (o:=.tup [.int i]) B);refine⟨wt,t2,w.map V.int,[.int i],rfl,rfl,Zvq (sm.trans O),fZ.of aq,by simpa using A,by rw[aX];exact aU (by simp only[List.length_cons,List.length_nil];omega),(λz=>nomatch z),(λ_ h D=>?_)⟩;have U:=O.trans (mG (o:=.tup (w.map V.int++[.int i])) D);walk_at"e";refine⟨(by show 2<=sizeLine;decide),λL m=>?_⟩;have M:=U.trans (mG (o:=.tup [oV (some d),.ref h]) m);have J:h≠L:=aD aq m;have h3:upd (upd (upd (upd f t (.tup [.int i,oV (some d)])) t2 (.tup [.int i])) h (.tup (w.map V.int++[.int i]))) L (.tup [oV (some d),.ref h]) h=some (.tup (w.map V.int++[.int i])):=by
    rw[aC J,aq]
   walk_at"e";refine N _ _ ⟨sm.trans M,k,ts++[L],by simp,?_⟩;rw[take_snoc hy,Zd6,j];have E:KB.Zd7 F w (some d,i)=some (d,w++[(i:Int)]):=by
    unfold KB.Zd7;simp only[X,Option.isSome_some,↓reduceIte]
   rw[E];refine(g.same M).app ⟨⟨h,aq,?_⟩,trivial⟩;rw[h3,List.map_append];rfl
 ·rintro s f ⟨sm,_,ts,rfl,g⟩ l hl;walk_at"e";rw[aX,List.take_length]at g;exact q l ts _ (sm.free hl) (sm.trans (mG hl)) aq (g.same (mG hl))
end
def Zvq{K:aB}{H H':Hp}{a:Addr}{xs:List V}(e:aV H H')(h:fZ K H a xs):fZ K H' a xs:=by
 rcases h with (h | ⟨o,h⟩) | h
 ·exact .inl (.inl (e _ _ h))
 ·exact .inl (.inr ⟨o,e _ _ h⟩)
 ·exact .inr h
def TK(H H':Hp):Prop:=∀b xs,H b=some (.tup xs)->H' b=some (.tup xs)
def TK.same{H H':Hp}(s:aV H H'):TK H H':=λb _ h=>s b _ h
def TK.upd{H:Hp}{a:Addr}{o:HO}(h:∀xs,H a≠some (.tup xs)):TK H (L2.upd H a o):=λb xs q=>by
 have n:b≠a:=λz=>h xs (by rw[<- z];exact q);rw[aC n];exact q
def TK.trans{H e d:Hp}(a:TK H e)(b:TK e d):TK H d:=λc xs h=>b c xs (a c xs h)
def Ik.tk{H H':Hp}(s:TK H H'):∀{ts:List Addr}{b:List (Int×List Int)},Ik H ts b->Ik H' ts b
 | [],[],_=>trivial
 | [],_::_,h=>h.elim
 | _::_,[],h=>h.elim
 | _::_,_::_,⟨⟨a,h1,h2⟩,h3⟩=>⟨⟨a,s _ _ h1,s _ _ h2⟩,Ik.tk s h3⟩
def Yq(H:Hp):List (Key×V)->List (Int×List Int)->Prop
 | [],[]=>True
 | kv::b,x::c=>(kv.1=Sum.inl x.1/\∃a,kv.2=.ref a/\H a=some (.tup (x.2.map V.int)))/\Yq H b c
 | _,_=>False
def Yq.tk{H H':Hp}(s:TK H H'):∀{b:List (Key×V)}{c:List (Int×List Int)},Yq H b c->Yq H' b c
 | [],[],_=>trivial
 | [],_::_,h=>h.elim
 | _::_,[],h=>h.elim
 | _::_,_::_,⟨⟨d,a,h1,h2⟩,h3⟩=>⟨⟨d,a,h1,s _ _ h2⟩,Yq.tk s h3⟩
def Yq.app{H:Hp}:∀{a ls:List (Key×V)}{b rs:List (Int×List Int)},Yq H a b->Yq H ls rs->Yq H (a++ls) (b++rs)
 | [],_,[],_,_,h=>h
 | [],_,_::_,_,h,_=>h.elim
 | _::_,_,[],_,h,_=>h.elim
 | _::_,_,_::_,_,⟨h1,h3⟩,h=>⟨h1,Yq.app h3 h⟩
def Yq.len{H:Hp}:∀{ts:List (Key×V)}{a:List (Int×List Int)},Yq H ts a->ts.length=a.length
 | [],[],_=>rfl
 | [],_::_,h=>h.elim
 | _::_,[],h=>h.elim
 | _::_,_::_,⟨_,h3⟩=>by rw[List.length_cons,List.length_cons,Yq.len h3]
def Yq.val{H:Hp}(p:Int):∀{a:List (Key×V)}{b:List (Int×List Int)},Yq H a b->(nZ a (Sum.inl p)).isSome=decide (p∈b.map (·.1))
 | [],[],_=>by simp[nZ]
 | [],_::_,h=>h.elim
 | _::_,[],h=>h.elim
 | kv::a,x::b,⟨⟨c,_⟩,h3⟩=>by
  by_cases e:x.1=p
  ·rw[nG (by rw[c,e])];simp[e]
  ·rw[nH (by rw[c];exact λz=>e (Sum.inl.inj z)),Yq.val p h3];simp only[List.map_cons,List.mem_cons];have d:¬ p=x.1:=λz=>e z.symm;simp only[d,false_or]
def Yq.prs{H:Hp}:∀{ts:List Addr}{b:List (Key×V)}{c:List (Int×List Int)},Yq H b c->Zf7 H ts b->Ik H ts c
 | [],[],[],_,_=>trivial
 | _,[],_::_,h,_=>h.elim
 | _,_::_,[],h,_=>h.elim
 | [],_::_,_::_,_,h=>h.elim
 | _::_,[],[],_,h=>h.elim
 | t::ts,kv::b,x::c,⟨⟨e,a,h1,h2⟩,h3⟩,⟨f,d⟩=>⟨⟨a,by rw[f,e,h1];rfl,h2⟩,Yq.prs h3 d⟩
def Zs2(F:KB.Fd)(R:KB.Rw)(i:Nat)(r:List (Option Int))(h:R[i]? =some r):KB.q0 F 0 (R.take (i+1))=KB.q0 F 0 (R.take i)++KB.onw F [(i:Int)] 0 r:=by
 unfold KB.q0;rw[take_snoc h,List.zipIdx_append,List.flatMap_append];have hl:(R.take i).length=i:=by
  have:=(dH h).1;rw[List.length_take];omega
 rw[hl];simp only[List.zipIdx_cons,List.zipIdx_nil,List.flatMap_cons,List.flatMap_nil,List.append_nil,Nat.zero_add]
structure RS(K:aB)(CC CH:Addr)(H0 H:Hp)(ql d:Addr)(F:KB.Fd)(R:KB.Rw)(q qs:List (Int×List Int))(k:Nat):Prop where
 sm:aV H0 H
 nq:H0 ql=none
 b:KB.UG F R q k qs
 hk:k<=q.length
 oq:∃ts,H ql=some (.lst (ts.map V.ref))/\Ik H ts q
 od:∃kvs,H d=some (.dK kvs)/\Yq H kvs qs
 nd:H0 d=none
def Zpe{H:Hp}{a:Addr}{xs:List V}{o:HO}(h:H a=some (.lst xs)):TK H (upd H a o):=TK.upd λb z=>by rw[h]at z;cases z
def ZA9{H:Hp}{a:Addr}{xs:List (Key×V)}{o:HO}(h:H a=some (.dK xs)):TK H (upd H a o):=TK.upd λb z=>by rw[h]at z;cases z
def RC{H0 H:Hp}{a:Addr}{o:HO}(s:aV H0 H)(h:H0 a=none):aV H0 (upd H a o):=λb u q=>by rw[aC (aD q h)];exact s b u q
def Zut{F:KB.Fd}{R:KB.Rw}{q l:List (Int×List Int)}{k:Nat}(b:KB.UG F R q k l):l.length<=k:=by
 induction b with
 | start=>exact Nat.le_refl _
 | old _ _ _ a=>omega
 | new _ _ _ _ a=>rw[List.length_append];simp only[List.length_cons,List.length_nil];omega
def Zra{F:KB.Fd}{R:KB.Rw}{q l:List (Int×List Int)}{k:Nat}(b:KB.UG F R q k l):∀x∈q,x.2.length<=k+2:=by
 induction b with
 | start=>
  intro x hx;obtain⟨⟨c,n⟩,hm,h⟩:=List.mem_flatMap.mp hx;obtain⟨j,_,e,_⟩:=KB.QJ (q:=x.1) (v:=x.2) h;rw[e];simp
 | old _ _ _ a=>intro x hx;have:=a x hx;omega
 | new b hq _ _ a=>
  intro x hx;rcases List.mem_append.mp hx with z | z
  ·have:=a x z;omega
  ·obtain⟨j,_,e,_⟩:=KB.QJ (q:=x.1) (v:=x.2) z;have:=a _ (List.mem_of_getElem? hq);rw[e,List.length_append];simp only[List.length_cons,List.length_nil];simp only at this;omega
def Zvz(F:KB.Fd):∀(R S:KB.Rw) (n:Nat),(KB.q0 F n R).length<=(KB.q0 F n (R++S)).length:=λR S n=>by
 unfold KB.q0;rw[List.zipIdx_append,List.flatMap_append,List.length_append];omega
def Zs1(F:KB.Fd)(R:KB.Rw)(i:Nat):(KB.q0 F 0 (R.take i)).length<=KB.total F R:=by
 have:=Zvz F (R.take i) (R.drop i) 0;rw[List.take_append_drop]at this;unfold KB.total;omega
section
variable {K:aB}{bA aZ bR:Addr}{H:Hp}{Q:VK}{E:XK}{n:St->Hp->Prop}{bk ct:St->Hp->Prop}
def Zcx{hp Z:Addr}{F:KB.Fd}{rs:List Addr}{R:KB.Rw}{v2 v3 v4 v5 v6 E M:Option V}(T:TxC K bA aZ)(v:HV bA aZ H hp F)(hr:cj K H Z (rs.map V.ref))(rw':Ii K H rs R)(W:Few F R)
  (q:∀l ts q O H',KB.UG F R q q.length O->H l=none->aV H H'->H' l=some (.lst (ts.map V.ref))->Ik H' ts O->Q (.ref l) H'):
  z9 K (Ff K bA aZ) ⟨n,Q,bk,ct⟩ [some (.ref hp),some (.ref Z),v2,v3,v4,v5,v6,E,M] H:=by
 have hrl:=rw'.len;have f1:=W.r;unfold z9;walk_at"e";refine⟨(by show 0<=sizeLine;decide),λA J=>?_⟩;walk_at"e";refine⟨Z,rfl,⟨_,(mG J).seq hr⟩,ZA1 (rs.map V.ref) (λi σ N=>i<=rs.length/\aV H N/\(∃ts,N A=some (.lst (ts.map V.ref))/\Ik N ts (KB.q0 F 0 (R.take i)))/\∃x y,σ=[some (.ref hp),some (.ref Z),some (.ref A),x,y,v5,v6,E,M])
  ⟨Nat.zero_le _,mG J,⟨[],aq,trivial⟩,_,_,rfl⟩ (λi σ N _ ⟨_,sm,_⟩=>sm.seq hr) ?_ ?_⟩
 ·rintro i x t σ N hx ⟨hi,sm,⟨ts,f,D⟩,y,z,rfl⟩ ht;rw[cA]at hx;obtain⟨r,er,rfl⟩:=Option.map_eq_some_iff.mp hx;obtain⟨row,eR,hrow⟩:=rw'.at er;have hil:i<rs.length:=(dH er).1;have C:=mG (o:=.tup [.int i,.ref r]) ht;refine⟨t,_,rfl,fZ.of aq,rfl,.int i,_,rfl,?_⟩;walk_at"e";refine⟨.ref r,_,rfl,?_⟩;walk_at"e";refine⟨rfl,?_⟩;walk_at"e";refine⟨.inl ⟨rfl,_,cj.of (C _ _ f)⟩,?_⟩;walk_at"e";refine⟨(by show 1<=sizeLine;decide),λt2 ht2=>?_⟩;have B:=C.trans (mG (o:=.tup [.int i]) ht2);walk_at"e";refine⟨hp,r,t2,F,row,[(i:Int)],rfl,v.same (sm.trans B),(sm.trans B).seq hrow,fZ.of aq,(λz=>nomatch z),(by show 1<=100000;decide),W.s _ (List.mem_of_getElem? eR),λl us H' hl s3 hl' qa'=>?_⟩;have s4:=B.trans s3;have hq':H' A=some (.lst (ts.map V.ref)):=s4 _ _ f;walk_at"e";have hlen:ts.length<=100000:=by
   rw[D.len];exact Nat.le_trans (Nat.le_trans (Zs1 F R i) W.t) (by decide)
  have hlen2:us.length<=1000:=by
   rw[qa'.len];exact Nat.le_trans KB.QD (W.s _ (List.mem_of_getElem? eR))
  refine⟨A,l,_,_,rfl,rfl,hq',hl',by rw[aX,aX];exact aU (by omega),?_⟩;walk_at"e";refine⟨hil,RC (sm.trans s4) J,⟨ts++us,by rw[aq,List.map_append],?_⟩,_,_,rfl⟩;rw[Zs2 F R i row eR];exact((D.same s4).app qa').tk (Zpe hq')
 ·rintro σ N ⟨hi,sm,⟨ts,f,D⟩,y,z,rfl⟩;rw[aX,hrl,List.take_length]at D;walk_at"e";intro d hd;walk_at"e";have ndq:d≠A:=λe=>by rw[e,f]at hd;cases hd
  refine⟨λm σ N=>∃q O k x y E M,m=KB.total F R - k/\σ=[some (.ref hp),some (.ref Z),some (.ref A),x,y,some (.ref d),some (.int (k:Nat)),E,M]/\RS K bA aZ H N A d F R q O k,⟨_,KB.q0 F 0 R,[],0,_,_,_,_,rfl,rfl,?_⟩,?_⟩
  ·exact⟨sm.trans (mG hd),J,.start,Nat.zero_le _,⟨ts,by rw[aC ndq.symm];exact f,D.same (mG hd)⟩,⟨[],aq,trivial⟩,sm.free hd⟩
  ·rintro m σ Hy ⟨Y,O,k,x,y,E,M,rfl,rfl,rs'⟩;obtain⟨I,nq,b,hk,⟨ts,f,D⟩,⟨h,j,X⟩,nd⟩:=rs';have hlq:=D.len;walk_at"e";refine jG (cj.of f) ?_;walk_at"e";have hb:=b.bound;refine wD (λz=>?_) (λz=>?_)
   ·rw[aX]at z;have S:k<Y.length:=by omega
    have hq:Y[k]? =some Y[k]:=bK S;obtain⟨t,a,et,ht,P⟩:=D.at hq;generalize hx:Y[k]=pw at hq ht P;obtain⟨p,w⟩:=pw;refine⟨λσ' H'=>∃q2 U x y E M,σ'=[some (.ref hp),some (.ref Z),some (.ref A),x,y,some (.ref d),some (.int ((k:Int)+1)),E,M]/\RS K bA aZ H H' A d F R q2 U (k+1),?_,?_⟩
    ·rintro σ' H' ⟨q2,U,x,y,E,M,rfl,r2⟩;exact⟨KB.total F R - (k+1),by omega,q2,U,k+1,x,y,E,M,rfl,by rw[show((k+1:Nat):Int)=(k:Int)+1 from by omega],r2⟩
    have hix:Uy (ts.map V.ref) ((k:Nat):Int)=some (.ref t):=iI (by rw[cA,et];rfl);walk_at"e";refine iw (cj.of f) hix ?_;walk_at"e";refine⟨t,_,0,.int p,rfl,rfl,fZ.of ht,rC (by decide) rfl,?_⟩;walk_at"e";refine iw (cj.of f) hix ?_;walk_at"e";refine⟨t,_,1,.ref a,rfl,rfl,fZ.of ht,rC (by decide) rfl,?_⟩;walk_at"e";refine⟨d,h,_,rfl,.inl j,rfl,?_⟩;walk_at"e";have gd:=b.good.1 _ (List.mem_of_getElem? hq);refine Zww (λy=>?_) (λy=>?_)
    ·have hno:nZ h (Sum.inl p)=none:=by
      cases e:nZ h (Sum.inl p)with
      | none=>rfl
      | some _=>rw[e]at y;simp at y
     have hnp:p∉O.map (·.1):=by
      have:=X.val p;rw[hno]at this;simpa using this
     obtain⟨fl,L⟩:∃fl,KB.fat F p=some fl:=Option.isSome_iff_exists.mp gd.there;walk_at"e";refine⟨d,_,rfl,W5.k (k:=Sum.inl p) j ?_,?_⟩
     ·have h2:=X.len;have h3:=Zut b;have h4:=W.t;exact Nat.lt_of_le_of_lt (show h.length<=1000000 by omega) (show 1000000<sizeLine by decide)
     rw[Znz _ hno];have nd':A≠d:=qU f j (λz=>by cases z);have C:aV H (upd Hy d (.dK (h++[(Sum.inl p,.ref a)]))):=RC I nd;have k1:TK Hy (upd Hy d (.dK (h++[(Sum.inl p,.ref a)]))):=ZA9 j;have q1:upd Hy d (.dK (h++[(Sum.inl p,.ref a)])) A=some (.lst (ts.map V.ref)):=(aC nd').trans f;walk_at"e";refine⟨.inl ⟨rfl,_,cj.of q1⟩,?_⟩;walk_at"e";obtain⟨ca,room,used,born,cs,ho,hl,he⟩:=(v.same C).ex;have ho':=ho;obtain⟨⟨dx,o1⟩,o2⟩:=ho';refine aH o1 T.cM T.bN bU ?_;walk_at"e";rcases Zqp hl he p with ⟨e1,_⟩ | ⟨fl',p',fa,b',u,t',l,e1,_,e3,e4,c⟩
     ·rw[L]at e1;cases e1
     rw[L]at e1;cases e1;refine iw (cj.of o2) (rC e4 e3) ?_;obtain⟨⟨dc,c1⟩,c2⟩:=c;refine aH c1 T.di T.eX lJ ?_;walk_at"e";have hw:=Zra b _ (List.mem_of_getElem? hq);have hgt:=W.t;refine⟨hp,fa,a,F,fl,w,rfl,v.same C,cj.of c2,fZ.of (k1 _ _ P),?_,?_,W.g p fl L,λl2 us H2 hl2 B hl2' qa2=>?_⟩
     ·obtain⟨r0,s0,fs0,_,e0,_⟩:=gd.ex;intro z;rw[show w=(p,w).2 from rfl,e0]at z;cases z
     ·simp only at hw;omega
     have hq2:H2 A=some (.lst (ts.map V.ref)):=B _ _ q1;have hd2:H2 d=some (.dK (h++[(Sum.inl p,.ref a)])):=B _ _ aq;have k2:=k1.trans (TK.same B);have k3:TK H2 (upd H2 A (.lst (ts.map V.ref++us.map V.ref))):=Zpe hq2;have b2:=KB.UG.new b hq hnp L;have hb2:=b2.bound;rw[List.length_append,<- qa2.len,<- hlq]at hb2;walk_at"e";refine⟨A,l2,_,_,rfl,rfl,hq2,hl2',by rw[aX,aX];exact aU (by omega),?_⟩;walk_at"e";refine⟨_,_,_,_,_,_,rfl,⟨RC (C.trans B) nq,nq,b2,by rw[List.length_append];omega,⟨ts++us,by rw[aq,List.map_append],(((D.tk k2).app qa2).tk k3)⟩,⟨_,by rw[aC nd'.symm];exact hd2,((X.tk k2).app ?_).tk k3⟩,nd⟩⟩;exact⟨⟨rfl,a,rfl,k2 _ _ P⟩,trivial⟩
    ·have hin:p∈O.map (·.1):=by
      have:=X.val p;cases e:nZ h (Sum.inl p)with
      | none=>rw[e]at y;simp at y
      | some _=>rw[e]at this;simpa using this.symm
     walk_at"e";exact⟨_,_,_,_,_,_,rfl,⟨I,nq,.old b hq hin,by omega,⟨ts,f,D⟩,⟨h,j,X⟩,nd⟩⟩
   ·rw[aX]at z;have S:k=Y.length:=by omega
    subst S;walk_at"e";refine⟨d,h,rfl,.inl j,λvw hvw=>?_⟩;walk_at"e";have C:=mG (o:=M8 vw d) hvw;refine Zto aq (.inl (C _ _ j)) λl us H2 hl B hl2 pa=>?_;walk_at"e";exact q l us Y O H2 b ((I.trans C).free hl) ((I.trans C).trans B) hl2 ((X.tk (TK.same (C.trans B))).prs pa)
end
def fdOf(M:Wm):KB.Fd:=M.cells.map λo=>o.map (·.fl)
def WJ0.hv{X:Cs}{H:Hp}{T:Tg}{s:Nat}{A:Wa}{M:Wm}(j:WJ0 X H T s A M):HV X.C X.H H A.hp (fdOf M):=by
 have hl:=j.jc.lc;refine⟨A.ca,M.room,M.used,M.born,A.cs.map pV,j.hpO,by unfold fdOf;rw[aX,aX];exact hl,λi x hx=>?_⟩;unfold fdOf at hx;rw[cA]at hx;obtain⟨o,a,rfl⟩:=Option.map_eq_some_iff.mp hx;cases o with
 | none=>
  show(A.cs.map pV)[i]? =some .non;rw[cA,j.jc.at0 a];rfl
 | some c=>
  obtain⟨p,hp,ce⟩:=j.jc.at a;obtain⟨_,_,o1,o2⟩:=ce;exact⟨p.1,p.2,c.birth,c.bulk,c.tone,c.load,by rw[cA,hp];rfl,⟨o1,o2⟩⟩
def Zqo{M:Wm}(x:Int):KB.fat (fdOf M) x=(cellAt M x).map (·.fl):=by
 unfold KB.fat fdOf cellAt
 by_cases h:0<=x
 ·rw[if_pos h,if_pos h,cA];cases M.cells[x.toNat]? with
  | none=>rfl
  | some o=>cases o<;>rfl
 ·rw[if_neg h,if_neg h];rfl
section
variable {K:aB}{X:Cs}{H:Hp}{Q:VK}{E:XK}{n:St->Hp->Prop}{bk ct:St->Hp->Prop}
def Zlb{hp a wt:Addr}{F:KB.Fd}{ps:List (Option Int)}{w:List Int}(q:HV X.C X.H H hp F/\cj K H a (ps.map oV)/\fZ K H wt (w.map V.int)/\w≠[]/\w.length<=100000/\ps.length<=1000/\∀l ts H',H l=none->aV H H'->H' l=some (.lst (ts.map V.ref))->Ik H' ts (KB.onw F w 0 ps)->Q (.ref l) H'):
  Fv K (dZ X.H) ⟨n,Q,bk,ct⟩ [some (.ref hp),some (.ref a),some (.ref wt)] H:=by
 obtain⟨v,h1,h2,h3,h4,h5,q⟩:=q;exact Zhe v h1 h2 h3 h4 h5 (λe=>Zvq e h2) q
def Zgx{hp a:Addr}{F:KB.Fd}{rs:List Addr}{R:KB.Rw}(T:qC K X)(q:HV X.C X.H H hp F/\cj K H a (rs.map V.ref)/\Ii K H rs R/\Few F R/\∀l ts q b H',KB.UG F R q q.length b->H l=none->aV H H'->H' l=some (.lst (ts.map V.ref))->Ik H' ts b->Q (.ref l) H'):
  z9 K (Ff K X.C X.H) ⟨n,Q,bk,ct⟩ [some (.ref hp),some (.ref a),none,none,none,none,none,none,none] H:=by
 obtain⟨v,h1,h2,h3,q⟩:=q;exact Zcx T.c v h1 h2 h3 q
end
def toN{x:Int}(h:0<=x):∃k:Nat,x=k:=⟨x.toNat,by omega⟩
def Xr(c:Nat):(⟨#[c]⟩:Str).length=1:=rfl
def Zys(a b:Str):(a++b).length=a.length+b.length:=by
 show(a.cps++b.cps).size=_;rw[Array.size_append];rfl
def Zkk{e d:Type}{P:e->d->Prop}:∀{xs:List e}{c:List d},xs.length=c.length->(∀(i:Nat) x y,xs[i]? =some x->c[i]? =some y->P x y)->Al P xs c
 | [],[],_,_=>.nil
 | [],_::_,h,_=>by simp at h
 | _::_,[],h,_=>by simp at h
 | x::xs,y::c,h,p=>.cons (p 0 x y rfl rfl) (Zkk (by simpa using h) λi a b h1 h2=>p (i+1) a b (by simpa using h1) (by simpa using h2))
def jt(a:Int):List (Str×List (Option Int))->Nat->Wm->List Int×Wm
 | [],_,M=>([],M)
 | m::l,k,M=>if a / 2 ^ k % 2=1 then((aY M m.2).1++(jt a l (k+1) (aY M m.2).2).1,(jt a l (k+1) (aY M m.2).2).2)else jt a l (k+1) M
def lsE(x:Int):Nat->Nat->Int
 | _,0=>0
 | i,n+1=>if x / 2 ^ i % 2=0 then 2 ^ i else lsE x (i+1) n
def Ov(k:Nat)(lo:Int)(n:Nat):Int:=if k=0 then 0 else if k=1 then lsE lo 0 n else 2 ^ n - 1
def SM(b:Int)(m:Str×List (Option Int)):∀(l:List (Str×List (Option Int))) (k:Nat) (M:Wm),jt b (l++[m]) k M=if b / 2 ^ (k+l.length) % 2=1 then((jt b l k M).1++(aY (jt b l k M).2 m.2).1,(aY (jt b l k M).2 m.2).2)else jt b l k M
 | [],k,M=>by
  show(if b / 2 ^ k % 2=1 then((aY M m.2).1++[],(aY M m.2).2)else([],M))=_;rw[List.append_nil];rfl
 | a::l,k,M=>by
  have e:k+(a::l).length=k+1+l.length:=by rw[List.length_cons];omega
  rw[e,List.cons_append];show(if b / 2 ^ k % 2=1 then((aY M a.2).1++(jt b (l++[m]) (k+1) (aY M a.2).2).1,(jt b (l++[m]) (k+1) (aY M a.2).2).2)else jt b (l++[m]) (k+1) M)=_;show _=if b / 2 ^ (k+1+l.length) % 2=1 then(((if b / 2 ^ k % 2=1 then((aY M a.2).1++(jt b l (k+1) (aY M a.2).2).1,(jt b l (k+1) (aY M a.2).2).2)else jt b l (k+1) M)).1++(aY (if b / 2 ^ k % 2=1 then((aY M a.2).1++(jt b l (k+1) (aY M a.2).2).1,(jt b l (k+1) (aY M a.2).2).2)else jt b l (k+1) M).2 m.2).1,(aY (if b / 2 ^ k % 2=1 then((aY M a.2).1++(jt b l (k+1) (aY M a.2).2).1,(jt b l (k+1) (aY M a.2).2).2)else jt b l (k+1) M).2 m.2).2)else(if b / 2 ^ k % 2=1 then((aY M a.2).1++(jt b l (k+1) (aY M a.2).2).1,(jt b l (k+1) (aY M a.2).2).2)else jt b l (k+1) M)
  by_cases h:b / 2 ^ k % 2=1
  ·simp only[if_pos h];rw[SM b m l (k+1)]
   by_cases h2:b / 2 ^ (k+1+l.length) % 2=1
   ·simp only[if_pos h2,List.append_assoc]
   ·simp only[if_neg h2]
  ·simp only[if_neg h];rw[SM b m l (k+1)]
def JB:∀{l:List (Option Int)}{M:Wm},(aY M l).2.hands=M.hands
 | [],_=>rfl
 | x::l,M=>by
  show(aY (cg M x).2 l).2.hands=_;rw[JB,Ou]
def El(a:Int)(B:Nat):∀(l:List (Str×List (Option Int))) (k:Nat) (M:Wm),(∀m∈l,m.2.length<=B)->(jt a l k M).2.sw.phase=M.sw.phase/\(jt a l k M).2.sw.grey.length<=M.sw.grey.length+l.length * B/\(jt a l k M).1.length<=l.length * B/\(jt a l k M).2.hands=M.hands
 | [],_,_,_=>by simp[jt]
 | m::l,k,M,h=>by
  have hm:=h m (by simp);have e:(m::l).length * B=l.length * B+B:=by rw[List.length_cons,Nat.succ_mul]
  unfold jt
  by_cases z:a / 2 ^ k % 2=1
  ·rw[if_pos z];obtain⟨c,g,d,b⟩:=El a B l (k+1) (aY M m.2).2 λx hx=>h x (by simp[hx]);obtain⟨f,i⟩:=wV (l:=m.2) (M:=M);have j:=Bk (l:=m.2) (M:=M);exact⟨c.trans f,by show(jt a l (k+1) (aY M m.2).2).2.sw.grey.length<=_;omega,by show((aY M m.2).1++_).length<=_;rw[List.length_append];omega,b.trans JB⟩
  ·rw[if_neg z];obtain⟨c,g,d,b⟩:=El a B l (k+1) M λx hx=>h x (by simp[hx]);exact⟨c,by omega,by omega,b⟩
structure NtR(M M':Wm):Prop where
 rm:M'.room=M.room
 us:M'.used=M.used
 bn:M'.born=M.born
 hd:M'.hands=M.hands
 nm:M'.names=M.names
 ww:M'.w=M.w
 tl:M'.tells=M.tells
 sw:∃g,M'.sw={ M.sw with grey:=g }
 ce:M'.cells.map (λo=>o.map λc=>{ c with tone:=0 })=M.cells.map (λo=>o.map λc=>{ c with tone:=0 })
def NtR.refl(M:Wm):NtR M M:=⟨rfl,rfl,rfl,rfl,rfl,rfl,rfl,⟨_,rfl⟩,rfl⟩
def NtR.trans{M M1 M2:Wm}(a:NtR M M1)(b:NtR M1 M2):NtR M M2:=by
 obtain⟨k,p,l,c,q,d,h,⟨g,m⟩,n⟩:=a;obtain⟨o,f,s,t,i,u,j,⟨g',e⟩,r⟩:=b;exact⟨o.trans k,f.trans p,s.trans l,t.trans c,i.trans q,u.trans d,j.trans h,⟨g',by rw[e,m]⟩,r.trans n⟩
def Zdg(M:Wm)(x:Option Int):NtR M (cg M x).2:=by
 cases x with
 | none=>exact NtR.refl M
 | some i=>
  unfold cg;dsimp only;cases hc:cellAt M i with
  | none=>exact NtR.refl M
  | some c=>
   dsimp only;split
   ·obtain⟨a,h1⟩:=dm.mp hc;refine⟨rfl,rfl,rfl,rfl,rfl,rfl,rfl,⟨_,rfl⟩,?_⟩;show(M.cells.set i.toNat _).map _=_;rw[List.map_set];refine List.ext_getElem? λk=>?_
    by_cases z:i.toNat=k
    ·subst z;rw[List.getElem?_set_self (by rw[aX];exact(dH h1).1),cA,h1];rfl
    ·rw[List.getElem?_set_ne z]
   ·exact NtR.refl M
def Xw:∀(l:List (Option Int)) (M:Wm),NtR M (aY M l).2
 | [],M=>NtR.refl M
 | x::l,M=>(Zdg M x).trans (Xw l _)
def Za8(a:Int):∀(l:List (Str×List (Option Int))) (k:Nat) (M:Wm),NtR M (jt a l k M).2
 | [],_,M=>NtR.refl M
 | m::l,k,M=>by
  unfold jt;split
  ·exact(Xw m.2 M).trans (Za8 a l (k+1) _)
  ·exact Za8 a l (k+1) M
def Zow(a:Int)(l:List (Str×List (Option Int)))(k:Nat)(M:Wm):(jt a l k M).2.sw.turn=M.sw.turn/\(jt a l k M).2.sw.looked=M.sw.looked/\(jt a l k M).2.sw.looks=M.sw.looks:=by
 obtain⟨g,e⟩:=(Za8 a l k M).sw;rw[e];exact⟨rfl,rfl,rfl⟩
def Zlg{M:Wm}{x:Option Int}(h:(cg M x).1=none):(cg M x).2=M:=by
 cases x with
 | none=>rfl
 | some i=>
  unfold cg at h ⊢;dsimp only at h ⊢;cases hc:cellAt M i with
  | none=>rfl
  | some c=>
   rw[hc]at h;dsimp only at h ⊢;split
   ·rename_i z
    rw[if_pos z]at h;cases h
   ·rfl
def Sv:∀{l:List (Option Int)}{M:Wm},(aY M l).1=[]->(aY M l).2=M
 | [],_,_=>rfl
 | x::l,M,h=>by
  have h:ofN (cg M x).1++(aY (cg M x).2 l).1=[]:=h;obtain⟨h1,h2⟩:=List.append_eq_nil_iff.mp h;have h3:(cg M x).1=none:=by
   cases e:(cg M x).1 with
   | none=>rfl
   | some b=>rw[e]at h1;cases h1
  show(aY (cg M x).2 l).2=M;rw[Sv h2,Zlg h3]
def Za9(a:Int):∀{l:List (Str×List (Option Int))}{k:Nat}{M:Wm},(jt a l k M).1=[]->(jt a l k M).2=M
 | [],_,_,_=>rfl
 | m::l,k,M,h=>by
  unfold jt at h ⊢;split
  ·rename_i z
   rw[if_pos z]at h;obtain⟨h1,h2⟩:=List.append_eq_nil_iff.mp h;show(jt a l (k+1) (aY M m.2).2).2=M;rw[Za9 a h2,Sv h1]
  ·rename_i z
   rw[if_neg z]at h;exact Za9 a h
def Zdq:∀(l:List (Str×List (Option Int))) (k:Nat) (M:Wm),jt 0 l k M=([],M)
 | [],_,_=>rfl
 | m::l,k,M=>by
  unfold jt;rw[if_neg (by simp),Zdq l (k+1) M]
def Z1q (H:Hp)(X:Cs)(wo:Addr)(a:Int)(Q:VK):Prop:=∃T s A M,WT H T/\s≠0/\WJ X H T s A M/\A.wo=wo/\(∀m∈M.hands,m.2.length<=100)/\(M.sw.phase="walk"->M.sw.grey.length<=5000)/\
 ∀H' T' l,jw s H H' T T'->WJ X H' T' s A (jt a M.hands 0 M).2->H' l=some (.lst ((jt a M.hands 0 M).1.map V.int))->H l=none->Q (.ref l) H'
def lU(X:Cs):Sp:=λvs H Q E=>∃wo a,vs=[.ref wo,.int a]/\Z1q H X wo a Q
def iD(k:Nat):Sp:=λvs H Q E=>∃a lo h,vs=[.ref a,.int lo,.int h]/\0<=h/\h<=30/\Q (.int (Ov k lo h.toNat)) H
section
variable {K:aB}{X:Cs}{H:Hp}{Q:VK}{E:XK}{n:St->Hp->Prop}{bk ct:St->Hp->Prop}
def NT{a:Addr}(q:Q (.bl true) H):rY ⟨n,Q,bk,ct⟩ [some (.ref a)] H:=by
 unfold rY;walk_at"e";exact q
def WX{a:Addr}(q:Q (.bl false) H):yo ⟨n,Q,bk,ct⟩ [some (.ref a)] H:=by
 unfold yo;walk_at"e";exact q
def Fj{a:Addr}{lo h:Int}(q:0<=h/\h<=30/\Q (.int (Ov 0 lo h.toNat)) H):oA ⟨n,Q,bk,ct⟩ [some (.ref a),some (.int lo),some (.int h)] H:=by
 unfold oA;walk_at"e";exact q.2.2
def Kz{a:Addr}{lo h:Int}(q:0<=h/\h<=30/\Q (.int (Ov 2 lo h.toNat)) H):qM wg ⟨n,Q,bk,ct⟩ [some (.ref a),some (.int lo),some (.int h)] H:=by
 obtain⟨b,h1,q⟩:=q;unfold qM;walk_at"e";exact⟨h,rfl,b,h1,q⟩
def KJ{a:Addr}{lo h:Int}(q:0<=h/\h<=30/\Q (.int (Ov 1 lo h.toNat)) H):qO ⟨n,Q,bk,ct⟩ [some (.ref a),some (.int lo),some (.int h),none] H:=by
 obtain⟨g,h1,q⟩:=q;have q:Q (.int (lsE lo 0 h.toNat)) H:=q;unfold qO;walk_at"e";refine⟨h,rfl,by omega,by omega,?_⟩;refine forR (λi σ c=>∃v,σ=[some (.ref a),some (.int lo),some (.int h),v]/\c=H/\(i<=h.toNat->lsE lo 0 h.toNat=lsE lo i (h.toNat - i))) ⟨none,rfl,rfl,λ_=>rfl⟩ ?_ ?_
 ·rintro i σ c j ⟨v,rfl,rfl,b⟩;have b:=b (by omega);have f:h.toNat - i=(h.toNat - (i+1))+1:=by omega
  rw[f]at b;have e:lsE lo i (h.toNat - (i+1)+1)=if lo / 2 ^ i % 2=0 then 2 ^ i else lsE lo (i+1) (h.toNat - (i+1)):=rfl
  rw[e]at b;have d:((0:Int)+(i:Int)).toNat=i:=by omega
  walk_at"e";rw[d,Zy6];refine wD (λz=>?_) (λz=>?_)
  ·rw[if_pos z]at b;walk_at"e";refine i_I (Zv9 (by omega) (by omega)) ?_;rw[d,Int.one_mul,<- b];exact q
  ·rw[if_neg z]at b;walk_at"e";exact⟨_,rfl,rfl,λ_=>b⟩
 ·rintro σ c ⟨v,rfl,rfl,b⟩;have b:=b (Nat.le_refl _);rw[Nat.sub_self]at b;have b:lsE lo 0 h.toNat=0:=b;walk_at"e";rw[b]at q;exact q
def VH{wo:Addr}{a:Int}(B:qC K X)(q:Z1q H X wo a Q):
  yd K (fD X) ⟨n,Q,bk,ct⟩ [some (.ref wo),some (.int a),none,none,none] H:=by
 obtain⟨T,s,A,M,w,s0,j,rfl,hs,hg,q⟩:=q;have lh:=j.jd.lh;have l5:=j.jd.l5;unfold yd;walk_at"e";refine⟨aU (by simp),λl hl=>?_⟩;have g:jw s H (upd H l (.lst [])) T (kJ T l (s+1,1)):=jw.fresh w hl;have r:WJ X (upd H l (.lst [])) (kJ T l (s+1,1)) s A M:=j.fresh hl;have S:upd H l (.lst []) l=some (.lst []):=aq;have tl:kJ T l (s+1,1) l=(s+1,1):=jx;generalize upd H l (.lst [])=H1 at g r S ⊢;generalize kJ T l (s+1,1)=U at g r tl;obtain⟨dw,ow⟩:=r.jb.ow;walk_at"e";refine aH ow B.cW B.nWd eV ?_;walk_at"e";refine⟨A.hl,rfl,⟨_,cj.of r.jb.on⟩,ZA1 (A.hs.map λp=>V.ref p.1) (λi σ e=>∃T' P E,σ=[some (.ref A.wo),some (.int a),some (.ref l),P,E]/\jw s H e T T'/\T' l=(s+1,1)/\WJ X e T' s A (jt a (M.hands.take i) 0 M).2/\e l=some (.lst ((jt a (M.hands.take i) 0 M).1.map V.int))) ⟨U,_,_,rfl,g,tl,r,S⟩ (λ_ _ _ _ ⟨_,_,_,_,_,_,z,_⟩=>cj.of z.jb.on) ?_ ?_⟩
 ·rintro i x t σ e hx ⟨u,P,E,rfl,c,b,C,D⟩ W;rw[cA]at hx;obtain⟨p,hp,rfl⟩:=Option.map_eq_some_iff.mp hx;have hil:i<A.hs.length:=(dH hp).1;obtain⟨m,hm⟩:∃m,M.hands[i]? =some m:=⟨_,bK (by omega)⟩;have L:M.hands.take (i+1)=M.hands.take i++[m]:=by rw[List.take_add_one,hm];rfl
  have h:(M.hands.take i).length=i:=by rw[List.length_take];omega
  obtain⟨n1,n2,n3,n4⟩:=El a 100 (M.hands.take i) 0 M λx hx=>hs x (List.mem_of_mem_take hx);have sn:=SM a m (M.hands.take i) 0 M;rw[<- L,Nat.zero_add,h]at sn;generalize zz:upd e t _=H3;obtain⟨J,O⟩:=nwO W zz;have F:=C.same J;have f:=c.trans (jw.same (s:=s) c.wt J);have v:=J _ _ D;refine⟨t,_,rfl,fZ.of O,rfl,.int i,_,rfl,?_⟩;walk_at"e";refine⟨.ref p.1,_,rfl,?_⟩;walk_at"e";refine⟨rfl,?_⟩;walk_at"e";rw[Zy6,Int.toNat_natCast];refine wD (λz=>?_) (λz=>?_)
  ·rw[if_pos z]at sn;walk_at"e";refine⟨.inl ⟨rfl,_,cj.of v⟩,?_⟩;have k:(jt a (M.hands.take i) 0 M).2.hands[i]? =some m:=by rw[n4];exact hm
   have hd:=F.jd.hd i p m hp k;obtain⟨dx,o1⟩:=hd.o1;have N:=hs m (List.mem_of_getElem? hm);have hB:(M.hands.take i).length * 100<=3000:=by rw[h];omega
   walk_at"e";refine aH o1 B.cD B.nDs rz ?_;walk_at"e";refine⟨_,_,rfl,m.2,u,s,A,_,f.wt,s0,F,rfl,.inr (.inl ⟨i,p,m,hp,k,rfl,rfl⟩),N,λy=>?_,λH4 R l4 d Y g4 Z=>?_⟩
   ·have:=hg (n1.symm.trans y);omega
   have I:H4 l=some (.lst ((jt a (M.hands.take i) 0 M).1.map V.int)):=d.kp _ _ v (by rw[b];show s+1≠s;omega);have nl:=Bk (l:=m.2) (M:=(jt a (M.hands.take i) 0 M).2);walk_at"e";refine⟨l,l4,_,_,rfl,rfl,I,g4,by rw[aX,aX];exact aU (by omega),?_⟩;walk_at"e";have o:R l=(s+1,1):=(d.tg _ _ v).trans b;refine⟨R,_,_,rfl,jw.new (f.trans d) hl I,o,?_,?_⟩
   ·rw[sn];exact Y.other (s':=s+1) (jw.upd d.wt I (by rw[o])) (by omega) (by omega)
   ·rw[sn,aq,List.map_append]
  ·rw[if_neg z]at sn;walk_at"e";exact⟨u,_,_,rfl,f,b,by rw[sn];exact F,by rw[sn];exact v⟩
 ·rintro σ e ⟨u,P,E,rfl,c,b,C,D⟩;walk_at"e";rw[aX,lh,List.take_length]at C D;exact q e u l c C D hl
end
structure Zc3(M:Wm):Prop where
 cl:M.cells.length<=900
 hl:∀m∈M.hands,m.2.length<=100
 fl:∀c,some c∈M.cells->c.fl.length<=50
 nl:M.names.length<=900
 gl:M.sw.phase="walk"->M.sw.grey.length<=900
 gc:M.sw.phase="walk"->∀x∈M.sw.grey,∃c,cellAt M x=some c
 ph:M.sw.phase="rest"\/M.sw.phase="walk"\/M.sw.phase="give"\/M.sw.phase="lost"
 a0:0<=M.sw.at'
def Zr6(H:Hp)(T:Tg)(M:Wm)(b:Int)(w:List Int):Prop:=∃a c,M.sw.loss=.ref a/\T a=(0,0)/\H a=some (.tup [.str "lost",.int b,.ref c])/\T c=(0,0)/\H c=some (.lst (w.map V.int))
def wR(M:Wm)(i:Nat):Option Ce:=((M.cells[i]?).join).bind λc=>if c.tone=M.sw.sense then none else some c
def uI(M:Wm):List Int:=(List.range M.cells.length).filterMap λi=>(wR M i).map λ_=>(i:Int)
def uJ(M:Wm):List Int:=(List.range M.cells.length).filterMap λi=>(wR M i).map (·.birth)
def ju(M:Wm):Wm:={ M with sw:={ M.sw with stop:=M.cells.length,at':=0 } }
def cU(M:Wm):Int:=Ov M.w.toNat M.sw.looked M.hands.length
def Ez(M:Wm):Prop:=cU M=0\/(M.w=2/\(jt (cU M) M.hands 0 M).1=[])
inductive vW(lb:Int)(lw:List Int)(M:Wm):Ev->Wm->Prop
 | begin:M.sw.phase="rest"->vW lb lw M ⟨"begin",some (M.sw.turn+1),(jt (pU M.w M.hands.length) M.hands 0 (Fb M)).1⟩ (jt (pU M.w M.hands.length) M.hands 0 (Fb M)).2
 | walk (x:Int) (g:List Int) (c:Ce):M.sw.phase="walk"->M.sw.grey=x::g->cellAt M x=some c->vW lb lw M ⟨"walk",some c.birth,(aY { M with sw:={ M.sw with grey:=g,walks:=M.sw.walks+1 } } c.fl).1⟩ (aY { M with sw:={ M.sw with grey:=g,walks:=M.sw.walks+1 } } c.fl).2
 | look (N:Wm):M.sw.phase="walk"->M.sw.grey=[]->¬ Ez M->N=(jt (cU M) M.hands 0 M).2->vW lb lw M ⟨"look",some (cU M),(jt (cU M) M.hands 0 M).1⟩ { N with sw:={ N.sw with looks:=N.sw.looks+1,looked:=if M.w=2 then N.sw.looked else Builtin.bitOr N.sw.looked (cU M) } }
 | cut (q qs:List (Int×List Int)):M.sw.phase="walk"->M.sw.grey=[]->Ez M->KB.UG (fdOf M) (jE M) q q.length qs->(∀x∈qs,∀c,cellAt M x.1=some c->c.tone=M.sw.sense)->vW lb lw M ⟨"cut",some (uJ M).length,uJ M⟩ { ju M with sw:={ (ju M).sw with phase:="give" } }
 | lost (q qs:List (Int×List Int)) (i:Nat) (x:Int×List Int) (c:Ce) (v:V):M.sw.phase="walk"->M.sw.grey=[]->Ez M->KB.UG (fdOf M) (jE M) q q.length qs->qs[i]? =some x->(∀(k:Nat) y d,k<i->qs[k]? =some y->cellAt M y.1=some d->d.tone=M.sw.sense)->cellAt M x.1=some c->c.tone≠M.sw.sense->vW lb lw M ⟨"lost",some c.birth,x.2⟩ { ju M with sw:={ (ju M).sw with phase:="lost",loss:=v } }
 | pass:M.sw.phase="give"->M.sw.at'<M.sw.stop->(∀c,cellAt M M.sw.at'=some c->c.tone=M.sw.sense)->vW lb lw M ⟨"pass",some M.sw.at',[]⟩ { M with sw:={ M.sw with at':=M.sw.at'+1,passes:=M.sw.passes+1 } }
 | back (c:Ce):M.sw.phase="give"->M.sw.at'<M.sw.stop->cellAt M M.sw.at'=some c->c.tone≠M.sw.sense->vW lb lw M ⟨"back",some c.birth,[M.sw.at']⟩ { M with used:=M.used - (1+c.fl.length+c.bulk),cells:=M.cells.set M.sw.at'.toNat none,sw:={ M.sw with at':=M.sw.at'+1,passes:=M.sw.passes+1 } }
 | fin:M.sw.phase="give"->¬ M.sw.at'<M.sw.stop->vW lb lw M ⟨"end",some M.sw.turn,[M.sw.walks,M.sw.looks,M.sw.passes]⟩ { M with sw:={ M.sw with phase:="rest" } }
 | again:M.sw.phase="lost"->vW lb lw M ⟨"lost",some lb,lw⟩ M
def Fe(X:Cs)(P:Wm->Prop)(wo:Addr)(H:Hp)(Q:VK):Prop:=∃T s A M lb lw,WT H T/\s≠0/\WJ X H T s A M/\A.wo=wo/\Zc3 M/\P M/\(M.sw.phase="lost"->Zr6 H T M lb lw)/\
 ∀e c,vW lb lw M e c->∀H' T' d a,jw s H H' T T'->WJ X H' T' s d c->d.wo=wo/\d.sw=A.sw->EvN H H' a e->(c.sw.phase="lost"->∃b,e.thing=some b/\Zr6 H' T' c b e.notes)->Q (.ref a) H'
def bQ(X:Cs)(P:Wm->Prop):Sp:=λvs H Q E=>∃wo,vs=[.ref wo]/\Fe X P wo H Q
def Zd3(M:Wm):Prop:=M.sw.phase="walk"/\M.sw.grey≠[]
def Zd5(M:Wm):Prop:=M.sw.phase="walk"/\M.sw.grey=[]
def Zha(M:Wm):Prop:=M.sw.phase="walk"/\M.sw.grey=[]/\Ez M
def Zd4(M:Wm):Prop:=M.sw.phase="give"/\M.sw.at'<M.sw.stop
def pEnd(M:Wm):Prop:=M.sw.phase="give"/\¬ M.sw.at'<M.sw.stop
def QC(z:Str)(M:Wm):Prop:=M.sw.phase=z
def Zhb(_:Wm):Prop:=True
def Z2q (H:Hp)(d:Addr)(Q:VK):Prop:=∃z b l,∃ns:List Int,H d=some (.tup [.str z,.int b,.ref l])/\H l=some (.lst (ns.map V.int))/\∀a c H',aV H H'->H c=none->H' a=some (.tup [.str z,.int b,.ref c])->H' c=some (.lst (ns.map V.int))->Q (.ref a) H'
def m5(K:aB):Sp:=λvs H Q E=>∃a,vs=[.ref a]/\Z2q H a Q
def Z3q (X:Cs)(H:Hp)(wo:Addr)(Q:VK):Prop:=∃T s A M,WJ X H T s A M/\A.wo=wo/\M.cells.length<=900/\∀l H',aV H H'->H l=none->H' l=some (.lst ((uI M).map V.int))->Q (.ref l) H'
def BJ(X:Cs):Sp:=λvs H Q E=>∃wo,vs=[.ref wo]/\Z3q X H wo Q
section
variable {K:aB}{X:Cs}{H:Hp}{Q:VK}{E:XK}{n:St->Hp->Prop}{bk ct:St->Hp->Prop}
def UL{d:Addr}(q:Z2q H d Q):
  xZ K ⟨n,Q,bk,ct⟩ [some (.ref d)] H:=by
 obtain⟨z,b,l,ns,o1,o2,q⟩:=q;unfold xZ;walk_at"e";refine⟨d,_,0,_,rfl,rfl,fZ.of o1,rfl,?_⟩;walk_at"e";refine⟨d,_,1,_,rfl,rfl,fZ.of o1,rfl,?_⟩;walk_at"e";refine⟨d,_,2,_,rfl,rfl,fZ.of o1,rfl,?_⟩;walk_at"e";refine J4 (cj.of o2) λe c=>?_;generalize zz:upd H e _=H1;obtain⟨g,i⟩:=nwO c zz;walk_at"e";refine⟨aU (by simp),λa h=>?_⟩;have f:=aL h (.tup [.str z,.int b,.ref e]);exact q a e _ (g.trans f) c aq (f _ _ i)
def Kd{a b:Type}{f g:a->Option b}:∀{l:List a},(∀x∈l,f x=g x)->l.filterMap f=l.filterMap g
 | [],_=>rfl
 | x::l,h=>by
  rw[List.filterMap_cons,List.filterMap_cons,h x (by simp),Kd λy hy=>h y (by simp[hy])]
def Zcy{a b:Type}(f:a->Option b):∀(xs:List a),(List.range xs.length).filterMap (λi=>(xs[i]?).bind f)=xs.filterMap f
 | []=>rfl
 | x::xs=>by
  rw[List.length_cons,List.range_succ_eq_map,List.filterMap_cons];simp only[List.getElem?_cons_zero,Option.bind_some,List.filterMap_map,List.filterMap_cons];have e:((λi=>((x::xs)[i]?).bind f) ∘ Nat.succ)=λi=>(xs[i]?).bind f:=by
   funext i
   simp
  rw[e,Zcy f xs]
def Zl7{A:Wa}{M:Wm}{T:Tg}{s:Nat}(j:WJ X H T s A M)(f:V->Option V)(g:∀(i:Nat) (c:Ce),M.cells[i]? =some (some c)->f (.int i)=(wR M i).map λ_=>V.int i):((plc (A.cs.map pV)).map V.int).filterMap f=(uI M).map V.int:=by
 unfold plc uI;rw[List.filterMap_map,List.filterMap_map,List.filterMap_filter,List.map_filterMap,aX,j.jc.lc];refine Kd λi d=>?_;have a:=List.mem_range.mp d;have e:(A.cs.map pV)[i]? =some V.non↔M.cells[i]? =some none:=by
  constructor
  ·intro z;cases hc:M.cells[i]with
   | none=>rw[bK a,hc]
   | some c=>
    obtain⟨p,hp,_⟩:=j.jc.at (i:=i) (c:=c) (by rw[bK a,hc]);rw[cA,hp]at z;cases z
  ·intro z;rw[cA,j.jc.at0 z];rfl
 by_cases z:M.cells[i]? =some none
 ·rw[if_neg (by simp[e.mpr z])];unfold wR;rw[z];rfl
 ·have b:¬ (A.cs.map pV)[i]? =some V.non:=λy=>z (e.mp y);rw[if_pos (by simp only[b,decide_false,Bool.not_false])];cases hc:M.cells[i]with
  | none=>exact absurd (by rw[bK a,hc]) z
  | some c=>
   show f (.int (i:Int))=_;rw[g i c (by rw[bK a,hc]),Option.map_map];rfl
def Zei{wo:Addr}(d:qC K X)(q:Z3q X H wo Q):
  Ds K X.H (m6 X.H) (cL X) ⟨n,Q,bk,ct⟩ [some (.ref wo),none] H:=by
 obtain⟨T,s,A,M,j,rfl,hc,q⟩:=q;obtain⟨J,ow⟩:=j.jb.ow;obtain⟨F,oh⟩:=j.jh.oh;unfold Ds;walk_at"e";refine aH ow d.cW d.Ow bD ?_;walk_at"e";refine J7 ?_;walk_at"e";refine⟨A.hp,F,_,rfl,oh,Ew,?_⟩;walk_at"e";refine⟨_,rfl,A.ca,M.room,M.used,M.born,_,j.hpO,by rw[aX,j.jc.lc];omega,λlt o=>?_⟩;generalize zz:upd H lt _=H1;obtain⟨l,w⟩:=nwO o zz;have e:=j.same l;have I:(plc (A.cs.map pV)).length<=900:=by
  unfold plc;rw[aX];refine Nat.le_trans (List.length_filter_le _ _) ?_;rw[List.length_range,aX,j.jc.lc];exact hc
 refine⟨lt,rfl,⟨_,cj.of w⟩,?_⟩
 let f:V->Option V:=λv=>match v with
  | .int p=>(wR M p.toNat).map λ_=>V.int p
  | _=>none
 refine QK (cj.of w) (λi=>(((plc (A.cs.map pV)).map V.int)[i]?).bind f) (by rw[aX];omega) (λi x u=>?_) ?_
 ·rw[cA]at u;obtain⟨p,hp,rfl⟩:=Option.map_eq_some_iff.mp u;have hm:=List.mem_of_getElem? hp;unfold plc at hm;obtain⟨k,hk,rfl⟩:=List.mem_map.mp hm;obtain⟨h,m⟩:=List.mem_filter.mp hk;have b:k<M.cells.length:=by
   have:=List.mem_range.mp h;rw[aX,j.jc.lc]at this;exact this
  obtain⟨c,a⟩:∃c,M.cells[k]? =some (some c):=by
   cases h3:M.cells[k]with
   | none=>
    exfalso
    have:(A.cs.map pV)[k]? =some V.non:=by rw[cA,j.jc.at0 (i:=k) (by rw[bK b,h3])];rfl
    simp[this]at m
   | some c=>exact⟨c,by rw[bK b,h3]⟩
  obtain⟨C,r,ce⟩:=e.jc.at a;have B:(((plc (A.cs.map pV)).map V.int)[i]?).bind f=(wR M k).map λ_=>V.int (k:Int):=by
   rw[cA,hp];show(wR M (Int.toNat k)).map _=_;rw[Int.toNat_natCast]
  have D:(wR M k)=if c.tone=M.sw.sense then none else some c:=by unfold wR;rw[a];rfl
  obtain⟨E,g⟩:=e.jh.oh;refine⟨λq hq=>?_,λy q hy hq=>?_⟩
  ·rw[B,D]at hq;walk_at"c";walk_at"e";refine aH g d.c.cM d.c.bN bU ?_;walk_at"e";refine iw (cj.of e.jh.oc) (iI (v:=.ref C.1) (by rw[cA,r];rfl)) ?_;walk_at"e";refine⟨_,_,rfl,T,s,A,M,_,C,c,e.w0,rfl,ce,rfl,?_⟩;walk_at"e"
   by_cases z:c.tone=M.sw.sense
   ·rw[if_pos z]at hq;rw[decide_eq_true z];exact hq
   ·rw[if_neg z]at hq;rw[decide_eq_false z];exact hq
  ·rw[B]at hy;obtain⟨_,_,rfl⟩:=Option.map_eq_some_iff.mp hy;walk_at"c";walk_at"e";exact hq
 ·intro p t;rw[Zcy f,Zl7 j f (λi c hc=>by show(wR M (Int.toNat i)).map _=_;rw[Int.toNat_natCast])];exact q p _ (l.trans (aL t _)) (l.free t) aq
def Qd{wo:Addr}(c:qC K X)(q:Fe X (QC "rest") wo H Q):uH K (Q7 X) (lU X) ⟨n,Q,bk,ct⟩ [some (.ref wo),none] H:=by
 obtain⟨T,s,A,M,lb,lw,w,v,j,rfl,ok,ph,lo,q⟩:=q;unfold uH;walk_at"e";refine⟨_,rfl,T,s,A,M,w,v,j,rfl,λD x p d m b=>?_⟩;obtain⟨E,ow⟩:=m.jb.ow;obtain⟨ds,os⟩:=m.js.os;rw[b.1]at ow;walk_at"e";refine aH ow c.cW c.SQ bw ?_;walk_at"e";refine aH os c.cS c.n4 iJ ?_;walk_at"e";refine⟨_,_,rfl,x,s,p,_,d.wt,v,m,b.1,ok.hl,λ_=>Nat.zero_le _,λu t l e g h k=>?_⟩;have g:WJ X u t s p (jt (pU M.w M.hands.length) M.hands 0 (Fb M)).2:=g;have h:u l=some (.lst ((jt (pU M.w M.hands.length) M.hands 0 (Fb M)).1.map V.int)):=h;obtain⟨y,f⟩:=g.jb.ow;obtain⟨C,o⟩:=g.js.os;rw[b.1]at f;have r:=Zow (pU M.w M.hands.length) M.hands 0 (Fb M);walk_at"e";refine aH f c.cW c.SQ bw ?_;walk_at"e";refine aH o c.cS c.n5 qD ?_;walk_at"e";refine⟨aU (by simp),λa B=>?_⟩;rw[r.1];have i:=aL B (.tup [.str "begin",.int (M.sw.turn+1),.ref l]);refine q _ _ (.begin ph) _ t p a (d.trans (e.trans (jw.same e.wt i))) (g.same i) b ⟨l,jw.free d k,aq,i _ _ h⟩ λz=>?_;have:=(El (pU M.w M.hands.length) 100 M.hands 0 (Fb M) ok.hl).1;rw[this]at z;exact absurd z (show ¬ ("walk":Str)="lost" by decide)
end
def Z4q (H:Hp)(X:Cs)(wo:Addr)(Q:VK):Prop:=∃T s A M,WT H T/\s≠0/\WJ X H T s A M/\A.wo=wo/\Zc3 M/\
 (∀q b H',KB.UG (fdOf M) (jE M) q q.length b->(∀x∈b,∀c,cellAt M x.1=some c->c.tone=M.sw.sense)->aV H H'->Q .non H')/\
 (∀q b (i:Nat) x c a e H',KB.UG (fdOf M) (jE M) q q.length b->b[i]? =some x->(∀(k:Nat) y d,k<i->b[k]? =some y->cellAt M y.1=some d->d.tone=M.sw.sense)->cellAt M x.1=some c->c.tone≠M.sw.sense->aV H H'->H a=none->H e=none->H' a=some (.tup [.str "lost",.int c.birth,.ref e])->H' e=some (.lst (x.2.map V.int))->Q (.ref a) H')
def u5(X:Cs):Sp:=λvs H Q E=>∃wo,vs=[.ref wo]/\Z4q H X wo Q
section
variable {K:aB}{X:Cs}{H:Hp}{Q:VK}{E:XK}{n:St->Hp->Prop}{bk ct:St->Hp->Prop}
def Zng{a:Type}(f:a->Nat)(B:Nat):∀(xs:List a),(∀x∈xs,f x<=B)->(xs.map f).sum<=xs.length * B
 | [],_=>by simp
 | x::xs,h=>by
  have h1:=h x (by simp);have h2:=Zng f B xs λy hy=>h y (by simp[hy]);rw[List.map_cons,List.sum_cons,List.length_cons,Nat.succ_mul];omega
def Zv7{a b:Type}(f:a->List b)(B:Nat):∀(xs:List a),(∀x∈xs,(f x).length<=B)->(xs.flatMap f).length<=xs.length * B
 | [],_=>by simp
 | x::xs,h=>by
  have h1:=h x (by simp);have h2:=Zv7 f B xs λy hy=>h y (by simp[hy]);rw[List.flatMap_cons,List.length_append,List.length_cons,Nat.succ_mul];omega
def Zxv{M:Wm}{T:Tg}{s:Nat}{A:Wa}(j:WJ X H T s A M)(ok:Zc3 M):Few (fdOf M) (jE M):=by
 have l5:=j.jd.l5;have lh:=j.jd.lh;have hl:(heldOf M).length=M.hands.length:=by unfold heldOf;rw[aX]
 have hr:(jE M).length<=31:=by unfold jE;rw[List.length_append,hl,<- lh];simp;omega
 have a:∀x∈jE M,x.length<=900:=λx hx=>by
  unfold jE at hx;rcases List.mem_append.mp hx with hx | hx
  ·obtain⟨m,hm,rfl⟩:=List.mem_map.mp hx;exact Nat.le_trans (ok.hl m hm) (by decide)
  ·rw[List.mem_singleton.mp hx];unfold vq;rw[aX];exact ok.nl
 have f:(fdOf M).length=M.cells.length:=by unfold fdOf;rw[aX]
 have d:=ok.cl;have b:∀(i:Nat) x,(fdOf M)[i]? =some x->KB.wgt x<=50:=λi x hx=>by
  unfold fdOf at hx;rw[cA]at hx;obtain⟨o,e,rfl⟩:=Option.map_eq_some_iff.mp hx;cases o with
  | none=>exact Nat.zero_le _
  | some c=>exact ok.fl c (List.mem_of_getElem? e)
 refine⟨by omega,λp fl hp=>?_,by omega,λx hx=>by have:=a x hx;omega,?_⟩
 ·rw[Zqo]at hp;obtain⟨c,hc,rfl⟩:=Option.map_eq_some_iff.mp hp;have:=ok.fl c (sY hc);omega
 ·unfold KB.total;have h1:(KB.q0 (fdOf M) 0 (jE M)).length<=31 * 900:=by
   unfold KB.q0;refine Nat.le_trans (Zv7 _ 900 _ λx hx=>?_) (by rw[List.length_zipIdx];exact Nat.mul_le_mul_right _ hr);refine Nat.le_trans KB.QD (a x.1 ?_);obtain⟨_,h2⟩:=List.mem_zipIdx_iff_le_and_getElem?_sub.mp hx;exact List.mem_of_getElem? h2
  have h2:KB.Zfv (fdOf M) []<=900 * 50:=by
   unfold KB.Zfv;refine Nat.le_trans (Zng _ 50 _ λx hx=>?_) (by rw[List.length_zipIdx,f];exact Nat.mul_le_mul_right _ d);obtain⟨_,h2⟩:=List.mem_zipIdx_iff_le_and_getElem?_sub.mp hx;simp only[List.map_nil,List.not_mem_nil,↓reduceIte];exact b _ _ h2
  omega
def Zjq{M:Wm}:∀{a:List (List (Option Int))}{ls:List Addr},ls.length=a.length->(∀(j:Nat) r x,ls[j]? =some r->a[j]? =some x->H r=some (.lst (x.map oV)))->Ii K H ls a
 | [],[],_,_=>trivial
 | [],_::_,h,_=>by simp at h
 | _::_,[],h,_=>by simp at h
 | x::a,r::ls,h,g=>⟨cj.of (g 0 r x rfl rfl),Zjq (M:=M) (by simpa using h) λj r x b c=>g (j+1) r x (by simpa using b) (by simpa using c)⟩
def Wn{wo:Addr}(g:qC K X)(q:Z4q H X wo Q):
  yf K (cL X) (FZ K X.C X.H) (QW X) ⟨n,Q,bk,ct⟩ [some (.ref wo),none,none,none] H:=by
 obtain⟨T,s,A,M,w,s0,j,rfl,ok,q1,q2⟩:=q;obtain⟨dw,ow⟩:=j.jb.ow;have l5:=j.jd.l5;have lh:=j.jd.lh;have nl:=ok.nl;unfold yf;walk_at"e";refine aH ow g.cW g.Ow bD ?_;walk_at"e";refine⟨_,rfl,T,s,A,M,s0,j,rfl,by omega,by omega,λra rs H1 s1 nra J I nrs nrl g1=>?_⟩;walk_at"e";refine⟨A.hp,ra,fdOf M,rs,jE M,rfl,(j.same s1).w0.hv,cj.of J,Zjq (M:=M) I g1,Zxv j ok,λl ts q m H2 L nl2 s2 ol qa=>?_⟩;have f:=s1.trans s2;have r:=j.same f;have good:=L.good.2;have p:=qa.len;obtain⟨dw2,R⟩:=r.jb.ow;obtain⟨dh2,F⟩:=r.jh.oh;refine⟨l,rfl,⟨_,cj.of ol⟩,forL (ts.map V.ref) (λi σ o=>∃Y S W,σ=[some (.ref A.wo),Y,S,W]/\o=H2/\∀(k:Nat) y d,k<i->m[k]? =some y->cellAt M y.1=some d->d.tone=M.sw.sense) ⟨_,_,_,rfl,rfl,λk y d hk=>absurd hk (Nat.not_lt_zero _)⟩ (λ_ _ _ _ ⟨_,_,_,_,z,_⟩=>by rw[z];exact cj.of ol) ?_ ?_⟩
 ·rintro i x σ o hi ⟨Y,S,W,rfl,rfl,b⟩;rw[cA]at hi;obtain⟨t,ht,rfl⟩:=Option.map_eq_some_iff.mp hi;have E:i<m.length:=by rw[<- p];exact(dH ht).1
  obtain⟨t',wa,et,ot,B⟩:=qa.at (bK E);rw[ht]at et;cases et;have hx:m[i]? =some m[i]:=bK E;generalize m[i]=x at hx ot B;obtain⟨fl,D⟩:=Option.isSome_iff_exists.mp (good x (List.mem_of_getElem? hx)).there;rw[Zqo]at D;obtain⟨c,hc,_⟩:=Option.map_eq_some_iff.mp D;obtain⟨x0,U⟩:=dm.mp hc;obtain⟨pp,P,ce⟩:=r.jc.at U;obtain⟨_,_,⟨dc,oc⟩,_⟩:=id ce;refine⟨t,_,rfl,fZ.of ot,rfl,?_⟩;refine⟨_,_,rfl,?_⟩;walk_at"e";refine⟨_,_,rfl,?_⟩;walk_at"e";refine⟨rfl,?_⟩;walk_at"e";refine aH R g.cW g.Ow bD ?_;refine aH F g.c.cM g.c.bN bU ?_;walk_at"e";refine iw (cj.of r.jh.oc) (rC (v:=.ref pp.1) x0 (by rw[cA,P];rfl)) ?_;walk_at"e";refine⟨_,_,rfl,T,s,A,M,_,pp,c,r.w0,rfl,ce,rfl,?_⟩;walk_at"e";refine HY (λz=>?_) (λz=>?_)
  ·walk_at"e";refine aH oc g.c.di g.c.dX gR ?_;walk_at"e";refine Ztn (fZ.of B) λO u=>?_;generalize zz:upd o O _=H3;obtain⟨s3,g3⟩:=nwO u zz;walk_at"e";refine⟨aU (by simp),λa na=>?_⟩;have s4:=aL na (.tup [.str "lost",.int c.birth,.ref O]);exact q2 q m i x c a O _ L hx b hc z (f.trans (s3.trans s4)) (f.free (s3.free na)) (f.free u) aq (s4 _ _ g3)
  ·walk_at"e";refine⟨_,_,_,rfl,rfl,λk y d hk N Z=>?_⟩
   by_cases h:k<i
   ·exact b k y d h N Z
   ·have:k=i:=by omega
    subst this;rw[hx]at N;cases N;rw[hc]at Z;cases Z;exact z
 ·rintro σ o ⟨Y,S,W,rfl,rfl,b⟩;rw[aX,p]at b;walk_at"e";refine q1 q m o L (λx hx c hc=>?_) f;obtain⟨k,hk,e⟩:=List.getElem_of_mem hx;exact b k x c hk (by rw[bK hk,e]) hc
def ZL{M:Wm}:((uI M).map some).map (vV M)=(uJ M).map some:=by
 unfold uI uJ;rw[List.map_map,List.map_filterMap,List.map_filterMap];refine Kd λi b=>?_;rw[Option.map_map,Option.map_map];cases hp:wR M i with
 | none=>rfl
 | some c=>
  unfold wR at hp;obtain⟨d,hd,e⟩:=Option.bind_eq_some_iff.mp hp;have a:d=c:=by
   split at e
   ·cases e
   ·exact Option.some.inj e
  subst a;show some (vV M (some (i:Int)))=some (some d.birth);have:cellAt M (i:Int)=some d:=by
   unfold cellAt;rw[if_pos (by omega),Int.toNat_natCast,hd]
  show some ((cellAt M (i:Int)).map _)=_;rw[this];rfl
def Zh8{M:Wm}(h:M.cells.length<=900):(uJ M).length<=900/\(uI M).length<=900:=by
 unfold uJ uI;have h1:=List.length_filterMap_le (λi=>(wR M i).map (·.birth)) (List.range M.cells.length);have h2:=List.length_filterMap_le (λ(i:Nat)=>(wR M i).map λ_=>(i:Int)) (List.range M.cells.length);rw[List.length_range]at h1 h2;exact⟨by omega,by omega⟩
def Zy4{wo:Addr}(f:qC K X)(q:Fe X Zha wo H Q):Zh0 K (jY X) (u5 X) (BJ X) (m5 K) ⟨n,Q,bk,ct⟩ [some (.ref wo),none,none,none] H:=by
 obtain⟨T,s,A,M,lb,lw,w,E,j,rfl,ok,⟨ph,gr,cd⟩,lo,q⟩:=q;obtain⟨dw,ow⟩:=j.jb.ow;obtain⟨ds,os⟩:=j.js.os;obtain⟨dh,oh⟩:=j.jh.oh;have B:=ok.cl;unfold Zh0;walk_at"e";refine aH ow f.cW f.SQ bw ?_;walk_at"e";refine aH ow f.cW f.Ow bD ?_;refine aH oh f.c.cM f.c.bN bU ?_;walk_at"e";refine jG (cj.of j.jh.oc) ?_;rw[aX,j.jc.lc];walk_at"e";refine⟨A.sw,X.S,ds,_,rfl,os,f.cS,f.n7,by show 11<1000;decide,?_⟩;rw[PN];walk_at"e";refine⟨A.sw,X.S,ds,_,rfl,aq,f.cS,f.n6,by show 11<1000;decide,?_⟩;rw[Gu,eG];obtain⟨b,t⟩:=j.sweep w E (dx:=ds) { M.sw with stop:=M.cells.length,at':=0 } rfl;have t:WJ X _ T s A (ju M):=t;generalize upd H A.sw (.ins X.S ds (cB M.sw.sense M.sw.phase A.gr M.sw.looked M.sw.turn 0 M.cells.length M.sw.walks M.sw.looks M.sw.passes M.sw.loss))=H1 at b t ⊢;have U:Zc3 (ju M):=⟨ok.cl,ok.hl,ok.fl,ok.nl,ok.gl,ok.gc,ok.ph,Int.le_refl _⟩;walk_at"e";refine⟨_,rfl,T,s,A,ju M,b.wt,E,t,rfl,U,λL Y C J o k=>?_,λL Y i x c a y C J hx o hc ht k N W oa D=>?_⟩
 ·have r:=t.same k;obtain⟨dw2,ow2⟩:=r.jb.ow;obtain⟨d,h⟩:=r.js.os;walk_at"e";refine⟨A.sw,X.S,d,_,rfl,h,f.cS,f.n2,by show 11<1000;decide,?_⟩;rw[oW];obtain⟨e,g⟩:=r.sweep (b.wt.same k) E (dx:=d) { (ju M).sw with phase:="give" } rfl;have g:WJ X _ T s A { ju M with sw:={ (ju M).sw with phase:="give" } }:=g;generalize upd C A.sw (.ins X.S d (cB (ju M).sw.sense "give" A.gr (ju M).sw.looked (ju M).sw.turn (ju M).sw.at' (ju M).sw.stop (ju M).sw.walks (ju M).sw.looks (ju M).sw.passes (ju M).sw.loss))=H3 at e g ⊢;obtain⟨dw3,R⟩:=g.jb.ow;obtain⟨ob,ol⟩:=Zh8 B;walk_at"e";refine aH R f.cW f.Ow bD ?_;walk_at"e";refine⟨_,rfl,T,s,A,_,g,rfl,B,λl4 H4 l nl4 g4=>?_⟩;have e4:(uI { ju M with sw:={ (ju M).sw with phase:="give" } }).map V.int=((uI M).map some).map oV:=by
   rw[List.map_map];rfl
  rw[e4]at g4;walk_at"e";refine⟨A.hp,l4,rfl,T,s,A,_,(uI M).map some,g.same l,rfl,g4,by rw[aX];omega,λl5 v=>?_⟩;have e5:(((uI M).map some).map (vV { ju M with sw:={ (ju M).sw with phase:="give" } })).map oV=(uJ M).map V.int:=by
   have:vV { ju M with sw:={ (ju M).sw with phase:="give" } }=vV M:=by funext x;cases x<;>rfl
   rw[this,ZL,List.map_map];rfl
  rw[e5];generalize zz:upd H4 l5 _=H5;obtain⟨s5,Z⟩:=nwO v zz;walk_at"e";refine jG (cj.of Z) ?_;rw[aX];walk_at"e";refine⟨aU (by simp),λa N=>?_⟩;have s6:=aL N (.tup [.str "cut",.int (uJ M).length,.ref l5]);have u:=l.trans (s5.trans s6);have O:H l5=none:=jw.free b (k.free (jw.free e (l.free v)));exact q _ _ (.cut L Y ph gr cd J o) _ T A a (b.trans ((jw.same b.wt k).trans (e.trans (jw.same e.wt u)))) (g.same u) ⟨rfl,rfl⟩ ⟨l5,O,aq,s6 _ _ Z⟩ λz=>absurd z (show ¬ ("give":Str)="lost" by decide)
 ·have r:=t.same k;have w2:=b.wt.same k;obtain⟨d,h⟩:=r.js.os;walk_at"e";refine⟨A.sw,X.S,d,_,rfl,h,f.cS,f.n2,by show 11<1000;decide,?_⟩;rw[oW];walk_at"e";refine⟨A.sw,X.S,d,_,rfl,aq,f.cS,f.n11,by show 11<1000;decide,?_⟩;rw[PX,eG];obtain⟨e,g⟩:=r.sweep w2 E (dx:=d) { (ju M).sw with phase:="lost",loss:=.ref a } rfl;have g:WJ X _ T s A { ju M with sw:={ (ju M).sw with phase:="lost",loss:=.ref a } }:=g;have ta:T a=(0,0):=b.wt _ N;have tw:T y=(0,0):=b.wt _ W;have m:upd C A.sw (.ins X.S d (cB (ju M).sw.sense "lost" A.gr (ju M).sw.looked (ju M).sw.turn (ju M).sw.at' (ju M).sw.stop (ju M).sw.walks (ju M).sw.looks (ju M).sw.passes (.ref a))) a=some (.tup [.str "lost",.int c.birth,.ref y]):=(aC (qU oa h (λz=>by cases z))).trans oa;have p:upd C A.sw (.ins X.S d (cB (ju M).sw.sense "lost" A.gr (ju M).sw.looked (ju M).sw.turn (ju M).sw.at' (ju M).sw.stop (ju M).sw.walks (ju M).sw.looks (ju M).sw.passes (.ref a))) y=some (.lst (x.2.map V.int)):=(aC (qU D h (λz=>by cases z))).trans D;generalize upd C A.sw (.ins X.S d (cB (ju M).sw.sense "lost" A.gr (ju M).sw.looked (ju M).sw.turn (ju M).sw.at' (ju M).sw.stop (ju M).sw.walks (ju M).sw.looks (ju M).sw.passes (.ref a)))=H3 at e g m p ⊢;walk_at"e";refine⟨a,rfl,"lost",c.birth,y,x.2,m,p,λa' l' H4 l P I F=>?_⟩;have O:H l'=none:=jw.free b (k.free (jw.free e P));exact q _ _ (.lost L Y i x c (.ref a) ph gr cd J hx o hc ht) _ T A a' (b.trans ((jw.same b.wt k).trans (e.trans (jw.same e.wt l)))) (g.same l) ⟨rfl,rfl⟩ ⟨l',O,I,F⟩ λ_=>⟨c.birth,rfl,a,y,rfl,ta,l _ _ m,tw,l _ _ p⟩
end
section
variable {K:aB}{X:Cs}{H:Hp}{Q:VK}{E:XK}{n:St->Hp->Prop}{bk ct:St->Hp->Prop}
def Zrb{wo:Addr}(b:qC K X)(q:Fe X Zd3 wo H Q):Zu K (fD X) ⟨n,Q,bk,ct⟩ [some (.ref wo),none,none] H:=by
 obtain⟨T,s,A,M,lb,lw,w,D,j,rfl,ok,⟨ph,gr⟩,lo,q⟩:=q;obtain⟨dw,ow⟩:=j.jb.ow;obtain⟨ds,os⟩:=j.js.os;obtain⟨Z,oh⟩:=j.jh.oh;have og:=j.js.og;cases m:M.sw.grey with
 | nil=>exact absurd m gr
 | cons x g=>
  obtain⟨c,hc⟩:=ok.gc ph x (by rw[m];simp);obtain⟨R,f⟩:=dm.mp hc;have B:=ok.gl ph;have L:=ok.fl c (sY hc);rw[m]at og;unfold Zu;walk_at"e";refine aH ow b.cW b.SQ bw ?_;walk_at"e";refine aH ow b.cW b.Ow bD ?_;refine aH oh b.c.cM b.c.bN bU ?_;walk_at"e";refine aH os b.cS b.n3 jj ?_;walk_at"e";refine⟨.inl ⟨rfl,_,cj.of og⟩,?_⟩;walk_at"e";refine⟨A.gr,_,0,0,.int x,rfl,rfl,og,by decide,by decide,by simp[seqIndex?],rfl,?_⟩;obtain⟨e,t⟩:=j.Zv4 w D (g:=g);show mz K _ _ (upd H A.gr (.lst (g.map V.int))) _;generalize upd H A.gr (.lst (g.map V.int))=H1 at e t ⊢;obtain⟨F,h,ce⟩:=t.jc.at (i:=x.toNat) (c:=c) f;refine iw (cj.of t.jh.oc) (rC (v:=.ref F.1) R (by rw[cA,h];rfl)) ?_;obtain⟨p,r⟩:=t.js.os;walk_at"e";refine aH r b.cS b.n8 uz ?_;walk_at"e";refine⟨A.sw,X.S,p,_,rfl,r,b.cS,b.n8,by show 11<1000;decide,?_⟩;rw[yX];obtain⟨d,o⟩:=t.sweep e.wt D (dx:=p) { M.sw with grey:=g,walks:=M.sw.walks+1 } rfl;have o:WJ X _ T s A { M with sw:={ M.sw with grey:=g,walks:=M.sw.walks+1 } }:=o;generalize upd H1 A.sw _=Y at d o ⊢;obtain⟨O,k,C⟩:=o.jc.at (i:=x.toNat) (c:=c) f;rw[h]at k;cases k;obtain⟨_,_,⟨dc,oc⟩,I⟩:=id C;walk_at"e";refine aH oc b.c.di b.c.dX gR ?_;walk_at"e";refine aH oc b.c.di b.c.eX lJ ?_;walk_at"e";refine⟨_,_,rfl,c.fl,T,s,A,_,d.wt,D,o,rfl,.inr (.inr ⟨x.toNat,F,c,h,f,rfl,rfl⟩),by omega,λ_=>?_,λW N l u U J E=>?_⟩
  ·show g.length<=10000;rw[m,List.length_cons]at B;omega
  walk_at"e";refine⟨aU (by simp),λa P=>?_⟩;have y:=aL P (.tup [.str "walk",.int c.birth,.ref l]);refine q _ _ (.walk x g c ph m hc) _ N A a (e.trans (d.trans (u.trans (jw.same u.wt y)))) (U.same y) ⟨rfl,rfl⟩ ⟨l,jw.free e (jw.free d E),aq,y _ _ J⟩ λz=>?_;rw[(wV (l:=c.fl) (M:={ M with sw:={ M.sw with grey:=g,walks:=M.sw.walks+1 } })).1]at z;exact absurd (ph.symm.trans z) (show ¬ ("walk":Str)="lost" by decide)
def Vp{wo:Addr}(e:qC K X)(q:Fe X Zd4 wo H Q):yc K X.H (uv X.C X.H) (dZ X.H) (cL X) ⟨n,Q,bk,ct⟩ [some (.ref wo),none,none,none] H:=by
 obtain⟨T,s,A,M,lb,lw,w,P,j,rfl,ok,⟨ph,lt⟩,lo,q⟩:=q;obtain⟨dw,ow⟩:=j.jb.ow;obtain⟨ds,os⟩:=j.js.os;unfold yc;walk_at"e";refine aH ow e.cW e.SQ bw ?_;walk_at"e";refine aH os e.cS e.n6 Iz ?_;walk_at"e";refine⟨A.sw,X.S,ds,_,rfl,os,e.cS,e.n6,by show 11<1000;decide,?_⟩;rw[Gu];walk_at"e";refine aH aq e.cS e.n10 rK ?_;walk_at"e";refine⟨A.sw,X.S,ds,_,rfl,aq,e.cS,e.n10,by show 11<1000;decide,?_⟩;rw[wJ,eG];obtain⟨b,f⟩:=j.sweep w P (dx:=ds) { M.sw with at':=M.sw.at'+1,passes:=M.sw.passes+1 } rfl;generalize upd H A.sw _=N at b f ⊢;obtain⟨V,v⟩:=f.jb.ow;obtain⟨J,D⟩:=f.jh.oh;walk_at"e";refine aH v e.cW e.Ow bD ?_;walk_at"e";refine⟨_,_,rfl,zj (some M.sw.at'),_,_,_,_,_,f.hpO,?_⟩;have p:(∀c,cellAt M M.sw.at'=some c->c.tone=M.sw.sense)->∀l a m,N l=none->aV N m->m a=some (.tup [.str "pass",.int M.sw.at',.ref l])->m l=some (.lst [])->Q (.ref a) m:=λhp l a m nl o oa ol=>
  q _ _ (.pass ph lt hp) _ T A a (b.trans (jw.same b.wt o)) (f.same o) ⟨rfl,rfl⟩ ⟨l,jw.free b nl,oa,ol⟩ λz=>absurd (ph.symm.trans z) (show ¬ ("give":Str)="lost" by decide)
 rcases f.look (some M.sw.at')with ⟨E,I⟩ | ⟨i,c,R,ei,Z,x,r,W,I,ce⟩
 ·have E:cellAt M M.sw.at'=none:=E;rw[show atO (A.cs.map pV) (.int M.sw.at')=.non from I];walk_at"e";refine⟨aU (by simp),λl nl=>⟨aU (by simp),λa u=>?_⟩⟩;have o:=aL nl (.lst []);have h:=aL u (.tup [.str "pass",.int M.sw.at',.ref l]);exact p (λc hc=>by rw[E]at hc;cases hc) l a _ nl (o.trans h) aq (h _ _ aq)
 ·cases ei;have x:cellAt M M.sw.at'=some c:=x;rw[show atO (A.cs.map pV) (.int M.sw.at')=.ref R.1 from I];walk_at"e";refine⟨_,_,rfl,T,s,A,_,_,R,c,f.w0,rfl,ce,rfl,?_⟩
  by_cases z:c.tone=M.sw.sense
  ·rw[decide_eq_true (show c.tone=({ M.sw with at':=M.sw.at'+1,passes:=M.sw.passes+1 }:Sw).sense from z)];walk_at"e";refine⟨aU (by simp),λl nl=>⟨aU (by simp),λa u=>?_⟩⟩;have o:=aL nl (.lst []);have h:=aL u (.tup [.str "pass",.int M.sw.at',.ref l]);exact p (λd hd=>by rw[x]at hd;cases hd;exact z) l a _ nl (o.trans h) aq (h _ _ aq)
  ·rw[decide_eq_false (show ¬ c.tone=({ M.sw with at':=M.sw.at'+1,passes:=M.sw.passes+1 }:Sw).sense from z)];obtain⟨k,B⟩:=toN Z;have hk:M.cells[k]? =some (some c):=by rw[B,Int.toNat_natCast]at r;exact r
   walk_at"e";refine aH v e.cW e.Ow bD ?_;walk_at"e";refine⟨A.hp,J,_,rfl,D,Wj,?_⟩;walk_at"e";rw[B];refine Zme f b.wt P hk λm Y g O F=>?_;walk_at"e";refine⟨aU (by simp),λl nl=>⟨aU (by simp),λa u=>?_⟩⟩;have h:=aL nl (.lst [.int (k:Int)]);have L:=aL u (.tup [.str "back",.int c.birth,.ref l]);have t:=h.trans L;have U:=vW.back (lb:=lb) (lw:=lw) (M:=M) c ph lt x z;rw[B,Int.toNat_natCast]at U;rw[B]at O;exact q _ _ U _ T Y a (b.trans (g.trans (jw.same g.wt t))) (O.same t) F ⟨l,jw.free b (jw.free g nl),aq,L _ _ aq⟩ λy=>absurd (ph.symm.trans y) (show ¬ ("give":Str)="lost" by decide)
def Zy0{wo:Addr}(b:qC K X)(q:Fe X pEnd wo H Q):Zgz K ⟨n,Q,bk,ct⟩ [some (.ref wo),none] H:=by
 obtain⟨T,s,A,M,lb,lw,w,h,j,rfl,ok,⟨ph,lt⟩,lo,q⟩:=q;obtain⟨p,ow⟩:=j.jb.ow;obtain⟨ds,os⟩:=j.js.os;unfold Zgz;walk_at"e";refine aH ow b.cW b.SQ bw ?_;walk_at"e";refine⟨A.sw,X.S,ds,_,rfl,os,b.cS,b.n2,by show 11<1000;decide,?_⟩;rw[oW];obtain⟨c,f⟩:=j.sweep w h (dx:=ds) { M.sw with phase:="rest" } rfl;generalize upd H A.sw _=o at c f ⊢;obtain⟨i,d⟩:=f.js.os;walk_at"e";refine aH d b.cS b.n5 qD ?_;walk_at"e";refine aH d b.cS b.n8 uz ?_;walk_at"e";refine aH d b.cS b.n9 pK ?_;walk_at"e";refine aH d b.cS b.n10 rK ?_;walk_at"e";refine⟨aU (by simp),λl nl=>⟨aU (by simp),λa k=>?_⟩⟩;have m:=aL nl (.lst [.int M.sw.walks,.int M.sw.looks,.int M.sw.passes]);have g:=aL k (.tup [.str "end",.int M.sw.turn,.ref l]);have e:=m.trans g;exact q _ _ (.fin ph lt) _ T A a (c.trans (jw.same c.wt e)) (f.same e) ⟨rfl,rfl⟩ ⟨l,jw.free c nl,aq,g _ _ aq⟩ λz=>absurd z (show ¬ ("rest":Str)="lost" by decide)
def Qc{wo:Addr}(a:qC K X)(q:Fe X (QC "give") wo H Q):uG K (bQ X pEnd) (bQ X Zd4) ⟨n,Q,bk,ct⟩ [some (.ref wo)] H:=by
 obtain⟨T,s,A,M,lb,lw,w,b,j,rfl,ok,ph,lo,q⟩:=q;obtain⟨c,ow⟩:=j.jb.ow;obtain⟨ds,os⟩:=j.js.os;unfold uG;walk_at"e";refine aH ow a.cW a.SQ bw ?_;walk_at"e";refine aH os a.cS a.n6 Iz ?_;walk_at"e";refine aH ow a.cW a.SQ bw ?_;walk_at"e";refine aH os a.cS a.n7 Rj ?_;walk_at"e";refine wD (λz=>?_) (λz=>?_)
 ·walk_at"e";exact⟨_,rfl,T,s,A,M,lb,lw,w,b,j,rfl,ok,⟨ph,z⟩,lo,q⟩
 ·walk_at"e";exact⟨_,rfl,T,s,A,M,lb,lw,w,b,j,rfl,ok,⟨ph,z⟩,lo,q⟩
def Qa{wo:Addr}(a:qC K X)(q:Fe X (QC "walk") wo H Q):uF K (bQ X Zd5) (bQ X Zd3) ⟨n,Q,bk,ct⟩ [some (.ref wo)] H:=by
 obtain⟨T,s,A,M,lb,lw,w,c,j,rfl,ok,ph,lo,q⟩:=q;obtain⟨d,ow⟩:=j.jb.ow;obtain⟨ds,os⟩:=j.js.os;unfold uF;walk_at"e";refine aH ow a.cW a.SQ bw ?_;walk_at"e";refine aH os a.cS a.n3 jj ?_;refine Zyp (cj.of j.js.og) ?_;cases b:M.sw.grey with
 | nil=>
  refine Zb1 ?_;walk_at"e";exact⟨_,rfl,T,s,A,M,lb,lw,w,c,j,rfl,ok,⟨ph,b⟩,lo,q⟩
 | cons x g=>
  refine Zid ?_;walk_at"e";exact⟨_,rfl,T,s,A,M,lb,lw,w,c,j,rfl,ok,⟨ph,by rw[b];simp⟩,lo,q⟩
def IV{wo:Addr}(b:qC K X)(q:Fe X (QC "lost") wo H Q):qI K (m5 K) ⟨n,Q,bk,ct⟩ [some (.ref wo)] H:=by
 obtain⟨T,s,A,M,lb,lw,w,i,j,rfl,ok,ph,lo,q⟩:=q;obtain⟨k,ow⟩:=j.jb.ow;obtain⟨ds,os⟩:=j.js.os;obtain⟨d,f,e,t1,o1,t2,o2⟩:=lo ph;rw[e]at os;unfold qI;walk_at"e";refine aH ow b.cW b.SQ bw ?_;walk_at"e";refine aH os b.cS b.n11 Rk ?_;walk_at"e";refine⟨d,rfl,"lost",lb,f,lw,o1,o2,λa l h c nl g ol=>?_⟩;exact q _ _ (.again ph) _ T A a (jw.same w c) (j.same c) ⟨rfl,rfl⟩ ⟨l,nl,g,ol⟩ λ_=>⟨lb,rfl,d,f,e,t1,c _ _ o1,t2,c _ _ o2⟩
def Zrg{wo e d f c:Addr}(a:qC K X)(q:Fe X Zhb wo H Q):Zv K e d f c (bQ X (QC "rest")) (bQ X (QC "give")) (bQ X (QC "walk")) (bQ X (QC "lost")) ⟨n,Q,bk,ct⟩ [some (.ref wo),none] H:=by
 obtain⟨T,s,A,M,lb,lw,w,b,j,rfl,ok,_,lo,q⟩:=q;obtain⟨g,ow⟩:=j.jb.ow;obtain⟨ds,os⟩:=j.js.os;unfold Zv;walk_at"e";refine aH ow a.cW a.SQ bw ?_;walk_at"e";refine aH os a.cS a.n2 fO ?_;rcases ok.ph with ph | ph | ph | ph
 ·rw[ph];refine⟨_,e,rfl,rfl,?_⟩;walk_at"e";refine nU (bQ X (QC "rest")) rfl (by simp) ?_;walk_at"e";exact⟨_,rfl,T,s,A,M,lb,lw,w,b,j,rfl,ok,ph,lo,q⟩
 ·rw[ph];refine⟨_,f,rfl,rfl,?_⟩;walk_at"e";refine nU (bQ X (QC "walk")) rfl (by simp) ?_;walk_at"e";exact⟨_,rfl,T,s,A,M,lb,lw,w,b,j,rfl,ok,ph,lo,q⟩
 ·rw[ph];refine⟨_,d,rfl,rfl,?_⟩;walk_at"e";refine nU (bQ X (QC "give")) rfl (by simp) ?_;walk_at"e";exact⟨_,rfl,T,s,A,M,lb,lw,w,b,j,rfl,ok,ph,lo,q⟩
 ·rw[ph];refine⟨_,c,rfl,rfl,?_⟩;walk_at"e";refine nU (bQ X (QC "lost")) rfl (by simp) ?_;walk_at"e";exact⟨_,rfl,T,s,A,M,lb,lw,w,b,j,rfl,ok,ph,lo,q⟩
end
section
variable {K:aB}{X:Cs}{H:Hp}{Q:VK}{E:XK}{n:St->Hp->Prop}{bk ct:St->Hp->Prop}
def Rm{A:Wa}{w:Int}{σ:St}{b:TE}{q:Bool->Hp->Prop}(ol:∃dx,(w=0/\H A.lk=some (.ins X.F dx []))\/(w=1/\H A.lk=some (.ins X.E dx []))\/(w=2/\H A.lk=some (.ins X.L dx [])))(a:∀d:VK,d (.ref A.lk) H->b σ H d)(h:q (decide (w≠2)) H):
  tB (G.KR (mj X.F "stays" (sZ (.bl true)) [] E0 b aF) (G.KR (mj X.E "stays" (sZ (.bl true)) [] E0 b aF) (mj X.L "stays" (sZ (.bl false)) [] E0 b aF))) σ H q:=by
 refine Zzh ?_;obtain⟨dl,⟨c,o⟩ | ⟨c,o⟩ | ⟨c,o⟩⟩:=ol
 ·rw[show decide (w≠2)=true from decide_eq_true (by omega)]at h;refine XS ?_;walk_at"s";refine a _ ?_;refine⟨A.lk,dl,_,rfl,o,rfl,?_⟩;walk_at"s";exact⟨_,rfl,i_B h⟩
 ·rw[show decide (w≠2)=true from decide_eq_true (by omega)]at h;refine J3 (XS ?_);walk_at"s";refine a _ ?_;refine⟨A.lk,dl,_,rfl,o,rfl,?_⟩;walk_at"s";exact⟨_,rfl,i_B h⟩
 ·rw[show decide (w≠2)=false from decide_eq_false (by omega)]at h;refine J3 (J3 ?_);walk_at"s";refine a _ ?_;refine⟨A.lk,dl,_,rfl,o,rfl,?_⟩;walk_at"s";exact⟨_,rfl,i_B h⟩
def Zlr{T:Tg}{s:Nat}{A:Wa}{M:Wm}{lb:Int}{lw:List Int}(i:qC K X)(w:WT H T)(I:s≠0)(j:WJ X H T s A M)(ok:Zc3 M)(ph:M.sw.phase="walk")(gr:M.sw.grey=[])
  (q:∀e y,vW lb lw M e y->∀H' T' C a,jw s H H' T T'->WJ X H' T' s C y->C.wo=A.wo/\C.sw=A.sw->EvN H H' a e->(y.sw.phase="lost"->∃b,e.thing=some b/\Zr6 H' T' y b e.notes)->Q (.ref a) H'):
  o9 K X.E X.F X.L (sZ (.bl false)) (sZ (.bl true)) (bQ X Zha) (lU X) ⟨n,Q,bk,ct⟩ [some (.ref A.wo),some (.ref A.sw),some (.ref A.lk),some (.int (cU M)),none] H:=by
 unfold o9;walk_at"e";refine⟨_,_,rfl,T,s,A,M,w,I,j,rfl,ok.hl,λ_=>by rw[gr];exact Nat.zero_le _,λx B l f p D nl=>?_⟩;have nt:=Za8 (cU M) M.hands 0 M;have ww:=nt.ww;have ol:=p.jb.ol;rw[ww]at ol;have J:Ez M->bQ X Zha [.ref A.wo] x Q E0:=λcd=>by
  have e:(jt (cU M) M.hands 0 M).2=M:=by
   rcases cd with z | ⟨_,z⟩
   ·rw[z,Zdq]
   ·exact Za9 _ z
  rw[e]at p;refine⟨_,rfl,B,s,A,M,lb,lw,f.wt,I,p,rfl,ok,⟨ph,gr,cd⟩,λz=>absurd (ph.symm.trans z) (by decide),λe' y r H' T' C a Z j' aw' Y lo'=>?_⟩;obtain⟨l',U,o1,o2⟩:=Y;exact q e' y r H' T' C a (f.trans Z) j' aw' ⟨l',jw.free f U,o1,o2⟩ lo'
 have t:¬ Ez M->∀(lo:Int),lo=(if M.w=2 then(jt (cU M) M.hands 0 M).2.sw.looked else Builtin.bitOr (jt (cU M) M.hands 0 M).2.sw.looked (cU M))->∀m,jw s x m B B->WJ X m B s A { (jt (cU M) M.hands 0 M).2 with sw:={ (jt (cU M) M.hands 0 M).2.sw with looks:=(jt (cU M) M.hands 0 M).2.sw.looks+1,looked:=lo } }->m l=some (.lst ((jt (cU M) M.hands 0 M).1.map V.int))->∀a,m a=none->Q (.ref a) (upd m a (.tup [.str "look",.int (cU M),.ref l])):=λO lo W m d o u a N=>by
  have R:=aL N (.tup [.str "look",.int (cU M),.ref l]);subst W;refine q _ _ (.look _ ph gr O rfl) _ B A a (f.trans (d.trans (jw.same d.wt R))) (o.same R) ⟨rfl,rfl⟩ ⟨l,nl,aq,R _ _ u⟩ λz=>?_;have:=(El (cU M) 100 M.hands 0 M ok.hl).1;have z:(jt (cU M) M.hands 0 M).2.sw.phase="lost":=z;rw[this]at z;exact absurd (ph.symm.trans z) (by decide)
 walk_at"e";refine wD (λhz=>?_) (λhz=>?_)
 ·walk_at"e";exact J (.inl hz)
 ·refine Zv3 ?_;refine Zzi ?_;refine Rm ol (λQ' h=>by walk_at"s";exact h) ?_
  by_cases P:M.w=2
  ·rw[show decide (M.w≠2)=false from decide_eq_false (by omega)];refine Zb1 ?_;refine Zv2 ?_;walk_at"s";refine Zyp (cj.of D) ?_;cases hn:(jt (cU M) M.hands 0 M).1 with
   | nil=>
    refine Zid ?_;walk_at"e";exact J (.inr ⟨P,hn⟩)
   | cons b bs=>
    have O:¬ Ez M:=λz=>by
     rcases z with z | ⟨_,z⟩
     ·exact hz z
     ·rw[hn]at z;cases z
    have t:=t O _ rfl;rw[if_pos P]at t;obtain⟨c,g⟩:=p.js.os;refine Zb1 ?_;walk_at"e";refine aH g i.cS i.n9 pK ?_;walk_at"e";refine⟨A.sw,X.S,c,_,rfl,g,i.cS,i.n9,by show 11<1000;decide,?_⟩;rw[rJ];obtain⟨d,o⟩:=p.sweep f.wt I (dx:=c) { (jt (cU M) M.hands 0 M).2.sw with looks:=(jt (cU M) M.hands 0 M).2.sw.looks+1 } rfl;have u:upd x A.sw (.ins X.S c (cB (jt (cU M) M.hands 0 M).2.sw.sense (jt (cU M) M.hands 0 M).2.sw.phase A.gr (jt (cU M) M.hands 0 M).2.sw.looked (jt (cU M) M.hands 0 M).2.sw.turn (jt (cU M) M.hands 0 M).2.sw.at' (jt (cU M) M.hands 0 M).2.sw.stop (jt (cU M) M.hands 0 M).2.sw.walks ((jt (cU M) M.hands 0 M).2.sw.looks+1) (jt (cU M) M.hands 0 M).2.sw.passes (jt (cU M) M.hands 0 M).2.sw.loss)) l=some (.lst ((jt (cU M) M.hands 0 M).1.map V.int)):=(aC (qU D g (λz=>by cases z))).trans D;generalize upd x A.sw _=m at d o u ⊢;have k:=o.jb.ol;have v:({ (jt (cU M) M.hands 0 M).2 with sw:={ (jt (cU M) M.hands 0 M).2.sw with looks:=(jt (cU M) M.hands 0 M).2.sw.looks+1 } }:Wm).w=M.w:=ww;rw[v]at k;refine J2 ?_;refine Zxc ?_;refine Rm k (λQ' h=>by walk_at"s";exact h) ?_;rw[show decide (M.w≠2)=false from decide_eq_false (by omega)];walk_at"e";exact⟨aU (by simp),λa N=>t m d o u a N⟩
  ·rw[show decide (M.w≠2)=true from decide_eq_true (by omega)];have O:¬ Ez M:=λz=>by
    rcases z with z | ⟨z,_⟩
    ·exact hz z
    ·exact P z
   have t:=t O _ rfl;rw[if_neg P]at t;obtain⟨c,g⟩:=p.js.os;walk_at"e";refine aH g i.cS i.n9 pK ?_;walk_at"e";refine⟨A.sw,X.S,c,_,rfl,g,i.cS,i.n9,by show 11<1000;decide,?_⟩;rw[rJ];obtain⟨ZJb,j1b⟩:=p.sweep f.wt I (dx:=c) { (jt (cU M) M.hands 0 M).2.sw with looks:=(jt (cU M) M.hands 0 M).2.sw.looks+1 } rfl;have k:=j1b.jb.ol;have v:({ (jt (cU M) M.hands 0 M).2 with sw:={ (jt (cU M) M.hands 0 M).2.sw with looks:=(jt (cU M) M.hands 0 M).2.sw.looks+1 } }:Wm).w=M.w:=ww;rw[v]at k;refine J2 ?_;refine Zxc ?_;refine Rm k (λQ' h=>by walk_at"s";exact h) ?_;rw[show decide (M.w≠2)=true from decide_eq_true (by omega)];walk_at"e";refine aH aq i.cS i.n4 iJ ?_;walk_at"e";refine⟨A.sw,X.S,c,_,rfl,aq,i.cS,i.n4,by show 11<1000;decide,?_⟩;rw[wK,eG];obtain⟨d,o⟩:=p.sweep f.wt I (dx:=c) { (jt (cU M) M.hands 0 M).2.sw with looks:=(jt (cU M) M.hands 0 M).2.sw.looks+1,looked:=Builtin.bitOr (jt (cU M) M.hands 0 M).2.sw.looked (cU M) } rfl;have u:upd x A.sw (.ins X.S c (cB (jt (cU M) M.hands 0 M).2.sw.sense (jt (cU M) M.hands 0 M).2.sw.phase A.gr (Builtin.bitOr (jt (cU M) M.hands 0 M).2.sw.looked (cU M)) (jt (cU M) M.hands 0 M).2.sw.turn (jt (cU M) M.hands 0 M).2.sw.at' (jt (cU M) M.hands 0 M).2.sw.stop (jt (cU M) M.hands 0 M).2.sw.walks ((jt (cU M) M.hands 0 M).2.sw.looks+1) (jt (cU M) M.hands 0 M).2.sw.passes (jt (cU M) M.hands 0 M).2.sw.loss)) l=some (.lst ((jt (cU M) M.hands 0 M).1.map V.int)):=(aC (qU D g (λz=>by cases z))).trans D;generalize upd x A.sw _=m at d o u ⊢;walk_at"e";exact⟨aU (by simp),λa N=>t m d o u a N⟩
def Td{wo:Addr}(a:qC K X)(q:Fe X Zd5 wo H Q):vC K X.E X.F X.L (iD 1) (iD 2) (sZ (.bl false)) (iD 0) (sZ (.bl true)) (bQ X Zha) (lU X) ⟨n,Q,bk,ct⟩ [some (.ref wo),none,none,none,none] H:=by
 obtain⟨T,s,A,M,lb,lw,w,g,j,rfl,ok,⟨ph,gr⟩,lo,q⟩:=q;obtain⟨i,ow⟩:=j.jb.ow;obtain⟨ds,os⟩:=j.js.os;obtain⟨h,f⟩:=j.jb.ok;have on:=j.jb.on;have lh:=j.jd.lh;have l5:=j.jd.l5;have c:((A.hs.map λp=>V.ref p.1).length:Int)=(M.hands.length:Int):=by rw[aX,lh]
 have b:=Zlr (n:=n) (bk:=bk) (ct:=ct) a w g j ok ph gr q;obtain⟨dl,ol⟩:=j.jb.ol;unfold vC;walk_at"e";refine aH ow a.cW a.SQ bw ?_;walk_at"e";refine aH ow a.cW a.nWk mF ?_;refine aH f a.cK a.nKl oZ ?_;refine Zxe ?_;refine J2 ?_;walk_at"s";rcases ol with ⟨e,o⟩ | ⟨e,o⟩ | ⟨e,o⟩
 ·have d:cU M=Ov 0 M.sw.looked M.hands.length:=by unfold cU;rw[e];rfl
  refine XS ?_;walk_at"s";refine⟨A.lk,dl,_,rfl,o,rfl,?_⟩;walk_at"s";refine aH os a.cS a.n4 iJ ?_;walk_at"s";refine aH ow a.cW a.nWd eV ?_;walk_at"s";refine jG (cj.of on) ?_;rw[c];walk_at"s";refine⟨A.lk,_,_,rfl,by omega,by omega,?_⟩;rw[Int.toNat_natCast,<- d];walk_at"s";exact b
 ·have d:cU M=Ov 1 M.sw.looked M.hands.length:=by unfold cU;rw[e];rfl
  refine J3 (XS ?_);walk_at"s";refine⟨A.lk,dl,_,rfl,o,rfl,?_⟩;walk_at"s";refine aH os a.cS a.n4 iJ ?_;walk_at"s";refine aH ow a.cW a.nWd eV ?_;walk_at"s";refine jG (cj.of on) ?_;rw[c];walk_at"s";refine⟨A.lk,_,_,rfl,by omega,by omega,?_⟩;rw[Int.toNat_natCast,<- d];walk_at"s";exact b
 ·have d:cU M=Ov 2 M.sw.looked M.hands.length:=by unfold cU;rw[e];rfl
  refine J3 (J3 ?_);walk_at"s";refine⟨A.lk,dl,_,rfl,o,rfl,?_⟩;walk_at"s";refine aH os a.cS a.n4 iJ ?_;walk_at"s";refine aH ow a.cW a.nWd eV ?_;walk_at"s";refine jG (cj.of on) ?_;rw[c];walk_at"s";refine⟨A.lk,_,_,rfl,by omega,by omega,?_⟩;rw[Int.toNat_natCast,<- d];walk_at"s";exact b
end
abbrev Px:=List (Str×Int)
def HsO(H:Hp)(l:Addr)(hs:Px):Prop:=∃ts:List Addr,H l=some (.lst (ts.map V.ref))/\Al (λ(a:Addr) (m:Str×Int)=>H a=some (.tup [.str m.1,.int m.2])) ts hs
def HsO.same{H H':Hp}{l:Addr}{hs:Px}(h:HsO H l hs)(s:aV H H'):HsO H' l hs:=by
 obtain⟨ts,h1,h2⟩:=h;exact⟨ts,s _ _ h1,h2.mono λa m z=>s _ _ z⟩
structure HsB(hs:Px):Prop where
 n1:1<=hs.length
 n5:hs.length<=5
 sb:∀m∈hs,3<=m.2/\m.2<=9
def Ss(hs:Px)(h s:Nat):Prop:=∃m,hs[h]? =some m/\(s:Int)<m.2
def okR(hs:Px):pI->Prop
 | .make h s many bulk=>Ss hs h s/\0<=many/\many<=8/\0<=bulk
 | .get h s t _=>Ss hs h s/\Ss hs h t
 | .put h t _ s=>Ss hs h t/\Ss hs h s
 | .copy h s t=>Ss hs h s/\Ss hs h t
 | .drop h s=>Ss hs h s
 | .give h s g t=>Ss hs h s/\Ss hs g t
 | .write h t _=>Ss hs h t
 | .read h t=>Ss hs h t
 | .name h t _=>Ss hs h t
 | .seek h s _=>Ss hs h s
def HsB.ok{hs:Px}(b:HsB hs){h s:Nat}(hh:h<hs.length)(h3:s<3):Ss hs h s:=by
 have:=b.sb _ (List.getElem_mem hh);exact⟨_,bK hh,by omega⟩
def Zc7(H0 H:Hp)(hs:Px)(vs:List V):Prop:=∀v∈vs,v=.non\/∃t d,v=.ref t/\H0 t=none/\H t=some (.tup (dV d))/\okR hs d
structure RL(H0 H:Hp)(hs:Px)(l:Addr)(N:Nat):Prop where
 s:aV H0 H
 n:H0 l=none
 ex:∃vs,H l=some (.lst vs)/\vs.length<=N/\Zc7 H0 H hs vs
def Zc7.same{H0 H H':Hp}{hs:Px}{vs:List V}(h:Zc7 H0 H hs vs)(s:aV H H'):Zc7 H0 H' hs vs:=λv hv=>by
 rcases h v hv with z | ⟨t,d,e,f,o,k⟩
 ·exact .inl z
 ·exact .inr ⟨t,d,e,f,s _ _ o,k⟩
def RL.same{H0 H H':Hp}{hs:Px}{l:Addr}{N:Nat}(h:RL H0 H hs l N)(s:aV H H'):RL H0 H' hs l N:=by
 obtain⟨a,n,vs,h1,h2,h3⟩:=h;exact⟨a.trans s,n,vs,s _ _ h1,h2,h3.same s⟩
def RL.base{H0 a H:Hp}{hs:Px}{l:Addr}{N:Nat}(h:RL a H hs l N)(s:aV H0 a):RL H0 H hs l N:=by
 obtain⟨b,n,vs,h1,h2,h3⟩:=h;refine⟨s.trans b,s.free n,vs,h1,h2,λv hv=>?_⟩;rcases h3 v hv with z | ⟨t,d,e,f,o,k⟩
 ·exact .inl z
 ·exact .inr ⟨t,d,e,s.free f,o,k⟩
def RL.mono{H0 H:Hp}{hs:Px}{l:Addr}{N N':Nat}(h:RL H0 H hs l N)(n:N<=N'):RL H0 H hs l N':=by
 obtain⟨b,a,vs,h1,h2,h3⟩:=h;exact⟨b,a,vs,h1,by omega,h3⟩
def yQ{H0 H:Hp}{hs:Px}{b d:Addr}{c a:Nat}{Q:VK}(h1:RL H0 H hs b c)(h2:RL H0 H hs d a)(hb:c+a<=100000)(k:∀l H',aV H H'->H l=none->RL H0 H' hs l (c+a)->Q (.ref l) H'):wG (.ref b) (.ref d) H Q:=by
 obtain⟨f,_,vs,g,n,h⟩:=h1;obtain⟨_,_,e,i,m,j⟩:=h2;refine⟨b,d,_,_,rfl,rfl,g,i,aU (by omega),λl nl=>?_⟩;have s:=aL nl (.lst (vs++e));refine k l _ s nl ⟨f.trans s,f.free nl,vs++e,aq,by rw[List.length_append];omega,λv hv=>?_⟩;rcases List.mem_append.mp hv with hv | hv
 ·exact(h.same s) v hv
 ·exact(j.same s) v hv
def Zrz(m:Nat):(List.replicate m [V.non]).flatten=(List.replicate m (none:Option Int)).map oV:=by
 induction m with
 | zero=>rfl
 | succ m a=>rw[List.replicate_succ,List.flatten_cons,a];rfl
def Sy{H0 H:Hp}{hs:Px}{Q:VK}{a:Addr}{k:Int}(b:aV H0 H)(c:H a=some (.lst [V.non]))(k0:0<=k)(k1:k<=1000)(q:∀l H',aV H H'->H l=none->RL H0 H' hs l k.toNat->Q (.ref l) H'):Zcz (.ref a) (.int k) H Q:=by
 refine⟨a,k,_,rfl,rfl,c,by omega,by omega,by show 1 * k.toNat<=sizeLine;exact aU (by omega),λl nl=>?_⟩;rw[Zrz];refine q l _ (aL nl _) nl ⟨b.trans (aL nl _),b.free nl,_,aq,by rw[aX,List.length_replicate];exact Nat.le_refl _,λv hv=>?_⟩;rw[List.map_replicate]at hv;rw[List.eq_of_mem_replicate hv];exact .inl rfl
def rl1{H0 H:Hp}{hs:Px}{l t:Addr}{d:pI}(s:aV H0 H)(nl:H0 l=none)(nt:H0 t=none)(h:H l=some (.lst [.ref t]))(o:H t=some (.tup (dV d)))(k:okR hs d):RL H0 H hs l 1:=⟨s,nl,_,h,Nat.le_refl _,λv hv=>by
 rw[List.mem_singleton.mp hv];exact .inr ⟨t,d,rfl,nt,o,k⟩⟩
def rl2{H0 H:Hp}{hs:Px}{l t u:Addr}{d e:pI}(s:aV H0 H)(nl:H0 l=none)(nt:H0 t=none)(c:H0 u=none)(h:H l=some (.lst [.ref t,.ref u]))(o:H t=some (.tup (dV d)))(k:okR hs d)(a:H u=some (.tup (dV e)))(b:okR hs e):RL H0 H hs l 2:=⟨s,nl,_,h,Nat.le_refl _,λv hv=>by
 rcases List.mem_cons.mp hv with rfl | hv
 ·exact .inr ⟨t,d,rfl,nt,o,k⟩
 ·rw[List.mem_singleton.mp hv];exact .inr ⟨u,e,rfl,c,a,b⟩⟩
def rl3{H0 H:Hp}{hs:Px}{l t u w:Addr}{d e f:pI}(s:aV H0 H)(nl:H0 l=none)(nt:H0 t=none)(c:H0 u=none)(nw:H0 w=none)(h:H l=some (.lst [.ref t,.ref u,.ref w]))(o:H t=some (.tup (dV d)))(k:okR hs d)(a:H u=some (.tup (dV e)))(b:okR hs e)(o2:H w=some (.tup (dV f)))(k2:okR hs f):RL H0 H hs l 3:=⟨s,nl,_,h,Nat.le_refl _,λv hv=>by
 rcases List.mem_cons.mp hv with rfl | hv
 ·exact .inr ⟨t,d,rfl,nt,o,k⟩
 ·rcases List.mem_cons.mp hv with rfl | hv
  ·exact .inr ⟨u,e,rfl,c,a,b⟩
  ·rw[List.mem_singleton.mp hv];exact .inr ⟨w,f,rfl,nw,o2,k2⟩⟩
def rE(K:aB):Sp:=λvs H Q E=>∃a k,vs=[.ref a,.int k]/\∃ns:List Int,cj K H a (ns.map V.int)/\0<=k/\∀z:Int,Q (.int z) H
def jB:Sp:=λvs H Q E=>∃c p m,vs=[.int c,.int p,.int m]/\0<p/\p<2 ^ 32/\0<m/\∀z:Int,0<=z->z<m->Q (.int z) H
def rD:Sp:=λvs H Q E=>∃c w,vs=[.int c,.int w]/\0<=w/\w<=1000/\∀z:Str,Q (.str z) H
def Z5q (K:aB)(H:Hp)(a:Addr)(Q:VK):Prop:=∃ns:List Int,cj K H a (ns.map V.int)/\∀l hs H',aV H H'->H l=none->HsO H' l hs->HsB hs->Q (.ref l) H'
def Q4(K:aB):Sp:=λvs H Q E=>∃a,vs=[.ref a]/\Z5q K H a Q
def Zc4(K:aB):Sp:=λvs H Q E=>∃a,vs=[.ref a]/\∃ns:List Int,cj K H a (ns.map V.int)/\∀z:Int,Q (.int z) H
def Z6q (c:Int)(H:Hp)(X:Cs)(Q:VK):Prop:=∀ki lk w t H',0<=t->t<4->w=c % 3->aV H H'->H ki=none->H lk=none->KdO X H' ki lk w t->Q (.ref ki) H'
def Q3(X:Cs):Sp:=λvs H Q E=>∃c,vs=[.int c]/\Z6q c H X Q
def Z7q (h:Int)(s:Int)(H:Hp)(Q:VK):Prop:=∃(hn sn:Nat),h=(hn:Int)/\s=(sn:Int)/\∀t many bulk H',aV H H'->H t=none->0<=many->many<=8->0<=bulk->H' t=some (.tup (dV (.make hn sn many bulk)))->Q (.ref t) H'
def QX:Sp:=λvs H Q E=>∃c h s,vs=[.int c,.int h,.int s]/\Z7q h s H Q
def QZ:Sp:=λvs H Q E=>∃c,vs=[.int c]/\∀z:Int,Q (.int z) H
def vY:Sp:=λvs H Q E=>∃i,vs=[.int i]/\Q (.bl true) H
def Z8q (H:Hp)(a:Addr)(b:Addr)(Q:VK):Prop:=∃(z:Str) (i:Int) (l c:Addr) (ns:List Int),H a=some (.tup [.str z,.int i,.ref l])/\H b=some (.tup [.str z,.int i,.ref c])/\H l=some (.lst (ns.map V.int))/\H c=some (.lst (ns.map V.int))/\Q (.bl true) H
def Gd(K:aB):Sp:=λvs H Q E=>∃a b,vs=[.ref a,.ref b]/\Z8q H a b Q
variable {K:aB}{X:Cs}{rf:Rf->Addr}{H:Hp}{Q:VK}{E:XK}{n:St->Hp->Prop}{bk ct:St->Hp->Prop}
section
def Zc2{a:Addr}{k:Int}(q:∃ns:List Int,cj K H a (ns.map V.int)/\0<=k/\∀z:Int,Q (.int z) H):Av K ⟨n,Q,bk,ct⟩ [some (.ref a),some (.int k)] H:=by
 obtain⟨ns,b,c,h⟩:=q;unfold Av;walk_at"e";refine jG b ?_;walk_at"e";refine wD (λh1=>?_) (λh1=>?_)
 ·walk_at"e";rw[aX]at h1;have hk:k.toNat<ns.length:=by omega
  exact iw b (rC c (by rw[cA,bK hk]<;>rfl)) (h _)
 ·walk_at"e";exact h _
def Zc0{c p m:Int}(q:0<p/\p<2 ^ 32/\0<m/\∀z:Int,0<=z->z<m->Q (.int z) H):Aq ⟨n,Q,bk,ct⟩ [some (.int c),some (.int p),some (.int m)] H:=by
 obtain⟨b,d,a,q⟩:=q;have h1:=Int.emod_nonneg c (show p≠0 by omega);have h2:=Int.emod_lt_of_pos c b;unfold Aq;walk_at"e";exact q _ (Int.emod_nonneg _ (by omega)) (Int.emod_lt_of_pos _ a)
def Zbq{c w:Int}(q:0<=w/\w<=1000/\∀z:Str,Q (.str z) H):Ae ⟨n,Q,bk,ct⟩ [some (.int c),some (.int w),none,none,none,none,none] H:=by
 obtain⟨w0,s,q⟩:=q;have r:=Int.emod_nonneg c (show(12:Int)≠0 by decide);have l:=Int.emod_lt_of_pos c (show(0:Int)<12 by decide);obtain⟨sz,k⟩:=toN (x:=1+c % 12) (by omega);have hs:1<=sz/\sz<=12:=by omega
 have a0:=Int.emod_nonneg (c / 12) (show(1+c % 12)≠0 by omega);have m:=Int.emod_lt_of_pos (c / 12) (show 0<1+c % 12 by omega);unfold Ae;walk_at"e";have h:=Int.emod_nonneg (c / 5) (show(26:Int)≠0 by decide);have f:=Int.emod_lt_of_pos (c / 5) (show(0:Int)<26 by decide);refine Zpx (by decide) h (by show c / 5 % 26<26;exact f) λch=>?_;walk_at"e";have e:=Int.emod_nonneg (c / 7+5 * w) (show(26:Int)≠0 by decide);have j:=Int.emod_lt_of_pos (c / 7+5 * w) (show(0:Int)<26 by decide);refine Zpx (by decide) e (by show(c / 7+5 * w) % 26<26;exact j) λg=>?_;walk_at"e";refine Zpu a0 (by omega) (by rw[Xr];decide) λt1 o a=>?_;have i:t1.length<=12:=by rw[a,RP,Xr];omega
 walk_at"e";refine Zq1 (by rw[Xr];exact aU (by omega)) ?_;walk_at"e";refine Zpu (by omega) (by omega) (by rw[Xr];decide) λt2 p b=>?_;have d:t2.length<=12:=by rw[b,RP,Xr];omega
 walk_at"e";refine Zq1 (by rw[Zys,Xr];exact aU (by omega)) ?_;exact q _
def WQ{a:Addr}(q:Z5q K H a Q):yj K (rE K) jB rD ⟨n,Q,bk,ct⟩ [some (.ref a),none,none,none,none] H:=by
 obtain⟨ns,O,q⟩:=q;unfold yj;walk_at"e";refine⟨a,1,rfl,ns,O,by decide,λc=>?_⟩;walk_at"e";refine⟨by decide,λl nl=>?_⟩;generalize zz:upd H l _=H1;obtain⟨M,r⟩:=nwO nl zz;have r:H1 l=some (.lst (([]:List Addr).map V.ref)):=r;walk_at"e";refine⟨_,_,_,rfl,by decide,by decide,by decide,λz T z1=>?_⟩;walk_at"e";refine⟨_,rfl,by omega,by omega,?_⟩;refine forR (λk σ d=>∃(ts:List Addr) (hs:Px) (g f:Option V),σ=[some (.ref a),some (.int c),some (.ref l),g,f]/\aV H d/\d l=some (.lst (ts.map V.ref))/\Al (λ(a:Addr) (m:Str×Int)=>d a=some (.tup [.str m.1,.int m.2])) ts hs/\hs.length=k/\∀m∈hs,3<=m.2/\m.2<=9) ⟨[],[],_,_,rfl,M,r,.nil,rfl,λm hm=>(nomatch hm)⟩ ?_ ?_
 ·rintro k σ d hk ⟨ts,hs,g,f,rfl,w,p,al,hl,hb⟩;have N:k<5:=by omega
  have v:=al.length;have fin:∀{many:Int},3<=many->many<=9->∀(u:St->Hp->Prop) (E:VK) (A B:St->Hp->Prop),(∀ σ H',(∃(ts:List Addr) (hs:Px) (g f:Option V),σ=[some (.ref a),some (.int c),some (.ref l),g,f]/\aV H H'/\H' l=some (.lst (ts.map V.ref))/\Al (λ(a:Addr) (m:Str×Int)=>H' a=some (.tup [.str m.1,.int m.2])) ts hs/\hs.length=k+1/\∀m∈hs,3<=m.2/\m.2<=9)->u σ H')->
    vg (tBM K "list" wM (ak 2) (aj (gf (aj (aQ rD [] E0 (aj (ak 1) (aj (ak 3) aF))) (aj (ak 4) aF))) aF)) ⟨u,E,A,B⟩ [some (.ref a),some (.int c),some (.ref l),some (.int ((0:Int)+k)),some (.int many)] d:=by
   intro many P L u E A B F;walk_at"e";refine⟨.inl ⟨rfl,_,cj.of p⟩,?_⟩;walk_at"e";refine⟨_,_,rfl,by omega,by omega,λwd=>?_⟩;walk_at"e";refine⟨aU (by simp),λt nt=>?_⟩;generalize zz:upd d t _=H3;obtain⟨s,I⟩:=nwO nt zz;have C:=s _ _ p;walk_at"e";refine⟨l,_,_,rfl,rfl,C,?_,?_⟩
   ·rw[aX];exact Nat.lt_of_le_of_lt (show _<=1000 by omega) (by decide)
   rw[show ts.map V.ref++[V.ref t]=(ts++[t]).map V.ref from by rw[List.map_append];rfl];have D:∀b xs,H3 b=some (.tup xs)->upd H3 l (.lst ((ts++[t]).map V.ref)) b=some (.tup xs):=λb xs hb=>by
    rw[aC (qU hb C (λz=>by cases z))];exact hb
   walk_at"e";refine F _ _ ⟨ts++[t],hs++[(wd,many)],_,_,rfl,λb o hb=>by rw[aC (aD hb nl)];exact s _ _ (w _ _ hb),aq,?_,by rw[List.length_append,hl];rfl,λm hm=>?_⟩
   ·refine Zkk (by rw[List.length_append,List.length_append,v];rfl) λi x y e j=>?_
    by_cases J:i<ts.length
    ·rw[List.getElem?_append_left J]at e;rw[List.getElem?_append_left (by omega)]at j;obtain⟨S,e3,z⟩:=al.get j;rw[e]at e3;cases e3;exact D _ _ (s _ _ z)
    ·have h1:=(dH e).1;rw[List.length_append,List.length_singleton]at h1;rw[List.getElem?_append_right (by omega)]at e j;rw[show i - ts.length=0 by omega]at e;rw[show i - hs.length=0 by omega]at j;cases e;cases j;exact D _ _ I
   ·rcases List.mem_append.mp hm with hm | hm
    ·exact hb m hm
    ·rw[List.mem_singleton.mp hm];exact⟨P,L⟩
  walk_at"e";refine wD (λ_=>?_) (λ_=>?_)
  ·walk_at"e";refine⟨_,_,_,rfl,by decide,by decide,by decide,λy R y1=>?_⟩;refine Zzu ?_;refine Zts ?_;exact fin (many:=3+y) (by omega) (by omega) _ _ _ _ λσ H' h=>h
  ·refine vL ?_;exact fin (many:=3) (by omega) (by omega) _ _ _ _ λσ H' h=>h
 ·rintro σ d ⟨ts,hs,g,f,rfl,w,p,al,hl,hb⟩;walk_at"e";exact q l hs d w nl ⟨ts,p,al⟩ ⟨by omega,by omega,hb⟩
def Zbu{a:Addr}(q:∃ns:List Int,cj K H a (ns.map V.int)/\∀z:Int,Q (.int z) H):Ai (rE K) jB ⟨n,Q,bk,ct⟩ [some (.ref a),none] H:=by
 obtain⟨ns,b,q⟩:=q;unfold Ai;walk_at"e";refine⟨a,2,rfl,ns,b,by decide,λc=>?_⟩;walk_at"e";refine⟨_,_,_,rfl,by decide,by decide,by decide,λz d z1=>?_⟩;walk_at"e";refine wD (λ_=>?_) (λ_=>?_)
 ·walk_at"e";exact q _
 ·walk_at"e";exact q _
def Ti{C:Addr}{w t:Int}{σ:St}{r:TE}(u:∀(a:Hp) (p:VK),p (.int t) a->r σ a p)(z:∀{a:Hp}{lk dl:Addr},a lk=some (.ins C dl [])->(w=0/\a lk=some (.ins X.F dl []))\/(w=1/\a lk=some (.ins X.E dl []))\/(w=2/\a lk=some (.ins X.L dl [])))
  (q:∀ki lk H',aV H H'->H ki=none->H lk=none->KdO X H' ki lk w t->Q (.ref ki) H'):BR X.K (ur X.K) [] E0 (aj (G.KY C) (aj r aF)) σ H Q:=by
 walk_at"e";intro lk dl e j s;have f:aV H (upd (upd H dl (.own lk)) lk (.ins C dl [])):=λb o hb=>by rw[aC (aD hb e),aC (aD hb j)];exact hb
 have g:upd (upd H dl (.own lk)) lk (.ins C dl []) lk=some (.ins C dl []):=aq;generalize upd (upd H dl (.own lk)) lk (.ins C dl [])=a at f g ⊢;walk_at"s";refine u a _ ?_;walk_at"s";intro ki c d h y;have i:aV a (upd (upd a c (.own ki)) ki (.ins X.K c [])):=λb o hb=>by rw[aC (aD hb d),aC (aD hb h)];exact hb
 have m:upd (upd a c (.own ki)) ki (.ins X.K c []) ki=some (.ins X.K c []):=aq;generalize upd (upd a c (.own ki)) ki (.ins X.K c [])=A at i m ⊢;refine⟨ki,lk,t,rfl,c,m,λl x n=>⟨rfl,?_⟩⟩;have v:aV H l:=λb o hb=>n b o (i _ _ (f _ _ hb)) (aD (f _ _ hb) d);have k:lk≠ki:=aD g d;exact q ki lk l v (f.free d) e ⟨⟨c,x⟩,⟨dl,z (n _ _ (i _ _ g) k)⟩⟩
def Zby{c:Int}(q:Z6q c H X Q):An X.E X.F X.K X.L (ur X.K) ⟨n,Q,bk,ct⟩ [some (.int c)] H:=by
 have b:=Int.emod_nonneg (c / 3) (show(4:Int)≠0 by decide);have t1:=Int.emod_lt_of_pos (c / 3) (show(0:Int)<4 by decide);have w0:=Int.emod_nonneg c (show(3:Int)≠0 by decide);have g:=Int.emod_lt_of_pos c (show(0:Int)<3 by decide);unfold An;walk_at"e";refine wD (λz=>?_) (λz=>?_)
 ·refine Zk4 ?_;exact Ti (λd f h=>by walk_at"e";exact h) (λe=>.inl ⟨rfl,e⟩) λki lk H' s n1 n2 a=>q ki lk 0 (c / 3 % 4) H' b t1 z.symm s n1 n2 a
 ·refine vL ?_;refine J2 ?_;walk_at"s";refine wD (λy=>?_) (λy=>?_)
  ·refine Zk4 ?_;exact Ti (λd f h=>by walk_at"e";exact h) (λe=>.inr (.inl ⟨rfl,e⟩)) λki lk H' s n1 n2 a=>q ki lk 1 (c / 3 % 4) H' b t1 y.symm s n1 n2 a
  ·refine vL ?_;refine Zk4 ?_;exact Ti (λd f h=>by walk_at"e";exact h) (λe=>.inr (.inr ⟨rfl,e⟩)) λki lk H' s n1 n2 a=>q ki lk 2 (c / 3 % 4) H' b t1 (by omega) s n1 n2 a
def Zz6{z:Int}(a:0<=z)(h1:z<6):∃m:Int,Uy [V.int 1,.int 2,.int 2,.int 3,.int 0,.int 8] z=some (.int m)/\0<=m/\m<=8:=by
 have:z=0\/z=1\/z=2\/z=3\/z=4\/z=5:=by omega
 rcases this with rfl | rfl | rfl | rfl | rfl | rfl
 ·exact⟨1,rfl,by decide,by decide⟩
 ·exact⟨2,rfl,by decide,by decide⟩
 ·exact⟨2,rfl,by decide,by decide⟩
 ·exact⟨3,rfl,by decide,by decide⟩
 ·exact⟨0,rfl,by decide,by decide⟩
 ·exact⟨8,rfl,by decide,by decide⟩
def Zbw{c h s:Int}(q:Z7q h s H Q):
  Ak K jB ⟨n,Q,bk,ct⟩ [some (.int c),some (.int h),some (.int s),none,none] H:=by
 obtain⟨hn,sn,rfl,rfl,q⟩:=q;have i:=Int.emod_nonneg c (show(7:Int)≠0 by decide);have o:(0:Int)<10 ^ Int.toNat 12+1:=by decide
 have j:=Int.emod_nonneg c (show(10:Int) ^ Int.toNat 12+1≠0 by decide);unfold Ak;walk_at"e";refine⟨aU (by simp),λl nl=>?_⟩;generalize zz:upd H l _=H1;obtain⟨a,f⟩:=nwO nl zz;walk_at"e";refine⟨_,_,_,rfl,by decide,by decide,by decide,λz k z1=>?_⟩;obtain⟨m,g,d,e⟩:=Zz6 k z1;walk_at"e";refine iw (cj.of f) g ?_;have fin:∀{b:Int},0<=b->∀{v:Option V},(bG (gf (aj (tC (.str "make")) (aj (ak 1) (aj (ak 2) (aj (ak 3) (aj (ak 4) aF))))))) ⟨n,Q,bk,ct⟩ [some (.int c),some (.int hn),some (.int sn),some (.int m),some (.int b)] H1:=by
  intro b hb v;walk_at"e";refine⟨aU (by simp),λt nt=>?_⟩;exact q t m b _ (a.trans (aL nt _)) (a.free nt) d e hb aq
 walk_at"e";refine wD (λy=>?_) (λy=>?_)
 ·walk_at"e";refine wD (λx=>absurd (y.symm.trans x) (by decide)) (λx=>?_);refine vL ?_;exact fin i (v:=none)
 ·walk_at"e";refine wD (λx=>?_) (λx=>?_)
  ·walk_at"s";exact⟨aU (by simp),λt nt=>q t m _ _ (a.trans (aL nt _)) (a.free nt) d e j aq⟩
  ·refine vL ?_;exact fin (Int.le_refl _) (v:=none)
def Zbx{c:Int}(q:∀z:Int,Q (.int z) H):Am ⟨n,Q,bk,ct⟩ [some (.int c),none] H:=by
 have a:(0:Int)<10 ^ Int.toNat 60:=by decide
 unfold Am;walk_at"e";refine wD (λ_=>?_) (λ_=>?_)
 ·walk_at"e";exact q _
 ·walk_at"e";exact q _
def Up{i:Int}(q:Q (.bl true) H):vH ⟨n,Q,bk,ct⟩ [some (.int i)] H:=by
 unfold vH;walk_at"e";exact q
def WR{a b:Addr}(q:Z8q H a b Q):
  yl K vY ⟨n,Q,bk,ct⟩ [some (.ref a),some (.ref b),none] H:=by
 obtain⟨z,i,l,g,ns,c,ob,ol,d,q⟩:=q;unfold yl;walk_at"e";refine J8 c ?_;walk_at"e";refine⟨a,_,rfl,.inr (fZ.of c),?_⟩;walk_at"e";refine HY (λz=>absurd rfl z) (λ_=>?_);walk_at"e";refine⟨a,_,0,_,rfl,rfl,fZ.of c,rfl,?_⟩;walk_at"e";refine⟨a,_,1,_,rfl,rfl,fZ.of c,rfl,?_⟩;walk_at"e";refine⟨_,rfl,?_⟩;walk_at"e";refine⟨a,_,2,_,rfl,rfl,fZ.of c,rfl,?_⟩;walk_at"e";refine Pq ol ?_;walk_at"e";refine⟨a,_,2,_,rfl,rfl,fZ.of c,rfl,?_⟩;refine⟨l,rfl,⟨_,cj.of ol⟩,forL (ns.map V.int) (λ_ σ f=>∃v,σ=[some (.ref a),some (.ref b),v]/\f=H) ⟨_,rfl,rfl⟩ (λ_ _ _ _ ⟨_,_,e⟩=>by rw[e];exact cj.of ol) ?_ ?_⟩
 ·rintro k x σ f hk ⟨v,rfl,rfl⟩;obtain⟨y,_,rfl⟩:=List.mem_map.mp (List.mem_of_getElem? hk);walk_at"e";refine⟨_,rfl,?_⟩;walk_at"e";exact⟨_,rfl,rfl⟩
 ·rintro σ f ⟨v,rfl,rfl⟩;walk_at"e";refine Zpy (.inr ⟨fZ.of c,fZ.of ob⟩) (.cons (.inl ⟨rfl,rfl⟩) (.cons (.inl ⟨rfl,rfl⟩) (.cons (.inr ⟨l,g,rfl,rfl,.inr ⟨_,_,.inl ⟨cj.of ol,cj.of d⟩,Ko (qu _)⟩⟩) .nil))) ?_;exact q
end
def Z9q (H:Hp)(l:Addr)(Q:VK):Prop:=∃hs,HsO H l hs/\HsB hs/\∀t d H',aV H H'->H t=none->H' t=some (.tup (dV d))->okR hs d->Q (.ref t) H'
def Q6(K:aB):Sp:=λvs H Q E=>∃c l a,vs=[.int c,.ref l,.int a]/\Z9q H l Q
def Fg(K:aB):Sp:=λvs H Q E=>∃c l a,vs=[.int c,.ref l,.int a]/\∃hs,HsO H l hs/\HsB hs/\∀r H',aV H H'->H r=none->RL H H' hs r 2->Q (.ref r) H'
def Ky(K:aB):Sp:=λvs H Q E=>∃l c a,vs=[.ref l,.int c,.int a]/\∃hs,HsO H l hs/\HsB hs/\∀r H',aV H H'->RL H H' hs r 200->Q (.ref r) H'
def Z10q (K:aB)(H:Hp)(a:Addr)(l:Addr)(Q:VK):Prop:=∃ns:List Int,∃hs,cj K H a (ns.map V.int)/\ns.length<=63/\HsO H l hs/\HsB hs/\∀r H',aV H H'->RL H H' hs r 700->Q (.ref r) H'
def QV(K:aB):Sp:=λvs H Q E=>∃a l,vs=[.ref a,.ref l]/\Z10q K H a l Q
section
def f38{x:Int}(a:0<=x)(h1:x<2):∃m:Int,Uy [V.int 3,.int 8] x=some (.int m)/\0<m:=by
 have:x=0\/x=1:=by omega
 rcases this with rfl | rfl
 ·exact⟨3,rfl,by decide⟩
 ·exact⟨8,rfl,by decide⟩
def Zc1{c sd:Int}{l:Addr}(q:Z9q H l Q):
  Ar K jB QZ QX rD ⟨n,Q,bk,ct⟩ [some (.int c),some (.ref l),some (.int sd),none,none,none,none,none,none,none] H:=by
 obtain⟨hs,ho,hb,q⟩:=q;have n1:=hb.n1;have Zdy:∀{H':Hp}{ts:List Addr},HsO H' l hs->H' l=some (.lst (ts.map V.ref))->ts.length=hs.length:=λ{H' ts} h e=>by
  obtain⟨ts',h1,h2⟩:=h;rw[h1]at e;have:=congrArg (λo=>match o with | some (HO.lst xs)=>xs.length | _=>0) e;simp only[aX]at this;rw[<- this];exact h2.length
 obtain⟨ts,ol,al⟩:=id ho;have r:=al.length;unfold Ar;walk_at"e";refine jG (cj.of ol) ?_;rw[aX,r];walk_at"e";refine⟨_,_,_,rfl,by decide,by decide,by omega,λzh h0 h1=>?_⟩;obtain⟨h,rfl⟩:=toN h0;have hh:h<hs.length:=by omega
 obtain⟨m,hm⟩:∃m,hs[h]? =some m:=⟨_,bK hh⟩;have mb:=hb.sb m (List.mem_of_getElem? hm);obtain⟨B,A,y⟩:=al.get hm;have j:Uy (ts.map V.ref) (h:Int)=some (.ref B):=iI (by rw[cA,A];rfl);walk_at"e";refine iw (cj.of ol) j ?_;refine⟨B,_,1,_,rfl,rfl,fZ.of y,rfl,?_⟩;walk_at"e";refine⟨_,_,_,rfl,by decide,by decide,by omega,λzs O P=>?_⟩;obtain⟨s,rfl⟩:=toN O;walk_at"e";refine iw (cj.of ol) j ?_;refine⟨B,_,1,_,rfl,rfl,fZ.of y,rfl,?_⟩;walk_at"e";refine⟨_,_,_,rfl,by decide,by decide,by omega,λzt S t1=>?_⟩;obtain⟨t,rfl⟩:=toN S;walk_at"e";refine⟨aU (by simp),λU z=>?_⟩;generalize zz:upd H U _=H2;obtain⟨i,g2⟩:=nwO z zz;walk_at"e";obtain⟨mf,D,C⟩:=f38 (x:=c % 5 / 4) (by omega) (by omega);refine iw (cj.of g2) D ?_;walk_at"e";refine⟨_,_,_,rfl,by decide,by decide,C,λzf R _=>?_⟩;obtain⟨f,rfl⟩:=toN R;walk_at"e";refine⟨_,_,_,rfl,by decide,by decide,by decide,λw w0 w1=>?_⟩;have os:Ss hs h s:=⟨m,hm,P⟩;have p:Ss hs h t:=⟨m,hm,t1⟩;have tup:∀(d:pI),okR hs d->∀tp,H2 tp=none->Q (.ref tp) (upd H2 tp (.tup (dV d))):=λd ok tp a=>q tp d _ (i.trans (aL a _)) (i.free a) aq ok;walk_at"e";refine wD (λ_=>?_) (λw5=>?_)
 ·walk_at"e";exact⟨_,_,_,rfl,h,s,rfl,rfl,λtp many bulk H' sm a I Z b0 o=>q tp _ H' (i.trans sm) (i.free a) o ⟨os,I,Z,b0⟩⟩
 walk_at"e";refine wD (λ_=>?_) (λw8=>?_)
 ·walk_at"e";exact⟨aU (by simp),λtp a=>tup (.get h s t f) ⟨os,p⟩ tp a⟩
 walk_at"e";refine wD (λ_=>?_) (λw11=>?_)
 ·walk_at"e";exact⟨aU (by simp),λtp a=>tup (.put h t f s) ⟨p,os⟩ tp a⟩
 walk_at"e";refine wD (λ_=>?_) (λM=>?_)
 ·walk_at"e";exact⟨aU (by simp),λtp a=>tup (.copy h s t) ⟨os,p⟩ tp a⟩
 walk_at"e";refine wD (λ_=>?_) (λJ=>?_)
 ·walk_at"e";exact⟨aU (by simp),λtp a=>tup (.drop h s) os tp a⟩
 walk_at"e";refine wD (λ_=>?_) (λw15=>?_)
 ·have k:=i _ _ ol;walk_at"e";refine jG (cj.of k) ?_;rw[aX,r];walk_at"e";refine⟨_,_,_,rfl,by decide,by decide,by omega,λzg L g1=>?_⟩;obtain⟨g,rfl⟩:=toN L;have N:g<hs.length:=by omega
  obtain⟨mg,b⟩:∃m,hs[g]? =some m:=⟨_,bK N⟩;have W:=hb.sb mg (List.mem_of_getElem? b);obtain⟨tg,F,E⟩:=al.get b;walk_at"e";refine iw (cj.of k) (iI (v:=.ref tg) (by rw[cA,F];rfl)) ?_;refine⟨tg,_,1,_,rfl,rfl,fZ.of (i _ _ E),rfl,?_⟩;walk_at"e";refine⟨_,_,_,rfl,by decide,by decide,by omega,λzu Y u1=>?_⟩;obtain⟨u,rfl⟩:=toN Y;walk_at"e";exact⟨aU (by simp),λtp a=>tup (.give h s g u) ⟨os,mg,b,u1⟩ tp a⟩
 walk_at"e";refine wD (λ_=>?_) (λT=>?_)
 ·walk_at"e";refine⟨_,rfl,λld=>?_⟩;walk_at"e";exact⟨aU (by simp),λtp a=>tup (.write h t ld) p tp a⟩
 walk_at"e";refine⟨_,_,_,rfl,by decide,by decide,by decide,λzw a0 a1=>?_⟩;walk_at"e";refine⟨_,_,rfl,a0,by omega,λwd=>?_⟩;walk_at"e";refine wD (λ_=>?_) (λX=>?_)
 ·walk_at"e";exact⟨aU (by simp),λtp a=>tup (.name h t wd) p tp a⟩
 walk_at"e";exact⟨aU (by simp),λtp a=>tup (.seek h s wd) os tp a⟩
def dW:pI->Str
 | .make .. =>"make"
 | .get .. =>"get"
 | .put .. =>"put"
 | .copy .. =>"copy"
 | .drop .. =>"drop"
 | .give .. =>"give"
 | .write .. =>"write"
 | .read .. =>"read"
 | .name .. =>"name"
 | .seek .. =>"seek"
def dV0(d:pI):∃r,dV d=.str (dW d)::r:=by cases d<;>exact⟨_,rfl⟩
def Zy2{d:pI}(h:dW d="put"):∃h t f s,d=.put h t f s:=by
 cases d<;>first | exact⟨_,_,_,_,rfl⟩ | exact absurd h (by simp only[dW];decide)
def Zy3{d:pI}(h:dW d="get"):∃h s t f,d=.get h s t f:=by
 cases d<;>first | exact⟨_,_,_,_,rfl⟩ | exact absurd h (by simp only[dW];decide)
def WW{c y:Int}{l:Addr}(q:∃hs,HsO H l hs/\HsB hs/\∀r H',aV H H'->H r=none->RL H H' hs r 2->Q (.ref r) H'):
  ym K (Q6 K) jB ⟨n,Q,bk,ct⟩ [some (.int c),some (.ref l),some (.int y),none] H:=by
 obtain⟨hs,B,hb,q⟩:=q;unfold ym;walk_at"e";refine⟨_,_,_,rfl,hs,B,hb,λt d A b nt k ok=>?_⟩;obtain⟨E,C⟩:=dV0 d;have x:Uy (dV d) 0=some (.str (dW d)):=by rw[C];exact iI (j:=0) rfl
 have one:bG (gJ (aj (ak 3) aF)) ⟨n,Q,bk,ct⟩ [some (.int c),some (.ref l),some (.int y),some (.ref t)] A:=by
  walk_at"e";refine⟨aU (by simp),λr g=>?_⟩;have a:=aL g (.lst [.ref t]);exact q r _ (b.trans a) (b.free g) ((rl1 (d:=d) (b.trans a) (b.free g) nt aq (a _ _ k) ok).mono (by decide))
 have p:(aN (dY ((Zg0 (bT (bC (Cd) (bC (eF K) (ak 3) (tC (.int 0))) (tC (.str "get")))) (bT (bC (Cd) (bC (rI (λ_ j=>0<j) λi j=>.int (i % j)) (bC (rI Oi λi j=>.int (i / j)) (ak 0) (tC (.int 5))) (tC (.int 2))) (tC (.int 0)))))) (bG (gJ (aj (ak 3) (aj (gf (aj (tC (.str "put")) (aj (bC (eF K) (ak 3) (tC (.int 1))) (aj (bC (eF K) (ak 3) (tC (.int 3))) (aj (bC (eF K) (ak 3) (tC (.int 4))) (aj (aQ jB [] E0 (aj (ak 0) (aj (tC (.int 1159523)) (aj (tC (.int 3)) aF)))) aF)))))) aF)))) cu)
   (bG (gJ (aj (ak 3) aF)))) ⟨n,Q,bk,ct⟩ [some (.int c),some (.ref l),some (.int y),some (.ref t)] A:=by
  walk_at"e";refine⟨t,_,0,_,rfl,rfl,fZ.of k,x,?_⟩;walk_at"e";refine wD (λhp=>?_) (λ_=>?_)
  ·obtain⟨h,s,v,f,rfl⟩:=Zy3 hp;obtain⟨o1,o2⟩:=ok;walk_at"e";refine wD (λ_=>?_) (λ_=>?_)
   ·walk_at"e";refine⟨t,_,1,_,rfl,rfl,fZ.of k,rfl,?_⟩;walk_at"e";refine⟨t,_,3,_,rfl,rfl,fZ.of k,rfl,?_⟩;walk_at"e";refine⟨t,_,4,_,rfl,rfl,fZ.of k,rfl,?_⟩;walk_at"e";refine⟨_,_,_,rfl,by decide,by decide,by decide,λz D z1=>?_⟩;obtain⟨sl,rfl⟩:=toN D;walk_at"e";refine⟨aU (by simp),λu w=>⟨aU (by simp),λr g=>?_⟩⟩;have a:=aL w (.tup (dV (.put h v f sl)));have o:=aL g (.lst [.ref t,.ref u]);have hh:h<hs.length:=by obtain⟨m,hm,_⟩:=o1;exact(dH hm).1
    exact q r _ (b.trans (a.trans o)) (b.free (a.free g)) (rl2 (d:=.get h s v f) (e:=.put h v f sl) (b.trans (a.trans o)) (b.free (a.free g)) nt (b.free w) aq (o _ _ (a _ _ k)) ⟨o1,o2⟩ (o _ _ aq) ⟨o2,hb.ok hh (by omega)⟩)
   ·exact one
  ·exact one
 walk_at"e";refine⟨t,_,0,_,rfl,rfl,fZ.of k,x,?_⟩;walk_at"e";refine wD (λhp=>?_) (λ_=>?_)
 ·obtain⟨h,v,f,s,rfl⟩:=Zy2 hp;obtain⟨o1,o2⟩:=ok;walk_at"e";refine wD (λ_=>?_) (λ_=>?_)
  ·walk_at"e";refine⟨t,_,1,_,rfl,rfl,fZ.of k,rfl,?_⟩;walk_at"e";refine⟨t,_,4,_,rfl,rfl,fZ.of k,rfl,?_⟩;walk_at"e";refine⟨aU (by simp),λu w=>⟨aU (by simp),λr g=>?_⟩⟩;have a:=aL w (.tup (dV (.drop h s)));have o:=aL g (.lst [.ref t,.ref u]);exact q r _ (b.trans (a.trans o)) (b.free (a.free g)) (rl2 (d:=.put h v f s) (e:=.drop h s) (b.trans (a.trans o)) (b.free (a.free g)) nt (b.free w) aq (o _ _ (a _ _ k)) ⟨o1,o2⟩ (o _ _ aq) o2)
  ·exact p
 ·exact p
end
section
def Zmv(σ:St)(e:TE)(d:pI):Prop:=∀(b:Hp) (c:VK),(∀t a,aV b a->b t=none->a t=some (.tup (dV d))->c (.ref t) a)->e σ b c
def Yv{σ:St}{c:TE}{d:pI}(h:∀(a:Hp) (b:VK),(∀t,a t=none->b (.ref t) (upd a t (.tup (dV d))))->c σ a b):Zmv σ c d:=λa b k=>h a b λt nt=>k t _ (aL nt _) nt aq
def Zfp{H0:Hp}{hs:Px}{d e:pI}{h i:TE}{σ:St}(b:aV H0 H)(r:Zmv σ h d)(hb:Zmv σ i e)(j:okR hs d)(o:okR hs e)(k:∀l H',aV H H'->RL H0 H' hs l 2->Q (.ref l) H'):gJ (aj h (aj i aF)) σ H Q:=by
 walk_at"s";refine r H _ λt n c nt q=>?_;walk_at"s";refine hb n _ λu s f p m=>?_;walk_at"s";refine⟨aU (by simp),λl nl=>?_⟩;have a:=aL nl (.lst [.ref t,.ref u]);have g:=b.trans (c.trans (f.trans a));exact k l _ (c.trans (f.trans a)) (rl2 g (b.free (c.free (f.free nl))) (b.free nt) (b.free (c.free p)) aq (a _ _ (f _ _ q)) j (a _ _ m) o)
def Zn7{H0:Hp}{hs:Px}{d e f:pI}{j m tc:TE}{σ:St}(c:aV H0 H)(y:Zmv σ j d)(hb:Zmv σ m e)(hc:Zmv σ tc f)(n:okR hs d)(r:okR hs e)(x:okR hs f)(k:∀l H',aV H H'->RL H0 H' hs l 3->Q (.ref l) H'):gJ (aj j (aj m (aj tc aF))) σ H Q:=by
 walk_at"s";refine y H _ λt p g nt v=>?_;walk_at"s";refine hb p _ λu q h s o=>?_;walk_at"s";refine hc q _ λw z b nw ow=>?_;walk_at"s";refine⟨aU (by simp),λl nl=>?_⟩;have a:=aL nl (.lst [.ref t,.ref u,.ref w]);have i:=c.trans (g.trans (h.trans (b.trans a)));exact k l _ (g.trans (h.trans (b.trans a))) (rl3 i (c.free (g.free (h.free (b.free nl)))) (c.free nt) (c.free (g.free s)) (c.free (g.free (h.free nw))) aq (a _ _ (b _ _ (h _ _ v))) n (a _ _ (b _ _ o)) r (a _ _ ow) x)
def WM{l:Addr}{c N:Int}(q:∃hs,HsO H l hs/\HsB hs/\∀r H',aV H H'->RL H H' hs r 200->Q (.ref r) H'):
  yh K jB rD ⟨n,Q,bk,ct⟩ [some (.ref l),some (.int c),some (.int N),none,none,none] H:=by
 obtain⟨hs,ho,hb,q⟩:=q;obtain⟨ts,ol,al⟩:=id ho;have T:=al.length;have n5:=hb.n5;unfold yh;walk_at"e";refine⟨by decide,λr0 X=>?_⟩;have s1:=aL X (.lst []);have g1:RL H (upd H r0 (.lst [])) hs r0 0:=⟨s1,X,[],aq,Nat.le_refl _,λv hv=>(nomatch hv)⟩;generalize upd H r0 (.lst [])=F at s1 g1 ⊢;walk_at"e";refine jG (cj.of (s1 _ _ ol)) ?_;rw[aX,T];walk_at"e";refine⟨_,rfl,by omega,by omega,?_⟩;refine forR (λk σ a=>∃r o,σ=[some (.ref l),some (.int c),some (.int N),some (.ref r),o,none]/\aV H a/\RL H a hs r (4 * k)) ⟨r0,_,rfl,s1,g1⟩ ?_ ?_
 ·rintro k σ a hk ⟨r,o,rfl,B,L⟩;have E:k<hs.length:=by omega
  rw[Int.zero_add];obtain⟨f,ef⟩:=toN (x:=(k:Int) % 2) (by omega);have P:Ss hs k 0:=hb.ok E (by decide);have o1:Ss hs k 1:=hb.ok E (by decide);refine Zts ?_;refine J2 ?_;refine TQ ?_;refine Zib ?_;refine Zia ?_;refine Zfp (H0:=H) B (d:=.make k 0 2 0) (e:=.make k 1 1 0) (Yv λF R h=>by walk_at"e";exact⟨aU (by simp),h⟩) (Yv λF R h=>by walk_at"e";exact⟨aU (by simp),h⟩) ⟨P,by decide,by decide,by decide⟩ ⟨o1,by decide,by decide,by decide⟩ λl2 H2 sm2 rl2=>?_;refine yQ (L.same sm2) rl2 (by omega) λr3 b sm3 _ rl3=>?_;refine Zef ?_;refine TQ ?_;refine Zib ?_;refine Zia ?_;refine Zfp (H0:=H) rl3.s (d:=.put k 0 f 1) (e:=.drop k 1) (Yv λF R h=>by walk_at"e";rw[ef];exact⟨aU (by simp),h⟩) (Yv λF R h=>by walk_at"e";exact⟨aU (by simp),h⟩) ⟨P,o1⟩ o1 λl4 S Z A=>?_;refine yQ (rl3.same Z) A (by omega) λr5 W sm5 _ O=>?_;refine Zef ?_;exact⟨r5,_,rfl,B.trans (sm2.trans (sm3.trans (Z.trans sm5))),O.mono (by omega)⟩
 ·rintro σ a ⟨r,o,rfl,B,L⟩;have L:=L.mono (N':=20) (by omega);walk_at"e";refine⟨_,_,_,rfl,by decide,by decide,by decide,λw w0 w1=>?_⟩;have rest:∀{I:Addr}{b:Hp}{o:Option V},aV H b->RL H b hs I 30->(aN (bF (bC (wG) (ak 3) (bC (Zcz) (gJ (aj (tC .non) aF)) (bC (pL λi j=>.int (i+j)) (tC (.int 1)) (aQ jB [] E0 (aj (ak 1) (aj (tC (.int 882377)) (aj (tC (.int 4)) aF))))))) (aO 3))
   (p7 K rD)) ⟨n,Q,bk,ct⟩ [some (.ref l),some (.int c),some (.int N),some (.ref I),o,some (.int w)] b:=by
   intro I b o m rl1;walk_at"e";refine⟨by decide,λl0 nl0=>?_⟩;generalize zz:upd b l0 _=S;obtain⟨g,g4⟩:=nwO nl0 zz;have A:=rl1.same g;walk_at"e";refine⟨_,_,_,rfl,by decide,by decide,by decide,λz z0 z1=>?_⟩;walk_at"e";refine Sy (H0:=H) (hs:=hs) A.s g4 (by omega) (by omega) λl5 W C _ O=>?_;refine yQ (A.same C) (O.mono (N':=4) (by omega)) (by decide) λr6 H6 U _ rl6=>?_;have Y:=m.trans (g.trans (C.trans U));refine Zef ?_;unfold p7;walk_at"e";refine jG (cj.of (Y _ _ ol)) ?_;rw[aX,T];walk_at"e";refine⟨_,rfl,by omega,by omega,?_⟩;refine forR (λk σ a=>∃r o,σ=[some (.ref l),some (.int c),some (.int N),some (.ref r),o,some (.int w)]/\aV H a/\RL H a hs r (34+7 * k)) ⟨r6,_,rfl,Y,rl6⟩ ?_ ?_
   ·rintro k σ a hk ⟨r,o,rfl,B,L⟩;have E:k<hs.length:=by omega
    rw[Int.zero_add];obtain⟨f,ef⟩:=toN (x:=(k:Int) % 2) (by omega);have P:Ss hs k 0:=hb.ok E (by decide);have o1:Ss hs k 1:=hb.ok E (by decide);have o2:Ss hs k 2:=hb.ok E (by decide);refine Zts ?_;refine J2 ?_;have M:∀{I:Addr}{b:Hp},aV H b->RL H b hs I (34+7 * k+5)->(dY (bT (bC (Cd) (ak 5) (tC (.int 3)))) (bF (bC (wG) (ak 3) (gJ (aj (gf (aj (tC (.str "name")) (aj (ak 4) (aj (tC (.int 0)) (aj (aQ rD [] E0 (aj (ak 2) (aj (bC (rI (λ_ j=>0<j) λi j=>.int (i % j)) (ak 4) (tC (.int 2))) aF))) aF))))) (aj (gf (aj (tC (.str "drop")) (aj (ak 4) (aj (tC (.int 0)) aF)))) aF)))) (aO 3)) cu) ⟨λσ a=>∃r o,σ=[some (.ref l),some (.int c),some (.int N),some (.ref r),o,some (.int w)]/\aV H a/\RL H a hs r (34+7 * (k+1)),Q,bG (ak 3) ⟨n,Q,bk,ct⟩,λσ a=>∃r o,σ=[some (.ref l),some (.int c),some (.int N),some (.ref r),o,some (.int w)]/\aV H a/\RL H a hs r (34+7 * (k+1))⟩ [some (.ref l),some (.int c),some (.int N),some (.ref I),some (.int k),some (.int w)] b:=by
     intro I b m rl3;walk_at"e";refine wD (λ_=>?_) (λ_=>?_)
     ·refine TQ ?_;refine Zib ?_;refine Zia ?_;walk_at"s";refine⟨_,_,rfl,by omega,by omega,λwd=>?_⟩;walk_at"s";refine⟨aU (by simp),λt nt=>?_⟩;have g:=aL nt (.tup (dV (.name k 0 wd)));have g4:upd b t (.tup (dV (.name k 0 wd))) t=some (.tup (dV (.name k 0 wd))):=aq;show aj _ _ _ (upd b t (.tup (dV (.name k 0 wd)))) _;generalize upd b t (.tup (dV (.name k 0 wd)))=S at g g4 ⊢;walk_at"s";refine⟨aU (by simp),λu nu=>⟨aU (by simp),λl2 J=>?_⟩⟩;have C:=aL nu (.tup (dV (.drop k 0)));have g5:upd S u (.tup (dV (.drop k 0))) u=some (.tup (dV (.drop k 0))):=aq;show wG _ _ (upd (upd S u (.tup (dV (.drop k 0)))) l2 _) _;have J:upd S u (.tup (dV (.drop k 0))) l2=none:=J;generalize upd S u (.tup (dV (.drop k 0)))=W at C g5 J ⊢;have U:=aL J (.lst [.ref t,.ref u]);have r6:RL H (upd W l2 (.lst [.ref t,.ref u])) hs l2 2:=rl2 (d:=.name k 0 wd) (e:=.drop k 0) (m.trans (g.trans (C.trans U))) (m.free (g.free (C.free J))) (m.free nt) (m.free (g.free nu)) aq (U _ _ (C _ _ g4)) P (U _ _ g5) P;have s36:=g.trans (C.trans U);refine yQ (rl3.same s36) r6 (by omega) λr7 H7 s7 _ rl7=>?_;refine Zef ?_;exact⟨r7,_,rfl,m.trans (s36.trans s7),rl7.mono (by omega)⟩
     ·refine vL ?_;exact⟨I,_,rfl,m,rl3.mono (by omega)⟩
    have D:∀{I:Addr}{b:Hp},aV H b->RL H b hs I (34+7 * k+2)->(aN (dY (bT (bC (pL λi j=>.bl (decide (j<i))) (ak 5) (tC (.int 1)))) (bF (bC (wG) (ak 3) (gJ (aj (gf (aj (tC (.str "make")) (aj (ak 4) (aj (tC (.int 0)) (aj (tC (.int 1)) (aj (tC (.int 0)) aF)))))) (aj (gf (aj (tC (.str "put")) (aj (ak 4) (aj (tC (.int 0)) (aj (tC (.int 0)) (aj (tC (.int 1)) aF)))))) (aj (gf (aj (tC (.str "drop")) (aj (ak 4) (aj (tC (.int 1)) aF)))) aF))))) (aO 3)) cu)
     (dY (bT (bC (Cd) (ak 5) (tC (.int 3)))) (bF (bC (wG) (ak 3) (gJ (aj (gf (aj (tC (.str "name")) (aj (ak 4) (aj (tC (.int 0)) (aj (aQ rD [] E0 (aj (ak 2) (aj (bC (rI (λ_ j=>0<j) λi j=>.int (i % j)) (ak 4) (tC (.int 2))) aF))) aF))))) (aj (gf (aj (tC (.str "drop")) (aj (ak 4) (aj (tC (.int 0)) aF)))) aF)))) (aO 3)) cu)) ⟨λσ a=>∃r o,σ=[some (.ref l),some (.int c),some (.int N),some (.ref r),o,some (.int w)]/\aV H a/\RL H a hs r (34+7 * (k+1)),Q,bG (ak 3) ⟨n,Q,bk,ct⟩,λσ a=>∃r o,σ=[some (.ref l),some (.int c),some (.int N),some (.ref r),o,some (.int w)]/\aV H a/\RL H a hs r (34+7 * (k+1))⟩ [some (.ref l),some (.int c),some (.int N),some (.ref I),some (.int k),some (.int w)] b:=by
     intro I b m rl3;refine J2 ?_;walk_at"s";refine wD (λ_=>?_) (λ_=>?_)
     ·refine TQ ?_;refine Zib ?_;refine Zia ?_;refine Zn7 (H0:=H) m (d:=.make k 0 1 0) (e:=.put k 0 0 1) (f:=.drop k 1) (Yv λF R h=>by walk_at"e";exact⟨aU (by simp),h⟩) (Yv λF R h=>by walk_at"e";exact⟨aU (by simp),h⟩) (Yv λF R h=>by walk_at"e";exact⟨aU (by simp),h⟩) ⟨P,by decide,by decide,by decide⟩ ⟨P,o1⟩ o1 λl4 S g A=>?_;refine yQ (rl3.same g) A (by omega) λr5 W C _ O=>?_;refine Zef ?_;exact M (m.trans (g.trans C)) (O.mono (by omega))
     ·refine vL ?_;exact M m (rl3.mono (by omega))
    walk_at"s";refine wD (λ_=>?_) (λ_=>?_)
    ·refine TQ ?_;refine Zib ?_;refine Zia ?_;refine Zfp (H0:=H) B (d:=.get k 1 0 f) (e:=.put k 0 f 2) (Yv λF R h=>by walk_at"e";rw[ef];exact⟨aU (by simp),h⟩) (Yv λF R h=>by walk_at"e";rw[ef];exact⟨aU (by simp),h⟩) ⟨o1,P⟩ ⟨P,o2⟩ λl4 S g A=>?_;refine yQ (L.same g) A (by omega) λr5 W C _ O=>?_;refine Zef ?_;exact D (B.trans (g.trans C)) (O.mono (by omega))
    ·refine vL ?_;exact D B (L.mono (by omega))
   ·rintro σ a ⟨r,o,rfl,B,L⟩;walk_at"e";exact q r a B (L.mono (by omega))
  walk_at"e";refine wD (λ_=>?_) (λ_=>?_)
  ·refine TQ ?_;refine Zib ?_;refine Zia ?_;refine J7 ?_;walk_at"s";refine jG (cj.of (B _ _ ol)) ?_;rw[aX,T];walk_at"s";refine⟨_,rfl,by omega,by omega,?_⟩;refine Zt7 (n:=hs.length) rfl (by omega) (λi y a=>∃t,y=.ref t/\H t=none/\a t=some (.tup (dV (.make i 1 0 0)))) (λi y F H2 ⟨t,e,f,z⟩ s=>⟨t,e,f,s _ _ z⟩) (λi F q hq=>Bs hq) (λi F hi m q hq=>?_) ?_
   ·walk_at"c";walk_at"e";exact⟨aU (by simp),λt nt=>hq _ _ (aL nt _) ⟨t,rfl,B.free (m.free nt),aq⟩⟩
   ·intro ys b m ly hy p np;have g:=aL np (.lst ys);have r4:RL H (upd b p (.lst ys)) hs p 5:=⟨B.trans (m.trans g),B.free (m.free np),ys,aq,by omega,λv hv=>by
     obtain⟨i,hi,e⟩:=List.getElem_of_mem hv;obtain⟨t,e2,fz,z⟩:=hy i v (by rw[bK hi,e]);exact .inr ⟨t,_,e2,fz,g _ _ z,hb.ok (by omega) (by decide),by decide,by decide,by decide⟩⟩
    refine yQ (L.same (m.trans g)) r4 (by decide) λr5 W C _ O=>?_;refine Zef ?_;exact rest (B.trans (m.trans (g.trans C))) (O.mono (by decide))
  ·refine vL ?_;exact rest B (L.mono (by decide))
def Zbt{a l:Addr}(q:Z10q K H a l Q):
  Ah K (rE K) (Fg K) jB (Ky K) ⟨n,Q,bk,ct⟩ [some (.ref a),some (.ref l),none,none,none,none,none] H:=by
 obtain⟨ns,hs,u,X,ho,hb,q⟩:=q;unfold Ah;walk_at"e";refine⟨by decide,λU t=>?_⟩;have d:=aL t (.lst []);have g1:RL H (upd H U (.lst [])) hs U 200:=⟨d,t,[],aq,Nat.zero_le _,λv hv=>(nomatch hv)⟩;generalize upd H U (.lst [])=H1 at d g1 ⊢;have rest:∀{J:Addr}{o:Hp},aV H o->RL H o hs J 200->(qK K (rE K) (Fg K) jB) ⟨n,Q,bk,ct⟩ [some (.ref a),some (.ref l),some (.ref J),none,none,none,none] o:=by
  intro J o m rl2;unfold qK;walk_at"e";refine⟨a,2,rfl,ns,m.seq u,by decide,λsd=>?_⟩;walk_at"e";refine⟨a,_,rfl,m.seq u,λF L=>?_⟩;have O:∃I:List Int,Qv (ns.map V.int) (some 3) (some 63)=I.map V.int/\I.length<=63:=by
   refine⟨(ns.drop (HT.qy ns.length 0 (some 3))).take (HT.qy ns.length ns.length (some 63) - HT.qy ns.length 0 (some 3)),?_,?_⟩
   ·unfold Qv;rw[List.map_take,List.map_drop,aX]
   ·rw[List.length_take,List.length_drop];omega
  obtain⟨I,ez,lz⟩:=O;rw[ez];generalize zz:upd o F _=H3;obtain⟨T,Z⟩:=nwO L zz;refine⟨F,rfl,⟨_,cj.of Z⟩,forL (I.map V.int) (λi σ k=>∃r R S,σ=[some (.ref a),some (.ref l),some (.ref r),some (.int sd),some (.int i),R,S]/\aV H3 k/\RL H k hs r (200+6 * i)) ⟨J,_,_,rfl,aV.refl _,rl2.same T⟩ (λ_ _ _ _ ⟨_,_,_,_,z,_⟩=>cj.of (z _ _ Z)) ?_ ?_⟩
  ·rintro i x σ k Y ⟨r,R,S,rfl,A,C⟩;have W:=(dH Y).1;rw[aX]at W;obtain⟨c,hc,rfl⟩:=List.mem_map.mp (List.mem_of_getElem? Y);have hii:(i:Int) * i<=3969:=by
    have:=Nat.mul_le_mul (show i<=63 by omega) (show i<=63 by omega);have e:((i * i:Nat):Int)=(i:Int) * i:=by push_cast;rfl
    omega
   have hi0:0<=(i:Int) * i:=Int.mul_nonneg (by omega) (by omega);have p:=m.trans (T.trans A);walk_at"e";generalize c+(i:Int) * i * 1000003=z;refine⟨_,_,_,rfl,by decide,by decide,by decide,λy y0 y1=>?_⟩;walk_at"e";refine wD (λ_=>?_) (λ_=>?_)
   ·walk_at"e";refine⟨by decide,λN j=>?_⟩;generalize zz:upd k N _=H5;obtain⟨g,M⟩:=nwO j zz;have f:=C.same g;walk_at"e";refine⟨_,_,_,rfl,by decide,by decide,by decide,λw w0 w1=>?_⟩;walk_at"e";refine Sy (H0:=H) (hs:=hs) f.s M (by omega) (by omega) λl6 H6 B _ h=>?_;refine yQ (f.same B) (h.mono (N':=6) (by omega)) (by omega) λE P D _ b=>?_;walk_at"e";refine Zq2 rfl ?_;exact⟨E,_,_,by rw[show((i+1:Nat):Int)=(i:Int)+1 from by push_cast;rfl];rfl,A.trans (g.trans (B.trans D)),b.mono (by omega)⟩
   ·walk_at"e";refine⟨_,_,_,rfl,hs,ho.same p,hb,λr5 H5 g _ f=>?_⟩;have f:=f.base p;refine yQ (C.same g) f (by omega) λE P D _ b=>?_;walk_at"e";refine Zq2 rfl ?_;exact⟨E,_,_,by rw[show((i+1:Nat):Int)=(i:Int)+1 from by push_cast;rfl];rfl,A.trans (g.trans D),b.mono (by omega)⟩
  ·rintro σ k ⟨r,R,S,rfl,A,C⟩;rw[aX]at C;walk_at"e";refine⟨by decide,λN j=>?_⟩;generalize zz:upd k N _=H5;obtain⟨g,M⟩:=nwO j zz;have f:=C.same g;walk_at"e";refine⟨_,_,_,rfl,by decide,by decide,by decide,λw w0 w1=>?_⟩;walk_at"e";refine Sy (H0:=H) (hs:=hs) f.s M (by omega) (by omega) λl6 H6 B _ h=>?_;refine yQ (f.same B) (h.mono (N':=24) (by omega)) (by omega) λE P D _ b=>?_;exact q E P (m.trans (T.trans (A.trans (g.trans (B.trans D))))) (b.mono (by omega))
 walk_at"e";refine⟨a,0,rfl,ns,d.seq u,by decide,λc0=>?_⟩;walk_at"e";refine⟨_,_,_,rfl,by decide,by decide,by decide,λz z0 z1=>?_⟩;walk_at"e";refine wD (λ_=>?_) (λ_=>?_)
 ·walk_at"e";refine⟨a,0,rfl,ns,d.seq u,by decide,λc1=>?_⟩;walk_at"e";refine⟨a,2,rfl,ns,d.seq u,by decide,λc2=>?_⟩;walk_at"e";refine⟨_,_,_,rfl,hs,ho.same d,hb,λr o m rl2=>?_⟩;refine Zxe ?_;exact rest (d.trans m) (rl2.base d)
 ·refine vL ?_;exact rest d g1
end
def Zjf(M:Wm):Prop:=M.sw.phase="walk"->M.sw.grey.Nodup/\∀x∈M.sw.grey,∃c,cellAt M x=some c/\c.tone=M.sw.sense
structure KW(M:Wm)(hs:Px)(k:Nat):Prop where
 hl:M.hands.length=hs.length
 hn:∀(i:Nat) m n,M.hands[i]? =some m->hs[i]? =some n->m.2.length=n.2.toNat
 cl:M.cells.length<=k
 nl:M.names.length<=k
 fl:∀c,some c∈M.cells->c.fl.length<=8
 gr:Zjf M
 ph:M.sw.phase="rest"\/M.sw.phase="walk"\/M.sw.phase="give"\/M.sw.phase="lost"
 a0:0<=M.sw.at'
 tl:0<=M.tells/\M.tells<4
section
variable {M:Wm}{hs:Px}{k:Nat}
def Zdo:∀(n:Nat) (l:List Int),l.Nodup->(∀x∈l,0<=x/\x<n)->l.length<=n
 | 0,l,_,h=>by
  cases l with
  | nil=>exact Nat.le_refl _
  | cons x l=>have:=h x (by simp);omega
 | n+1,l,nd,h=>by
  have h1:(l.erase (n:Int)).length<=n:=Zdo n _ (nd.erase _) λx hx=>by
   have h2:=h x (List.mem_of_mem_erase hx);have h3:x≠(n:Int):=((nd.mem_erase_iff).mp hx).1
   push_cast at h2
   omega
  have h4:=List.length_erase (a:=(n:Int)) (l:=l);split at h4<;>omega
def Yl{x:Int}{c:Ce}(h:cellAt M x=some c):0<=x/\x<M.cells.length:=by
 obtain⟨a,h1⟩:=dm.mp h;have:=(dH h1).1;omega
def KW.ok(p:KW M hs k)(hb:HsB hs)(hk:k<=900):Zc3 M:=by
 have f:=p.cl;have d:=p.nl;refine⟨by omega,λm hm=>?_,λc hc=>by have:=p.fl c hc;omega,by omega,λph=>?_,λph x hx=>?_,p.ph,p.a0⟩
 ·obtain⟨i,b,e⟩:=List.getElem_of_mem hm;have a:i<hs.length:=by rw[<- p.hl];exact b
  have h1:=p.hn i m _ (by rw[bK b,e]) (bK a);have h2:=hb.sb _ (List.getElem_mem a);omega
 ·obtain⟨nd,h1⟩:=p.gr ph;refine Nat.le_trans (Zdo M.cells.length _ nd λx hx=>?_) (by omega);obtain⟨c,hc,_⟩:=h1 x hx;exact Yl hc
 ·obtain⟨c,hc,_⟩:=(p.gr ph).2 x hx;exact⟨c,hc⟩
def KW.Ck(p:KW M hs k){h s:Nat}(o:Ss hs h s):Ck M h s:=by
 obtain⟨m,hm,a⟩:=o;have hh:h<M.hands.length:=by rw[p.hl];exact(dH hm).1
 refine⟨_,bK hh,?_⟩;have:=p.hn h _ m (bK hh) hm;omega
def KW.okD(p:KW M hs k){d:pI}(o:okR hs d):okD M d:=by
 cases d with
 | make h s many bulk=>exact⟨p.Ck o.1,o.2.1,by have:=o.2.2.1;omega,o.2.2.2⟩
 | get h s t f=>exact⟨p.Ck o.1,p.Ck o.2⟩
 | put h t f s=>exact⟨p.Ck o.1,p.Ck o.2⟩
 | copy h s t=>exact⟨p.Ck o.1,p.Ck o.2⟩
 | drop h s=>exact p.Ck o
 | give h s g t=>exact⟨p.Ck o.1,p.Ck o.2⟩
 | write h t l=>exact p.Ck o
 | read h t=>exact p.Ck o
 | name h t z=>exact p.Ck o
 | seek h s z=>exact p.Ck o
def KW.mono{a:Nat}(p:KW M hs k)(h:k<=a):KW M hs a:=by
 obtain⟨e,b,l,j,d,f,c,g,i⟩:=p;exact⟨e,b,by omega,by omega,d,f,c,g,i⟩
def KW.slot(p:KW M hs k)(h s:Nat)(x:Option Int):KW (setSlot M h s x) hs k:=by
 obtain⟨l,d,o,f,t,g,j,q,r⟩:=p;refine⟨by show(M.hands.modify h _).length=_;rw[List.length_modify];exact l,λi m n a e=>?_,o,f,t,g,j,q,r⟩;have a:(M.hands.modify h λm=>(m.1,m.2.set s x))[i]? =some m:=a;rw[List.getElem?_modify]at a;cases c:M.hands[i]? with
 | none=>rw[c]at a;cases a
 | some b=>
  rw[c]at a
  by_cases z:h=i
  ·have e3:(b.1,b.2.set s x)=m:=by simpa[z]using a
   rw[<- e3];show(b.2.set s x).length=_;rw[List.length_set];exact d i b n c e
  ·have e3:b=m:=by simpa[z]using a
   rw[<- e3];exact d i b n c e
def oN{i:Int}{c c':Ce}(h:cellAt M i=some c)(x:Int):cellAt (setCell M i c') x=if x=i then some c' else cellAt M x:=by
 obtain⟨b,h1⟩:=dm.mp h;unfold cellAt;show(if 0<=x then((M.cells.set i.toNat (some c'))[x.toNat]?).join else none)=_
 by_cases e:x=i
 ·subst e;rw[if_pos b,if_pos rfl,List.getElem?_set_self (dH h1).1];rfl
 ·rw[if_neg e]
  by_cases a:0<=x
  ·rw[if_pos a,if_pos a,List.getElem?_set_ne (by omega)]
  ·rw[if_neg a,if_neg a]
def KW.cell(p:KW M hs k){i:Int}{c c':Ce}(h:cellAt M i=some c)(g:c'.tone=c.tone)(s:c'.fl.length=c.fl.length):KW (setCell M i c') hs k:=by
 have h8:=p.fl c (sY h);obtain⟨l,q,m,b,r,f,j,n,o⟩:=p;refine⟨l,q,by show(M.cells.set _ _).length<=_;rw[List.length_set];exact m,b,λd hd=>?_,λph=>?_,j,n,o⟩
 ·rcases List.mem_or_eq_of_mem_set (show some d∈M.cells.set _ _ from hd)with hd | hd
  ·exact r d hd
  ·cases hd;omega
 ·obtain⟨nd,h1⟩:=f ph;refine⟨nd,λx hx=>?_⟩;obtain⟨d,hd,a⟩:=h1 x hx;rw[oN h]
  by_cases e:x=i
  ·subst e;rw[h]at hd;cases hd;exact⟨c',by rw[if_pos rfl],by rw[g];exact a⟩
  ·exact⟨d,by rw[if_neg e];exact hd,a⟩
def KW.note(p:KW M hs k)(x:Option Int):KW (cg M x).2 hs k:=by
 cases x with
 | none=>exact p
 | some i=>
  unfold cg;dsimp only;cases hc:cellAt M i with
  | none=>exact p
  | some c=>
   dsimp only;split
   ·rename_i z
    obtain⟨z1,h⟩:=z;have h8:=p.fl c (sY hc);obtain⟨o,t,q,j,u,l,n,r,s⟩:=p;obtain⟨nd,h1⟩:=l z1;have f:i∉M.sw.grey:=λm=>by
     obtain⟨d,hd,g⟩:=h1 i m;rw[hc]at hd;cases hd;exact h g
    refine⟨o,t,by show(M.cells.set _ _).length<=_;rw[List.length_set];exact q,j,λd hd=>?_,λ_=>⟨?_,λx hx=>?_⟩,n,r,s⟩
    ·rcases List.mem_or_eq_of_mem_set (show some d∈M.cells.set _ _ from hd)with hd | hd
     ·exact u d hd
     ·cases hd;exact h8
    ·show(M.sw.grey++[i]).Nodup;rw[List.nodup_append];exact⟨nd,by simp,λa v b hb e=>f (by rw[List.mem_singleton.mp hb]at e;rw[<- e];exact v)⟩
    ·have e:=oN (c':={ c with tone:=M.sw.sense }) hc x;show ∃d,cellAt (setCell M i { c with tone:=M.sw.sense }) x=some d/\d.tone=M.sw.sense;rw[e]
     by_cases ex:x=i
     ·exact⟨_,by rw[if_pos ex],rfl⟩
     ·rcases List.mem_append.mp (show x∈M.sw.grey++[i]from hx)with hx | hx
      ·obtain⟨d,hd,g⟩:=h1 x hx;exact⟨d,by rw[if_neg ex];exact hd,g⟩
      ·exact absurd (List.mem_singleton.mp hx) ex
   ·exact p
def KW.notes:∀{l:List (Option Int)}{M:Wm},KW M hs k->KW (aY M l).2 hs k
 | [],_,p=>p
 | x::l,_,p=>KW.notes (l:=l) (p.note x)
def KW.nh(a:Int):∀{l:List (Str×List (Option Int))}{j:Nat}{M:Wm},KW M hs k->KW (jt a l j M).2 hs k
 | [],_,_,p=>p
 | m::l,j,M,p=>by
  unfold jt;split
  ·exact KW.nh a (l:=l) (KW.notes p)
  ·exact KW.nh a (l:=l) p
def KW.put(p:KW M hs k){u b:Int}{c:Ce}(g:c.fl.length<=8):KW { M with used:=u,born:=b,cells:=qz M.cells c } hs (k+1):=by
 obtain⟨f,l,o,n,m,a,e,h,j⟩:=p;refine⟨f,l,?_,by show M.names.length<=_;omega,λd hd=>?_,λph=>?_,e,h,j⟩
 ·have:=Zs3 M.cells c;show(qz M.cells c).length<=_;omega
 ·rcases Zp1 hd with hd | hd
  ·exact m d hd
  ·cases hd;exact g
 ·obtain⟨nd,h1⟩:=a ph;refine⟨nd,λx hx=>?_⟩;obtain⟨d,hd,i⟩:=h1 x hx;exact⟨d,Zj8 hd,i⟩
def Zl5{l:List (Str×(Int×Int))}{z:Str}{v:Int×Int}:(wN l z v).length<=l.length+1:=by
 unfold wN;split
 ·rw[aX];omega
 ·rw[List.length_append];simp
def KW.name(p:KW M hs k){z:Str}{v:Int×Int}:KW { M with names:=wN M.names z v } hs (k+1):=by
 obtain⟨d,a,i,h,c,e,b,f,g⟩:=p;refine⟨d,a,by show M.cells.length<=_;omega,?_,c,e,b,f,g⟩;have:=Zl5 (l:=M.names) (z:=z) (v:=v);show(wN M.names z v).length<=_;omega
def KW.deed(p:KW M hs k){d:pI}{e:Ev}{b:Wm}(o:okR hs d)(h:yV M d=.ok (e,b)):KW b hs (k+1):=by
 have a:k<=k+1:=by omega
 cases d with
 | make hh s many bulk=>
  simp only[yV]at h;split at h
  ·have h2:=(Except.ok.inj h);rw[<- (Prod.mk.inj h2).2];refine KW.slot (KW.put p ?_) _ _ _;show(List.replicate many.toNat none).length<=8;rw[List.length_replicate];have:=o.2.2.1;omega
  ·cases h
 | get hh s t f=>
  simp only[yV]at h;split at h
  ·cases h
  ·split at h
   ·cases h
   ·split at h
    ·cases h
    ·have h2:=(Except.ok.inj h);rw[<- (Prod.mk.inj h2).2];exact(p.slot _ _ _).mono a
 | put hh t f s=>
  simp only[yV]at h;split at h
  ·cases h
  ·split at h
   ·cases h
   ·rename_i c hc
    split at h
    ·cases h
    ·have h2:=(Except.ok.inj h);rw[<- (Prod.mk.inj h2).2];exact(KW.notes (p.cell (c':={ c with fl:=c.fl.set f (aW M hh s) }) hc rfl (by show(List.set _ _ _).length=_;rw[List.length_set]))).mono a
 | copy hh s t=>
  have h2:=(Except.ok.inj h);rw[<- (Prod.mk.inj h2).2];exact(p.slot _ _ _).mono a
 | drop hh s=>
  have h2:=(Except.ok.inj h);rw[<- (Prod.mk.inj h2).2];exact(p.slot _ _ _).mono a
 | give hh s g t=>
  have h2:=(Except.ok.inj h);rw[<- (Prod.mk.inj h2).2];exact(KW.notes (p.slot _ _ _)).mono a
 | write hh t l=>
  simp only[yV]at h;split at h
  ·cases h
  ·split at h
   ·cases h
   ·rename_i c hc
    have h2:=(Except.ok.inj h);rw[<- (Prod.mk.inj h2).2];exact(p.cell (c':={ c with load:=l }) hc rfl rfl).mono a
 | read hh t=>
  simp only[yV]at h;split at h
  ·cases h
  ·split at h
   ·cases h
   ·have h2:=(Except.ok.inj h);rw[<- (Prod.mk.inj h2).2];exact p.mono a
 | name hh t z=>
  simp only[yV]at h;split at h
  ·cases h
  ·split at h
   ·cases h
   ·have h2:=(Except.ok.inj h);rw[<- (Prod.mk.inj h2).2];exact p.name
 | seek hh s z=>
  simp only[yV]at h;split at h
  ·cases h
  ·split at h
   ·have h2:=(Except.ok.inj h);rw[<- (Prod.mk.inj h2).2];exact(p.slot _ _ _).mono a
   ·have h2:=(Except.ok.inj h);rw[<- (Prod.mk.inj h2).2];exact(KW.notes (p.slot _ _ _)).mono a
def KW.step(p:KW M hs k){lb:Int}{lw:List Int}{e:Ev}{u:Wm}(h:vW lb lw M e u):KW u hs k:=by
 cases h with
 | begin ph=>
  refine KW.nh _ ?_;obtain⟨b,l,f,a,m,r,n,o,j⟩:=p;exact⟨b,l,f,a,m,λ_=>⟨List.nodup_nil,λx hx=>(nomatch hx)⟩,.inr (.inl rfl),o,j⟩
 | walk x g c ph s hc=>
  refine KW.notes ?_;obtain⟨b,l,f,a,m,r,n,o,j⟩:=p;refine⟨b,l,f,a,m,λ_=>?_,n,o,j⟩;obtain⟨nd,h1⟩:=r ph;rw[s]at nd h1;exact⟨(List.nodup_cons.mp nd).2,λy hy=>h1 y (List.mem_cons_of_mem _ hy)⟩
 | look N ph s F w=>
  have C:KW N hs k:=by rw[w];exact KW.nh _ p
  obtain⟨b,l,f,a,m,r,n,o,j⟩:=C;exact⟨b,l,f,a,m,r,n,o,j⟩
 | cut q D ph s E A t=>
  obtain⟨b,l,f,a,m,r,n,o,j⟩:=p;exact⟨b,l,f,a,m,λz=>absurd z (show ¬ ("give":Str)="walk" by decide),.inr (.inr (.inl rfl)),Int.le_refl _,j⟩
 | lost q D i x c v ph s E A hx t hc B=>
  obtain⟨b,l,f,a,m,r,n,o,j⟩:=p;exact⟨b,l,f,a,m,λz=>absurd z (show ¬ ("lost":Str)="walk" by decide),.inr (.inr (.inr rfl)),Int.le_refl _,j⟩
 | pass ph lt hp=>
  obtain⟨b,l,f,a,m,r,n,o,j⟩:=p;exact⟨b,l,f,a,m,r,n,by show 0<=M.sw.at'+1;omega,j⟩
 | back c ph lt hc B=>
  obtain⟨b,l,f,a,m,r,n,o,j⟩:=p;refine⟨b,l,by show(M.cells.set _ _).length<=_;rw[List.length_set];exact f,a,λd hd=>?_,λz=>absurd (ph.symm.trans z) (by decide),n,by show 0<=M.sw.at'+1;omega,j⟩;rcases List.mem_or_eq_of_mem_set (show some d∈M.cells.set _ _ from hd)with hd | hd
  ·exact m d hd
  ·cases hd
 | fin ph lt=>
  obtain⟨b,l,f,a,m,r,n,o,j⟩:=p;exact⟨b,l,f,a,m,λz=>absurd z (show ¬ ("rest":Str)="walk" by decide),.inl rfl,o,j⟩
 | again ph=>exact p
def KW.new{room:Int}{w t:Int}(b:0<=t)(h1:t<4):KW (Zdr room hs w t) hs 0:=by
 refine⟨by show(hs.map _).length=_;rw[aX],λi m n a d=>?_,Nat.le_refl _,Nat.le_refl _,λc hc=>(nomatch hc),λz=>absurd z (show ¬ ("rest":Str)="walk" by decide),.inl rfl,Int.le_refl _,⟨b,h1⟩⟩;have a:(hs.map λm=>(m.1,List.replicate m.2.toNat (none:Option Int)))[i]? =some m:=a;rw[cA,d]at a;cases a;exact List.length_replicate
end
inductive Tr where
 | fl:V->Tr
 | ls:List Tr->Tr
 | tp:List Tr->Tr
structure Kp(H H':Hp)(T T':Tg):Prop where
 k:∀b o,H b=some o->(T b).1=0\/6<=(T b).1->H' b=some o
 tg:∀b o,H b=some o->T' b=T b
 al:∀b o,H b=some o->∃o',H' b=some o'
def Kp.same{H H':Hp}{T:Tg}(s:aV H H'):Kp H H' T T:=⟨λb o h _=>s _ _ h,λ_ _ _=>rfl,λb o h=>⟨o,s _ _ h⟩⟩
def Kp.stp{s:Nat}{H H':Hp}{T T':Tg}(st:jw s H H' T T')(n:s≠0/\s<6):Kp H H' T T':=⟨λb o h t=>st.kp b o h (by omega),st.tg,st.al⟩
def Kp.trans{H f d:Hp}{T e c:Tg}(a:Kp H f T e)(b:Kp f d e c):Kp H d T c:=
 ⟨λx o h t=>b.k x o (a.k x o h t) (by rw[a.tg x o h];exact t),λx o h=>by
  obtain⟨o1,h1⟩:=a.al x o h;exact(b.tg x o1 h1).trans (a.tg x o h),λx o h=>by
  obtain⟨o1,h1⟩:=a.al x o h;exact b.al x o1 h1⟩
def Zu9(x:Option Int):qw (oV x)=true:=by cases x<;>rfl
def oK(M:Wm)(i:Int):Bool:=match cellAt M i with
 | none=>false
 | some c=>decide (c.tone≠M.sw.sense)
def ntP(M:Wm):List (Option Int)->List Int->List Int
 | [],acc=>acc
 | none::l,acc=>ntP M l acc
 | some i::l,acc=>if oK M i=true/\i∉acc then ntP M l (acc++[i])else ntP M l acc
def gK(M:Wm):List Int->Wm
 | acc=>acc.foldl (λN i=>(cg N (some i)).2) M
def iH(M:Wm)(i:Int):Int:=((cellAt M i).map (·.birth)).getD 0
section
variable {M:Wm}
def Sx(acc:List Int)(i:Int):gK M (acc++[i])=(cg (gK M acc) (some i)).2:=by
 unfold gK;rw[List.foldl_append];rfl
structure NL(M N:Wm)(acc:List Int):Prop where
 sw:N.sw={ M.sw with grey:=M.sw.grey++acc }
 at_:∀i,cellAt N i=if i∈acc then(cellAt M i).map (λc=>{ c with tone:=M.sw.sense })else cellAt M i
 nt:NtR M N
def Zdh(ph:M.sw.phase="walk"):∀(n:Nat) (acc:List Int),acc.length=n->acc.Nodup->(∀i∈acc,oK M i=true)->NL M (gK M acc) acc:=by
 intro n
 induction n with
 | zero=>
  intro acc hl _ _;rw[List.eq_nil_of_length_eq_zero hl];exact⟨by rw[List.append_nil];rfl,λi=>by rw[if_neg (by simp)];rfl,NtR.refl M⟩
 | succ n r=>
  intro acc hl nd hp;obtain⟨a0,i,rfl⟩:∃a0 i,acc=a0++[i]:=⟨acc.dropLast,acc.getLast (by intro z;rw[z]at hl;cases hl),(List.dropLast_concat_getLast _).symm⟩;rw[List.length_append,List.length_singleton]at hl;rw[List.nodup_append]at nd;obtain⟨l,_,k⟩:=nd;have f:i∉a0:=λz=>k i z i (by simp) rfl;obtain⟨j,o,n1⟩:=r a0 (by omega) l λx hx=>hp x (by simp[hx]);have a:=hp i (by simp);unfold oK at a;cases hc:cellAt M i with
  | none=>rw[hc]at a;cases a
  | some c=>
   rw[hc]at a;have q:c.tone≠M.sw.sense:=decide_eq_true_iff.mp a;have b:cellAt (gK M a0) i=some c:=by rw[o i,if_neg f];exact hc
   have g:(gK M a0).sw.phase="walk":=by rw[j];exact ph
   have d:(gK M a0).sw.sense=M.sw.sense:=by rw[j]
   have p:cg (gK M a0) (some i)=(some c.birth,{ setCell (gK M a0) i { c with tone:=(gK M a0).sw.sense }with sw:={ (gK M a0).sw with grey:=(gK M a0).sw.grey++[i] } }):=by
    unfold cg;dsimp only;rw[b];dsimp only;rw[if_pos ⟨g,by rw[d];exact q⟩]
   rw[Sx];have m:=n1.trans (Zdg (gK M a0) (some i));refine⟨?_,λx=>?_,m⟩
   ·rw[p];show { (gK M a0).sw with grey:=(gK M a0).sw.grey++[i] }=_;rw[j];simp only[List.append_assoc]
   ·rw[p];show cellAt (setCell (gK M a0) i { c with tone:=(gK M a0).sw.sense }) x=_;rw[oN b,d]
    by_cases e:x=i
    ·subst e;rw[if_pos rfl,if_pos (by simp),hc];rfl
    ·rw[if_neg e,o x]
     by_cases h:x∈a0
     ·rw[if_pos h,if_pos (by simp[h])]
     ·rw[if_neg h,if_neg (by simp[h,e])]
def Za6:∀(l:List (Option Int)) (acc:List Int),acc.Nodup->(∀i∈acc,oK M i=true)->(ntP M l acc).Nodup/\∀i∈ntP M l acc,oK M i=true
 | [],acc,h1,h2=>⟨h1,h2⟩
 | none::l,acc,h1,h2=>Za6 l acc h1 h2
 | some i::l,acc,h1,h2=>by
  unfold ntP;split
  ·rename_i z
   refine Za6 l (acc++[i]) ?_ λx hx=>?_
   ·rw[List.nodup_append];exact⟨h1,by simp,λa c b hb e=>z.2 (by rw[List.mem_singleton.mp hb]at e;rw[<- e];exact c)⟩
   ·rcases List.mem_append.mp hx with hx | hx
    ·exact h2 x hx
    ·rw[List.mem_singleton.mp hx];exact z.1
  ·exact Za6 l acc h1 h2
def FJ(ph:M.sw.phase="walk"):∀(l:List (Option Int)) (acc:List Int),acc.Nodup->(∀i∈acc,oK M i=true)->(aY (gK M acc) l).2=gK M (ntP M l acc)/\acc.map (iH M)++(aY (gK M acc) l).1=(ntP M l acc).map (iH M)
 | [],acc,_,_=>⟨rfl,by rw[show(aY (gK M acc) []).1=[]from rfl,List.append_nil];rfl⟩
 | none::l,acc,h1,h2=>by
  have e:aY (gK M acc) (none::l)=aY (gK M acc) l:=by
   show(ofN none++(aY (gK M acc) l).1,(aY (gK M acc) l).2)=_;rfl
  rw[e];exact FJ ph l acc h1 h2
 | some i::l,acc,h1,h2=>by
  have nl:=Zdh ph acc.length acc rfl h1 h2;have j:(gK M acc).sw.phase="walk":=by rw[nl.sw];exact ph
  have d:(gK M acc).sw.sense=M.sw.sense:=by rw[nl.sw]
  have r:aY (gK M acc) (some i::l)=(ofN (cg (gK M acc) (some i)).1++(aY (cg (gK M acc) (some i)).2 l).1,(aY (cg (gK M acc) (some i)).2 l).2):=rfl;rw[r];unfold ntP
  by_cases z:oK M i=true/\i∉acc
  ·rw[if_pos z];obtain⟨z1,o⟩:=z;have n:=z1;unfold oK at z1;cases hc:cellAt M i with
   | none=>rw[hc]at z1;cases z1
   | some c=>
    rw[hc]at z1;have p:c.tone≠M.sw.sense:=decide_eq_true_iff.mp z1;have m:cellAt (gK M acc) i=some c:=by rw[nl.at_ i,if_neg o];exact hc
    have h:(cg (gK M acc) (some i)).1=some c.birth:=by
     unfold cg;dsimp only;rw[m];dsimp only;rw[if_pos ⟨j,by rw[d];exact p⟩]
    have s:(cg (gK M acc) (some i)).2=gK M (acc++[i]):=(Sx acc i).symm;rw[h,s];have nd:(acc++[i]).Nodup:=by
     rw[List.nodup_append];exact⟨h1,by simp,λa t b hb e=>o (by rw[List.mem_singleton.mp hb]at e;rw[<- e];exact t)⟩
    obtain⟨k,g⟩:=FJ ph l (acc++[i]) nd λx hx=>by
     rcases List.mem_append.mp hx with hx | hx
     ·exact h2 x hx
     ·rw[List.mem_singleton.mp hx];exact n
    refine⟨k,?_⟩;rw[<- g,List.map_append];have q:iH M i=c.birth:=by unfold iH;rw[hc];rfl
    simp[ofN,q]
  ·rw[if_neg z];have h:cg (gK M acc) (some i)=(none,gK M acc):=by
    unfold cg;dsimp only;rw[nl.at_ i]
    by_cases f:i∈acc
    ·rw[if_pos f];cases hc:cellAt M i with
     | none=>rfl
     | some c=>
      show(if _ then _ else _)=_;rw[if_neg (λy=>y.2 (by rw[d]))]
    ·rw[if_neg f];cases hc:cellAt M i with
     | none=>rfl
     | some c=>
      have:¬ oK M i=true:=λy=>z ⟨y,f⟩;unfold oK at this;rw[hc]at this;show(if _ then _ else _)=_;rw[if_neg (λy=>this (decide_eq_true (by rw[<- d];exact y.2)))]
   rw[h];obtain⟨k,g⟩:=FJ ph l acc h1 h2;exact⟨k,by simpa[ofN]using g⟩
end
structure TB(w0:Int)(M:Wm):Prop where
 bu:∀i j c d,cellAt M i=some c->cellAt M j=some d->c.birth=d.birth->i=j
 bn:∀i c,cellAt M i=some c->1<=c.birth/\c.birth<=M.born
 b0:0<=M.born
 se:M.sw.sense=0\/M.sw.sense=1
 tn:∀i c,cellAt M i=some c->c.tone=0\/c.tone=1
 rs:M.sw.phase="rest"->∀i c,cellAt M i=some c->c.tone=M.sw.sense
 gv:M.sw.phase="give"->∀i c,cellAt M i=some c->c.tone≠M.sw.sense->M.sw.at'<=i/\i<M.sw.stop
 ww:M.w=w0
structure Sb(M M':Wm):Prop where
 ce:∀i,(cellAt M' i).map (·.birth)=(cellAt M i).map (·.birth)
 tn:∀i c c',cellAt M i=some c->cellAt M' i=some c'->c'.tone=c.tone\/(M.sw.phase="walk"/\c'.tone=M.sw.sense)
 bn:M'.born=M.born
 se:M'.sw.sense=M.sw.sense
 ph:M'.sw.phase=M.sw.phase
 at_:M'.sw.at'=M.sw.at'
 st:M'.sw.stop=M.sw.stop
 ww:M'.w=M.w
section
variable {M M':Wm}{w0:Int}
def Sb.get(h:Sb M M'){i:Int}{c':Ce}(e:cellAt M' i=some c'):∃c,cellAt M i=some c/\c'.birth=c.birth/\(c'.tone=c.tone\/(M.sw.phase="walk"/\c'.tone=M.sw.sense)):=by
 have h1:=h.ce i;rw[e]at h1;cases hc:cellAt M i with
 | none=>rw[hc]at h1;cases h1
 | some c=>
  rw[hc]at h1;exact⟨c,rfl,Option.some.inj h1,h.tn i c c' hc e⟩
def Sb.zb(h:M'.cells=M.cells)(bn:M'.born=M.born)(se:M'.sw.sense=M.sw.sense)(ph:M'.sw.phase=M.sw.phase)(at_:M'.sw.at'=M.sw.at')(st:M'.sw.stop=M.sw.stop)(ww:M'.w=M.w):Sb M M':=by
 have e:∀i,cellAt M' i=cellAt M i:=λi=>by unfold cellAt;rw[h]
 exact⟨λi=>by rw[e],λi c c' h1 h2=>by rw[e,h1]at h2;cases h2;exact .inl rfl,bn,se,ph,at_,st,ww⟩
def Sb.refl(M:Wm):Sb M M:=Sb.zb rfl rfl rfl rfl rfl rfl rfl
def Sb.trans{d:Wm}(a:Sb M M')(b:Sb M' d):Sb M d:=by
 refine⟨λi=>(b.ce i).trans (a.ce i),λi c f h1 h2=>?_,b.bn.trans a.bn,b.se.trans a.se,b.ph.trans a.ph,b.at_.trans a.at_,b.st.trans a.st,b.ww.trans a.ww⟩;obtain⟨e,h3,_,h4⟩:=b.get h2;have h5:=a.tn i c e h1 h3;rw[a.ph,a.se]at h4;rcases h4 with h4 | h4
 ·rcases h5 with h5 | h5
  ·exact .inl (h4.trans h5)
  ·exact .inr ⟨h5.1,h4.trans h5.2⟩
 ·exact .inr h4
def Sb.slot(M:Wm)(h s:Nat)(x:Option Int):Sb M (setSlot M h s x):=Sb.zb rfl rfl rfl rfl rfl rfl rfl
def Sb.cell{i:Int}{c c':Ce}(h:cellAt M i=some c)(hb:c'.birth=c.birth)(a:c'.tone=c.tone\/(M.sw.phase="walk"/\c'.tone=M.sw.sense)):Sb M (setCell M i c'):=by
 refine⟨λx=>?_,λx d d' h1 h2=>?_,rfl,rfl,rfl,rfl,rfl,rfl⟩
 ·rw[oN h]
  by_cases e:x=i
  ·subst e;rw[if_pos rfl,h];exact congrArg some hb
  ·rw[if_neg e]
 ·rw[oN h]at h2
  by_cases e:x=i
  ·subst e;rw[if_pos rfl]at h2;rw[h]at h1;cases h1;cases h2;exact a
  ·rw[if_neg e,h1]at h2;cases h2;exact .inl rfl
def Sb.note(M:Wm)(x:Option Int):Sb M (cg M x).2:=by
 cases x with
 | none=>exact Sb.refl M
 | some i=>
  unfold cg;dsimp only;cases hc:cellAt M i with
  | none=>exact Sb.refl M
  | some c=>
   dsimp only;split
   ·rename_i z
    exact(Sb.cell (c':={ c with tone:=M.sw.sense }) hc rfl (.inr ⟨z.1,rfl⟩)).trans (Sb.zb rfl rfl rfl rfl rfl rfl rfl)
   ·exact Sb.refl M
def Sb.notes:∀(l:List (Option Int)) (M:Wm),Sb M (aY M l).2
 | [],M=>Sb.refl M
 | x::l,M=>(Sb.note M x).trans (Sb.notes l _)
def Sb.nh(a:Int):∀(l:List (Str×List (Option Int))) (j:Nat) (M:Wm),Sb M (jt a l j M).2
 | [],_,M=>Sb.refl M
 | m::l,j,M=>by
  unfold jt;split
  ·exact(Sb.notes m.2 M).trans (Sb.nh a l (j+1) _)
  ·exact Sb.nh a l (j+1) M
def TB.sb(p:TB w0 M)(h:Sb M M'):TB w0 M':=by
 refine⟨λi j c d h1 h2 e=>?_,λi c h1=>?_,by rw[h.bn];exact p.b0,by rw[h.se];exact p.se,λi c h1=>?_,λph i c h1=>?_,λph i c h1 f=>?_,by rw[h.ww];exact p.ww⟩
 ·obtain⟨b,a,g,_⟩:=h.get h1;obtain⟨m,l,k,_⟩:=h.get h2;exact p.bu i j b m a l (by rw[<- g,<- k];exact e)
 ·obtain⟨b,a,g,_⟩:=h.get h1;rw[g,h.bn];exact p.bn i b a
 ·obtain⟨b,a,_,t1⟩:=h.get h1;rcases t1 with t1 | t1
  ·rw[t1];exact p.tn i b a
  ·rw[t1.2];exact p.se
 ·obtain⟨b,a,_,t1⟩:=h.get h1;rw[h.ph]at ph;rw[h.se];rcases t1 with t1 | t1
  ·rw[t1];exact p.rs ph i b a
  ·exact t1.2
 ·obtain⟨b,a,_,t1⟩:=h.get h1;rw[h.ph]at ph;rw[h.se]at f;rw[h.at_,h.st];rcases t1 with t1 | t1
  ·exact p.gv ph i b a (by rw[<- t1];exact f)
  ·exact absurd t1.2 f
def lq{x u b:Int}{c d:Ce}(h:cellAt { M with used:=u,born:=b,cells:=qz M.cells c } x=some d):(x=mJ M.cells/\d=c)\/cellAt M x=some d:=by
 obtain⟨g,h1⟩:=dm.mp h;have h1:(qz M.cells c)[x.toNat]? =some (some d):=h1
 by_cases z:x.toNat=mJ M.cells
 ·rw[z,Qz]at h1;cases h1;exact .inl ⟨by omega,rfl⟩
 ·refine .inr (dm.mpr ⟨g,?_⟩);unfold qz at h1;split at h1
  ·rw[List.getElem?_set_ne (λe=>z e.symm)]at h1;exact h1
  ·rename_i y
   rw[List.getElem?_append]at h1;split at h1
   ·exact h1
   ·rename_i i
    have a:=(dH h1).1;have f:=Zb5 M.cells;have:x.toNat - M.cells.length<1:=a;omega
def TB.put(p:TB w0 M){u:Int}{c:Ce}(hb:c.birth=M.born+1)(b:c.tone=M.sw.sense):TB w0 { M with used:=u,born:=M.born+1,cells:=qz M.cells c }:=by
 have b0:=p.b0;refine⟨λi j d e h1 h2 f=>?_,λi d h1=>?_,by show 0<=M.born+1;omega,p.se,λi d h1=>?_,λph i d h1=>?_,λph i d h1 hp=>?_,p.ww⟩
 ·rcases lq h1 with ⟨z1,a⟩ | z1
  ·rcases lq h2 with ⟨y1,g⟩ | y1
   ·rw[z1,y1]
   ·have:=p.bn j e y1;rw[a,hb]at f;omega
  ·rcases lq h2 with ⟨y1,g⟩ | y1
   ·have:=p.bn i d z1;rw[g,hb]at f;omega
   ·exact p.bu i j d e z1 y1 f
 ·show 1<=d.birth/\d.birth<=M.born+1;rcases lq h1 with ⟨z1,a⟩ | z1
  ·rw[a,hb];omega
  ·have:=p.bn i d z1;omega
 ·rcases lq h1 with ⟨z1,a⟩ | z1
  ·rw[a,b];exact p.se
  ·exact p.tn i d z1
 ·rcases lq h1 with ⟨z1,a⟩ | z1
  ·rw[a];exact b
  ·exact p.rs ph i d z1
 ·rcases lq h1 with ⟨z1,a⟩ | z1
  ·rw[a]at hp;exact absurd b hp
  ·exact p.gv ph i d z1 hp
def TB.deed(p:TB w0 M){d:pI}{e:Ev}(h:yV M d=.ok (e,M')):TB w0 M':=by
 cases d with
 | make hh s many bulk=>
  simp only[yV]at h;split at h
  ·have h2:=(Except.ok.inj h);rw[<- (Prod.mk.inj h2).2];exact(TB.put p (c:=⟨M.born+1,bulk,M.sw.sense,0,List.replicate many.toNat none⟩) rfl rfl).sb (Sb.slot _ _ _ _)
  ·cases h
 | get hh s t f=>
  simp only[yV]at h;split at h
  ·cases h
  ·split at h
   ·cases h
   ·split at h
    ·cases h
    ·have h2:=(Except.ok.inj h);rw[<- (Prod.mk.inj h2).2];exact p.sb (Sb.slot _ _ _ _)
 | put hh t f s=>
  simp only[yV]at h;split at h
  ·cases h
  ·split at h
   ·cases h
   ·rename_i c hc
    split at h
    ·cases h
    ·have h2:=(Except.ok.inj h);rw[<- (Prod.mk.inj h2).2];exact p.sb ((Sb.cell (c':={ c with fl:=c.fl.set f (aW M hh s) }) hc rfl (.inl rfl)).trans (Sb.notes _ _))
 | copy hh s t=>
  have h2:=(Except.ok.inj h);rw[<- (Prod.mk.inj h2).2];exact p.sb (Sb.slot _ _ _ _)
 | drop hh s=>
  have h2:=(Except.ok.inj h);rw[<- (Prod.mk.inj h2).2];exact p.sb (Sb.slot _ _ _ _)
 | give hh s g t=>
  have h2:=(Except.ok.inj h);rw[<- (Prod.mk.inj h2).2];exact p.sb ((Sb.slot _ _ _ _).trans (Sb.notes _ _))
 | write hh t l=>
  simp only[yV]at h;split at h
  ·cases h
  ·split at h
   ·cases h
   ·rename_i c hc
    have h2:=(Except.ok.inj h);rw[<- (Prod.mk.inj h2).2];exact p.sb (Sb.cell (c':={ c with load:=l }) hc rfl (.inl rfl))
 | read hh t=>
  simp only[yV]at h;split at h
  ·cases h
  ·split at h
   ·cases h
   ·have h2:=(Except.ok.inj h);rw[<- (Prod.mk.inj h2).2];exact p
 | name hh t z=>
  simp only[yV]at h;split at h
  ·cases h
  ·split at h
   ·cases h
   ·have h2:=(Except.ok.inj h);rw[<- (Prod.mk.inj h2).2];exact p.sb (Sb.zb rfl rfl rfl rfl rfl rfl rfl)
 | seek hh s z=>
  simp only[yV]at h;split at h
  ·cases h
  ·split at h
   ·have h2:=(Except.ok.inj h);rw[<- (Prod.mk.inj h2).2];exact p.sb (Sb.slot _ _ _ _)
   ·have h2:=(Except.ok.inj h);rw[<- (Prod.mk.inj h2).2];exact p.sb ((Sb.slot _ _ _ _).trans (Sb.notes _ _))
def TB.step(p:TB w0 M){lb:Int}{lw:List Int}{e:Ev}(h:vW lb lw M e M'):TB w0 M':=by
 cases h with
 | begin ph=>
  refine TB.sb ?_ (Sb.nh _ _ _ _);obtain⟨b,l,f,n,m,s,o,k⟩:=p;exact⟨b,l,f,by show 1 - M.sw.sense=0\/1 - M.sw.sense=1;omega,m,λz=>absurd z (show ¬ ("walk":Str)="rest" by decide),λz=>absurd z (show ¬ ("walk":Str)="give" by decide),k⟩
 | walk x g c ph t hc=>
  have a:Sb M { M with sw:={ M.sw with grey:=g,walks:=M.sw.walks+1 } }:=Sb.zb rfl rfl rfl rfl rfl rfl rfl;exact p.sb (a.trans (Sb.notes c.fl _))
 | look N ph t H A=>
  subst A;exact p.sb ((Sb.nh _ _ _ _).trans (Sb.zb rfl rfl rfl rfl rfl rfl rfl))
 | cut q D ph t F B y=>
  obtain⟨b,l,f,n,m,s,o,k⟩:=p;exact⟨b,l,f,n,m,λz=>absurd z (show ¬ ("give":Str)="rest" by decide),λ_ i c hc _=>Yl (M:=M) hc,k⟩
 | lost q D i x c v ph t F B hx y hc r=>
  obtain⟨b,l,f,n,m,s,o,k⟩:=p;exact⟨b,l,f,n,m,λz=>absurd z (show ¬ ("lost":Str)="rest" by decide),λz=>absurd z (show ¬ ("lost":Str)="give" by decide),k⟩
 | pass ph lt hp=>
  obtain⟨b,l,f,n,m,s,o,k⟩:=p;refine⟨b,l,f,n,m,s,λ_ i c hc r=>?_,k⟩;have h1:=o ph i c hc r;have h2:i≠M.sw.at':=λz=>r (hp c (by rw[<- z];exact hc));show M.sw.at'+1<=i/\i<M.sw.stop;omega
 | back c ph lt hc r=>
  obtain⟨b,l,f,n,m,s,o,k⟩:=p;have gt:∀(u:Int) (w:Sw) (i:Int) (d:Ce),cellAt { M with used:=u,cells:=M.cells.set M.sw.at'.toNat none,sw:=w } i=some d->i≠M.sw.at'/\cellAt M i=some d:=λu w i d hd=>by
   obtain⟨E,h1⟩:=dm.mp hd;have h1:(M.cells.set M.sw.at'.toNat none)[i.toNat]? =some (some d):=h1;obtain⟨k0,k1⟩:=dm.mp hc
   by_cases z:M.sw.at'.toNat=i.toNat
   ·rw[z,List.getElem?_set_self (by rw[<- z];exact(dH k1).1)]at h1;cases h1
   ·rw[List.getElem?_set_ne z]at h1;exact⟨λe=>z (by rw[e]),dm.mpr ⟨E,h1⟩⟩
  refine⟨λi j d e h1 h2 C=>b i j d e (gt _ _ i d h1).2 (gt _ _ j e h2).2 C,λi d h1=>l i d (gt _ _ i d h1).2,f,n,λi d h1=>m i d (gt _ _ i d h1).2,λz=>absurd (ph.symm.trans z) (by decide),λ_ i d h1 hp=>?_,k⟩;obtain⟨n1,n2⟩:=gt _ _ i d h1;have h3:=o ph i d n2 hp;show M.sw.at'+1<=i/\i<M.sw.stop;omega
 | fin ph lt=>
  obtain⟨b,l,f,n,m,s,o,k⟩:=p;refine⟨b,l,f,n,m,λ_ i c hc=>?_,λz=>absurd z (show ¬ ("rest":Str)="give" by decide),k⟩;refine Decidable.byContradiction λr=>?_;have h1:=o ph i c hc r;omega
 | again ph=>exact p
def TB.new{room:Int}{hs:Px}{w t:Int}:TB w (Zdr room hs w t):=by
 have e:∀i c,cellAt (Zdr room hs w t) i=some c->False:=λi c h=>nomatch sY h;exact⟨λi _ c _ h=>(e i c h).elim,λi c h=>(e i c h).elim,Int.le_refl _,.inl rfl,λi c h=>(e i c h).elim,λ_ i c h=>(e i c h).elim,λ_ i c h=>(e i c h).elim,rfl⟩
end
def nT(P:Int->Bool):List (Option Int)->List Int->List Int
 | [],acc=>acc
 | none::l,acc=>nT P l acc
 | some b::l,acc=>if P b=true/\b∉acc then nT P l (acc++[b])else nT P l acc
section
variable {M:Wm}
def Bv{i:Int}{c:Ce}(h:cellAt M i=some c):iH M i=c.birth:=by unfold iH;rw[h];rfl
def wX(bu:∀i j c d,cellAt M i=some c->cellAt M j=some d->c.birth=d.birth->i=j){acc:List Int}(b:∀i∈acc,∃c,cellAt M i=some c){i:Int}{c:Ce}(h:cellAt M i=some c):c.birth∈acc.map (iH M)↔i∈acc:=by
 constructor
 ·intro hm;obtain⟨j,a,e⟩:=List.mem_map.mp hm;obtain⟨d,hd⟩:=b j a;rw[Bv hd]at e;rw[bu i j c d h hd e.symm];exact a
 ·intro hm;rw[<- Bv h];exact List.mem_map_of_mem hm
def Dw(bu:∀i j c d,cellAt M i=some c->cellAt M j=some d->c.birth=d.birth->i=j){P:Int->Bool}(a:∀i c,cellAt M i=some c->P c.birth=oK M i):∀(l:List (Option Int)) (acc:List Int),(∀i∈acc,∃c,cellAt M i=some c)->nT P (l.map (vV M)) (acc.map (iH M))=(ntP M l acc).map (iH M)
 | [],acc,_=>rfl
 | none::l,acc,h=>Dw bu a l acc h
 | some i::l,acc,h=>by
  cases hc:cellAt M i with
  | none=>
   have e:vV M (some i)=none:=by show(cellAt M i).map _=_;rw[hc];rfl
   have z:oK M i=false:=by unfold oK;rw[hc]
   rw[List.map_cons,e];unfold ntP;rw[if_neg (by rw[z];simp)];exact Dw bu a l acc h
  | some c=>
   have e:vV M (some i)=some c.birth:=by show(cellAt M i).map _=_;rw[hc];rfl
   rw[List.map_cons,e];unfold ntP nT;rw[a i c hc]
   by_cases z:oK M i=true/\i∉acc
   ·rw[if_pos z,if_pos ⟨z.1,λy=>z.2 ((wX bu h hc).mp y)⟩];have f:acc.map (iH M)++[c.birth]=(acc++[i]).map (iH M):=by rw[List.map_append,List.map_singleton,Bv hc]
    rw[f];refine Dw bu a l (acc++[i]) λx hx=>?_;rcases List.mem_append.mp hx with hx | hx
    ·exact h x hx
    ·rw[List.mem_singleton.mp hx];exact⟨c,hc⟩
   ·rw[if_neg z,if_neg (λy=>z ⟨y.1,λb=>y.2 ((wX bu h hc).mpr b)⟩)];exact Dw bu a l acc h
def Fx(P:Int->Bool):∀(a b:List (Option Int)) (acc:List Int),nT P (a++b) acc=nT P b (nT P a acc)
 | [],_,_=>rfl
 | none::a,b,acc=>Fx P a b acc
 | some x::a,b,acc=>by
  show(if _ then nT P (a++b) _ else nT P (a++b) _)=nT P b (if _ then _ else _);split
  ·exact Fx P a b _
  ·exact Fx P a b _
end
def Zkl(K:aB):Sp:=λvs H Q E=>∃a,vs=[.ref a]/\∃ns:List Int,cj K H a (ns.map V.int)/\ns.length<=63/\∀H',Q (.bl true) H'
def Q5(X:Cs)(rf:Rf->Addr):Sp:=λvs H Q E=>∃wo dd,vs=[.ref wo,.ref dd]/\∃T s A M d,WT H T/\s≠0/\WJ X H T s A M/\A.wo=wo/\H dd=some (.tup (dV d))/\okD M d/\M.cells.length<=900/\(M.sw.phase="walk"->M.sw.grey.length<=10000)/\(0<=M.tells/\M.tells<4)/\M.names.length<=1000/\
 (∀r,yV M d=.error r->∀H',aV H H'->Q .non H')/\
 (∀e c,yV M d=.ok (e,c)->∀H' T' b a,jw s H H' T T'->WJ X H' T' s b c->b.wo=wo->EvN H H' a e->Q (.ref a) H')
section
def Zbz{wo dd CE h f g:Addr}(z:rf .empty=CE)(i:rf .tR=h)(m:rf .full=f)(o:rf .SJ=g)(q:∃T s A M d,WT H T/\s≠0/\WJ X H T s A M/\A.wo=wo/\H dd=some (.tup (dV d))/\okD M d/\M.cells.length<=900/\(M.sw.phase="walk"->M.sw.grey.length<=10000)/\(0<=M.tells/\M.tells<4)/\M.names.length<=1000/\
 (∀r,yV M d=.error r->∀H',aV H H'->Q .non H')/\
 (∀e c,yV M d=.ok (e,c)->∀H' T' b a,jw s H H' T T'->WJ X H' T' s b c->b.wo=wo->EvN H H' a e->Q (.ref a) H')):
  Ao CE f h g (ZJ3 X rf) ⟨n,Q,bk,ct⟩ [some (.ref wo),some (.ref dd),none] H:=by
 obtain⟨T,s,A,M,d,w,y,j,rfl,x,od,hc,t,tl,nm,h1,h2⟩:=q;unfold Ao;walk_at"e";refine⟨_,dd,rfl,T,s,A,M,d,trivial,w,y,j,rfl,x,od,hc,t,tl,nm,λr u H' sm=>?_,λe c k H' T' b a st l p v=>?_⟩
 ·refine⟨?_,?_⟩
  ·cases r
   ·exact .inr (.inr (.inl (by rw[m])))
   ·exact .inl (by rw[z])
   ·exact .inr (.inl (by rw[i]))
   ·exact .inr (.inr (.inr (by rw[o])))
  ·walk_at"e";exact h1 r u H' sm
 ·walk_at"e";exact h2 e c k H' T' b a st l p v
end
def RwO(H:Hp)(l:Addr)(a:List (List (Option Int))):Prop:=∃ls:List Addr,H l=some (.lst (ls.map V.ref))/\ls.length=a.length/\∀(j:Nat) r x,ls[j]? =some r->a[j]? =some x->H r=some (.lst (x.map oV))
def yZ(P:Int->Bool):∀(l:List (Option Int)) (acc:List Int),(nT P l acc).length<=acc.length+l.length
 | [],acc=>Nat.le_refl _
 | none::l,acc=>by have:=yZ P l acc;rw[List.length_cons];show(nT P l acc).length<=_;omega
 | some b::l,acc=>by
  unfold nT;rw[List.length_cons];split
  ·have:=yZ P l (acc++[b]);rw[List.length_append,List.length_singleton]at this;omega
  ·have:=yZ P l acc;omega
def Zh3(P:Int->Bool)(a:List (Option Int))(x:Option Int)(acc:List Int):nT P (a++[x]) acc=nT P [x] (nT P a acc):=Fx P a [x] acc
def Zk3{b:Int}{l:List Int}:inV (.int b) (l.map V.int)=decide (b∈l):=Zed
def MkO(H:Hp)(d:Addr)(f:Int->Option V)(k:Nat):Prop:=∃a:List (L2.Key×V),H d=some (.dK a)/\a.length<=k/\∀b:Int,nZ a (Sum.inl b)=f b
def MkO.get{H:Hp}{d:Addr}{f:Int->Option V}{k:Nat}(h:MkO H d f k){b:Int}{v:V}(e:f b=some v):Og H d (.int b) (some v):=by
 obtain⟨a,h1,_,h2⟩:=h;have:=Og.k (k:=Sum.inl b) h1;rw[h2 b,e]at this;exact this
def MkO.put{H:Hp}{d:Addr}{f:Int->Option V}{k:Nat}(h:MkO H d f k)(hk:k<=100000)(b:Int)(v:V):∃H',W5 H d (.int b) v H'/\MkO H' d (λx=>if x=b then some v else f x) (k+1)/\∃o,H'=upd H d o:=by
 obtain⟨a,h1,h3,h2⟩:=h;refine⟨_,W5.k (k:=Sum.inl b) (v:=v) h1 (Nat.lt_of_le_of_lt h3 (Nat.lt_of_le_of_lt hk (by decide))),⟨_,aq,?_,λx=>?_⟩,_,rfl⟩
 ·have:=Ep a (Sum.inl b) v;omega
 ·rw[Zn0,h2 x];dsimp only
  by_cases e:x=b
  ·rw[if_pos e,if_pos (by rw[e])]
  ·rw[if_neg e,if_neg (λz=>e (Sum.inl.inj z))]
def MkO.same{H H':Hp}{d:Addr}{f:Int->Option V}{k:Nat}(s:aV H H')(h:MkO H d f k):MkO H' d f k:=by
 obtain⟨a,h1,h3,h2⟩:=h;exact⟨a,s _ _ h1,h3,h2⟩
def TpO(H:Hp)(l:Addr)(a:List (Int×Int)):Prop:=∃ls:List Addr,H l=some (.lst (ls.map V.ref))/\ls.length=a.length/\∀(j:Nat) r x,ls[j]? =some r->a[j]? =some x->∃xs,H r=some (.tup (.int x.1::.int x.2::xs))
def dictOf(a:List (Int×Int))(b:Int):Option V:=(a.reverse.find? λx=>decide (x.2=b)).map λx=>V.int x.1
def Zez(a:List (Int×Int))(x:Int×Int)(b:Int):dictOf (a++[x]) b=if b=x.2 then some (.int x.1)else dictOf a b:=by
 unfold dictOf;rw[List.reverse_append,List.reverse_singleton,List.singleton_append,List.find?_cons]
 by_cases e:b=x.2
 ·rw[if_pos e,decide_eq_true e.symm];rfl
 ·rw[if_neg e,decide_eq_false (λz=>e z.symm)]
def ZAf{x:V}{xs:List V}:Uy (x::xs) 0=some x:=iI (show(x::xs)[0]? =some x from rfl)
def ZJ0{x y:V}{xs:List V}:Uy (x::y::xs) 1=some y:=iI (show(x::y::xs)[1]? =some y from rfl)
def Vn(ps:List Int):(List.range ps.length).filterMap (λ(i:Nat)=>(ps[i]?).map V.int)=ps.map V.int:=by
 have e:(λ(i:Nat)=>(ps[i]?).map V.int)=λ(i:Nat)=>ps[i]?.bind (some ∘ V.int):=by funext i;cases ps[i]?<;>rfl
 rw[e,Qq,List.filterMap_eq_map]
def Z11q (H:Hp)(l:Addr)(m:Addr)(Q:VK):Prop:=∃(c:List (Int×Int)) (bs ps:List Int),TpO H l c/\c.length<=1000/\H m=some (.lst (bs.map V.int))/\bs.length<=4000/\ps.length=bs.length/\(∀(j:Nat) b p,bs[j]? =some b->ps[j]? =some p->dictOf c b=some (.int p))/\
 ∀a H',aV H H'->H a=none->H' a=some (.lst (ps.map V.int))->Q (.ref a) H'
def tD(K:aB):Sp:=λvs H Q E=>∃l m,vs=[.ref l,.ref m]/\Z11q H l m Q
section
def Uo{l m:Addr}(q:Z11q H l m Q):vG K ⟨n,Q,bk,ct⟩ [some (.ref l),some (.ref m),none,none] H:=by
 obtain⟨e,bs,ps,⟨ls,o1,hl,o2⟩,hb,om,I,w,hd,q⟩:=q;unfold vG;walk_at"e";intro d nd;have v:=aL nd (.dK []);have A:MkO (upd H d (.dK [])) d (dictOf []) 0:=⟨[],aq,Nat.le_refl _,λb=>rfl⟩;generalize upd H d (.dK [])=N at v A ⊢;walk_at"e";refine⟨l,rfl,⟨_,cj.of (v _ _ o1)⟩,forL (ls.map V.ref) (λi σ k=>∃u,σ=[some (.ref l),some (.ref m),some (.ref d),u]/\aV H k/\MkO k d (dictOf (e.take i)) i) ⟨_,rfl,v,A⟩ (λ_ _ _ _ ⟨_,_,z,_⟩=>cj.of (z _ _ o1)) ?_ ?_⟩
 ·rintro i y σ k hy ⟨u,rfl,g,j⟩;rw[cA]at hy;obtain⟨r,hr,rfl⟩:=Option.map_eq_some_iff.mp hy;have D:i<ls.length:=(dH hr).1;obtain⟨x,hx⟩:∃x,e[i]? =some x:=⟨_,bK (by omega)⟩;have s:e.take (i+1)=e.take i++[x]:=by rw[List.take_add_one,hx];rfl
  obtain⟨xs,f⟩:=o2 i r x hr hx;have f:=g _ _ f;walk_at"e";refine⟨r,_,0,_,rfl,rfl,fZ.of f,ZAf,?_⟩;walk_at"e";refine⟨r,_,1,_,rfl,rfl,fZ.of f,ZJ0,?_⟩;obtain⟨F,J,C,o,E⟩:=j.put (by omega) x.2 (.int x.1);refine⟨d,F,rfl,J,?_⟩;refine⟨_,rfl,λc M hc=>?_,?_⟩
  ·rw[E,aC (aD hc nd)];exact g _ _ hc
  ·rw[s];obtain⟨t,k1,k2,L⟩:=C;exact⟨t,k1,k2,λb=>by rw[L b,Zez]⟩
 ·rintro σ k ⟨u,rfl,g,j⟩;rw[aX,List.take_of_length_le (by omega)]at j;walk_at"e";refine J7 ?_;walk_at"e";refine⟨_,rfl,⟨_,cj.of (g _ _ om)⟩,?_⟩;refine QK (cj.of (g _ _ om)) (λi=>(ps[i]?).map V.int) (by rw[aX];omega) (λi x hx=>?_) ?_
  ·rw[cA]at hx;obtain⟨b,h,rfl⟩:=Option.map_eq_some_iff.mp hx;have D:i<bs.length:=(dH h).1;obtain⟨p,hp⟩:∃p,ps[i]? =some p:=⟨_,bK (by omega)⟩;refine⟨λq hq=>?_,λy q hy hq=>?_⟩
   ·rw[hp]at hq;exact Bs hq
   ·rw[hp]at hy;cases hy;walk_at"c";walk_at"e";exact⟨d,_,rfl,j.get (hd i b p h hp),hq⟩
  ·intro a B;rw[aX,<- w,Vn];exact q a _ (g.trans (aL B _)) (g.free B) aq
end
def stL(S:Sw):List Int:=[S.sense,S.turn,S.looked,S.walks,S.looks,S.passes]
def vX(X:Cs):Sp:=λvs H Q E=>∃sw,vs=[.ref sw]/\∃T s A M,WJ X H T s A M/\A.sw=sw/\M.sw.grey.length<=10000/\∀a H',aV H H'->H a=none->H' a=some (.lst ((stL M.sw).map V.int))->Q (.ref a) H'
structure Tc where
 p:Int
 b:Int
 bulk:Int
 load:Int
 fs:List (Option Int)
 tone:Str
def Tc1(H:Hp)(r f:Addr)(x:Tc):Prop:=H r=some (.tup [.int x.p,.int x.b,.int x.bulk,.int x.load,.ref f,.str x.tone])/\H f=some (.lst (x.fs.map oV))
def CtO(H:Hp)(l:Addr)(a:List Tc):Prop:=∃ls:List Addr,H l=some (.lst (ls.map V.ref))/\ls.length=a.length/\∀(j:Nat) r x,ls[j]? =some r->a[j]? =some x->∃f,Tc1 H r f x
def Z12q (H:Hp)(g:Addr)(l:Addr)(d:Addr)(Q:VK):Prop:=∃(a e:List Tc) (f:Int->Option V) (k:Nat),CtO H g e/\CtO H l a/\MkO H d f k/\e.length=a.length/\a.length<=1000/\(∀(j:Nat) x c,a[j]? =some x->e[j]? =some c->c.p=x.p/\c.b=x.b/\c.bulk=x.bulk/\c.load=x.load/\c.fs=x.fs/\f x.b=some (.str c.tone))/\
 ∀H',aV H H'->Q (.bl true) H'
def tE(K:aB):Sp:=λvs H Q E=>∃a l d,vs=[.ref a,.ref l,.ref d]/\Z12q H a l d Q
def Zk7(l:List (Option Int)):(l.map oV).all qw=true:=by
 rw[List.all_eq_true];intro v hv;obtain⟨x,_,rfl⟩:=List.mem_map.mp hv;exact Zu9 x
section
def WL{sw:Addr}(c:qC K X)(q:∃T s A M,WJ X H T s A M/\A.sw=sw/\M.sw.grey.length<=10000/\∀a H',aV H H'->H a=none->H' a=some (.lst ((stL M.sw).map V.int))->Q (.ref a) H'):yg K vY ⟨n,Q,bk,ct⟩ [some (.ref sw),none,none] H:=by
 obtain⟨T,s,A,M,j,rfl,E,q⟩:=q;obtain⟨ds,os⟩:=j.js.os;have og:=j.js.og;unfold yg;walk_at"e";refine aH os c.cS c.n1 nJ ?_;walk_at"e";refine aH os c.cS c.n5 qD ?_;walk_at"e";refine aH os c.cS c.n4 iJ ?_;walk_at"e";refine⟨aU (by simp),λt n1=>?_⟩;generalize zz:upd H t _=H1;obtain⟨l,B⟩:=nwO n1 zz;have f:=l _ _ os;walk_at"e";refine aH f c.cS c.n8 uz ?_;walk_at"e";refine aH f c.cS c.n9 pK ?_;walk_at"e";refine aH f c.cS c.n10 rK ?_;walk_at"e";refine⟨aU (by simp),λu n2=>?_⟩;generalize zz:upd H1 u _=H2;obtain⟨o,z⟩:=nwO n2 zz;have h:=o _ _ B;walk_at"e";refine⟨t,u,_,_,rfl,rfl,h,z,aU (by simp),λa n3=>?_⟩;rw[show([V.int M.sw.sense,.int M.sw.turn,.int M.sw.looked]++[V.int M.sw.walks,.int M.sw.looks,.int M.sw.passes])=(stL M.sw).map V.int from rfl];generalize zz:upd H2 a _=H3;obtain⟨C,r⟩:=nwO n3 zz;have d:=l.trans (o.trans C);have D:H a=none:=l.free (o.free n3);walk_at"e";refine aH (d _ _ os) c.cS c.n3 jj ?_;walk_at"e";refine⟨a,A.gr,_,_,rfl,rfl,r,d _ _ og,by rw[aX,aX];exact aU (by show 6+_<=_;omega),λb n4=>?_⟩;rw[<- List.map_append];generalize zz:upd H3 b _=H4;obtain⟨p,w⟩:=nwO n4 zz;have i:=p _ _ r;have m:=d.trans p;refine⟨b,rfl,⟨_,cj.of w⟩,forL ((stL M.sw++M.sw.grey).map V.int) (λ_ σ g=>∃v,σ=[some (.ref A.sw),some (.ref a),v]/\g=H4) ⟨_,rfl,rfl⟩ (λ_ _ _ _ ⟨_,_,e⟩=>by rw[e];exact cj.of w) ?_ ?_⟩
 ·rintro k x σ g hk ⟨v,rfl,rfl⟩;obtain⟨y,_,rfl⟩:=List.mem_map.mp (List.mem_of_getElem? hk);walk_at"e";refine⟨_,rfl,?_⟩;walk_at"e";exact⟨_,rfl,rfl⟩
 ·rintro σ g ⟨v,rfl,rfl⟩;walk_at"e";exact q a g m D i
def Uq{C l d:Addr}(q:Z12q H C l d Q):vI K ⟨n,Q,bk,ct⟩ [some (.ref C),some (.ref l),some (.ref d),none] H:=by
 obtain⟨B,X,f,kk,⟨s,m,D,F⟩,⟨ls,o1,hl,o2⟩,om,E,hb,hx,q⟩:=q;unfold vI;walk_at"e";refine Pq m ?_;walk_at"e";refine jG (cj.of m) ?_;walk_at"e";refine jG (cj.of o1) ?_;rw[aX,aX];walk_at"e";refine HY (λz=>absurd (by rw[D,hl,E]) z) (λ_=>?_);walk_at"e";refine jG (cj.of o1) ?_;rw[aX];walk_at"e";refine⟨_,rfl,by omega,by omega,?_⟩;refine forR (λk σ t=>∃J,σ=[some (.ref C),some (.ref l),some (.ref d),J]/\aV H t) ⟨_,rfl,λ_ _ h=>h⟩ ?_ ?_
 ·rintro k σ t hk ⟨J,rfl,j⟩;have hk:k<ls.length:=by omega
  obtain⟨r,hr⟩:∃r,ls[k]? =some r:=⟨_,bK hk⟩;obtain⟨u,w⟩:∃r,s[k]? =some r:=⟨_,bK (by omega)⟩;obtain⟨x,ex⟩:∃x,B[k]? =some x:=⟨_,bK (by omega)⟩;obtain⟨N,v⟩:∃x,X[k]? =some x:=⟨_,bK (by omega)⟩;obtain⟨fa,t1,t2⟩:=o2 k r x hr ex;obtain⟨c,e,y⟩:=F k u N w v;obtain⟨e1,e2,e3,e4,Z,e6⟩:=hx k x N ex v;rw[e1,e2,e3,e4]at e;rw[Z]at y;have U:∀{A:Hp},aV H A->cj K A l (ls.map V.ref):=λz=>cj.of (z _ _ o1);have g:∀{A:Hp},aV H A->cj K A C (s.map V.ref):=λz=>cj.of (z _ _ m);have T:Uy (ls.map V.ref) ((0:Int)+(k:Int))=some (.ref r):=by rw[Int.zero_add];exact iI (by rw[cA,hr];rfl)
  have i:Uy (s.map V.ref) ((0:Int)+(k:Int))=some (.ref u):=by rw[Int.zero_add];exact iI (by rw[cA,w];rfl)
  walk_at"e";refine iw (g j) i ?_;walk_at"e";refine J8 (j _ _ e) ?_;walk_at"e";refine iw (g j) i ?_;walk_at"e";refine⟨u,_,rfl,.inr (fZ.of (j _ _ e)),?_⟩;walk_at"e";refine HY (λz=>absurd rfl z) (λ_=>?_);walk_at"e";refine iw (g j) i ?_;walk_at"e";refine⟨u,_,rfl,fZ.of (j _ _ e),(show ¬ (HT.qy 6 0 none=0/\HT.qy 6 6 (some 5)=6) by decide),λO I=>?_⟩;have S:=aL I (.tup [.int x.p,.int x.b,.int x.bulk,.int x.load,.ref c]);have R:upd t O (.tup [.int x.p,.int x.b,.int x.bulk,.int x.load,.ref c]) O=some (.tup [.int x.p,.int x.b,.int x.bulk,.int x.load,.ref c]):=aq;rw[show Qv [V.int x.p,.int x.b,.int x.bulk,.int x.load,.ref c,.str N.tone] none (some 5)=[.int x.p,.int x.b,.int x.bulk,.int x.load,.ref c]from rfl];generalize upd t O (.tup [.int x.p,.int x.b,.int x.bulk,.int x.load,.ref c])=W at S R ⊢;have o:=j.trans S;walk_at"e";refine iw (U o) T ?_;walk_at"e";refine⟨r,_,rfl,fZ.of (o _ _ t1),(show ¬ (HT.qy 6 0 none=0/\HT.qy 6 6 (some 5)=6) by decide),λY M=>?_⟩;rw[show Qv [V.int x.p,.int x.b,.int x.bulk,.int x.load,.ref fa,.str x.tone] none (some 5)=[.int x.p,.int x.b,.int x.bulk,.int x.load,.ref fa]from rfl];generalize zz:upd W Y _=H4;obtain⟨P,g4⟩:=nwO M zz;have L:=P _ _ R;have a:=o.trans P;refine Zpy (.inr ⟨fZ.of L,fZ.of g4⟩) (.cons (.inl ⟨rfl,rfl⟩) (.cons (.inl ⟨rfl,rfl⟩) (.cons (.inl ⟨rfl,rfl⟩) (.cons (.inl ⟨rfl,rfl⟩) (.cons (.inr ⟨c,fa,rfl,rfl,.inr ⟨_,_,.inl ⟨cj.of (a _ _ y),cj.of (a _ _ t2)⟩,Ko (Zk7 _)⟩⟩) .nil))))) ?_;walk_at"e";refine iw (g a) i ?_;walk_at"e";refine⟨u,_,5,_,rfl,rfl,fZ.of (a _ _ e),rfl,?_⟩;walk_at"e";refine iw (U a) T ?_;walk_at"e";refine⟨r,_,1,_,rfl,rfl,fZ.of (a _ _ t1),rfl,?_⟩;refine⟨d,_,rfl,(om.same a).get e6,?_⟩;walk_at"e";refine HY (λz=>absurd rfl z) (λ_=>?_);walk_at"e";exact⟨_,rfl,a⟩
 ·rintro σ t ⟨J,rfl,j⟩;walk_at"e";exact q t j
end
def Iu(M:Wm)(t:Int×Ce):Tc:=⟨t.1,t.2.birth,t.2.bulk,t.2.load,t.2.fl.map (vV M),zq M t.1 t.2⟩
def PK(M:Wm):List Tc:=(gb M).map (Iu M)
section
variable {M M':Wm}{w0:Int}
def ue{t:Int×Ce}(h:t∈gb M):cellAt M t.1=some t.2:=by
 obtain⟨k,hk,e⟩:=List.getElem_of_mem h;obtain⟨a,h1⟩:=Zjl (M:=M) (j:=k) (t:=t) (by rw[bK hk,e]);exact dm.mpr ⟨a,h1⟩
def uq{i:Int}{c:Ce}(h:cellAt M i=some c):(i,c)∈gb M:=by
 obtain⟨a,h1⟩:=dm.mp h;unfold gb;refine List.mem_filterMap.mpr ⟨i.toNat,List.mem_range.mpr (dH h1).1,?_⟩;rw[h1];show some (((i.toNat:Nat):Int),c)=some (i,c);rw[show((i.toNat:Nat):Int)=i from by omega]
def Zn3{g:Int->Ce->Ce}(hl:M'.cells.length=M.cells.length)(h:∀i,cellAt M' i=(cellAt M i).map (g i)):gb M'=(gb M).map λt=>(t.1,g t.1 t.2):=by
 unfold gb;rw[hl,List.map_filterMap];refine Kd λi _=>?_;have a:(0:Int)<=(i:Nat):=by omega
 have h1:=h (i:Nat);unfold cellAt at h1;rw[if_pos a,if_pos a,Int.toNat_natCast]at h1;rw[h1];cases (M.cells[i]?).join<;>rfl
def Zkj{g:Int->Ce->Ce}(h:∀i,cellAt M' i=(cellAt M i).map (g i))(hb:∀i c,(g i c).birth=c.birth):vV M'=vV M:=by
 funext x
 cases x with
 | none=>rfl
 | some i=>
  show(cellAt M' i).map _=(cellAt M i).map _;rw[h i];cases cellAt M i with
  | none=>rfl
  | some c=>exact congrArg some (hb i c)
def vf(S:Int)(acc:List Int)(i:Int)(c:Ce):Ce:=if i∈acc then { c with tone:=S }else c
def Yw(S:Int)(acc:List Int)(i:Int)(c:Ce):(vf S acc i c).birth=c.birth:=by unfold vf;split<;>rfl
def Zn2(S:Int)(acc:List Int)(i:Int)(c:Ce):(vf S acc i c).fl=c.fl:=by unfold vf;split<;>rfl
def Zft(S:Int)(acc:List Int)(i:Int)(c:Ce):(vf S acc i c).bulk=c.bulk:=by unfold vf;split<;>rfl
def Zfs(S:Int)(acc:List Int)(i:Int)(c:Ce):(vf S acc i c).load=c.load:=by unfold vf;split<;>rfl
def NL.map{acc:List Int}(nl:NL M M' acc)(i:Int):cellAt M' i=(cellAt M i).map (vf M.sw.sense acc i):=by
 rw[nl.at_ i];unfold vf;split
 ·rfl
 ·cases cellAt M i<;>rfl
def NL.len{acc:List Int}(nl:NL M M' acc):M'.cells.length=M.cells.length:=by
 have:=congrArg List.length nl.nt.ce;rw[aX,aX]at this;exact this
def NL.told{acc:List Int}(nl:NL M M' acc):PK M'=(gb M).map λt=>{ Iu M t with tone:=zq M' t.1 (vf M.sw.sense acc t.1 t.2) }:=by
 unfold PK;rw[Zn3 nl.len nl.map,List.map_map];refine List.map_congr_left λt _=>?_;show Iu M' (t.1,vf M.sw.sense acc t.1 t.2)=_;unfold Iu;dsimp only;rw[Yw,Zn2,Zft,Zfs,Zkj nl.map (Yw _ _)]
def Zey:∀(a:List (Int×Int)),(∀x∈a,∀y∈a,x.2=y.2->x.1=y.1)->∀{p b:Int},(p,b)∈a->dictOf a b=some (.int p):=by
 intro a hu p b hm;unfold dictOf;cases c:a.reverse.find? λ(x:Int×Int)=>decide (x.2=b)with
 | none=>
  have:=List.find?_eq_none.mp c (p,b) (List.mem_reverse.mpr hm);exact absurd (decide_eq_true rfl) this
 | some x=>
  have h1:x.2=b:=of_decide_eq_true (List.find?_some (p:=λ(x:Int×Int)=>decide (x.2=b)) c);have h2:=List.mem_reverse.mp (List.mem_of_find?_eq_some c);have h3:=hu x h2 (p,b) hm h1;show some (V.int x.1)=_;rw[h3]
def TB.dict(p:TB w0 M){i:Int}{c:Ce}(h:cellAt M i=some c):dictOf ((gb M).map λt=>(t.1,t.2.birth)) c.birth=some (.int i):=by
 refine Zey _ (λx hx y hy e=>?_) (List.mem_map.mpr ⟨(i,c),uq h,rfl⟩);obtain⟨t,a,rfl⟩:=List.mem_map.mp hx;obtain⟨u,hu,rfl⟩:=List.mem_map.mp hy;exact p.bu t.1 u.1 t.2 u.2 (ue a) (ue hu) e
end
def CtF(H0 H:Hp)(l:Addr)(a:List Tc):Prop:=∃ls:List Addr,H l=some (.lst (ls.map V.ref))/\ls.length=a.length/\(∀(j:Nat) r x,ls[j]? =some r->a[j]? =some x->∃f,Tc1 H r f x/\H0 f=none/\H0 r=none)/\H0 l=none
def RwF(H0 H:Hp)(l:Addr)(a:List (List (Option Int))):Prop:=∃ls:List Addr,H l=some (.lst (ls.map V.ref))/\ls.length=a.length/\(∀(j:Nat) r x,ls[j]? =some r->a[j]? =some x->H r=some (.lst (x.map oV)))/\H0 l=none/\∀r∈ls,H0 r=none
def Nw(H0 H H':Hp):Prop:=∀b o,H0 b=none->H b=some o->H' b=some o
def CtF.nw{H0 H H':Hp}{l:Addr}{a:List Tc}(k:Nw H0 H H')(h:CtF H0 H l a):CtF H0 H' l a:=by
 obtain⟨ls,h1,h2,h3,h4⟩:=h;refine⟨ls,k _ _ h4 h1,h2,λj r x e g=>?_,h4⟩;obtain⟨f,⟨z1,d⟩,c,b⟩:=h3 j r x e g;exact⟨f,⟨k _ _ b z1,k _ _ c d⟩,c,b⟩
def CtF.o{H0 H:Hp}{l:Addr}{a:List Tc}(h:CtF H0 H l a):CtO H l a:=by
 obtain⟨ls,h1,h2,h3,_⟩:=h;refine⟨ls,h1,h2,λj r x b c=>?_⟩;obtain⟨f,z,_⟩:=h3 j r x b c;exact⟨f,z⟩
def RwF.nw{H0 H H':Hp}{l:Addr}{a:List (List (Option Int))}(k:Nw H0 H H')(h:RwF H0 H l a):RwF H0 H' l a:=by
 obtain⟨ls,h1,h2,h3,h4,h5⟩:=h;exact⟨ls,k _ _ h4 h1,h2,λj r x b c=>k _ _ (h5 r (List.mem_of_getElem? b)) (h3 j r x b c),h4,h5⟩
def RwF.o{H0 H:Hp}{l:Addr}{a:List (List (Option Int))}(h:RwF H0 H l a):RwO H l a:=by
 obtain⟨ls,h1,h2,h3,_⟩:=h;exact⟨ls,h1,h2,h3⟩
def Nw.same{H0 H H':Hp}(s:aV H H'):Nw H0 H H':=λb o _ h=>s b o h
def Nw.stp{H0 H H':Hp}{T T':Tg}{s:Nat}(w:WT H0 T)(st:jw s H H' T T')(n:s≠0):Nw H0 H H':=λb o a h=>st.kp b o h (by rw[w b a];exact λz=>n z.symm)
def Zry{K:aB}{H:Hp}{l m:Addr}{a:List (List (Option Int))}(h:RwO H l a)(h':RwO H m a):∃xs j,cj K H l xs/\cj K H m j/\Al (Dq K H 6) xs j:=by
 obtain⟨ls,h1,h2,h3⟩:=h;obtain⟨p,e,d,b⟩:=h';refine⟨_,_,cj.of h1,cj.of e,Zkk (by rw[aX,aX,h2,d]) λi u v k n=>?_⟩;rw[cA]at k n;obtain⟨r,hr,rfl⟩:=Option.map_eq_some_iff.mp k;obtain⟨f,c,rfl⟩:=Option.map_eq_some_iff.mp n;have g:i<a.length:=by rw[<- h2];exact(dH hr).1
 have z:=h3 i r a[i] hr (bK g);have o:=b i f a[i] c (bK g);exact .inr ⟨r,f,rfl,rfl,.inr ⟨_,_,.inl ⟨cj.of z,cj.of o⟩,Ko (Zk7 _)⟩⟩
def QT(X:Cs):Sp:=λvs H Q E=>∃wo a,vs=[.ref wo,.int a]/\∃T A M hs k,WT H T/\WJ X H T 1 A M/\A.wo=wo/\KW M hs k/\TB a M/\HsB hs/\k<=900/\M.sw.phase≠"lost"/\
 ∀H' T' c b,Kp H H' T T'->WT H' T'->WJ X H' T' 1 c b->c.wo=wo->KW b hs k->TB a b->Q (.bl true) H'
def Cu(a:List Tc)(b:Int):Option V:=(a.reverse.find? λx=>decide (x.b=b)).map λx=>V.str x.tone
def Zfu(a:List Tc)(x:Tc)(b:Int):Cu (a++[x]) b=if b=x.b then some (.str x.tone)else Cu a b:=by
 unfold Cu;rw[List.reverse_append,List.reverse_singleton,List.singleton_append,List.find?_cons]
 by_cases e:b=x.b
 ·rw[if_pos e,decide_eq_true e.symm];rfl
 ·rw[if_neg e,decide_eq_false (λz=>e z.symm)]
def JK(z:Str)(f:Int->Option V)(bs:List Int)(b:Int):Option V:=if b∈bs then some (.str z)else f b
def Zhv(z:Str)(f:Int->Option V)(bs:List Int)(b0 b:Int):JK z f (bs++[b0]) b=if b=b0 then some (.str z)else JK z f bs b:=by
 unfold JK
 by_cases e:b=b0
 ·rw[if_pos e,if_pos (by simp[e])]
 ·rw[if_neg e]
  by_cases a:b∈bs
  ·rw[if_pos a,if_pos (List.mem_append.mpr (.inl a))]
  ·rw[if_neg a,if_neg (λy=>?_)];rcases List.mem_append.mp y with y | y
   ·exact a y
   ·exact e (by simpa using y)
def iK(a:List Tc):List Int:=(a.filter λ(x:Tc)=>decide (x.tone=("pale":Str))).map (·.b)
def inP(l:List Int)(b:Int):Bool:=decide (b∈l)
def Ot(a:List Tc)(x:Tc):iK (a++[x])=iK a++if x.tone=("pale":Str)then [x.b]else []:=by
 unfold iK;rw[List.filter_append,List.map_append]
 by_cases e:x.tone=("pale":Str)
 ·rw[if_pos e,List.filter_cons,if_pos (decide_eq_true e)];rfl
 ·rw[if_neg e,List.filter_cons,if_neg (λz=>e (of_decide_eq_true z))];rfl
def Zh7(a:List Tc):(iK a).length<=a.length:=by
 unfold iK;rw[aX];exact List.length_filter_le _ _
def Zwy{l:List Int}:inV .non (l.map V.int)=false:=by
 unfold inV
 induction l with
 | nil=>rfl
 | cons a l b=>rw[List.map_cons,List.any_cons,b];rfl
def Z13q (H:Hp)(l:Addr)(m:Addr)(z:Str)(Q:VK):Prop:=∃(b:List Tc) (bs:List Int),CtO H l b/\b.length<=1000/\H m=some (.lst (bs.map V.int))/\bs.length<=4000/\
 ∀a H',aV H H'->H a=none->MkO H' a (JK z (Cu b) bs) 5000->Q (.ref a) H'
def Bx(K:aB):Sp:=λvs H Q E=>∃l m z,vs=[.ref l,.ref m,.str z]/\Z13q H l m z Q
def Z14q (H:Hp)(l:Addr)(m:Addr)(Q:VK):Prop:=∃(b:List Tc) (fs:List (Option Int)),CtO H l b/\b.length<=1000/\H m=some (.lst (fs.map oV))/\fs.length<=1000/\
 ∀a H',aV H H'->H a=none->H' a=some (.lst ((nT (inP (iK b)) fs []).map V.int))->Q (.ref a) H'
def Ga(K:aB):Sp:=λvs H Q E=>∃l m,vs=[.ref l,.ref m]/\Z14q H l m Q
section
def Zbr{l m:Addr}{z:Str}(q:Z13q H l m z Q):Af K ⟨n,Q,bk,ct⟩ [some (.ref l),some (.ref m),some (.str z),none,none,none] H:=by
 obtain⟨a,bs,⟨ls,o1,hl,o2⟩,hb,om,L,q⟩:=q;unfold Af;walk_at"e";intro d nd;have A:=aL nd (.dK []);have E:MkO (upd H d (.dK [])) d (Cu []) 0:=⟨[],aq,Nat.le_refl _,λb=>rfl⟩;generalize upd H d (.dK [])=M at A E ⊢;walk_at"e";refine⟨l,rfl,⟨_,cj.of (A _ _ o1)⟩,forL (ls.map V.ref) (λi σ u=>∃t,σ=[some (.ref l),some (.ref m),some (.str z),some (.ref d),t,none]/\aV H u/\MkO u d (Cu (a.take i)) i) ⟨_,rfl,A,E⟩ (λ_ _ _ _ ⟨_,_,y,_⟩=>cj.of (y _ _ o1)) ?_ ?_⟩
 ·rintro i y σ u hy ⟨t,rfl,k,s⟩;rw[cA]at hy;obtain⟨r,hr,rfl⟩:=Option.map_eq_some_iff.mp hy;have J:i<ls.length:=(dH hr).1;obtain⟨x,hx⟩:∃x,a[i]? =some x:=⟨_,bK (by omega)⟩;have h:a.take (i+1)=a.take i++[x]:=by rw[List.take_add_one,hx];rfl
  obtain⟨fa,f,_⟩:=o2 i r x hr hx;have f:=k _ _ f;walk_at"e";refine⟨r,_,5,_,rfl,rfl,fZ.of f,rfl,?_⟩;walk_at"e";refine⟨r,_,1,_,rfl,rfl,fZ.of f,rfl,?_⟩;obtain⟨B,C,⟨e,k1,k2,g⟩,o,w⟩:=s.put (by omega) x.b (.str x.tone);refine⟨d,B,rfl,C,_,rfl,λc F hc=>?_,e,k1,k2,λb=>?_⟩
  ·rw[w,aC (aD hc nd)];exact k _ _ hc
  ·rw[g b,h,Zfu]
 ·rintro σ u ⟨t,rfl,k,s⟩;rw[aX,List.take_of_length_le (by omega)]at s;walk_at"e";refine⟨m,rfl,⟨_,cj.of (k _ _ om)⟩,forL (bs.map V.int) (λi σ p=>∃D,σ=[some (.ref l),some (.ref m),some (.str z),some (.ref d),t,D]/\aV H p/\MkO p d (JK z (Cu a) (bs.take i)) (ls.length+i)) ⟨_,rfl,k,?_⟩ (λ_ _ _ _ ⟨_,_,y,_⟩=>cj.of (y _ _ om)) ?_ ?_⟩
  ·obtain⟨e,k1,k2,g⟩:=s;exact⟨e,k1,by omega,λb=>by rw[g b];unfold JK;rw[if_neg (by simp)]⟩
  ·rintro i y σ p hy ⟨D,rfl,v,I⟩;rw[cA]at hy;obtain⟨b0,j,rfl⟩:=Option.map_eq_some_iff.mp hy;have J:i<bs.length:=(dH j).1;have h:bs.take (i+1)=bs.take i++[b0]:=by rw[List.take_add_one,j];rfl
   walk_at"e";obtain⟨B,C,⟨e,k1,k2,g⟩,o,w⟩:=I.put (by omega) b0 (.str z);refine⟨d,B,rfl,C,_,rfl,λc F hc=>?_,e,k1,k2,λb=>?_⟩
   ·rw[w,aC (aD hc nd)];exact v _ _ hc
   ·rw[g b,h,Zhv]
  ·rintro σ p ⟨D,rfl,v,e,k1,k2,g⟩;rw[aX,List.take_length]at g;rw[aX]at k2;walk_at"e";exact q d p v nd ⟨e,k1,by omega,g⟩
def Zbv{l m:Addr}(q:Z14q H l m Q):Aj K ⟨n,Q,bk,ct⟩ [some (.ref l),some (.ref m),none,none,none,none] H:=by
 obtain⟨e,fs,⟨ls,o1,hl,o2⟩,hb,om,P,q⟩:=q;unfold Aj;walk_at"e";refine⟨aU (by simp),λa O=>?_⟩;generalize zz:upd H a _=H1;obtain⟨N,C⟩:=nwO O zz;have C:H1 a=some (.lst ((iK []).map V.int)):=C;walk_at"e";refine⟨l,rfl,⟨_,cj.of (N _ _ o1)⟩,forL (ls.map V.ref) (λi σ v=>∃B,σ=[some (.ref l),some (.ref m),some (.ref a),B,none,none]/\aV H v/\v a=some (.lst ((iK (e.take i)).map V.int))) ⟨_,rfl,N,C⟩ (λ_ _ _ _ ⟨_,_,y,_⟩=>cj.of (y _ _ o1)) ?_ ?_⟩
 ·rintro i y σ v hy ⟨B,rfl,p,h⟩;rw[cA]at hy;obtain⟨r,hr,rfl⟩:=Option.map_eq_some_iff.mp hy;have S:i<ls.length:=(dH hr).1;obtain⟨x,hx⟩:∃x,e[i]? =some x:=⟨_,bK (by omega)⟩;have u:e.take (i+1)=e.take i++[x]:=by rw[List.take_add_one,hx];rfl
  obtain⟨fa,g,_⟩:=o2 i r x hr hx;have g:=p _ _ g;have R:=Zh7 (e.take i);rw[List.length_take]at R;walk_at"e";refine⟨r,_,5,_,rfl,rfl,fZ.of g,rfl,?_⟩;walk_at"e";refine wD (λz=>?_) (λz=>?_)
  ·walk_at"e";refine⟨.inl ⟨rfl,_,cj.of h⟩,?_⟩;walk_at"e";refine⟨r,_,1,_,rfl,rfl,fZ.of g,rfl,?_⟩;walk_at"e";refine⟨a,_,_,rfl,rfl,h,?_,?_⟩
   ·rw[aX];exact Nat.lt_of_le_of_lt (show _<=4000 by omega) (by decide)
   rw[show(iK (e.take i)).map V.int++[V.int x.b]=(iK (e.take (i+1))).map V.int from by rw[u,Ot,if_pos z,List.map_append];rfl];walk_at"e";exact⟨_,rfl,λc o hc=>by rw[aC (aD hc O)];exact p _ _ hc,aq⟩
  ·walk_at"e";exact⟨_,rfl,p,by rw[u,Ot,if_neg z,List.append_nil];exact h⟩
 ·rintro σ v ⟨B,rfl,p,h⟩;rw[aX,List.take_of_length_le (by omega)]at h;walk_at"e";refine⟨aU (by simp),λd nd=>?_⟩;generalize zz:upd v d _=H3;obtain⟨M,D⟩:=nwO nd zz;have D:H3 d=some (.lst ((nT (inP (iK e)) [] []).map V.int)):=D;have J:=M _ _ h;have w:=p.trans M;have I:a≠d:=aD h nd;have A:H d=none:=p.free nd;walk_at"e";refine⟨m,rfl,⟨_,cj.of (w _ _ om)⟩,forL (fs.map oV) (λi σ s=>∃L,σ=[some (.ref l),some (.ref m),some (.ref a),B,some (.ref d),L]/\aV H s/\s a=some (.lst ((iK e).map V.int))/\s d=some (.lst ((nT (inP (iK e)) (fs.take i) []).map V.int))) ⟨_,rfl,w,J,D⟩ (λ_ _ _ _ ⟨_,_,y,_⟩=>cj.of (y _ _ om)) ?_ ?_⟩
  ·rintro i y σ s hy ⟨L,rfl,k,j,f⟩;rw[cA]at hy;obtain⟨b,hb,rfl⟩:=Option.map_eq_some_iff.mp hy;have F:fs.take (i+1)=fs.take i++[b]:=by rw[List.take_add_one,hb];rfl
   have S:i<fs.length:=(dH hb).1;rw[F,Zh3];have t:=yZ (inP (iK e)) (fs.take i) [];rw[List.length_take,List.length_nil]at t;generalize nT (inP (iK e)) (fs.take i) []=acc at f t ⊢;cases b with
   | none=>
    rw[show oV none=V.non from rfl];walk_at"e";refine⟨a,_,rfl,.inl (cj.of j),rfl,qu _,?_⟩;rw[Zwy];walk_at"e";exact⟨_,rfl,k,j,f⟩
   | some b=>
    rw[show oV (some b)=V.int b from rfl];walk_at"e";refine⟨a,_,rfl,.inl (cj.of j),rfl,qu _,?_⟩;rw[Zk3];have E:nT (inP (iK e)) [some b] acc=if inP (iK e) b=true/\b∉acc then acc++[b]else acc:=rfl
    by_cases hp:b∈iK e
    ·rw[show(if false=true then !decide (b∈iK e)else decide (b∈iK e))=true from by simp[hp]];walk_at"e";refine⟨d,_,rfl,.inl (cj.of f),rfl,qu _,?_⟩;rw[Zk3]
     by_cases hm:b∈acc
     ·rw[show(if true=true then !decide (b∈acc)else decide (b∈acc))=false from by simp[hm],E,if_neg (λy=>y.2 hm)];walk_at"e";exact⟨_,rfl,k,j,f⟩
     ·rw[show(if true=true then !decide (b∈acc)else decide (b∈acc))=true from by simp[hm],E,if_pos ⟨decide_eq_true hp,hm⟩];walk_at"e";refine⟨.inl ⟨rfl,_,cj.of f⟩,?_⟩;walk_at"e";refine⟨d,_,_,rfl,rfl,f,?_,?_⟩
      ·rw[aX];exact Nat.lt_of_le_of_lt (show _<=4000 by omega) (by decide)
      rw[show acc.map V.int++[V.int b]=(acc++[b]).map V.int from by rw[List.map_append];rfl];walk_at"e";exact⟨_,rfl,λc o hc=>by rw[aC (aD hc A)];exact k _ _ hc,by rw[aC I];exact j,aq⟩
    ·rw[show(if false=true then !decide (b∈iK e)else decide (b∈iK e))=false from by simp[hp],E,if_neg (λy=>hp (of_decide_eq_true y.1))];walk_at"e";exact⟨_,rfl,k,j,f⟩
  ·rintro σ s ⟨L,rfl,k,j,f⟩;rw[aX,List.take_length]at f;walk_at"e";exact q d s k A f
end
def o7(M:Wm)(g:List Int):Wm:={ M with sw:={ M.sw with grey:=g,walks:=M.sw.walks+1 } }
def Zk6{a:Type}(g:Nat->Option a):∀n,(∀i,i<n->g i=none)->(List.range n).filterMap g=[]
 | 0,_=>rfl
 | n+1,h=>by
  rw[List.range_succ,List.filterMap_append,Zk6 g n λi b=>h i (by omega),List.filterMap_cons,h n (by omega)];rfl
def Zql{a:Type}{g:Nat->Option a}{k:Nat}{v:a}(h1:g k=some v):∀n,k<n->(∀i,i<n->i≠k->g i=none)->(List.range n).filterMap g=[v]
 | 0,hk,_=>absurd hk (Nat.not_lt_zero _)
 | n+1,hk,h=>by
  rw[List.range_succ,List.filterMap_append]
  by_cases e:k=n
  ·subst e;rw[Zk6 g k λi b=>h i (by omega) (by omega),List.filterMap_cons,h1];rfl
  ·rw[Zql h1 n (by omega) λi b=>h i (by omega),List.filterMap_cons,h n (by omega) (λz=>e z.symm)];rfl
section
variable {M M':Wm}{w0:Int}
def Zrd:(gb M).Pairwise λa b=>a.1<b.1:=by
 unfold gb;refine List.Pairwise.filterMap _ ?_ (List.pairwise_lt_range);intro a b e x hx y hy;obtain⟨c,_,rfl⟩:=Option.map_eq_some_iff.mp hx;obtain⟨d,_,rfl⟩:=Option.map_eq_some_iff.mp hy;show(a:Int)<(b:Int);omega
def Zn4{i j:Nat}{t u:Int×Ce}(h1:(gb M)[i]? =some t)(h2:(gb M)[j]? =some u)(e:t.1=u.1):i=j:=by
 obtain⟨f,b⟩:=dH h1;obtain⟨c,d⟩:=dH h2;have a:=List.pairwise_iff_getElem.mp (Zrd (M:=M));rcases Nat.lt_trichotomy i j with z | z | z
 ·have:=a i j f c z;rw[b,d]at this;omega
 ·exact z
 ·have:=a j i c f z;rw[b,d]at this;omega
def FP(ph:M.sw.phase="walk")(i:Int)(c:Ce):zq M i c=if c.tone=M.sw.sense then(if i∈M.sw.grey then("grey":Str)else("dark":Str))else("pale":Str):=by
 unfold zq;rw[ph,if_neg (show ¬ ("walk":Str)="rest" by decide),if_neg (show ¬ ("walk":Str)="give" by decide)]
def Xy(ph:M.sw.phase="walk"){i:Int}{c:Ce}:zq M i c=("pale":Str)↔c.tone≠M.sw.sense:=by
 rw[FP ph]
 by_cases e:c.tone=M.sw.sense
 ·rw[if_pos e];constructor
  ·intro z;split at z
   ·exact absurd z (by decide)
   ·exact absurd z (by decide)
  ·exact λz=>absurd e z
 ·rw[if_neg e];exact⟨λ_=>e,λ_=>rfl⟩
def TB.Yx(p:TB w0 M){t u:Int×Ce}(a:t∈gb M)(hu:u∈gb M)(e:t.2.birth=u.2.birth):t=u:=by
 have h1:=ue a;have h2:=ue hu;have h3:=p.bu t.1 u.1 t.2 u.2 h1 h2 e;rw[h3,h2]at h1;exact Prod.ext h3 (Option.some.inj h1).symm
def TB.ZAm(p:TB w0 M){t:Int×Ce}(c:t∈gb M):Cu (PK M) t.2.birth=some (.str (zq M t.1 t.2)):=by
 unfold Cu;cases a:(PK M).reverse.find? λ(x:Tc)=>decide (x.b=t.2.birth)with
 | none=>
  have:=List.find?_eq_none.mp a (Iu M t) (List.mem_reverse.mpr (List.mem_map.mpr ⟨t,c,rfl⟩));exact absurd (decide_eq_true rfl) this
 | some x=>
  have h1:x.b=t.2.birth:=of_decide_eq_true (List.find?_some (p:=λ(x:Tc)=>decide (x.b=t.2.birth)) a);obtain⟨u,hu,rfl⟩:=List.mem_map.mp (List.mem_reverse.mp (List.mem_of_find?_eq_some a));rw[p.Yx hu c h1];rfl
def TB.Zyy(p:TB w0 M)(ph:M.sw.phase="walk"){i:Int}{c:Ce}(h:cellAt M i=some c):inP (iK (PK M)) c.birth=oK M i:=by
 unfold inP oK;rw[h];show decide _=decide _;refine decide_eq_decide.mpr ⟨λz=>?_,λz=>?_⟩
 ·obtain⟨x,hx,e⟩:=List.mem_map.mp z;obtain⟨h1,h2⟩:=List.mem_filter.mp hx;obtain⟨u,hu,rfl⟩:=List.mem_map.mp h1;have h3:=p.Yx hu (uq h) e;subst h3;exact(Xy ph).mp (of_decide_eq_true h2)
 ·exact List.mem_map.mpr ⟨Iu M (i,c),List.mem_filter.mpr ⟨List.mem_map.mpr ⟨(i,c),uq h,rfl⟩,decide_eq_true ((Xy ph).mpr z)⟩,rfl⟩
def Zfo(p:TB w0 M)(ph:M.sw.phase="walk")(g:List Int)(c:Ce):
  ∃acc,(aY (o7 M g) c.fl).2=gK (o7 M g) acc/\(aY (o7 M g) c.fl).1=acc.map (iH M)/\nT (inP (iK (PK M))) (c.fl.map (vV M)) []=acc.map (iH M)/\
   NL (o7 M g) (gK (o7 M g) acc) acc/\∀i∈acc,∃d,cellAt M i=some d/\d.tone≠M.sw.sense:=by
 have b:(o7 M g).sw.phase="walk":=ph;obtain⟨j,e⟩:=Za6 (M:=o7 M g) c.fl [] List.nodup_nil λi a=>(nomatch a);obtain⟨k,f⟩:=FJ (M:=o7 M g) b c.fl [] List.nodup_nil λi a=>(nomatch a);have has:∀i∈ntP (o7 M g) c.fl [],∃d,cellAt M i=some d/\d.tone≠M.sw.sense:=λi a=>by
  have h1:=e i a;unfold oK at h1;cases hc:cellAt (o7 M g) i with
  | none=>rw[hc]at h1;cases h1
  | some d=>
   rw[hc]at h1;exact⟨d,hc,of_decide_eq_true h1⟩
 refine⟨ntP (o7 M g) c.fl [],k,f,?_,Zdh b _ _ rfl j e,has⟩;exact Dw (M:=o7 M g) (P:=inP (iK (PK M))) p.bu (λi d h=>p.Zyy ph h) c.fl [] λi a=>(nomatch a)
def Zfn(p:TB w0 M)(r:Zjf M)(ph:M.sw.phase="walk"){x:Int}{g acc:List Int}{c:Ce}(n:M.sw.grey=x::g)(hc:cellAt M x=some c)(has:∀i∈acc,∃d,cellAt M i=some d/\d.tone≠M.sw.sense)
  (m:M'.sw.phase="walk") (se:M'.sw.sense=M.sw.sense) (gr:M'.sw.grey=g++acc) {t:Int×Ce} (l:t∈gb M):
  (if t.2.birth=c.birth then some (V.str "dark")else JK "grey" (Cu (PK M)) (acc.map (iH M)) t.2.birth)=some (.str (zq M' t.1 (vf M.sw.sense acc t.1 t.2))):=by
 have a:=ue l;obtain⟨nd,f⟩:=r ph;rw[n]at nd f;obtain⟨nx,s⟩:=List.nodup_cons.mp nd;obtain⟨d,hd,o⟩:=f x (by simp);rw[hc]at hd;cases hd;rw[FP m,se,gr]
 by_cases e:t.2.birth=c.birth
 ·rw[if_pos e];have h1:=p.Yx l (uq hc) e;subst h1;have j:x∉acc:=λz=>by
   obtain⟨d,h2,h3⟩:=has x z;rw[hc]at h2;cases h2;exact h3 o
  unfold vf;rw[if_neg j,if_pos o,if_neg (λz=>?_)];rcases List.mem_append.mp z with z | z
  ·exact nx z
  ·exact j z
 ·rw[if_neg e];have k:t.1≠x:=λz=>e (by rw[z,hc]at a;rw[Option.some.inj a]);have b:∀i∈acc,∃d,cellAt M i=some d:=λi q=>by
   obtain⟨d,h,_⟩:=has i q;exact⟨d,h⟩
  unfold JK vf
  by_cases hm:t.1∈acc
  ·rw[if_pos ((wX p.bu b a).mpr hm),if_pos hm,if_pos rfl,if_pos (List.mem_append.mpr (.inr hm))]
  ·rw[if_neg (λz=>hm ((wX p.bu b a).mp z)),if_neg hm,p.ZAm l,FP ph,n]
   by_cases h4:t.1∈g
   ·rw[if_pos (show t.1∈x::g by simp[h4]),if_pos (show t.1∈g++acc by simp[h4])]
   ·rw[if_neg (show ¬ t.1∈x::g by simp[h4,k]),if_neg (show ¬ t.1∈g++acc by simp[h4,hm])]
def Yt{e:Ev}{lb:Int}{lw:List Int}{x:Int}{g:List Int}{c:Ce}(r:vW lb lw M e M')(ph:M.sw.phase="walk")(f:M.sw.grey=x::g)(hc:cellAt M x=some c):e=⟨"walk",some c.birth,(aY (o7 M g) c.fl).1⟩/\M'=(aY (o7 M g) c.fl).2:=by
 cases r with
 | begin a=>exact absurd (ph.symm.trans a) (by decide)
 | walk j g' c' a b d=>
  rw[f]at b
  injection b with h1 h2
  subst h1 h2;rw[hc]at d;cases d;exact⟨rfl,rfl⟩
 | look N a b=>rw[f]at b;cases b
 | cut q h a b=>rw[f]at b;cases b
 | lost q h i x c v a b=>rw[f]at b;cases b
 | pass a=>exact absurd (ph.symm.trans a) (by decide)
 | back c a=>exact absurd (ph.symm.trans a) (by decide)
 | fin a=>exact absurd (ph.symm.trans a) (by decide)
 | again a=>exact absurd (ph.symm.trans a) (by decide)
end
section
def Q9{M:Wm}:(gb M).length<=M.cells.length:=by
 unfold gb;exact Nat.le_trans (List.length_filterMap_le _ _) (by rw[List.length_range];exact Nat.le_refl _)
def Ir{M:Wm}:(PK M).length=(gb M).length:=by unfold PK;rw[aX]
def Zfw{M:Wm}{i:Nat}{t:Int×Ce}(h:(gb M)[i]? =some t):(PK M)[i]? =some (Iu M t):=by unfold PK;rw[cA,h];rfl
def Here(H0 H:Hp)(l r f:Addr)(x:Tc):Prop:=H l=some (.lst [.ref r])/\Tc1 H r f x/\H0 l=none/\H0 r=none/\H0 f=none
def Here.nw{H0 H H':Hp}{l r f:Addr}{x:Tc}(k:Nw H0 H H')(h:Here H0 H l r f x):Here H0 H' l r f x:=by
 obtain⟨h1,⟨h2,h3⟩,h4,h5,h6⟩:=h;exact⟨k _ _ h4 h1,⟨k _ _ h5 h2,k _ _ h6 h3⟩,h4,h5,h6⟩
def ZIy(x:Int)(g:List Int):Qv ((x::g).map V.int) (some 1) none=g.map V.int:=by
 unfold Qv;rw[HT.Znp,show HT.qy ((x::g).map V.int).length 0 (some 1)=min 1 ((x::g).map V.int).length from HT.Zrw _ 0 1,aX,List.length_cons,Nat.min_eq_left (by omega)];show(g.map V.int).take (g.length+1 - 1)=_;rw[List.take_of_length_le (by rw[aX];omega)]
def Zvj{H0:Hp}{T:Tg}{A:Wa}{M e:Wm}{w0:Int}{x:Int}{g acc:List Int}{c:Ce}{lc lr lg ls lh r fa ld:Addr}{P:Int}{v9:Option V}(N:qC K X)(w:WT H T)(j:WJ X H T 1 A e)(ok:Zc3 e)(Z:Zc3 M)
  (p:TB w0 M) (gk:Zjf M) (J:M.sw.phase="walk") (hg:M.sw.grey=x::g) (hc:cellAt M x=some c) (nl:NL (o7 M g) e acc) (has:∀i∈acc,∃d,cellAt M i=some d/\d.tone≠M.sw.sense)
  (oc:CtF H0 H lc (PK M)) (or:RwF H0 H lr (rowsOf M)) (og:H lg=some (.lst ((x::g).map V.int))) (os:H ls=some (.lst ((stL e.sw).map V.int))) (oh:Here H0 H lh r fa (Iu M (x,c)))
  (ob:H ld=some (.lst ((acc.map (iH M)).map V.int))) (la:acc.length<=1000)
  (q:∀H',aV H H'->Q (.bl true) H'):
  pZ K (tE K) (tD K) (vX X) (Bx K) (vZ X) (Ig X) ⟨n,Q,bk,ct⟩ [some (.ref A.wo),some (.int P),some (.ref A.sw),some (.ref lc),some (.ref lr),some (.ref lg),some (.ref ls),some (.ref lh),some (.ref ld),v9] H:=by
 have hcl:=ok.cl;have ZJe:=Z.cl;have ltl:=Q9 (M:=M);have E:=Ir (M:=M);have ph:e.sw.phase="walk":=by rw[nl.sw];exact J
 have gr:e.sw.grey=g++acc:=by rw[nl.sw];rfl
 have se:e.sw.sense=M.sw.sense:=by rw[nl.sw];rfl
 have hgl:=ok.gl ph;unfold pZ;walk_at"e";refine⟨_,_,_,rfl,PK M,acc.map (iH M),oc.o,by omega,ob,by rw[aX];omega,λd H0' s0 nd od=>?_⟩;obtain⟨oh1,⟨O,_⟩,_⟩:=oh.nw (Nw.same s0);walk_at"e";refine iw (cj.of oh1) (v:=.ref r) rfl ?_;walk_at"e";refine⟨r,_,1,_,rfl,rfl,fZ.of O,rfl,?_⟩;obtain⟨H1,p1,od1,o,p3⟩:=od.put (by omega) c.birth (.str "dark");refine⟨d,H1,rfl,p1,?_⟩;have sa:aV H H1:=λb o' hb=>by rw[p3,aC (aD hb nd)];exact s0 _ _ hb
 walk_at"e";refine⟨_,rfl,T,1,A,e,j.same sa,rfl,by omega,λc hc=>by have:=ok.fl c hc;omega,λl rs H2 sb o1 hl hr _=>?_⟩;have s1:=sa.trans sb;have oc':CtO H2 l (PK e):=⟨rs,o1,by rw[hl];exact Ir.symm,λi r x h f=>by
  unfold PK at f;rw[cA]at f;obtain⟨t,B,rfl⟩:=Option.map_eq_some_iff.mp f;obtain⟨fa,z,_⟩:=hr i r t h B;exact⟨fa,z⟩⟩
 walk_at"e";refine⟨_,_,_,rfl,PK M,PK e,_,_,oc',(oc.nw (Nw.same s1)).o,od1.same sb,?_,by omega,λi x x' h f=>?_,λH3 s2=>?_⟩
 ·rw[nl.told,aX,E];rfl
 ·rw[nl.told,cA]at f;unfold PK at h;rw[cA]at h;obtain⟨t,B,rfl⟩:=Option.map_eq_some_iff.mp h;have R:(gb (o7 M g))[i]? =some t:=B;rw[R]at f;cases f;exact⟨rfl,rfl,rfl,rfl,rfl,Zfn p gk J hg hc has ph se gr (List.mem_of_getElem? B)⟩
 have D:=s1.trans s2;have er:rowsOf e=rowsOf M:=by
  unfold rowsOf;rw[nl.nt.hd,Zkj nl.map (Yw _ _)];rfl
 walk_at"e";refine⟨_,rfl,T,1,A,e,j.same D,rfl,by omega,λm hm=>by have:=ok.hl m hm;omega,λl2 rs2 H4 s3 o3 C L _=>?_⟩;rw[er]at C L;have u:=D.trans s3;obtain⟨xs,ys,a1,a2,al⟩:=Zry (K:=K) (show RwO H4 l2 (rowsOf M)from⟨rs2,o3,C,L⟩) (or.nw (Nw.same u)).o;walk_at"e";refine Zpy (.inl ⟨a1,a2⟩) al ?_;have S:=j.same u;obtain⟨ds,k⟩:=S.js.os;have I:=S.js.og;rw[ph]at k;rw[gr]at I;walk_at"e";refine aH k N.cS N.n2 fO ?_;walk_at"e";refine HY (λz=>absurd rfl z) (λ_=>?_);walk_at"e";refine⟨_,rfl,T,1,A,e,S,rfl,by omega,λa H5 W na oa=>?_⟩;have s:=u.trans W;walk_at"e";refine Zx5 (cj.of oa) (cj.of (s _ _ os)) ?_;rw[decide_eq_true rfl];walk_at"e";refine aH (W _ _ k) N.cS N.n3 jj ?_;walk_at"e";refine⟨lg,_,rfl,cj.of (s _ _ og),λlt U=>?_⟩;rw[ZIy];generalize zz:upd H5 lt _=H6;obtain⟨s5,g5⟩:=nwO U zz;have y:=s.trans s5;walk_at"e";obtain⟨cls,c1,c2,c3,_⟩:=oc.nw (Nw.same y);refine⟨_,_,rfl,(gb M).map (λt=>(t.1,t.2.birth)),acc.map (iH M),acc,⟨cls,c1,by rw[c2,E,aX],λi r x h f=>?_⟩,by rw[aX];omega,y _ _ ob,by rw[aX];omega,by rw[aX],λi b x h f=>?_,λa2 H7 Y na2 oa2=>?_⟩
 ·rw[cA]at f;obtain⟨t,B,rfl⟩:=Option.map_eq_some_iff.mp f;obtain⟨fa,⟨z,_⟩,_⟩:=c3 i r (Iu M t) h (Zfw B);exact⟨_,z⟩
 ·rw[cA,f]at h;obtain⟨c,hc,_⟩:=has x (List.mem_of_getElem? f);cases h;rw[Bv hc];exact p.dict hc
 ·rw[gr,List.length_append]at hgl;walk_at"e";refine⟨lt,a2,_,_,rfl,rfl,Y _ _ g5,oa2,by rw[aX,aX];exact aU (by omega),λa3 F=>?_⟩;rw[<- List.map_append];refine Zxf (cj.of (aL F _ _ _ (Y _ _ (s5 _ _ (W _ _ I))))) (cj.of aq) ?_;rw[decide_eq_true rfl];exact q _ (y.trans (Y.trans (aL F _)))
def Zvk{H0:Hp}{T:Tg}{A:Wa}{M:Wm}{hs:Px}{k:Nat}{w0:Int}{x:Int}{g:List Int}{c:Ce}{lc lr lg ls lh r fa:Addr}{D:Int}(Tx:qC K X)(s0:aV H0 H)(w:WT H0 T)(j:WJ X H0 T 1 A M)(u:KW M hs k)(hb:HsB hs)(hk:k<=900)(p:TB w0 M)
  (ph:M.sw.phase="walk") (hg:M.sw.grey=x::g) (hc:cellAt M x=some c)
  (oc:CtF H0 H lc (PK M)) (or:RwF H0 H lr (rowsOf M)) (og:H lg=some (.lst ((x::g).map V.int))) (Z:H0 lg=none) (os:H ls=some (.lst ((stL (o7 M g).sw).map V.int))) (S:H0 ls=none) (oh:Here H0 H lh r fa (Iu M (x,c)))
  (q:∀H' T' A' y,Kp H0 H' T T'->WT H' T'->WJ X H' T' 1 A' y->A'.wo=A.wo->KW y hs k->TB w0 y->Q (.bl true) H'):
  p6 K (Gd K) (tE K) (Ga K) (tD K) (vX X) (Bx K) (vZ X) (bQ X Zhb) (Ig X) ⟨n,Q,bk,ct⟩ [some (.ref A.wo),some (.int D),some (.ref A.sw),some (.ref lc),some (.ref lr),some (.ref lg),some (.ref ls),some (.ref lh),none,none] H:=by
 have ok:=u.ok hb hk;have hcl:=ok.cl;have ltl:=Q9 (M:=M);have ltc:=Ir (M:=M);have hfl:=u.fl c (sY hc);obtain⟨acc,f1,f2,f3,f4,f5⟩:=Zfo p ph g c;have la:acc.length<=1000:=by
  have h1:=yZ (inP (iK (PK M))) (c.fl.map (vV M)) [];rw[f3,aX,aX,List.length_nil]at h1;omega
 obtain⟨U,⟨B,N⟩,nh1,nh2,nh3⟩:=id oh;unfold p6;walk_at"e";refine iw (cj.of U) (v:=.ref r) rfl ?_;walk_at"e";refine⟨r,_,4,_,rfl,rfl,fZ.of B,rfl,?_⟩;walk_at"e";refine⟨_,_,rfl,PK M,c.fl.map (vV M),oc.o,by omega,N,by rw[aX];omega,λld H1 s1 C old=>?_⟩;rw[f3]at old;have f:=s0.trans s1;have I:H0 ld=none:=s0.free C;walk_at"e";refine⟨_,rfl,T,1,A,M,0,[],w.same f,by decide,j.same f,rfl,ok,trivial,λz=>absurd (ph.symm.trans z) (by decide),λe y O H3 T3 A3 ev st j3 aw Y lo=>?_⟩;have l:=u.step O;have p3:=p.step O;obtain⟨e1,e2⟩:=Yt O ph hg hc;rw[f2]at e1;rw[f1]at e2;subst e1 e2;obtain⟨le,nle,oe,ole⟩:=Y;have nw:=Nw.stp w st (by decide);have t:Nw H0 H H3:=λb o P h=>nw b o P (s1 _ _ h);have R:=oh.nw t;obtain⟨F,⟨E,_⟩,_⟩:=id R;have s:=nw _ _ I old;walk_at"e";refine iw (cj.of F) (v:=.ref r) rfl ?_;walk_at"e";refine⟨r,_,1,_,rfl,rfl,fZ.of E,rfl,?_⟩;walk_at"e";refine J4 (cj.of s) λi n4=>?_;generalize zz:upd H3 i _=H4;obtain⟨s4,g4⟩:=nwO n4 zz;walk_at"e";refine⟨aU (by simp),λL n5=>?_⟩;have W:=aL n5 (.tup [.str "walk",.int c.birth,.ref i]);have g5:upd H4 L (.tup [.str "walk",.int c.birth,.ref i]) L=some (.tup [.str "walk",.int c.birth,.ref i]):=aq;rw[show(Iu M (x,c)).b=c.birth from rfl];generalize upd H4 L (.tup [.str "walk",.int c.birth,.ref i])=H5 at W g5 ⊢;have a:=s4.trans W;walk_at"e";refine⟨_,_,rfl,"walk",c.birth,le,i,acc.map (iH M),a _ _ oe,g5,a _ _ ole,W _ _ g4,?_⟩;obtain⟨m,J⟩:=aw;have d:Nw H0 H H5:=λb o P h=>a _ _ (t b o P h);walk_at"e";rw[<- m,<- J];refine Zvj Tx (st.wt.same a) (j3.same a) (l.ok hb hk) ok p u.gr ph hg hc f4 f5 (oc.nw d) (or.nw d) (d _ _ Z og) (d _ _ S (by rw[f4.sw];exact os)) (oh.nw d) (a _ _ s) la λH' s'=>?_;exact q H' T3 A3 _ ((Kp.same f).trans ((Kp.stp st ⟨by decide,by decide⟩).trans (Kp.same (a.trans s')))) (st.wt.same (a.trans s')) (j3.same (a.trans s')) m l p3
def Zvl{H0:Hp}{T:Tg}{A:Wa}{M:Wm}{hs:Px}{k:Nat}{w0:Int}{x:Int}{g:List Int}{lc lr lg:Addr}{O:Int}(Tx:qC K X)(J:aV H0 H)(w:WT H0 T)(j:WJ X H0 T 1 A M)(Y:KW M hs k)(hb:HsB hs)(hk:k<=900)(p:TB w0 M)
  (ph:M.sw.phase="walk") (S:M.sw.grey=x::g)
  (oc:CtF H0 H lc (PK M)) (or:RwF H0 H lr (rowsOf M)) (og:H lg=some (.lst ((x::g).map V.int))) (n0g:H0 lg=none)
  (q:∀H' T' A' M',Kp H0 H' T T'->WT H' T'->WJ X H' T' 1 A' M'->A'.wo=A.wo->KW M' hs k->TB w0 M'->Q (.bl true) H'):
  qJ K (Gd K) (tE K) (Ga K) (tD K) (vX X) (Bx K) (vZ X) (bQ X Zhb) (Ig X) ⟨n,Q,bk,ct⟩ [some (.ref A.wo),some (.int O),some (.ref A.sw),some (.ref lc),some (.ref lr),some (.ref lg),none,none,none,none] H:=by
 have ok:=Y.ok hb hk;have hcl:=ok.cl;have hgl:=ok.gl ph;have ltl:=Q9 (M:=M);have ltc:=Ir (M:=M);obtain⟨nd,hgr⟩:=Y.gr ph;obtain⟨c,hc,tc⟩:=hgr x (by rw[S];simp);have Z:zq M x c="grey":=by rw[FP ph,if_pos tc,if_pos (by rw[S];simp)]
 unfold qJ;walk_at"e";refine⟨_,rfl,T,1,A,M,j.same J,rfl,by omega,λls H1 s1 E C=>?_⟩;walk_at"e";refine⟨aU (by simp),λe0 D=>?_⟩;refine Zpz (cj.of (aL D _ _ _ C)) (cj.of aq) ?_;rw[decide_eq_false (λz=>nomatch z)];have R:=aL D (.lst []);have s:=R _ _ C;generalize upd H1 e0 (.lst [])=H2 at R s ⊢;walk_at"e";refine Zxm (k:=3) (x:=M.sw.walks) rfl s rfl ?_;rw[show((stL M.sw).map V.int).set 3 (.int (M.sw.walks+1))=(stL (o7 M g).sw).map V.int from rfl];have P:=s1.trans R;have u:aV H (upd H2 ls (.lst ((stL (o7 M g).sw).map V.int))):=λb o hb=>by rw[aC (aD hb E)];exact P _ _ hb
 have g3:upd H2 ls (.lst ((stL (o7 M g).sw).map V.int)) ls=some (.lst ((stL (o7 M g).sw).map V.int)):=aq;generalize upd H2 ls (.lst ((stL (o7 M g).sw).map V.int))=H3 at u g3 ⊢;obtain⟨a,c1,c2,c3,c4⟩:=oc.nw (Nw.same u);have W:=u _ _ og;obtain⟨k0,L,N⟩:=List.getElem_of_mem (uq hc);have h:(gb M)[k0]? =some (x,c):=by rw[bK L,N]
 have B:k0<a.length:=by omega
 obtain⟨r,hr⟩:∃r,a[k0]? =some r:=⟨_,bK B⟩;obtain⟨fa,m,n1,n2⟩:=c3 k0 r _ hr (Zfw h);walk_at"e";refine J7 ?_;walk_at"e";refine⟨_,rfl,⟨_,cj.of c1⟩,?_⟩;refine QK (cj.of c1) (λi=>if ((gb M)[i]?).map (·.1)=some x then(a[i]?).map V.ref else none) (by rw[aX];omega) (λi y hy=>?_) ?_
 ·rw[cA]at hy;obtain⟨r',f,rfl⟩:=Option.map_eq_some_iff.mp hy;have hi:i<a.length:=(dH f).1;obtain⟨t,F⟩:∃t,(gb M)[i]? =some t:=⟨_,bK (by omega)⟩;obtain⟨fa',⟨z,_⟩,_⟩:=c3 i r' _ f (Zfw F);refine⟨λq hq=>?_,λy q hy hq=>?_⟩
  ·walk_at"c";walk_at"e";refine⟨r',_,0,_,rfl,rfl,fZ.of z,rfl,?_⟩;walk_at"e";refine iw (cj.of W) (v:=.int x) (show Uy (V.int x::g.map V.int) 0=some (V.int x)from ZAf) ?_;walk_at"e";rw[F,f]at hq
   by_cases e:t.1=x
   ·rw[if_pos (show(some t).map (·.1)=some x from congrArg some e)]at hq;rw[show decide ((Iu M t).p=x)=true from decide_eq_true e];exact hq
   ·rw[if_neg (show ¬ (some t).map (·.1)=some x from λy=>e (Option.some.inj y))]at hq;rw[show decide ((Iu M t).p=x)=false from decide_eq_false e];exact hq
  ·rw[f]at hy;split at hy
   ·cases hy;walk_at"c";walk_at"e";exact hq
   ·cases hy
 ·rw[aX,Zql (k:=k0) (v:=V.ref r) (by rw[h,hr];exact if_pos rfl) a.length B (λi hi ne=>if_neg λz=>?_)]
  ·intro lh l;generalize zz:upd H3 lh _=H4;obtain⟨I,U⟩:=nwO l zz;have d:=u.trans I;have n0h:H0 lh=none:=J.free (u.free l);have oh:Here H0 H4 lh r fa (Iu M (x,c)):=⟨U,⟨I _ _ m.1,I _ _ m.2⟩,n0h,n2,n1⟩;walk_at"e";refine jG (cj.of U) ?_;walk_at"e";refine HY (λz=>absurd rfl z) (λ_=>?_);walk_at"e";refine iw (cj.of U) (v:=.ref r) rfl ?_;walk_at"e";refine⟨r,_,5,_,rfl,rfl,fZ.of oh.2.1.1,rfl,?_⟩;walk_at"e";refine HY (λz=>absurd Z z) (λ_=>?_);walk_at"e";exact Zvk Tx (J.trans d) w j Y hb hk p ph S hc (oc.nw (Nw.same d)) (or.nw (Nw.same d)) (d _ _ og) n0g (I _ _ g3) (J.free E) oh q
  ·obtain⟨t,F,e⟩:=Option.map_eq_some_iff.mp z;exact ne (Zn4 F h e)
def Zbs{wo:Addr}{h:Int}(b:qC K X)(q:∃T A M hs k,WT H T/\WJ X H T 1 A M/\A.wo=wo/\KW M hs k/\TB h M/\HsB hs/\k<=900/\M.sw.phase≠"lost"/\
 ∀H' T' S l,Kp H H' T T'->WT H' T'->WJ X H' T' 1 S l->S.wo=wo->KW l hs k->TB h l->Q (.bl true) H'):
  Ag K (Gd K) (tE K) (Ga K) (tD K) (vX X) (Bx K) (vZ X) (bQ X Zhb) (Ig X) ⟨n,Q,bk,ct⟩ [some (.ref wo),some (.int h),none,none,none,none,none,none,none,none] H:=by
 obtain⟨T,A,M,hs,k,w,j,rfl,y,p,hb,hk,ph,q⟩:=q;have ok:=y.ok hb hk;have hcl:=ok.cl;have l5:=j.jd.l5;have lh:=j.jd.lh;obtain⟨dw,ow⟩:=j.jb.ow;obtain⟨ds,os⟩:=j.js.os;have og:=j.js.og;unfold Ag;walk_at"e";refine aH ow b.cW b.SQ bw ?_;walk_at"e";refine aH os b.cS b.n2 fO ?_;walk_at"e";refine HY (λ_=>?_) (λwk=>?_)
 ·walk_at"e";refine⟨_,rfl,T,1,A,M,0,[],w,by decide,j,rfl,ok,trivial,λz=>absurd z ph,λe l r o B E W st C F I lo=>?_⟩;walk_at"e";exact q o B E l (Kp.stp st ⟨by decide,by decide⟩) st.wt C F.1 (y.step r) (p.step r)
 walk_at"e";refine aH os b.cS b.n3 jj ?_;walk_at"e";refine⟨aU (by simp),λV v=>?_⟩;refine Zpz (cj.of (aL v _ _ _ og)) (cj.of aq) ?_;have d:=aL v (.lst []);generalize upd H V (.lst [])=H1 at d ⊢;walk_at"e";refine wD (λ_=>?_) (λng=>?_)
 ·walk_at"e";refine⟨_,rfl,T,1,A,M,0,[],w.same d,by decide,j.same d,rfl,ok,trivial,λz=>absurd z ph,λe l r o B E W st C F I lo=>?_⟩;walk_at"e";exact q o B E l ((Kp.same d).trans (Kp.stp st ⟨by decide,by decide⟩)) st.wt C F.1 (y.step r) (p.step r)
 obtain⟨x,g,P⟩:∃x g,M.sw.grey=x::g:=by
  cases hx:M.sw.grey with
  | nil=>exact absurd (by rw[hx];rfl) ng
  | cons x g=>exact⟨x,g,rfl⟩
 rw[P]at og;walk_at"e";refine⟨_,rfl,T,1,A,M,j.same d,rfl,by omega,λc hc=>by have:=ok.fl c hc;omega,λlc rs H2 Y o1 hl hr nl=>?_⟩;have oc:CtF H H2 lc (PK M):=⟨rs,o1,by rw[hl];exact Ir.symm,λi r x e1 O=>by
  unfold PK at O;rw[cA]at O;obtain⟨t,U,rfl⟩:=Option.map_eq_some_iff.mp O;obtain⟨fa,z,Z,z4⟩:=hr i r t e1 U;exact⟨fa,z,d.free Z,d.free z4⟩,d.free nl⟩
 have a:=d.trans Y;walk_at"e";refine⟨_,rfl,T,1,A,M,j.same a,rfl,by omega,λm hm=>by have:=ok.hl m hm;omega,λlr L o R o2 J N s=>?_⟩;have or:RwF H o lr (rowsOf M):=⟨L,o2,J,N,a.free s.1,λr hr=>a.free (s.2.1 r hr)⟩;have f:=a.trans R;walk_at"e";refine aH (f _ _ os) b.cS b.n3 jj ?_;walk_at"e";refine J4 (cj.of (f _ _ og)) λlg u=>?_;generalize zz:upd o lg _=H4;obtain⟨D,g4⟩:=nwO u zz;walk_at"e";exact Zvl b (f.trans D) w j y hb hk p wk P (oc.nw (Nw.same (R.trans D))) (or.nw (Nw.same D)) g4 (f.free u) q
end
section
def Zwp{a:Addr}(U:qC K X)(q:∃ns:List Int,cj K H a (ns.map V.int)/\ns.length<=63/\∀H',Q (.bl true) H'):
  Zgy K X.W (u6 X) (rE K) (Q5 X rf) (Q4 K) (Q3 X) (Zc4 K) (QV K) (QT X) ⟨n,Q,bk,ct⟩ [some (.ref a),none,none,none,none] H:=by
 obtain⟨g,S,D,h⟩:=q;unfold Zgy;walk_at"e";refine⟨a,0,rfl,g,S,by decide,λz0=>?_⟩;walk_at"e";generalize z0 % 12=way;refine⟨a,rfl,g,S,λlh hs H1 s1 nlh ho hb=>?_⟩;walk_at"e";refine⟨a,rfl,g,s1.seq S,λroom=>?_⟩;walk_at"e";refine⟨_,rfl,λki lk w t H2 t0 t1 ew s2 nki nlk kd=>?_⟩;have s02:=s1.trans s2;have I:=ho.same s2;obtain⟨ts,olh,al⟩:=id I;have lts:=al.length;have n5:=hb.n5;walk_at"e";refine J4 (cj.of olh) λR ZAv=>?_;generalize zz:upd H2 R _=H3;obtain⟨Y,g3⟩:=nwO ZAv zz;have l:=kd.same Y;have ho3:=I.same Y;have s03:=s02.trans Y;walk_at"e";intro wo dx c ndx ned;have y:aV H3 (upd (upd H3 dx (.own wo)) wo (.ins X.W dx [])):=λb o hb=>by rw[aC (aD hb c),aC (aD hb ndx)];exact hb
 have g7:upd (upd H3 dx (.own wo)) wo (.ins X.W dx []) wo=some (.ins X.W dx []):=aq;generalize upd (upd H3 dx (.own wo)) wo (.ins X.W dx [])=H7 at y g7 ⊢;have E:=l.same y;have nkw:ki≠wo:=by
  obtain⟨⟨_,e⟩,_⟩:=l;exact aD e c
 have nlw:lk≠wo:=by
  obtain⟨_,⟨_,e⟩⟩:=l;rcases e with ⟨_,e⟩ | ⟨_,e⟩ | ⟨_,e⟩
  ·exact aD e c
  ·exact aD e c
  ·exact aD e c
 refine⟨wo,_,ki,R,rfl,dx,λ_=>(0,0),1,lk,w,t,ts,hs,g7,λ_ _=>rfl,by decide,E,rfl,rfl,nkw,nlw,y _ _ g3,Zkk lts λi x m e1 e2=>?_,by omega,λH8 T8 A8 k8 t8 w8 aw8 j8=>⟨rfl,?_⟩⟩
 ·obtain⟨x',e3,z⟩:=al.get e2;rw[e1]at e3;cases e3;have:=hb.sb m (List.mem_of_getElem? e2);exact⟨y _ _ (Y _ _ z),by omega,by omega⟩
 have C:aV H3 H8:=λb o hb=>k8 b o (y _ _ hb) (aD hb c);have s08:aV H H8:=s03.trans C;have ho8:=ho3.same C;have p0:KW (Zdr room hs w t) hs 0:=KW.new t0 t1;have N:TB (way % 3) (Zdr room hs w t):=by rw[<- ew];exact TB.new
 generalize Zdr room hs w t=M at j8 p0 N;clear k8 t8 y g7 E l;walk_at"e";refine⟨a,lh,rfl,g,hs,s08.seq S,D,ho8,hb,λF H9 s9 rl=>?_⟩;obtain⟨_,nlr,vs,B,lvs,L⟩:=rl;have O:∀v∈vs,v=.non\/∃t d,v=.ref t/\T8 t=(0,0)/\H9 t=some (.tup (dV d))/\okR hs d:=λv hv=>by
  rcases L v hv with z | ⟨t,d,e,f,o,k⟩
  ·exact .inl z
  ·exact .inr ⟨t,d,e,w8 _ f,o,k⟩
 refine⟨F,rfl,⟨_,cj.of B⟩,forL vs (λi σ s=>∃T A M v4,σ=[some (.ref a),some (.int way),some (.ref lh),some (.ref wo),v4]/\WT s T/\WJ X s T 1 A M/\A.wo=wo/\KW M hs i/\TB (way % 3) M/\s F=some (.lst vs)/\T F=(0,0)/\∀v∈vs,v=.non\/∃t d,v=.ref t/\T t=(0,0)/\s t=some (.tup (dV d))/\okR hs d) ⟨T8,A8,M,_,rfl,w8.same s9,j8.same s9,aw8,p0,N,B,w8 _ nlr,O⟩ (λ_ _ _ _ ⟨_,_,_,_,_,_,_,_,_,_,z,_⟩=>cj.of z) ?_ ?_⟩
 ·rintro i x σ s hi ⟨T,A,M,v4,rfl,w,j,J,p,Z,ol,tl,O⟩;have hil:=(dH hi).1;obtain⟨dw,ow⟩:=j.jb.ow;obtain⟨ds,os⟩:=j.js.os;rw[J]at ow;have kp:∀{H':Hp}{T':Tg},Kp s H' T T'->H' F=some (.lst vs)/\T' F=(0,0)/\∀v∈vs,v=.non\/∃t d,v=.ref t/\T' t=(0,0)/\H' t=some (.tup (dV d))/\okR hs d:=λ{H' T'} k=>by
   refine⟨k.k _ _ ol (.inl (by rw[tl])),(k.tg _ _ ol).trans tl,λv hv=>?_⟩;rcases O v hv with z | ⟨t,d,e,f,o,kk⟩
   ·exact .inl z
   ·exact .inr ⟨t,d,e,(k.tg _ _ o).trans f,k.k _ _ o (.inl (by rw[f])),kk⟩
  walk_at"e";refine aH ow U.cW U.SQ bw ?_;walk_at"e";refine aH os U.cS U.n2 fO ?_;walk_at"e";refine wD (λ_=>?_) (λph=>?_)
  ·walk_at"e";exact h _
  ·rcases O x (List.mem_of_getElem? hi)with rfl | ⟨t,d,rfl,tt,ot,od⟩
   ·walk_at"e";refine⟨_,_,rfl,T,A,M,hs,i,w,j,J,p,Z,hb,by omega,ph,λH' T' A' M' k w' j' u p' tb'=>?_⟩;walk_at"e";obtain⟨k1,k2,P⟩:=kp k;exact⟨T',A',M',_,rfl,w',j',u,p'.mono (by omega),tb',k1,k2,P⟩
   ·have ok:=p.ok hb (by omega);have hcl:=ok.cl;have hnl:=ok.nl;walk_at"e";refine⟨_,t,rfl,T,1,A,M,d,w,by decide,j,J,ot,p.okD od,hcl,λz=>by have:=ok.gl z;omega,p.tl,by omega,λr er H' sm=>?_,λe M' he H' T' A' av st j' u ev=>?_⟩
    ·walk_at"e";obtain⟨k1,k2,P⟩:=kp (Kp.same sm);exact⟨T,A,M,_,rfl,w.same sm,j.same sm,J,p.mono (by omega),Z,k1,k2,P⟩
    ·walk_at"e";obtain⟨k1,k2,P⟩:=kp (Kp.stp st ⟨by decide,by decide⟩);exact⟨T',A',M',_,rfl,st.wt,j',u,p.deed od he,Z.deed he,k1,k2,P⟩
 ·rintro σ s ⟨T,A,M,v4,rfl,w,j,J,p,Z,ol,tl,O⟩;walk_at"e";exact h _
end
def top(i:Nat):Stmt:=PySem.Challenge.pw_greywalk_k25_a_cell_walked.main.body.getD i (.Pass ⟨0,0,0,0⟩)
abbrev uE:Stmt:=inClass (top 8) 0
abbrev z7:Stmt:=inClass (top 8) 1
abbrev rW:Stmt:=inClass (top 8) 2
abbrev uC:Stmt:=inClass (top 9) 0
abbrev wL:Stmt:=inClass (top 9) 1
abbrev Hs:Stmt:=inClass (top 9) 2
abbrev Dm:Stmt:=inClass (top 9) 3
abbrev Dl:Stmt:=inClass (top 9) 4
abbrev z6:Stmt:=inClass (top 9) 5
abbrev Ls:Stmt:=top 10
abbrev Hr:Stmt:=top 11
abbrev Le:Stmt:=top 13
abbrev RD:Stmt:=top 14
abbrev uD:Stmt:=inClass (top 16) 0
abbrev pX:Stmt:=inClass (top 17) 0
abbrev rP:Stmt:=inClass (top 18) 0
abbrev Zgt:Stmt:=top 19
abbrev xU:Stmt:=top 20
abbrev CQ:Stmt:=top 21
abbrev CG:Stmt:=top 22
abbrev CJ:Stmt:=top 23
abbrev zR:Stmt:=top 24
abbrev Lf:Stmt:=top 25
abbrev zN:Stmt:=top 26
abbrev Cz:Stmt:=top 27
abbrev Zr:Stmt:=top 28
abbrev Zgs:Stmt:=top 29
abbrev Hl:Stmt:=top 30
abbrev Zgu:Stmt:=top 31
abbrev Zq:Stmt:=top 32
abbrev Ld:Stmt:=top 33
abbrev zQ:Stmt:=top 35
abbrev vp:Stmt:=top 36
abbrev vm:Stmt:=top 37
abbrev Zgq:Stmt:=top 38
abbrev xT:Stmt:=top 39
abbrev Zno:Stmt:=top 40
abbrev zT:Stmt:=top 41
abbrev Ho:Stmt:=top 42
abbrev zO:Stmt:=top 43
abbrev vo:Stmt:=top 44
abbrev zP:Stmt:=top 45
abbrev s_end:Stmt:=top 46
abbrev rO:Stmt:=top 47
abbrev Zgr:Stmt:=top 49
abbrev RM:Stmt:=top 53
abbrev pY:Stmt:=inClass (top 54) 2
abbrev o8:Stmt:=inClass (top 54) 3
abbrev uA:Stmt:=inClass (top 54) 4
abbrev rR:Stmt:=inClass (top 55) 2
abbrev rT:Stmt:=inClass (top 56) 2
abbrev rQ:Stmt:=inClass (top 57) 2
abbrev zZ:Stmt:=inClass (top 57) 3
abbrev uB:Stmt:=inClass (top 58) 0
abbrev Hj:Stmt:=top 60
abbrev Lr:Stmt:=top 61
abbrev CP:Stmt:=top 62
abbrev xP:Stmt:=top 63
abbrev xQ:Stmt:=top 64
abbrev Lj:Stmt:=top 65
abbrev RK:Stmt:=top 66
abbrev RJ:Stmt:=top 67
abbrev Lq:Stmt:=top 68
abbrev Lp:Stmt:=top 69
abbrev Ln:Stmt:=top 70
abbrev Hq:Stmt:=top 71
abbrev Lh:Stmt:=top 72
abbrev Li:Stmt:=top 73
abbrev Lg:Stmt:=top 74
abbrev xR:Stmt:=top 75
abbrev Zvu:Stmt:=top 77
abbrev Dk:Stmt:=top 79
abbrev Di:Stmt:=top 80
abbrev CT:Stmt:=top 81
abbrev zW:Stmt:=top 82
abbrev Dc:Stmt:=top 83
abbrev Dg:Stmt:=top 84
abbrev De:Stmt:=top 85
abbrev Df:Stmt:=top 86
abbrev Dj:Stmt:=top 87
abbrev zY:Stmt:=top 88
abbrev zV:Stmt:=top 89
abbrev CZ:Stmt:=top 90
abbrev xW:Stmt:=top 91
abbrev zX:Stmt:=top 92
abbrev Dh:Stmt:=top 93
abbrev CV:Stmt:=top 94
abbrev xX:Stmt:=top 95
abbrev xV:Stmt:=top 96
abbrev zU:Stmt:=top 97
abbrev Dd:Stmt:=top 98
abbrev CW:Stmt:=top 99
abbrev RG:Stmt:=top 100
structure Hh(P:Program)(w:World)(K:aB)(mg:Str->Option Value)(base:Heap)(n:Nat)(f:Addr)(fd:FuncData)(ps:List Str)(sp:Sp):Prop where
 g:wB P w K mg base (G.Uv P w) n f fd ps sp
 b:Binds K fd ps []
 k:W.keepIn K (.ref f)=true
def hh{P:Program}{w:World}{K:aB}{mg:Str->Option Value}{base:Heap}{n:Nat}{f:Addr}{fd:FuncData}{ps:List Str}{sp:Sp}(g:wB P w K mg base (G.Uv P w) n f fd ps sp)(b:Binds K fd ps [])(k:W.keepIn K (.ref f)=true):Hh P w K mg base n f fd ps sp:=⟨g,b,k⟩
abbrev lF(P:Program)(w:World)(K:aB)(mg:Str->Option Value)(base:Heap)(n:Nat)(f:Addr)(fd:FuncData)(ps:List Str)(sp:Sp):Prop:=wB P w K mg base (G.Uv P w) n f fd ps sp
def gh{X:Cx}{n k:Nat}{f:Addr}{fd:FuncData}{ps:List Str}{sp:Sp}{x:Str}{e:Expr}{c:List Expr}{t:TA}{p a:Pos}(h:Hh X.prog X.w X.K X.mg X.base n f fd ps sp)(hr:Room k X.A)(hm:X.mg x=some (.ref f))(m:PA X (e::c) t)(hn:n<=k:=by decide)(l:X.env.kindOf x=some .globalImplicit:=by rfl)(i:(x == ("__debug__":Str))=false:=by decide)(j:starEach (e::c) X.env=(false,eval e X.env)::starEach c X.env:=by rfl)(d:(backTo a (starEach c X.env)).any (·.1)=false:=by rfl):PE X (.Call (.Name x p) (e::c) [] a) (aQ sp [] E0 t):=wQ h.g (hr.mono hn) l hm h.k h.b .nil G.fX m i j d
def dg{N P:List Str}{h:Scope}(a:h.kind=.function:=by rfl)(b:h.isCoroutine=false:=by rfl)(c:h.isGenerator=false:=by rfl)(d:N.Nodup:=by decide +kernel)(e:N.take P.length=P:=by rfl)(f:∀x∈P,h.names.lookup x=some .local\/h.names.lookup x=some .cell:=by decide +kernel)(g:∀y∈h.names,y.2≠.free:=by decide +kernel):aP N P h:=⟨a,b,c,d,e,f,g⟩
structure Txt(w:World)(K:aB)(mg:Str->Option Value)(bA aZ lZ bJ fj dO fu gw lB fJ aK aR bR bB dG fV dN dD iC kZ jr jq fU iM eU nP pH dF cH dj yO gF iy jM d7 iW nQ iU jL t7 yN gP vP tZ nO gO cT cQ yL gD GQ iY lY gM cR iV GP bV yM oM bO bW cI dJ dM dI gQ dB d9 j7 jo gA fL gZ jD jC ir ig ie fB gW gY gU gB Wz gj d8 iB jf jQ jV jT jU jX ji je jP fM jg jW jN gH gG iZ jR jO:Addr):Prop where
 Xo:G.Tab K w mg "STEPS" [("rest",cT),("walk",cQ),("give",cR),("lost",bV)]
 Xp:G.Tab K w mg "DEEDS" [("make",gZ),("get",jD),("put",jC),("copy",ir),("drop",ig),("give",ie),("write",fB),("read",gW),("name",gY),("seek",gU)]
 di:Hg K bA
 Zpd:mg "Cell"=some (.ref bA)
 QH:Mk K bA dG
 dX:bM K bA "birth"
 mO:bM K bA "bulk"
 mL:bM K bA "tone"
 jK:bM K bA "load"
 eX:bM K bA "fields"
 QM:G.EqD K bA
 cM:Hg K aZ
 Zp9:mg "Heap"=some (.ref aZ)
 QF:Mk K aZ dD
 oG:bM K aZ "room"
 bN:bM K aZ "cells"
 jm:bM K aZ "used"
 mK:bM K aZ "born"
 Zkh:Hg K lZ
 Zpa:mg "Hand"=some (.ref lZ)
 QG:Mk K lZ dF
 wW:bM K lZ "name"
 uX:bM K lZ "slots"
 Ui:Hg K bJ
 XF:mg "Sweeper"=some (.ref bJ)
 Bm:Mk K bJ cH
 pP:bM K bJ "sense"
 pQ:bM K bJ "phase"
 qZ:bM K bJ "grey"
 oY:bM K bJ "looked"
 qW:bM K bJ "turn"
 uV:bM K bJ "at"
 qX:bM K bJ "stop"
 pO:bM K bJ "walks"
 pR:bM K bJ "looks"
 oX:bM K bJ "passes"
 qY:bM K bJ "loss"
 Zf0:Hg K fj
 Zjy:mg "World"=some (.ref fj)
 JC:Mk K fj dj
 uU:bM K fj "heap"
 uT:bM K fj "kind"
 tV:bM K fj "hands"
 tU:bM K fj "names"
 pN:bM K fj "sweeper"
 EY:Hg K dO
 Zjz:mg "First"=some (.ref dO)
 Xx:G.Mk0 K dO
 Ks:Hg K fu
 Zpc:mg "Each"=some (.ref fu)
 Zdt:G.Mk0 K fu
 Kr:Hg K gw
 Zp8:mg "Last"=some (.ref gw)
 Zds:G.Mk0 K gw
 Zkg:Hg K lB
 Zaa:mg "Kind"=some (.ref lB)
 FN:Mk K lB dB
 q8:bM K lB "looking"
 uW:bM K lB "tells"
 Pa:mg "GreyError"=some (.ref fJ)
 Pb:mg "EmptySlot"=some (.ref aK)
 XH:mg "NoField"=some (.ref aR)
 Zpb:mg "Full"=some (.ref bR)
 Zdw:mg "NoName"=some (.ref bB)
 wH:G.Zr8 K aK
 Ys:G.Zr8 K bR
 Fq:G.Zr8 K aR
 Im:G.Zr8 K bB
 lC:W.exmOne K (.ref aK) (.ref fJ)=some true
 mD:W.exmOne K (.ref aR) (.ref fJ)=some true
 o5:W.exmOne K (.ref bR) (.ref fJ)=some true
 mZ:W.exmOne K (.ref bB) (.ref fJ)=some true
 zp:Meth K fu "at_begin" bO
 yD:Meth K fu "stays" cI
 vK:Meth K dO "next_look" bW
 vJ:Meth K dO "stays" cI
 zm:Meth K gw "at_begin" bO
 MN:Meth K bA "__init__" dG
 tW:Meth K bA "units" fV
 xg:Meth K bA "has_field" dN
 MJ:Meth K aZ "__init__" dD
 JF:Meth K aZ "make" iC
 Ox:Meth K aZ "lay" kZ
 JH:Meth K aZ "back" jr
 JG:Meth K aZ "free" jq
 yC:Meth K aZ "there" fU
 sX:mg "cell_at"=some (.ref iM)
 mW:mg "birth_at"=some (.ref eU)
 XC:mg "reached"=some (.ref nP)
 S7:mg "onward"=some (.ref pH)
 MK:Meth K lZ "__init__" dF
 Gj:Meth K bJ "__init__" cH
 JD:Meth K fj "__init__" dj
 Zp5:mg "held"=some (.ref yO)
 yF:mg "births_held"=some (.ref gF)
 xj:mg "births_at"=some (.ref iy)
 OD:mg "looked_at"=some (.ref jM)
 mQ:mg "has_sense"=some (.ref d7)
 JM:mg "is_walking"=some (.ref iW)
 XD:mg "mark_of"=some (.ref nQ)
 Bo:mg "told_cells"=some (.ref iU)
 Oz:mg "told_cell"=some (.ref jL)
 Zjx:mg "begin"=some (.ref t7)
 Zp4:mg "note"=some (.ref yN)
 sW:mg "note_all"=some (.ref gP)
 Zi0:mg "gone"=some (.ref vP)
 Zjw:mg "roots"=some (.ref tZ)
 Xz:mg "root_of"=some (.ref nO)
 Bq:mg "note_hands"=some (.ref gO)
 S6:mg "step_at_rest"=some (.ref cT)
 SX:mg "step_in_walk"=some (.ref cQ)
 Zp3:mg "walk"=some (.ref yL)
 GD:mg "look_or_cut"=some (.ref gD)
 Zv1:mg "cut"=some (.ref GQ)
 JN:mg "first_loss"=some (.ref iY)
 S8:mg "given_up"=some (.ref lY)
 Bp:mg "told_again"=some (.ref gM)
 S5:mg "step_in_give"=some (.ref cR)
 JL:mg "pass_place"=some (.ref iV)
 Zv0:mg "end"=some (.ref GP)
 MP:mg "step_when_lost"=some (.ref bV)
 Zhz:mg "step"=some (.ref yM)
 S9:mg "all_of"=some (.ref oM)
 Gk:Meth K fu "at_begin" bO
 En:Meth K dO "next_look" bW
 Mz:Meth K fu "stays" cI
 wZ:Meth K dO "at_begin" dJ
 w6:Meth K fu "next_look" dM
 wY:Meth K gw "next_look" dI
 yz:Meth K gw "stays" gQ
 MF:Meth K lB "__init__" dB
 kW:mg "slots_of"=some (.ref d9)
 zx:mg "cell_in"=some (.ref j7)
 Eo:mg "fields_in"=some (.ref jo)
 Gy:mg "told_as_old"=some (.ref gA)
 yE:mg "told_as_new"=some (.ref fL)
 Zln:mg "do_make"=some (.ref gZ)
 Zp7:mg "do_get"=some (.ref jD)
 Zp6:mg "do_put"=some (.ref jC)
 Zlq:mg "do_copy"=some (.ref ir)
 Zlp:mg "do_drop"=some (.ref ig)
 Zlo:mg "do_give"=some (.ref ie)
 Zi1:mg "do_write"=some (.ref fB)
 Zll:mg "do_read"=some (.ref gW)
 Zlm:mg "do_name"=some (.ref gY)
 Zlk:mg "do_seek"=some (.ref gU)
 Gz:mg "place_named"=some (.ref gB)
 Zz7:mg "do"=some (.ref Wz)
 mR:mg "_law_cell"=some (.ref gj)
 cY:mg "_law_draw"=some (.ref d8)
 xm:mg "_law_word"=some (.ref iB)
 JQ:mg "_law_hands"=some (.ref jf)
 O3:mg "_law_room"=some (.ref jQ)
 O7:mg "_law_kind"=some (.ref jV)
 O5:mg "_law_made"=some (.ref jT)
 O6:mg "_law_load"=some (.ref jU)
 O9:mg "_law_deed"=some (.ref jX)
 JS:mg "_law_deeds"=some (.ref ji)
 JP:mg "_law_start"=some (.ref je)
 O2:mg "_law_rows"=some (.ref jP)
 tX:mg "_law_number"=some (.ref fM)
 JR:mg "_law_event"=some (.ref jg)
 O8:mg "_law_hand"=some (.ref jW)
 OJ:mg "_law_with"=some (.ref jN)
 GJ:mg "_law_marked"=some (.ref gH)
 GF:mg "_law_places"=some (.ref gG)
 Br:mg "_law_state"=some (.ref iZ)
 O4:mg "_law_pale"=some (.ref jR)
 O1:mg "_law_step"=some (.ref jO)
 Yr:mg "bool"=none
 qj:mg "enumerate"=none
 Zjk:mg "int"=none
 iT:mg "isinstance"=none
 lM:mg "len"=none
 uy:mg "list"=none
 tH:mg "range"=none
 Zjj:mg "str"=none
 Il:mg "tuple"=none
 Zv6:G.GC mg "NEW" (.int 2)
 Zv5:G.GC mg "OLD" (.int 1)
abbrev uN:List Str:=["self","birth","many","bulk","tone"]
abbrev sU:List Str:=["self","field"]
abbrev uL:List Str:=["self","room"]
abbrev Ed:List Str:=["self","many","bulk","tone"]
abbrev HR:List Str:=["self","cell"]
abbrev Ef:List Str:=["self","place"]
abbrev qm:List Str:=["heap","place"]
abbrev lV:List Str:=["heap","place"]
abbrev LK:List Str:=["heap","rows"]
abbrev RZ:List Str:=["heap","places","way"]
abbrev uM:List Str:=["self","name","many"]
abbrev sI:List Str:=["self","room","kind","hands"]
abbrev ug:List Str:=["heap","places"]
abbrev DK:List Str:=["world","hand"]
abbrev lO:List Str:=["world","cell"]
abbrev LQ:List Str:=["world","place"]
abbrev DG:List Str:=["world","place"]
abbrev Zh9:List Str:=["world","place"]
abbrev p8:List Str:=["world","places"]
abbrev ZM:List Str:=["world","place","birth"]
abbrev LC:List Str:=["world","place","birth"]
abbrev uR:List Str:=["world","hands"]
abbrev qb:List Str:=["self","hands"]
abbrev pC:List Str:=["self","looked","hands"]
abbrev sO:List Str:=["self","hands"]
abbrev sS:List Str:=["self","looked","hands"]
abbrev sJ:List Str:=["self","looked","hands"]
abbrev uK:List Str:=["self","looking","tells"]
abbrev kO:List Str:=["world","hand"]
abbrev vd:List Str:=["world","hand","slot"]
abbrev wU:List Str:=["world","hand","slot","field"]
abbrev yt:List Str:=["world","place"]
abbrev tO:List Str:=["world","hand","place"]
abbrev Mg:List Str:=["world","deed"]
abbrev R1:List Str:=["world","deed"]
abbrev R0:List Str:=["world","deed"]
abbrev Mj:List Str:=["world","deed"]
abbrev Mi:List Str:=["world","deed"]
abbrev Mh:List Str:=["world","deed"]
abbrev HQ:List Str:=["world","deed"]
abbrev Ma:List Str:=["world","deed"]
abbrev Mf:List Str:=["world","deed"]
abbrev LR:List Str:=["world","deed"]
abbrev yu:List Str:=["world","word"]
abbrev Zw2:List Str:=["world","deed"]
abbrev qp:List Str:=["_law_script","_law_k"]
abbrev lQ:List Str:=["_law_cell_here","_law_prime","_law_many"]
abbrev uh:List Str:=["_law_cell_here","_law_w"]
abbrev Bg:List Str:=["_law_script"]
abbrev DR:List Str:=["_law_script"]
abbrev Ea:List Str:=["_law_number_here"]
abbrev DX:List Str:=["_law_n","_law_h","_law_s"]
abbrev DY:List Str:=["_law_n"]
abbrev Ec:List Str:=["_law_n","_law_hands_here","_law_seed"]
abbrev Bj:List Str:=["_law_n","_law_hands_here","_law_seed"]
abbrev Bf:List Str:=["_law_hands_here","_law_cell_here","_law_seed"]
abbrev DQ:List Str:=["_law_script","_law_hands_here"]
abbrev tQ:List Str:=["_law_found"]
abbrev Bh:List Str:=["_law_found","_law_due"]
abbrev Eb:List Str:=["_law_world","_law_deed_here"]
abbrev DN:List Str:=["_law_cells","_law_births","_law_mark"]
abbrev yx:List Str:=["_law_after","_law_before","_law_marks"]
abbrev yw:List Str:=["_law_cells","_law_births"]
abbrev Be:List Str:=["_law_sweeper"]
abbrev DW:List Str:=["_law_cells","_law_fields"]
abbrev DP:List Str:=["_law_world","_law_way"]
def Lb:aP ["self","birth","many","bulk","tone"] uN (aG uE):=dg
def Vl:aP ["self"] ["self"] (aG z7):=dg
def Jm:aP ["self","field"] sU (aG rW):=dg
def K9:aP ["self","room"] uL (aG uC):=dg
def Zm:aP ["self","many","bulk","tone","cell"] Ed (aG wL):=dg
def Zcv:aP ["self","cell","place"] HR (aG Hs):=dg
def Zo:aP ["self","place","cell"] Ef (aG Dm):=dg
def Zn:aP ["self"] ["self"] (aG Dl):=dg
def Vk:aP ["self"] ["self"] (aG z6):=dg
def Zgo:aP ["heap","place"] qm (aG Ls):=dg
def Zcu:aP ["heap","place","cell"] lV (aG Hr):=dg
def Zge:aP ["heap","rows","queue","number","row","listed","taken","place","way"] LK (aG Le):=dg
def Zky:aP ["heap","places","way"] RZ (aG RD):=dg
def La:aP ["self","name","many"] uM (aG uD):=dg
def Gf:aP ["self"] ["self"] (aG pX):=dg
def Ji:aP ["self","room","kind","hands"] sI (aG rP):=dg
def Zro:aP ["world"] ["world"] (aG Zgt):=dg
def Rx:aP ["world"] ["world"] (aG xU):=dg
def Y7:aP ["heap","places"] ug (aG CQ):=dg
def Y4:aP ["world","hand"] DK (aG CG):=dg
def Y5:aP ["world","cell"] lO (aG CJ):=dg
def Vc:aP ["world"] ["world"] (aG zR):=dg
def Zgf:aP ["world","place","sweeper","toned"] LQ (aG Lf):=dg
def U8:aP ["world"] ["world"] (aG zN):=dg
def Y0:aP ["world","place","cell","fields"] DG (aG Cz):=dg
def Znl:aP ["world","sweeper"] ["world"] (aG Zr):=dg
def Zrn:aP ["world","place","sweeper","cell"] Zh9 (aG Zgs):=dg
def Zcr:aP ["world","places","births","place","birth"] p8 (aG Hl):=dg
def Zrp:aP ["world","place","birth","cell"] ZM (aG Zgu):=dg
def Znk:aP ["world"] ["world"] (aG Zq):=dg
def Zgd:aP ["world","place","birth"] LC (aG Ld):=dg
def Vb:aP ["world","hands","noted","number","hand"] uR (aG zQ):=dg
def Qj:aP ["world","noted"] ["world"] (aG vp):=dg
def Qh:aP ["world"] ["world"] (aG vm):=dg
def Zrl:aP ["world","sweeper","cell"] ["world"] (aG Zgq):=dg
def Rv:aP ["world","sweeper","looking","hands","noted"] ["world"] (aG xT):=dg
def Zvt:aP ["world","sweeper","loss","births"] ["world"] (aG Zno):=dg
def Vd:aP ["world","place","way","cell"] ["world"] (aG zT):=dg
def Zcs:aP ["world","heap"] ["world"] (aG Ho):=dg
def U9:aP ["event"] ["event"] (aG zO):=dg
def Qi:aP ["world"] ["world"] (aG vo):=dg
def Va:aP ["world","sweeper","place","cell"] ["world"] (aG zP):=dg
def Zvs:aP ["world","sweeper"] ["world"] (aG s_end):=dg
def Jh:aP ["world"] ["world"] (aG rO):=dg
def Zrm:aP ["world","act"] ["world"] (aG Zgr):=dg
def Zl1:aP ["hands"] ["hands"] (aG RM):=dg
def Gg:aP ["self","hands"] qb (aG pY):=dg
def Cy:aP ["self","looked","hands"] pC (aG o8):=dg
def K7:aP ["self"] ["self"] (aG uA):=dg
def Jk:aP ["self","hands"] sO (aG rR):=dg
def Jl:aP ["self","looked","hands","hand"] sS (aG rT):=dg
def Jj:aP ["self","looked","hands"] sJ (aG rQ):=dg
def Vj:aP ["self"] ["self"] (aG zZ):=dg
def K8:aP ["self","looking","tells"] uK (aG uB):=dg
def Zcq:aP ["world","hand"] kO (aG Hj):=dg
def Zgn:aP ["world","hand","slot","cell"] vd (aG Lr):=dg
def Y6:aP ["world","hand","slot","field","cell"] wU (aG CP):=dg
def Rr:aP ["world","place"] yt (aG xP):=dg
def Rt:aP ["world","hand","place"] tO (aG xQ):=dg
def Zgj:aP ["world","deed","slots","many","bulk","place"] Mg (aG Lj):=dg
def Zl0:aP ["world","deed","hand","source","field","place"] R1 (aG RK):=dg
def Zkz:aP ["world","deed","hand","field","fields","old","new","noted"] R0 (aG RJ):=dg
def Zgm:aP ["world","deed","slots","place"] Mj (aG Lq):=dg
def Zgl:aP ["world","deed","slots","place"] Mi (aG Lp):=dg
def Zgk:aP ["world","deed","giver","taker","place","noted"] Mh (aG Ln):=dg
def Zct:aP ["world","deed","cell","before"] HQ (aG Hq):=dg
def Zgh:aP ["world","deed","cell"] Ma (aG Lh):=dg
def Zgi:aP ["world","deed","hand","slot","birth"] Mf (aG Li):=dg
def Zgg:aP ["world","deed","place","noted"] LR (aG Lg):=dg
def Ru:aP ["world","word","place","birth"] yu (aG xR):=dg
def Zyu:aP ["world","deed","act"] Zw2 (aG Zvu):=dg
def Zk:aP ["_law_script","_law_k"] qp (aG Dk):=dg
def Zi:aP ["_law_cell_here","_law_prime","_law_many"] lQ (aG Di):=dg
def Y8:aP ["_law_cell_here","_law_w","_law_letters","_law_size","_law_at","_law_rest","_law_sign"] uh (aG CT):=dg
def Vg:aP ["_law_script","_law_cell_here","_law_hands_here","_law_h","_law_many"] Bg (aG zW):=dg
def Zc:aP ["_law_script","_law_cell_here"] DR (aG Dc):=dg
def Zg:aP ["_law_number_here"] Ea (aG Dg):=dg
def Ze:aP ["_law_n","_law_h","_law_s","_law_many","_law_bulk"] DX (aG De):=dg
def Zf:aP ["_law_n","_law_load_here"] DY (aG Df):=dg
def Zj:aP ["_law_n","_law_hands_here","_law_seed","_law_h","_law_s","_law_t","_law_f","_law_what","_law_g","_law_word_here"] Ec (aG Dj):=dg
def Vi:aP ["_law_n","_law_hands_here","_law_seed","_law_deed_here"] Bj (aG zY):=dg
def Vf:aP ["_law_hands_here","_law_cell_here","_law_seed","_law_rows_here","_law_h","_law_way"] Bf (aG zV):=dg
def Zb:aP ["_law_script","_law_hands_here","_law_rows_here","_law_seed","_law_k","_law_cell_here","_law_n"] DQ (aG CZ):=dg
def Rz:aP ["_law_found"] tQ (aG xW):=dg
def Vh:aP ["_law_found","_law_due","_law_number_here"] Bh (aG zX):=dg
def Zh:aP ["_law_world","_law_deed_here","_law_event_here"] Eb (aG Dh):=dg
def Y9:aP ["_law_cells","_law_births","_law_mark","_law_marks","_law_cell_here","_law_birth"] DN (aG CV):=dg
def RB:aP ["_law_after","_law_before","_law_marks","_law_k"] yx (aG xX):=dg
def Ry:aP ["_law_cells","_law_births","_law_at","_law_cell_here"] yw (aG xV):=dg
def Ve:aP ["_law_sweeper","_law_told","_law_number_here"] Be (aG zU):=dg
def Zd:aP ["_law_cells","_law_fields","_law_births","_law_cell_here","_law_due","_law_birth"] DW (aG Dd):=dg
def Za:aP ["_law_world","_law_way","_law_sweeper","_law_cells","_law_rows_here","_law_grey","_law_state_here","_law_here","_law_due","_law_marks"] DP (aG CW):=dg
def Zvr:aP ["_law_script","_law_way","_law_hands_here","_law_world","_law_row"] ["_law_script"] (aG RG):=dg
section
variable {X:Cx}
def jl{a b:Expr}{d e:TE}{c:Pos}{r:R2}(hr:IxR X r)(f:PE X a d)(hb:PE X b e)(hs:Zc8 b:=by exact λ_ _=>rfl):PE X (.Subscript a b c) (bC r d e):=Zuz hr f hb hs
def pdg{o i:Expr}{b ty:TE}{a:Pos}{k:Nat}(hr:Room k X.A)(c:PE X o b)(d:PE X i ty)(hs:Zuo i:=by exact λ_ _=>rfl):PE X (.Subscript o i a) (Ri b ty):=Zsn (vM hr) c d hs
def oE{a b:Expr}{e f:TE}{d:Pos}{c:CmpOp}{r:R2}(g:zA X (compareOp c) r)(h:PE X a e)(hb:PE X b f)(hm:behindInMarks c b=false:=by exact Mx _):PT X (.Compare a [c] [b] d) (bT (bC r e f)):=Zs4 g h hb hm
def fW(i:Nat){x:Str}{e:Expr}{c:TE}{a b:Pos}(d:X.N.Nodup)(f:PE X e c)(h:X.N[i]? =some x:=by rfl)(hx:Loc X.env.scope x:=by exact Or.inl rfl)(hs:swapsWith e (some (.Name x a)) b.line X.env=pure false:=by rfl)(g:X.fn x=true\/X.env.scope.names.lookup x=some .local:=by first | exact .inl rfl | exact .inr rfl | assumption):PS X (.Assign [.Name x a] e b) (bF c (aO i)):=RW d h hx f hs g
end
structure PAw(X:Cx)(es:List Expr)(t:TA):Prop where
 h:PA X es t
structure PSw(X:Cx)(st:List Stmt)(t:TS):Prop where
 h:PSs X st t
structure PPw(X:Cx)(pos:Pos)(keys:List (Option Expr))(values:List Expr)(trs:List (TE×TE)):Prop where
 h:PPs X pos keys values trs
structure PEw(X:Cx)(e:Expr)(t:TE):Prop where
 h:PE X e t
section
variable {X:Cx}
def Zso:PAw X [] aF:=⟨au⟩
def za{e es te t}(a:PE X e te)(hr:PAw X es t)(hs:starEach (e::es) X.env=(false,eval e X.env)::starEach es X.env:=by rfl):PAw X (e::es) (aj te t):=⟨aa a hr.h hs⟩
def RV{st rest t u}(h1:PS X st t)(h2:PSw X rest u):PSw X (st::rest) (aN t u):=⟨ao h1 h2.h⟩
def Zs5{st t}(h1:PS X st t):PSw X [st] t:=⟨aA h1⟩
def Zs6{i:Nat}{x:Str}{es t b tb p q pos' pos rest u}(a:X.N.Nodup)(c:X.N[i]? =some x)(hx:Loc X.env.scope x)(h:PAw X es t)(hb:PE X b tb)(hp:Zc8 b)(h2:PSw X rest u)(hs:swapsWith (.Subscript (.List es p) b q) (some (.Name x pos')) pos.line X.env=pure false:=by rfl)(d:X.fn x=true\/X.env.scope.names.lookup x=some .local:=by first | exact .inl rfl | exact .inr rfl | assumption):PSw X (.Assign [.Name x pos'] (.Subscript (.List es p) b q) pos::rest) (aN (bF (bC (mz X.K) (gJ t) tb) (aO i)) u):=⟨ao (RW a c hx (Zuz cV (cX h.h) hb hp) hs d) h2.h⟩
end
open PySem.Spec PyProof.Rows in
def ZIw{P:Program}{w:World}{K:aB}{mg:Str->Option Value}{base:Heap}{x a:Str}{st:Stmt}{f:Addr}{fd:FuncData}{N ps:List Str}{sp:Sp}{k:Nat}(F:jz K x a st f fd)(S:aP N ps (aG st))(len:∀vs H Q E,sp vs H Q E->vs.length=ps.length)
  (c:∀(b:Value) (A:Around) (outer:List Env) (s:Shared) (H:Hp) (vs:List V) (Q:VK) (E:XK),Room k (A.deeper (envOfC a (aG st) s.heap.objs.size f b))->sp vs H Q E->
   ∃t,PSw (NK (Uv P w) P w K mg base N a (aG st) f b A outer s H E).nox (lD st) t/\t { nx:=λ_ H'=>Q .non H',rt:=Q } (start N vs) H):wB P w K mg base (Uv P w) (k+1) f fd ps sp:=
 G.fok F S len λb A outer s H vs Q E hr h=>let ⟨t,p,q⟩:=c b A outer s H vs Q E hr h;⟨t,p.h,q⟩
set_option hygiene false in
local macro_rules | `(tactic| walk_at "ok")=>`(tactic| (refine G.fok F sc (λvs H Q E h=>?_) (λcdv A outer s H vs Q E hr h=>?_);· (first | (obtain ⟨_,rfl,_⟩:=h;rfl) | (obtain ⟨_,_,rfl,_⟩:=h;rfl) | (obtain ⟨_,_,_,rfl,_⟩:=h;rfl) | (obtain ⟨_,_,_,_,rfl,_⟩:=h;rfl) | (obtain ⟨_,_,_,_,_,rfl,_⟩:=h;rfl) | (obtain ⟨_,_,_,_,_,_,rfl,_⟩:=h;rfl) | (obtain ⟨_,_,_,_,_,_,_,rfl,_⟩:=h;rfl))))
set_option hygiene false in
local macro_rules | `(tactic| walk_at "okw")=>`(tactic| (refine ZIw F sc (λvs H Q E h=>?_) (λcdv A outer s H vs Q E hr h=>?_);· (first | (obtain ⟨_,rfl,_⟩:=h;rfl) | (obtain ⟨_,_,rfl,_⟩:=h;rfl) | (obtain ⟨_,_,_,rfl,_⟩:=h;rfl) | (obtain ⟨_,_,_,_,rfl,_⟩:=h;rfl) | (obtain ⟨_,_,_,_,_,rfl,_⟩:=h;rfl) | (obtain ⟨_,_,_,_,_,_,rfl,_⟩:=h;rfl) | (obtain ⟨_,_,_,_,_,_,_,rfl,_⟩:=h;rfl))))
set_option hygiene false in
local macro_rules | `(tactic| walk_at "okX")=>`(tactic| (refine G.ZIx F sc (λvs H Q E h=>?_) (λcdv A outer s H vs Q E hr h=>?_);· (first | (obtain ⟨_,rfl,_⟩:=h;rfl) | (obtain ⟨_,_,rfl,_⟩:=h;rfl) | (obtain ⟨_,_,_,rfl,_⟩:=h;rfl) | (obtain ⟨_,_,_,_,rfl,_⟩:=h;rfl) | (obtain ⟨_,_,_,_,_,rfl,_⟩:=h;rfl) | (obtain ⟨_,_,_,_,_,_,rfl,_⟩:=h;rfl) | (obtain ⟨_,_,_,_,_,_,_,rfl,_⟩:=h;rfl))))
set_option hygiene false in
local macro_rules | `(tactic| walk_at "okDX")=>`(tactic| (refine G.ZA2 F sc (λvs H Q E h=>?_) (λcdv A outer s H vs Q E hr h=>?_);· (first | (obtain ⟨_,rfl,_⟩:=h;rfl) | (obtain ⟨_,_,rfl,_⟩:=h;rfl) | (obtain ⟨_,_,_,rfl,_⟩:=h;rfl) | (obtain ⟨_,_,_,_,rfl,_⟩:=h;rfl) | (obtain ⟨_,_,_,_,_,rfl,_⟩:=h;rfl) | (obtain ⟨_,_,_,_,_,_,rfl,_⟩:=h;rfl) | (obtain ⟨_,_,_,_,_,_,_,rfl,_⟩:=h;rfl))))
section
variable (P:Program){w:World}{K:aB}{mg:Str->Option Value}(base:Heap){fJ aK aR bR bB dG fV dN dD iC kZ jr jq fU iM eU nP pH dF cH dj yO gF iy jM d7 iW nQ iU jL t7 yN gP vP tZ nO gO cT cQ yL gD GQ iY lY gM cR iV GP bV yM oM bO bW cI dJ dM dI gQ dB d9 j7 jo gA fL gZ jD jC ir ig ie fB gW gY gU gB Wz gj d8 iB jf jQ jV jT jU jX ji je jP fM jg jW jN gH gG iZ jR jO:Addr}(XQ:Cs)(T:Txt w K mg XQ.C XQ.H XQ.D XQ.S XQ.W XQ.F XQ.E XQ.L XQ.K fJ aK aR bR bB dG fV dN dD iC kZ jr jq fU iM eU nP pH dF cH dj yO gF iy jM d7 iW nQ iU jL t7 yN gP vP tZ nO gO cT cQ yL gD GQ iY lY gM cR iV GP bV yM oM bO bW cI dJ dM dI gQ dB d9 j7 jo gA fL gZ jD jC ir ig ie fB gW gY gU gB Wz gj d8 iB jf jQ jV jT jU jX ji je jP fM jg jW jN gH gG iZ jR jO)
include T
theorem pJ:qC K XQ:=⟨⟨T.di,T.dX,T.mO,T.mL,T.jK,T.eX,T.cM,T.oG,T.bN,T.jm,T.mK,T.QM⟩,T.Zf0,T.uU,T.uT,T.tV,T.tU,T.pN,T.Zkh,T.wW,T.uX,T.Zkg,T.q8,T.uW,T.Ui,T.pP,T.pQ,T.qZ,T.oY,T.qW,T.uV,T.qX,T.pO,T.pR,T.oX,T.qY⟩
theorem Mu{fd:FuncData}(F:jz K "__init__" "Cell.__init__" uE dG fd):lF P w K mg base 1 dG fd uN (xJ XQ.C):=by
 have sc:=Lb;have tx:=pJ _ T;walk_at "ok"
 ·refine⟨sE K,(ao (cF (pv 0) (pv 1) rfl)
   (ao (cF (pv 0) (pv 3) rfl)
   (ao (cF (pv 0) (pv 4) rfl)
   (ao (cF (pv 0) (az) rfl)
   (aA (cF (pv 0) (bh R3 (cX (aa (gn) au)) (pv 2)) rfl)))))),?_⟩
  obtain⟨z0,z1,z2,z3,z4,rfl,q⟩:=h;exact Oh tx.c q
theorem VG{fd:FuncData}(F:jz K "units" "Cell.units" z7 fV fd):lF P w K mg base 1 fV fd ["self"] (m7 XQ.C):=by
 have sc:=Vl;have tx:=pJ _ T;walk_at "ok"
 ·refine⟨yq K,(aA (aM (bh lW (bh lW (az) (cP G.cZ (by rfl) T.lM G.boot_len (aa (aJ (pv 0) rfl) au))) (aJ (pv 0) rfl)))),?_⟩;obtain⟨z0,rfl,q⟩:=h;exact W6 tx.c q
theorem Jz{fd:FuncData}(F:jz K "has_field" "Cell.has_field" rW dN fd):lF P w K mg base 1 dN fd sU (xu XQ):=by
 have sc:=Jm;have tx:=pJ _ T;walk_at "ok"
 ·refine⟨qP K,(aA (aM (Zoh Zz0 Gx (az) (pv 1) (cP G.cZ (by rfl) T.lM G.boot_len (aa (aJ (pv 0) rfl) au))))),?_⟩;obtain⟨z0,z1,rfl,q⟩:=h;exact KN tx q
theorem Mr{fd:FuncData}(F:jz K "__init__" "Heap.__init__" uC dD fd):lF P w K mg base 1 dD fd uL (xF XQ.H):=by
 have sc:=K9;have tx:=pJ _ T;walk_at "ok"
 ·refine⟨sr K,(ao (cF (pv 0) (pv 1) rfl)
   (ao (cF (pv 0) (cX au) rfl)
   (ao (cF (pv 0) (az) rfl)
   (aA (cF (pv 0) (az) rfl))))),?_⟩
  obtain⟨z0,z1,rfl,q⟩:=h;exact N5 tx.c q
theorem Za2{fd:FuncData}{Nz yK Zbm Zen:FuncData}(F:G.Zyl K "make" "Heap.make" wL iC fd)(Ca:Hh P w K mg base 1 dG Nz uN (xJ XQ.C))(nD:Hh P w K mg base 1 fV yK ["self"] (m7 XQ.C))(Pz:Hh P w K mg base 1 jq Zbm ["self"] (xG XQ.H))(Uu:Hh P w K mg base 1 kZ Zen HR (BK K XQ.H)):lF P w K mg base 3 iC fd Ed (xx K XQ.C XQ.H bR):=by
 have sc:=Zm;have tx:=pJ _ T;walk_at "okDX"
 ·refine⟨Aw K XQ.C bR XQ.H (xJ XQ.C) (m7 XQ.C) (xG XQ.H) (BK K XQ.H) E,(ao (fW 4 sc.nd (Bc T.QH Ca.g (hr.mono (by decide)) rfl T.Zpd Ca.b .nil G.fX (aa (bh lW (aJ (pv 0) rfl) (az)) (aa (pv 1) (aa (pv 2) (aa (pv 3) au))))))
   (ao (cG (oE Zjv (nM (pv 4) T.di T.tW nD.g (hr.mono (by decide)) nD.b .nil G.fX) (nM (pv 0) T.cM T.JG Pz.g (hr.mono (by decide)) Pz.b .nil G.fX)) (aA (G.Jp rfl rfl T.Zpb T.Ys (aa (bH) au) (λ_ _ _ _ _ _ _ I hx hE=>G.Zz I hx hE))) bx)
   (ao (cF (pv 0) (aJ (pv 4) rfl) rfl)
   (ao (cF (pv 0) (bh lW (aJ (pv 0) rfl) (nM (pv 4) T.di T.tW nD.g (hr.mono (by decide)) nD.b .nil G.fX)) rfl)
   (aA (aM (tM (pv 0) T.cM T.Ox Uu.g (hr.mono (by decide)) Uu.b .nil G.fX (aa (pv 4) au)))))))),?_⟩
  obtain⟨z0,z1,z2,z3,rfl,q⟩:=h;exact Zc9 tx.c q
theorem Zdd{fd:FuncData}(F:jz K "lay" "Heap.lay" Hs kZ fd):lF P w K mg base 1 kZ fd HR (BK K XQ.H):=by
 have sc:=Zcv;have tx:=pJ _ T;walk_at "ok"
 ·refine⟨Dv K,(ao (cG (oE (G.Zla (vM hr)) (gn) (aJ (pv 0) rfl) (by with_unfolding_all rfl)) (ao (pM (Dz PySem.F.plainAttrs_list PySem.F.slot_list_append PySem.F.type_list_append qt (aJ (pv 0) rfl) (aa (pv 1) au)))
   (aA (aM (bh Eg (cP G.cZ (by rfl) T.lM G.boot_len (aa (aJ (pv 0) rfl) au)) (az))))) bx)
   (ao (fW 2 sc.nd (Dz PySem.F.plainAttrs_list PySem.F.slot_list_index PySem.F.type_list_index (G.Zli (vM hr)) (aJ (pv 0) rfl) (aa (gn) au)))
   (ao (Ba (pv 1) (Bb (aJ (pv 0) rfl) (pv 2) set_list))
   (aA (aM (pv 2)))))),?_⟩
  obtain⟨z0,z1,rfl,q⟩:=h;exact Zf8 tx.c q
theorem Za4{fd:FuncData}(F:jz K "back" "Heap.back" Dm jr fd){yK:FuncData}(nD:Hh P w K mg base 1 fV yK ["self"] (m7 XQ.C)):lF P w K mg base 2 jr fd Ef (uv XQ.C XQ.H):=by
 have sc:=Zo;have tx:=pJ _ T;walk_at "ok"
 ·refine⟨Az K XQ.C (m7 XQ.C),(ao (fW 2 sc.nd (jl cV (aJ (pv 0) rfl) (pv 1)))
   (ao (cF (pv 0) (bh Eg (aJ (pv 0) rfl) (nM (pv 2) T.di T.tW nD.g (hr.mono (by decide)) nD.b .nil G.fX)) rfl)
   (ao (Ba (gn) (Bb (aJ (pv 0) rfl) (pv 1) set_list))
   (aA (aM (aJ (pv 2) rfl)))))),?_⟩
  obtain⟨z0,z1,rfl,q⟩:=h;exact Zcb tx.c q
theorem Za3{fd:FuncData}(F:jz K "free" "Heap.free" Dl jq fd):lF P w K mg base 1 jq fd ["self"] (xG XQ.H):=by
 have sc:=Zn;have tx:=pJ _ T;walk_at "ok"
 ·refine⟨Ay K,(aA (aM (bh Eg (aJ (pv 0) rfl) (aJ (pv 0) rfl)))),?_⟩;obtain⟨z0,rfl,q⟩:=h;exact Zca tx.c q
theorem VF{fd:FuncData}(F:jz K "there" "Heap.there" z6 fU fd):lF P w K mg base 1 fU fd ["self"] (m6 XQ.H):=by
 have sc:=Vk;have tx:=pJ _ T;walk_at "ok"
 ·refine⟨yp K,(aA (aM (G.Oq (cns:=["self"]) [0] (sG rfl T.tH (aa (cP G.cZ (by rfl) T.lM G.boot_len (aa (aJ (pv 0) rfl) au)) au)) (λ_ _ _ _ _=>(G.ZK (oE G.Eh (jl cV (aJ (pv 1) rfl) (pv 0)) (gn)))) (λ_ _ _ _ _=>(pv 0)) rfl rfl (by repeat (first | exact trivial | refine⟨rfl,?_⟩)) (by repeat (first | exact trivial | refine⟨rfl,?_⟩)) rfl (by decide +kernel) rfl (by decide +kernel) (by decide +kernel) rfl (by decide +kernel)))),?_⟩;obtain⟨z0,rfl,q⟩:=h;exact WY tx.c q
theorem Zhq{fd:FuncData}(F:jz K "cell_at" "cell_at" Ls iM fd):lF P w K mg base 1 iM fd qm (dZ XQ.H):=by
 have sc:=Zgo;have tx:=pJ _ T;walk_at "ok"
 ·refine⟨HN K,(ao (cG (PW.pt (qQ (oE G.Fz (pv 1) (gn)) (qQ (oE Gx (pv 1) (az)) (pB (oE Zz1 (pv 1) (cP G.cZ (by rfl) T.lM G.boot_len (aa (aJ (pv 0) rfl) au))))))) (aA (aM (gn))) bx)
   (aA (aM (jl cV (aJ (pv 0) rfl) (pv 1))))),?_⟩
  obtain⟨z0,z1,rfl,q⟩:=h;exact Zj7 tx q
theorem Zdc{fd:FuncData}(F:jz K "birth_at" "birth_at" Hr eU fd){kY:FuncData}(mH:Hh P w K mg base 1 iM kY qm (dZ XQ.H)):lF P w K mg base 2 eU fd lV (cJ XQ):=by
 have sc:=Zcu;have tx:=pJ _ T;walk_at "ok"
 ·refine⟨Du K (dZ XQ.H),(ao (fW 2 sc.nd (gh mH hr T.sX (aa (pv 0) (aa (pv 1) au))))
   (ao (cG (oE G.Fz (pv 2) (gn)) (aA (aM (gn))) bx)
   (aA (aM (aJ (pv 2) rfl))))),?_⟩
  obtain⟨z0,z1,rfl,q⟩:=h;exact Zf2 tx q
theorem Zhg{fd:FuncData}(F:jz K "reached" "reached" Le nP fd){Zmh:FuncData}(Zfa:Hh P w K mg base 2 pH Zmh RZ (Ff K XQ.C XQ.H)):lF P w K mg base 3 nP fd LK (FZ K XQ.C XQ.H):=by
 have sc:=Zge;have tx:=pJ _ T;walk_at "ok"
 ·refine⟨z9 K (Ff K XQ.C XQ.H),(ao (fW 2 sc.nd (cX au))
   (ao (nR PassesOwn.never rfl (G.ZG rfl T.qj (aa (pv 1) au)) (ZJ rfl (uf (fQ (i:=3) sc.nd rfl (Or.inl rfl)) (uf (fQ (i:=4) sc.nd rfl (Or.inl rfl)) QB)))
   (aA (pM (Dz PySem.F.plainAttrs_list PySem.F.slot_list_extend PySem.F.type_list_extend My (pv 2) (aa (gh Zfa hr T.S7 (aa (pv 0) (aa (pv 4) (aa (cN (aa (pv 3) au)) au)))) au)))))
   (ao (fW 5 sc.nd (Js))
   (ao (fW 6 sc.nd (az))
   (ao (Zo1 PassesOwn.never (oE Gx (pv 6) (cP G.cZ (by rfl) T.lM G.boot_len (aa (pv 2) au))) (ao (fW 7 sc.nd (jl bL (jl cV (pv 2) (pv 6)) (az)))
   (ao (fW 8 sc.nd (jl bL (jl cV (pv 2) (pv 6)) (az)))
   (ao (fW 6 sc.nd (bh lW (pv 6) (az)))
   (aA (cG (Zo0 (G.Zh6 (vM hr) (pv 7) (pv 5))) (ao (Fw (vM hr) (pv 5) (pv 7) (pv 8) rfl)
   (aA (pM (Dz PySem.F.plainAttrs_list PySem.F.slot_list_extend PySem.F.type_list_extend My (pv 2) (aa (gh Zfa hr T.S7 (aa (pv 0) (aa (aJ (jl cV (aJ (pv 0) rfl) (pv 7)) rfl) (aa (pv 8) au)))) au))))) bx))))))
   (aA (aM (sH (G.Zja rfl) (by rfl) T.uy G.boot_list (aa (G.Zog (pv 5)) au))))))))),?_⟩
  obtain⟨z0,z1,z2,z3,z4,rfl,q⟩:=h;exact Zgx tx q
theorem Zlc{fd:FuncData}(F:jz K "onward" "onward" RD pH fd){kY:FuncData}(mH:Hh P w K mg base 1 iM kY qm (dZ XQ.H)):lF P w K mg base 2 pH fd RZ (Ff K XQ.C XQ.H):=by
 have sc:=Zky;walk_at "ok"
 ·refine⟨Fv K (dZ XQ.H),(aA (aM (G.Zh5 (cns:=["heap","way"]) [0,2] (G.ZG rfl T.qj (aa (pv 1) au)) (λ_ _ _ _ _=>(G.ZK (oE G.Eh (gh mH hr T.sX (aa (pv 2) (aa (pv 1) au))) (gn)))) (λ_ _ _ _ _=>(cN (aa (pv 1) (aa (bh Zsq (pv 3) (cN (aa (pv 0) au))) au)))) rfl rfl (by repeat (first | exact trivial | refine⟨rfl,?_⟩)) (by repeat (first | exact trivial | refine⟨rfl,?_⟩)) rfl (by decide +kernel) rfl (by decide +kernel) (by decide +kernel) rfl rfl (by decide +kernel)))),?_⟩;obtain⟨z0,z1,z2,z3,z4,z5,rfl,q⟩:=h;exact Zlb q
theorem Ms{fd:FuncData}(F:jz K "__init__" "Hand.__init__" uD dF fd):lF P w K mg base 1 dF fd uM (xH XQ.D):=by
 have sc:=La;have tx:=pJ _ T;walk_at "ok"
 ·refine⟨su K,(ao (cF (pv 0) (pv 1) rfl)
   (aA (cF (pv 0) (bh R3 (cX (aa (gn) au)) (pv 2)) rfl))),?_⟩
  obtain⟨z0,z1,z2,rfl,q⟩:=h;exact N6 tx q
theorem Gh{fd:FuncData}(F:jz K "__init__" "Sweeper.__init__" pX cH fd):lF P w K mg base 1 cH fd ["self"] (rF XQ.S):=by
 have sc:=Gf;have tx:=pJ _ T;walk_at "ok"
 ·refine⟨pq K,(ao (cF (pv 0) (az) rfl)
   (ao (cF (pv 0) (bH) rfl)
   (ao (cF (pv 0) (cX au) rfl)
   (ao (cF (pv 0) (az) rfl)
   (ao (cF (pv 0) (az) rfl)
   (ao (cF (pv 0) (az) rfl)
   (ao (cF (pv 0) (az) rfl)
   (ao (cF (pv 0) (az) rfl)
   (ao (cF (pv 0) (az) rfl)
   (ao (cF (pv 0) (az) rfl)
   (aA (cF (pv 0) (gn) rfl)))))))))))),?_⟩
  obtain⟨z0,rfl,q⟩:=h;exact Gq tx q
theorem Jv{fd:FuncData}{Ny Nx Gn:FuncData}(F:jz K "__init__" "World.__init__" rP dj fd)(BZ:Hh P w K mg base 1 dF Ny uM (xH XQ.D))(BX:Hh P w K mg base 1 dD Nx uL (xF XQ.H))(wA:Hh P w K mg base 1 cH Gn ["self"] (rF XQ.S)):lF P w K mg base 3 dj fd sI (u6 XQ):=by
 have sc:=Ji;have tx:=pJ _ T;walk_at "ok"
 ·refine⟨qL K XQ.D XQ.H XQ.S (xH XQ.D) (xF XQ.H) (rF XQ.S),(ao (cF (pv 0) (Bc T.QF BX.g (hr.mono (by decide)) rfl T.Zp9 BX.b .nil G.fX (aa (pv 1) au)) rfl)
   (ao (cF (pv 0) (pv 2) rfl)
   (ao (cF (pv 0) (G.Zh5 (cns:=[]) [] (jF (pv 3)) (λ_ _ _ _ _=>G.Dy) (λ_ _ _ _ _=>(Bc T.QG BZ.g (hr.mono (by decide)) rfl T.Zpa BZ.b .nil G.fX (aa (pv 0) (aa (pv 1) au)))) rfl rfl (by repeat (first | exact trivial | refine⟨rfl,?_⟩)) (by repeat (first | exact trivial | refine⟨rfl,?_⟩)) rfl (by decide +kernel) rfl (by decide +kernel) (by decide +kernel) rfl rfl (by decide +kernel)) rfl)
   (ao (cF (pv 0) (Js) rfl)
   (aA (cF (pv 0) (Zoe T.Bm wA.g (hr.mono (by decide)) rfl T.XF wA.b .nil G.fX) rfl)))))),?_⟩
  obtain⟨z0,z1,z2,z3,rfl,q⟩:=h;exact Kw tx q
theorem Zsw{fd:FuncData}(F:jz K "held" "held" Zgt yO fd):lF P w K mg base 1 yO fd ["world"] (Zc6 XQ):=by
 have sc:=Zro;have tx:=pJ _ T;walk_at "ok"
 ·refine⟨Zx K,(aA (aM (G.Oq (cns:=[]) [] (jF (aJ (pv 0) rfl)) (λ_ _ _ _ _=>G.Dy) (λ_ _ _ _ _=>(sH G.vR (by rfl) T.uy G.boot_list (aa (aJ (pv 0) rfl) au))) rfl rfl (by repeat (first | exact trivial | refine⟨rfl,?_⟩)) (by repeat (first | exact trivial | refine⟨rfl,?_⟩)) rfl (by decide +kernel) rfl (by decide +kernel) (by decide +kernel) rfl (by decide +kernel)))),?_⟩;obtain⟨z0,rfl,q⟩:=h;exact Ztv tx q
theorem Sd{fd:FuncData}(F:jz K "births_held" "births_held" xU gF fd){rA:FuncData}(uw:Hh P w K mg base 3 iy rA ug (jY XQ)):lF P w K mg base 4 gF fd ["world"] (vZ XQ):=by
 have sc:=Rx;have tx:=pJ _ T;walk_at "ok"
 ·refine⟨vD K (jY XQ),(aA (aM (G.Oq (cns:=["world"]) [0] (jF (aJ (pv 0) rfl)) (λ_ _ _ _ _=>G.Dy) (λ_ _ _ _ _=>(gh uw hr T.xj (aa (aJ (pv 1) rfl) (aa (aJ (pv 0) rfl) au)))) rfl rfl (by repeat (first | exact trivial | refine⟨rfl,?_⟩)) (by repeat (first | exact trivial | refine⟨rfl,?_⟩)) rfl (by decide +kernel) rfl (by decide +kernel) (by decide +kernel) rfl (by decide +kernel)))),?_⟩;obtain⟨z0,rfl,q⟩:=h;exact Um tx q
theorem ZX{fd:FuncData}(F:jz K "births_at" "births_at" CQ iy fd){eO:FuncData}(fY:Hh P w K mg base 2 eU eO lV (cJ XQ)):lF P w K mg base 3 iy fd ug (jY XQ):=by
 have sc:=Y7;have tx:=pJ _ T;walk_at "ok"
 ·refine⟨Ad K (cJ XQ),(aA (aM (G.Oq (cns:=["heap"]) [0] (jF (pv 1)) (λ_ _ _ _ _=>G.Dy) (λ_ _ _ _ _=>(gh fY hr T.mW (aa (pv 1) (aa (pv 0) au)))) rfl rfl (by repeat (first | exact trivial | refine⟨rfl,?_⟩)) (by repeat (first | exact trivial | refine⟨rfl,?_⟩)) rfl (by decide +kernel) rfl (by decide +kernel) (by decide +kernel) rfl (by decide +kernel)))),?_⟩;obtain⟨z0,z1,rfl,q⟩:=h;exact Zbp tx q
theorem ZS{fd:FuncData}(F:jz K "looked_at" "looked_at" CG jM fd):lF P w K mg base 1 jM fd DK (xr XQ):=by
 have sc:=Y4;have tx:=pJ _ T;walk_at "ok"
 ·refine⟨Aa K,(aA (aM (Fy lG (bh R4 (bh Zhc (aJ (aJ (pv 0) rfl) rfl) (pv 1)) (az)) (az) (Mx _)))),?_⟩;obtain⟨z0,z1,rfl,q⟩:=h;exact Zab tx q
theorem ZV{fd:FuncData}(F:jz K "has_sense" "has_sense" CJ d7 fd):lF P w K mg base 1 d7 fd lO (cL XQ):=by
 have sc:=Y5;have tx:=pJ _ T;walk_at "ok"
 ·refine⟨Ab K,(aA (aM (Fy lG (aJ (pv 1) rfl) (aJ (aJ (pv 0) rfl) rfl) (Mx _)))),?_⟩;obtain⟨z0,z1,rfl,q⟩:=h;exact Zb4 tx q
theorem Vu{fd:FuncData}(F:jz K "is_walking" "is_walking" zR iW fd):lF P w K mg base 1 iW fd ["world"] (uZ XQ):=by
 have sc:=Vc;have tx:=pJ _ T;walk_at "ok"
 ·refine⟨ye K,(aA (aM (Fy Mm (aJ (aJ (pv 0) rfl) rfl) (cN (aa (bH) (aa (bH) au))) (by with_unfolding_all rfl)))),?_⟩;obtain⟨z0,rfl,q⟩:=h;exact V2 tx q
theorem Zhh{fd:FuncData}(F:jz K "mark_of" "mark_of" Lf nQ fd){eZ:FuncData}(gm:Hh P w K mg base 1 d7 eZ lO (cL XQ)):lF P w K mg base 2 nQ fd LQ (Gb XQ):=by
 have sc:=Zgf;have tx:=pJ _ T;walk_at "ok"
 ·refine⟨Hu K (cL XQ),(ao (fW 2 sc.nd (aJ (pv 0) rfl))
   (ao (fW 3 sc.nd (gh gm hr T.mQ (aa (pv 0) (aa (jl cV (aJ (aJ (pv 0) rfl) rfl) (pv 1)) au))))
   (ao (cG (oE lG (aJ (pv 2) rfl) (bH)) (aA (aM (bH))) bx)
   (ao (cG (oE lG (aJ (pv 2) rfl) (bH)) (aA (aM (Zd1 (jA (pv 3)) (bH) (bH)))) bx)
   (ao (cG (oF (jA (pv 3))) (aA (aM (bH))) bx)
   (aA (aM (Zd1 (oE Mm (pv 1) (aJ (pv 2) rfl) (by with_unfolding_all rfl)) (bH) (bH))))))))),?_⟩
  obtain⟨z0,z1,rfl,q⟩:=h;exact Zhu tx q
theorem Vq{fd:FuncData}{yJ Zb8:FuncData}(F:jz K "told_cells" "told_cells" zN iU fd)(rG:Hh P w K mg base 1 fU yJ ["self"] (m6 XQ.H))(Zf9:Hh P w K mg base 4 jL Zb8 DG (xq XQ)):lF P w K mg base 5 iU fd ["world"] (Ig XQ):=by
 have sc:=U8;have tx:=pJ _ T;walk_at "ok"
 ·refine⟨xY K XQ.H (m6 XQ.H) (xq XQ),(aA (aM (G.Oq (cns:=["world"]) [0] (jF (nM (aJ (pv 0) rfl) T.cM T.yC rG.g (hr.mono (by decide)) rG.b .nil G.fX)) (λ_ _ _ _ _=>G.Dy) (λ_ _ _ _ _=>(gh Zf9 hr T.Oz (aa (pv 1) (aa (pv 0) au)))) rfl rfl (by repeat (first | exact trivial | refine⟨rfl,?_⟩)) (by repeat (first | exact trivial | refine⟨rfl,?_⟩)) rfl (by decide +kernel) rfl (by decide +kernel) (by decide +kernel) rfl (by decide +kernel)))),?_⟩;obtain⟨z0,rfl,q⟩:=h;exact UJ tx q
theorem ZR{fd:FuncData}{rA Zim:FuncData}(F:jz K "told_cell" "told_cell" Cz jL fd)(uw:Hh P w K mg base 3 iy rA ug (jY XQ))(Zmz:Hh P w K mg base 2 nQ Zim LQ (Gb XQ)):lF P w K mg base 4 jL fd DG (xq XQ):=by
 have sc:=Y0;have tx:=pJ _ T;walk_at "ok"
 ·refine⟨z8 K (jY XQ) (Gb XQ),(ao (fW 2 sc.nd (jl cV (aJ (aJ (pv 0) rfl) rfl) (pv 1)))
   (ao (fW 3 sc.nd (gh uw hr T.xj (aa (aJ (pv 0) rfl) (aa (aJ (pv 2) rfl) au))))
   (aA (aM (cN (aa (pv 1) (aa (aJ (pv 2) rfl) (aa (aJ (pv 2) rfl) (aa (aJ (pv 2) rfl) (aa (pv 3) (aa (gh Zmz hr T.XD (aa (pv 0) (aa (pv 1) au))) au))))))))))),?_⟩
  obtain⟨z0,z1,rfl,q⟩:=h;exact Yy tx q
theorem Zoo{fd:FuncData}{Kh Gp:FuncData}(F:jz K "begin" "begin" Zr t7 fd)(zF:Hh P w K mg base 2 dJ Kh sO (oR 0))(nA:Hh P w K mg base 1 bO Gp qb (oR 1)):lF P w K mg base 3 t7 fd ["world"] (Q7 XQ):=by
 have sc:=Znl;have tx:=pJ _ T;walk_at "ok"
 ·refine⟨RT K XQ.E XQ.F XQ.L (oR 0) (oR 1),(ao (fW 1 sc.nd (aJ (pv 0) rfl))
   (ao (cF (pv 1) (bh Eg (az) (aJ (pv 1) rfl)) rfl)
   (ao (cF (pv 1) (bh lW (aJ (pv 1) rfl) (az)) rfl)
   (ao (cF (pv 1) (bH) rfl)
   (ao (cF (pv 1) (cX au) rfl)
   (ao (cF (pv 1) (G.wO (tM (aJ (aJ (pv 0) rfl) rfl) T.EY T.wZ zF.g (hr.mono (by decide)) zF.b .nil G.fX (aa (cP G.cZ (by rfl) T.lM G.boot_len (aa (aJ (pv 0) rfl) au)) au)) (G.wO (tM (aJ (aJ (pv 0) rfl) rfl) T.Ks T.zp nA.g (hr.mono (by decide)) nA.b .nil G.fX (aa (cP G.cZ (by rfl) T.lM G.boot_len (aa (aJ (pv 0) rfl) au)) au)) (tM (aJ (aJ (pv 0) rfl) rfl) T.Kr T.zm nA.g (hr.mono (by decide)) nA.b .nil G.fX (aa (cP G.cZ (by rfl) T.lM G.boot_len (aa (aJ (pv 0) rfl) au)) au)))) rfl)
   (ao (cF (pv 1) (az) rfl)
   (ao (cF (pv 1) (az) rfl)
   (aA (cF (pv 1) (az) rfl)))))))))),?_⟩
  obtain⟨z0,rfl,q⟩:=h;exact Zr3 tx q
theorem Zsv{fd:FuncData}{kY eZ:FuncData}(F:jz K "note" "note" Zgs yN fd)(mH:Hh P w K mg base 1 iM kY qm (dZ XQ.H))(gm:Hh P w K mg base 1 d7 eZ lO (cL XQ)):lF P w K mg base 2 yN fd Zh9 (Zc5 XQ):=by
 have sc:=Zrn;have tx:=pJ _ T;walk_at "ok"
 ·refine⟨Zw K (dZ XQ.H) (cL XQ),(ao (fW 2 sc.nd (aJ (pv 0) rfl))
   (ao (fW 3 sc.nd (gh mH hr T.sX (aa (aJ (pv 0) rfl) (aa (pv 1) au))))
   (ao (cG (PW.pt (qQ (oE Gw (aJ (pv 2) rfl) (bH)) (qQ (oE G.Fz (pv 3) (gn)) (pB (jA (gh gm hr T.mQ (aa (pv 0) (aa (pv 3) au)))))))) (aA (aM (gn))) bx)
   (ao (cF (pv 3) (aJ (pv 2) rfl) rfl)
   (ao (pM (Dz PySem.F.plainAttrs_list PySem.F.slot_list_append PySem.F.type_list_append qt (aJ (pv 2) rfl) (aa (pv 1) au)))
   (aA (aM (aJ (pv 3) rfl)))))))),?_⟩
  obtain⟨z0,z1,rfl,q⟩:=h;exact Zt1 tx q
theorem Zd9{fd:FuncData}(F:jz K "note_all" "note_all" Hl gP fd){Zuc:FuncData}(Zyi:Hh P w K mg base 2 yN Zuc Zh9 (Zc5 XQ)):lF P w K mg base 3 gP fd p8 (fD XQ):=by
 have sc:=Zcr;have tx:=pJ _ T;walk_at "ok"
 ·refine⟨Dr K (Zc5 XQ),(ao (fW 2 sc.nd (cX au))
   (ao (nR PassesOwn.never rfl (jF (pv 1)) (fQ (i:=3) sc.nd rfl (Or.inl rfl))
   (ao (fW 4 sc.nd (gh Zyi hr T.Zp4 (aa (pv 0) (aa (pv 3) au))))
   (aA (cG (oE G.Eh (pv 4) (gn)) (aA (pM (Dz PySem.F.plainAttrs_list PySem.F.slot_list_append PySem.F.type_list_append qt (pv 2) (aa (pv 4) au)))) bx))))
   (aA (aM (pv 2))))),?_⟩
  obtain⟨z0,z1,rfl,q⟩:=h;exact Zdf tx q
theorem Zsx{fd:FuncData}{kY eZ:FuncData}(F:jz K "gone" "gone" Zgu vP fd)(mH:Hh P w K mg base 1 iM kY qm (dZ XQ.H))(gm:Hh P w K mg base 1 d7 eZ lO (cL XQ)):lF P w K mg base 2 vP fd ZM (Ih XQ):=by
 have sc:=Zrp;have tx:=pJ _ T;walk_at "ok"
 ·refine⟨Zy K (dZ XQ.H) (cL XQ),(ao (fW 3 sc.nd (gh mH hr T.sX (aa (aJ (pv 0) rfl) (aa (pv 1) au))))
   (ao (cG (PW.pt (qQ (oE G.Fz (pv 3) (gn)) (pB (oE Gw (aJ (pv 3) rfl) (pv 2))))) (aA (aM (qR))) bx)
   (aA (aM ((Zoj (Fy lG (aJ (aJ (pv 0) rfl) rfl) (bH) (Mx _)) (Zoc (Zod (gh gm hr T.mQ (aa (pv 0) (aa (pv 3) au))))))))))),?_⟩
  obtain⟨z0,z1,z2,rfl,q⟩:=h;exact Zu5 tx q
theorem Zon{fd:FuncData}{Zud Zik:FuncData}(F:jz K "roots" "roots" Zq tZ fd)(Zyj:Hh P w K mg base 1 yO Zud ["world"] (Zc6 XQ))(Zmx:Hh P w K mg base 3 nO Zik LC (FW XQ)):lF P w K mg base 4 tZ fd ["world"] (QW XQ):=by
 have sc:=Znk;have tx:=pJ _ T;walk_at "ok"
 ·refine⟨RQ K (Zc6 XQ) (FW XQ) H,(aA (aM (bh qd (gh Zyj hr T.Zp5 (aa (pv 0) au)) (cX (aa (G.Zsl (G.Zh5 (cns:=["world"]) [0] (G.Zse (G.Zl8 (aJ (pv 0) rfl))) (λ_ _ _ _ _=>G.Dy) (λ_ _ _ _ _=>(gh Zmx hr T.Xz (aa (pv 2) (aa (pv 0) (aa (pv 1) au))))) rfl rfl (by repeat (first | exact trivial | refine⟨rfl,?_⟩)) (by repeat (first | exact trivial | refine⟨rfl,?_⟩)) rfl (by decide +kernel) rfl (by decide +kernel) (by decide +kernel) rfl rfl (by decide +kernel))) au))))),?_⟩;obtain⟨z0,rfl,q⟩:=h;exact Znq tx q
theorem Zhf{fd:FuncData}{Zba eZ Wr:FuncData}(F:jz K "root_of" "root_of" Ld nO fd)(Zjg:Hh P w K mg base 2 vP Zba ZM (Ih XQ))(gm:Hh P w K mg base 1 d7 eZ lO (cL XQ))(Zcd:Hh P w K mg base 1 iW Wr ["world"] (uZ XQ)):lF P w K mg base 3 nO fd LC (FW XQ):=by
 have sc:=Zgd;have tx:=pJ _ T;walk_at "ok"
 ·refine⟨Ht K (Ih XQ) (cL XQ) (uZ XQ),(ao (cG (jA (gh Zjg hr T.Zi0 (aa (pv 0) (aa (pv 1) (aa (pv 2) au))))) (aA (aM (gn))) bx)
   (ao (cG (PW.pt (ZD (jA (gh Zcd hr T.JM (aa (pv 0) au))) (Qy (oF (jA (gh gm hr T.mQ (aa (pv 0) (aa (jl cV (aJ (aJ (pv 0) rfl) rfl) (pv 1)) au)))))))) (aA (aM (gn))) bx)
   (aA (aM (pv 1))))),?_⟩
  obtain⟨z0,z1,z2,rfl,q⟩:=h;exact Zgw tx q
theorem Vt{fd:FuncData}(F:jz K "note_hands" "note_hands" zQ gO fd){lR:FuncData}(nj:Hh P w K mg base 3 gP lR p8 (fD XQ)):lF P w K mg base 4 gO fd uR (lU XQ):=by
 have sc:=Vb;have tx:=pJ _ T;walk_at "ok"
 ·refine⟨yd K (fD XQ),(ao (fW 2 sc.nd (cX au))
   (ao (nR PassesOwn.never rfl (G.ZG rfl T.qj (aa (aJ (pv 0) rfl) au)) (ZJ rfl (uf (fQ (i:=3) sc.nd rfl (Or.inl rfl)) (uf (fQ (i:=4) sc.nd rfl (Or.inl rfl)) QB)))
   (aA (cG (oE lG (bh R4 (bh Zhc (pv 1) (pv 3)) (az)) (az)) (aA (pM (Dz PySem.F.plainAttrs_list PySem.F.slot_list_extend PySem.F.type_list_extend My (pv 2) (aa (gh nj hr T.sW (aa (pv 0) (aa (aJ (pv 4) rfl) au))) au)))) bx)))
   (aA (aM (pv 2))))),?_⟩
  obtain⟨z0,z1,rfl,q⟩:=h;exact VH tx q
theorem Qm{fd:FuncData}{Zqn yI:FuncData}(F:jz K "step_at_rest" "step_at_rest" vp cT fd)(Zur:Hh P w K mg base 3 t7 Zqn ["world"] (Q7 XQ))(BP:Hh P w K mg base 4 gO yI uR (lU XQ)):lF P w K mg base 5 cT fd ["world"] (bQ XQ (QC "rest")):=by
 have sc:=Qj;have tx:=pJ _ T;walk_at "ok"
 ·refine⟨uH K (Q7 XQ) (lU XQ),(ao (pM (gh Zur hr T.Zjx (aa (pv 0) au)))
   (ao (fW 1 sc.nd (gh BP hr T.Bq (aa (pv 0) (aa (aJ (aJ (pv 0) rfl) rfl) au))))
   (aA (aM (cN (aa (bH) (aa (aJ (aJ (pv 0) rfl) rfl) (aa (pv 1) au)))))))),?_⟩
  obtain⟨z0,rfl,q⟩:=h;exact Qd tx q
theorem Qk{fd:FuncData}{Ua Zua:FuncData}(F:jz K "step_in_walk" "step_in_walk" vm cQ fd)(W2:Hh P w K mg base 7 gD Ua ["world"] (bQ XQ Zd5))(Zyh:Hh P w K mg base 4 yL Zua ["world"] (bQ XQ Zd3)):lF P w K mg base 8 cQ fd ["world"] (bQ XQ (QC "walk")):=by
 have sc:=Qh;have tx:=pJ _ T;walk_at "ok"
 ·refine⟨uF K (bQ XQ Zd5) (bQ XQ Zd3),(ao (cG (Zd0 (aJ (aJ (pv 0) rfl) rfl) (λ_=>rfl)) (aA (aM (gh Zyh hr T.Zp3 (aa (pv 0) au)))) bx)
   (aA (aM (gh W2 hr T.GD (aa (pv 0) au))))),?_⟩
  obtain⟨z0,rfl,q⟩:=h;exact Qa tx q
theorem Zst{fd:FuncData}(F:jz K "walk" "walk" Zgq yL fd){lR:FuncData}(nj:Hh P w K mg base 3 gP lR p8 (fD XQ)):lF P w K mg base 4 yL fd ["world"] (bQ XQ Zd3):=by
 have sc:=Zrl;have tx:=pJ _ T;walk_at "ok"
 ·refine⟨Zu K (fD XQ),(ao (fW 1 sc.nd (aJ (pv 0) rfl))
   (ao (fW 2 sc.nd (jl cV (aJ (aJ (pv 0) rfl) rfl) (Dz PySem.F.plainAttrs_list PySem.F.slot_list_pop PySem.F.type_list_pop Zoz (aJ (pv 1) rfl) (aa (az) au))))
   (ao (cF (pv 1) (bh lW (aJ (pv 1) rfl) (az)) rfl)
   (aA (aM (cN (aa (bH) (aa (aJ (pv 2) rfl) (aa (gh nj hr T.sW (aa (pv 0) (aa (aJ (pv 2) rfl) au))) au))))))))),?_⟩
  obtain⟨z0,rfl,q⟩:=h;exact Zrb tx q
theorem R9{fd:FuncData}{Kl Kg Wy Ey Nu Zxx yI:FuncData}(F:jz K "look_or_cut" "look_or_cut" xT gD fd)(zG:Hh P w K mg base 1 dM Kl sS (iD 1))(zE:Hh P w K mg base 2 dI Kg sJ (iD 2))(u9:Hh P w K mg base 1 gQ Wy ["self"] (sZ (.bl false)))(uP:Hh P w K mg base 1 bW Ey pC (iD 0))(iG:Hh P w K mg base 1 cI Nu ["self"] (sZ (.bl true)))(ZAj:Hh P w K mg base 6 GQ Zxx ["world"] (bQ XQ Zha))(BP:Hh P w K mg base 4 gO yI uR (lU XQ)):lF P w K mg base 7 gD fd ["world"] (bQ XQ Zd5):=by
 have sc:=Rv;have tx:=pJ _ T;walk_at "ok"
 ·refine⟨vC K XQ.E XQ.F XQ.L (iD 1) (iD 2) (sZ (.bl false)) (iD 0) (sZ (.bl true)) (bQ XQ Zha) (lU XQ),(ao (fW 1 sc.nd (aJ (pv 0) rfl))
   (ao (fW 2 sc.nd (aJ (aJ (pv 0) rfl) rfl))
   (ao (fW 3 sc.nd (G.wO (tM (pv 2) T.EY T.vK uP.g (hr.mono (by decide)) uP.b .nil G.fX (aa (aJ (pv 1) rfl) (aa (cP G.cZ (by rfl) T.lM G.boot_len (aa (aJ (pv 0) rfl) au)) au))) (G.wO (tM (pv 2) T.Ks T.w6 zG.g (hr.mono (by decide)) zG.b .nil G.fX (aa (aJ (pv 1) rfl) (aa (cP G.cZ (by rfl) T.lM G.boot_len (aa (aJ (pv 0) rfl) au)) au))) (tM (pv 2) T.Kr T.wY zE.g (hr.mono (by decide)) zE.b .nil G.fX (aa (aJ (pv 1) rfl) (aa (cP G.cZ (by rfl) T.lM G.boot_len (aa (aJ (pv 0) rfl) au)) au))))))
   (ao (fW 4 sc.nd (gh BP hr T.Bq (aa (pv 0) (aa (pv 3) au))))
   (ao (cG (PW.pt (qQ (oE lG (pv 3) (az)) (pB (oF (PW.pt (qQ (jA (G.wO (nM (pv 2) T.EY T.vJ iG.g (hr.mono (by decide)) iG.b .nil G.fX) (G.wO (nM (pv 2) T.Ks T.yD iG.g (hr.mono (by decide)) iG.b .nil G.fX) (nM (pv 2) T.Kr T.yz u9.g (hr.mono (by decide)) u9.b .nil G.fX)))) (pB (Zd0 (pv 4) (λ_=>rfl))))))))) (aA (aM (gh ZAj hr T.Zv1 (aa (pv 0) au)))) bx)
   (ao (cF (pv 1) (bh lW (aJ (pv 1) rfl) (az)) rfl)
   (ao (cG (jA (G.wO (nM (pv 2) T.EY T.vJ iG.g (hr.mono (by decide)) iG.b .nil G.fX) (G.wO (nM (pv 2) T.Ks T.yD iG.g (hr.mono (by decide)) iG.b .nil G.fX) (nM (pv 2) T.Kr T.yz u9.g (hr.mono (by decide)) u9.b .nil G.fX)))) (aA (cF (pv 1) (bh Zyz (aJ (pv 1) rfl) (pv 3)) rfl)) bx)
   (aA (aM (cN (aa (bH) (aa (pv 3) (aa (pv 4) au))))))))))))),?_⟩
  obtain⟨z0,rfl,q⟩:=h;exact Td tx q
theorem Zwb{fd:FuncData}{rA Ws Zel yH:FuncData}(F:jz K "cut" "cut" Zno GQ fd)(uw:Hh P w K mg base 3 iy rA ug (jY XQ))(Zce:Hh P w K mg base 5 iY Ws ["world"] (u5 XQ))(Zjh:Hh P w K mg base 2 lY Zel ["world"] (BJ XQ))(BL:Hh P w K mg base 1 gM yH ["event"] (m5 K)):lF P w K mg base 6 GQ fd ["world"] (bQ XQ Zha):=by
 have sc:=Zvt;have tx:=pJ _ T;walk_at "ok"
 ·refine⟨Zh0 K (jY XQ) (u5 XQ) (BJ XQ) (m5 K),(ao (fW 1 sc.nd (aJ (pv 0) rfl))
   (ao (cF (pv 1) (cP G.cZ (by rfl) T.lM G.boot_len (aa (aJ (aJ (pv 0) rfl) rfl) au)) rfl)
   (ao (cF (pv 1) (az) rfl)
   (ao (fW 2 sc.nd (gh Zce hr T.JN (aa (pv 0) au)))
   (ao (cG (oE G.Eh (pv 2) (gn)) (ao (cF (pv 1) (bH) rfl)
   (ao (cF (pv 1) (pv 2) rfl)
   (aA (aM (gh BL hr T.Bp (aa (pv 2) au)))))) bx)
   (ao (cF (pv 1) (bH) rfl)
   (ao (fW 3 sc.nd (gh uw hr T.xj (aa (aJ (pv 0) rfl) (aa (gh Zjh hr T.S8 (aa (pv 0) au)) au))))
   (aA (aM (cN (aa (bH) (aa (cP G.cZ (by rfl) T.lM G.boot_len (aa (pv 3) au)) (aa (pv 3) au))))))))))))),?_⟩
  obtain⟨z0,rfl,q⟩:=h;exact Zy4 tx q
theorem Vv{fd:FuncData}{eZ Zil Zqm:FuncData}(F:jz K "first_loss" "first_loss" zT iY fd)(gm:Hh P w K mg base 1 d7 eZ lO (cL XQ))(Zmy:Hh P w K mg base 3 nP Zil LK (FZ K XQ.C XQ.H))(Zuq:Hh P w K mg base 4 tZ Zqm ["world"] (QW XQ)):lF P w K mg base 5 iY fd ["world"] (u5 XQ):=by
 have sc:=Vd;have tx:=pJ _ T;walk_at "ok"
 ·refine⟨yf K (cL XQ) (FZ K XQ.C XQ.H) (QW XQ),(ao (nR PassesOwn.never rfl (jF (gh Zmy hr T.XC (aa (aJ (pv 0) rfl) (aa (gh Zuq hr T.Zjw (aa (pv 0) au)) au)))) (ZJ rfl (uf (fQ (i:=1) sc.nd rfl (Or.inl rfl)) (uf (fQ (i:=2) sc.nd rfl (Or.inl rfl)) QB)))
   (ao (fW 3 sc.nd (jl cV (aJ (aJ (pv 0) rfl) rfl) (pv 1)))
   (aA (cG (oF (jA (gh gm hr T.mQ (aa (pv 0) (aa (pv 3) au))))) (aA (aM (cN (aa (bH) (aa (aJ (pv 3) rfl) (aa (sH Ku (by rfl) T.uy G.boot_list (aa (pv 2) au)) au)))))) bx))))
   (aA (aM (gn)))),?_⟩
  obtain⟨z0,rfl,q⟩:=h;exact Wn tx q
theorem Zda{fd:FuncData}{yJ eZ:FuncData}(F:jz K "given_up" "given_up" Ho lY fd)(rG:Hh P w K mg base 1 fU yJ ["self"] (m6 XQ.H))(gm:Hh P w K mg base 1 d7 eZ lO (cL XQ)):lF P w K mg base 2 lY fd ["world"] (BJ XQ):=by
 have sc:=Zcs;have tx:=pJ _ T;walk_at "ok"
 ·refine⟨Ds K XQ.H (m6 XQ.H) (cL XQ),(ao (RW (i:=1) sc.nd rfl (Or.inr rfl) (aJ (pv 0) rfl))
   (aA (aM (G.Oq (cns:=["world","heap"]) [0,1] (jF (nM (pv 1) T.cM T.yC rG.g (hr.mono (by decide)) rG.b .nil G.fX)) (λ_ _ _ _ _=>(G.ZK (oF (jA (gh gm hr T.mQ (aa (pv 1) (aa (jl cV (aJ (pv 2) rfl) (pv 0)) au))))))) (λ_ _ _ _ _=>(pv 0)) rfl rfl (by repeat (first | exact trivial | refine⟨rfl,?_⟩)) (by repeat (first | exact trivial | refine⟨rfl,?_⟩)) rfl (by decide +kernel) rfl (by decide +kernel) (by decide +kernel) rfl (by decide +kernel))))),?_⟩
  obtain⟨z0,rfl,q⟩:=h;exact Zei tx q
theorem Vr{fd:FuncData}(F:jz K "told_again" "told_again" zO gM fd):lF P w K mg base 1 gM fd ["event"] (m5 K):=by
 have sc:=U9;walk_at "ok"
 ·refine⟨xZ K,(aA (aM (cN (aa (jl bL (pv 0) (az)) (aa (jl bL (pv 0) (az)) (aa (sH G.vR (by rfl) T.uy G.boot_list (aa (jl bL (pv 0) (az)) au)) au)))))),?_⟩;obtain⟨z0,rfl,q⟩:=h;exact UL q
theorem Ql{fd:FuncData}{Zxw Wq:FuncData}(F:jz K "step_in_give" "step_in_give" vo cR fd)(ZAi:Hh P w K mg base 1 GP Zxw ["world"] (bQ XQ pEnd))(Zcc:Hh P w K mg base 3 iV Wq ["world"] (bQ XQ Zd4)):lF P w K mg base 4 cR fd ["world"] (bQ XQ (QC "give")):=by
 have sc:=Qi;have tx:=pJ _ T;walk_at "ok"
 ·refine⟨uG K (bQ XQ pEnd) (bQ XQ Zd4),(ao (cG (oE Gx (aJ (aJ (pv 0) rfl) rfl) (aJ (aJ (pv 0) rfl) rfl)) (aA (aM (gh Zcc hr T.JL (aa (pv 0) au)))) bx)
   (aA (aM (gh ZAi hr T.Zv0 (aa (pv 0) au))))),?_⟩
  obtain⟨z0,rfl,q⟩:=h;exact Qc tx q
theorem Vs{fd:FuncData}{Zbn kY eZ:FuncData}(F:jz K "pass_place" "pass_place" zP iV fd)(PB:Hh P w K mg base 2 jr Zbn Ef (uv XQ.C XQ.H))(mH:Hh P w K mg base 1 iM kY qm (dZ XQ.H))(gm:Hh P w K mg base 1 d7 eZ lO (cL XQ)):lF P w K mg base 3 iV fd ["world"] (bQ XQ Zd4):=by
 have sc:=Va;have tx:=pJ _ T;walk_at "ok"
 ·refine⟨yc K XQ.H (uv XQ.C XQ.H) (dZ XQ.H) (cL XQ),(ao (fW 1 sc.nd (aJ (pv 0) rfl))
   (ao (fW 2 sc.nd (aJ (pv 1) rfl))
   (ao (cF (pv 1) (bh lW (pv 2) (az)) rfl)
   (ao (cF (pv 1) (bh lW (aJ (pv 1) rfl) (az)) rfl)
   (ao (fW 3 sc.nd (gh mH hr T.sX (aa (aJ (pv 0) rfl) (aa (pv 2) au))))
   (ao (cG (PW.pt (qQ (oE G.Fz (pv 3) (gn)) (pB (jA (gh gm hr T.mQ (aa (pv 0) (aa (pv 3) au))))))) (aA (aM (cN (aa (bH) (aa (pv 2) (aa (cX au) au)))))) bx)
   (aA (aM (cN (aa (bH) (aa (tM (aJ (pv 0) rfl) T.cM T.JH PB.g (hr.mono (by decide)) PB.b .nil G.fX (aa (pv 2) au)) (aa (cX (aa (pv 2) au)) au)))))))))))),?_⟩
  obtain⟨z0,rfl,q⟩:=h;exact Vp tx q
theorem Zw8{fd:FuncData}(F:jz K "end" "end" s_end GP fd):lF P w K mg base 1 GP fd ["world"] (bQ XQ pEnd):=by
 have sc:=Zvs;have tx:=pJ _ T;walk_at "ok"
 ·refine⟨Zgz K,(ao (fW 1 sc.nd (aJ (pv 0) rfl))
   (ao (cF (pv 1) (bH) rfl)
   (aA (aM (cN (aa (bH) (aa (aJ (pv 1) rfl) (aa (cX (aa (aJ (pv 1) rfl) (aa (aJ (pv 1) rfl) (aa (aJ (pv 1) rfl) au)))) au)))))))),?_⟩
  obtain⟨z0,rfl,q⟩:=h;exact Zy0 tx q
theorem Ju{fd:FuncData}(F:jz K "step_when_lost" "step_when_lost" rO bV fd){yH:FuncData}(BL:Hh P w K mg base 1 gM yH ["event"] (m5 K)):lF P w K mg base 2 bV fd ["world"] (bQ XQ (QC "lost")):=by
 have sc:=Jh;have tx:=pJ _ T;walk_at "ok"
 ·refine⟨qI K (m5 K),(aA (aM (gh BL hr T.Bp (aa (aJ (aJ (pv 0) rfl) rfl) au)))),?_⟩;obtain⟨z0,rfl,q⟩:=h;exact IV tx q
theorem Zsu{fd:FuncData}{Qu Qt Qs Ke:FuncData}(F:jz K "step" "step" Zgr yM fd)(wz:Hh P w K mg base 5 cT Qu ["world"] (bQ XQ (QC "rest")))(wu:Hh P w K mg base 4 cR Qt ["world"] (bQ XQ (QC "give")))(wj:Hh P w K mg base 8 cQ Qs ["world"] (bQ XQ (QC "walk")))(tG:Hh P w K mg base 2 bV Ke ["world"] (bQ XQ (QC "lost"))):lF P w K mg base 9 yM fd ["world"] (bQ XQ Zhb):=by
 have sc:=Zrm;have tx:=pJ _ T;walk_at "ok"
 ·refine⟨Zv K cT cR cQ bV (bQ XQ (QC "rest")) (bQ XQ (QC "give")) (bQ XQ (QC "walk")) (bQ XQ (QC "lost")),(ao (fW 1 sc.nd (G.Zob T.Xo rfl (aJ (aJ (pv 0) rfl) rfl) (λ_ _=>rfl)))
   (aA (aM (G.Zd2 (k:=8) (G.Uz.cons (by decide) wz.g wz.b wz.k (G.Uz.cons (by decide) wj.g wj.b wj.k (G.Uz.cons (by decide) wu.g wu.b wu.k (G.Uz.cons (by decide) tG.g tG.b tG.k G.Uz.nil)))) (hr.mono (by decide)) rfl (Or.inl rfl) G.fX (aa (pv 0) au))))),?_⟩
  obtain⟨z0,rfl,q⟩:=h;exact Zrg tx q
theorem Zlf{fd:FuncData}(F:jz K "all_of" "all_of" RM oM fd):lF P w K mg base 1 oM fd ["hands"] (wg):=by
 have sc:=Zl1;walk_at "ok"
 ·refine⟨Ly,(aA (aM (bh Eg (bh Zol (az) (pv 0)) (az)))),?_⟩;obtain⟨z0,rfl,q⟩:=h;exact Zms q
theorem Gi{fd:FuncData}(F:jz K "at_begin" "Looking.at_begin" pY bO fd):lF P w K mg base 1 bO fd qb (oR 1):=by
 have sc:=Gg;walk_at "ok"
 ·refine⟨pA,(aA (aM (az))),?_⟩;obtain⟨z0,z1,rfl,q⟩:=h;exact Gs q
theorem Ei{fd:FuncData}(F:jz K "next_look" "Looking.next_look" o8 bW fd):lF P w K mg base 1 bW fd pC (iD 0):=by
 have sc:=Cy;walk_at "ok"
 ·refine⟨oA,(aA (aM (az))),?_⟩;obtain⟨z0,z1,z2,rfl,q⟩:=h;exact Fj q
theorem Mp{fd:FuncData}(F:jz K "stays" "Looking.stays" uA cI fd):lF P w K mg base 1 cI fd ["self"] (sZ (.bl true)):=by
 have sc:=K7;walk_at "ok"
 ·refine⟨rY,(aA (aM (qR))),?_⟩;obtain⟨z0,rfl,q⟩:=h;exact NT q
theorem Jx{fd:FuncData}(F:jz K "at_begin" "First.at_begin" rR dJ fd){Nt:FuncData}(Ut:Hh P w K mg base 1 oM Nt ["hands"] (wg)):lF P w K mg base 2 dJ fd sO (oR 0):=by
 have sc:=Jk;walk_at "ok"
 ·refine⟨qN (wg),(aA (aM (gh Ut hr T.S9 (aa (pv 1) au)))),?_⟩;obtain⟨z0,z1,rfl,q⟩:=h;exact KH q
theorem Jy{fd:FuncData}(F:jz K "next_look" "Each.next_look" rT dM fd):lF P w K mg base 1 dM fd sS (iD 1):=by
 have sc:=Jl;walk_at "ok"
 ·refine⟨qO,(ao (nR PassesOwn.never rfl (sG rfl T.tH (aa (pv 2) au)) (fQ (i:=3) sc.nd rfl (Or.inl rfl))
   (aA (cG (oE lG (bh R4 (bh Zhc (pv 1) (pv 3)) (az)) (az)) (aA (aM (bh Zol (az) (pv 3)))) bx)))
   (aA (aM (az)))),?_⟩
  obtain⟨z0,z1,z2,rfl,q⟩:=h;exact KJ q
theorem Jw{fd:FuncData}(F:jz K "next_look" "Last.next_look" rQ dI fd){Nt:FuncData}(Ut:Hh P w K mg base 1 oM Nt ["hands"] (wg)):lF P w K mg base 2 dI fd sJ (iD 2):=by
 have sc:=Jj;walk_at "ok"
 ·refine⟨qM (wg),(aA (aM (gh Ut hr T.S9 (aa (pv 2) au)))),?_⟩;obtain⟨z0,z1,z2,rfl,q⟩:=h;exact Kz q
theorem VD{fd:FuncData}(F:jz K "stays" "Last.stays" zZ gQ fd):lF P w K mg base 1 gQ fd ["self"] (sZ (.bl false)):=by
 have sc:=Vj;walk_at "ok"
 ·refine⟨yo,(aA (aM (qR))),?_⟩;obtain⟨z0,rfl,q⟩:=h;exact WX q
theorem Mq{fd:FuncData}(F:jz K "__init__" "Kind.__init__" uB dB fd):lF P w K mg base 1 dB fd uK (ur XQ.K):=by
 have sc:=K8;have tx:=pJ _ T;walk_at "ok"
 ·refine⟨rZ K,(ao (cF (pv 0) (pv 1) rfl)
   (aA (cF (pv 0) (pv 2) rfl))),?_⟩
  obtain⟨z0,z1,z2,rfl,q⟩:=h;exact NZ tx q
theorem Zd8{fd:FuncData}(F:jz K "slots_of" "slots_of" Hj d9 fd):lF P w K mg base 1 d9 fd kO (bZ XQ):=by
 have sc:=Zcq;have tx:=pJ _ T;walk_at "ok"
 ·refine⟨Dp K,(aA (aM (aJ (jl cV (aJ (pv 0) rfl) (pv 1)) rfl))),?_⟩;obtain⟨z0,z1,rfl,q⟩:=h;exact Zcp tx q
theorem Zhp{fd:FuncData}{kY dU:FuncData}(F:jz K "cell_in" "cell_in" Lr j7 fd)(mH:Hh P w K mg base 1 iM kY qm (dZ XQ.H))(eE:Hh P w K mg base 1 d9 dU kO (bZ XQ)):lF P w K mg base 2 j7 fd vd (j9 XQ aK):=by
 have sc:=Zgn;have tx:=pJ _ T;walk_at "okX"
 ·refine⟨HJ K aK (dZ XQ.H) (bZ XQ) E,(ao (fW 3 sc.nd (gh mH hr T.sX (aa (aJ (pv 0) rfl) (aa (jl cV (gh eE hr T.kW (aa (pv 0) (aa (pv 1) au))) (pv 2)) au))))
   (ao (cG (oE G.Fz (pv 3) (gn)) (aA (G.Jp rfl rfl T.Pb T.wH (aa (bH) au) (λ_ _ _ _ _ _ _ I hx hE=>G.Zz I hx hE))) bx)
   (aA (aM (pv 3))))),?_⟩
  obtain⟨z0,z1,z2,rfl,q⟩:=h;exact Zj6 tx q
theorem ZW{fd:FuncData}{Km qe:FuncData}(F:jz K "fields_in" "fields_in" CP jo fd)(zH:Hh P w K mg base 1 dN Km sU (xu XQ))(iQ:Hh P w K mg base 2 j7 qe vd (j9 XQ aK)):lF P w K mg base 3 jo fd wU (oO XQ aK aR):=by
 have sc:=Y6;have tx:=pJ _ T;walk_at "okX"
 ·refine⟨Ac K XQ.C aR (xu XQ) (j9 XQ aK) E,(ao (fW 4 sc.nd (wQ iQ.g (hr.mono (by decide)) rfl T.zx iQ.k iQ.b .nil G.Jt (aa (pv 0) (aa (pv 1) (aa (pv 2) au)))))
   (ao (cG (oF (jA (tM (pv 4) T.di T.xg zH.g (hr.mono (by decide)) zH.b .nil G.fX (aa (pv 3) au)))) (aA (G.Jp rfl rfl T.XH T.Fq (aa (bH) au) (λ_ _ _ _ _ _ _ I hx hE=>G.Zz I hx hE))) bx)
   (aA (aM (aJ (pv 4) rfl))))),?_⟩
  obtain⟨z0,z1,z2,z3,rfl,q⟩:=h;exact Zb7 tx q
theorem R6{fd:FuncData}(F:jz K "told_as_old" "told_as_old" xP gA fd):lF P w K mg base 1 gA fd yt (By XQ):=by
 have sc:=Rr;have tx:=pJ _ T;walk_at "ok"
 ·refine⟨vz K,(ao (cG (oE lG (bh R4 (aJ (aJ (pv 0) rfl) rfl) (T.Zv5.pe rfl)) (az)) (aA (aM (cX au))) bx)
   (aA (aM (cX (aa (pv 1) au))))),?_⟩
  obtain⟨z0,z1,rfl,q⟩:=h;exact Ra tx q
theorem R7{fd:FuncData}(F:jz K "told_as_new" "told_as_new" xQ fL fd){Zb9:FuncData}(Zfb:Hh P w K mg base 1 jM Zb9 DK (xr XQ)):lF P w K mg base 2 fL fd tO (qi XQ):=by
 have sc:=Rt;have tx:=pJ _ T;walk_at "ok"
 ·refine⟨vA K (xr XQ),(ao (cG (PW.pt (qQ (oE lG (bh R4 (aJ (aJ (pv 0) rfl) rfl) (T.Zv6.pe rfl)) (az)) (pB (jA (gh Zfb hr T.OD (aa (pv 0) (aa (pv 1) au))))))) (aA (aM (cX au))) bx)
   (aA (aM (cX (aa (pv 2) au))))),?_⟩
  obtain⟨z0,z1,z2,rfl,q⟩:=h;exact Rb tx q
theorem Zhl{fd:FuncData}{Zbl eO dU:FuncData}(F:jz K "do_make" "do_make" Lj gZ fd)(Py:Hh P w K mg base 3 iC Zbl Ed (xx K XQ.C XQ.H bR))(fY:Hh P w K mg base 2 eU eO lV (cJ XQ))(eE:Hh P w K mg base 1 d9 dU kO (bZ XQ)):lF P w K mg base 4 gZ fd Mg (cz XQ (Cj bR aK aR bB) Ng):=by
 have sc:=Zgj;have tx:=pJ _ T;walk_at "okX"
 ·refine⟨HB K XQ.H (xx K XQ.C XQ.H bR) (cJ XQ) (bZ XQ) E,(ao (fW 2 sc.nd (gh eE hr T.kW (aa (pv 0) (aa (jl bL (pv 1) (az)) au))))
   (ao (fW 3 sc.nd (jl bL (pv 1) (az)))
   (ao (fW 4 sc.nd (jl bL (pv 1) (az)))
   (ao (fW 5 sc.nd (tM (aJ (pv 0) rfl) T.cM T.JF Py.g (hr.mono (by decide)) Py.b .nil G.Jt (aa (pv 3) (aa (pv 4) (aa (aJ (aJ (pv 0) rfl) rfl) au)))))
   (ao (Ba (pv 5) (Bb (pv 2) (jl bL (pv 1) (az)) set_list))
   (aA (aM (cN (aa (bH) (aa (gh fY hr T.mW (aa (aJ (pv 0) rfl) (aa (pv 5) au))) (aa (cX au) au))))))))))),?_⟩
  obtain⟨z0,z1,rfl,q⟩:=h;exact Ziz tx rfl q
theorem Zle{fd:FuncData}{eO Bt dU:FuncData}(F:jz K "do_get" "do_get" RK jD fd)(fY:Hh P w K mg base 2 eU eO lV (cJ XQ))(oU:Hh P w K mg base 3 jo Bt wU (oO XQ aK aR))(eE:Hh P w K mg base 1 d9 dU kO (bZ XQ)):lF P w K mg base 4 jD fd R1 (cz XQ (Cj bR aK aR bB) XR):=by
 have sc:=Zl0;have tx:=pJ _ T;walk_at "okX"
 ·refine⟨Lx K (cJ XQ) (oO XQ aK aR) (bZ XQ) E,(ao (fW 2 sc.nd (jl bL (pv 1) (az)))
   (ao (fW 3 sc.nd (jl bL (pv 1) (az)))
   (ao (fW 4 sc.nd (jl bL (pv 1) (az)))
   (ao (fW 5 sc.nd (jl cV (wQ oU.g (hr.mono (by decide)) rfl T.Eo oU.k oU.b .nil G.Jt (aa (pv 0) (aa (pv 2) (aa (pv 3) (aa (pv 4) au))))) (pv 4)))
   (ao (Ba (pv 5) (Bb (gh eE hr T.kW (aa (pv 0) (aa (pv 2) au))) (jl bL (pv 1) (az)) set_list))
   (aA (aM (cN (aa (bH) (aa (gh fY hr T.mW (aa (aJ (pv 0) rfl) (aa (pv 5) au))) (aa (cX au) au))))))))))),?_⟩
  obtain⟨z0,z1,rfl,q⟩:=h;exact Zml tx rfl rfl q
theorem Zld{fd:FuncData}{eO Bt lR dU vN T7:FuncData}(F:jz K "do_put" "do_put" RJ jC fd)(fY:Hh P w K mg base 2 eU eO lV (cJ XQ))(oU:Hh P w K mg base 3 jo Bt wU (oO XQ aK aR))(nj:Hh P w K mg base 3 gP lR p8 (fD XQ))(eE:Hh P w K mg base 1 d9 dU kO (bZ XQ))(yR:Hh P w K mg base 2 fL vN tO (qi XQ))(W0:Hh P w K mg base 1 gA T7 yt (By XQ)):lF P w K mg base 4 jC fd R0 (cz XQ (Cj bR aK aR bB) XN):=by
 have sc:=Zkz;have tx:=pJ _ T;walk_at "okX"
 ·refine⟨Lw K (cJ XQ) (oO XQ aK aR) (fD XQ) (bZ XQ) (qi XQ) (By XQ) E,(ao (fW 2 sc.nd (jl bL (pv 1) (az)))
   (ao (fW 3 sc.nd (jl bL (pv 1) (az)))
   (ao (fW 4 sc.nd (wQ oU.g (hr.mono (by decide)) rfl T.Eo oU.k oU.b .nil G.Jt (aa (pv 0) (aa (pv 2) (aa (jl bL (pv 1) (az)) (aa (pv 3) au))))))
   (ao (fW 5 sc.nd (jl cV (pv 4) (pv 3)))
   (ao (fW 6 sc.nd (jl cV (gh eE hr T.kW (aa (pv 0) (aa (pv 2) au))) (jl bL (pv 1) (az))))
   (ao (Ba (pv 6) (Bb (pv 4) (pv 3) set_list))
   (ao (fW 7 sc.nd (gh nj hr T.sW (aa (pv 0) (aa (bh qd (gh W0 hr T.Gy (aa (pv 0) (aa (pv 5) au))) (gh yR hr T.yE (aa (pv 0) (aa (pv 2) (aa (pv 6) au))))) au))))
   (aA (aM (cN (aa (bH) (aa (gh fY hr T.mW (aa (aJ (pv 0) rfl) (aa (pv 5) au))) (aa (pv 7) au))))))))))))),?_⟩
  obtain⟨z0,z1,rfl,q⟩:=h;exact Zmk tx rfl rfl q
theorem Zho{fd:FuncData}{eO dU:FuncData}(F:jz K "do_copy" "do_copy" Lq ir fd)(fY:Hh P w K mg base 2 eU eO lV (cJ XQ))(eE:Hh P w K mg base 1 d9 dU kO (bZ XQ)):lF P w K mg base 3 ir fd Mj (cz XQ (Cj bR aK aR bB) Nm):=by
 have sc:=Zgm;have tx:=pJ _ T;walk_at "ok"
 ·refine⟨HH K (cJ XQ) (bZ XQ),(ao (fW 2 sc.nd (gh eE hr T.kW (aa (pv 0) (aa (jl bL (pv 1) (az)) au))))
   (ao (fW 3 sc.nd (jl cV (pv 2) (jl bL (pv 1) (az))))
   (ao (Ba (pv 3) (Bb (pv 2) (jl bL (pv 1) (az)) set_list))
   (aA (aM (cN (aa (bH) (aa (gh fY hr T.mW (aa (aJ (pv 0) rfl) (aa (pv 3) au))) (aa (cX au) au))))))))),?_⟩
  obtain⟨z0,z1,rfl,q⟩:=h;exact Zj2 tx q
theorem Zhn{fd:FuncData}{eO dU:FuncData}(F:jz K "do_drop" "do_drop" Lp ig fd)(fY:Hh P w K mg base 2 eU eO lV (cJ XQ))(eE:Hh P w K mg base 1 d9 dU kO (bZ XQ)):lF P w K mg base 3 ig fd Mi (cz XQ (Cj bR aK aR bB) Nk):=by
 have sc:=Zgl;have tx:=pJ _ T;walk_at "ok"
 ·refine⟨HF K (cJ XQ) (bZ XQ),(ao (fW 2 sc.nd (gh eE hr T.kW (aa (pv 0) (aa (jl bL (pv 1) (az)) au))))
   (ao (fW 3 sc.nd (jl cV (pv 2) (jl bL (pv 1) (az))))
   (ao (Ba (gn) (Bb (pv 2) (jl bL (pv 1) (az)) set_list))
   (aA (aM (cN (aa (bH) (aa (gh fY hr T.mW (aa (aJ (pv 0) rfl) (aa (pv 3) au))) (aa (cX au) au))))))))),?_⟩
  obtain⟨z0,z1,rfl,q⟩:=h;exact Zj1 tx q
theorem Zhm{fd:FuncData}{eO lR dU vN:FuncData}(F:jz K "do_give" "do_give" Ln ie fd)(fY:Hh P w K mg base 2 eU eO lV (cJ XQ))(nj:Hh P w K mg base 3 gP lR p8 (fD XQ))(eE:Hh P w K mg base 1 d9 dU kO (bZ XQ))(yR:Hh P w K mg base 2 fL vN tO (qi XQ)):lF P w K mg base 4 ie fd Mh (cz XQ (Cj bR aK aR bB) Nj):=by
 have sc:=Zgk;have tx:=pJ _ T;walk_at "ok"
 ·refine⟨HD K (cJ XQ) (fD XQ) (bZ XQ) (qi XQ),(ao (fW 2 sc.nd (jl bL (pv 1) (az)))
   (ao (fW 3 sc.nd (jl bL (pv 1) (az)))
   (ao (fW 4 sc.nd (jl cV (gh eE hr T.kW (aa (pv 0) (aa (pv 2) au))) (jl bL (pv 1) (az))))
   (ao (Ba (pv 4) (Bb (gh eE hr T.kW (aa (pv 0) (aa (pv 3) au))) (jl bL (pv 1) (az)) set_list))
   (ao (fW 5 sc.nd (gh nj hr T.sW (aa (pv 0) (aa (gh yR hr T.yE (aa (pv 0) (aa (pv 2) (aa (pv 4) au)))) au))))
   (aA (aM (cN (aa (bH) (aa (gh fY hr T.mW (aa (aJ (pv 0) rfl) (aa (pv 4) au))) (aa (pv 5) au))))))))))),?_⟩
  obtain⟨z0,z1,rfl,q⟩:=h;exact Zj0 tx q
theorem Zdb{fd:FuncData}(F:jz K "do_write" "do_write" Hq fB fd){qe:FuncData}(iQ:Hh P w K mg base 2 j7 qe vd (j9 XQ aK)):lF P w K mg base 3 fB fd HQ (cz XQ (Cj bR aK aR bB) FQ):=by
 have sc:=Zct;have tx:=pJ _ T;walk_at "okX"
 ·refine⟨Dt K (j9 XQ aK) E,(ao (fW 2 sc.nd (wQ iQ.g (hr.mono (by decide)) rfl T.zx iQ.k iQ.b .nil G.Jt (aa (pv 0) (aa (jl bL (pv 1) (az)) (aa (jl bL (pv 1) (az)) au)))))
   (ao (fW 3 sc.nd (aJ (pv 2) rfl))
   (ao (cF (pv 2) (jl bL (pv 1) (az)) rfl)
   (aA (aM (cN (aa (bH) (aa (pv 3) (aa (cX au) au))))))))),?_⟩
  obtain⟨z0,z1,rfl,q⟩:=h;exact Zeu tx rfl q
theorem Zhj{fd:FuncData}(F:jz K "do_read" "do_read" Lh gW fd){qe:FuncData}(iQ:Hh P w K mg base 2 j7 qe vd (j9 XQ aK)):lF P w K mg base 3 gW fd Ma (cz XQ (Cj bR aK aR bB) Nf):=by
 have sc:=Zgh;have tx:=pJ _ T;walk_at "okX"
 ·refine⟨Hw K (j9 XQ aK) E,(ao (fW 2 sc.nd (wQ iQ.g (hr.mono (by decide)) rfl T.zx iQ.k iQ.b .nil G.Jt (aa (pv 0) (aa (jl bL (pv 1) (az)) (aa (jl bL (pv 1) (az)) au)))))
   (aA (aM (cN (aa (bH) (aa (aJ (pv 2) rfl) (aa (cX au) au))))))),?_⟩
  obtain⟨z0,z1,rfl,q⟩:=h;exact Zix tx rfl q
theorem Zhk{fd:FuncData}{qe dU:FuncData}(F:jz K "do_name" "do_name" Li gY fd)(iQ:Hh P w K mg base 2 j7 qe vd (j9 XQ aK))(eE:Hh P w K mg base 1 d9 dU kO (bZ XQ)):lF P w K mg base 3 gY fd Mf (cz XQ (Cj bR aK aR bB) isName):=by
 have sc:=Zgi;have tx:=pJ _ T;walk_at "okX"
 ·refine⟨Hz K (j9 XQ aK) (bZ XQ) E,(ao (fW 2 sc.nd (jl bL (pv 1) (az)))
   (ao (fW 3 sc.nd (jl bL (pv 1) (az)))
   (ao (fW 4 sc.nd (aJ (wQ iQ.g (hr.mono (by decide)) rfl T.zx iQ.k iQ.b .nil G.Jt (aa (pv 0) (aa (pv 2) (aa (pv 3) au)))) rfl))
   (ao (Fw (vM hr) (aJ (pv 0) rfl) (jl bL (pv 1) (az)) (cN (aa (jl cV (gh eE hr T.kW (aa (pv 0) (aa (pv 2) au))) (pv 3)) (aa (pv 4) au))) rfl)
   (aA (aM (cN (aa (bH) (aa (pv 4) (aa (cX au) au)))))))))),?_⟩
  obtain⟨z0,z1,rfl,q⟩:=h;exact Ziy tx rfl q
theorem Zhi{fd:FuncData}{eO lR T9 dU:FuncData}(F:jz K "do_seek" "do_seek" Lg gU fd)(fY:Hh P w K mg base 2 eU eO lV (cJ XQ))(nj:Hh P w K mg base 3 gP lR p8 (fD XQ))(yS:Hh P w K mg base 3 gB T9 yu (uc XQ bB))(eE:Hh P w K mg base 1 d9 dU kO (bZ XQ)):lF P w K mg base 4 gU fd LR (cz XQ (Cj bR aK aR bB) Nb):=by
 have sc:=Zgg;have tx:=pJ _ T;walk_at "okX"
 ·refine⟨Hv K (cJ XQ) (fD XQ) (uc XQ bB) (bZ XQ) E,(ao (fW 2 sc.nd (wQ yS.g (hr.mono (by decide)) rfl T.Gz yS.k yS.b .nil G.Jt (aa (pv 0) (aa (jl bL (pv 1) (az)) au))))
   (ao (Ba (pv 2) (Bb (gh eE hr T.kW (aa (pv 0) (aa (jl bL (pv 1) (az)) au))) (jl bL (pv 1) (az)) set_list))
   (ao (fW 3 sc.nd (gh nj hr T.sW (aa (pv 0) (aa (cX (aa (pv 2) au)) au))))
   (aA (aM (cN (aa (bH) (aa (gh fY hr T.mW (aa (aJ (pv 0) rfl) (aa (pv 2) au))) (aa (pv 3) au))))))))),?_⟩
  obtain⟨z0,z1,rfl,q⟩:=h;exact Ziw tx rfl q
theorem R8{fd:FuncData}(F:jz K "place_named" "place_named" xR gB fd){Zba:FuncData}(Zjg:Hh P w K mg base 2 vP Zba ZM (Ih XQ)):lF P w K mg base 3 gB fd yu (uc XQ bB):=by
 have sc:=Ru;have tx:=pJ _ T;walk_at "okX"
 ·refine⟨vB K bB (Ih XQ) E,(ao (cG (Zo0 (Zl9 (vM hr) (pv 1) (aJ (pv 0) rfl))) (aA (G.Jp rfl rfl T.Zdw T.Im (aa (bH) au) (λ_ _ _ _ _ _ _ I hx hE=>G.Zz I hx hE))) bx)
   (ao (fW 2 sc.nd (jl bL (pdg hr (aJ (pv 0) rfl) (pv 1)) (az)))
   (ao (fW 3 sc.nd (jl bL (pdg hr (aJ (pv 0) rfl) (pv 1)) (az)))
   (ao (cG (jA (gh Zjg hr T.Zi0 (aa (pv 0) (aa (pv 2) (aa (pv 3) au))))) (aA (aM (gn))) bx)
   (aA (aM (pv 2))))))),?_⟩
  obtain⟨z0,z1,rfl,q⟩:=h;exact RX tx q
theorem Zz3{fd:FuncData}{Ziu Zit Zmj Zis Zir Ziq Zmi Zio Zin Zem:FuncData}(F:jz K "do" "do" Zvu Wz fd)(Oe:Hh P w K mg base 3 ir Ziu Mj (cz XQ (Cj bR aK aR bB) Nm))(Od:Hh P w K mg base 3 ig Zit Mi (cz XQ (Cj bR aK aR bB) Nk))(Us:Hh P w K mg base 4 jD Zmj R1 (cz XQ (Cj bR aK aR bB) XR))(Oc:Hh P w K mg base 4 ie Zis Mh (cz XQ (Cj bR aK aR bB) Nj))(Ob:Hh P w K mg base 4 gZ Zir Mg (cz XQ (Cj bR aK aR bB) Ng))(Oa:Hh P w K mg base 3 gY Ziq Mf (cz XQ (Cj bR aK aR bB) isName))(Ur:Hh P w K mg base 4 jC Zmi R0 (cz XQ (Cj bR aK aR bB) XN))(N8:Hh P w K mg base 3 gW Zio Ma (cz XQ (Cj bR aK aR bB) Nf))(N7:Hh P w K mg base 4 gU Zin LR (cz XQ (Cj bR aK aR bB) Nb))(Ij:Hh P w K mg base 3 fB Zem HQ (cz XQ (Cj bR aK aR bB) FQ)):lF P w K mg base 5 Wz fd Zw2 (cz XQ (Cj bR aK aR bB) (λ_=>True)):=by
 have sc:=Zyu;have tx:=pJ _ T;walk_at "okX"
 ·refine⟨Znr K ir ig jD ie gZ gY jC gW gU fB (cz XQ (Cj bR aK aR bB) Nm) (cz XQ (Cj bR aK aR bB) Nk) (cz XQ (Cj bR aK aR bB) XR) (cz XQ (Cj bR aK aR bB) Nj) (cz XQ (Cj bR aK aR bB) Ng) (cz XQ (Cj bR aK aR bB) isName) (cz XQ (Cj bR aK aR bB) XN) (cz XQ (Cj bR aK aR bB) Nf) (cz XQ (Cj bR aK aR bB) Nb) (cz XQ (Cj bR aK aR bB) FQ) E,(ao (fW 2 sc.nd (G.Zob T.Xp rfl (jl bL (pv 1) (az)) (λ_ _=>rfl)))
   (aA (aM (G.Zd2 (k:=4) (G.Uz.cons (by decide) Ob.g Ob.b Ob.k (G.Uz.cons (by decide) Us.g Us.b Us.k (G.Uz.cons (by decide) Ur.g Ur.b Ur.k (G.Uz.cons (by decide) Oe.g Oe.b Oe.k (G.Uz.cons (by decide) Od.g Od.b Od.k (G.Uz.cons (by decide) Oc.g Oc.b Oc.k (G.Uz.cons (by decide) Ij.g Ij.b Ij.k (G.Uz.cons (by decide) N8.g N8.b N8.k (G.Uz.cons (by decide) Oa.g Oa.b Oa.k (G.Uz.cons (by decide) N7.g N7.b N7.k G.Uz.nil)))))))))) (hr.mono (by decide)) rfl (Or.inl rfl) G.Jt (aa (pv 0) (aa (pv 1) au)))))),?_⟩
  obtain⟨z0,z1,rfl,q⟩:=h;exact ZA8 tx q
theorem Za1{fd:FuncData}(F:jz K "_law_cell" "_law_cell" Dk gj fd):lF P w K mg base 1 gj fd qp (rE K):=by
 have sc:=Zk;walk_at "ok"
 ·refine⟨Av K,(ao (cG (oE Gx (pv 1) (cP G.cZ (by rfl) T.lM G.boot_len (aa (pv 0) au))) (aA (aM (jl cV (pv 0) (pv 1)))) bx)
   (aA (aM (az)))),?_⟩
  obtain⟨z0,z1,rfl,q⟩:=h;exact Zc2 q
theorem Z9{fd:FuncData}(F:jz K "_law_draw" "_law_draw" Di d8 fd):lF P w K mg base 1 d8 fd lQ (jB):=by
 have sc:=Zi;walk_at "ok"
 ·refine⟨Aq,(aA (aM (bh gq (bh gq (bh Ml (bh gq (pv 0) (pv 1)) (az)) (pv 1)) (pv 2)))),?_⟩;obtain⟨z0,z1,z2,rfl,q⟩:=h;exact Zc0 q
theorem ZZ{fd:FuncData}(F:jz K "_law_word" "_law_word" CT iB fd):lF P w K mg base 1 iB fd uh (rD):=by
 have sc:=Y8;walk_at "ok"
 ·refine⟨Ae,(ao (fW 2 sc.nd (bH))
   (ao (fW 3 sc.nd (bh lW (az) (bh gq (pv 0) (az))))
   (ao (fW 4 sc.nd (bh gq (bh qT (pv 0) (az)) (pv 3)))
   (ao (fW 5 sc.nd (jl Zpq (pv 2) (bh gq (bh qT (pv 0) (az)) (az))))
   (ao (fW 6 sc.nd (jl Zpq (pv 2) (bh gq (bh lW (bh qT (pv 0) (az)) (bh Ml (az) (pv 1))) (az))))
   (aA (aM (bh R5 (bh R5 (bh G.Zju (pv 5) (pv 4)) (pv 6)) (bh G.Zju (pv 5) (bh Eg (bh Eg (pv 3) (az)) (pv 4))))))))))),?_⟩
  obtain⟨z0,z1,rfl,q⟩:=h;exact Zbq q
theorem Vy{fd:FuncData}{mY fc rB:FuncData}(F:jz K "_law_hands" "_law_hands" zW jf fd)(jZ:Hh P w K mg base 1 gj mY qp (rE K))(bY:Hh P w K mg base 1 d8 fc lQ (jB))(ux:Hh P w K mg base 1 iB rB uh (rD)):lF P w K mg base 2 jf fd Bg (Q4 K):=by
 have sc:=Vg;walk_at "ok"
 ·refine⟨yj K (rE K) (jB) (rD),(ao (fW 1 sc.nd (gh jZ hr T.mR (aa (pv 0) (aa (az) au))))
   (ao (fW 2 sc.nd (cX au))
   (ao (nR PassesOwn.never rfl (sG rfl T.tH (aa (bh lW (az) (gh bY hr T.cY (aa (pv 1) (aa (az) (aa (az) au))))) au)) (fQ (i:=3) sc.nd rfl (Or.inl rfl))
   (ao (fW 4 sc.nd (az))
   (ao (cG (oE lG (bh gq (pv 1) (az)) (az)) (aA (fW 4 sc.nd (bh lW (az) (gh bY hr T.cY (aa (bh lW (pv 1) (bh Ml (bh Ml (az) (pv 3)) (pv 3))) (aa (az) (aa (az) au))))))) bx)
   (aA (pM (Dz PySem.F.plainAttrs_list PySem.F.slot_list_append PySem.F.type_list_append qt (pv 2) (aa (cN (aa (gh ux hr T.xm (aa (pv 1) (aa (pv 3) au))) (aa (pv 4) au))) au)))))))
   (aA (aM (pv 2)))))),?_⟩
  obtain⟨z0,rfl,q⟩:=h;exact WQ q
theorem Z3{fd:FuncData}{mY fc:FuncData}(F:jz K "_law_room" "_law_room" Dc jQ fd)(jZ:Hh P w K mg base 1 gj mY qp (rE K))(bY:Hh P w K mg base 1 d8 fc lQ (jB)):lF P w K mg base 2 jQ fd DR (Zc4 K):=by
 have sc:=Zc;walk_at "ok"
 ·refine⟨Ai (rE K) (jB),(ao (fW 1 sc.nd (gh jZ hr T.mR (aa (pv 0) (aa (az) au))))
   (ao (cG (oE lG (gh bY hr T.cY (aa (pv 1) (aa (az) (aa (az) au)))) (az)) (aA (aM (bh lW (az) (bh gq (bh qT (pv 1) (az)) (az))))) bx)
   (aA (aM (bh Eg (bh ZP (az) (az)) (bh gq (pv 1) (bh ZP (az) (az)))))))),?_⟩
  obtain⟨z0,rfl,q⟩:=h;exact Zbu q
theorem Z7{fd:FuncData}(F:jz K "_law_kind" "_law_kind" Dg jV fd){Nv:FuncData}(lK:Hh P w K mg base 1 dB Nv uK (ur XQ.K)):lF P w K mg base 3 jV fd Ea (Q3 XQ):=by
 have sc:=Zg;walk_at "ok"
 ·refine⟨An XQ.E XQ.F XQ.K XQ.L (ur XQ.K),(ao (cG (oE lG (bh gq (pv 0) (az)) (az)) (aA (aM (Bc T.FN lK.g (hr.mono (by decide)) rfl T.Zaa lK.b .nil G.fX (aa (G.Lz T.Xx rfl T.Zjz) (aa (bh gq (bh qT (pv 0) (az)) (az)) au))))) bx)
   (ao (cG (oE lG (bh gq (pv 0) (az)) (az)) (aA (aM (Bc T.FN lK.g (hr.mono (by decide)) rfl T.Zaa lK.b .nil G.fX (aa (G.Lz T.Zdt rfl T.Zpc) (aa (bh gq (bh qT (pv 0) (az)) (az)) au))))) bx)
   (aA (aM (Bc T.FN lK.g (hr.mono (by decide)) rfl T.Zaa lK.b .nil G.fX (aa (G.Lz T.Zds rfl T.Zp8) (aa (bh gq (bh qT (pv 0) (az)) (az)) au))))))),?_⟩
  obtain⟨z0,rfl,q⟩:=h;exact Zby q
theorem Z5{fd:FuncData}(F:jz K "_law_made" "_law_made" De jT fd){fc:FuncData}(bY:Hh P w K mg base 1 d8 fc lQ (jB)):lF P w K mg base 2 jT fd DX (QX):=by
 have sc:=Ze;walk_at "okw"
 ·refine⟨Ak K (jB),(Zs6 (i:=3) sc.nd rfl (Or.inl rfl) (za (az) (za (az) (za (az) (za (az) (za (az) (za (az) Zso)))))) (gh bY hr T.cY (aa (pv 0) (aa (az) (aa (az) au)))) (λ_ _=>rfl)
   (RV (fW 4 sc.nd (az))
   (RV (cG (oE lG (bh gq (pv 0) (az)) (az)) (aA (fW 4 sc.nd (bh gq (pv 0) (az)))) bx)
   (RV (cG (oE lG (bh gq (pv 0) (az)) (az)) (aA (fW 4 sc.nd (bh gq (pv 0) (bh lW (bh ZP (az) (az)) (az))))) bx)
   (Zs5 (aM (cN (aa (bH) (aa (pv 1) (aa (pv 2) (aa (pv 3) (aa (pv 4) au)))))))))))),?_⟩
  obtain⟨z0,z1,z2,rfl,q⟩:=h;exact Zbw q
theorem Z6{fd:FuncData}(F:jz K "_law_load" "_law_load" Df jU fd):lF P w K mg base 1 jU fd DY (QZ):=by
 have sc:=Zf;walk_at "ok"
 ·refine⟨Am,(ao (fW 1 sc.nd (bh gq (pv 0) (bh ZP (az) (az))))
   (ao (cG (oE lG (bh gq (bh qT (pv 0) (az)) (az)) (az)) (aA (aM (Zyx Zva (pv 1)))) bx)
   (aA (aM (pv 1))))),?_⟩
  obtain⟨z0,rfl,q⟩:=h;exact Zbx q
theorem Za0{fd:FuncData}{fc Zbh Zbg rB:FuncData}(F:jz K "_law_deed" "_law_deed" Dj jX fd)(bY:Hh P w K mg base 1 d8 fc lQ (jB))(Zfi:Hh P w K mg base 1 jU Zbh DY (QZ))(Zfh:Hh P w K mg base 2 jT Zbg DX (QX))(ux:Hh P w K mg base 1 iB rB uh (rD)):lF P w K mg base 3 jX fd Ec (Q6 K):=by
 have sc:=Zj;walk_at "ok"
 ·refine⟨Ar K (jB) (QZ) (QX) (rD),(ao (fW 3 sc.nd (gh bY hr T.cY (aa (pv 0) (aa (az) (aa (cP G.cZ (by rfl) T.lM G.boot_len (aa (pv 1) au)) au)))))
   (ao (fW 4 sc.nd (gh bY hr T.cY (aa (pv 0) (aa (az) (aa (jl bL (jl cV (pv 1) (pv 3)) (az)) au)))))
   (ao (fW 5 sc.nd (gh bY hr T.cY (aa (pv 0) (aa (az) (aa (jl bL (jl cV (pv 1) (pv 3)) (az)) au)))))
   (ao (fW 6 sc.nd (gh bY hr T.cY (aa (pv 0) (aa (az) (aa (jl cV (cX (aa (az) (aa (az) au))) (bh qT (bh gq (pv 0) (az)) (az))) au)))))
   (ao (fW 7 sc.nd (gh bY hr T.cY (aa (pv 0) (aa (az) (aa (az) au)))))
   (ao (cG (oE Gx (pv 7) (az)) (aA (aM (gh Zfh hr T.O5 (aa (pv 0) (aa (pv 3) (aa (pv 4) au)))))) bx)
   (ao (cG (oE Gx (pv 7) (az)) (aA (aM (cN (aa (bH) (aa (pv 3) (aa (pv 4) (aa (pv 5) (aa (pv 6) au)))))))) bx)
   (ao (cG (oE Gx (pv 7) (az)) (aA (aM (cN (aa (bH) (aa (pv 3) (aa (pv 5) (aa (pv 6) (aa (pv 4) au)))))))) bx)
   (ao (cG (oE lG (pv 7) (az)) (aA (aM (cN (aa (bH) (aa (pv 3) (aa (pv 4) (aa (pv 5) au))))))) bx)
   (ao (cG (oE lG (pv 7) (az)) (aA (aM (cN (aa (bH) (aa (pv 3) (aa (pv 4) au)))))) bx)
   (ao (cG (oE Gx (pv 7) (az)) (ao (fW 8 sc.nd (gh bY hr T.cY (aa (pv 0) (aa (az) (aa (cP G.cZ (by rfl) T.lM G.boot_len (aa (pv 1) au)) au)))))
   (aA (aM (cN (aa (bH) (aa (pv 3) (aa (pv 4) (aa (pv 8) (aa (gh bY hr T.cY (aa (pv 0) (aa (az) (aa (jl bL (jl cV (pv 1) (pv 8)) (az)) au)))) au))))))))) bx)
   (ao (cG (oE lG (pv 7) (az)) (aA (aM (cN (aa (bH) (aa (pv 3) (aa (pv 5) (aa (gh Zfi hr T.O6 (aa (pv 0) au)) au))))))) bx)
   (ao (fW 9 sc.nd (gh ux hr T.xm (aa (pv 2) (aa (gh bY hr T.cY (aa (pv 0) (aa (az) (aa (az) au)))) au))))
   (ao (cG (oE Gx (pv 7) (az)) (aA (aM (cN (aa (bH) (aa (pv 3) (aa (pv 5) (aa (pv 9) au))))))) bx)
   (aA (aM (cN (aa (bH) (aa (pv 3) (aa (pv 4) (aa (pv 9) au))))))))))))))))))))),?_⟩
  obtain⟨z0,z1,z2,rfl,q⟩:=h;exact Zc1 q
theorem VB{fd:FuncData}{Zbk fc:FuncData}(F:jz K "_law_deeds" "_law_deeds" zY ji fd)(Zfl:Hh P w K mg base 3 jX Zbk Ec (Q6 K))(bY:Hh P w K mg base 1 d8 fc lQ (jB)):lF P w K mg base 4 ji fd Bj (Fg K):=by
 have sc:=Vi;walk_at "ok"
 ·refine⟨ym K (Q6 K) (jB),(ao (fW 3 sc.nd (gh Zfl hr T.O9 (aa (pv 0) (aa (pv 1) (aa (pv 2) au)))))
   (ao (cG (PW.pt (ZD (oE lG (jl bL (pv 3) (az)) (bH)) (Qy (oE lG (bh gq (bh qT (pv 0) (az)) (az)) (az))))) (aA (aM (cX (aa (pv 3) (aa (cN (aa (bH) (aa (jl bL (pv 3) (az)) (aa (jl bL (pv 3) (az)) au)))) au))))) bx)
   (ao (cG (PW.pt (ZD (oE lG (jl bL (pv 3) (az)) (bH)) (Qy (oE lG (bh gq (bh qT (pv 0) (az)) (az)) (az))))) (aA (aM (cX (aa (pv 3) (aa (cN (aa (bH) (aa (jl bL (pv 3) (az)) (aa (jl bL (pv 3) (az)) (aa (jl bL (pv 3) (az)) (aa (gh bY hr T.cY (aa (pv 0) (aa (az) (aa (az) au)))) au)))))) au))))) bx)
   (aA (aM (cX (aa (pv 3) au))))))),?_⟩
  obtain⟨z0,z1,z2,rfl,q⟩:=h;exact WW q
theorem Vx{fd:FuncData}{fc rB:FuncData}(F:jz K "_law_start" "_law_start" zV je fd)(bY:Hh P w K mg base 1 d8 fc lQ (jB))(ux:Hh P w K mg base 1 iB rB uh (rD)):lF P w K mg base 2 je fd Bf (Ky K):=by
 have sc:=Vf;walk_at "ok"
 ·refine⟨yh K (jB) (rD),(ao (fW 3 sc.nd (cX au))
   (ao (nR PassesOwn.never rfl (sG rfl T.tH (aa (cP G.cZ (by rfl) T.lM G.boot_len (aa (pv 0) au)) au)) (fQ (i:=4) sc.nd rfl (Or.inl rfl))
   (ao (fW 3 sc.nd (bh qd (pv 3) (cX (aa (cN (aa (bH) (aa (pv 4) (aa (az) (aa (az) (aa (az) au)))))) (aa (cN (aa (bH) (aa (pv 4) (aa (az) (aa (az) (aa (az) au)))))) au)))))
   (aA (fW 3 sc.nd (bh qd (pv 3) (cX (aa (cN (aa (bH) (aa (pv 4) (aa (az) (aa (bh gq (pv 4) (az)) (aa (az) au)))))) (aa (cN (aa (bH) (aa (pv 4) (aa (az) au)))) au))))))))
   (ao (fW 5 sc.nd (gh bY hr T.cY (aa (pv 1) (aa (az) (aa (az) au)))))
   (ao (cG (oE Zjv (pv 5) (az)) (aA (fW 3 sc.nd (bh qd (pv 3) (G.Oq (cns:=[]) [] (sG rfl T.tH (aa (cP G.cZ (by rfl) T.lM G.boot_len (aa (pv 0) au)) au)) (λ_ _ _ _ _=>G.Dy) (λ_ _ _ _ _=>(cN (aa (bH) (aa (pv 0) (aa (az) (aa (az) (aa (az) au))))))) rfl rfl (by repeat (first | exact trivial | refine⟨rfl,?_⟩)) (by repeat (first | exact trivial | refine⟨rfl,?_⟩)) rfl (by decide +kernel) rfl (by decide +kernel) (by decide +kernel) rfl (by decide +kernel))))) bx)
   (ao (fW 3 sc.nd (bh qd (pv 3) (bh R3 (cX (aa (gn) au)) (bh lW (az) (gh bY hr T.cY (aa (pv 1) (aa (az) (aa (az) au))))))))
   (ao (nR PassesOwn.never rfl (sG rfl T.tH (aa (cP G.cZ (by rfl) T.lM G.boot_len (aa (pv 0) au)) au)) (fQ (i:=4) sc.nd rfl (Or.inl rfl))
   (ao (cG (oE lG (pv 5) (az)) (aA (fW 3 sc.nd (bh qd (pv 3) (cX (aa (cN (aa (bH) (aa (pv 4) (aa (az) (aa (az) (aa (bh gq (pv 4) (az)) au)))))) (aa (cN (aa (bH) (aa (pv 4) (aa (az) (aa (bh gq (pv 4) (az)) (aa (az) au)))))) au)))))) bx)
   (ao (cG (oE Zjv (pv 5) (az)) (aA (fW 3 sc.nd (bh qd (pv 3) (cX (aa (cN (aa (bH) (aa (pv 4) (aa (az) (aa (az) (aa (az) au)))))) (aa (cN (aa (bH) (aa (pv 4) (aa (az) (aa (az) (aa (az) au)))))) (aa (cN (aa (bH) (aa (pv 4) (aa (az) au)))) au))))))) bx)
   (aA (cG (oE lG (pv 5) (az)) (aA (fW 3 sc.nd (bh qd (pv 3) (cX (aa (cN (aa (bH) (aa (pv 4) (aa (az) (aa (gh ux hr T.xm (aa (pv 2) (aa (bh gq (pv 4) (az)) au))) au))))) (aa (cN (aa (bH) (aa (pv 4) (aa (az) au)))) au)))))) bx)))))
   (aA (aM (pv 3))))))))),?_⟩
  obtain⟨z0,z1,z2,rfl,q⟩:=h;exact WM q
theorem Z2{fd:FuncData}{mY Wx fc Wu:FuncData}(F:jz K "_law_rows" "_law_rows" CZ jP fd)(jZ:Hh P w K mg base 1 gj mY qp (rE K))(Zci:Hh P w K mg base 4 ji Wx Bj (Fg K))(bY:Hh P w K mg base 1 d8 fc lQ (jB))(Zcf:Hh P w K mg base 2 je Wu Bf (Ky K)):lF P w K mg base 5 jP fd DQ (QV K):=by
 have sc:=Zb;walk_at "ok"
 ·refine⟨Ah K (rE K) (Fg K) (jB) (Ky K),(ao (fW 2 sc.nd (cX au))
   (ao (cG (oE Zjv (gh bY hr T.cY (aa (gh jZ hr T.mR (aa (pv 0) (aa (az) au))) (aa (az) (aa (az) au)))) (az)) (aA (fW 2 sc.nd (gh Zcf hr T.JP (aa (pv 1) (aa (gh jZ hr T.mR (aa (pv 0) (aa (az) au))) (aa (gh jZ hr T.mR (aa (pv 0) (aa (az) au))) au)))))) bx)
   (ao (fW 3 sc.nd (gh jZ hr T.mR (aa (pv 0) (aa (az) au))))
   (ao (fW 4 sc.nd (az))
   (ao (nR PassesOwn.never rfl (jF (Jr Zjp (pv 0) (Jq (az)) (Jq (az)))) (fQ (i:=5) sc.nd rfl (Or.inl rfl))
   (ao (fW 6 sc.nd (bh lW (pv 5) (bh Ml (bh Ml (pv 4) (pv 4)) (az))))
   (ao (cG (oE lG (gh bY hr T.cY (aa (pv 6) (aa (az) (aa (az) au)))) (az)) (aA (fW 2 sc.nd (bh qd (pv 2) (bh R3 (cX (aa (gn) au)) (bh lW (az) (gh bY hr T.cY (aa (pv 6) (aa (az) (aa (az) au))))))))) (aA (fW 2 sc.nd (bh qd (pv 2) (gh Zci hr T.JS (aa (pv 6) (aa (pv 1) (aa (pv 3) au))))))))
   (aA (Zw1 (i:=4) sc.nd rfl (Or.inl rfl) (az) Zps)))))
   (aA (aM (bh qd (pv 2) (bh R3 (cX (aa (gn) au)) (bh lW (az) (gh bY hr T.cY (aa (pv 3) (aa (az) (aa (az) au)))))))))))))),?_⟩
  obtain⟨z0,z1,rfl,q⟩:=h;exact Zbt q
theorem Sh{fd:FuncData}(F:jz K "_law_number" "_law_number" xW fM fd):lF P w K mg base 1 fM fd tQ (vY):=by
 have sc:=Rz;walk_at "ok"
 ·refine⟨vH,(aA (aM ((Zoj (cP G.vU (by rfl) T.iT G.boot_isinstance (aa (pv 0) (aa (Bd rfl T.Zjk G.boot_int rfl) au))) (Zoc (Zod (cP G.vU (by rfl) T.iT G.boot_isinstance (aa (pv 0) (aa (Bd rfl T.Yr G.boot_bool rfl) au))))))))),?_⟩;obtain⟨z0,rfl,q⟩:=h;exact Up q
theorem Vz{fd:FuncData}(F:jz K "_law_event" "_law_event" zX jg fd){vO:FuncData}(ud:Hh P w K mg base 1 fM vO tQ (vY)):lF P w K mg base 2 jg fd Bh (Gd K):=by
 have sc:=Vh;walk_at "ok"
 ·refine⟨yl K (vY),(ao (cG (PW.pt (qQ (oF (jA (cP G.vU (by rfl) T.iT G.boot_isinstance (aa (pv 0) (aa (Bd rfl T.Il G.boot_tuple rfl) au))))) (qQ (oE Gw (cP G.cZ (by rfl) T.lM G.boot_len (aa (pv 0) au)) (az)) (pB (oF (jA (cP G.vU (by rfl) T.iT G.boot_isinstance (aa (jl bL (pv 0) (az)) (aa (Bd rfl T.Zjj G.boot_str rfl) au))))))))) (aA (aM (qR))) bx)
   (ao (cG (PW.pt (qQ (oF (jA (gh ud hr T.tX (aa (jl bL (pv 0) (az)) au)))) (pB (oF (jA (cP G.vU (by rfl) T.iT G.boot_isinstance (aa (jl bL (pv 0) (az)) (aa (Bd rfl T.uy G.boot_list rfl) au)))))))) (aA (aM (qR))) bx)
   (ao (nR PassesOwn.never rfl (jF (jl bL (pv 0) (az))) (fQ (i:=2) sc.nd rfl (Or.inl rfl))
   (aA (cG (oF (jA (gh ud hr T.tX (aa (pv 2) au)))) (aA (aM (qR))) bx)))
   (aA (aM (Fy (G.Zw6 hr.units) (pv 0) (pv 1) (Mx _))))))),?_⟩
  obtain⟨z0,z1,rfl,q⟩:=h;exact WR q
theorem Z8{fd:FuncData}(F:jz K "_law_hand" "_law_hand" Dh jW fd){ZA3:FuncData}(Zyk:Hh P w K mg base 5 Wz ZA3 Zw2 (cz XQ (Cj bR aK aR bB) (λ_=>True))):lF P w K mg base 6 jW fd Eb (Q5 XQ (Cj bR aK aR bB)):=by
 have sc:=Zh;walk_at "ok"
 ·refine⟨Ao aK bR aR bB (cz XQ (Cj bR aK aR bB) (λ_=>True)),(ao (fW 2 sc.nd (gn))
   (ao (G.Zw0 ⟨rfl,rfl⟩ rfl T.Pa (λcls h=>by rcases h with rfl | rfl | rfl | rfl<;>first | exact T.lC | exact T.mD | exact T.o5 | exact T.mZ) (λEx pn xe hx=>(aA (fW 2 sc.nd (G.Zoi Zyk.g (hr.mono (by decide)) rfl T.Zz7 Zyk.k Zyk.b .nil hx (aa (pv 0) (aa (pv 1) au)))))) (λea pn=>(aA (fW 2 sc.nd (gn)))))
   (aA (aM (pv 2))))),?_⟩
  obtain⟨z0,z1,rfl,q⟩:=h;exact Zbz rfl rfl rfl rfl q
theorem Z0{fd:FuncData}(F:jz K "_law_with" "_law_with" CV jN fd):lF P w K mg base 1 jN fd DN (Bx K):=by
 have sc:=Y9;walk_at "ok"
 ·refine⟨Af K,(ao (fW 3 sc.nd (Js))
   (ao (nR PassesOwn.never rfl (jF (pv 0)) (fQ (i:=4) sc.nd rfl (Or.inl rfl))
   (aA (Fw (vM hr) (pv 3) (jl bL (pv 4) (az)) (jl bL (pv 4) (az)) rfl)))
   (ao (nR PassesOwn.never rfl (jF (pv 1)) (fQ (i:=5) sc.nd rfl (Or.inl rfl))
   (aA (Fw (vM hr) (pv 3) (pv 5) (pv 2) rfl)))
   (aA (aM (pv 3)))))),?_⟩
  obtain⟨z0,z1,z2,rfl,q⟩:=h;exact Zbr q
theorem Sq{fd:FuncData}(F:jz K "_law_marked" "_law_marked" xX gH fd):lF P w K mg base 1 gH fd yx (tE K):=by
 have sc:=RB;walk_at "ok"
 ·refine⟨vI K,(ao (cG (PW.pt (qQ (oF (jA (cP G.vU (by rfl) T.iT G.boot_isinstance (aa (pv 0) (aa (Bd rfl T.uy G.boot_list rfl) au))))) (pB (oE Gw (cP G.cZ (by rfl) T.lM G.boot_len (aa (pv 0) au)) (cP G.cZ (by rfl) T.lM G.boot_len (aa (pv 1) au)))))) (aA (aM (qR))) bx)
   (ao (nR PassesOwn.never rfl (sG rfl T.tH (aa (cP G.cZ (by rfl) T.lM G.boot_len (aa (pv 1) au)) au)) (fQ (i:=3) sc.nd rfl (Or.inl rfl))
   (ao (cG (PW.pt (qQ (oF (jA (cP G.vU (by rfl) T.iT G.boot_isinstance (aa (jl cV (pv 0) (pv 3)) (aa (Bd rfl T.Il G.boot_tuple rfl) au))))) (pB (oE Gw (cP G.cZ (by rfl) T.lM G.boot_len (aa (jl cV (pv 0) (pv 3)) au)) (az))))) (aA (aM (qR))) bx)
   (aA (cG (PW.pt (qQ (oE (G.Zom hr.units) (Jr Znj (jl cV (pv 0) (pv 3)) ZF (Jq (az))) (Jr Znj (jl cV (pv 1) (pv 3)) ZF (Jq (az)))) (pB (oE Gw (jl bL (jl cV (pv 0) (pv 3)) (az)) (pdg hr (pv 2) (jl bL (jl cV (pv 1) (pv 3)) (az))))))) (aA (aM (qR))) bx))))
   (aA (aM (qR))))),?_⟩
  obtain⟨z0,z1,z2,rfl,q⟩:=h;exact Uq q
theorem Sg{fd:FuncData}(F:jz K "_law_places" "_law_places" xV gG fd):lF P w K mg base 1 gG fd yw (tD K):=by
 have sc:=Ry;walk_at "ok"
 ·refine⟨vG K,(ao (RW (i:=2) sc.nd rfl (Or.inr rfl) (Js))
   (ao (nR PassesOwn.never rfl (jF (pv 0)) (fQ (i:=3) sc.nd rfl (Or.inl rfl))
   (aA (Fw (vM hr) (pv 2) (jl bL (pv 3) (az)) (jl bL (pv 3) (az)) rfl)))
   (aA (aM (G.Oq (cns:=["_law_at"]) [2] (jF (pv 1)) (λ_ _ _ _ _=>G.Dy) (λ_ _ _ _ _=>(pdg hr (pv 1) (pv 0))) rfl rfl (by repeat (first | exact trivial | refine⟨rfl,?_⟩)) (by repeat (first | exact trivial | refine⟨rfl,?_⟩)) rfl (by decide +kernel) rfl (by decide +kernel) (by decide +kernel) rfl (by decide +kernel)))))),?_⟩
  obtain⟨z0,z1,rfl,q⟩:=h;exact Uo q
theorem Vw{fd:FuncData}(F:jz K "_law_state" "_law_state" zU iZ fd){vO:FuncData}(ud:Hh P w K mg base 1 fM vO tQ (vY)):lF P w K mg base 2 iZ fd Be (vX XQ):=by
 have sc:=Ve;have tx:=pJ _ T;walk_at "ok"
 ·refine⟨yg K (vY),(ao (fW 1 sc.nd (cX (aa (aJ (pv 0) rfl) (aa (aJ (pv 0) rfl) (aa (aJ (pv 0) rfl) au)))))
   (ao (fW 1 sc.nd (bh qd (pv 1) (cX (aa (aJ (pv 0) rfl) (aa (aJ (pv 0) rfl) (aa (aJ (pv 0) rfl) au))))))
   (ao (nR PassesOwn.never rfl (jF (bh qd (pv 1) (aJ (pv 0) rfl))) (fQ (i:=2) sc.nd rfl (Or.inl rfl))
   (aA (cG (oF (jA (gh ud hr T.tX (aa (pv 2) au)))) (aA (aM (cX au))) bx)))
   (aA (aM (pv 1)))))),?_⟩
  obtain⟨z0,rfl,q⟩:=h;exact WL tx q
theorem Z4{fd:FuncData}(F:jz K "_law_pale" "_law_pale" Dd jR fd):lF P w K mg base 1 jR fd DW (Ga K):=by
 have sc:=Zd;walk_at "ok"
 ·refine⟨Aj K,(ao (fW 2 sc.nd (cX au))
   (ao (nR PassesOwn.never rfl (jF (pv 0)) (fQ (i:=3) sc.nd rfl (Or.inl rfl))
   (aA (cG (oE lG (jl bL (pv 3) (az)) (bH)) (aA (pM (Dz PySem.F.plainAttrs_list PySem.F.slot_list_append PySem.F.type_list_append qt (pv 2) (aa (jl bL (pv 3) (az)) au)))) bx)))
   (ao (fW 4 sc.nd (cX au))
   (ao (nR PassesOwn.never rfl (jF (pv 1)) (fQ (i:=5) sc.nd rfl (Or.inl rfl))
   (aA (cG (PW.pt (ZD (oE Mm (pv 5) (pv 2) (by with_unfolding_all rfl)) (Qy (oE ZQ (pv 5) (pv 4) (by with_unfolding_all rfl))))) (aA (pM (Dz PySem.F.plainAttrs_list PySem.F.slot_list_append PySem.F.type_list_append qt (pv 4) (aa (pv 5) au)))) bx)))
   (aA (aM (pv 4))))))),?_⟩
  obtain⟨z0,z1,rfl,q⟩:=h;exact Zbv q
theorem Z1{fd:FuncData}{Ww Ud Zbf Uc Wt Zbb Ub Zub Wo:FuncData}(F:jz K "_law_step" "_law_step" CW jO fd)(Zch:Hh P w K mg base 2 jg Ww Bh (Gd K))(W4:Hh P w K mg base 1 gH Ud yx (tE K))(Zfg:Hh P w K mg base 1 jR Zbf DW (Ga K))(W3:Hh P w K mg base 1 gG Uc yw (tD K))(KD:Hh P w K mg base 2 iZ Wt Be (vX XQ))(Zfc:Hh P w K mg base 1 jN Zbb DN (Bx K))(GZ:Hh P w K mg base 4 gF Ub ["world"] (vZ XQ))(Zr7:Hh P w K mg base 9 yM Zub ["world"] (bQ XQ Zhb))(KC:Hh P w K mg base 5 iU Wo ["world"] (Ig XQ)):lF P w K mg base 10 jO fd DP (QT XQ):=by
 have sc:=Za;have tx:=pJ _ T;walk_at "ok"
 ·refine⟨Ag K (Gd K) (tE K) (Ga K) (tD K) (vX XQ) (Bx K) (vZ XQ) (bQ XQ Zhb) (Ig XQ),(ao (fW 2 sc.nd (aJ (pv 0) rfl))
   (ao (cG (PW.pt (qQ (oE Gw (aJ (pv 2) rfl) (bH)) (pB (oE (G.Zhd (vM hr)) (aJ (pv 2) rfl) (cX au))))) (ao (pM (gh Zr7 hr T.Zhz (aa (pv 0) au)))
   (aA (aM (qR)))) bx)
   (ao (fW 3 sc.nd (gh KC hr T.Bo (aa (pv 0) au)))
   (ao (fW 4 sc.nd (gh GZ hr T.yF (aa (pv 0) au)))
   (ao (RW (i:=5) sc.nd rfl (Or.inr rfl) (sH G.vR (by rfl) T.uy G.boot_list (aa (aJ (pv 2) rfl) au)))
   (ao (fW 6 sc.nd (gh KD hr T.Br (aa (pv 2) au)))
   (ao (cG (oE (G.Zhd (vM hr)) (pv 6) (cX au)) (aA (aM (qR))) bx)
   (ao (Zs7 ((pv 6)) ((az)) G.Zqe ((az)) Zps set_list)
   (ao (G.Zo2 (iz:=7) (cns:=["_law_grey"]) [5] (jF (pv 3)) (λ_ _ _ _ _=>(G.ZK (oE lG (jl bL (pv 0) (az)) (jl cV (pv 1) (az))))) (λ_ _ _ _ _=>(pv 0)) rfl rfl (by repeat (first | exact trivial | refine⟨rfl,?_⟩)) (by repeat (first | exact trivial | refine⟨rfl,?_⟩)) rfl (by decide +kernel) rfl (by decide +kernel) (by decide +kernel) rfl (by decide +kernel) sc.nd rfl (Or.inl rfl) (Or.inr rfl) rfl)
   (ao (cG (PW.pt (qQ (oE Gw (cP G.cZ (by rfl) T.lM G.boot_len (aa (pv 7) au)) (az)) (pB (oE Gw (jl bL (jl cV (pv 7) (az)) (az)) (bH))))) (aA (aM (qR))) bx)
   (ao (fW 8 sc.nd (gh Zfg hr T.O4 (aa (pv 3) (aa (jl bL (jl cV (pv 7) (az)) (az)) au))))
   (ao (cG (oF (jA (gh Zch hr T.JR (aa (gh Zr7 hr T.Zhz (aa (pv 0) au)) (aa (cN (aa (bH) (aa (jl bL (jl cV (pv 7) (az)) (az)) (aa (sH G.vR (by rfl) T.uy G.boot_list (aa (pv 8) au)) au)))) au))))) (aA (aM (qR))) bx)
   (ao (fW 9 sc.nd (gh Zfc hr T.OJ (aa (pv 3) (aa (pv 8) (aa (bH) au)))))
   (ao (Fw (vM hr) (pv 9) (jl bL (jl cV (pv 7) (az)) (az)) (bH) rfl)
   (ao (cG (PW.pt (qQ (oF (jA (gh W4 hr T.GJ (aa (gh KC hr T.Bo (aa (pv 0) au)) (aa (pv 3) (aa (pv 9) au)))))) (pB (oE (G.Zom hr.units) (gh GZ hr T.yF (aa (pv 0) au)) (pv 4))))) (aA (aM (qR))) bx)
   (ao (cG (PW.pt (qQ (oE Gw (aJ (pv 2) rfl) (bH)) (pB (oE (G.Zw4 (vM hr)) (gh KD hr T.Br (aa (pv 2) au)) (pv 6))))) (aA (aM (qR))) bx)
   (aA (aM (Fy (G.Zhd (vM hr)) (aJ (pv 2) rfl) (bh qd (Jr Zjp (pv 5) (Jq (az)) ZF) (gh W3 hr T.GF (aa (pv 3) (aa (pv 8) au)))) (Mx _)))))))))))))))))))),?_⟩
  obtain⟨z0,z1,rfl,q⟩:=h;exact Zbs tx q
theorem Zw7{fl:Addr}{fd:FuncData}{Kf mY Zbj Wv Zbi Zbe Zbd Zbc:FuncData}(F:jz K "law" "law" RG fl fd)(zB:Hh P w K mg base 3 dj Kf sI (u6 XQ))(jZ:Hh P w K mg base 1 gj mY qp (rE K))(Zfk:Hh P w K mg base 6 jW Zbj Eb (Q5 XQ (Cj bR aK aR bB)))(Zcg:Hh P w K mg base 2 jf Wv Bg (Q4 K))(Zfj:Hh P w K mg base 3 jV Zbi Ea (Q3 XQ))(Zff:Hh P w K mg base 2 jQ Zbe DR (Zc4 K))(Zfe:Hh P w K mg base 5 jP Zbd DQ (QV K))(Zfd:Hh P w K mg base 10 jO Zbc DP (QT XQ)):lF P w K mg base 11 fl fd ["_law_script"] (Zkl K):=by
 have sc:=Zvr;have tx:=pJ _ T;walk_at "ok"
 ·refine⟨Zgy K XQ.W (u6 XQ) (rE K) (Q5 XQ (Cj bR aK aR bB)) (Q4 K) (Q3 XQ) (Zc4 K) (QV K) (QT XQ),(ao (fW 1 sc.nd (bh gq (gh jZ hr T.mR (aa (pv 0) (aa (az) au))) (az)))
   (ao (fW 2 sc.nd (gh Zcg hr T.JQ (aa (pv 0) au)))
   (ao (fW 3 sc.nd (Bc T.JC zB.g (hr.mono (by decide)) rfl T.Zjy zB.b .nil G.fX (aa (gh Zff hr T.O3 (aa (pv 0) au)) (aa (gh Zfj hr T.O7 (aa (pv 1) au)) (aa (sH G.vR (by rfl) T.uy G.boot_list (aa (pv 2) au)) au)))))
   (ao (nR PassesOwn.never rfl (jF (gh Zfe hr T.O2 (aa (pv 0) (aa (pv 2) au)))) (fQ (i:=4) sc.nd rfl (Or.inl rfl))
   (ao (cG (oE lG (aJ (aJ (pv 3) rfl) rfl) (bH)) (aA (aM (qR))) bx)
   (aA (cG (oE G.Eh (pv 4) (gn)) (aA (pM (gh Zfk hr T.O8 (aa (pv 3) (aa (pv 4) au))))) (aA (cG (oF (jA (gh Zfd hr T.O1 (aa (pv 3) (aa (bh gq (pv 1) (az)) au))))) (aA (aM (qR))) bx))))))
   (aA (aM (qR))))))),?_⟩
  obtain⟨z0,rfl,q⟩:=h;exact Zwp tx q
end
abbrev Fi(K:aB)(c:Addr)(s:Str)(f:Addr):Prop:=W.findIn K (.ref c) s=some (some (.ref f))
abbrev Fo(K:aB)(c:Addr)(s:Str):Prop:=W.findIn K (.ref c) s=some none
abbrev Ns(K:aB)(s:Str)(f:Addr):Prop:=W.nsIn K mainGlobals s=some (some (.ref f))
abbrev Ki(K:aB)(f:Addr):Prop:=W.keepIn K (.ref f)=true
abbrev Ci(K:aB)(c:Value)(s:Str):Prop:=W.codeIn K c s=true
abbrev Lk(K:aB)(f:Addr)(a b:Str)(s:Stmt)(d:Value)(oc:Value)(od:Option Addr)(kV dc pm:Value)(an:Option Addr)(cd ct:Value)(sl:Array (Option Value)):Prop:=K.lookup f=some ⟨oc,od,.func (W.fnOf a b (nW s) (lD s) (aG s) d kV dc pm an cd ct),sl⟩
def lE(K:aB)(x q:Str)(s:Stmt)(f:Addr):Prop:=∃oc od kV c d b a ct sl,Lk K f x q s .none oc od kV c d b a ct sl/\Ci K a q/\Ki K f
theorem fgm{K:aB}{x q:Str}{s:Stmt}{f:Addr}{oc:Value}{od:Option Addr}{kV d e:Value}{b:Option Addr}{a ct:Value}{sl:Array (Option Value)}(l:Lk K f x q s .none oc od kV d e b a ct sl)(c:Ci K a q)(k:Ki K f):lE K x q s f:=⟨oc,od,kV,d,e,b,a,ct,sl,l,c,k⟩
theorem fg{K:aB}{x q:Str}{s:Stmt}{f:Addr}(h:lE K x q s f):∃fd,jz K x q s f fd/\Ki K f:=by
 obtain⟨oc,od,kV,d,a,b,e,ct,sl,l,c,k⟩:=h;exact⟨_,Zqh l c k,k⟩
theorem GX{K:aB}{x a:Str}{st:Stmt}{f:Addr}{fd:FuncData}(F:jz K x a st f fd)(a0:Str)(h:∀(kV c e:Value) (g:Option Addr) (b ct d:Value),bindArgs (W.fnOf x a (nW st) (lD st) (aG st) .none kV c e g b ct) ⟨[d],[]⟩=pure (([a0]:List Str).zip [d]):=by intros;rfl):Binds K fd [a0] []:=F.binds λkV c e g b ct us hl=>match us,hl with | [d],_=>h kV c e g b ct d
theorem Bw{K:aB}{x a:Str}{st:Stmt}{f:Addr}{fd:FuncData}(F:jz K x a st f fd)(a0 j:Str)(h:∀(kV c g:Value) (i:Option Addr) (b ct e d:Value),bindArgs (W.fnOf x a (nW st) (lD st) (aG st) .none kV c g i b ct) ⟨[e,d],[]⟩=pure (([a0,j]:List Str).zip [e,d]):=by intros;rfl):Binds K fd [a0,j] []:=F.binds λkV c g i b ct us hl=>match us,hl with | [e,d],_=>h kV c g i b ct e d
theorem bd3{K:aB}{x a:Str}{st:Stmt}{f:Addr}{fd:FuncData}(F:jz K x a st f fd)(a0 k l:Str)(h:∀(kV c i:Value) (j:Option Addr) (b ct g d e:Value),bindArgs (W.fnOf x a (nW st) (lD st) (aG st) .none kV c i j b ct) ⟨[g,d,e],[]⟩=pure (([a0,k,l]:List Str).zip [g,d,e]):=by intros;rfl):Binds K fd [a0,k,l] []:=F.binds λkV c i j b ct us hl=>match us,hl with | [g,d,e],_=>h kV c i j b ct g d e
theorem bd4{K:aB}{x a:Str}{st:Stmt}{f:Addr}{fd:FuncData}(F:jz K x a st f fd)(a0 l n m:Str)(h:∀(kV c j:Value) (k:Option Addr) (b ct g d e i:Value),bindArgs (W.fnOf x a (nW st) (lD st) (aG st) .none kV c j k b ct) ⟨[g,d,e,i],[]⟩=pure (([a0,l,n,m]:List Str).zip [g,d,e,i]):=by intros;rfl):Binds K fd [a0,l,n,m] []:=F.binds λkV c j k b ct us hl=>match us,hl with | [g,d,e,i],_=>h kV c j k b ct g d e i
theorem bd5{K:aB}{x a:Str}{st:Stmt}{f:Addr}{fd:FuncData}(F:jz K x a st f fd)(a0 n p o m:Str)(h:∀(kV c k:Value) (l:Option Addr) (b ct g d e i j:Value),bindArgs (W.fnOf x a (nW st) (lD st) (aG st) .none kV c k l b ct) ⟨[g,d,e,i,j],[]⟩=pure (([a0,n,p,o,m]:List Str).zip [g,d,e,i,j]):=by intros;rfl):Binds K fd [a0,n,p,o,m] []:=F.binds λkV c k l b ct us hl=>match us,hl with | [g,d,e,i,j],_=>h kV c k l b ct g d e i j
theorem all_mk{l:W.OpenLaw}{w:World}{K:aB}{h:Heap}{mg:Str->Option Value}{fa fl d g u c j q m r x P aK aR bR bB dG fV dN dD iC kZ jr jq fU iM eU nP pH dF cH dj yO gF iy jM d7 iW nQ iU jL t7 yN gP vP tZ nO gO cT cQ yL gD GQ iY lY gM cR iV GP bV yM oM O bW N dJ dM dI gQ dB d9 j7 jo gA fL gZ jD jC ir ig ie fB gW gY gU gB Wz gj d8 iB jf jQ jV jT jU jX ji je jP fM jg jW jN gH gG iZ jR jO:Addr}(k:K.In h)(o:h.Ns mainGlobals mg)(hfa:mg "law"=some (.ref fa))
  {od5 an5 to5 ZAp ZAg:Option Addr}
  {sl5 ts5 ZAo:Array (Option Value)}
  {oc5 kV5 dc5 pm5 cd5 ct5 tc5 F D ZAq Zzc ZAa Zyw J ZAc Zuv Zuu:Value}
  {td5 Ue Ug:Addr}
  {tn5 Zer Zes:Nat}
  {X5 X4 X3 XX Yi Yh Yg Ye Yd Yc Yb X8 X7 X6:Int}
  {Xd Xc Xb Xa Xn Xm Xl Xk Xj Xi Xh Xg Xf Xe:Tok}
  (Zye:Ns K "Cell" d)
  (Zya:Ns K "Heap" g)
  (Zyb:Ns K "Hand" u)
  (Zmt:Ns K "Sweeper" c)
  (Zum:Ns K "World" j)
  (Zun:Ns K "First" q)
  (Zyd:Ns K "Each" m)
  (Zy8:Ns K "Last" r)
  (Zy9:Ns K "Kind" x)
  (Zf4:Ns K "GreyError" P)
  (Zf5:Ns K "EmptySlot" aK)
  (Zmu:Ns K "NoField" aR)
  (Zyc:Ns K "Full" bR)
  (Zr4:Ns K "NoName" bB)
  (a1:Fi K d "__init__" dG)
  (i1:W.isFn K (.ref dG)=true)
  (a2:Fi K d "units" fV)
  (i2:W.isFn K (.ref fV)=true)
  (a3:Fi K d "has_field" dN)
  (i3:W.isFn K (.ref dN)=true)
  (a4:Fi K g "__init__" dD)
  (i4:W.isFn K (.ref dD)=true)
  (a5:Fi K g "make" iC)
  (i5:W.isFn K (.ref iC)=true)
  (l5:Lk K iC "make" "Heap.make" wL (.ref td5) oc5 od5 kV5 dc5 pm5 an5 cd5 ct5 sl5)
  (t5:K.lookup td5=some ⟨tc5,to5,.seq #[F,D] tn5,ts5⟩)
  (ZJ6:RelV (.int 0) F)
  (ZJ5:RelV (.int 0) D)
  (c5:Ci K cd5 "Heap.make")
  (k5:Ki K iC)
  (a6:Fi K g "lay" kZ)
  (i6:W.isFn K (.ref kZ)=true)
  (a7:Fi K g "back" jr)
  (i7:W.isFn K (.ref jr)=true)
  (a8:Fi K g "free" jq)
  (i8:W.isFn K (.ref jq)=true)
  (a9:Fi K g "there" fU)
  (i9:W.isFn K (.ref fU)=true)
  (a10:Ns K "cell_at" iM)
  (a11:Ns K "birth_at" eU)
  (a12:Ns K "reached" nP)
  (a13:Ns K "onward" pH)
  (a14:Fi K u "__init__" dF)
  (i14:W.isFn K (.ref dF)=true)
  (a15:Fi K c "__init__" cH)
  (i15:W.isFn K (.ref cH)=true)
  (a16:Fi K j "__init__" dj)
  (i16:W.isFn K (.ref dj)=true)
  (a17:Ns K "held" yO)
  (a18:Ns K "births_held" gF)
  (a19:Ns K "births_at" iy)
  (a20:Ns K "looked_at" jM)
  (a21:Ns K "has_sense" d7)
  (a22:Ns K "is_walking" iW)
  (a23:Ns K "mark_of" nQ)
  (a24:Ns K "told_cells" iU)
  (a25:Ns K "told_cell" jL)
  (a26:Ns K "begin" t7)
  (a27:Ns K "note" yN)
  (a28:Ns K "note_all" gP)
  (a29:Ns K "gone" vP)
  (a30:Ns K "roots" tZ)
  (a31:Ns K "root_of" nO)
  (a32:Ns K "note_hands" gO)
  (a33:Ns K "step_at_rest" cT)
  (a34:Ns K "step_in_walk" cQ)
  (a35:Ns K "walk" yL)
  (a36:Ns K "look_or_cut" gD)
  (a37:Ns K "cut" GQ)
  (a38:Ns K "first_loss" iY)
  (a39:Ns K "given_up" lY)
  (a40:Ns K "told_again" gM)
  (a41:Ns K "step_in_give" cR)
  (a42:Ns K "pass_place" iV)
  (a43:Ns K "end" GP)
  (a44:Ns K "step_when_lost" bV)
  (a45:Ns K "step" yM)
  (a46:Ns K "all_of" oM)
  (a47:Fi K m "at_begin" O)
  (H:W.isFn K (.ref O)=true)
  (a48:Fi K q "next_look" bW)
  (i48:W.isFn K (.ref bW)=true)
  (a49:Fi K m "stays" N)
  (L:W.isFn K (.ref N)=true)
  (a50:Fi K q "at_begin" dJ)
  (i50:W.isFn K (.ref dJ)=true)
  (a51:Fi K m "next_look" dM)
  (i51:W.isFn K (.ref dM)=true)
  (a52:Fi K r "next_look" dI)
  (i52:W.isFn K (.ref dI)=true)
  (a53:Fi K r "stays" gQ)
  (i53:W.isFn K (.ref gQ)=true)
  (a54:Fi K x "__init__" dB)
  (i54:W.isFn K (.ref dB)=true)
  (a55:Ns K "slots_of" d9)
  (a56:Ns K "cell_in" j7)
  (a57:Ns K "fields_in" jo)
  (a58:Ns K "told_as_old" gA)
  (a59:Ns K "told_as_new" fL)
  (a60:Ns K "do_make" gZ)
  (a61:Ns K "do_get" jD)
  (a62:Ns K "do_put" jC)
  (a63:Ns K "do_copy" ir)
  (a64:Ns K "do_drop" ig)
  (a65:Ns K "do_give" ie)
  (a66:Ns K "do_write" fB)
  (a67:Ns K "do_read" gW)
  (a68:Ns K "do_name" gY)
  (a69:Ns K "do_seek" gU)
  (a70:Ns K "place_named" gB)
  (a71:Ns K "do" Wz)
  (a72:Ns K "_law_cell" gj)
  (a73:Ns K "_law_draw" d8)
  (a74:Ns K "_law_word" iB)
  (a75:Ns K "_law_hands" jf)
  (a76:Ns K "_law_room" jQ)
  (a77:Ns K "_law_kind" jV)
  (a78:Ns K "_law_made" jT)
  (a79:Ns K "_law_load" jU)
  (a80:Ns K "_law_deed" jX)
  (a81:Ns K "_law_deeds" ji)
  (a82:Ns K "_law_start" je)
  (a83:Ns K "_law_rows" jP)
  (a84:Ns K "_law_number" fM)
  (a85:Ns K "_law_event" jg)
  (a86:Ns K "_law_hand" jW)
  (a87:Ns K "_law_with" jN)
  (a88:Ns K "_law_marked" gH)
  (a89:Ns K "_law_places" gG)
  (a90:Ns K "_law_state" iZ)
  (a91:Ns K "_law_pale" jR)
  (a92:Ns K "_law_step" jO)
  (a93:Ns K "law" fl)
  (l93:Lk K fl "law" "law" RG .none ZAq ZAp Zzc ZAa Zyw ZAg J ZAc ZAo)
  (c93:Ci K J "law")
  (k93:Ki K fl)
  (Zox:Ns K "STEPS" Ue)
  (Zph:K.lookup Ue=some ⟨.type "dict",none,.dict #[⟨X5,.str "rest" Xd,.ref cT⟩,⟨X4,.str "walk" Xc,.ref cQ⟩,⟨X3,.str "give" Xb,.ref cR⟩,⟨XX,.str "lost" Xa,.ref bV⟩] Zer,#[]⟩)
  (Zm2:X5=hashStr w "rest")
  (Zm1:X4=hashStr w "walk")
  (Zm0:X3=hashStr w "give")
  (Zlz:XX=hashStr w "lost")
  (Zoy:Ns K "DEEDS" Ug)
  (Zpi:K.lookup Ug=some ⟨.type "dict",none,.dict #[⟨Yi,.str "make" Xn,.ref gZ⟩,⟨Yh,.str "get" Xm,.ref jD⟩,⟨Yg,.str "put" Xl,.ref jC⟩,⟨Ye,.str "copy" Xk,.ref ir⟩,⟨Yd,.str "drop" Xj,.ref ig⟩,⟨Yc,.str "give" Xi,.ref ie⟩,⟨Yb,.str "write" Xh,.ref fB⟩,⟨X8,.str "read" Xg,.ref gW⟩,⟨X7,.str "name" Xf,.ref gY⟩,⟨X6,.str "seek" Xe,.ref gU⟩] Zes,#[]⟩)
  (Zmc:Yi=hashStr w "make")
  (Zmb:Yh=hashStr w "get")
  (Zma:Yg=hashStr w "put")
  (Zm9:Ye=hashStr w "copy")
  (Zm8:Yd=hashStr w "drop")
  (Zm7:Yc=hashStr w "give")
  (Zm6:Yb=hashStr w "write")
  (Zm5:X8=hashStr w "read")
  (Zm4:X7=hashStr w "name")
  (Zm3:X6=hashStr w "seek")
  (Zsk:W.plainGet K d Str.empty=true)
  (Zu1:W.hasDictIn K d=true)
  (Zsd:W.plainOver K d=true)
  (Zrv:W.findIn K (.ref d) "__setattr__"=some (some (.builtin "object.__setattr__")))
  (QH:W.makesIn K d=true)
  (Ztf:Ki K d)
  (dX:Fo K d "birth")
  (mO:Fo K d "bulk")
  (mL:Fo K d "tone")
  (jK:Fo K d "load")
  (eX:Fo K d "fields")
  (Zqs:W.findIn K (.ref d) "__eq__"=some (some (.builtin "object.__eq__")))
  (Zqr:W.mroIn K d (.type "object")=some true)
  (Zsh:W.plainGet K g Str.empty=true)
  (Zty:W.hasDictIn K g=true)
  (Zsa:W.plainOver K g=true)
  (Zrs:W.findIn K (.ref g) "__setattr__"=some (some (.builtin "object.__setattr__")))
  (QF:W.makesIn K g=true)
  (Ztc:Ki K g)
  (oG:Fo K g "room")
  (bN:Fo K g "cells")
  (jm:Fo K g "used")
  (mK:Fo K g "born")
  (Zsi:W.plainGet K u Str.empty=true)
  (Ztz:W.hasDictIn K u=true)
  (Zsb:W.plainOver K u=true)
  (Zrt:W.findIn K (.ref u) "__setattr__"=some (some (.builtin "object.__setattr__")))
  (QG:W.makesIn K u=true)
  (Ztd:Ki K u)
  (wW:Fo K u "name")
  (uX:Fo K u "slots")
  (Zh4:W.plainGet K c Str.empty=true)
  (Zig:W.hasDictIn K c=true)
  (Zh1:W.plainOver K c=true)
  (Zgp:W.findIn K (.ref c) "__setattr__"=some (some (.builtin "object.__setattr__")))
  (Bm:W.makesIn K c=true)
  (Zi7:Ki K c)
  (pP:Fo K c "sense")
  (pQ:Fo K c "phase")
  (qZ:Fo K c "grey")
  (oY:Fo K c "looked")
  (qW:Fo K c "turn")
  (uV:Fo K c "at")
  (qX:Fo K c "stop")
  (pO:Fo K c "walks")
  (pR:Fo K c "looks")
  (oX:Fo K c "passes")
  (qY:Fo K c "loss")
  (Zo8:W.plainGet K j Str.empty=true)
  (Zq8:W.hasDictIn K j=true)
  (Zo3:W.plainOver K j=true)
  (Znm:W.findIn K (.ref j) "__setattr__"=some (some (.builtin "object.__setattr__")))
  (JC:W.makesIn K j=true)
  (Zpo:Ki K j)
  (uU:Fo K j "heap")
  (uT:Fo K j "kind")
  (tV:Fo K j "hands")
  (tU:Fo K j "names")
  (pN:Fo K j "sweeper")
  (Zo9:W.plainGet K q Str.empty=true)
  (Zq9:W.hasDictIn K q=true)
  (Zo4:W.plainOver K q=true)
  (Znn:W.findIn K (.ref q) "__setattr__"=some (some (.builtin "object.__setattr__")))
  (Zp0:W.makesIn K q=true)
  (Zpp:Ki K q)
  (Zop:W.findIn K (.ref q) "__init__"=some (some (.builtin "object.__init__")))
  (Zsj:W.plainGet K m Str.empty=true)
  (Zu0:W.hasDictIn K m=true)
  (Zsc:W.plainOver K m=true)
  (Zru:W.findIn K (.ref m) "__setattr__"=some (some (.builtin "object.__setattr__")))
  (Zt6:W.makesIn K m=true)
  (Zte:Ki K m)
  (Zsz:W.findIn K (.ref m) "__init__"=some (some (.builtin "object.__init__")))
  (Zsf:W.plainGet K r Str.empty=true)
  (Ztw:W.hasDictIn K r=true)
  (Zs8:W.plainOver K r=true)
  (Zrq:W.findIn K (.ref r) "__setattr__"=some (some (.builtin "object.__setattr__")))
  (Zt5:W.makesIn K r=true)
  (Zta:Ki K r)
  (Zsy:W.findIn K (.ref r) "__init__"=some (some (.builtin "object.__init__")))
  (Zsg:W.plainGet K x Str.empty=true)
  (Ztx:W.hasDictIn K x=true)
  (Zs9:W.plainOver K x=true)
  (Zrr:W.findIn K (.ref x) "__setattr__"=some (some (.builtin "object.__setattr__")))
  (FN:W.makesIn K x=true)
  (Ztb:Ki K x)
  (q8:Fo K x "looking")
  (uW:Fo K x "tells")
  (wH:W.excIn K aK [.type "ValueError",.type "Exception",.type "BaseException",.type "object"] "ValueError.__new__"=true)
  (Ys:W.excIn K bR [.type "ValueError",.type "Exception",.type "BaseException",.type "object"] "ValueError.__new__"=true)
  (Fq:W.excIn K aR [.type "ValueError",.type "Exception",.type "BaseException",.type "object"] "ValueError.__new__"=true)
  (Im:W.excIn K bB [.type "ValueError",.type "Exception",.type "BaseException",.type "object"] "ValueError.__new__"=true)
  (lC:W.exmOne K (.ref aK) (.ref P)=some true)
  (mD:W.exmOne K (.ref aR) (.ref P)=some true)
  (o5:W.exmOne K (.ref bR) (.ref P)=some true)
  (mZ:W.exmOne K (.ref bB) (.ref P)=some true)
  (Nq:Fi K m "at_begin" O)
  (Wg:Fi K m "stays" N)
  (HX:Fi K q "next_look" bW)
  (TJ:Fi K q "stays" N)
  (Np:Fi K r "at_begin" O)
  (Yr:W.nsIn K mainGlobals "bool"=some none)
  (qj:W.nsIn K mainGlobals "enumerate"=some none)
  (Zjk:W.nsIn K mainGlobals "int"=some none)
  (iT:W.nsIn K mainGlobals "isinstance"=some none)
  (lM:W.nsIn K mainGlobals "len"=some none)
  (uy:W.nsIn K mainGlobals "list"=some none)
  (tH:W.nsIn K mainGlobals "range"=some none)
  (Zjj:W.nsIn K mainGlobals "str"=some none)
  (Il:W.nsIn K mainGlobals "tuple"=some none)
  (Zxu:W.nsIn K mainGlobals "NEW"=some (some Zuv))
  (Zxs:RelV (.int 2) Zuv)
  (Zxt:W.nsIn K mainGlobals "OLD"=some (some Zuu))
  (Zxr:RelV (.int 1) Zuu)
  (g1:lE K "__init__" "Cell.__init__" uE dG)
  (g2:lE K "units" "Cell.units" z7 fV)
  (g3:lE K "has_field" "Cell.has_field" rW dN)
  (g4:lE K "__init__" "Heap.__init__" uC dD)
  (g6:lE K "lay" "Heap.lay" Hs kZ)
  (g7:lE K "back" "Heap.back" Dm jr)
  (g8:lE K "free" "Heap.free" Dl jq)
  (g9:lE K "there" "Heap.there" z6 fU)
  (g10:lE K "cell_at" "cell_at" Ls iM)
  (g11:lE K "birth_at" "birth_at" Hr eU)
  (g12:lE K "reached" "reached" Le nP)
  (g13:lE K "onward" "onward" RD pH)
  (g14:lE K "__init__" "Hand.__init__" uD dF)
  (g15:lE K "__init__" "Sweeper.__init__" pX cH)
  (g16:lE K "__init__" "World.__init__" rP dj)
  (g17:lE K "held" "held" Zgt yO)
  (g18:lE K "births_held" "births_held" xU gF)
  (g19:lE K "births_at" "births_at" CQ iy)
  (g20:lE K "looked_at" "looked_at" CG jM)
  (g21:lE K "has_sense" "has_sense" CJ d7)
  (g22:lE K "is_walking" "is_walking" zR iW)
  (g23:lE K "mark_of" "mark_of" Lf nQ)
  (g24:lE K "told_cells" "told_cells" zN iU)
  (g25:lE K "told_cell" "told_cell" Cz jL)
  (g26:lE K "begin" "begin" Zr t7)
  (g27:lE K "note" "note" Zgs yN)
  (g28:lE K "note_all" "note_all" Hl gP)
  (g29:lE K "gone" "gone" Zgu vP)
  (g30:lE K "roots" "roots" Zq tZ)
  (g31:lE K "root_of" "root_of" Ld nO)
  (g32:lE K "note_hands" "note_hands" zQ gO)
  (g33:lE K "step_at_rest" "step_at_rest" vp cT)
  (g34:lE K "step_in_walk" "step_in_walk" vm cQ)
  (g35:lE K "walk" "walk" Zgq yL)
  (g36:lE K "look_or_cut" "look_or_cut" xT gD)
  (g37:lE K "cut" "cut" Zno GQ)
  (g38:lE K "first_loss" "first_loss" zT iY)
  (g39:lE K "given_up" "given_up" Ho lY)
  (g40:lE K "told_again" "told_again" zO gM)
  (g41:lE K "step_in_give" "step_in_give" vo cR)
  (g42:lE K "pass_place" "pass_place" zP iV)
  (g43:lE K "end" "end" s_end GP)
  (g44:lE K "step_when_lost" "step_when_lost" rO bV)
  (g45:lE K "step" "step" Zgr yM)
  (g46:lE K "all_of" "all_of" RM oM)
  (g47:lE K "at_begin" "Looking.at_begin" pY O)
  (g48:lE K "next_look" "Looking.next_look" o8 bW)
  (g49:lE K "stays" "Looking.stays" uA N)
  (g50:lE K "at_begin" "First.at_begin" rR dJ)
  (g51:lE K "next_look" "Each.next_look" rT dM)
  (g52:lE K "next_look" "Last.next_look" rQ dI)
  (g53:lE K "stays" "Last.stays" zZ gQ)
  (g54:lE K "__init__" "Kind.__init__" uB dB)
  (g55:lE K "slots_of" "slots_of" Hj d9)
  (g56:lE K "cell_in" "cell_in" Lr j7)
  (g57:lE K "fields_in" "fields_in" CP jo)
  (g58:lE K "told_as_old" "told_as_old" xP gA)
  (g59:lE K "told_as_new" "told_as_new" xQ fL)
  (g60:lE K "do_make" "do_make" Lj gZ)
  (g61:lE K "do_get" "do_get" RK jD)
  (g62:lE K "do_put" "do_put" RJ jC)
  (g63:lE K "do_copy" "do_copy" Lq ir)
  (g64:lE K "do_drop" "do_drop" Lp ig)
  (g65:lE K "do_give" "do_give" Ln ie)
  (g66:lE K "do_write" "do_write" Hq fB)
  (g67:lE K "do_read" "do_read" Lh gW)
  (g68:lE K "do_name" "do_name" Li gY)
  (g69:lE K "do_seek" "do_seek" Lg gU)
  (g70:lE K "place_named" "place_named" xR gB)
  (g71:lE K "do" "do" Zvu Wz)
  (g72:lE K "_law_cell" "_law_cell" Dk gj)
  (g73:lE K "_law_draw" "_law_draw" Di d8)
  (g74:lE K "_law_word" "_law_word" CT iB)
  (g75:lE K "_law_hands" "_law_hands" zW jf)
  (g76:lE K "_law_room" "_law_room" Dc jQ)
  (g77:lE K "_law_kind" "_law_kind" Dg jV)
  (g78:lE K "_law_made" "_law_made" De jT)
  (g79:lE K "_law_load" "_law_load" Df jU)
  (g80:lE K "_law_deed" "_law_deed" Dj jX)
  (g81:lE K "_law_deeds" "_law_deeds" zY ji)
  (g82:lE K "_law_start" "_law_start" zV je)
  (g83:lE K "_law_rows" "_law_rows" CZ jP)
  (g84:lE K "_law_number" "_law_number" xW fM)
  (g85:lE K "_law_event" "_law_event" zX jg)
  (g86:lE K "_law_hand" "_law_hand" Dh jW)
  (g87:lE K "_law_with" "_law_with" CV jN)
  (g88:lE K "_law_marked" "_law_marked" xX gH)
  (g89:lE K "_law_places" "_law_places" xV gG)
  (g90:lE K "_law_state" "_law_state" zU iZ)
  (g91:lE K "_law_pale" "_law_pale" Dd jR)
  (g92:lE K "_law_step" "_law_step" CW jO)
  :∃fd:FuncData,(∀(s:Shared) (v:Value),BindsTo s fd ⟨[v],[]⟩ [("_law_script",v)])/\∀base:Heap,K.In base->base.Ns mainGlobals mg->wB l.prog w K mg base (G.Uv l.prog w) 11 fa fd ["_law_script"] (Zkl K):=by
 have e:=hfa.symm.trans (W.mg_of k o a93);cases e;have b:∀{s:Str}{v:Value},W.nsIn K mainGlobals s=some (some v)->mg s=some v:=λh=>W.mg_of k o h
 let a:Cs:=⟨j,g,d,x,u,c,q,m,r⟩
 obtain⟨_,F1,k1⟩:=fg g1;obtain⟨_,F2,k2⟩:=fg g2;obtain⟨_,F3,k3⟩:=fg g3;obtain⟨_,F4,k4⟩:=fg g4;obtain⟨_,F6,k6⟩:=fg g6;obtain⟨_,F7,k7⟩:=fg g7;obtain⟨_,F8,k8⟩:=fg g8;obtain⟨_,F9,k9⟩:=fg g9;obtain⟨_,F10,k10⟩:=fg g10;obtain⟨_,F11,k11⟩:=fg g11;obtain⟨_,F12,k12⟩:=fg g12;obtain⟨_,F13,k13⟩:=fg g13;obtain⟨_,F14,k14⟩:=fg g14;obtain⟨_,F15,k15⟩:=fg g15;obtain⟨_,F16,k16⟩:=fg g16;obtain⟨_,F17,k17⟩:=fg g17;obtain⟨_,F18,k18⟩:=fg g18;obtain⟨_,F19,k19⟩:=fg g19;obtain⟨_,F20,k20⟩:=fg g20;obtain⟨_,F21,k21⟩:=fg g21;obtain⟨_,F22,k22⟩:=fg g22;obtain⟨_,F23,Gm⟩:=fg g23;obtain⟨_,F24,k24⟩:=fg g24;obtain⟨_,F25,k25⟩:=fg g25;obtain⟨_,U,k26⟩:=fg g26;obtain⟨_,V,k27⟩:=fg g27;obtain⟨_,F28,k28⟩:=fg g28;obtain⟨_,F29,k29⟩:=fg g29;obtain⟨_,F30,k30⟩:=fg g30;obtain⟨_,F31,k31⟩:=fg g31;obtain⟨_,F32,k32⟩:=fg g32;obtain⟨_,F33,k33⟩:=fg g33;obtain⟨_,F34,V1⟩:=fg g34;obtain⟨_,F35,k35⟩:=fg g35;obtain⟨_,F36,k36⟩:=fg g36;obtain⟨_,F37,k37⟩:=fg g37;obtain⟨_,F38,k38⟩:=fg g38;obtain⟨_,F39,k39⟩:=fg g39;obtain⟨_,F40,k40⟩:=fg g40;obtain⟨_,F41,k41⟩:=fg g41;obtain⟨_,F42,k42⟩:=fg g42;obtain⟨_,F43,k43⟩:=fg g43;obtain⟨_,F44,k44⟩:=fg g44;obtain⟨_,Y,k45⟩:=fg g45;obtain⟨_,F46,k46⟩:=fg g46;obtain⟨_,F47,A⟩:=fg g47;obtain⟨_,F48,E⟩:=fg g48;obtain⟨_,F49,B⟩:=fg g49;obtain⟨_,F50,k50⟩:=fg g50;obtain⟨_,F51,k51⟩:=fg g51;obtain⟨_,F52,k52⟩:=fg g52;obtain⟨_,F53,k53⟩:=fg g53;obtain⟨_,F54,k54⟩:=fg g54;obtain⟨_,F55,k55⟩:=fg g55;obtain⟨_,F56,k56⟩:=fg g56;obtain⟨_,F57,k57⟩:=fg g57;obtain⟨_,F58,k58⟩:=fg g58;obtain⟨_,F59,k59⟩:=fg g59;obtain⟨_,F60,k60⟩:=fg g60;obtain⟨_,F61,k61⟩:=fg g61;obtain⟨_,F62,k62⟩:=fg g62;obtain⟨_,F63,k63⟩:=fg g63;obtain⟨_,F64,k64⟩:=fg g64;obtain⟨_,F65,k65⟩:=fg g65;obtain⟨_,F66,k66⟩:=fg g66;obtain⟨_,F67,k67⟩:=fg g67;obtain⟨_,F68,k68⟩:=fg g68;obtain⟨_,Q,k69⟩:=fg g69;obtain⟨_,F70,k70⟩:=fg g70;obtain⟨_,X,k71⟩:=fg g71;obtain⟨_,Z,k72⟩:=fg g72;obtain⟨_,F73,k73⟩:=fg g73;obtain⟨_,F74,k74⟩:=fg g74;obtain⟨_,F75,k75⟩:=fg g75;obtain⟨_,F76,k76⟩:=fg g76;obtain⟨_,F77,k77⟩:=fg g77;obtain⟨_,F78,k78⟩:=fg g78;obtain⟨_,F79,k79⟩:=fg g79;obtain⟨_,F80,k80⟩:=fg g80;obtain⟨_,S,k81⟩:=fg g81;obtain⟨_,F82,k82⟩:=fg g82;obtain⟨_,F83,k83⟩:=fg g83;obtain⟨_,F84,k84⟩:=fg g84;obtain⟨_,F85,k85⟩:=fg g85;obtain⟨_,F86,k86⟩:=fg g86;obtain⟨_,F87,k87⟩:=fg g87;obtain⟨_,F88,k88⟩:=fg g88;obtain⟨_,F89,k89⟩:=fg g89;obtain⟨_,F90,k90⟩:=fg g90;obtain⟨_,F91,k91⟩:=fg g91;obtain⟨_,F92,k92⟩:=fg g92;have T:Txt w K mg d g u c j q m r x P aK aR bR bB dG fV dN dD iC kZ jr jq fU iM eU nP pH dF cH dj yO gF iy jM d7 iW nQ iU jL t7 yN gP vP tZ nO gO cT cQ yL gD GQ iY lY gM cR iV GP bV yM oM O bW N dJ dM dI gQ dB d9 j7 jo gA fL gZ jD jC ir ig ie fB gW gY gU gB Wz gj d8 iB jf jQ jV jT jU jX ji je jP fM jg jW jN gH gG iZ jR jO:={
  Xo:=⟨Ue,_,_,Zer,W.mg_of k o Zox,Zph,⟨rfl,rfl,rfl⟩,rfl,Zm2,⟨Xd,rfl⟩,rfl,Zm1,⟨Xc,rfl⟩,rfl,Zm0,⟨Xb,rfl⟩,rfl,Zlz,⟨Xa,rfl⟩,rfl,trivial⟩
  Xp:=⟨Ug,_,_,Zes,W.mg_of k o Zoy,Zpi,⟨rfl,rfl,rfl⟩,rfl,Zmc,⟨Xn,rfl⟩,rfl,Zmb,⟨Xm,rfl⟩,rfl,Zma,⟨Xl,rfl⟩,rfl,Zm9,⟨Xk,rfl⟩,rfl,Zm8,⟨Xj,rfl⟩,rfl,Zm7,⟨Xi,rfl⟩,rfl,Zm6,⟨Xh,rfl⟩,rfl,Zm5,⟨Xg,rfl⟩,rfl,Zm4,⟨Xf,rfl⟩,rfl,Zm3,⟨Xe,rfl⟩,rfl,trivial⟩
  di:=⟨Zsk,Zu1,Zsd,Zrv⟩
  Zpd:=b Zye
  QH:=⟨QH,a1,i1,Ztf⟩
  dX:=dX
  mO:=mO
  mL:=mL
  jK:=jK
  eX:=eX
  QM:=⟨Zqs,Zqr⟩
  cM:=⟨Zsh,Zty,Zsa,Zrs⟩
  Zp9:=b Zya
  QF:=⟨QF,a4,i4,Ztc⟩
  oG:=oG
  bN:=bN
  jm:=jm
  mK:=mK
  Zkh:=⟨Zsi,Ztz,Zsb,Zrt⟩
  Zpa:=b Zyb
  QG:=⟨QG,a14,i14,Ztd⟩
  wW:=wW
  uX:=uX
  Ui:=⟨Zh4,Zig,Zh1,Zgp⟩
  XF:=b Zmt
  Bm:=⟨Bm,a15,i15,Zi7⟩
  pP:=pP
  pQ:=pQ
  qZ:=qZ
  oY:=oY
  qW:=qW
  uV:=uV
  qX:=qX
  pO:=pO
  pR:=pR
  oX:=oX
  qY:=qY
  Zf0:=⟨Zo8,Zq8,Zo3,Znm⟩
  Zjy:=b Zum
  JC:=⟨JC,a16,i16,Zpo⟩
  uU:=uU
  uT:=uT
  tV:=tV
  tU:=tU
  pN:=pN
  EY:=⟨Zo9,Zq9,Zo4,Znn⟩
  Zjz:=b Zun
  Xx:=⟨Zp0,Zop,Zpp⟩
  Ks:=⟨Zsj,Zu0,Zsc,Zru⟩
  Zpc:=b Zyd
  Zdt:=⟨Zt6,Zsz,Zte⟩
  Kr:=⟨Zsf,Ztw,Zs8,Zrq⟩
  Zp8:=b Zy8
  Zds:=⟨Zt5,Zsy,Zta⟩
  Zkg:=⟨Zsg,Ztx,Zs9,Zrr⟩
  Zaa:=b Zy9
  FN:=⟨FN,a54,i54,Ztb⟩
  q8:=q8
  uW:=uW
  Pa:=b Zf4
  Pb:=b Zf5
  XH:=b Zmu
  Zpb:=b Zyc
  Zdw:=b Zr4
  wH:=wH
  Ys:=Ys
  Fq:=Fq
  Im:=Im
  lC:=lC
  mD:=mD
  o5:=o5
  mZ:=mZ
  zp:=⟨Nq,H,A⟩
  yD:=⟨Wg,L,B⟩
  vK:=⟨HX,i48,E⟩
  vJ:=⟨TJ,L,B⟩
  zm:=⟨Np,H,A⟩
  MN:=⟨a1,i1,k1⟩
  tW:=⟨a2,i2,k2⟩
  xg:=⟨a3,i3,k3⟩
  MJ:=⟨a4,i4,k4⟩
  JF:=⟨a5,i5,k5⟩
  Ox:=⟨a6,i6,k6⟩
  JH:=⟨a7,i7,k7⟩
  JG:=⟨a8,i8,k8⟩
  yC:=⟨a9,i9,k9⟩
  sX:=b a10
  mW:=b a11
  XC:=b a12
  S7:=b a13
  MK:=⟨a14,i14,k14⟩
  Gj:=⟨a15,i15,k15⟩
  JD:=⟨a16,i16,k16⟩
  Zp5:=b a17
  yF:=b a18
  xj:=b a19
  OD:=b a20
  mQ:=b a21
  JM:=b a22
  XD:=b a23
  Bo:=b a24
  Oz:=b a25
  Zjx:=b a26
  Zp4:=b a27
  sW:=b a28
  Zi0:=b a29
  Zjw:=b a30
  Xz:=b a31
  Bq:=b a32
  S6:=b a33
  SX:=b a34
  Zp3:=b a35
  GD:=b a36
  Zv1:=b a37
  JN:=b a38
  S8:=b a39
  Bp:=b a40
  S5:=b a41
  JL:=b a42
  Zv0:=b a43
  MP:=b a44
  Zhz:=b a45
  S9:=b a46
  Gk:=⟨a47,H,A⟩
  En:=⟨a48,i48,E⟩
  Mz:=⟨a49,L,B⟩
  wZ:=⟨a50,i50,k50⟩
  w6:=⟨a51,i51,k51⟩
  wY:=⟨a52,i52,k52⟩
  yz:=⟨a53,i53,k53⟩
  MF:=⟨a54,i54,k54⟩
  kW:=b a55
  zx:=b a56
  Eo:=b a57
  Gy:=b a58
  yE:=b a59
  Zln:=b a60
  Zp7:=b a61
  Zp6:=b a62
  Zlq:=b a63
  Zlp:=b a64
  Zlo:=b a65
  Zi1:=b a66
  Zll:=b a67
  Zlm:=b a68
  Zlk:=b a69
  Gz:=b a70
  Zz7:=b a71
  mR:=b a72
  cY:=b a73
  xm:=b a74
  JQ:=b a75
  O3:=b a76
  O7:=b a77
  O5:=b a78
  O6:=b a79
  O9:=b a80
  JS:=b a81
  JP:=b a82
  O2:=b a83
  tX:=b a84
  JR:=b a85
  O8:=b a86
  OJ:=b a87
  GJ:=b a88
  GF:=b a89
  Br:=b a90
  O4:=b a91
  O1:=b a92
  Yr:=W.mg_none_of k o Yr
  qj:=W.mg_none_of k o qj
  Zjk:=W.mg_none_of k o Zjk
  iT:=W.mg_none_of k o iT
  lM:=W.mg_none_of k o lM
  uy:=W.mg_none_of k o uy
  tH:=W.mg_none_of k o tH
  Zjj:=W.mg_none_of k o Zjj
  Il:=W.mg_none_of k o Il
  Zv6:=⟨_,W.mg_of k o Zxu,Zxs⟩
  Zv5:=⟨_,W.mg_of k o Zxt,Zxr⟩
 }
 have b1:=bd5 F1 "self" "birth" "many" "bulk" "tone";have b2:=GX F2 "self";have b3:=Bw F3 "self" "field";have b4:=Bw F4 "self" "room";have F5:=G.Zu6 (st:=wL) l5 c5 k5;have b5:=G.Zjc (ps:=["self","many","bulk","tone"]) (ds:=[]) l5 t5 λus hl=>match us,hl with | [_,_,_,_],_=>⟨_,rfl,rfl⟩
 have ZJ8:=G.Zjc (ps:=["self","many","bulk","tone"]) (ds:=[D]) l5 t5 λus hl=>match us,hl with | [_,_,_],_=>⟨_,rfl,rfl⟩
 have ZJ7:=G.Zjc (ps:=["self","many","bulk","tone"]) (ds:=[F,D]) l5 t5 λus hl=>match us,hl with | [_,_],_=>⟨_,rfl,rfl⟩
 have b6:=Bw F6 "self" "cell";have b7:=Bw F7 "self" "place";have b8:=GX F8 "self";have b9:=GX F9 "self";have b10:=Bw F10 "heap" "place";have b11:=Bw F11 "heap" "place";have b12:=Bw F12 "heap" "rows";have b13:=bd3 F13 "heap" "places" "way";have b14:=bd3 F14 "self" "name" "many";have b15:=GX F15 "self";have b16:=bd4 F16 "self" "room" "kind" "hands";have b17:=GX F17 "world";have b18:=GX F18 "world";have b19:=Bw F19 "heap" "places";have b20:=Bw F20 "world" "hand";have b21:=Bw F21 "world" "cell";have b22:=GX F22 "world";have b23:=Bw F23 "world" "place";have b24:=GX F24 "world";have b25:=Bw F25 "world" "place";have b26:=GX U "world";have b27:=Bw V "world" "place";have b28:=Bw F28 "world" "places";have b29:=bd3 F29 "world" "place" "birth";have b30:=GX F30 "world";have b31:=bd3 F31 "world" "place" "birth";have b32:=Bw F32 "world" "hands";have b33:=GX F33 "world";have b34:=GX F34 "world";have b35:=GX F35 "world";have b36:=GX F36 "world";have b37:=GX F37 "world";have b38:=GX F38 "world";have b39:=GX F39 "world";have b40:=GX F40 "event";have b41:=GX F41 "world";have b42:=GX F42 "world";have b43:=GX F43 "world";have b44:=GX F44 "world";have b45:=GX Y "world";have b46:=GX F46 "hands";have b47:=Bw F47 "self" "hands";have b48:=bd3 F48 "self" "looked" "hands";have b49:=GX F49 "self";have b50:=Bw F50 "self" "hands";have b51:=bd3 F51 "self" "looked" "hands";have b52:=bd3 F52 "self" "looked" "hands";have b53:=GX F53 "self";have b54:=bd3 F54 "self" "looking" "tells";have b55:=Bw F55 "world" "hand";have b56:=bd3 F56 "world" "hand" "slot";have b57:=bd4 F57 "world" "hand" "slot" "field";have b58:=Bw F58 "world" "place";have b59:=bd3 F59 "world" "hand" "place";have b60:=Bw F60 "world" "deed";have b61:=Bw F61 "world" "deed";have b62:=Bw F62 "world" "deed";have b63:=Bw F63 "world" "deed";have b64:=Bw F64 "world" "deed";have b65:=Bw F65 "world" "deed";have b66:=Bw F66 "world" "deed";have b67:=Bw F67 "world" "deed";have b68:=Bw F68 "world" "deed";have b69:=Bw Q "world" "deed";have b70:=Bw F70 "world" "word";have b71:=Bw X "world" "deed";have b72:=Bw Z "_law_script" "_law_k";have b73:=bd3 F73 "_law_cell_here" "_law_prime" "_law_many";have b74:=Bw F74 "_law_cell_here" "_law_w";have b75:=GX F75 "_law_script";have b76:=GX F76 "_law_script";have b77:=GX F77 "_law_number_here";have b78:=bd3 F78 "_law_n" "_law_h" "_law_s";have b79:=GX F79 "_law_n";have b80:=bd3 F80 "_law_n" "_law_hands_here" "_law_seed";have b81:=bd3 S "_law_n" "_law_hands_here" "_law_seed";have b82:=bd3 F82 "_law_hands_here" "_law_cell_here" "_law_seed";have b83:=Bw F83 "_law_script" "_law_hands_here";have b84:=GX F84 "_law_found";have b85:=Bw F85 "_law_found" "_law_due";have b86:=Bw F86 "_law_world" "_law_deed_here";have b87:=bd3 F87 "_law_cells" "_law_births" "_law_mark";have b88:=bd3 F88 "_law_after" "_law_before" "_law_marks";have b89:=Bw F89 "_law_cells" "_law_births";have b90:=GX F90 "_law_sweeper";have b91:=Bw F91 "_law_cells" "_law_fields";have b92:=Bw F92 "_law_world" "_law_way";have F93:=Zqh (st:=RG) l93 c93 k93;refine⟨W.fnOf "law" "law" (nW RG) (lD RG) (aG RG) .none Zzc ZAa Zyw ZAg J ZAc,λs v=>.of_eq rfl,λbase _ _=>?_⟩;have G1:=hh (w:=w) (Mu l.prog base a T F1 ) b1 k1;have G2:=hh (w:=w) (VG l.prog base a T F2 ) b2 k2;have G3:=hh (w:=w) (Jz l.prog base a T F3 ) b3 k3;have G4:=hh (w:=w) (Mr l.prog base a T F4 ) b4 k4;have G6:=hh (w:=w) (Zdd l.prog base a T F6 ) b6 k6;have G8:=hh (w:=w) (Za3 l.prog base a T F8 ) b8 k8;have G9:=hh (w:=w) (VF l.prog base a T F9 ) b9 k9;have t:=hh (w:=w) (Zhq l.prog base a T F10 ) b10 k10;have G14:=hh (w:=w) (Ms l.prog base a T F14 ) b14 k14;have G15:=hh (w:=w) (Gh l.prog base a T F15 ) b15 k15;have G17:=hh (w:=w) (Zsw l.prog base a T F17 ) b17 k17;have G20:=hh (w:=w) (ZS l.prog base a T F20 ) b20 k20
 have n:=hh (w:=w) (ZV l.prog base a T F21 ) b21 k21;have G22:=hh (w:=w) (Vu l.prog base a T F22 ) b22 k22;have G40:=hh (w:=w) (Vr l.prog base a T F40 ) b40 k40;have G43:=hh (w:=w) (Zw8 l.prog base a T F43 ) b43 k43;have G46:=hh (w:=w) (Zlf l.prog base a T F46 ) b46 k46;have G47:=hh (w:=w) (Gi l.prog base a T F47 ) b47 A;have G48:=hh (w:=w) (Ei l.prog base a T F48 ) b48 E;have G49:=hh (w:=w) (Mp l.prog base a T F49 ) b49 B;have G51:=hh (w:=w) (Jy l.prog base a T F51 ) b51 k51;have G53:=hh (w:=w) (VD l.prog base a T F53 ) b53 k53;have G54:=hh (w:=w) (Mq l.prog base a T F54 ) b54 k54;have f:=hh (w:=w) (Zd8 l.prog base a T F55 ) b55 k55;have G58:=hh (w:=w) (R6 l.prog base a T F58 ) b58 k58;have C:=hh (w:=w) (Za1 l.prog base a T Z ) b72 k72;have p:=hh (w:=w) (Z9 l.prog base a T F73 ) b73 k73;have I:=hh (w:=w) (ZZ l.prog base a T F74 ) b74 k74;have G79:=hh (w:=w) (Z6 l.prog base a T F79 ) b79 k79;have G84:=hh (w:=w) (Sh l.prog base a T F84 ) b84 k84;have G87:=hh (w:=w) (Z0 l.prog base a T F87 ) b87 k87;have G88:=hh (w:=w) (Sq l.prog base a T F88 ) b88 k88;have G89:=hh (w:=w) (Sg l.prog base a T F89 ) b89 k89;have G91:=hh (w:=w) (Z4 l.prog base a T F91 ) b91 k91;have G7:=hh (w:=w) (Za4 l.prog base a T F7 G2) b7 k7;have i:=hh (w:=w) (Zdc l.prog base a T F11 t) b11 k11;have G13:=hh (w:=w) (Zlc l.prog base a T F13 t) b13 k13;have G23:=hh (w:=w) (Zhh l.prog base a T F23 n) b23 Gm;have G27:=hh (w:=w) (Zsv l.prog base a T V t n) b27 k27;have R:=hh (w:=w) (Zsx l.prog base a T F29 t n) b29 k29;have G39:=hh (w:=w) (Zda l.prog base a T F39 G9 n) b39 k39;have G44:=hh (w:=w) (Ju l.prog base a T F44 G40) b44 k44;have G50:=hh (w:=w) (Jx l.prog base a T F50 G46) b50 k50;have G52:=hh (w:=w) (Jw l.prog base a T F52 G46) b52 k52;have z:=hh (w:=w) (Zhp l.prog base a T F56 t f) b56 k56;have G59:=hh (w:=w) (R7 l.prog base a T F59 G20) b59 k59;have G75:=hh (w:=w) (Vy l.prog base a T F75 C p I) b75 k75;have G76:=hh (w:=w) (Z3 l.prog base a T F76 C p) b76 k76;have G78:=hh (w:=w) (Z5 l.prog base a T F78 p) b78 k78;have G82:=hh (w:=w) (Vx l.prog base a T F82 p I) b82 k82;have G85:=hh (w:=w) (Vz l.prog base a T F85 G84) b85 k85;have G90:=hh (w:=w) (Vw l.prog base a T F90 G84) b90 k90;have G5:=hh (w:=w) (Za2 l.prog base a T F5 G1 G2 G8 G6) b5 k5;have G12:=hh (w:=w) (Zhg l.prog base a T F12 G13) b12 k12;have G16:=hh (w:=w) (Jv l.prog base a T F16 G14 G4 G15) b16 k16;have M:=hh (w:=w) (ZX l.prog base a T F19 i) b19 k19;have G26:=hh (w:=w) (Zoo l.prog base a T U G50 G47) b26 k26;have y:=hh (w:=w) (Zd9 l.prog base a T F28 G27) b28 k28;have G31:=hh (w:=w) (Zhf l.prog base a T F31 R n G22) b31 k31;have G42:=hh (w:=w) (Vs l.prog base a T F42 G7 t n) b42 k42;have G57:=hh (w:=w) (ZW l.prog base a T F57 G3 z) b57 k57;have G63:=hh (w:=w) (Zho l.prog base a T F63 i f) b63 k63;have G64:=hh (w:=w) (Zhn l.prog base a T F64 i f) b64 k64;have G66:=hh (w:=w) (Zdb l.prog base a T F66 z) b66 k66;have G67:=hh (w:=w) (Zhj l.prog base a T F67 z) b67 k67;have G68:=hh (w:=w) (Zhk l.prog base a T F68 z f) b68 k68;have G70:=hh (w:=w) (R8 l.prog base a T F70 R) b70 k70;have G77:=hh (w:=w) (Z7 l.prog base a T F77 G54) b77 k77;have G80:=hh (w:=w) (Za0 l.prog base a T F80 p G79 G78 I) b80 k80;have G18:=hh (w:=w) (Sd l.prog base a T F18 M) b18 k18;have G25:=hh (w:=w) (ZR l.prog base a T F25 M G23) b25 k25
 have G30:=hh (w:=w) (Zon l.prog base a T F30 G17 G31) b30 k30;have G32:=hh (w:=w) (Vt l.prog base a T F32 y) b32 k32;have G35:=hh (w:=w) (Zst l.prog base a T F35 y) b35 k35;have G41:=hh (w:=w) (Ql l.prog base a T F41 G43 G42) b41 k41;have G60:=hh (w:=w) (Zhl l.prog base a T F60 G5 i f) b60 k60;have G61:=hh (w:=w) (Zle l.prog base a T F61 i G57 f) b61 k61;have G62:=hh (w:=w) (Zld l.prog base a T F62 i G57 y f G59 G58) b62 k62;have G65:=hh (w:=w) (Zhm l.prog base a T F65 i y f G59) b65 k65;have G69:=hh (w:=w) (Zhi l.prog base a T Q i y G70 f) b69 k69;have G81:=hh (w:=w) (VB l.prog base a T S G80 p) b81 k81;have G24:=hh (w:=w) (Vq l.prog base a T F24 G9 G25) b24 k24;have G33:=hh (w:=w) (Qm l.prog base a T F33 G26 G32) b33 k33;have G38:=hh (w:=w) (Vv l.prog base a T F38 n G12 G30) b38 k38;have G71:=hh (w:=w) (Zz3 l.prog base a T X G63 G64 G61 G65 G60 G68 G62 G67 G69 G66) b71 k71;have G83:=hh (w:=w) (Z2 l.prog base a T F83 C G81 p G82) b83 k83;have G37:=hh (w:=w) (Zwb l.prog base a T F37 M G38 G39 G40) b37 k37;have G86:=hh (w:=w) (Z8 l.prog base a T F86 G71) b86 k86;have G36:=hh (w:=w) (R9 l.prog base a T F36 G51 G52 G53 G48 G49 G37 G32) b36 k36;have G34:=hh (w:=w) (Qk l.prog base a T F34 G36 G35) b34 V1;have G45:=hh (w:=w) (Zsu l.prog base a T Y G33 G41 G34 G44) b45 k45;have G92:=hh (w:=w) (Z1 l.prog base a T F92 G85 G88 G91 G89 G90 G87 G18 G45 G24) b92 k92;exact Zw7 _ _ a T F93 G16 C G86 G75 G77 G76 G83 G92
theorem walk{l:W.OpenLaw}{q:Program}{b:List Str}{g:(Str->Option Value)->Heap->Prop}{e:World->Heap->Prop}{d:DefRec}{K:Params->aB}(hn:l.most=some 63)(c:d.params.defaults=[])
  (j:∀(w:World) (h:Heap),e w h->(K w.params).In h)
  (F:∀(w:World) (mg:Str->Option Value) (fa:Addr) (h:Heap),(K w.params).In h->h.Ns mainGlobals mg->mg d.name=some (.ref fa)->
   ∃fd:FuncData,(∀(s:Shared) (u:Value),BindsTo s fd ⟨[u],[]⟩ [("_law_script",u)])/\∀base:Heap,(K w.params).In base->base.Ns mainGlobals mg->wB l.prog w (K w.params) mg base (G.Uv l.prog w) 11 fa fd ["_law_script"] (Zkl (K w.params))):
  W.WalkO q b g e l.row.toRowW d [] (λf vs=>PySem.call f vs):=
 L2.Yt (n:=63) (k:=11) (x:="_law_script") (CX:=λw=>G.Uv l.prog w) (sp:=λw=>Zkl (K w.params)) hn (by decide) c ⟨rfl,by decide,by decide⟩ j F (λ_ _ a ns hl _ i=>⟨a,rfl,ns,i,hl,λ_=>rfl⟩) λ_ _ _ _ _ z=>by
  obtain⟨_,_,_,_,_,_,_,_,_,_,_,_,z⟩:=z;exact z
end K25
namespace PySem.W.Fast
def tw2461987218479729696:=0
def tw4416262374735479329:=0
def tw13927068138177416578:=0
def tw8908042644040910466:=0
def tw14352580629923813218:=0
def tw16723375590326181988:=0
def tw8418762193806446724:=0
def tw8209465551651578502:=0
def tw13150340757465192327:=0
def tw9411489058676967784:=0
def tw13402887628468341387:=0
def tw659541931305580781:=0
def tw14626016961679144366:=0
def tw1760896701079643631:=0
def tw14927395847659266735:=0
def tw10360227869395220335:=0
def tw15979793286492107793:=0
def tw1116123851241275603:=0
def tw213790694898389525:=0
def tw8189069556541729429:=0
def tw6659170747232258839:=0
def tw9729943838326375512:=0
def tw10560924862079273531:=0
def tw11833761200368568445:=0
def tw1552135832447542366:=0
def tw6808094858718197791:=0
def tw10030041210696218018:=0
def tw16438542364867646073:=0
def tw15154836219960991946:=0
def tw16002821616712607497:=0
def tw14424245307954110025:=0
def tw4527254449485236375:=0
def tw14727325893581808736:=0
def tw4916811425383220874:=0
def tw2614099566023642535:=0
def tw1100414185547176052:=0
def tw1758318441849381295:=0
def tw13840904381836846706:=0
def tw16962993924918244071:=0
def tw4793311668108445851:=0
def tw11147162440195450905:=0
def tw10260924479997448683:=0
def tw2103139078970541563:=0
def tw11837897988687004658:=0
def tw17106452836297361998:=0
def tw10371283132023136008:=0
def tw10303483457431248206:=0
def tw13461442243318276810:=0
def tw2601166030778226626:=0
def tw4753198730124336416:=0
def tw1360576319228993509:=0
def tw1934507776347270375:=0
def tw12339830231332942418:=0
def tw11787675085991599276:=0
def tw5385003532897736082:=0
def tw18239427604132632893:=0
def tw9063445107039771429:=0
def tw4236914916946436389:=0
def tw4857130347328646339:=0
def tw2723445243155940880:=0
def tw6843310247223979378:=0
def tw6292128688332628195:=0
def tw12071652949885333756:=0
def tw11651988451952912427:=0
def tw3860388616355812867:=0
def tw12835412591407065243:=0
def tw4858398023273407746:=0
def tw9873872684597697226:=0
def tw10685308786670652208:=0
def tw689187248873717333:=0
def tw334245255637288679:=0
def tw3086393755134515671:=0
def tw9738028353704627005:=0
def tw16356495481147668956:=0
def tw10171990804153496946:=0
def tw13531051659307277873:=0
def tw14764916295377241096:=0
def tw5389151454498107121:=0
def tw11902924955901065988:=0
def tw375573913794493426:=0
def tw16733874814260738044:=0
def tw10757244436667304690:=0
def tw1775882521519936540:=0
def tw11233695956975990028:=0
def tw14415784208345244554:=0
def tw13094041646949851547:=0
def tw13623161550522545763:=0
def tw17073289269940515406:=0
def tw9083587650346126802:=0
def tw13200707444881219274:=0
def tw9576108390021661905:=0
def tw9671061931098099525:=0
def tw414597034100617532:=0
def tw8571132339967021494:=0
def tw6996538673628391716:=0
def tw7700719440052329744:=0
def tw15454822024986432423:=0
def tw6921933996181632679:=0
def tw7830883190695980708:=0
def tw15118566757015260674:=0
def tw738064987222918713:=0
def tw5933696727948654834:=0
def tw2161278562550811462:=0
def tw3994954083078826232:=0
def tw4586146473424654171:=0
def tw14158657919311018674:=0
def tw7807889182624133064:=0
def tw7592273905722594542:=0
def tw2631976569199222420:=0
def tw2026855237119394105:=0
def tw15799260484631482834:=0
def tw17236025660411985753:=0
def tw8493734964162452928:=0
def tw12448320268074266145:=0
def tw11736953239916656327:=0
def tw5730854346909330667:=0
def tw12045019128015523122:=0
def tw1608894534630801557:=0
def tw3491968449173905575:=0
def tw12075707629179848028:=0
def tw192224625459590878:=0
def tw9629490093007166222:=0
def tw9782338103515934995:=0
def tw8991294417878984290:=0
def tw14776023386285901968:=0
def tw2713288961374406183:=0
def tw17431277649780558952:=0
def tw7989430557821970361:=0
def tw18201063452778790581:=0
def tw12846993947408476184:=0
def tw9879539413629941614:=0
def tw17498775754956073882:=0
def tw509506898718036112:=0
def tw5938973007180098086:=0
def tw1720058768962043571:=0
def tw5557194717285555202:=0
def tw3943990456949834180:=0
def tw15346251489377025353:=0
def tw15788121090999694000:=0
def tw16406127435802614133:=0
def tw17410133883521676896:=0
def tw328192426476388055:=0
def tw5732527639456720135:=0
def tw4023341797221950589:=0
def tw191272354463347576:=0
def tw14168820728047139903:=0
def tw18276822075077460162:=0
def tw14336433787292511356:=0
def tw5767542029861616238:=0
def tw15428663733237876379:=0
def tw17699575945573622896:=0
def tw207381869856759518:=0
def tw10491000348847466376:=0
def tw12116776137946264816:=0
def tw10720939336270374516:=0
def tw10228381821479565918:=0
def tw17681189612949429349:=0
def tw8992504720203550289:=0
def tw14484213465555213121:=0
def tw8112751890237195270:=0
def tw9700184251855521010:=0
def tw8378601936738574792:=0
def tw13143349674547571728:=0
def tw16804230588787686490:=0
def tw8731650770132343653:=0
def tw8148510300019103669:=0
def tw10384791943341737663:=0
def tw9903863874774077528:=0
def tw13041735935947675565:=0
def tw16960533815422595973:=0
def tw5220091510436635127:=0
def tw8313495347863727801:=0
def tw7032718527199762829:=0
def tw14799669329842302413:=0
def tw6140954724186420874:=0
def tw10472504521078338475:=0
def tw18400598689149041335:=0
def tw8208667048561333928:=0
def tw14416907156015665936:=0
def tw6448987059669213561:=0
def tw7688087995775103404:=0
def tw7763017747065090334:=0
def tw6086833556125378641:=0
def tw12260535377023878044:=0
def tw3743891140395016313:=0
def tw11367386155456460413:=0
def tw2838484318643129677:=0
def tw13305891357335705200:=0
def tw4155406687485088032:=0
def tw6745917003894816045:=0
def tw6680966535470621965:=0
def tw2583807747579515463:=0
def tw6461065739407188411:=0
def tw4663256153202819061:=0
def tw9284325320004241654:=0
def tw5773971790076816649:=0
def tw12945937380078788887:=0
def tw1455267296094709394:=0
def tw13660212740972788188:=0
def tw2817001398864858584:=0
def tw13206450617902556284:=0
def tw8541967002168117770:=0
def tw17922658910243178408:=0
def tw8858617412265394145:=0
def tw16862965548993518949:=0
def tw3150622980954609225:=0
def tw12757163361129279845:=0
def tw14352715692747392585:=0
def tw15498551387896738751:=0
def tw1706307700257549059:=0
def tw6574601044310107756:=0
def tw5112586968570650731:=0
def tw10949697385169763558:=0
def tw10005815635993597777:=0
def tw788070550442861834:=0
def tw4550087276440973048:=0
def tw5173597963143285864:=0
def tw6068657488893530598:=0
def tw7331673332453683030:=0
def tw4591273013546121479:=0
def tw8924744733706397564:=0
def tw12639412317008742592:=0
def tw2813835368762932403:=0
def tw10229323171576641315:=0
def tw1421071780498151647:=0
def tw17921202741608883591:=0
def tw13765777380278540146:=0
def tw11936070098683492589:=0
def tw3267781541790731905:=0
def tw17865488073460761589:=0
def tw10875692720644023220:=0
def tw5463678425501097324:=0
def tw8923884138002258465:=0
def tw14602246714577363746:=0
def tw3327644496271354668:=0
def tw11666636995558631758:=0
def tw9177705385649985954:=0
def tw15378500090687838626:=0
def tw4362184922494966382:=0
def tw15846598649586461187:=0
def tw13268303098330044591:=0
def tw17524459154323769090:=0
def tw10362820728203286839:=0
def tw3427681139209277088:=0
def tw8059584529312465417:=0
def tw8970653985705023437:=0
def tw9049776605963115840:=0
def tw14895657468426785596:=0
def tw4408425109973895428:=0
def tw17863101831307185140:=0
def tw1245478568467918881:=0
def tw1628583749085241185:=0
def tw12143643389538235679:=0
def tw13376507598711475757:=0
def tw15266984281184796008:=0
def tw16115477729032408474:=0
def tw15626441793358566105:=0
def tw9486043329951574642:=0
def tw13809560231691238430:=0
def tw3493475536894323972:=0
def tw14609817164783233885:=0
def tw18398522183991326638:=0
def tw14886477689817364057:=0
def tw6465254534979045269:=0
def tw3458591382266264161:=0
def tw7954092870414956202:=0
def tw1906957915304179690:=0
def tw4237989714982166614:=0
def tw3974086880991816667:=0
def tw10051051940016114360:=0
def tw11567254698481868562:=0
def tw15509943583752291666:=0
def tw14132426797741330503:=0
def tw7119046993114847336:=0
def tw10319318042817525639:=0
def tw2421198348960837746:=0
def tw5551257075555557717:=0
def tw641889677102862625:=0
def tw1614004797349659003:=0
def tw5393243894229256219:=0
def tw18139137035095768991:=0
def tw8586217996990098451:=0
def tw12841329112344375702:=0
def tw15628118531162231908:=0
def tw16336485636165641723:=0
def tw2181321040424577557:=0
def tw3250636643195068112:=0
def tw151563925223611055:=0
def tw18405409562980505764:=0
def tw9874644337268434258:=0
def tw18158453145832609602:=0
def tw9347002228625097640:=0
def tw12281002986516700822:=0
def tw16439045275262111219:=0
def tw5624100646823464:=0
def tw16142574056711090677:=0
def tw12172739930676870346:=0
def tw14458779483030984360:=0
def tw17472579396027529292:=0
def tw12230582042080748363:=0
def tw11131451864988238662:=0
def tw4556506781310115159:=0
def tw6404440428332115804:=0
def tw14316020110824262235:=0
def tw7854674491536282751:=0
def tw4276701139083874531:=0
def tw14934456314854030682:=0
def tw10425933919395185873:=0
def tw12572895584832782587:=0
def tw15620466882613289956:=0
def tw4979774969372629782:=0
def tw4518841664507163045:=0
def tw8576906359922323162:=0
def tw4586032172366383044:=0
def tw2971560354013855733:=0
def tw14703946332556022910:=0
def tw5723969766210985965:=0
def tw9751234858430873921:=0
def tw2807489646726565851:=0
def tw11071404305333086839:=0
def tw16186285891663449626:=0
def tw16069876805288980927:=0
def tw6672803702985521202:=0
def tw13749664705143053364:=0
def tw13936357800457774637:=0
def tw10124426217437375356:=0
def tw1274043412801054090:=0
def tw11634728954858076634:=0
def tw9513348300255007019:=0
def tw494802793963829510:=0
def tw7073027008205692895:=0
def tw1443727957260245747:=0
def tw7354323869725399339:=0
def tw14945512310143715855:=0
def tw10401089099121820248:=0
def tw13599584674059496730:=0
def tw5454344274155856309:=0
end PySem.W.Fast
open PySem PySem.W PyProof.Rows
set_option maxRecDepth 100000 in
set_option maxHeartbeats 0 in
theorem PySem.Challenge.cw_greywalk_k25_a_cell_walked_holds : PySem.Challenge.rw_greywalk_k25_a_cell_walked.Holds := by
 w_on;o_law;k_head;(case hw=>w_witness2)
 k_fill
 refine K25.walk (l:=PySem.Challenge.rw_greywalk_k25_a_cell_walked) rfl rfl (fun w h Y=>PySem.W.kIn_of Y) ?F
 case F=>
  intro w mg fa h KX G hmg
  refine' K25.all_mk KX G hmg ?h0 ?h1 ?h2 ?h3 ?h4 ?h5 ?h6 ?h7 ?h8 ?h9 ?h10 ?h11 ?h12 ?h13 ?h14 ?h15 ?h16 ?h17 ?h18 ?h19 ?h20 ?h21 ?h22 ?h23 ?h24 ?h25 ?h26 ?h27 ?h28 ?h29 ?h30 ?h31 ?h32 ?h33 ?h34 ?h35 ?h36 ?h37 ?h38 ?h39 ?h40 ?h41 ?h42 ?h43 ?h44 ?h45 ?h46 ?h47 ?h48 ?h49 ?h50 ?h51 ?h52 ?h53 ?h54 ?h55 ?h56 ?h57 ?h58 ?h59 ?h60 ?h61 ?h62 ?h63 ?h64 ?h65 ?h66 ?h67 ?h68 ?h69 ?h70 ?h71 ?h72 ?h73 ?h74 ?h75 ?h76 ?h77 ?h78 ?h79 ?h80 ?h81 ?h82 ?h83 ?h84 ?h85 ?h86 ?h87 ?h88 ?h89 ?h90 ?h91 ?h92 ?h93 ?h94 ?h95 ?h96 ?h97 ?h98 ?h99 ?h100 ?ZIv ?ZIu ?ZIt ?ZIs ?ZIr ?ZIq ?ZIp ?ZIo ?ZIn ?ZIm ?ZIl ?ZIk ?ZIj ?ZIi ?ZIh ?ZIg ?ZIf ?ZIe ?ZId ?ZIc ?ZIb ?ZIa ?ZI9 ?ZI8 ?ZI7 ?ZI6 ?ZI5 ?ZI4 ?ZI2 ?ZI1 ?ZI0 ?ZHz ?ZHy ?ZHx ?ZHw ?ZHv ?ZHu ?ZHt ?ZHs ?ZHr ?ZHq ?ZHp ?ZHo ?ZHn ?ZHm ?ZHl ?ZHk ?ZHj ?ZHi ?ZHh ?ZHg ?ZHf ?ZHe ?ZHd ?ZHc ?ZHb ?ZHa ?ZH9 ?ZH8 ?ZH7 ?ZH6 ?ZH5 ?ZH4 ?ZH3 ?ZH2 ?ZH1 ?ZH0 ?ZGz ?ZGy ?ZGx ?ZGw ?ZGv ?ZGu ?ZGt ?ZGs ?ZGr ?ZGq ?ZGp ?ZGn ?ZGm ?ZGl ?ZGk ?ZGj ?ZGi ?ZGh ?ZGg ?ZGf ?ZGe ?ZGd ?ZGc ?ZGb ?ZGa ?ZG9 ?ZG8 ?ZG7 ?ZG6 ?ZG5 ?ZG4 ?ZG3 ?ZG2 ?ZG1 ?ZG0 ?ZFz ?ZFy ?ZFx ?ZFw ?ZFv ?ZFu ?ZFt ?ZFs ?ZFr ?ZFq ?ZFp ?ZFo ?ZFn ?ZFm ?ZFl ?ZFk ?ZFj ?ZFi ?ZFh ?ZFg ?ZFf ?ZFe ?ZFd ?ZFc ?ZFb ?ZFa ?ZF9 ?ZF8 ?ZF7 ?ZF6 ?ZF5 ?ZF4 ?ZF3 ?ZF2 ?ZF1 ?ZF0 ?ZEz ?ZEy ?ZEx ?ZEw ?ZEv ?ZEu ?ZEt ?ZEs ?ZEr ?ZEq ?ZEp ?ZEo ?ZEn ?ZEm ?ZEl ?ZEk ?ZEj ?ZEi ?ZEh ?ZEg ?ZEf ?ZEe ?ZEd ?ZEc ?ZEb ?ZEa ?ZE9 ?ZE8 ?ZE7 ?ZE6 ?ZE5 ?ZE4 ?ZE3 ?ZE1 ?ZE0 ?ZDz ?ZDy ?ZDx ?ZDw ?ZDv ?ZDu ?ZDt ?ZDs ?ZDr ?ZDq ?ZDp ?ZDo ?ZDn ?ZDm ?ZDl ?ZDk ?ZDj ?ZDi ?ZDh ?ZDg ?ZDf ?ZDe ?ZDd ?ZDc ?ZDb ?ZDa ?ZD9 ?ZD8 ?ZD7 ?ZD6 ?ZD5 ?ZD4 ?ZD3 ?ZD2 ?ZD1 ?ZD0 ?ZCz ?ZCy ?ZCx ?ZCw ?ZCv ?ZCu ?ZCt ?ZCs ?ZCr ?ZCq ?ZCp ?ZCo ?ZCn ?ZCm ?ZCl ?ZCk ?ZCj ?ZCi ?ZCh ?ZCg ?ZCf ?ZCe ?ZCd ?ZCc ?ZCb ?ZCa ?ZC9 ?ZC8 ?ZC7 ?ZC6 ?ZC5 ?ZC4 ?ZC3 ?ZC2 ?ZC1 ?ZC0 ?ZBz ?ZBy ?ZBx ?ZBw ?ZBv ?ZBu ?ZBt ?ZBs ?ZBr ?ZBq ?ZBp ?ZBo ?ZBn
  case h0 | h1 | h2 | h3 | h4 | h5 | h6 | h7 | h8 | h9 | h10 | h11 | h12 | h13 | h14 | h15 | h16 | h17 | h18 | h19 | h20 | h21 | h22 | h23 | h24 | h25=>(show _=_;k_is)
  case h26 | h27=>first | exact rfl | exact ⟨_,rfl⟩
  case h28 | h29 | h30 | h31 | h32 | h33 | h34 | h35 | h36 | h37 | h38 | h39 | h40 | h41 | h42 | h43 | h44 | h45 | h46 | h47 | h48 | h49 | h50 | h51 | h52 | h53 | h54 | h55 | h56 | h57 | h58 | h59 | h60 | h61 | h62 | h63 | h64 | h65 | h66 | h67 | h68 | h69 | h70 | h71 | h72 | h73 | h74 | h75 | h76 | h77 | h78 | h79 | h80 | h81 | h82 | h83 | h84 | h85 | h86 | h87 | h88 | h89 | h90 | h91 | h92 | h93 | h94 | h95 | h96 | h97 | h98 | h99 | h100 | ZIv | ZIu | ZIt | ZIs | ZIr | ZIq | ZIp | ZIo | ZIn | ZIm | ZIl | ZIk | ZIj | ZIi | ZIh | ZIg | ZIf | ZIe | ZId | ZIc | ZIb | ZIa | ZI9 | ZI8 | ZI7 | ZI6 | ZI5 | ZI4 | ZI2 | ZI1 | ZI0 | ZHz | ZHy | ZHx | ZHw | ZHv | ZHu=>(show _=_;k_is)
  case ZHt | ZHs | ZHr | ZHq=>exact rfl
  case ZHp | ZHo=>(show _=_;k_is)
  case ZHn | ZHm | ZHl | ZHk | ZHj | ZHi | ZHh | ZHg | ZHf | ZHe=>exact rfl
  case ZHd | ZHc | ZHb | ZHa | ZH9 | ZH8 | ZH7 | ZH6 | ZH5 | ZH4 | ZH3 | ZH2 | ZH1 | ZH0 | ZGz | ZGy | ZGx | ZGw | ZGv | ZGu | ZGt | ZGs | ZGr | ZGq | ZGp | ZGn | ZGm | ZGl | ZGk | ZGj | ZGi | ZGh | ZGg | ZGf | ZGe | ZGd | ZGc | ZGb | ZGa | ZG9 | ZG8 | ZG7 | ZG6 | ZG5 | ZG4 | ZG3 | ZG2 | ZG1 | ZG0 | ZFz | ZFy | ZFx | ZFw | ZFv | ZFu | ZFt | ZFs | ZFr | ZFq | ZFp | ZFo | ZFn | ZFm | ZFl | ZFk | ZFj | ZFi | ZFh | ZFg | ZFf | ZFe | ZFd | ZFc | ZFb | ZFa | ZF9 | ZF8 | ZF7 | ZF6 | ZF5 | ZF4 | ZF3 | ZF2 | ZF1 | ZF0 | ZEz | ZEy | ZEx=>(show _=_;k_is)
  case ZEw | ZEv | ZEu | ZEt=>k_exc
  case ZEs | ZEr | ZEq | ZEp=>kts_exm
  case ZEo | ZEn | ZEm | ZEl | ZEk | ZEj | ZEi | ZEh | ZEg | ZEf | ZEe | ZEd | ZEc | ZEb | ZEa=>(show _=_;k_is)
  case ZE9=>first | exact rfl | exact ⟨_,rfl⟩
  case ZE8=>(show _=_;k_is)
  case ZE7=>first | exact rfl | exact ⟨_,rfl⟩
  case ZE6 | ZE5 | ZE4 | ZE3 | ZE1 | ZE0 | ZDz | ZDy | ZDx | ZDw | ZDv | ZDu | ZDt | ZDs | ZDr | ZDq | ZDp | ZDo | ZDn | ZDm | ZDl | ZDk | ZDj | ZDi | ZDh | ZDg | ZDf | ZDe | ZDd | ZDc | ZDb | ZDa | ZD9 | ZD8 | ZD7 | ZD6 | ZD5 | ZD4 | ZD3 | ZD2 | ZD1 | ZD0 | ZCz | ZCy | ZCx | ZCw | ZCv | ZCu | ZCt | ZCs | ZCr | ZCq | ZCp | ZCo | ZCn | ZCm | ZCl | ZCk | ZCj | ZCi | ZCh | ZCg | ZCf | ZCe | ZCd | ZCc | ZCb | ZCa | ZC9 | ZC8 | ZC7 | ZC6 | ZC5 | ZC4 | ZC3 | ZC2 | ZC1 | ZC0 | ZBz | ZBy | ZBx | ZBw | ZBv | ZBu | ZBt | ZBs | ZBr | ZBq | ZBp | ZBo | ZBn=>(refine' K25.fgm ?l ?c ?k;(case l=>show _=_;k_is);(case c=>show _=_;k_is);(case k=>show _=_;k_is))
#print axioms PySem.Challenge.cw_greywalk_k25_a_cell_walked_holds
