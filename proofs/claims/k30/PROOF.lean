import PyProof.Rows.All
import Wide.All
import OpenK.AllK
import Wide.FinOn
import Lean
import PyProof.EqAt
import PyProof.EqKinds
import PyProof.TupleCall
import KE.KItemsList
import KE.KDictList
import PySem.Challenge.RW_greywalk_k30_each_pale_one_guarded
set_option Elab.async false
set_option linter.all false
set_option compiler.extract_closed false
set_option maxRecDepth 100000
abbrev aC:=PySem.W.Frag
theorem bL{a:Type}{l:List a}{i:Nat}(h:i<l.length):l[i]? =some l[i]:=List.getElem?_eq_getElem h
theorem dX{b:Type}{l:List b}{i:Nat}{a:b}(h:l[i]? =some a):∃h:i<l.length,l[i]=a:=List.getElem?_eq_some_iff.mp h
theorem cA{a b:Type}{f:a->b}{l:List a}{i:Nat}:(l.map f)[i]? =l[i]?.map f:=List.getElem?_map
theorem bx{a b:Type}{l:List a}(f:a->b):(l.map f).length=l.length:=List.length_map f
namespace L2
open PySem PySem.Spec PyProof.Rows
abbrev Key:=Sum Int Str
def IW:Key->Value->Bool
 | .inl k,v=>Value.isInt k v
 | .inr x,v=>Value.isStrOf x v
def Zto(w:World):Key->Int
 | .inl k=>hashInt k
 | .inr x=>hashStr w x
theorem fM:∀{k:Key}{v:Value},IW k v=true->(∃i t,k=Sum.inl i/\v=Value.int i t)\/(∃x t,k=Sum.inr x/\v=Value.str x t)
 | .inl i,v,h=>by
  obtain⟨t,e⟩:=Value.isInt_shape (k:=i) (v:=v) h;exact .inl ⟨i,t,rfl,e⟩
 | .inr x,v,h=>by
  obtain⟨t,e⟩:=Value.isStrOf_shape (x:=x) (v:=v) h;exact .inr ⟨x,t,rfl,e⟩
theorem Zgp(i:Int)(t:Tok):IW (.inl i) (.int i t)=true:=by simp[IW,Value.isInt]
theorem Zgo(x:Str)(t:Tok):IW (.inr x) (.str x t)=true:=by simp[IW,Value.isStrOf]
theorem Zrf(a b:Int):decide ((Sum.inl a:Key)=Sum.inl b)=(a == b):=by
 by_cases e:a=b
 ·subst e;simp
 ·have h:¬ (Sum.inl a:Key)=Sum.inl b:=λq=>e (Sum.inl.inj q);rw[decide_eq_false h];exact(beq_eq_false_iff_ne.mpr e).symm
theorem Zrc(a b:Str):decide ((Sum.inr a:Key)=Sum.inr b)=decide (a=b):=by
 by_cases e:a=b
 ·subst e;simp
 ·have h:¬ (Sum.inr a:Key)=Sum.inr b:=λq=>e (Sum.inr.inj q);rw[decide_eq_false h,decide_eq_false e]
theorem Zre(a:Int)(b:Str):decide ((Sum.inl a:Key)=Sum.inr b)=false:=decide_eq_false (λq=>nomatch q)
theorem Zrd(a:Str)(b:Int):decide ((Sum.inr a:Key)=Sum.inl b)=false:=decide_eq_false (λq=>nomatch q)
def fL(prog:Program)(w:World):PySem.KeyKind prog w Key where
  is:=IW
  hash:=Zto w
  inj:=λv a b d hb=>by
    rcases fM d with ⟨i,t,rfl,rfl⟩ | ⟨x,t,rfl,rfl⟩
    · rcases fM hb with ⟨j,u,rfl,e⟩ | ⟨y,u,rfl,e⟩
      · injection e with c _;rw[c]
      · exact nomatch e
    · rcases fM hb with ⟨j,u,rfl,e⟩ | ⟨y,u,rfl,e⟩
      · exact nomatch e
      · injection e with c _;rw[c]
  byValue:=λk v h=>by
    rcases fM h with ⟨i,t,rfl,rfl⟩ | ⟨x,t,rfl,rfl⟩<;>rfl
  pyHash:=λhv h=>by
    rcases fM hv with ⟨i,t,rfl,rfl⟩ | ⟨x,t,rfl,rfl⟩
    · exact wpAny_pyHash_int h
    · exact wpAny_pyHash_str h
  eqBool:=λhu hv h=>by
    rcases fM hu with ⟨i,t,rfl,rfl⟩ | ⟨x,t,rfl,rfl⟩
    · rcases fM hv with ⟨j,u,rfl,rfl⟩ | ⟨y,u,rfl,rfl⟩
      · rw[Zrf]at h;exact wpAny_eqBool_int h
      · rw[Zre]at h;exact SeqAt.EqAt.int_str i t y u _ _ _ _ h
    · rcases fM hv with ⟨j,u,rfl,rfl⟩ | ⟨y,u,rfl,rfl⟩
      · rw[Zrd]at h;exact SeqAt.EqAt.str_int x t j u _ _ _ _ h
      · rw[Zrc]at h;exact wpAny_eqBool_str h
  «strs»:=λk x t v h=>by
    rcases fM h with ⟨i,u,rfl,e⟩ | ⟨y,u,rfl,e⟩
    · exact nomatch e
    · injection e with c _
      subst c;cases v<;>rfl
theorem Z7(prog:Program)(w:World)(i:Int)(t:Tok):(fL prog w).is (.inl i) (.int i t)=true:=Zgp i t
theorem Z6(prog:Program)(w:World)(x:Str)(t:Tok):(fL prog w).is (.inr x) (.str x t)=true:=Zgo x t
end L2
namespace L2
open PySem PySem.Spec PyProof.Rows
inductive V where
 | non | bl (b:Bool) | int (i:Int) | str (x:Str) | byt (b:Array UInt8) | flt (b:UInt64) | ref (a:Addr) | ty (n:String)
 deriving DecidableEq
def RelV:V->Value->Prop
 | .non,u=>u=Value.none
 | .bl b,u=>u=Value.bool b
 | .int i,u=>∃t,u=Value.int i t
 | .str x,u=>∃t,u=Value.str x t
 | .byt b,u=>∃t,u=Value.bytes b t
 | .flt b,u=>∃t,u=Value.float b t
 | .ref a,u=>u=Value.ref a
 | .ty n,u=>u=Value.type n
abbrev Vals:List V->List Value->Prop:=Paired RelV
theorem Vals.length{xs:List V}{us:List Value}(r:Vals xs us):xs.length=us.length:=Paired.length r
theorem Vals.get:∀{xs:List V}{us:List Value}{i:Nat}{x:V},Vals xs us->xs[i]? =some x->∃u,us[i]? =some u/\RelV x u
 | _,_,_,_,.nil,e=>by simp at e
 | _,_,0,_,.cons r _,e=>by simp at e;subst e;exact⟨_,rfl,r⟩
 | _,_,i+1,x,.cons _ t,e=>by
  obtain⟨u,h1,h2⟩:=Vals.get (i:=i) (x:=x) t (by simpa using e);exact⟨u,by simpa using h1,h2⟩
theorem Vals.set{x:V}{u:Value}(r:RelV x u):∀{xs:List V}{us:List Value} (i:Nat),Vals xs us->Vals (xs.set i x) (us.set i u)
 | _,_,_,.nil=>.nil
 | _,_,0,.cons _ t=>.cons r t
 | _,_,i+1,.cons q t=>.cons q (Vals.set r i t)
theorem Vals.append:∀{xs a:List V}{us b:List Value},Vals xs us->Vals a b->Vals (xs++a) (us++b)
 | _,_,_,_,.nil,s=>s
 | _,_,_,_,.cons r t,s=>.cons r (Vals.append t s)
theorem Vals.take:∀{xs:List V}{us:List Value} (n:Nat),Vals xs us->Vals (xs.take n) (us.take n)
 | _,_,0,_=>.nil
 | _,_,_+1,.nil=>.nil
 | _,_,n+1,.cons r t=>.cons r (Vals.take n t)
theorem Vals.drop:∀{xs:List V}{us:List Value} (n:Nat),Vals xs us->Vals (xs.drop n) (us.drop n)
 | _,_,0,r=>r
 | _,_,_+1,.nil=>.nil
 | _,_,n+1,.cons _ t=>Vals.drop n t
def Ea:Option V->Option Value->Prop
 | some v,some u=>RelV v u
 | none,none=>True
 | _,_=>False
def KV{a:Type}:List (a×V)->List (a×Value)->Prop:=Paired λ(p:a×V) (q:a×Value)=>p.1=q.1/\RelV p.2 q.2
def kV:Key->V
 | .inl i=>.int i
 | .inr x=>.str x
inductive HO where
  | lst (xs:List V)
  | tup (xs:List V)
  | dK (kvs:List (Key×V)) | dT (kvs:List (List Key×V))
  | set (S:Int->Bool) (n:Nat)
  | ins (C dx:Addr) (fs:List (Str×V))
  | own (x:Addr)
  | xd (fs:List (Str×V))
  | met (f x:Addr)
  | rng (lo hi:Int)
  | DR (o:Obj) (u:HO)
  | O7 (ps:Array Value)
  | ext (φ:Heap->Prop)
abbrev Hp:=Addr->Option HO
def upd(H:Hp)(a:Addr)(o:HO):Hp:=λb=>if b=a then some o else H b
theorem aq{H:Hp}{a:Addr}{o:HO}:upd H a o a=some o:=by unfold upd;rw[if_pos rfl]
theorem aB{H:Hp}{a b:Addr}{o:HO}(h:b≠a):upd H a o b=H b:=by unfold upd;rw[if_neg h]
theorem eN{H:Hp}{a:Addr}{o u:HO}:upd (upd H a o) a u=upd H a u:=by
 funext b;unfold upd;split<;>rfl
theorem qw{H:Hp}{a b:Addr}{o u:HO}(h:H a=some o)(h':H b=some u)(d:o≠u):a≠b:=by
 intro e;subst e;rw[h]at h';exact d (Option.some.inj h')
theorem aD{H:Hp}{a b:Addr}{o:HO}(h:H a=some o)(h':H b=none):a≠b:=by
 intro e;subst e;rw[h]at h';cases h'
section
variable (P:Program)(w:World)
def lY(H:Hp)(h:Heap)(a:Addr):HO->Prop
 | .lst xs=>xs.length<=sizeLine/\∃(b:List Value) (n:Nat),Vals xs b/\h.get? a=some { cls:=.type "list",data:=.seq b.toArray n }
 | .tup xs=>xs.length<=sizeLine/\∃b:List Value,Vals xs b/\IsTup h a b.toArray
 | .dK c=>c.length<=sizeLine/\(a == sysModules)=false/\∃vs,KV c vs/\h.DictOf (fL P w) a vs
 | .dT c=>c.length<=sizeLine/\(a == sysModules)=false/\∃xs:List (List Key×Addr×Value),
   Paired (λ(p:List Key×V) (q:List Key×Addr×Value)=>p.1=q.1/\H q.2.1=some (.tup (p.1.map kV))/\RelV p.2 q.2.2) c xs/\
   ∃o g i,h.get? a=some o/\o.ExactDict/\o.data=.dict g i/\g.toList=xs.map (entryOfKey (tupleKind (fL P w)))/\(xs.map (·.1)).Nodup
 | .set S n=>h.SetOf (intKind P w) a S n
 | .ins C dx fs=>H dx=some (.own a)/\fs.length<=1000/\dx≠a/\h.get? a=some (W.instObj C dx)/\
   ∃d,h.Ns1 dx d/\(∀f,Ea (fs.lookup f) (d f))/\PySem.Within d (fs.map (·.1))
 | .own _=>∃o,h.get? a=some o
 | .xd fs=>∃d,h.Ns1 a d/\∀f,Ea (fs.lookup f) (d f)
 | .rng lo hi=>∃t u v,h.get? a=some { cls:=.type "range",data:=.fields #[.int lo t,.int hi u,.int 1 v] }
 | .DR o u=>h.get? a=some o/\lY H h a u
 | .O7 ps=>h.get? a=some { cls:=.none,data:=.fields ps }
 | .met f x=>h.get? a=some (W.methodObj (.ref f) (.ref x))
 | .ext e=>e h/\(∃o,h.get? a=some o)/\∀h1 h2:Heap,e h1->(∀o,h1.get? a=some o->h2.get? a=some o)->e h2
def Ao(H:Hp)(h:Heap):Prop:=∀a o,H a=some o->lY P w H h a o
end
section
variable {P:Program}{w:World}{H H':Hp}{h h':Heap}{a:Addr}{o:HO}
theorem lY.lt(x:lY P w H h a o):a<h.objs.size:=by
 cases o with
 | lst xs=>obtain⟨_,_,_,_,e⟩:=x;exact Heap.lt_size e
 | tup xs=>obtain⟨_,_,_,p⟩:=x;exact p.lt
 | dK b=>obtain⟨_,_,_,_,o,_,_,e,_⟩:=x;exact Heap.lt_size e
 | dT b=>obtain⟨_,_,_,_,o,_,_,e,_⟩:=x;exact Heap.lt_size e
 | set S n=>obtain⟨o,_,_,_,e,_⟩:=x;exact Heap.lt_size e
 | ins C dx fs=>obtain⟨_,_,_,e,_⟩:=x;exact Heap.lt_size e
 | own y=>obtain⟨_,e⟩:=x;exact Heap.lt_size e
 | xd fs=>obtain⟨_,⟨_,_,_,e,_⟩,_⟩:=x;exact Heap.lt_size e
 | rng lo hi=>obtain⟨_,_,_,e⟩:=x;exact Heap.lt_size e
 | DR ob u=>obtain⟨e,_⟩:=x;exact Heap.lt_size e
 | O7 ps=>exact Heap.lt_size (show h.get? a=some _ from x)
 | met f y=>exact Heap.lt_size (show h.get? a=some _ from x)
 | ext c=>obtain⟨_,⟨_,e⟩,_⟩:=x;exact Heap.lt_size e
theorem Paired.Zr7{e g:Type}{F G:e->g->Prop}:∀{d:List e}{c:List g},Paired F d c->(∀a b,F a b->G a b)->Paired G d c
 | _,_,.nil,_=>.nil
 | _,_,.cons r t,f=>.cons (f _ _ r) (Paired.Zr7 t f)
theorem lY.stay(x:lY P w H h a o)(k:∀b u,(b=a\/H b=some (.own a))->h.get? b=some u->h'.get? b=some u)
  (s:∀b,H b=some (.own a)->H' b=some (.own a)) (B:∀b xs,H b=some (.tup xs)->H' b=some (.tup xs)):lY P w H' h' a o:=by
 induction o with
 | lst xs=>obtain⟨z,j,n,r,e⟩:=x;exact⟨z,j,n,r,k _ _ (.inl rfl) e⟩
 | tup xs=>obtain⟨z,j,r,ob,e,c⟩:=x;exact⟨z,j,r,ob,k _ _ (.inl rfl) e,c⟩
 | dK l=>obtain⟨z,y,vs,r,ob,i,g,e,c⟩:=x;exact⟨z,y,vs,r,ob,i,g,k _ _ (.inl rfl) e,c⟩
 | dT l=>
  obtain⟨z,y,xs,r,ob,i,g,e,c⟩:=x;exact⟨z,y,xs,Paired.Zr7 r λp q z=>⟨z.1,B _ _ z.2.1,z.2.2⟩,ob,i,g,k _ _ (.inl rfl) e,c⟩
 | set S n=>obtain⟨ob,i,g,t,e,c⟩:=x;exact⟨ob,i,g,t,k _ _ (.inl rfl) e,c⟩
 | ins C dx fs=>
  obtain⟨d,z,ne,e,m,⟨od,i,g,A,c⟩,r⟩:=x;exact⟨s _ d,z,ne,k _ _ (.inl rfl) e,m,⟨od,i,g,k _ _ (.inr d) A,c⟩,r⟩
 | own y=>obtain⟨ob,e⟩:=x;exact⟨ob,k _ _ (.inl rfl) e⟩
 | xd fs=>obtain⟨m,⟨od,i,g,e,c⟩,r⟩:=x;exact⟨m,⟨od,i,g,k _ _ (.inl rfl) e,c⟩,r⟩
 | rng lo hi=>obtain⟨t,u,v,e⟩:=x;exact⟨t,u,v,k _ _ (.inl rfl) e⟩
 | DR ob u ih=>obtain⟨e,q⟩:=x;exact⟨k _ _ (.inl rfl) e,ih q⟩
 | O7 ps=>
  have e:h.get? a=some { cls:=.none,data:=.fields ps }:=x;show h'.get? a=some { cls:=.none,data:=.fields ps };exact k a _ (.inl rfl) e
 | met f y=>
  have e:h.get? a=some (W.methodObj (.ref f) (.ref y)):=x;show h'.get? a=some (W.methodObj (.ref f) (.ref y));exact k a _ (.inl rfl) e
 | ext D=>obtain⟨p,⟨o,e⟩,st⟩:=x;exact⟨st _ _ p λo q=>k _ _ (.inl rfl) q,⟨o,k _ _ (.inl rfl) e⟩,st⟩
theorem Ao.lt(x:Ao P w H h)(e:H a=some o):a<h.objs.size:=(x a o e).lt
theorem Ao.fresh(x:Ao P w H h)(e:h.objs.size<=a):H a=none:=by
 cases q:H a with
 | none=>rfl
 | some u=>exact absurd (Nat.lt_of_lt_of_le (x.lt q) e) (Nat.lt_irrefl _)
theorem Ao.kept(x:Ao P w H h)(k:∀b u,h.get? b=some u->h'.get? b=some u):Ao P w H h':=λa o e=>
 (x a o e).stay (λb u _ q=>k b u q) (λ_ q=>q) λ_ _ q=>q
theorem Ao.laid(x:Ao P w H h)(k:∀b u,h.get? b=some u->h'.get? b=some u)(hp:h.objs.size<=a)(new:lY P w (upd H a o) h' a o):Ao P w (upd H a o) h':=λb u e=>by
 have hn:=x.fresh hp
 by_cases hb:b=a
 ·subst hb;rw[aq]at e;cases e;exact new
 ·rw[aB hb]at e;exact(x b u e).stay (λc v _ q=>k c v q) (λc q=>by rw[aB (aD q hn)];exact q) λc xs q=>by rw[aB (aD q hn)];exact q
end
def Rd(H:Hp)(a:Addr)(u:HO):Prop:=H a=some u\/∃o,H a=some (.DR o u)
theorem Rd.ok{P:Program}{w:World}{H:Hp}{h:Heap}{a:Addr}{u:HO}(r:Rd H a u)(x:Ao P w H h):lY P w H h a u:=by
 rcases r with r | ⟨o,r⟩
 ·exact x a u r
 ·obtain⟨_,q⟩:=x a _ r;exact q
def Mut:Option HO->Prop
 | some (.lst _)=>True
 | some (.dK _)=>True
 | some (.dT _)=>True
 | some (.set _ _)=>True
 | some (.ins _ _ _)=>True
 | some (.ext _)=>True
 | _=>False
section
variable {P:Program}{w:World}{H:Hp}{h h':Heap}{x e:Addr}{o':HO}
theorem Ao.write(ok:Ao P w H h)(f:Mut (H x))(l:e=x\/H e=some (.own x))(k:∀b u,b≠e->h.get? b=some u->h'.get? b=some u)(i:∃u,h'.get? e=some u)
  (new:lY P w (upd H x o') h' x o'):Ao P w (upd H x o') h':=λb u q=>by
 have d:∀c y,H c=some (.own y)->c≠x:=λc y r z=>by subst z;rw[r]at f;exact f
 have g:∀c xs,H c=some (.tup xs)->c≠x:=λc xs r z=>by subst z;rw[r]at f;exact f
 by_cases hb:b=x
 ·subst hb;rw[aq]at q;cases q;exact new
 ·rw[aB hb]at q
  by_cases a:b=e
  ·have j:H b=some (.own x):=by
    rcases l with z | z
    ·exact absurd (a.trans z) hb
    ·rw[a];exact z
   rw[q]at j;cases j;obtain⟨v,hv⟩:=i;exact⟨v,by rw[a];exact hv⟩
  ·refine(ok b u q).stay (λc v hc r=>k c v ?_ r) (λc r=>by rw[aB (d c b r)];exact r) λc xs r=>by rw[aB (g c xs r)];exact r
   rcases hc with rfl | hc
   ·exact a
   ·rintro rfl;rcases l with z | z
    ·exact d c b hc z
    ·rw[hc]at z;cases z;exact hb rfl
end
structure Un(fs ex:List Addr)(H H':Hp)(h h':Heap):Prop where
 keep:∀b o,h.get? b=some o->H b=none->b∉fs->b∉ex->h'.get? b=some o
 slot:∀b o,h.get? b=some o->H b=none->b∈fs->b∉ex->∃sl,h'.get? b=some { o with slots:=sl }
 free:∀b o,h.get? b=some o->H b=none->b∉ex->H' b=none
 there:∀b o,h.get? b=some o->b∉ex->∃o',h'.get? b=some o'
 tups:∀b xs,H b=some (.tup xs)->H' b=some (.tup xs)
 Ge:∀b o u,H b=some (.DR o u)->H' b=some (.DR o u)
 GP:∀b ps,H b=some (.O7 ps)->∃more,H' b=some (.O7 (ps++more))
section
variable {fs fs' ex ex':List Addr}{H H1 H2:Hp}{h h1 h2 h':Heap}{a x e:Addr}{o:HO}
theorem Un.any(u:Un fs ex H H1 h h1){b:Addr}{ob:Obj}(q:h.get? b=some ob)(n:H b=none)(hx:b∉ex):∃sl,h1.get? b=some { ob with slots:=sl }:=by
 by_cases hb:b∈fs
 ·exact u.slot b ob q n hb hx
 ·exact⟨ob.slots,u.keep b ob q n hb hx⟩
theorem Un.kept(k:∀b u,h.get? b=some u->h'.get? b=some u):Un fs ex H H h h':=
 ⟨λb ob q _ _ _=>k b ob q,λb ob q _ _ _=>⟨ob.slots,k b ob q⟩,λ_ _ _ n _=>n,λb ob q _=>⟨ob,k b ob q⟩,λ_ _ q=>q,λ_ _ _ q=>q,λ_ ps q=>⟨#[],by rw[q];simp⟩⟩
theorem Un.refl:Un fs ex H H h h:=Un.kept λ_ _ q=>q
theorem Un.laid(k:∀b u,h.get? b=some u->h'.get? b=some u)(hp:h.objs.size<=a)(hn:H a=none):Un fs ex H (upd H a o) h h' where
 keep:=λb u q _ _ _=>k b u q
 slot:=λb u q _ _ _=>⟨u.slots,k b u q⟩
 free:=λb u q n _=>by rw[aB (Nat.ne_of_lt (Nat.lt_of_lt_of_le (Heap.lt_size q) hp))];exact n
 there:=λb u q _=>⟨u,k b u q⟩
 tups:=λb xs q=>by rw[aB (aD q hn)];exact q
 Ge:=λb u xs q=>by rw[aB (aD q hn)];exact q
 GP:=λb ps q=>⟨#[],by rw[aB (aD q hn),q];simp⟩
theorem Un.write(c:Mut (H x))(f:e=x\/H e=some (.own x))(k:∀b u,b≠e->h.get? b=some u->h'.get? b=some u)(d:∃u,h'.get? e=some u):Un fs ex H (upd H x o) h h':=by
 have hx:∀b,H b=none->b≠x:=λb n z=>by subst z;rw[n]at c;exact c
 have hb:∀b,H b=none->b≠e:=λb n z=>by
  subst z;rcases f with r | r
  ·exact hx b n r
  ·rw[n]at r;cases r
 have hm:∀b u,H b=some u->¬ Mut (some u)->b≠x:=λb u q nm z=>by subst z;rw[q]at c;exact nm c
 refine⟨λb u q n _ _=>k b u (hb b n) q,λb u q n _ _=>⟨u.slots,k b u (hb b n) q⟩,λb u q n _=>by rw[aB (hx b n)];exact n,λb u q _=>?_,
  λb xs q=>by rw[aB (hm b _ q λz=>z)];exact q,λb u xs q=>by rw[aB (hm b _ q λz=>z)];exact q,λb ps q=>⟨#[],by rw[aB (hm b _ q λz=>z),q];simp⟩⟩
 by_cases a:b=e
 ·subst a;exact d
 ·exact⟨u,k b u a q⟩
end
def trk(h:Heap)(H:Hp):List Addr:=(List.range h.objs.size).filter λa=>(H a).isSome
def XJ(h:Heap)(H:Hp):Heap:=W.hideAll h (trk h H)
theorem Zh7(h:Heap)(H:Hp):(XJ h H).objs.size=h.objs.size:=W.hideAll_size _ _
theorem Zl1{h:Heap}{H:Hp}{b:Addr}{o:Obj}(e:h.get? b=some o)(n:H b=none):(XJ h H).get? b=some o:=
 W.hideAll_get _ e λhm=>by
  have q:(H b).isSome=true:=(List.mem_filter.mp hm).2;rw[n]at q;simp at q
theorem Zns{h:Heap}{H:Hp}{b:Addr}{o:Obj}(e:(XJ h H).get? b=some o):h.get? b=some o/\H b=none:=by
 have a:h.get? b=some o:=W.of_hideAll (trk h H) e;refine⟨a,?_⟩;cases q:H b with
 | none=>rfl
 | some x=>
  have hm:b∈trk h H:=List.mem_filter.mpr ⟨List.mem_range.mpr (Heap.lt_size a),by simp[q]⟩;have z:(XJ h H).get? b=none:=W.hideAll_none (trk h H) hm;rw[z]at e;cases e
def Zpa(g h:Heap)(L:Addr):List (Addr×Obj):=(List.range h.objs.size).filterMap λa=>if a=L\/(g.get? a).isSome=true then none else(h.get? a).map λo=>(a,o)
def rest(g h:Heap)(L d:Addr):List (Addr×Obj):=(Zpa g h L).filter λp=>decide (p.1≠d)
end L2
namespace L2
open PySem PySem.Spec PyProof.Rows
structure Mod(K:aC)(mg:Str->Option Value)(base:Heap):Prop where
 kin:K.In base
 glob:base.Ns mainGlobals mg
 blt:∃mb,base.Ns builtinsNs mb/\∀x:Str,x≠"__name__"->mb x=bootBuiltins x
 nolimit:base.NoLimit
structure Cx where
 prog:Program
 w:World
 K:aC
 mg:Str->Option Value
 base:Heap
 A:Around
 N:List Str
 s₀:Shared
 H₀:Hp
 env:Env
 outer:List Env
 stack:List Env
 ex:List Addr
 fn:Str->Bool
 calm:Bool
 pn:List (Addr×Obj)
 xe:Value->Shared->Prop
def frs(l:List Env):List Addr:=l.filterMap (·.frame)
abbrev Cx.fs(X:Cx):List Addr:=frs X.outer
def Vis(a:Scope)(x:Str):Prop:=a.names.lookup x=some .local\/a.names.lookup x=some .cell\/a.names.lookup x=some .free
def Loc(a:Scope)(x:Str):Prop:=a.names.lookup x=some .local\/a.names.lookup x=some .cell
def Look(env:Env)(h:Heap)(m:Str->Option Value)(x:Str)(u:Value):Prop:=
 (env.kindOf x=some .local/\m x=some u)\/((env.kindOf x=some .cell\/env.kindOf x=some .free)/\∃c,env.cells.lookup x=some c/\h.IsCell c (some u))
structure Cx.Ok(X:Cx):Prop where
 mod:Mod X.K X.mg X.base
 kind:X.env.scope.kind=.function
 glob:X.env.globals=mainGlobals
 blt:X.env.builtins=builtinsNs
 above:X.s₀.heap.objs.size<=X.env.locals
 inj:∀x y c,X.env.cells.lookup x=some c->X.env.cells.lookup y=some c->x=y
 has:∀x,(X.env.kindOf x=some .cell\/X.env.kindOf x=some .free)->∃c,X.env.cells.lookup x=some c
 cab:∀x c,X.fn x=true->X.env.cells.lookup x=some c->X.s₀.heap.objs.size<=c
 hd:X.calm=true->X.A.handled=none
 frames:X.A.frames=some X.stack
 stk:X.stack=X.outer\/(X.stack=X.env::X.outer/\X.env.frame=some X.env.locals)
 exf:∀b∈X.ex,b≠X.env.locals/\∀x c,X.env.cells.lookup x=some c->c≠b
 bs:∀b o,X.base.get? b=some o->X.s₀.heap.get? b=some o/\X.H₀ b=none
 bsz:X.base.objs.size<=X.s₀.heap.objs.size
 S6:∀b o,X.base.get? b=some o->b∉X.ex
 Zag:∀b∈X.ex,b∉X.fs
 yo:X.s₀.heap.FunFrames X.base X.outer
 frf:∀b∈X.fs,X.H₀ b=none
structure Inv(X:Cx)(pins:List (Addr×Obj))(σ:List (Option V))(H:Hp)(s:Shared):Prop where
 ok:X.Ok
 os:s.os=X.s₀.os
 bare:AllBare s.gens
 base:Un X.fs X.ex X.H₀ H X.s₀.heap s.heap
 loc:∃m,s.heap.Ns X.env.locals m/\∀(i:Nat) (x:Str) (v:V),X.N[i]? =some x->σ[i]? =some (some v)->Vis X.env.scope x->∃u,RelV v u/\Look X.env s.heap m x u
 cell:∀x c,X.env.cells.lookup x=some c->∃v,s.heap.IsCell c v
 free:H X.env.locals=none
 sO:∀x c,X.env.cells.lookup x=some c->H c=none
 pin:∀p∈X.pn++pins,s.heap.get? p.1=some p.2/\H p.1=none/\p.1≠X.env.locals/\p.1∉X.fs/\∀v,p.2.data≠.cell v
 hok:Ao X.prog X.w H s.heap
 len:σ.length=X.N.length
section
variable {X:Cx}{pins:List (Addr×Obj)}{σ:List (Option V)}{H H':Hp}{s:Shared}{h':Heap}
theorem Cx.Ok.Zv7(ok:X.Ok){b:Addr}{o:Obj}(e:X.base.get? b=some o):b∉X.fs:=λhb=>by
 have:=(ok.yo.mem hb).1;rw[e]at this;cases this
theorem Inv.bs(I:Inv X pins σ H s):∀b o,X.base.get? b=some o->s.heap.get? b=some o/\H b=none:=λb o e=>
 ⟨I.base.keep b o (I.ok.bs b o e).1 (I.ok.bs b o e).2 (I.ok.Zv7 e) (I.ok.S6 b o e),I.base.free b o (I.ok.bs b o e).1 (I.ok.bs b o e).2 (I.ok.S6 b o e)⟩
theorem Inv.bk(I:Inv X pins σ H s):∀b o,X.base.get? b=some o->s.heap.get? b=some o:=λb o e=>(I.bs b o e).1
theorem Inv.mod(I:Inv X pins σ H s):Mod X.K X.mg X.base:=I.ok.mod
theorem Inv.Oj(I:Inv X pins σ H s):X.K.In s.heap:=I.ok.mod.kin.keeps I.bk
theorem Inv.lt(I:Inv X pins σ H s):X.env.locals<s.heap.objs.size:=let ⟨_,hn,_⟩:=I.loc;hn.lt
theorem Inv.sz(I:Inv X pins σ H s):X.s₀.heap.objs.size<=s.heap.objs.size:=Nat.le_trans I.ok.above (Nat.le_of_lt I.lt)
theorem Inv.Zv6(I:Inv X pins σ H s){a:Addr}(h:s.heap.objs.size<=a):a∉X.fs:=λhb=>by
 obtain⟨_,o,b,_⟩:=I.ok.yo.mem hb;exact absurd (Nat.lt_of_lt_of_le (Heap.lt_size b) (Nat.le_trans I.sz h)) (Nat.lt_irrefl _)
theorem Inv.cne(I:Inv X pins σ H s):∀x c,X.env.cells.lookup x=some c->c≠X.env.locals:=λx c e z=>by
 obtain⟨v,o,d,hd⟩:=I.cell x c e;obtain⟨m,⟨f,h,g,b,a,_⟩,_⟩:=I.loc;rw[z,b]at d;cases d;rw[a]at hd;cases hd
theorem Inv.yo(I:Inv X pins σ H s):s.heap.FunFrames X.base X.outer:=by
 have all:∀(l:List Env),(∀b∈frs l,b∈X.fs)->X.s₀.heap.FunFrames X.base l->s.heap.FunFrames X.base l:=by
  intro l
  induction l with
  | nil=>intro _ _;trivial
  | cons env r ih=>
   intro hs hl;obtain⟨hk,⟨L,o,c,hn,d,hd⟩,hr⟩:=hl;have a:L∈X.fs:=hs L (by unfold frs;rw[List.filterMap_cons,c];exact List.mem_cons_self);obtain⟨sl,e⟩:=I.base.slot L o d (I.ok.frf L a) a λz=>I.ok.Zag L z a;exact⟨hk,⟨L,_,c,hn,e,hd⟩,ih (λb hb=>hs b (by unfold frs;rw[List.filterMap_cons,c];exact List.mem_cons_of_mem _ hb)) hr⟩
 exact all X.outer (λ_ hb=>hb) I.ok.yo
theorem Inv.stack(I:Inv X pins σ H s):s.heap.FunFrames X.base X.stack:=by
 rcases I.ok.stk with e | ⟨e,a⟩
 ·rw[e];exact I.yo
 ·rw[e];obtain⟨m,hn,_⟩:=I.loc;refine .cons (by rw[I.ok.kind];decide) a hn ?_ I.yo;exact Heap.get?_none_of_le (Nat.le_trans I.ok.bsz I.ok.above)
theorem Inv.Ay(I:Inv X pins σ H s):∀b∈frs X.stack,b∈X.env.locals::X.fs:=λb hb=>by
 rcases I.ok.stk with e | ⟨e,a⟩
 ·rw[e]at hb;exact List.mem_cons_of_mem _ hb
 ·rw[e]at hb;unfold frs at hb;rw[List.filterMap_cons,a]at hb;exact hb
theorem Inv.N7(I:Inv X pins σ H s):∀b∈frs X.stack,H b=none:=λb hb=>by
 rcases List.mem_cons.mp (I.Ay b hb)with e | hb
 ·rw[e];exact I.free
 ·obtain⟨_,o,a,_⟩:=I.ok.yo.mem hb;exact I.base.free b o a (I.ok.frf b hb) λz=>I.ok.Zag b z hb
theorem Inv.step{g':Array GenState}{t':Nat}{d':Drawn}{ch:List Addr}(I:Inv X pins σ H s)
  (a:∀b∈ch,(b∈X.ex\/X.s₀.heap.objs.size<=b)/\b≠X.env.locals/\(∀x c,X.env.cells.lookup x=some c->c≠b)/\∀p∈X.pn++pins,p.1≠b)
  (keep:∀b o,b≠X.env.locals->b∉X.fs->b∉ch->s.heap.get? b=some o->H b=none->h'.get? b=some o)
  (slot:∀b o,b≠X.env.locals->b∈X.fs->b∉ch->s.heap.get? b=some o->H b=none->∃sl,h'.get? b=some { o with slots:=sl }) (free:∀b o,b∉ch->s.heap.get? b=some o->H b=none->H' b=none)
  (there:∀b o,b∉ch->s.heap.get? b=some o->∃y,h'.get? b=some y)
  (tups:∀b xs,H b=some (.tup xs)->H' b=some (.tup xs)) (Ge:∀b o u,H b=some (.DR o u)->H' b=some (.DR o u)) (GP:∀b ps,H b=some (.O7 ps)->∃B,H' b=some (.O7 (ps++B)))
  (ns:∀m,s.heap.Ns X.env.locals m->h'.Ns X.env.locals m) (hok:Ao X.prog X.w H' h') (K:AllBare g'):
  Inv X pins σ H' { s with heap:=h',gens:=g',drawn:=d',toks:=t' }:=by
 have C:∀b o,X.s₀.heap.get? b=some o->b≠X.env.locals:=λb o e=>Nat.ne_of_lt (Nat.lt_of_lt_of_le (Heap.lt_size e) I.ok.above);have j:∀b o,X.s₀.heap.get? b=some o->b∉X.ex->b∉ch:=λb o e hx hb=>by
  rcases(a b hb).1 with z | z
  ·exact hx z
  ·exact absurd (Nat.lt_of_lt_of_le (Heap.lt_size e) z) (Nat.lt_irrefl _)
 have f:∀x c,X.env.cells.lookup x=some c->∀v,s.heap.IsCell c v->h'.IsCell c v:=λx c e v ⟨o,t,hd⟩=>by
  have g:c∉ch:=λz=>(a c z).2.2.1 x c e rfl
  by_cases hc:c∈X.fs
  ·obtain⟨sl,q⟩:=slot c o (I.cne x c e) hc g t (I.sO x c e);exact⟨_,q,hd⟩
  ·exact⟨o,keep c o (I.cne x c e) hc g t (I.sO x c e),hd⟩
 refine⟨I.ok,I.os,K,⟨λb o e n hb hx=>?_,λb o e n hb hx=>?_,λb o e n hx=>?_,λb o e hx=>?_,λb xs e=>tups b xs (I.base.tups b xs e),λb o xs e=>Ge b o xs (I.base.Ge b o xs e),λb ps e=>?_⟩,?_,λx c e=>?_,?_,λx c e=>?_,λp hp=>?_,hok,I.len⟩
 ·exact keep b o (C b o e) hb (j b o e hx) (I.base.keep b o e n hb hx) (I.base.free b o e n hx)
 ·obtain⟨sl,h⟩:=I.base.slot b o e n hb hx;obtain⟨D,A⟩:=slot b _ (C b o e) hb (j b o e hx) h (I.base.free b o e n hx);exact⟨D,A⟩
 ·obtain⟨y,h⟩:=I.base.there b o e hx;exact free b y (j b o e hx) h (I.base.free b o e n hx)
 ·obtain⟨y,h⟩:=I.base.there b o e hx;exact there b y (j b o e hx) h
 ·obtain⟨F,h⟩:=I.base.GP b ps e;obtain⟨J,A⟩:=GP b _ h;exact⟨F++J,by rw[A,Array.append_assoc]⟩
 ·obtain⟨m,hn,hl⟩:=I.loc;refine⟨m,ns m hn,λi x v h A e3=>?_⟩;obtain⟨u,r,l⟩:=hl i x v h A e3;refine⟨u,r,?_⟩;rcases l with l | ⟨k,c,e,z⟩
  ·exact .inl l
  ·exact .inr ⟨k,c,e,f x c e _ z⟩
 ·obtain⟨v,z⟩:=I.cell x c e;exact⟨v,f x c e v z⟩
 ·obtain⟨m,⟨o,_,_,t,_⟩,_⟩:=I.loc;exact free _ o (λz=>(a _ z).2.1 rfl) t I.free
 ·obtain⟨v,o,t,hd⟩:=I.cell x c e;exact free c o (λz=>(a c z).2.2.1 x c e rfl) t (I.sO x c e)
 ·obtain⟨e,n,ne,E,d⟩:=I.pin p hp;have g:p.1∉ch:=λz=>(a p.1 z).2.2.2 p hp rfl;exact⟨keep p.1 p.2 ne E g e n,free p.1 p.2 g e n,ne,E,d⟩
theorem Inv.un{t':Nat}(I:Inv X pins σ H s)(u:Un X.fs [] H H' s.heap h')(hok:Ao X.prog X.w H' h'):Inv X pins σ H' { s with heap:=h',toks:=t' }:=by
 obtain⟨m,⟨o,k,j,f,r⟩,_⟩:=id I.loc;obtain⟨sl,g⟩:=u.any f I.free (by simp);exact I.step (g':=s.gens) (d':=s.drawn) (ch:=[]) (λ_ z=>nomatch z) (λb o _ hb _ e n=>u.keep b o e n hb (by simp)) (λb o _ hb _ e n=>u.slot b o e n hb (by simp)) (λb o _ e n=>u.free b o e n (by simp)) (λb o _ e=>u.there b o e (by simp)) u.tups u.Ge u.GP (λl hm=>by
  obtain⟨i,c,d,a,h⟩:=hm;rw[f]at a;cases a;exact⟨_,c,d,g,h⟩) hok I.bare
theorem Inv.call{g':Array GenState}{t':Nat}{d':Drawn}{ch:List Addr}(I:Inv X pins σ H s)(u:Un (frs X.stack) ch H H' s.heap h')(hok:Ao X.prog X.w H' h')(j:AllBare g')
  (a:∀b∈ch,(b∈X.ex\/X.s₀.heap.objs.size<=b)/\b≠X.env.locals/\(∀x c,X.env.cells.lookup x=some c->c≠b)/\∀p∈X.pn++pins,p.1≠b):
  Inv X pins σ H' { s with heap:=h',gens:=g',drawn:=d',toks:=t' }:=by
 obtain⟨m,⟨o,t,q,i,r⟩,_⟩:=id I.loc;obtain⟨sl,f⟩:=u.any i I.free λz=>(a _ z).2.1 rfl;exact I.step (ch:=ch) a (λb o f hb hc e n=>u.keep b o e n (λz=>(List.mem_cons.mp (I.Ay b z)).elim f hb) hc) (λb o _ _ hc e n=>u.any e n hc) (λb o hc e n=>u.free b o e n hc) (λb o hc e=>u.there b o e hc) u.tups u.Ge u.GP (λv hm=>by
  obtain⟨l,g,h,d,k⟩:=hm;rw[i]at d;cases d;exact⟨_,g,h,f,k⟩) hok j
theorem Inv.turned{t':Nat}{a:Addr}(I:Inv X pins σ H s)(k:∀b o,b≠a->s.heap.get? b=some o->h'.get? b=some o)(hn:H a=none)(f:a≠X.env.locals)
  (h1:a∈X.ex\/X.s₀.heap.objs.size<=a) (h2:∀x c,X.env.cells.lookup x=some c->c≠a) (h3:∀p∈X.pn++pins,p.1≠a):Inv X pins σ H { s with heap:=h',toks:=t' }:=by
 have d:∀b u,H b=some u->b≠a:=λb u e z=>by rw[z,hn]at e;cases e
 refine I.step (g':=s.gens) (d':=s.drawn) (ch:=[a]) (λb hb=>?_) (λb o _ _ hc e _=>k b o (λz=>hc (by simp[z])) e) (λb o _ _ hc e _=>⟨o.slots,k b o (λz=>hc (by simp[z])) e⟩) (λ_ _ _ _ n=>n)
  (λb o hc e=>⟨o,k b o (λz=>hc (by simp[z])) e⟩) (λ_ _ e=>e) (λ_ _ _ e=>e) (λb ps e=>⟨#[],by rw[e];simp⟩) (λm hm=>?_) (λb u e=>?_) I.bare
 ·have e:b=a:=by simpa using hb
  subst e;exact⟨h1,f,h2,h3⟩
 ·obtain⟨o,i,h,g,r⟩:=hm;exact⟨o,i,h,k _ o (Ne.symm f) g,r⟩
 ·refine(I.hok b u e).stay (λc v hc q=>k c v ?_ q) (λ_ q=>q) λ_ _ q=>q;rcases hc with z | z
  ·rw[z];exact d b u e
  ·exact d c _ z
theorem Inv.tok(I:Inv X pins σ H s)(t:Nat):Inv X pins σ H { s with toks:=t }:=I.un (h':=s.heap) (t':=t) Un.refl I.hok
theorem Inv.kept{t':Nat}(I:Inv X pins σ H s)(k:∀b u,s.heap.get? b=some u->h'.get? b=some u):Inv X pins σ H { s with heap:=h',toks:=t' }:=I.un (Un.kept k) (I.hok.kept k)
theorem Inv.laid{a:Addr}{o:HO}{t':Nat}(I:Inv X pins σ H s)(k:∀b u,s.heap.get? b=some u->h'.get? b=some u)(hp:s.heap.objs.size<=a)(new:lY X.prog X.w (upd H a o) h' a o):
  Inv X pins σ (upd H a o) { s with heap:=h',toks:=t' }:=I.un (Un.laid k hp (I.hok.fresh hp)) (I.hok.laid k hp new)
theorem Inv.write{x e:Addr}{o:HO}{t':Nat}(I:Inv X pins σ H s)(c:Mut (H x))(d:e=x\/H e=some (.own x))(k:∀b u,b≠e->s.heap.get? b=some u->h'.get? b=some u)(a:∃u,h'.get? e=some u)
  (new:lY X.prog X.w (upd H x o) h' x o):Inv X pins σ (upd H x o) { s with heap:=h',toks:=t' }:=I.un (Un.write c d k a) (I.hok.write c d k a new)
theorem Inv.tY{a:List (Addr×Obj)}(I:Inv X pins σ H s)(h:∀p∈a,s.heap.get? p.1=some p.2/\H p.1=none/\p.1≠X.env.locals/\p.1∉X.fs/\∀v,p.2.data≠.cell v):Inv X a σ H s:=
 ⟨I.ok,I.os,I.bare,I.base,I.loc,I.cell,I.free,I.sO,λp hp=>(List.mem_append.mp hp).elim (λz=>I.pin p (List.mem_append_left _ z)) (h p),I.hok,I.len⟩
theorem Z3{N:List Str}(e:N.Nodup){i j:Nat}{x:Str}(a:N[i]? =some x)(b:N[j]? =some x):i=j:=by
 obtain⟨h1,c⟩:=dX a;obtain⟨h2,d⟩:=dX b;exact(List.getElem_inj e).mp (c.trans d.symm)
theorem Zfo{M:Model}{A:Around}{E:Value->Shared->Prop}{i:Nat}{x:Str}{v:V}{u:Value}{Q:Unit->Shared->Prop}(I:Inv X pins σ H s)(Z:X.N.Nodup)(hi:X.N[i]? =some x)(hx:Loc X.env.scope x)(r:RelV v u)
  (h:∀s',Inv X pins (σ.set i (some v)) H s'->(∃a,Heap.SameBut a s.heap s'.heap/\(a=X.env.locals\/X.env.cells.lookup x=some a))->Q () s') (hf:X.fn x=true\/X.env.scope.names.lookup x=some .local:=by first | exact .inl rfl | exact .inr rfl | assumption):wpAny M A (storeName X.env x u) Q E s:=by
 obtain⟨m,hn,hl⟩:=id I.loc;have J:(X.env.scope.kind == .class || (X.env.scope.kind == .module && X.env.locals != X.env.globals))=false:=by rw[I.ok.kind];rfl
 have B:i < σ.length:=by rw[I.len];exact(dX hi).1
 have cne:=I.cne;have g:∀{a:Addr}{h':Heap},(∃o,s.heap.get? a=some o/\H a=none)->Heap.SameBut a s.heap h'->Ao X.prog X.w H h':=λ{a h'} ha hs b ob e=>by
  obtain⟨_,_,l⟩:=ha;refine(I.hok b ob e).stay (λc L hc q=>(hs.2 c ?_).trans q) (λ_ q=>q) λ_ _ q=>q;rintro rfl;rcases hc with rfl | hc
  ·rw[l]at e;cases e
  ·rw[l]at hc;cases hc
 rcases hx with hk | hk
 ·refine wpAny_storeName_local hk hn (λh' T hs=>?_) J;obtain⟨oL,_,_,S,_⟩:=id hn;refine h _ ⟨I.ok,I.os,I.bare,⟨λb o e n hb hx=>?_,λb o e n hb hx=>?_,I.base.free,λb o e hx=>?_,I.base.tups,I.base.Ge,I.base.GP⟩,⟨_,T,λj y R f t e3=>?_⟩,λy c e=>?_,I.free,I.sO,λp hp=>?_,g ⟨oL,S,I.free⟩ hs,by simpa using I.len⟩ ⟨_,hs,.inl rfl⟩
  ·exact(hs.2 b (Nat.ne_of_lt (Nat.lt_of_lt_of_le (Heap.lt_size e) I.ok.above))).trans (I.base.keep b o e n hb hx)
  ·obtain⟨sl,f⟩:=I.base.slot b o e n hb hx;exact⟨sl,(hs.2 b (Nat.ne_of_lt (Nat.lt_of_lt_of_le (Heap.lt_size e) I.ok.above))).trans f⟩
  ·obtain⟨O,f⟩:=I.base.there b o e hx;exact⟨O,(hs.2 b (Nat.ne_of_lt (Nat.lt_of_lt_of_le (Heap.lt_size e) I.ok.above))).trans f⟩
  ·by_cases hj:j=i
   ·subst hj;rw[hi]at f;cases f;rw[List.getElem?_set_self B]at t;cases t;exact⟨u,r,.inl ⟨hk,by simp⟩⟩
   ·rw[List.getElem?_set_ne (Ne.symm hj)]at t;obtain⟨U,Y,q⟩:=hl j y R f t e3;refine⟨U,Y,?_⟩;rcases q with ⟨k,e⟩ | ⟨k,c,e,z⟩
    ·refine .inl ⟨k,?_⟩;have:y≠x:=λe=>hj (Z3 Z f (e ▸ hi));simp[this,e]
    ·exact .inr ⟨k,c,e,z.sameBut hs (cne y c e)⟩
  ·obtain⟨L,z⟩:=I.cell y c e;exact⟨L,z.sameBut hs (cne y c e)⟩
  ·obtain⟨e,n,ne,P,d⟩:=I.pin p hp;exact⟨(hs.2 p.1 ne).trans e,n,ne,P,d⟩
 ·have C:X.fn x=true:=by
   rcases hf with z | z
   ·exact z
   ·rw[z]at hk;cases hk
  obtain⟨c,hc⟩:=I.ok.has x (.inl hk);obtain⟨L,z⟩:=I.cell x c hc;refine wpAny_storeName_cell I.ok.kind hk hc z (λh' K hs=>?_);obtain⟨oc,F,W⟩:=id z;refine h { s with heap:=h' } ⟨I.ok,I.os,I.bare,⟨λb o e n hb hx=>?_,λb o e n hb hx=>?_,I.base.free,λb o e hx=>?_,I.base.tups,I.base.Ge,I.base.GP⟩,⟨m,hn.sameBut hs (Ne.symm (cne x c hc)),λj y R f t e3=>?_⟩,λy c' e=>?_,I.free,I.sO,λp hp=>?_,g ⟨oc,F,I.sO x c hc⟩ hs,by simpa using I.len⟩ ⟨c,hs,.inr hc⟩
  ·exact(hs.2 b (Nat.ne_of_lt (Nat.lt_of_lt_of_le (Heap.lt_size e) (I.ok.cab x c C hc)))).trans (I.base.keep b o e n hb hx)
  ·obtain⟨sl,f⟩:=I.base.slot b o e n hb hx;exact⟨sl,(hs.2 b (Nat.ne_of_lt (Nat.lt_of_lt_of_le (Heap.lt_size e) (I.ok.cab x c C hc)))).trans f⟩
  ·obtain⟨O,f⟩:=I.base.there b o e hx;exact⟨O,(hs.2 b (Nat.ne_of_lt (Nat.lt_of_lt_of_le (Heap.lt_size e) (I.ok.cab x c C hc)))).trans f⟩
  ·by_cases hj:j=i
   ·subst hj;rw[hi]at f;cases f;rw[List.getElem?_set_self B]at t;cases t;exact⟨u,r,.inr ⟨.inl hk,c,hc,K⟩⟩
   ·rw[List.getElem?_set_ne (Ne.symm hj)]at t;obtain⟨U,Y,q⟩:=hl j y R f t e3;refine⟨U,Y,?_⟩;rcases q with q | ⟨k,c',e,z'⟩
    ·exact .inl q
    ·refine .inr ⟨k,c',e,z'.sameBut hs ?_⟩;rintro rfl;exact hj (Z3 Z f (I.ok.inj _ _ _ e hc ▸ hi))
  ·by_cases D:c'=c
   ·subst D;exact⟨_,K⟩
   ·obtain⟨w2,z2⟩:=I.cell y c' e;exact⟨w2,z2.sameBut hs D⟩
  ·obtain⟨e,n,ne,P,d⟩:=I.pin p hp;refine⟨(hs.2 p.1 ?_).trans e,n,ne,P,d⟩;intro q;rw[q,F]at e;have q':oc=p.2:=Option.some.inj e;exact d L (by rw[<- q'];exact W)
theorem GZ{M:Model}{A:Around}{E:Value->Shared->Prop}{i:Nat}{x:Str}{v:V}{u:Value}{Q:Unit->Shared->Prop}(I:Inv X pins σ H s)(a:X.N.Nodup)(hi:X.N[i]? =some x)(hx:Loc X.env.scope x)(r:RelV v u)
  (h:∀s',Inv X pins (σ.set i (some v)) H s'->Q () s') (b:X.fn x=true\/X.env.scope.names.lookup x=some .local:=by first | exact .inl rfl | exact .inr rfl | assumption):wpAny M A (storeName X.env x u) Q E s:=
 Zfo I a hi hx r (λs' c _=>h s' c) b
theorem Inv.call'{s':Shared}{ch:List Addr}(I:Inv X pins σ H s)(f:s'.os=s.os)(u:Un (frs X.stack) ch H H' s.heap s'.heap)(hok:Ao X.prog X.w H' s'.heap)(g:AllBare s'.gens)
  (a:∀b∈ch,(b∈X.ex\/X.s₀.heap.objs.size<=b)/\b≠X.env.locals/\(∀x c,X.env.cells.lookup x=some c->c≠b)/\∀p∈X.pn++pins,p.1≠b):Inv X pins σ H' s':=by
 obtain⟨h',g',d',t',d⟩:=s';have e:d=s.os:=f;subst e;exact I.call (g':=g') (t':=t') (d':=d') u hok g a
end
abbrev XK:=Value->Option Addr->Hp->Prop
abbrev St:=List (Option V)
abbrev VK:=V->Hp->Prop
abbrev TE:=St->Hp->VK->Prop
abbrev TT:=St->Hp->(Bool->Hp->Prop)->Prop
abbrev TA:=St->Hp->(List V->Hp->Prop)->Prop
structure Ends where
 nx:St->Hp->Prop
 rt:VK
 bk:St->Hp->Prop:=λ_ _=>False
 ct:St->Hp->Prop:=λ_ _=>False
abbrev TS:=Ends->St->Hp->Prop
def EP(X:Cx)(a:List (Addr×Obj))(σ:St)(Q:VK)(u:Value)(s':Shared):Prop:=∃v H',Inv X a σ H' s'/\RelV v u/\Q v H'
def TP(X:Cx)(a:List (Addr×Obj))(σ:St)(Q:Bool->Hp->Prop)(b:Bool)(s':Shared):Prop:=∃H',Inv X a σ H' s'/\Q b H'
def AP(X:Cx)(a:List (Addr×Obj))(σ:St)(Q:List V->Hp->Prop)(us:List Value)(s':Shared):Prop:=∃vs H',Inv X a σ H' s'/\Vals vs us/\Q vs H'
def SP(X:Cx)(b:List (Addr×Obj))(D:Ends)(f:Flow)(s':Shared):Prop:=
 match f with
 | .next=>∃ a H',Inv X b a H' s'/\D.nx a H'
 | .brk=>∃ a H',Inv X b a H' s'/\D.bk a H'
 | .cont=>∃ a H',Inv X b a H' s'/\D.ct a H'
 | .ret u=>∃v a H',Inv X b a H' s'/\RelV v u/\D.rt v H'
def PE(X:Cx)(e:Expr)(t:TE):Prop:=
 ∀(a:List (Addr×Obj)) (s:Shared) (σ:St) (H:Hp) (Q:VK),Inv X a σ H s->t σ H Q->wpAny (model X.prog X.w) X.A (eval e X.env) (EP X a σ Q) X.xe s
def PT(X:Cx)(e:Expr)(t:TT):Prop:=
 ∀(a:List (Addr×Obj)) (s:Shared) (σ:St) (H:Hp) (Q:Bool->Hp->Prop),Inv X a σ H s->t σ H Q->wpAny (model X.prog X.w) X.A (isTrue e X.env (eval e X.env)) (TP X a σ Q) X.xe s
def PW(X:Cx)(e:Expr)(t:TT):Prop:=
 ∀(b:Sem Value) (a:List (Addr×Obj)) (s:Shared) (σ:St) (H:Hp) (Q:Bool->Hp->Prop),Inv X a σ H s->t σ H Q->wpAny (model X.prog X.w) X.A (isTrue e X.env b) (TP X a σ Q) X.xe s
theorem PW.pt{X:Cx}{e:Expr}{t:TT}(h:PW X e t):PT X e t:=h _
def PA(X:Cx)(c:List Expr)(t:TA):Prop:=
 ∀(b:Pos) (a:List (Addr×Obj)) (s:Shared) (σ:St) (H:Hp) (Q:List V->Hp->Prop),Inv X a σ H s->t σ H Q->wpAny (model X.prog X.w) X.A (spliced (backTo b (starEach c X.env))) (AP X a σ Q) X.xe s
def PS(X:Cx)(st:Stmt)(t:TS):Prop:=
 ∀(a:List (Addr×Obj)) (s:Shared) (σ:St) (H:Hp) (D:Ends),Inv X a σ H s->t D σ H->wpAny (model X.prog X.w) X.A (exec st X.env) (SP X a D) X.xe s
def Y6(X:Cx)(st:List Stmt)(t:TS):Prop:=
 ∀(a:List (Addr×Obj)) (s:Shared) (σ:St) (H:Hp) (D:Ends),Inv X a σ H s->t D σ H->wpAny (model X.prog X.w) X.A (execs st X.env) (SP X a D) X.xe s
theorem jf{b:Type}{t:Sem b}{Q c:b->Shared->Prop}{M:Model}{A:Around}{E:Value->Shared->Prop}{s:Shared}(h:wpAny M A t Q E s)(d:∀a s,Q a s->c a s):wpAny M A t c E s:=wpAny_mono h d λ_ _ x=>x
end L2
namespace L2
open PySem PySem.Spec PyProof.Rows
section
variable {X:Cx}
def ak(i:Nat):TE:=λσ H Q=>∃v,σ[i]? =some (some v)/\Q v H
def tC(v:V):TE:=λ_ H Q=>Q v H
theorem Ziz{i:Nat}{x:Str}{f:Pos}(g:X.N[i]? =some x)(hv:Vis X.env.scope x)(hd:(x == ("__debug__":Str))=false:=by decide)(d:(x == ("__classdict__":Str))=false:=by decide):PE X (.Name x f) (ak i):=by
 intro b s σ H Q I h;obtain⟨v,e,h⟩:=h;obtain⟨m,hn,hl⟩:=I.loc;obtain⟨u,r,l⟩:=hl i x v g e hv;have fin:EP X b σ Q u s:=⟨v,H,I,r,h⟩;rcases l with ⟨hk,hm⟩ | ⟨hk,c,hc,a⟩
 ·exact wpAny_Name (wpAny_loadName_local I.ok.kind hk hn hm fin) hd
 ·rcases hk with hk | hk
  ·exact wpAny_Name (wpAny_loadName_cell I.ok.kind hk hc a fin) hd
  ·exact wpAny_Name (wpAny_loadName_free I.ok.kind hk hc a fin d) hd
theorem az{i j pos}:PE X (.Constant (.int i) j pos) (tC (.int i)):=λ_ _ _ H _ I h=>wpAny_Constant_int ⟨.int i,H,I.tok _,⟨_,rfl⟩,h⟩
theorem Eg{b j pos}:PE X (.Constant (.bool b) j pos) (tC (.bl b)):=λ_ _ _ H _ I h=>Constant_bool ⟨.bl b,H,I,rfl,h⟩
theorem eU{j pos}:PE X (.Constant .none j pos) (tC .non):=λ_ _ _ H _ I h=>Constant_none ⟨.non,H,I,rfl,h⟩
theorem bG{x j pos}:PE X (.Constant (.str x) j pos) (tC (.str x)):=λ_ _ _ H _ I h=>Calls.Constant_str ⟨.str x,H,I.tok _,⟨_,rfl⟩,h⟩
def Gl(X:Cx)(x:Str):Prop:=X.env.kindOf x=some .globalImplicit
theorem ug{E:Value->Shared->Prop}{a:List (Addr×Obj)}{s:Shared}{σ:St}{H:Hp}{x:Str}{u:Value}{b:Pos}{Q:Value->Shared->Prop}(I:Inv X a σ H s)(c:Gl X x)(hm:X.mg x=some u)(h:Q u s)
  (hd:(x == ("__debug__":Str))=false:=by decide):wpAny (model X.prog X.w) X.A (eval (.Name x b) X.env) Q E s:=
 Calls.Name_function_global I.ok.kind c (Calls.loadGlobal_global (by rw[I.ok.glob];exact I.mod.glob.keeps I.bk) hm h) hd
theorem XC{E:Value->Shared->Prop}{a:List (Addr×Obj)}{s:Shared}{σ:St}{H:Hp}{x:Str}{u:Value}{b:Pos}{Q:Value->Shared->Prop}(I:Inv X a σ H s)(c:Gl X x)(hm:X.mg x=none)(hv:bootBuiltins x=some u)(h:Q u s)
  (hn:x≠"__name__":=by decide) (hd:(x == ("__debug__":Str))=false:=by decide):wpAny (model X.prog X.w) X.A (eval (.Name x b) X.env) Q E s:=by
 obtain⟨d,h1,h2⟩:=I.mod.blt;exact Calls.Name_function_global I.ok.kind c (Calls.loadGlobal_builtin (by rw[I.ok.glob];exact I.mod.glob.keeps I.bk) hm (by rw[I.ok.blt];exact h1.keeps I.bk) ((h2 x hn).trans hv) h) hd
theorem Znf{x:Str}{v:V}{u:Value}{a:Pos}(b:Gl X x)(hm:X.mg x=some u)(r:RelV v u)(hd:(x == ("__debug__":Str))=false:=by decide):PE X (.Name x a) (tC v):=
 λ_ _ _ H _ I h=>ug I b hm ⟨v,H,I,r,h⟩ hd
variable {a b:Expr}{ta tb:TE}{pos:Pos}
def PC(X:Cx)(f:CmpOp)(a b:Expr)(t:TE):Prop:=
 ∀(c:List (Addr×Obj)) (s:Shared) (σ:St) (H:Hp) (Q:VK),Inv X c σ H s->t σ H Q->
  wpAny (model X.prog X.w) X.A (eval a X.env) (λv d=>wpAny (model X.prog X.w) X.A (eval b X.env) (λu e=>wpAny (model X.prog X.w) X.A (compareOp f v u) (EP X c σ Q) X.xe e) X.xe d) X.xe s
theorem Zjn(b:Expr){a:CmpOp}(h:a≠.In)(h2:a≠.NotIn):behindInMarks a b=false:=by
 have c:(a == CmpOp.In)=false:=by cases a<;>first | rfl | exact absurd rfl h
 have d:(a == CmpOp.NotIn)=false:=by cases a<;>first | rfl | exact absurd rfl h2
 cases b<;>simp[behindInMarks,c,d]
def tB(t:TE):TT:=λσ H Q=>t σ H λx a=>∃c,x=.bl c/\Q c a
theorem W0{f:CmpOp}{t:TE}(h:PC X f a b t)(h1:behindInMarks f b=false:=by first | exact Zjn _ (by decide) (by decide) | rfl):PT X (.Compare a [f] [b] pos) (tB t):=by
 intro e s σ H Q I hw;refine wpAny_isTrue_Compare1 (jf (h e s σ H _ I hw) λv g h1=>jf h1 λu j h2=>jf h2 λc i ⟨x,H1,I1,r1,q1⟩=>?_) h1;obtain⟨d,rfl,q⟩:=q1;cases r1;exact wpAny_truthy_bool ⟨H1,I1,q⟩
theorem oK{e:Expr}{t:TE}(h:PE X e t)(c:∀a,isTrue e X.env a=(do let v <- a;standAt e.pos;holding [v] (truthy v)):=by intro _;rfl):PT X e (tB t):=by
 intro b s σ H Q I hw;refine isTrue_plain (jf (h b s σ H _ I hw) λv f ⟨x,H1,I1,r1,q1⟩=>?_) (c _);obtain⟨d,rfl,q⟩:=q1;cases r1;exact wpAny_truthy_bool ⟨H1,I1,q⟩
variable {tA tB':TT}{rest:List Expr}
def Ng(t u:TT):TT:=λσ H Q=>t σ H λc a=>if c=true then u σ a Q else Q false a
def tOr(t u:TT):TT:=λσ H Q=>t σ H λc a=>if c=true then Q true a else u σ a Q
def VM(t:TT):TT:=λσ H Q=>t σ H λc a=>Q (!c) a
theorem zF(d:PT X a tA):PW X (.BoolOp .And [a] pos) tA:=by
 intro wh b s σ H Q I h;refine isTrue_and (jf (d b s σ H Q I h) λc f e=>?_);cases c with
 | true=>exact isTrue_and_nil e
 | false=>exact e
theorem FN(d:PT X a tA):PW X (.BoolOp .Or [a] pos) tA:=by
 intro wh b s σ H Q I h;refine isTrue_or (jf (d b s σ H Q I h) λc f e=>?_);cases c with
 | false=>exact isTrue_or_nil e
 | true=>exact e
theorem zG(f:PT X a tA)(hb:PW X (.BoolOp .And (b::rest) pos) tB'):PW X (.BoolOp .And (a::b::rest) pos) (Ng tA tB'):=by
 intro wh d s σ H Q I h;refine isTrue_and (jf (f d s σ H _ I h) λc g ⟨e,I1,q1⟩=>?_);cases c with
 | true=>exact hb wh d g σ e Q I1 q1
 | false=>exact⟨e,I1,q1⟩
theorem HD(f:PT X a tA)(hb:PW X (.BoolOp .Or (b::rest) pos) tB'):PW X (.BoolOp .Or (a::b::rest) pos) (tOr tA tB'):=by
 intro wh d s σ H Q I h;refine isTrue_or (jf (f d s σ H _ I h) λc g ⟨e,I1,q1⟩=>?_);cases c with
 | true=>exact⟨e,I1,q1⟩
 | false=>exact hb wh d g σ e Q I1 q1
theorem FP(d:PT X a tA):PT X (.UnaryOp .Not a pos) (VM tA):=by
 intro b s σ H Q I h;exact isTrue_not (d b s σ H (λc e=>Q (!c) e) I h)
def Zem(ta tb:TE):TE:=λσ H Q=>ta σ H λx a=>∃c,x=.bl c/\if c=true then tb σ a Q else Q (.bl false) a
def Zi6(ta:TE):TE:=λσ H Q=>ta σ H λx a=>∃c,x=.bl c/\Q (.bl (!c)) a
theorem Zj2{op}{t:TE}(h:PE X a t):PE X (.BoolOp op [a] pos) t:=λb s σ H Q I hw=>BoolOp_one (h b s σ H Q I hw)
theorem Zj8(f:PE X a ta)(hb:PE X (.BoolOp .And (b::rest) pos) tb):PE X (.BoolOp .And (a::b::rest) pos) (Zem ta tb):=by
 intro d s σ H Q I h;refine BoolOp_and (jf (f d s σ H _ I h) λv g ⟨x,H1,I1,r1,e⟩=>?_);obtain⟨c,rfl,e⟩:=e;cases r1;refine wpAny_truthy_bool ?_;cases c with
 | true=>exact hb d g σ H1 Q I1 e
 | false=>exact⟨.bl false,H1,I1,rfl,e⟩
theorem Zqm(e:PE X a ta):PE X (.UnaryOp .Not a pos) (Zi6 ta):=by
 intro b s σ H Q I h;refine UnaryOp_ (jf (e b s σ H _ I h) λv f ⟨x,H1,I1,r1,d⟩=>?_);obtain⟨c,rfl,d⟩:=d;cases r1;exact not_of (wpAny_truthy_bool ⟨.bl (!c),H1,I1,rfl,d⟩)
def tIf(t:TT)(ta tb:TE):TE:=λσ H Q=>t σ H λc a=>if c=true then ta σ a Q else tb σ a Q
theorem Zx{c:Expr}(hc:PT X c tA)(i:PE X a ta)(hb:PE X b tb):PE X (.IfExp c a b pos) (tIf tA ta tb):=by
 intro e s σ H Q I h;refine wpAny_IfExp (jf (hc e s σ H _ I h) λd g ⟨f,I1,q1⟩=>?_);cases d with
 | true=>exact i e g σ f Q I1 q1
 | false=>exact hb e g σ f Q I1 q1
end
end L2
namespace L2
open PySem PySem.Spec PyProof.Rows
def cV(K:aC)(H:Hp)(a:Addr)(xs:List V):Prop:=
 Rd H a (.lst xs)\/
  ∃(o:Obj) (b:Array Value) (n:Nat),K.lookup a=some o/\o.cls=.type "list"/\o.dict=none/\o.data=.seq b n/\b.size<=sizeLine/\Vals xs b.toList
def je(K:aC)(H:Hp)(a:Addr)(xs:List V):Prop:=
 Rd H a (.tup xs)\/
  ∃(o:Obj) (b:Array Value) (n:Nat),K.lookup a=some o/\o.cls=.type "tuple"/\o.data=.seq b n/\b.size<=sizeLine/\Vals xs b.toList
def ZCo:Value->Option V
 | .none=>some .non
 | .bool b=>some (.bl b)
 | .int i _=>some (.int i)
 | .str x _=>some (.str x)
 | .bytes b _=>some (.byt b)
 | .float b _=>some (.flt b)
 | .ref a=>some (.ref a)
 | .type n=>some (.ty n)
 | _=>none
theorem RelV.abs{x:V}{u:Value}(r:RelV x u):ZCo u=some x:=by
 cases x with
 | non=>cases r;rfl
 | bl _=>cases r;rfl
 | int _=>obtain⟨t,rfl⟩:=r;rfl
 | str _=>obtain⟨t,rfl⟩:=r;rfl
 | byt _=>obtain⟨t,rfl⟩:=r;rfl
 | flt _=>obtain⟨t,rfl⟩:=r;rfl
 | ref _=>cases r;rfl
 | ty _=>cases r;rfl
theorem RelV.inj{x y:V}{u:Value}(r:RelV x u)(q:RelV y u):x=y:=Option.some.inj (r.abs.symm.trans q.abs)
theorem Vals.inj:∀{xs a:List V}{us:List Value},Vals xs us->Vals a us->xs=a
 | _,_,_,.nil,.nil=>rfl
 | _,_,_,.cons r t,.cons b t'=>by rw[r.inj b,Vals.inj t t']
section
variable {X:Cx}{pins:List (Addr×Obj)}{σ:St}{H:Hp}{s:Shared}{a:Addr}{xs ys:List V}
theorem cV.of{K:aC}(h:H a=some (.lst xs)):cV K H a xs:=.inl (.inl h)
theorem je.of{K:aC}(h:H a=some (.tup xs)):je K H a xs:=.inl (.inl h)
theorem Inv.list(I:Inv X pins σ H s)(h:cV X.K H a xs):∃b:List Value,Vals xs b/\PlainL s.heap a b.toArray/\xs.length<=sizeLine:=by
 rcases h with h | ⟨o,b,n,hk,hc,hd,hs,hz,r⟩
 ·obtain⟨z,b,n,r,e⟩:=h.ok I.hok;exact⟨b,r,⟨_,n,e,rfl,rfl,rfl⟩,z⟩
 ·refine⟨b.toList,r,⟨o,n,I.Oj a o hk,hc,hd,by simpa using hs⟩,?_⟩;have e:=r.length;simp only[Array.length_toList]at e;omega
theorem Inv.tuple(I:Inv X pins σ H s)(h:je X.K H a xs):∃b:List Value,Vals xs b/\IsTup s.heap a b.toArray/\xs.length<=sizeLine:=by
 rcases h with h | ⟨o,b,n,hk,hc,hs,hz,r⟩
 ·obtain⟨z,b,r,p⟩:=h.ok I.hok;exact⟨b,r,p,z⟩
 ·refine⟨b.toList,r,⟨o,I.Oj a o hk,hc,n,by simpa using hs⟩,?_⟩;have e:=r.length;simp only[Array.length_toList]at e;omega
theorem Inv.Za4(I:Inv X pins σ H s)(h:cV X.K H a xs)(h':cV X.K H a ys):xs=ys:=by
 obtain⟨b,r,⟨o,n,e,_,_,d⟩,_⟩:=I.list h;obtain⟨its',f,⟨i,j,c,_,_,d'⟩,_⟩:=I.list h';rw[e]at c;cases c;rw[d]at d'
 injection d' with g _
 have:b=its':=by simpa using congrArg Array.toList g
 subst this;exact r.inj f
end
abbrev Cx.wish(X:Cx)(E:Value->Shared->Prop):Cx:={ X with xe:=E }
abbrev Cx.nox(X:Cx):Cx:=X.wish λ_ _=>False
theorem Cx.Ok.wish{X:Cx}(ok:X.Ok)(E:Value->Shared->Prop):(X.wish E).Ok:=
 ⟨ok.mod,ok.kind,ok.glob,ok.blt,ok.above,ok.inj,ok.has,ok.cab,ok.hd,ok.frames,ok.stk,ok.exf,ok.bs,ok.bsz,ok.S6,ok.Zag,ok.yo,ok.frf⟩
theorem Cx.Ok.Aw{X:Cx}{E:Value->Shared->Prop}(ok:(X.wish E).Ok):X.Ok:=
 ⟨ok.mod,ok.kind,ok.glob,ok.blt,ok.above,ok.inj,ok.has,ok.cab,ok.hd,ok.frames,ok.stk,ok.exf,ok.bs,ok.bsz,ok.S6,ok.Zag,ok.yo,ok.frf⟩
section
variable {X:Cx}{pins:List (Addr×Obj)}{σ:St}{H:Hp}{s:Shared}{E:Value->Shared->Prop}
theorem Inv.wish(I:Inv X pins σ H s)(E:Value->Shared->Prop):Inv (X.wish E) pins σ H s:=⟨I.ok.wish E,I.os,I.bare,I.base,I.loc,I.cell,I.free,I.sO,I.pin,I.hok,I.len⟩
theorem Inv.Aw(I:Inv (X.wish E) pins σ H s):Inv X pins σ H s:=⟨I.ok.Aw,I.os,I.bare,I.base,I.loc,I.cell,I.free,I.sO,I.pin,I.hok,I.len⟩
theorem SP.Aw{D:Ends}{f:Flow}{s':Shared}(h:SP (X.wish E) pins D f s'):SP X pins D f s':=by
 cases f with
 | next=>obtain⟨a,H',I,q⟩:=h;exact⟨a,H',I.Aw,q⟩
 | brk=>obtain⟨a,H',I,q⟩:=h;exact⟨a,H',I.Aw,q⟩
 | cont=>obtain⟨a,H',I,q⟩:=h;exact⟨a,H',I.Aw,q⟩
 | ret u=>obtain⟨v,a,H',I,r,q⟩:=h;exact⟨v,a,H',I.Aw,r,q⟩
theorem Y6.nox{st:List Stmt}{t:TS}(h:Y6 X.nox st t):Y6 X st t:=λpins s σ H D I hw=>
 wpAny_mono (h pins s σ H D (I.wish _) hw) (λ_ _ q=>q.Aw) λ_ _ z=>False.elim z
end
section
variable {X:Cx}{st:Stmt}{rest:List Stmt}{t u:TS}{e:Expr}{te:TE}{pos:Pos}
def cR:TS:=λD σ H=>D.nx σ H
def aN(t u:TS):TS:=λD σ H=>t { D with nx:=u D } σ H
theorem bH:Y6 X [] cR:=λ_ _ σ H _ I h=>wpAny_execs_nil ⟨σ,H,I,h⟩
theorem ao(h1:PS X st t)(h2:Y6 X rest u):Y6 X (st::rest) (aN t u):=by
 intro a s σ H D I h;refine wpAny_execs_cons (jf (h1 a s σ H { D with nx:=u D } I h) λf d q=>?_);cases f with
 | next=>
  obtain⟨b,H',c,q⟩:=q;exact h2 a d b H' D c q
 | ret v=>exact q
 | brk=>exact q
 | cont=>exact q
theorem aA(h1:PS X st t):Y6 X [st] t:=by
 intro a s σ H D I h;refine wpAny_execs_cons (jf (h1 a s σ H D I h) λf b q=>?_);cases f with
 | next=>exact wpAny_execs_nil q
 | ret v=>exact q
 | brk=>exact q
 | cont=>exact q
theorem Inv.quiet{a:List (Addr×Obj)}{σ:St}{H:Hp}{s:Shared}(I:Inv X a σ H s):interactive X.env=false:=by simp[interactive,I.ok.kind]
def vh(te:TE):TS:=λD σ H=>te σ H λ_ a=>D.nx σ a
theorem qm(b:PE X e te)(hs:swapsWith e none pos.line X.env=pure false:=by rfl):PS X (.Expr e pos) (vh te):=by
 intro a s σ H D I h;exact wpAny_Expr_any (jf (b a s σ H _ I h) λv c ⟨x,H1,I1,r1,q1⟩=>⟨σ,H1,I1,q1⟩) I.quiet hs
def bN(te:TE):TS:=λD σ H=>te σ H D.rt
theorem aO(b:PE X e te):PS X (.Return (some e) pos) (bN te):=by
 intro a s σ H D I h;exact wpAny_Return_some (jf (b a s σ H _ I h) λv c ⟨x,H1,I1,r1,q1⟩=>⟨x,σ,H1,I1,r1,q1⟩)
def fG(c:TT)(t u:TS):TS:=λD σ H=>c σ H λb a=>if b=true then t D σ a else u D σ a
theorem cX{c:Expr}{a b:List Stmt}{tc:TT}(hc:PT X c tc)(i:Y6 X a t)(hb:Y6 X b u):PS X (.If c a b pos) (fG tc t u):=by
 intro e s σ H D I h;refine wpAny_If (jf (hc e s σ H _ I h) λd f ⟨g,I1,q1⟩=>?_);cases d with
 | true=>exact i e f σ g D I1 q1
 | false=>exact hb e f σ g D I1 q1
end
abbrev TG:=V->St->Hp->(St->Hp->Prop)->Prop
abbrev TGs:=List V->St->Hp->(St->Hp->Prop)->Prop
def PG(X:Cx)(a:Expr)(t:TG):Prop:=
 ∀(b:List (Addr×Obj)) (s:Shared) (σ:St) (H:Hp) (v:V) (u:Value) (Q:St->Hp->Prop),Inv X b σ H s->RelV v u->t v σ H Q->
  wpAny (model X.prog X.w) X.A (assign a X.env u) (λ_ s'=>∃ c H',Inv X b c H' s'/\Q c H') X.xe s
def PGs(X:Cx)(ts:List Expr)(t:TGs):Prop:=
 ∀(a:List (Addr×Obj)) (s:Shared) (σ:St) (H:Hp) (vs:List V) (us:List Value) (Q:St->Hp->Prop),Inv X a σ H s->Vals vs us->t vs σ H Q->
  wpAny (model X.prog X.w) X.A (assignInOrder ((assignEach ts X.env).map (·.2)) us) (λ_ s'=>∃ b H',Inv X a b H' s'/\Q b H') X.xe s
abbrev Zpd:=V->V->V->Hp->(Hp->Prop)->Prop
def Zut(X:Cx)(t:Zpd):Prop:=
 ∀(a:List (Addr×Obj)) (s:Shared) (σ:St) (H:Hp) (o i v:V) (b c u:Value) (Q:Hp->Prop),Inv X a σ H s->RelV o b->RelV i c->RelV v u->t o i v H Q->
  wpAny (model X.prog X.w) X.A (setItem b c u) (λ_ s'=>∃H',Inv X a σ H' s'/\Q H') X.xe s
abbrev TIp:=V->V->Hp->VK->Prop
def PIp(X:Cx)(b:Operator)(t:TIp):Prop:=
 ∀(a:List (Addr×Obj)) (s:Shared) (σ:St) (H:Hp) (x y:V) (v u:Value) (Q:VK),Inv X a σ H s->RelV x v->RelV y u->t x y H Q->
  wpAny (model X.prog X.w) X.A (inplaceOp b v u) (EP X a σ Q) X.xe s
section
variable {X:Cx}{pos:Pos}
def aM(i:Nat):TG:=λv σ H Q=>Q (σ.set i (some v)) H
theorem fK{i:Nat}{x:Str}(b:X.N.Nodup)(hi:X.N[i]? =some x)(hx:Loc X.env.scope x)(c:X.fn x=true\/X.env.scope.names.lookup x=some .local:=by first | exact .inl rfl | exact .inr rfl | assumption):PG X (.Name x pos) (aM i):=by
 intro a s σ H v u Q I r h;exact wpAny_assign_Name (GZ I b hi hx r (λs' d=>⟨_,H,d,h⟩) c)
def Zlb:TGs:=λvs σ H Q=>vs=[]/\Q σ H
def Jc(t:TG)(u:TGs):TGs:=λvs σ H Q=>∃v r,vs=v::r/\t v σ H λa H'=>u r a H' Q
theorem Ob:PGs X [] Zlb:=by
 intro a s σ H vs us Q I r h;obtain⟨e,h⟩:=h;subst e;cases r;exact assignInOrder_nil ⟨σ,H,I,h⟩
theorem sG{e:Expr}{b:List Expr}{t:TG}{u:TGs}(h1:PG X e t)(h2:PGs X b u)
  (hs:(assignEach (e::b) X.env).map (·.2)=assign e X.env::(assignEach b X.env).map (·.2):=by rfl):PGs X (e::b) (Jc t u):=by
 intro a s σ H vs us Q I r h;obtain⟨v,i,d,h⟩:=h;subst d;cases r with
 | cons r g=>
  rw[hs];refine assignInOrder_cons (jf (h1 a s σ H _ _ _ I r h) λ_ f ⟨c,H1,I1,q1⟩=>?_);exact h2 a f c H1 _ _ Q I1 g q1
def Zla(K:aC)(n:Nat)(t:TGs):TG:=λv σ H Q=>∃a xs,v=.ref a/\je K H a xs/\xs.length=n/\t xs σ H Q
theorem W3{d:List Expr}{k:Nat}{t:TGs}{n:Nat}(hc:X.calm=true)(h:PGs X d t)
  (hn:(assignEach d X.env).length=n:=by rfl) (f:(assignEach d X.env).findIdx? (·.1)=none:=by rfl):PG X (.Tuple d k pos) (Zla X.K n t):=by
 intro c s σ H v u Q I r hw;obtain⟨a,xs,i,hq,hl,hw⟩:=hw;subst i;cases r;obtain⟨j,g,m,hz⟩:=I.tuple hq;refine assign_Tuple_tuple (I.ok.hd hc) m (by simp[hn,<- hl,g.length]) f λh' hx=>?_;have l:Inv X c σ H { s with heap:=h' }:=I.kept (t':=s.toks) λb o e=>hx b o (Nat.ne_of_lt (Heap.lt_size e)) e;exact h c _ σ H xs _ Q l (by simpa using g) hw
def Q5(to b:TE)(t:Zpd):TG:=λv σ H Q=>to σ H λo d=>b σ d λi c=>t o i v c λa=>Q σ a
theorem zJ{o i:Expr}{to d:TE}{t:Zpd}(e:PE X o to)(hi:PE X i d)(hs:Zut X t)
  (k:∀v,assign (.Subscript o i pos) X.env v=(do
   let b <- holding [v] (eval o X.env)
   let c <- holding [v,b] (eval i X.env)
   standAt pos
   holding [v,b,c] (setItem b c v)
   release [v,b,c] []):=by intro _;rfl):PG X (.Subscript o i pos) (Q5 to d t):=by
 intro a s σ H v u Q I r h;rw[k];refine wpAny_bind (wpAny_holding (jf (e a s σ H _ I h) λb f ⟨x,H1,I1,r1,q1⟩=>?_));refine wpAny_bind (wpAny_holding (jf (hi a f σ H1 _ I1 q1) λc j ⟨y,H2,I2,r2,q2⟩=>?_));refine wpAny_bind (wpAny_standAt (wpAny_bind (wpAny_holding (jf (hs a j σ H2 x y v b c u _ I2 r1 r2 r q2) λ_ l ⟨g,I3,q3⟩=>?_))));exact wpAny_release ⟨σ,g,I3,q3⟩
def bD(a:TE)(g:TG):TS:=λD σ H=>a σ H λx b=>g x σ b D.nx
theorem zH{tg e:Expr}{b:TE}{g:TG}(f:PE X e b)(d:PG X tg g)(hs:swapsWithSole [tg] e pos.line X.env=pure false:=by rfl)(hw:swappedStores [tg] e X.env=pure none:=by rfl)
  (h1:(assignEach [tg] X.env).map (·.2)=[assign tg X.env]:=by rfl):PS X (.Assign [tg] e pos) (bD b g):=by
 intro a s σ H D I h;refine wpAny_Assign_stores (jf (f a s σ H _ I h) λv c ⟨x,H1,I1,r1,q1⟩=>?_) hs hw;rw[h1];exact jf (d a c σ H1 x v _ I1 r1 q1) λ_ i q=>q
theorem Qa{i:Nat}{x:Str}{e:Expr}{c:TE}{a:Pos}(d:X.N.Nodup)(hi:X.N[i]? =some x)(hx:Loc X.env.scope x)(j:PE X e c)(hs:swapsWith e (some (.Name x a)) pos.line X.env=pure false:=by rfl)(f:X.fn x=true\/X.env.scope.names.lookup x=some .local:=by first | exact .inl rfl | exact .inr rfl | assumption):
  PS X (.Assign [.Name x a] e pos) (bD c (aM i)):=by
 intro b s σ H D I h;refine wpAny_Assign_Name (jf (j b s σ H _ I h) λv k ⟨y,H1,I1,r1,q1⟩=>?_) hs;exact GZ I1 d hi hx r1 (λl g=>⟨_,H1,g,q1⟩) f
def Zq8(i:Nat)(b:TE)(a:TIp):TS:=λD σ H=>∃x,σ[i]? =some (some x)/\b σ H λy d=>a x y d λz c=>D.nx (σ.set i (some z)) c
theorem Zql{i:Nat}{x:Str}{e:Expr}{o:TE}{j:Operator}{p:TIp}{g:Pos}(C:X.N.Nodup)(hi:X.N[i]? =some x)(hx:Loc X.env.scope x)(J:PE X e o)(t:PIp X j p)(E:X.fn x=true\/X.env.scope.names.lookup x=some .local:=by first | exact .inl rfl | exact .inr rfl | assumption):
  PS X (.AugAssign (.Name x g) j e pos) (Zq8 i o p):=by
 intro a s σ H D I h;obtain⟨v,q,h⟩:=h;obtain⟨m,hn,hl⟩:=I.loc;have n:Vis X.env.scope x:=by rcases hx with k | k;exact .inl k;exact .inr (.inl k)
 obtain⟨u,r,l⟩:=hl i x v hi q n;refine wpAny_AugAssign_Name ?_;have go:wpAny (model X.prog X.w) X.A (eval e X.env) (λw f=>wpAny (model X.prog X.w) X.A (inplaceOp j u w) (λr d=>wpAny (model X.prog X.w) X.A (storeName X.env x r) (λ_=>SP X a D .next) X.xe d) X.xe f) X.xe s:=by
  refine jf (J a s σ H _ I h) λw B ⟨y,H1,I1,r1,q1⟩=>?_;refine jf (t a B σ H1 v y u w _ I1 r r1 q1) λz M ⟨K,H2,I2,r2,q2⟩=>?_;exact GZ I2 C hi hx r2 (λL F=>⟨_,H2,F,q2⟩) E
 rcases l with ⟨hk,hm⟩ | ⟨hk,c,hc,b⟩
 ·exact wpAny_loadName_local I.ok.kind hk hn hm go
 ·rcases hk with hk | hk
  ·exact wpAny_loadName_cell I.ok.kind hk hc b go
  ·rcases hx with k | k
   ·have:X.env.scope.names.lookup x=some .free:=hk;rw[k]at this;cases this
   ·have:X.env.scope.names.lookup x=some .free:=hk;rw[k]at this;cases this
def ipI(f:Int->Int->Int):TIp:=λx y H Q=>∃i j,x=.int i/\y=.int j/\Q (.int (f i j)) H
theorem Zri:PIp X .Add (ipI λi j=>i+j):=by
 intro a s σ H x y v u Q I e c h;obtain⟨i,j,b,d,q⟩:=h;subst b;subst d;obtain⟨t,rfl⟩:=e;obtain⟨t',rfl⟩:=c;exact iadd_int ⟨.int _,H,I.tok _,⟨_,rfl⟩,q⟩
end
section
variable {X:Cx}{pos:Pos}
def Zbe(c:TT)(f:TS):TS:=λD σ H=>∃W:Nat->St->Hp->Prop,(∃m,W m σ H)/\∀m σ H,W m σ H->
 c σ H λb e=>if b=true then ∃N:St->Hp->Prop,(∀ a H',N a H'->∃d,d<m/\W d a H')/\f { D with nx:=N,ct:=N,bk:=D.nx } σ e else D.nx σ e
theorem Zv{c:Expr}{g:List Stmt}{tc:TT}{t:TS}(hp:PassesOwn (model X.prog X.w) X.A X.env X.xe)(hc:PT X c tc)(hb:Y6 X g t):PS X (.While c g [] pos) (Zbe tc t):=by
 intro a s σ H D I h;obtain⟨W,⟨z,w0⟩,turn⟩:=h;refine wpAny_While (codeAny_whileLoop (λn s'=>∃ i H',Inv X a i H' s'/\W n i H') ?_ z ⟨σ,H,I,w0⟩);rintro n x ⟨e,r,y,u⟩;refine wpAny_passesOwn hp (jf (hc a x e r _ y (turn n e r u)) λb B ⟨q,I2,l⟩=>?_);cases b with
 | true=>
  obtain⟨N,p,l⟩:=l;rw[if_pos rfl];refine wpAny_passesOwn hp (jf (hb a B e q _ I2 l) λf C k=>?_);cases f with
  | next=>
   obtain⟨d,j,o,n3⟩:=k;obtain⟨m,hm,w3⟩:=p d j n3;exact⟨m,hm,d,j,o,w3⟩
  | cont=>
   obtain⟨d,j,o,n3⟩:=k;obtain⟨m,hm,w3⟩:=p d j n3;exact⟨m,hm,d,j,o,w3⟩
  | brk=>exact k
  | ret v=>exact k
 | false=>
  rw[if_neg Bool.false_ne_true];exact wpAny_execs_nil ⟨e,q,I2,l⟩
end
structure It where
 go:Nat->Hp->Prop
 yld:Nat->Hp->V->Hp->Prop
 stop:Nat->Hp->Prop
def qO(X:Cx)(a:List (Addr×Obj))(H:Hp)(b:Addr):Prop:=
 H b=none/\b≠X.env.locals/\b∉X.fs/\(b∈X.ex\/X.s₀.heap.objs.size<=b)/\(∀x c,X.env.cells.lookup x=some c->c≠b)/\∀p∈X.pn++a,p.1≠b
theorem Inv.Zab{X:Cx}{a:List (Addr×Obj)}{σ:St}{H H':Hp}{s:Shared}{b:Addr}(I:Inv X a σ H s)(hb:s.heap.objs.size<=b)(hn:H' b=none):qO X a H' b:=by
 refine⟨hn,Nat.ne_of_gt (Nat.lt_of_lt_of_le I.lt hb),I.Zv6 hb,.inr (Nat.le_trans I.sz hb),λx c e z=>?_,λp hp z=>?_⟩
 ·obtain⟨v,q⟩:=I.cell x c e;exact absurd (Nat.lt_of_lt_of_le q.lt (by rw[z];exact hb)) (Nat.lt_irrefl _)
 ·exact absurd (Nat.lt_of_lt_of_le (Heap.lt_size (I.pin p hp).1) (by rw[z];exact hb)) (Nat.lt_irrefl _)
structure Turn(P:Program)(w:World)(K:aC)(tg:Expr)(J:It)(fp:List Addr)(it:Addr)(tn:Nat->Heap->Prop):Prop where
  mem:it∈fp
  obj:∀i h,tn i h->∀b∈fp,∃o,h.get? b=some o/\∀v,o.data≠.cell v
  keep:∀i h h',tn i h->(∀b∈fp,∀o,h.get? b=some o->h'.get? b=some o)->tn i h'
  item:∀(X:Cx),X.prog=P->X.w=w->X.K=K->X.calm=true->∀(i:Nat) (pins:List (Addr×Obj)) (s:Shared) (σ:St) (H:Hp) (E:Value->Shared->Prop),Inv X pins σ H s->(∀b∈fp,qO X pins H b)->tn i s.heap->J.go i H->
    wpAny (model P w) X.A (pyNext (.ref it)) (λr s1=>∃u,r=some u/\
      wpAny (model P w) X.A (letOwnedTupleGo tg (.ref it) u) (λ_ s2=>∃x H',Inv X pins σ H' s2/\RelV x u/\J.yld i H x H'/\tn (i+1) s2.heap/\∀b∈fp,H' b=none) E s1) E s
  done:∀(X:Cx),X.prog=P->X.w=w->X.K=K->X.calm=true->∀(i:Nat) (pins:List (Addr×Obj)) (s:Shared) (σ:St) (H:Hp) (E:Value->Shared->Prop),Inv X pins σ H s->(∀b∈fp,qO X pins H b)->tn i s.heap->J.stop i H->
    wpAny (model P w) X.A (pyNext (.ref it)) (λr s1=>r=none/\Inv X pins σ H s1) E s
  self:∀(A:Around) (i:Nat) (s:Shared) (Q:Value->Shared->Prop) (E:Value->Shared->Prop),tn i s.heap->Q (.ref it) s->wpAny (model P w) A (pyIter (.ref it)) Q E s
abbrev TI:=St->Hp->(It->Hp->Prop)->Prop
def PIE(X:Cx)(a:List (Addr×Obj))(σ:St)(tg:Expr)(R:It->Hp->Prop)(c:Value)(e:Shared):Prop:=
 ∃(d:Addr) (f:List Addr) (tn:Nat->Heap->Prop) (J:It) (H':Hp),c=.ref d/\Inv X a σ H' e/\Turn X.prog X.w X.K tg J f d tn/\tn 0 e.heap/\(∀b∈f,qO X a H' b)/\R J H'
def PI(X:Cx)(tg iter:Expr)(c:TI):Prop:=
 ∀(a:List (Addr×Obj)) (s:Shared) (σ:St) (H:Hp) (R:It->Hp->Prop),Inv X a σ H s->c σ H R->
  wpAny (model X.prog X.w) X.A (eval iter X.env) (λv b=>wpAny (model X.prog X.w) X.A (pyIter v) (PIE X a σ tg R) X.xe b) X.xe s
theorem Zl8{M:Model}{A:Around}{E:Value->Shared->Prop}{s:Shared}{tg:Expr}{b:Addr}{u:Value}{o:Obj}{n:String}{vs:Array Value}{Q:Unit->Shared->Prop}(c:s.heap.get? b=some o)(hc:o.cls=.type n)(hd:o.data=.fields vs)
    (hn:["enumerate","zip","dict_itemiterator","dict_reverseitemiterator","odict_iterator","itertools.zip_longest","itertools.pairwise"].contains n=false) (a:Q () s):wpAny M A (letOwnedTupleGo tg (.ref b) u) Q E s:=by
  unfold letOwnedTupleGo;cases tg<;>first
    | exact wpAny_pure a
    | (cases u<;>first
        | exact wpAny_pure a
        | (refine wpAny_bind (wpAny_load c ?_)
           rw[hc,hd];show wpAny M A (if (["enumerate","zip","dict_itemiterator","dict_reverseitemiterator","odict_iterator","itertools.zip_longest","itertools.pairwise"].contains n && vs[0]? == some (rawInt _))=true then _ else _) Q E s;rw[if_neg (by intro h;rw[hn,Bool.false_and]at h;cases h)];exact wpAny_pure a))
def Itl(K:aC)(a:Addr):It:=
 ⟨λi H=>∃xs x,cV K H a xs/\xs[i]? =some x,λi H x H'=>H'=H/\∀xs,cV K H a xs->xs[i]? =some x,λi H=>∃xs,cV K H a xs/\xs.length<=i⟩
def Itr(lo:Int)(n:Nat):It:=⟨λi _=>i<n,λi H x H'=>H'=H/\x=.int (lo+i),λi _=>n<=i⟩
theorem Zfj{P:Program}{w:World}{K:aC}{tg:Expr}(a g:Addr):Turn P w K tg (Itl K a) [g] g (λi h=>h.IsListIter g a i) where
  mem:=by simp
  obj:=λi h st b hb=>by
    have e:b=g:=by simpa using hb
    subst e;obtain⟨o,e,c,d⟩:=st;exact⟨o,e,λv z=>by rw[d]at z;cases z⟩
  keep:=λi h h' st k=>st.at λo e=>k g (by simp) o e
  item:=by
    intro X r hw n hc i f s σ H E I l st A;subst r hw n;obtain⟨xs,x,hq,hx⟩:=A;obtain⟨q,B,p,hz⟩:=I.list hq;obtain⟨u,hu,M⟩:=B.get hx;obtain⟨C,t,L,m,D,y⟩:=l g (by simp);refine wpAny_pyNext_list_item st p.isList (x:=u) (by simpa using hu) λh' j sb=>?_;have F:Inv X f σ H { s with heap:=h' }:=I.turned (t':=s.toks) (λb o hb e=>(sb.2 b hb).trans e) C t m D y;obtain⟨o,e,c,d⟩:=id j;exact⟨u,rfl,Zl8 (s:={ s with heap:=h' }) e c d (by decide) ⟨x,H,F,M,⟨rfl,λN hy=>by rw[I.Za4 hy hq];exact hx⟩,j,λb hb=>(l b hb).1⟩⟩
  done:=by
    intro X r hw n hc i f s σ H E I l st A;subst r hw n;obtain⟨xs,hq,hx⟩:=A;obtain⟨q,B,p,hz⟩:=I.list hq;obtain⟨C,t,L,m,D,y⟩:=l g (by simp);have hl:=B.length;exact wpAny_pyNext_list_end (I.ok.hd hc) st p.isList (by simp;omega) λh' J=>⟨rfl,I.turned (t':=s.toks) (λb o hb e=>J b o hb e) C t m D y⟩
  self:=λ_ _ _ _ _ st h=>wpAny_pyIter_listiter st h
theorem Zba{P:Program}{w:World}{K:aC}{tg:Expr}(a:Addr)(lo:Int)(n:Nat):Turn P w K tg (Itr lo n) [a] a (λi h=>IsRangeIter h a (lo+(i:Nat) * 1) ((n:Int) - (i:Nat)) 1) where
  mem:=by simp
  obj:=λi h st b hb=>by
    have e:b=a:=by simpa using hb
    subst e;exact⟨_,st,λv z=>by
      have B:Data.fields _=Data.cell v:=z;cases B⟩
  keep:=λi h h' st k=>k a (by simp) _ st
  item:=by
    intro X l hw j hc i c s σ H E I f st p;subst l hw j;obtain⟨q,u,A,g,r,m⟩:=f a (by simp);have W:=Walks.range (prog:=X.prog) (w:=X.w) (I.ok.hd hc) a lo 1 n;refine W.item i s _ _ p st λv h' tk hv d kk=>?_;obtain⟨t,rfl⟩:=hv;have x:Inv X c σ H { s with heap:=h',toks:=tk }:=I.turned (λb o hb e=>kk b o (by simpa using hb) e) q u g r m;refine⟨_,rfl,Zl8 (s:={ s with heap:=h',toks:=tk }) (n:="range_iterator") d rfl rfl (by decide) ⟨.int (lo+i),H,x,⟨t,?_⟩,⟨rfl,rfl⟩,d,λb hb=>(f b hb).1⟩⟩;rw[Int.mul_one]
  done:=by
    intro X l hw j hc i c s σ H E I f st p;subst l hw j;obtain⟨q,u,A,g,r,m⟩:=f a (by simp);exact wpAny_pyNext_range_end (I.ok.hd hc) st (by have:n<=i:=p;omega) λh' y=>⟨rfl,I.turned (t':=s.toks) (λb o hb e=>y b o hb e) q u g r m⟩
  self:=λ_ _ _ _ _ st h=>wpAny_pyIter_rangeiter st h
end L2
namespace L2
open PySem PySem.Spec PyProof.Rows
section
variable {X:Cx}{tg:Expr}
def nZ(K:aC)(tl:TE):TI:=λσ H R=>tl σ H λx b=>∃a,x=.ref a/\(∃xs,cV K b a xs)/\R (Itl K a) b
theorem jk{l:Expr}{tl:TE}(hl:PE X l tl):PI X tg l (nZ X.K tl):=by
 intro c s σ H R I h;refine jf (hl c s σ H _ I h) λv d ⟨x,H1,I1,r1,q1⟩=>?_;obtain⟨a,e,⟨xs,hq⟩,q⟩:=q1;subst e;cases r1;obtain⟨f,g,p,hz⟩:=I1.list hq;refine wpAny_pyIter_list p.isList ?_;refine⟨d.heap.objs.size,[d.heap.objs.size],_,_,H1,rfl,I1.kept (t':=d.toks) λb o e=>Heap.get?_push_of_some _ e,Zfj a _,⟨_,Heap.get?_push_size _ rfl,rfl,rfl⟩,λb hb=>?_,q⟩;have e:b=d.heap.objs.size:=by simpa using hb
 subst e;exact I1.Zab (Nat.le_refl _) (I1.hok.fresh (Nat.le_refl _))
theorem Zik{a:List (Addr×Obj)}{σ:St}{H:Hp}{s:Shared}{R:It->Hp->Prop}{E:Value->Shared->Prop}{lo hi:Int}{t u v:Tok}{tk:Nat}(I:Inv X a σ H s)(h1:-(2 ^ 62)<=lo)(h2:lo<2 ^ 62)(h3:-(2 ^ 62)<=hi)(h4:hi<2 ^ 62)
  (q:R (Itr lo (hi - lo).toNat) H):wpAny (model X.prog X.w) X.A (pyIter (.ref s.heap.objs.size)) (PIE X a σ tg R) E { s with heap:=s.heap.push { cls:=.type "range",data:=.fields #[.int lo t,.int hi u,.int 1 v] },toks:=tk }:=by
 refine wpAny_pyIter_range (IsRange.new ..) (small_one h1 h2 h3 h4) ?_;have c:Inv X a σ H { s with heap:=s.heap.push { cls:=.type "range",data:=.fields #[.int lo t,.int hi u,.int 1 v] },toks:=tk }:=I.kept λb o e=>Heap.get?_push_of_some _ e;refine⟨(s.heap.push { cls:=.type "range",data:=.fields #[.int lo t,.int hi u,.int 1 v] }).objs.size,[(s.heap.push { cls:=.type "range",data:=.fields #[.int lo t,.int hi u,.int 1 v] }).objs.size],_,_,H,rfl,
  c.kept (t':=tk) λb o e=>Heap.get?_push_of_some _ e,Zba _ lo (hi - lo).toNat,?_,λb hb=>?_,q⟩
 ·have d:lo+((0:Nat):Int) * 1=lo:=by simp
  have f:(((hi - lo).toNat:Nat):Int) - ((0:Nat):Int)=Builtin.Range.rangeSize lo hi 1:=by rw[rangeSize_one];split<;>omega
  show IsRangeIter _ _ (lo+((0:Nat):Int) * 1) ((((hi - lo).toNat:Nat):Int) - ((0:Nat):Int)) 1;rw[d,f];exact Heap.get?_push_size _ rfl
 ·have e:b=(s.heap.push { cls:=.type "range",data:=.fields #[.int lo t,.int hi u,.int 1 v] }).objs.size:=by simpa using hb
  subst e;exact c.Zab (Nat.le_refl _) (c.hok.fresh (Nat.le_refl _))
def En(a:TA):TI:=λσ H R=>a σ H λvs b=>∃j:Int,vs=[.int j]/\-(2 ^ 62)<=j/\j<2 ^ 62/\R (Itr 0 j.toNat) b
theorem pO{a:Expr}{f:TA}{p c:Pos}(g:Gl X "range")(hm:X.mg "range"=none)(l:PA X [a] f)(hs:starEach [a] X.env=[(false,eval a X.env)]:=by rfl):PI X tg (.Call (.Name "range" p) [a] [] c) (En f):=by
 intro b s σ H R I h;refine Call_ (XC I g hm boot_range (PyProof.Rows.callWith_type1 (jf (l c b s σ H _ I h) λus m ⟨vs,H1,I1,r1,d⟩=>?_) hs rfl));obtain⟨j,e,d,k,q⟩:=d;subst e;cases r1 with
 | cons r i=>
  cases i;obtain⟨t,rfl⟩:=r;exact call_range_1 (Zik I1 (by omega) (by omega) d k (by simpa using q))
def wz(e:TI)(g:TG)(h:TS):TS:=λD σ H=>e σ H λJ f=>∃W:Nat->Nat->St->Hp->Prop,(∃m,W 0 m σ f)/\∀i m σ H,W i m σ H->
 (J.stop i H/\D.nx σ H)\/(J.go i H/\∃N:St->Hp->Prop,(∀ a H',N a H'->∃c,c<m/\W (i+1) c a H')/\∀x H',J.yld i H x H'->g x σ H' λb d=>h { D with nx:=N,ct:=N,bk:=D.nx } b d)
def wZ(a:List Addr)(h:Heap):List (Addr×Obj):=a.filterMap λb=>(h.get? b).map λo=>(b,o)
theorem nG{a:List Addr}{h:Heap}{b:Addr}{o:Obj}(hb:b∈a)(e:h.get? b=some o):(b,o)∈wZ a h:=List.mem_filterMap.mpr ⟨b,hb,by rw[e];rfl⟩
theorem KC{a:List Addr}{h:Heap}{p:Addr×Obj}(hp:p∈wZ a h):p.1∈a/\h.get? p.1=some p.2:=by
 obtain⟨b,hb,e⟩:=List.mem_filterMap.mp hp;cases q:h.get? b with
 | none=>rw[q]at e;cases e
 | some o=>
  rw[q]at e;have c:(b,o)=p:=Option.some.inj e;subst c;exact⟨hb,q⟩
theorem Inv.pinned{a:List (Addr×Obj)}{σ:St}{H:Hp}{s:Shared}{c:List Addr}(I:Inv X a σ H s)(h:∀b∈c,qO X a H b)(g:∀b∈c,∃o,s.heap.get? b=some o/\∀v,o.data≠.cell v):Inv X (a++wZ c s.heap) σ H s:=
 I.tY λp hp=>(List.mem_append.mp hp).elim (λz=>I.pin p (List.mem_append_right _ z)) λz=>by
  obtain⟨hb,e⟩:=KC z;obtain⟨j,k,i,_⟩:=h p.1 hb;obtain⟨o,f,d⟩:=g p.1 hb;rw[e]at f;cases f;exact⟨e,j,k,i,d⟩
theorem Inv.GK{a pl:List (Addr×Obj)}{σ:St}{H:Hp}{s:Shared}(I:Inv X (a++pl) σ H s):Inv X a σ H s:=I.tY λp hp=>I.pin p (List.mem_append_right _ (List.mem_append_left _ hp))
theorem mj{iter:Expr}{t:List Stmt}{U:TI}{g:TG}{V:TS}{M:Pos}(hp:PassesOwn (model X.prog X.w) X.A X.env X.xe)(hc:X.calm=true)(hi:PI X tg iter U)(hg:PG X tg g)(hb:Y6 X t V)
  (hs:∀x,foldedSetIterable iter X.env x=pure x:=by intro _;rfl):PS X (.For tg iter t [] M) (wz U g V):=by
 intro a s σ H D I h;refine wpAny_For (jf (hi a s σ H _ I h) λv s1 h1=>jf h1 λitv s2 h2=>?_) hs;obtain⟨it,z,tn,J,H2,e,Z,T,K,Q,W,⟨m0,w0⟩,turn⟩:=h2;subst e;have p:∀{H':Hp},(∀b∈z,H' b=none)->∀b∈z,qO X a H' b:=λhn b hb=>⟨hn b hb,(Q b hb).2⟩;refine codeAny_forLoop_any (λn s'=>∃i j H',Inv X a j H' s'/\tn i s'.heap/\(∀b∈z,H' b=none)/\W i n j H') ?_ m0 ⟨0,σ,H2,Z,K,λb hb=>(Q b hb).1,w0⟩;rintro n R ⟨i,q,E,S,C,B,w3⟩;rcases turn i n q E w3 with ⟨stop,qn⟩ | ⟨go,N,hN,step⟩
 ·refine wpAny_passesOwn hp (jf (T.done X rfl rfl rfl hc i a R q E X.xe S (p B) C stop) λr s4 ⟨hr,I4⟩=>?_);subst hr;exact wpAny_execs_nil ⟨q,E,I4,qn⟩
 ·refine wpAny_passesOwn hp (jf (T.item X rfl rfl rfl hc i a R q E X.xe S (p B) C go) λr s4 ⟨u,hr,h4⟩=>?_);subst hr;refine wpAny_passesOwn hp (jf h4 λ_ P ⟨x,H5,I5,r5,y5,st5,fr5⟩=>?_);have F:=I5.pinned (p fr5) (T.obj _ _ st5);refine wpAny_passesOwn hp (jf (hg _ P q H5 x u _ F r5 (step x H5 y5)) λ_ s6 ⟨O,H6,I6,q6⟩=>?_);refine wpAny_passesOwn hp (jf (hb _ s6 O H6 _ I6 q6) λf L y=>?_);have again:∀{c:St}{l:Hp},Inv X (a++wZ z P.heap) c l L->N c l->∃m,m<n/\∃i j H',Inv X a j H' L/\tn i L.heap/\(∀b∈z,H' b=none)/\W i m j H':=λ{c l} k n7=>by
   obtain⟨Y,hm,w7⟩:=hN c l n7;refine⟨Y,hm,i+1,c,l,k.GK,T.keep _ _ _ st5 λb hb o e=>(k.pin (b,o) (List.mem_append_right _ (List.mem_append_right _ (nG hb e)))).1,λb hb=>?_,w7⟩;obtain⟨o,e,d⟩:=T.obj _ _ st5 b hb;exact(k.pin (b,o) (List.mem_append_right _ (List.mem_append_right _ (nG hb e)))).2.1
  cases f with
  | next=>obtain⟨c,l,k,n7⟩:=y;exact again k n7
  | cont=>obtain⟨c,l,k,n7⟩:=y;exact again k n7
  | brk=>obtain⟨c,l,k,y⟩:=y;exact⟨c,l,k.GK,y⟩
  | ret v=>obtain⟨x7,c,l,k,r7,y⟩:=y;exact⟨x7,c,l,k.GK,r7,y⟩
end
theorem Zle{K:aC}{a:Addr}{xs:List V}{g:TG}{j:TS}{D:Ends}{σ:St}{H:Hp}(Pv:Nat->St->Hp->Prop)(l:Pv 0 σ H)(hl:∀i σ H,i<=xs.length->Pv i σ H->cV K H a xs)
  (hs:∀i x σ H,xs[i]? =some x->Pv i σ H->g x σ H λc f=>j { D with nx:=Pv (i+1),ct:=Pv (i+1),bk:=D.nx } c f) (hd:∀ σ H,Pv xs.length σ H->D.nx σ H):
  ∃W:Nat->Nat->St->Hp->Prop,(∃m,W 0 m σ H)/\∀i m σ H,W i m σ H->
   ((Itl K a).stop i H/\D.nx σ H)\/((Itl K a).go i H/\∃N:St->Hp->Prop,(∀ b H',N b H'->∃h,h<m/\W (i+1) h b H')/\∀x H',(Itl K a).yld i H x H'->g x σ H' λc f=>j { D with nx:=N,ct:=N,bk:=D.nx } c f):=by
 refine⟨λi m σ H=>m=xs.length - i/\i<=xs.length/\Pv i σ H,⟨xs.length,by simp,Nat.zero_le _,l⟩,?_⟩;rintro i m σ H ⟨rfl,hi,p⟩;have q:=hl i σ H hi p
 by_cases d:i<xs.length
 ·refine .inr ⟨⟨xs,xs[i],q,by simp[d]⟩,Pv (i+1),λb H' k=>⟨xs.length - (i+1),by omega,rfl,d,k⟩,λx H' y=>?_⟩;obtain⟨e,y⟩:=y;subst e;exact hs i x σ _ (y xs q) p
 ·have e:i=xs.length:=by omega
  subst e;exact .inl ⟨⟨xs,q,Nat.le_refl _⟩,hd σ H p⟩
theorem Zha{lo:Int}{n:Nat}{g:TG}{h:TS}{D:Ends}{σ:St}{H:Hp}(Pv:Nat->St->Hp->Prop)(k:Pv 0 σ H)
  (hs:∀i σ H,i<n->Pv i σ H->g (.int (lo+i)) σ H λb d=>h { D with nx:=Pv (i+1),ct:=Pv (i+1),bk:=D.nx } b d) (hd:∀ σ H,Pv n σ H->D.nx σ H):
  ∃W:Nat->Nat->St->Hp->Prop,(∃m,W 0 m σ H)/\∀i m σ H,W i m σ H->
   ((Itr lo n).stop i H/\D.nx σ H)\/((Itr lo n).go i H/\∃N:St->Hp->Prop,(∀ a H',N a H'->∃f,f<m/\W (i+1) f a H')/\∀x H',(Itr lo n).yld i H x H'->g x σ H' λb d=>h { D with nx:=N,ct:=N,bk:=D.nx } b d):=by
 refine⟨λi m σ H=>m=n - i/\i<=n/\Pv i σ H,⟨n,by simp,Nat.zero_le _,k⟩,?_⟩;rintro i m σ H ⟨rfl,hi,p⟩
 by_cases c:i<n
 ·refine .inr ⟨c,Pv (i+1),λa H' j=>⟨n - (i+1),by omega,rfl,c,j⟩,λx H' y=>?_⟩;obtain⟨e,y⟩:=y;subst e y;exact hs i σ _ c p
 ·have e:i=n:=by omega
  subst e;exact .inl ⟨Nat.le_refl _,hd σ H p⟩
end L2
namespace L2
open PySem PySem.Spec PyProof.Rows
abbrev R2:=V->V->Hp->VK->Prop
def Ak(X:Cx)(f:Value->Value->Sem Value)(r:R2):Prop:=
 ∀(a:List (Addr×Obj)) (s:Shared) (σ:St) (H:Hp) (x y:V) (v u:Value) (Q:VK),Inv X a σ H s->RelV x v->RelV y u->r x y H Q->
  wpAny (model X.prog X.w) X.A (f v u) (EP X a σ Q) X.xe s
def UnR(X:Cx)(f:Value->Sem Value)(r:V->Hp->VK->Prop):Prop:=
 ∀(a:List (Addr×Obj)) (s:Shared) (σ:St) (H:Hp) (x:V) (v:Value) (Q:VK),Inv X a σ H s->RelV x v->r x H Q->
  wpAny (model X.prog X.w) X.A (f v) (EP X a σ Q) X.xe s
def Ru(X:Cx)(f:Value)(r:List V->Hp->VK->Prop):Prop:=
 ∀(a:List (Addr×Obj)) (s:Shared) (σ:St) (H:Hp) (xs:List V) (us:List Value) (Q:VK),Inv X a σ H s->Vals xs us->r xs H Q->
  wpAny (model X.prog X.w) X.A (call f us) (EP X a σ Q) X.xe s
def ZCp(X:Cx)(r:V->Hp->(Bool->Hp->Prop)->Prop):Prop:=
 ∀(a:List (Addr×Obj)) (s:Shared) (σ:St) (H:Hp) (x:V) (v:Value) (Q:Bool->Hp->Prop),Inv X a σ H s->RelV x v->r x H Q->
  wpAny (model X.prog X.w) X.A (truthy v) (TP X a σ Q) X.xe s
def bF(r:R2)(d a:TE):TE:=λσ H Q=>d σ H λx c=>a σ c λy b=>r x y b Q
def tUn(r:V->Hp->VK->Prop)(b:TE):TE:=λσ H Q=>b σ H λx a=>r x a Q
def rI(C:Int->Int->Prop)(g:Int->Int->V):R2:=λx y H Q=>∃i j,x=.int i/\y=.int j/\C i j/\Q (g i j) H
def oY(g:Int->Int->V):R2:=λx y H Q=>∃i j,x=.int i/\y=.int j/\Q (g i j) H
def rU(g:Int->V):V->Hp->VK->Prop:=λx H Q=>∃i,x=.int i/\Q (g i) H
section
variable {X:Cx}{a b c:Expr}{ta tb tc:TE}{pos:Pos}
theorem Zso(m:PE X a ta)(hb:PE X b tb){c:List (Addr×Obj)}{s:Shared}{σ:St}{H:Hp}{R:V->V->Hp->Prop}(I:Inv X c σ H s)
  (h:ta σ H λx j=>tb σ j λy d=>R x y d) {Q:Value->Shared->Prop}{f:Value->Value->Sem Value}
  (l:∀v u i x y d,Inv X c σ d i->RelV x v->RelV y u->R x y d->wpAny (model X.prog X.w) X.A (f v u) Q X.xe i):
  wpAny (model X.prog X.w) X.A (eval a X.env) (λv e=>wpAny (model X.prog X.w) X.A (eval b X.env) (λu g=>wpAny (model X.prog X.w) X.A (f v u) Q X.xe g) X.xe e) X.xe s:=by
 refine jf (m c s σ H _ I h) λv k ⟨x,j,I1,r1,q1⟩=>?_;refine jf (hb c k σ j _ I1 q1) λu i ⟨y,d,I2,r2,q2⟩=>?_;exact l v u i x y d I2 r1 r2 q2
theorem bz{d:Operator}{r:R2}(e:Ak X (binaryOp d) r)(l:PE X a ta)(hb:PE X b tb):PE X (.BinOp a d b pos) (bF r ta tb):=by
 intro c s σ H Q I h;exact wpAny_BinOp (Zso l hb I h λv u i x y g f k j q=>e c i σ g x y v u Q f k j q)
theorem Zte{c:UnaryOp}{r:V->Hp->VK->Prop}(d:UnR X (unaryOp c) r)(e:PE X a ta):PE X (.UnaryOp c a pos) (tUn r ta):=by
 intro b s σ H Q I h;exact UnaryOp_ (jf (e b s σ H _ I h) λv f ⟨x,H1,I1,r1,q1⟩=>d b f σ H1 x v Q I1 r1 q1)
theorem opI{f:Value->Value->Sem Value}{C:Int->Int->Prop}{g:Int->Int->Int}
  (rule:∀(i j:Int) (t u:Tok) (s:Shared) (Q:Value->Shared->Prop) (E:Value->Shared->Prop),C i j->Q (.int (g i j) s.toks) { s with toks:=s.toks+1 }->wpAny (model X.prog X.w) X.A (f (.int i t) (.int j u)) Q E s):
  Ak X f (rI C λi j=>.int (g i j)):=by
 intro a s σ H x y v u Q I c b h;obtain⟨i,j,rfl,rfl,hc,q⟩:=h;obtain⟨t,rfl⟩:=c;obtain⟨t',rfl⟩:=b;exact rule i j t t' s _ _ hc ⟨.int (g i j),H,I.tok _,⟨_,rfl⟩,q⟩
theorem Znk{f:Value->Value->Sem Value}{g:Int->Int->Int}
  (rule:∀(i j:Int) (t u:Tok) (s:Shared) (Q:Value->Shared->Prop) (E:Value->Shared->Prop),Q (.int (g i j) s.toks) { s with toks:=s.toks+1 }->wpAny (model X.prog X.w) X.A (f (.int i t) (.int j u)) Q E s):
  Ak X f (oY λi j=>.int (g i j)):=by
 intro a s σ H x y v u Q I c b h;obtain⟨i,j,rfl,rfl,q⟩:=h;obtain⟨t,rfl⟩:=c;obtain⟨t',rfl⟩:=b;exact rule i j t t' s _ _ ⟨.int (g i j),H,I.tok _,⟨_,rfl⟩,q⟩
theorem Znl{f:Value->Value->Sem Value}{g:Int->Int->Bool}
  (rule:∀(i j:Int) (t u:Tok) (s:Shared) (Q:Value->Shared->Prop) (E:Value->Shared->Prop),Q (.bool (g i j)) s->wpAny (model X.prog X.w) X.A (f (.int i t) (.int j u)) Q E s):
  Ak X f (oY λi j=>.bl (g i j)):=by
 intro a s σ H x y v u Q I c b h;obtain⟨i,j,rfl,rfl,q⟩:=h;obtain⟨t,rfl⟩:=c;obtain⟨t',rfl⟩:=b;exact rule i j t t' s _ _ ⟨.bl (g i j),H,I,rfl,q⟩
def Ug(i j:Int):Prop:=0<j/\j<1073741824
def Y4(i j:Int):Prop:=0<=j/\j<=1000000/\i.natAbs<2 ^ 64
def Rx(i j:Int):Prop:=(-(2 ^ 64)<i/\i<2 ^ 64)\/(-(2 ^ 64)<j/\j<2 ^ 64)
theorem Rx.ok{i j:Int}(h:Rx i j):IntMulOk i j:=by
 rcases h with ⟨h1,h2⟩ | ⟨h1,h2⟩
 ·exact .of_left (intBits_le_64 h1 h2)
 ·exact .of_right (intBits_le_64 h1 h2)
theorem Zb9(k:Nat):(0:Int)<=2 ^ k:=by
 rw[two_pow_cast];exact Int.natCast_nonneg _
theorem lA:Ak X (binaryOp .Add) (oY λi j=>.int (i+j)):=Znk λ_ _ _ _ _ _ _ q=>add_int q
theorem Cm:Ak X (binaryOp .Sub) (oY λi j=>.int (i - j)):=Znk λ_ _ _ _ _ _ _ q=>sub_int q
theorem Ks:Ak X (binaryOp .Mult) (rI Rx λi j=>.int (i * j)):=opI λ_ _ _ _ _ _ _ hc q=>mul_int q hc.ok
theorem vI:Ak X (binaryOp .FloorDiv) (rI Ug λi j=>.int (i / j)):=opI λi j _ _ _ _ _ hc q=>by
 have h1:(0:Int)<j:=hc.1;have h2:j<1073741824:=hc.2;exact floordiv_int (by omega) (by rw[Int.fdiv_eq_ediv_of_nonneg i (by omega)];exact q) (.inl (PyProof.noPylong_small (by omega)))
theorem jq:Ak X (binaryOp .Mod) (rI (λ_ j=>0<j) λi j=>.int (i % j)):=opI λi j _ _ _ _ _ hc q=>by
 have h1:(0:Int)<j:=hc;exact mod_int' (by omega) (by rw[Int.fmod_eq_emod_of_nonneg i (by omega)];exact q)
theorem W6:Ak X (binaryOp .Pow) (rI Y4 λi j=>.int (i ^ j.toNat)):=opI λ_ _ _ _ _ _ _ hc q=>pow_int_small hc.1 hc.2.1 hc.2.2 q
theorem Zjb:Ak X (binaryOp .LShift) (rI Y4 λi j=>.int (i * 2 ^ j.toNat)):=opI λ_ _ _ _ _ _ _ hc q=>lshift_int_small hc.1 hc.2.1 hc.2.2 q
theorem Zcp:Ak X (binaryOp .RShift) (rI (λ_ j=>0<=j) λi j=>.int (i / 2 ^ j.toNat)):=opI λi j _ _ _ _ _ hc q=>
 rshift_int hc (by rw[Int.fdiv_eq_ediv_of_nonneg i (Zb9 _)];exact q)
theorem Qh:Ak X (binaryOp .BitAnd) (oY λi j=>.int (Builtin.bitAnd i j)):=Znk λ_ _ _ _ _ _ _ q=>and_int q
theorem Ztf:Ak X (binaryOp .BitOr) (oY λi j=>.int (Builtin.bitOr i j)):=Znk λ_ _ _ _ _ _ _ q=>or_int q
theorem unI{f:Value->Sem Value}{g:Int->Int}
  (rule:∀(i:Int) (t:Tok) (s:Shared) (Q:Value->Shared->Prop) (E:Value->Shared->Prop),Q (.int (g i) s.toks) { s with toks:=s.toks+1 }->wpAny (model X.prog X.w) X.A (f (.int i t)) Q E s):
  UnR X f (rU λi=>.int (g i)):=by
 intro a s σ H x v Q I b h;obtain⟨i,rfl,q⟩:=h;obtain⟨t,rfl⟩:=b;exact rule i t s _ _ ⟨.int (g i),H,I.tok _,⟨_,rfl⟩,q⟩
theorem Zpz:UnR X (unaryOp .USub) (rU λi=>.int (-i)):=unI λ_ _ _ _ _ q=>neg_int q
end
def Zt8:V->V->Bool
 | .non,.non=>true | .non,.int _=>true | .int _,.non=>true | .non,.bl _=>true | .bl _,.non=>true | .non,.str _=>true | .str _,.non=>true
 | .int _,.int _=>true | .bl _,.bl _=>true | .str _,.str _=>true | .byt _,.byt _=>true
 | .int _,.str _=>true | .str _,.int _=>true | .bl _,.str _=>true | .str _,.bl _=>true
 | _,_=>false
def yw:R2:=λx y H Q=>Zt8 x y=true/\Q (.bl (decide (x=y))) H
def rNe:R2:=λx y H Q=>Zt8 x y=true/\Q (.bl (!decide (x=y))) H
theorem Zf8{i j:Int}:decide (V.int i=V.int j)=(i == j):=by
 rw[Bool.eq_iff_iff];simp
theorem Zlu{i j:Bool}:decide (V.bl i=V.bl j)=(i == j):=by
 rw[Bool.eq_iff_iff];simp
theorem Zf7{i j:Str}:decide (V.str i=V.str j)=(i == j):=by
 rw[Bool.eq_iff_iff];simp
theorem Zf9{i j:Array UInt8}:decide (V.byt i=V.byt j)=(i.toList == j.toList):=by
 rw[Bool.eq_iff_iff];cases i;cases j;simp
section
variable {X:Cx}{a b c:Expr}{ta tb tc:TE}{pos:Pos}
theorem fP{a:List (Addr×Obj)}{σ:St}{H:Hp}{s:Shared}{Q:VK}{k b:Bool}(I:Inv X a σ H s)(q:Q (.bl k) H)(e:k=b):EP X a σ Q (.bool b) s:=by
 subst e;exact⟨.bl k,H,I,rfl,q⟩
theorem ju:Ak X (compareOp .Eq) yw:=by
 intro c s σ H x y v u Q I b a h;obtain⟨hs,q⟩:=h;cases x with
 | non=>
  cases b;cases y with
  | non=>cases a;exact PySem.EqNone.eq_none_none (fP I q (by simp))
  | bl j=>cases a;exact PySem.EqNone.eq_none_bool (fP I q (by simp))
  | int j=>obtain⟨t',rfl⟩:=a;exact PySem.EqNone.eq_none_int (fP I q (by simp))
  | str j=>obtain⟨t',rfl⟩:=a;exact PySem.EqNone.eq_none_str (fP I q (by simp))
  | _=>exact absurd (show false=true from hs) Bool.false_ne_true
 | bl i=>
  cases b;cases y with
  | non=>cases a;exact PySem.EqNone.eq_bool_none (fP I q (by simp))
  | bl j=>cases a;exact eq_bool (fP I q Zlu)
  | str j=>obtain⟨t',rfl⟩:=a;exact PySem.EqMixed.eq_bool_str (fP I q (by simp))
  | _=>exact absurd (show false=true from hs) Bool.false_ne_true
 | int i=>
  obtain⟨t,rfl⟩:=b;cases y with
  | non=>cases a;exact PySem.EqNone.eq_int_none (fP I q (by simp))
  | int j=>obtain⟨t',rfl⟩:=a;exact eq_int (fP I q Zf8)
  | str j=>obtain⟨t',rfl⟩:=a;exact PySem.EqMixed.eq_int_str (fP I q (by simp))
  | _=>exact absurd (show false=true from hs) Bool.false_ne_true
 | str i=>
  obtain⟨t,rfl⟩:=b;cases y with
  | non=>cases a;exact PySem.EqNone.eq_str_none (fP I q (by simp))
  | bl j=>cases a;exact PySem.EqMixed.eq_str_bool (fP I q (by simp))
  | int j=>obtain⟨t',rfl⟩:=a;exact PySem.EqMixed.eq_str_int (fP I q (by simp))
  | str j=>obtain⟨t',rfl⟩:=a;exact eq_str (fP I q Zf7)
  | _=>exact absurd (show false=true from hs) Bool.false_ne_true
 | byt i=>
  obtain⟨t,rfl⟩:=b;cases y with
  | byt j=>obtain⟨t',rfl⟩:=a;exact W.eq_bytes (fP I q Zf9)
  | _=>exact absurd (show false=true from hs) Bool.false_ne_true
 | _=>cases y<;>exact absurd (show false=true from hs) Bool.false_ne_true
theorem Zeu:Ak X (compareOp .NotEq) rNe:=by
 intro c s σ H x y v u Q I b a h;obtain⟨hs,q⟩:=h;cases x with
 | non=>
  cases b;cases y with
  | non=>cases a;exact PySem.EqNone.ne_none_none (fP I q (by simp))
  | bl j=>cases a;exact PySem.EqNone.ne_none_bool (fP I q (by simp))
  | int j=>obtain⟨t',rfl⟩:=a;exact PySem.EqNone.ne_none_int (fP I q (by simp))
  | str j=>obtain⟨t',rfl⟩:=a;exact PySem.EqNone.ne_none_str (fP I q (by simp))
  | _=>exact absurd (show false=true from hs) Bool.false_ne_true
 | bl i=>
  cases b;cases y with
  | non=>cases a;exact PySem.EqNone.ne_bool_none (fP I q (by simp))
  | bl j=>cases a;exact ne_bool (fP I q (congrArg not Zlu))
  | str j=>obtain⟨t',rfl⟩:=a;exact PySem.EqMixed.ne_bool_str (fP I q (by simp))
  | _=>exact absurd (show false=true from hs) Bool.false_ne_true
 | int i=>
  obtain⟨t,rfl⟩:=b;cases y with
  | non=>cases a;exact PySem.EqNone.ne_int_none (fP I q (by simp))
  | int j=>obtain⟨t',rfl⟩:=a;exact ne_int (fP I q (congrArg not Zf8))
  | str j=>obtain⟨t',rfl⟩:=a;exact PySem.EqMixed.ne_int_str (fP I q (by simp))
  | _=>exact absurd (show false=true from hs) Bool.false_ne_true
 | str i=>
  obtain⟨t,rfl⟩:=b;cases y with
  | non=>cases a;exact PySem.EqNone.ne_str_none (fP I q (by simp))
  | bl j=>cases a;exact PySem.EqMixed.ne_str_bool (fP I q (by simp))
  | int j=>obtain⟨t',rfl⟩:=a;exact PySem.EqMixed.ne_str_int (fP I q (by simp))
  | str j=>obtain⟨t',rfl⟩:=a;exact ne_str (fP I q (congrArg not Zf7))
  | _=>exact absurd (show false=true from hs) Bool.false_ne_true
 | byt i=>
  obtain⟨t,rfl⟩:=b;cases y with
  | byt j=>obtain⟨t',rfl⟩:=a;exact W.ne_bytes (fP I q (congrArg not Zf9))
  | _=>exact absurd (show false=true from hs) Bool.false_ne_true
 | _=>cases y<;>exact absurd (show false=true from hs) Bool.false_ne_true
theorem Eh:Ak X (compareOp .Lt) (oY λi j=>.bl (decide (i<j))):=Znl λ_ _ _ _ _ _ _ q=>lt_int q
theorem Ztg:Ak X (compareOp .LtE) (oY λi j=>.bl (decide (i<=j))):=Znl λ_ _ _ _ _ _ _ q=>le_int q
theorem Zev:Ak X (compareOp .Gt) (oY λi j=>.bl (decide (j<i))):=Znl λ_ _ _ _ _ _ _ q=>gt_int q
theorem Zth:Ak X (compareOp .GtE) (oY λi j=>.bl (decide (j<=i))):=Znl λ_ _ _ _ _ _ _ q=>ge_int q
theorem Zqq:Ak X (compareOp .Is) (λx y H Q=>y=.non/\Q (.bl (decide (x=.non))) H):=by
 intro a s σ H x y v u Q I b c h;obtain⟨rfl,q⟩:=h;cases c;refine is_none_gen (fP I q ?_);cases x<;>first
  | (cases b;rfl)
  | (obtain⟨t,rfl⟩:=b;rfl)
theorem Zni:Ak X (compareOp .IsNot) (λx y H Q=>y=.non/\Q (.bl (!decide (x=.non))) H):=by
 intro a s σ H x y v u Q I b c h;obtain⟨rfl,q⟩:=h;cases c;refine isnot_none_gen (fP I q ?_);cases x<;>first
  | (cases b;rfl)
  | (obtain⟨t,rfl⟩:=b;rfl)
def isObj:HO->Bool
 | .lst _=>true
 | .ins _ _ _=>true
 | _=>false
theorem KD{c:List (Addr×Obj)}{s:Shared}{σ:St}{H:Hp}{a:Addr}{o:HO}(I:Inv X c σ H s)(h:H a=some o)(p:isObj o=true):∃ob,s.heap.get? a=some ob/\ob.cls≠.type "tuple":=by
 cases o with
 | lst xs=>
  obtain⟨_,b,n,_,e⟩:xs.length<=sizeLine/\∃(b:List Value) (n:Nat),Vals xs b/\s.heap.get? a=some { cls:=.type "list",data:=.seq b.toArray n }:=I.hok a _ h;exact⟨_,e,(by show Value.type "list"≠.type "tuple";decide +kernel)⟩
 | ins C dx fs=>
  have x:=I.hok a _ h;obtain⟨_,_,_,e,_⟩:=x;exact⟨_,e,(by show Value.ref C≠.type "tuple";exact λz=>by cases z)⟩
 | _=>exact absurd (show false=true from p) Bool.false_ne_true
theorem Qw(b:Expr){a:CmpOp}(h:a≠.In:=by decide)(h2:a≠.NotIn:=by decide):behindInMarks a b=false:=by
 have c:(a == CmpOp.In)=false:=by cases a<;>first | rfl | exact absurd rfl h
 have d:(a == CmpOp.NotIn)=false:=by cases a<;>first | rfl | exact absurd rfl h2
 cases b<;>simp[behindInMarks,c,d]
theorem HJ{d:CmpOp}{r:R2}(e:Ak X (compareOp d) r)(l:PE X a ta)(hb:PE X b tb)(hm:behindInMarks d b=false):PE X (.Compare a [d] [b] pos) (bF r ta tb):=by
 intro c s σ H Q I h;exact wpAny_Compare1 (Zso l hb I h λv u i x y g f k j q=>e c i σ g x y v u Q f k j q) hm
def cj(t:TE):TT:=λσ H Q=>t σ H λx H'=>∃k,x=.bl k/\Q k H'
theorem Zn0{f:CmpOp}{r:R2}(g:Ak X (compareOp f) r)(l:PE X a ta)(hb:PE X b tb)(hm:behindInMarks f b=false):PT X (.Compare a [f] [b] pos) (cj (bF r ta tb)):=by
 intro d s σ H Q I h;refine wpAny_isTrue_Compare1 (jf (l d s σ H _ I h) λv i ⟨x,H1,I1,r1,q1⟩=>jf (hb d i σ H1 _ I1 q1) λu j ⟨y,H2,I2,r2,q2⟩=>
  jf (g d j σ H2 x y v u _ I2 r1 r2 q2) λc m ⟨z,H3,I3,r3,k,e,q3⟩=>?_) hm
 subst e;cases r3;exact wpAny_truthy_bool ⟨H3,I3,q3⟩
def Zbg(r c:R2)(ta tb tc:TE):TE:=λσ H Q=>ta σ H λx f=>tb σ f λy e=>r x y e λz a=>∃k,z=.bl k/\
 (if k=true then tc σ a λd b=>c y d b Q else Q (.bl false) a)
theorem Zj6{i g:CmpOp}{r l:R2}(n:Ak X (compareOp i) r)(j:Ak X (compareOp g) l)(w:PE X a ta)(hb:PE X b tb)(hc:PE X c tc)
  (hm:lastMarks [i,g] [b,c]=false:=by with_unfolding_all rfl):PE X (.Compare a [i,g] [b,c] pos) (Zbg r l ta tb tc):=by
 intro f s σ H Q I h;refine Compare_chain (jf (w f s σ H _ I h) λv o ⟨x,H1,I1,r1,q1⟩=>chain_link (jf (hb f o σ H1 _ I1 q1) λu t ⟨y,H2,I2,r2,q2⟩=>
  jf (n f t σ H2 x y v u _ I2 r1 r2 q2) λd q ⟨z,H3,I3,r3,k,e,q3⟩=>?_)) hm
 subst e;cases r3;refine wpAny_truthy_bool ?_;cases k with
 | false=>exact ite_ff ⟨.bl false,H3,I3,rfl,q3⟩
 | true=>exact ite_tt (chain_last (jf (hc f q σ H3 _ I3 q3) λp m ⟨A,H4,I4,r4,q4⟩=>j f m σ H4 y A u p Q I4 r2 r4 q4))
def Zm0(K:aC)(x:V)(H:Hp)(k:Bool):Prop:=
 match x with
 | .non=>k=false
 | .bl b=>k=b
 | .int i=>k=(i != 0)
 | .str y=>y.length<=sizeLine/\k=((y.length:Int) != 0)
 | .byt y=>y.size<=sizeLine/\k=((y.size:Int) != 0)
 | .ref p=>(∃xs,cV K H p xs/\k=!xs.isEmpty)\/(∃xs,je K H p xs/\k=!xs.isEmpty)\/∃a,H p=some (.dK a)/\k=!a.isEmpty
 | _=>False
theorem Zdf{b:Type}{a:List (b×V)}{vs:List (b×Value)}(r:KV a vs):(!vs.isEmpty)=!a.isEmpty:=by
 cases r<;>rfl
theorem QV{xs:List V}{a:List Value}(r:Vals xs a):(!a.toArray.isEmpty)=!xs.isEmpty:=by
 cases r<;>simp
theorem K7:(sizeLine:Nat)<2 ^ 63:=by rw[sizeLine_eq];decide
theorem Zq1:ZCp X (λx H Q=>∃k,Zm0 X.K x H k/\Q k H):=by
 intro j s σ H x v Q I f h;obtain⟨k,e,q⟩:=h;have hl:=K7;have hs:sizeLine=16777216:=sizeLine_eq;cases x with
 | non=>
  cases f;have a:k=false:=e;subst a;exact truthy_none ⟨H,I,q⟩
 | bl b=>
  cases f;have a:k=b:=e;subst a;exact wpAny_truthy_bool ⟨H,I,q⟩
 | int i=>
  obtain⟨t,rfl⟩:=f;have a:k=(i != 0):=e;subst a;exact PySem.P.truthy_int ⟨H,I,q⟩
 | str y=>
  obtain⟨t,rfl⟩:=f;obtain⟨hy,a⟩:y.length<=sizeLine/\k=((y.length:Int) != 0):=e;subst a;exact PySem.P.truthy_str (by omega) ⟨H,I.tok _,q⟩
 | byt y=>
  obtain⟨t,rfl⟩:=f;obtain⟨hy,a⟩:y.size<=sizeLine/\k=((y.size:Int) != 0):=e;subst a;exact W.truthy_bytes (by omega) ⟨H,I.tok _,q⟩
 | ref p=>
  cases f;have a:(∃xs,cV X.K H p xs/\k=!xs.isEmpty)\/(∃xs,je X.K H p xs/\k=!xs.isEmpty)\/∃c,H p=some (.dK c)/\k=!c.isEmpty:=e;rcases a with ⟨xs,hx,a⟩ | ⟨xs,hx,a⟩ | ⟨c,hx,a⟩
  ·subst a;obtain⟨g,r,pl,hz⟩:=I.list hx;have d:=r.length;exact wpAny_truthy_list pl.isList (by simp only[List.size_toArray];omega) ⟨H,I.tok _,by rw[QV r];exact q⟩
  ·subst a;obtain⟨g,r,pl,hz⟩:=I.tuple hx;have d:=r.length;exact truthy_tuple pl (by simp only[List.size_toArray];omega) ⟨H,I.tok _,by rw[QV r];exact q⟩
  ·subst a;obtain⟨hz,l,vs,r,m⟩:c.length<=sizeLine/\(p == sysModules)=false/\∃vs,KV c vs/\s.heap.DictOf (fL X.prog X.w) p vs:=I.hok p _ hx;have d:c.length=vs.length:=Paired.length r;exact wpAny_truthy_dict l m (by omega) ⟨H,I.tok _,by rw[Zdf r];exact q⟩
 | _=>exact(show False from e).elim
theorem Zu(d:PE X a ta)(e:∀b,isTrue a X.env b=(do let v <- b;standAt a.pos;holding [v] (truthy v))):
  PT X a (λσ H Q=>ta σ H λx H'=>∃k,Zm0 X.K x H' k/\Q k H'):=by
 intro c s σ H Q I h;exact isTrue_plain (jf (d c s σ H _ I h) λv f ⟨x,H1,I1,r1,q1⟩=>Zq1 c f σ H1 x v Q I1 r1 q1) (e _)
theorem Qi:Ak X (binaryOp .Add) (λx y H Q=>∃i j,x=.str i/\y=.str j/\i.length+j.length<=sizeLine/\Q (.str (i++j)) H):=by
 intro a s σ H x y v u Q I c b h;obtain⟨i,j,rfl,rfl,hz,q⟩:=h;obtain⟨t,rfl⟩:=c;obtain⟨t',rfl⟩:=b;exact add_str (λt' tk=>⟨.str (i++j),H,I.tok _,⟨_,rfl⟩,q⟩) hz
theorem vals1{x:V}{us:List Value}(r:Vals [x] us):∃u,us=[u]/\RelV x u:=by
 cases r with
 | cons a b=>cases b;exact⟨_,rfl,a⟩
end
end L2
namespace L2
open PySem PySem.Spec PyProof.Rows
structure Zeg(h:Heap)(x dx C:Addr)(mA:Str->Option Value):Prop where
 obj:h.get? x=some (W.instObj C dx)
 ns:h.Ns1 dx mA
 ne:dx≠x
theorem Zgm{h:Heap}{dx:Addr}{d:Str->Option Value}(n:h.Ns1 dx d):∃od,h.get? dx=some od/\∀name,W.lookIn name od=some (d name):=by
 obtain⟨o,c,i,f,hd,hk,_,hm⟩:=n;refine⟨o,f,λname=>?_⟩;have e:=hm name;unfold nsFind findBy at e;rw[<- Array.find?_toList]at e;unfold W.lookIn;rw[hd];dsimp only;split
 ·rename_i y q
  rw[q]at e;exact congrArg some e
 ·rename_i q
  rw[q]at e;have a:c.toList.any (·.refKey)=false:=by
   rw[List.any_eq_false];intro y hy;obtain⟨z,t,b⟩:=hk y (Array.mem_toList_iff.mp hy);simp[DictEntry.refKey,b]
  have g:¬ c.toList.any (·.refKey)=true:=by rw[a];exact Bool.false_ne_true
  rw[if_neg g];exact congrArg some e
theorem Zeg.look{h:Heap}{x dx C:Addr}{a:Str->Option Value}(I:Zeg h x dx C a):∃od,W.InstAt h x (W.instObj C dx) C (some od)/\∀name,W.lookIn name od=some (a name):=
 let ⟨od,ho,hl⟩:=Zgm I.ns
 ⟨od,⟨I.obj,rfl,rfl,ho⟩,hl⟩
section
variable {prog:Program}{w:World}{A:Around}{E:Value->Shared->Prop}{s:Shared}{K:aC}{x dx C f:Addr}{mA:Str->Option Value}{name:Str}{v:Value}
theorem get_map{a:Bool}{Q:Value->Shared->Prop}(X:K.In s.heap)(I:Zeg s.heap x dx C mA)(d:W.plainGet K C name=true)(hh:W.hasDictIn K C=true)
  (c:W.findIn K (.ref C) name=some none) (hv:mA name=some v) (b:W.handedIn v=true) (h:Q v { s with toks:=s.toks+1 }):
  wpAny (model prog w) A (getAttr (.ref x) name a) Q E s:=by
 obtain⟨od,J,hl⟩:=I.look;exact W.get_value X J (W.plainGet_of d).1 (W.findObj_own hh c rfl (by rw[hl,hv])) b h
theorem Zl9{pl:Sem Bool}{Q:Value×List Value->Shared->Prop}(X:K.In s.heap)(I:Zeg s.heap x dx C mA)(a:W.plainGet K C name=true)
  (b:W.findIn K (.ref C) name=some (some (.ref f))) (c:W.isFn K (.ref f)=true) (hv:mA name=none) (h:Q (.ref f,[.ref x]) s):
  wpAny (model prog w) A (getMethod (.ref x) name pl) Q E s:=by
 obtain⟨od,J,hl⟩:=I.look;exact W.method_fn X J (W.plainGet_of a).1 (W.plainGet_of a).2 b (beq_iff_eq.mp c) (by show(W.lookIn name od).map (·.isSome)=some false;rw[hl,hv];rfl) h
theorem Zmh{ns:List Str}{Q:Unit->Shared->Prop}(X:K.In s.heap)(I:Zeg s.heap x dx C mA)
  (hs:W.findIn K (.ref C) "__setattr__"=some (some (.builtin "object.__setattr__"))) (hp:W.plainOver K C=true) (l:W.takerIn K C name=some none) (hh:W.hasDictIn K C=true)
  (hw:PySem.Within mA ns) (hsz:ns.length<=sizeLine)
  (h:∀h',Zeg h' x dx C (λy=>if y=name then some v else mA y)->Heap.SameBut dx s.heap h'->Q () { s with heap:=h',toks:=s.toks+2 }):
  wpAny (model prog w) A (setAttr (.ref x) name v) Q E s:=by
 obtain⟨od,J,hl⟩:=I.look;refine W.set_plain X J hs (W.osa_open (s:={ s with toks:=s.toks+1 }) (r:=none) X J hp l λb=>?_);obtain⟨m,hc,i⟩:=W.any_some hh;have hx:s.heap.get? x=some ⟨.ref C,some dx,.plain,#[]⟩:=I.obj;refine wpAny_bind (wpAny_pure (wpAny_bind (wpAny_bind (wpAny_loadPart hx (wpAny_bind (W.Looks.here (s:={ s with toks:=s.toks+1 }) (W.looks_clsIn X hc) ?_))))));rw[i];refine wpAny_pure (a:=some dx) (wpAny_bind (wpAny_pure (wpAny_bind ?_)));refine wpAny_nsSet1 (s:={ s with toks:=s.toks+1 }) I.ns λh' d c=>?_;obtain⟨n,k,j,g,f,e⟩:=d.count (PySem.Within.cons name v hw);refine wpAny_bind (wpAny_lookBehind g (by rw[f];exact pastItsLine_dict (Nat.le_trans e (by rw[List.length_cons];omega))) ?_);exact wpAny_pure (h _ ⟨(c.2 _ (Ne.symm I.ne)).trans I.obj,d,I.ne⟩ c)
theorem Zjw{R:Result->Shared->Prop}{vs:List Value}{a:List (Str×Value)}(X:K.In s.heap)(hm:W.makesIn K C=true)
  (hi:W.findIn K (.ref C) "__init__"=some (some (.ref f))) (b:W.typeIn K (.ref f)=some (.type "function"))
  (h:codeAny (model prog w) (A.under (.builtin "type.__call__" ⟨.ref C::vs,a⟩)) (.call (.ref f) ⟨.ref (s.heap.objs.size+1)::vs,a⟩) (W.InitBack (s.heap.objs.size+1) R)
   { s with heap:=(s.heap.push W.emptyDict).push (W.instObj C s.heap.objs.size) }):
  codeAny (model prog w) A (.call (.ref C) ⟨vs,a⟩) R s:=by
 obtain⟨hh,g,d,t,os⟩:=s;exact W.make_core (W.makes_of X hm) (W.looks_findIn X hi) (λself=>W.bind_fn X self b) (.inl rfl) h
theorem Zgd{R:Result->Shared->Prop}(X:K.In s.heap)(hm:W.makesIn K C=true)
  (hi:W.findIn K (.ref C) "__init__"=some (some (.builtin "object.__init__")))
  (hb:∀self,W.Looks (model prog w) s.heap (bindSpecial (.builtin "object.__init__") self) (.builtin "object.__init__",[self]))
  (h:codeAny (model prog w) (A.under (.builtin "type.__call__" ⟨[.ref C],[]⟩)) (.call (.builtin "object.__init__") ⟨[.ref (s.heap.objs.size+1)],[]⟩) (W.InitBack (s.heap.objs.size+1) R)
   { s with heap:=(s.heap.push W.emptyDict).push (W.instObj C s.heap.objs.size) }):
  codeAny (model prog w) A (.call (.ref C) ⟨[],[]⟩) R s:=by
 obtain⟨hh,g,d,t,os⟩:=s;exact W.make_core (W.makes_of X hm) (W.looks_findIn X hi) hb (.inr ⟨rfl,rfl⟩) h
end
def cB(f:Str)(v:V):List (Str×V)->List (Str×V)
 | []=>[(f,v)]
 | (g,x)::r=>if g=f then(g,v)::r else(g,x)::cB f v r
theorem M6(f g:Str)(v:V):∀fs:List (Str×V),(cB f v fs).lookup g=if g=f then some v else fs.lookup g
 | []=>by
  show List.lookup g [(f,v)]=_
  by_cases h:g=f
  ·have hb:(g == f)=true:=beq_iff_eq.mpr h;simp only[List.lookup,hb,if_pos h]
  ·have hb:(g == f)=false:=beq_eq_false_iff_ne.mpr h;simp only[List.lookup,hb,if_neg h]
 | (k,x)::r=>by
  have ih:=M6 f g v r;rw[show cB f v ((k,x)::r)=(if k=f then(k,v)::r else(k,x)::cB f v r)from rfl]
  by_cases hk:k=f
  ·rw[if_pos hk]
   by_cases h:g=k
   ·have hb:(g == k)=true:=beq_iff_eq.mpr h;simp only[List.lookup,hb,if_pos (h.trans hk)]
   ·have hb:(g == k)=false:=beq_eq_false_iff_ne.mpr h;simp only[List.lookup,hb,if_neg (λe:g=f=>h (e.trans hk.symm))]
  ·rw[if_neg hk]
   by_cases h:g=k
   ·have hb:(g == k)=true:=beq_iff_eq.mpr h;simp only[List.lookup,hb,if_neg (λe:g=f=>hk (h.symm.trans e))]
   ·have hb:(g == k)=false:=beq_eq_false_iff_ne.mpr h;simp only[List.lookup,hb];exact ih
theorem K8(f:Str)(v:V):∀fs:List (Str×V),f∈(cB f v fs).map (·.1)/\∀g,g∈fs.map (·.1)->g∈(cB f v fs).map (·.1)
 | []=>⟨by simp[cB],λg h=>by simp at h⟩
 | (k,x)::r=>by
  obtain⟨a,b⟩:=K8 f v r;rw[show cB f v ((k,x)::r)=(if k=f then(k,v)::r else(k,x)::cB f v r)from rfl]
  by_cases hk:k=f
  ·rw[if_pos hk];subst hk;exact⟨by simp,λg h=>by simpa using h⟩
  ·rw[if_neg hk];refine⟨?_,λg h=>?_⟩
   ·rw[List.map_cons];exact List.mem_cons_of_mem _ a
   ·rw[List.map_cons]at h ⊢;rcases List.mem_cons.mp h with e | e
    ·exact List.mem_cons.mpr (.inl e)
    ·exact List.mem_cons_of_mem _ (b g e)
theorem M7(f:Str)(v:V):∀fs:List (Str×V),(cB f v fs).length<=fs.length+1
 | []=>by simp[cB]
 | (k,x)::r=>by
  have ih:=M7 f v r;rw[show cB f v ((k,x)::r)=(if k=f then(k,v)::r else(k,x)::cB f v r)from rfl]
  by_cases hk:k=f
  ·rw[if_pos hk,List.length_cons,List.length_cons];omega
  ·rw[if_neg hk,List.length_cons,List.length_cons];omega
theorem Ea.some_of{v:V}{o:Option Value}(r:Ea (some v) o):∃u,o=some u/\RelV v u:=by
 cases o with
 | none=>exact(show False from r).elim
 | some u=>exact⟨u,rfl,r⟩
theorem Ea.none_of{o:Option Value}(r:Ea none o):o=none:=by
 cases o with
 | none=>rfl
 | some u=>exact(show False from r).elim
theorem Zh9{v:V}{u:Value}(r:RelV v u):W.handedIn u=true:=by
 cases v with
 | non=>cases (show u=Value.none from r);rfl
 | bl b=>cases (show u=Value.bool b from r);rfl
 | int i=>obtain⟨t,e⟩:=(show ∃t,u=Value.int i t from r);cases e;rfl
 | str x=>obtain⟨t,e⟩:=(show ∃t,u=Value.str x t from r);cases e;rfl
 | byt b=>obtain⟨t,e⟩:=(show ∃t,u=Value.bytes b t from r);cases e;rfl
 | flt b=>obtain⟨t,e⟩:=(show ∃t,u=Value.float b t from r);cases e;rfl
 | ref a=>cases (show u=Value.ref a from r);rfl
 | ty n=>cases (show u=Value.type n from r);rfl
section
variable {P:Program}{w:World}{H H':Hp}{h h':Heap}{a C dx:Addr}{fs fs':List (Str×V)}
theorem XF(hok:Ao P w H h)(e:H a=some (.ins C dx fs)):∃b,Zeg h a dx C b/\(∀f,Ea (fs.lookup f) (b f))/\PySem.Within b (fs.map (·.1))/\fs.length<=1000/\H dx=some (.own a):=by
 obtain⟨d,z,ne,ob,b,n,r,q⟩:=(show lY P w H h a (.ins C dx fs)from hok a _ e);exact⟨b,⟨ob,n,ne⟩,r,q,z,d⟩
end
structure Gy(K:aC)(C:Addr):Prop where
 pg:W.plainGet K C Str.empty=true
 hd:W.hasDictIn K C=true
 po:W.plainOver K C=true
 sa:W.findIn K (.ref C) "__setattr__"=some (some (.builtin "object.__setattr__"))
theorem Gy.get{K:aC}{C:Addr}(c:Gy K C)(f:Str):W.plainGet K C f=true:=c.pg
def bK(K:aC)(C:Addr)(f:Str):Prop:=W.findIn K (.ref C) f=some none
theorem bK.taker{K:aC}{C:Addr}{f:Str}(n:bK K C f):W.takerIn K C f=some none:=by
 unfold W.takerIn;rw[show W.findIn K (.ref C) f=some none from n];rfl
structure Con(K:aC)(C:Addr)(f:Str)(v:V)(u:Value):Prop where
 at_:W.findIn K (.ref C) f=some (some u)
 rel:RelV v u
 get:W.specialIn K u "__get__"=some none
 cp:W.copiedNames.contains f=false
structure Meth(K:aC)(C:Addr)(m:Str)(f:Addr):Prop where
 at_:W.findIn K (.ref C) m=some (some (.ref f))
 fn:W.isFn K (.ref f)=true
 kp:W.keepIn K (.ref f)=true
section
variable {X:Cx}{pins:List (Addr×Obj)}{σ:St}{H:Hp}{s:Shared}{a C dx:Addr}{fs:List (Str×V)}{f:Str}{v:V}{A:Around}{E:Value->Shared->Prop}
theorem Zdm{b:Bool}{Q:Value->Shared->Prop}(I:Inv X pins σ H s)(e:H a=some (.ins C dx fs))(c:Gy X.K C)(n:bK X.K C f)(l:fs.lookup f=some v)
  (h:∀u s',Inv X pins σ H s'->RelV v u->Q u s'):wpAny (model X.prog X.w) A (getAttr (.ref a) f b) Q E s:=by
 obtain⟨g,O,r,_,_,_⟩:=XF I.hok e;obtain⟨u,hu,d⟩:=Ea.some_of (v:=v) (o:=g f) (by rw[<- l];exact r f);exact get_map I.Oj O (c.get f) c.hd n hu (Zh9 d) (h u _ (I.tok _) d)
theorem Q4{m:Str}{g:Addr}{pl:Sem Bool}{Q:Value×List Value->Shared->Prop}(I:Inv X pins σ H s)(e:H a=some (.ins C dx fs))(c:Gy X.K C)(k:Meth X.K C m g)(l:fs.lookup m=none)
  (h:Q (.ref g,[.ref a]) s):wpAny (model X.prog X.w) A (getMethod (.ref a) m pl) Q E s:=by
 obtain⟨b,O,r,_,_,_⟩:=XF I.hok e;have hn:b m=none:=Ea.none_of (by rw[<- l];exact r m);exact Zl9 I.Oj O (c.get m) k.at_ k.fn hn h
theorem Zbt{y:V}{u:Value}{Q:Unit->Shared->Prop}(I:Inv X pins σ H s)(e:H a=some (.ins C dx fs))(c:Gy X.K C)(n:bK X.K C f)(hl:fs.length<1000)(m:RelV y u)
  (h:∀s',Inv X pins σ (upd H a (.ins C dx (cB f y fs))) s'->Q () s'):wpAny (model X.prog X.w) A (setAttr (.ref a) f u) Q E s:=by
 obtain⟨k,O,r,j,_,i⟩:=XF I.hok e;have hz:(fs.map (·.1)).length<=sizeLine:=by rw[bx,sizeLine_eq];omega
 refine Zmh I.Oj O c.sa c.po n.taker c.hd j hz λh' d sb=>h _ ?_;have hd:∃o,h'.get? dx=some o:=let ⟨o,_,_,e',_⟩:=d.ns;⟨o,e'⟩
 refine I.write (x:=a) (e:=dx) (by rw[e];exact True.intro) (.inr i) (λb q hb z=>(sb.2 b hb).trans z) hd ?_;refine⟨by rw[aB O.ne];exact i,?_,O.ne,d.obj,_,d.ns,λg=>?_,λg l=>?_⟩
 ·have:=M7 f y fs;omega
 ·show Ea ((cB f y fs).lookup g) (if g=f then some u else k g);rw[M6]
  by_cases q:g=f
  ·rw[if_pos q,if_pos q];exact m
  ·rw[if_neg q,if_neg q];exact r g
 ·by_cases q:g=f
  ·rw[q];exact(K8 f y fs).1
  ·refine(K8 f y fs).2 g (j g λz=>l ?_);show(if g=f then some u else k g)=none;rw[if_neg q];exact z
theorem Inv.made(I:Inv X pins σ H s):Inv X pins σ (upd (upd H s.heap.objs.size (.own (s.heap.objs.size+1))) (s.heap.objs.size+1) (.ins C s.heap.objs.size []))
  { s with heap:=(s.heap.push W.emptyDict).push (W.instObj C s.heap.objs.size) }:=by
 have c:(s.heap.push W.emptyDict).get? s.heap.objs.size=some W.emptyDict:=Heap.get?_push_size s.heap rfl;have d:((s.heap.push W.emptyDict).push (W.instObj C s.heap.objs.size)).get? (s.heap.objs.size+1)=some (W.instObj C s.heap.objs.size):=by
  have:=Heap.get?_push_size (s.heap.push W.emptyDict) (o:=W.instObj C s.heap.objs.size) rfl
  rwa [Heap.size_push]at this
 have e3:(s.heap.push W.emptyDict).Ns s.heap.objs.size (λ_=>none):=⟨W.emptyDict,#[],_,c,rfl,(λe f=>absurd f (by simp)),λ_=>rfl⟩;have g:=I.laid (a:=s.heap.objs.size) (o:=.own (s.heap.objs.size+1)) (h':=s.heap.push W.emptyDict) (t':=s.toks) (λb u q=>Heap.get?_push_of_some _ q) (Nat.le_refl _) ⟨_,c⟩;refine g.laid (a:=s.heap.objs.size+1) (o:=.ins C s.heap.objs.size []) (t':=s.toks) (λb u q=>Heap.get?_push_of_some _ q) (Nat.le_of_eq (Heap.size_push _ _)) ?_;have ne:s.heap.objs.size≠s.heap.objs.size+1:=Nat.ne_of_lt (Nat.lt_succ_self _);refine⟨by rw[aB ne,aq],Nat.zero_le _,ne,d,λ_=>none,(Heap.Ns1.of_empty e3).at λo q=>Heap.get?_push_of_some _ q,λ_=>True.intro,λy hy=>absurd rfl hy⟩
theorem Zp8{prog:Program}{w:World}{env:Env}{e:Expr}{f:Str}{b:Pos}{s:Shared}{Q:Value->Shared->Prop}(hb:attributeBase e f env (eval e env)=eval e env)
  (h:wpAny (model prog w) A (eval e env) (λo a=>wpAny (model prog w) A (getAttr o f true) Q E a) E s):wpAny (model prog w) A (eval (.Attribute e f b) env) Q E s:=
 Attribute_any_ h (by rw[arm_eval_Attribute,hb])
end
def bC(K:aC)(c:TE)(f:Str):TE:=λσ H Q=>c σ H λx b=>∃a C dx fs v,x=.ref a/\b a=some (.ins C dx fs)/\Gy K C/\bK K C f/\fs.lookup f=some v/\Q v b
def gY(K:aC)(e c:TE)(f:Str):TS:=λD σ H=>c σ H λy d=>e σ d λx b=>∃a C dx fs,x=.ref a/\b a=some (.ins C dx fs)/\Gy K C/\bK K C f/\fs.length<1000/\
 D.nx σ (upd b a (.ins C dx (cB f y fs)))
section
variable {X:Cx}{o e value:Expr}{f:Str}{pos pos' tpos:Pos}{ta tv:TE}
theorem aH(i:PE X e ta)(hb:attributeBase e f X.env (eval e X.env)=eval e X.env):PE X (.Attribute e f pos) (bC X.K ta f):=by
 intro b s σ H Q I h;refine Zp8 hb (jf (i b s σ H _ I h) λu m ⟨x,H1,I1,rx,a,C,dx,fs,v,ex,ea,c,n,l,q⟩=>?_);subst ex;obtain rfl:u=Value.ref a:=rx;exact Zdm I1 ea c n l λj k g d=>⟨v,H1,g,d,q⟩
theorem cC(i:PE X o ta)(hv:PE X value tv)(hs:swapsWith value (some (.Attribute o f pos')) pos.line X.env=pure false):PS X (.Assign [.Attribute o f pos'] value pos) (gY X.K ta tv f):=by
 intro b s σ H D I h;refine plainObj_wpAny_Assign_Attribute (jf (hv b s σ H _ I h) λu d ⟨y,H1,I1,ry,q⟩=>jf (i b d σ H1 _ I1 q) λg k ⟨x,H2,I2,rx,a,C,dx,fs,ex,ea,c,n,l,q2⟩=>?_) hs;subst ex;obtain rfl:g=Value.ref a:=rx;exact Zbt I2 ea c n l ry λj e=>⟨σ,_,e,q2⟩
end
section
variable {X:Cx}{pins:List (Addr×Obj)}{σ:St}{H:Hp}{s:Shared}{A:Around}{E:Value->Shared->Prop}{Q:Value->Shared->Prop}{c:Value}{b:Bool}
inductive Rp(K:aC)(H:Hp):V->Value->Prop where
 | non:Rp K H .non (.type "NoneType")
 | bl (x:Bool):Rp K H (.bl x) (.type "bool")
 | int (i:Int):Rp K H (.int i) (.type "int")
 | str (x:Str):Rp K H (.str x) (.type "str")
 | flt (x:UInt64):Rp K H (.flt x) (.type "float")
 | lst {a:Addr}{xs:List V} (e:H a=some (.lst xs)):Rp K H (.ref a) (.type "list")
 | DR {a:Addr}{o:Obj}{xs:List V} (e:H a=some (.DR o (.lst xs))):Rp K H (.ref a) (.type "list")
 | tup {a:Addr}{xs:List V} (e:H a=some (.tup xs)):Rp K H (.ref a) (.type "tuple")
 | dK {a:Addr}{kvs:List (Key×V)} (e:H a=some (.dK kvs)):Rp K H (.ref a) (.type "dict")
 | dT {a:Addr}{kvs:List (List Key×V)} (e:H a=some (.dT kvs)):Rp K H (.ref a) (.type "dict")
 | ins {a C dx:Addr}{fs:List (Str×V)} (e:H a=some (.ins C dx fs)) (cl:Gy K C) (ha:W.findIn K (.ref C) "__class__"=some (some (.builtin "object.__class__")))
   (hn:W.specialIn K (.builtin "object.__class__") "__get__"=some (some (.builtin "getset_descriptor.__get__"))) (htk:W.takesIn K (.builtin "object.__class__")=some true)
   (hm:W.mroIn K C (.type "object")=some true):Rp K H (.ref a) (.ref C)
end
end L2
namespace L2
open PySem PySem.Spec PyProof.Rows
structure Room(k:Nat)(A:Around):Prop where
 hd:A.handled=none
 dp:A.depth+3 * k+5<recursionLimit
 un:A.units+16 * k+200<cLine
theorem Room.mono{j k:Nat}{A:Around}(r:Room k A)(h:j<=k):Room j A:=⟨r.hd,by have:=r.dp;omega,by have:=r.un;omega⟩
theorem Room.deeper{k:Nat}{A:Around}(r:Room (k+1) A)(env:Env):Room k (A.deeper env):=
 ⟨r.hd,by have:=r.dp;show A.depth+1+3 * k+5<_;omega,by have:=r.un;show A.units+3+16 * k+200<_;omega⟩
theorem Zdb{A:Around}{C:Addr}{us:List Value}{a:List (Str×Value)}:(A.under (.builtin "type.__call__" ⟨.ref C::us,a⟩)).depth=A.depth+1:=by
 first | rfl | simp[Around.under,Code.weight,Code.isCreation,Code.isGuard,Code.isCaller,Code.frames,Code.isFrame,guardIds]
theorem Zda{A:Around}{C:Addr}{us:List Value}{a:List (Str×Value)}:(A.under (.builtin "type.__call__" ⟨.ref C::us,a⟩)).units=A.units+1:=by
 first | rfl | simp[Around.under,Code.cUnits,Code.frames,Code.isFrame]
theorem Room.make{k:Nat}{A:Around}(r:Room (k+1) A)(C:Addr)(us:List Value)(a:List (Str×Value)):Room k (A.under (.builtin "type.__call__" ⟨.ref C::us,a⟩)):=
 ⟨r.hd,by have:=r.dp;rw[Zdb];omega,by have:=r.un;rw[Zda];omega⟩
theorem Room.depth{k:Nat}{A:Around}(r:Room k A):A.depth<recursionLimit:=by have:=r.dp;omega
theorem Room.units{k:Nat}{A:Around}(r:Room k A):A.units+64<cLine:=by have:=r.un;omega
def aG:TA:=λ_ H Q=>Q [] H
def aj(d:TE)(b:TA):TA:=λσ H Q=>d σ H λx c=>b σ c λxs a=>Q (x::xs) a
section
variable {X:Cx}{e:Expr}{es:List Expr}{te:TE}{t:TA}{pos:Pos}
theorem au:PA X [] aG:=λ_ _ _ _ H Q I h=>Calls.spliced_nil ⟨[],H,I,.nil,h⟩
theorem aa(b:PE X e te)(hr:PA X es t)(hs:starEach (e::es) X.env=(false,eval e X.env)::starEach es X.env:=by rfl):PA X (e::es) (aj te t):=by
 intro pos a s σ H Q I h;rw[hs];show wpAny _ _ (spliced ((false,eval e X.env)::backTo pos (starEach es X.env))) _ _ s;refine Calls.spliced_cons (jf (b a s σ H _ I h) λu c ⟨x,H1,I1,r1,q1⟩=>?_);exact jf (hr pos a c σ H1 _ I1 q1) λus d ⟨xs,H2,I2,r2,q2⟩=>⟨x::xs,H2,I2,.cons r1 r2,q2⟩
def gn(t:TA):TE:=λσ H Q=>t σ H λxs a=>xs.length<=sizeLine/\∀p,a p=none->Q (.ref p) (upd a p (.tup xs))
def iy(t:TA):TE:=λσ H Q=>t σ H λxs a=>xs.length<=sizeLine/\∀p,a p=none->Q (.ref p) (upd a p (.lst xs))
theorem cQ{x1}(h:PA X es t):PE X (.Tuple es x1 pos) (gn t):=by
 intro a s σ H Q I hq;refine wpAny_Tuple_spliced (jf (h pos a s σ H _ I hq) λus c ⟨xs,H1,I1,r,z,q⟩=>⟨by rw[<- r.length];exact z,?_⟩);have d:H1 c.heap.objs.size=none:=I1.hok.fresh (Nat.le_refl _);refine⟨.ref c.heap.objs.size,upd H1 c.heap.objs.size (.tup xs),I1.laid (t':=c.toks) (λb u e=>Heap.get?_push_of_some _ e) (Nat.le_refl _) ?_,rfl,q _ d⟩;exact⟨z,us,r,⟨_,Heap.get?_push_size _ rfl,rfl,_,rfl⟩⟩
theorem cY(h:PA X es t):PE X (.List es pos) (iy t):=by
 intro a s σ H Q I hq;refine wpAny_List_spliced (jf (h pos a s σ H _ I hq) λus c ⟨xs,H1,I1,r,z,q⟩=>⟨by rw[<- r.length];exact z,?_⟩);have d:H1 c.heap.objs.size=none:=I1.hok.fresh (Nat.le_refl _);refine⟨.ref c.heap.objs.size,upd H1 c.heap.objs.size (.lst xs),I1.laid (t':=c.toks) (λb u e=>Heap.get?_push_of_some _ e) (Nat.le_refl _) ?_,rfl,q _ d⟩;exact⟨z,us,0,r,Heap.get?_push_size _ rfl⟩
end
abbrev Sp:=List V->Hp->VK->XK->Prop
abbrev Y7:=List Env->Hp->Shared->XK->Value->Shared->Prop
structure Zej(P:Program)(w:World)(K:aC)(mg:Str->Option Value)(base:Heap)(A:Around)(outer:List Env)(s:Shared)(H:Hp):Prop where
 frames:A.frames=some outer
 mod:Mod K mg base
 bs:∀b o,base.get? b=some o->s.heap.get? b=some o/\H b=none
 bsz:base.objs.size<=s.heap.objs.size
 yo:s.heap.FunFrames base outer
 frf:∀b∈frs outer,H b=none
 hok:Ao P w H s.heap
 bare:AllBare s.gens
def CE(outer:List Env)(P:Program)(w:World)(H:Hp)(s:Shared)(Q:VK)(u:Value)(s':Shared):Prop:=
 ∃v H',s'.os=s.os/\AllBare s'.gens/\Un (frs outer) [] H H' s.heap s'.heap/\Ao P w H' s'.heap/\RelV v u/\Q v H'
def CR(CX:Y7)(outer:List Env)(P:Program)(w:World)(H:Hp)(s:Shared)(Q:VK)(E:XK)(r:Result)(s':Shared):Prop:=
 match r with
 | .ok (.ret u)=>CE outer P w H s Q u s'
 | .ok _=>False
 | .error e=>CX outer H s E e s'
structure u6(P:Program)(w:World)(K:aC)(mg:Str->Option Value)(base:Heap)(CX:Y7)(k:Nat)(f:Addr)(fd:FuncData)(ps:List Str)(sp:Sp):Prop where
 len:∀vs H Q E,sp vs H Q E->vs.length=ps.length
 run:∀(A:Around) (outer:List Env) (s:Shared) (H:Hp) (args:Args) (us:List Value) (vs:List V) (Q:VK) (E:XK),Room k A->Zej P w K mg base A outer s H->BindsTo s fd args (ps.zip us)->Vals vs us->sp vs H Q E->
  codeAny (model P w) A (.call (.ref f) args) (CR CX outer P w H s Q E) s
theorem Zej.make{P:Program}{w:World}{K:aC}{mg:Str->Option Value}{base:Heap}{A:Around}{outer:List Env}{s:Shared}{H:Hp}(e:Zej P w K mg base A outer s H)(C:Addr)(us:List Value)(a:List (Str×Value)):
  Zej P w K mg base (A.under (.builtin "type.__call__" ⟨.ref C::us,a⟩)) outer s H:=⟨by first | exact e.frames | (simpa[Around.under,Code.envs,Code.isFrame,pushEnvs]using e.frames),e.mod,e.bs,e.bsz,e.yo,e.frf,e.hok,e.bare⟩
section
variable {X:Cx}{pins:List (Addr×Obj)}{σ:St}{H:Hp}{s s':Shared}
theorem Inv.env0(I:Inv X pins σ H s):Zej X.prog X.w X.K X.mg X.base X.A X.stack s H:=
 ⟨I.ok.frames,I.ok.mod,I.bs,Nat.le_trans I.ok.bsz I.sz,I.stack,I.N7,I.hok,I.bare⟩
theorem Inv.after{Q:VK}{u:Value}(I:Inv X pins σ H s)(h:CE X.stack X.prog X.w H s Q u s'):EP X pins σ Q u s':=by
 obtain⟨v,H',os,bare,un,hok,r,q⟩:=h;obtain⟨hh,g,d,t,a⟩:=s';obtain rfl:a=s.os:=os;exact⟨v,H',I.call (h':=hh) (g':=g) (d':=d) (t':=t) (ch:=[]) un hok bare (λb z=>absurd z (by simp)),r,q⟩
end
def aW(sp:Sp)(u9:List V)(E:XK)(t:TA):TE:=λσ H Q=>t σ H λvs a=>sp (vs++u9) a Q E
def nj(C:Addr)(m:Str)(sp:Sp)(u9:List V)(E:XK)(d:TE)(t:TA):TE:=λσ H Q=>d σ H λx b=>∃a dx fs,x=.ref a/\b a=some (.ins C dx fs)/\fs.lookup m=none/\
 t σ b λvs c=>sp (x::(vs++u9)) c Q E
def Ab(C:Addr)(sp:Sp)(u9:List V)(E:XK)(t:TA):TE:=λσ H Q=>t σ H λvs a=>∀x dx,a x=none->a dx=none->dx≠x->
 sp (.ref x::(vs++u9)) (upd (upd a dx (.own x)) x (.ins C dx [])) (λv b=>v=.non/\Q (.ref x) b) E
def Binds(K:aC)(fd:FuncData)(ps:List Str)(ds:List Value):Prop:=
 ∀(s:Shared) (us:List Value),K.In s.heap->(us++ds).length=ps.length->BindsTo s fd ⟨us,[]⟩ (ps.zip (us++ds))
theorem Binds.all{K:aC}{fd:FuncData}{ps:List Str}(h:∀us:List Value,us.length=ps.length->bindArgs fd ⟨us,[]⟩=pure (ps.zip us)):Binds K fd ps []:=λs us _ hl=>by
 rw[List.append_nil]at hl ⊢;exact .of_eq (h us hl)
def Passes(CX:Y7)(X:Cx)(E:XK):Prop:=∀(a:List (Addr×Obj)) (σ:St) (H:Hp) (s:Shared) (e:Value) (s':Shared),Inv X a σ H s->CX X.stack H s E e s'->X.xe e s'
section
variable {X:Cx}{CX:Y7}{k:Nat}{f C:Addr}{fd:FuncData}{ps:List Str}{sp:Sp}{u9:List V}{ds:List Value}{E:XK}{x m:Str}{p pos apos:Pos}{e o:Expr}{es:List Expr}{ta:TE}{t:TA}
theorem WL{a:List (Addr×Obj)}{σ:St}{H:Hp}{s:Shared}{Q:VK}{us:List Value}{vs:List V}(F:u6 X.prog X.w X.K X.mg X.base CX k f fd ps sp)(hr:Room k X.A)(hb:Binds X.K fd ps ds)(hd:Vals u9 ds)(hx:Passes CX X E)
  (I:Inv X a σ H s) (r:Vals vs us) (h:sp (vs++u9) H Q E):wpAny (model X.prog X.w) X.A (call (.ref f) us) (EP X a σ Q) X.xe s:=by
 have b:Vals (vs++u9) (us++ds):=r.append hd;have hl:(us++ds).length=ps.length:=by rw[<- b.length];exact F.len _ _ _ _ h
 refine wpAny_call (codeAny_mono (F.run X.A X.stack s H ⟨us,[]⟩ (us++ds) (vs++u9) Q E hr I.env0 (hb s us I.Oj hl) b h) λr s' hq=>?_);cases r with
 | error e=>exact hx a σ H s e s' I hq
 | ok fl=>
  cases fl with
  | ret u=>exact I.after hq
  | next=>exact False.elim hq
  | brk=>exact False.elim hq
  | cont=>exact False.elim hq
theorem vA(F:u6 X.prog X.w X.K X.mg X.base CX k f fd ps sp)(hr:Room k X.A)(d:Gl X x)(hm:X.mg x=some (.ref f))(hk:W.keepIn X.K (.ref f)=true)(hb:Binds X.K fd ps ds)(hd:Vals u9 ds)(hx:Passes CX X E)
  (i:PA X (e::es) t) (c:(x == ("__debug__":Str))=false:=by decide) (g:starEach (e::es) X.env=(false,eval e X.env)::starEach es X.env:=by rfl) (b:(backTo pos (starEach es X.env)).any (·.1)=false:=by rfl):
  PE X (.Call (.Name x p) (e::es) [] pos) (aW sp u9 E t):=by
 intro a s σ H Q I h;refine wpAny_Call_Name_kw (ug I d hm ?_ c);refine W.callWith_K (h₀:=X.base) I.ok.mod.kin hk (jf (i pos a s σ H _ I h) λus j ⟨vs,H1,I1,r,q⟩=>⟨I1.Oj,?_⟩) g b;exact WL F hr hb hd hx I1 r q
theorem vz{pl:Sem Bool}(j:PE X o ta)(c:Gy X.K C)(hm:Meth X.K C m f)(F:u6 X.prog X.w X.K X.mg X.base CX k f fd ps sp)(hr:Room k X.A)(hb:Binds X.K fd ps ds)(hd:Vals u9 ds)(hx:Passes CX X E)(n:PA X (e::es) t)
  (g:starEach (e::es) X.env=(false,eval e X.env)::starEach es X.env:=by rfl) (d:(backTo pos (starEach es X.env)).any (·.1)=false:=by rfl)
  (p:eval (.Call (.Attribute o m apos) (e::es) [] pos) X.env=(do
   let ov <- eval o X.env
   standAt apos.atName
   let (f,first) <- holding [ov] (getMethod ov m pl)
   callWith pos f first (backTo pos (starEach (e::es) X.env)) (backToKw pos (keywordEach [] X.env))):=by rfl):
  PE X (.Call (.Attribute o m apos) (e::es) [] pos) (nj C m sp u9 E ta t):=by
 intro b s σ H Q I h;refine W.methodCall_KW (pl:=pl) (jf (j b s σ H _ I h) λu i ⟨x,H1,I1,rx,a,dx,fs,ex,ea,l,q⟩=>?_) p;subst ex;obtain rfl:u=Value.ref a:=rx;refine Q4 I1 ea c hm l ?_;refine W.callWith_K (first:=[.ref a]) (h₀:=X.base) I.ok.mod.kin hm.kp (jf (n pos b i σ H1 _ I1 q) λus v ⟨vs,H2,I2,r,q2⟩=>⟨I2.Oj,?_⟩) g d;exact WL (us:=.ref a::us) (vs:=.ref a::vs) F hr hb hd hx I2 (.cons rfl r) q2
theorem oR{pl:Sem Bool}(d:PE X o ta)(c:Gy X.K C)(hm:Meth X.K C m f)(F:u6 X.prog X.w X.K X.mg X.base CX k f fd ps sp)(hr:Room k X.A)(hb:Binds X.K fd ps ds)(hd:Vals u9 ds)(hx:Passes CX X E)
  (e:eval (.Call (.Attribute o m apos) [] [] pos) X.env=(do
   let ov <- eval o X.env
   standAt apos.atName
   let (f,first) <- holding [ov] (getMethod ov m pl)
   callWith pos f first (backTo pos (starEach [] X.env)) (backToKw pos (keywordEach [] X.env))):=by rfl):
  PE X (.Call (.Attribute o m apos) [] [] pos) (nj C m sp u9 E ta aG):=by
 intro b s σ H Q I h;refine W.methodCall_KW (pl:=pl) (jf (d b s σ H _ I h) λu g ⟨x,H1,I1,rx,a,dx,fs,ex,ea,l,q⟩=>?_) e;subst ex;obtain rfl:u=Value.ref a:=rx;refine Q4 I1 ea c hm l ?_;exact W.callWith_K0 (first:=[.ref a]) I1.Oj hm.kp (WL (us:=[.ref a]) (vs:=[.ref a]) F hr hb hd hx I1 (.cons rfl .nil) q)
structure Mk(K:aC)(C f:Addr):Prop where
 makes:W.makesIn K C=true
 init:W.findIn K (.ref C) "__init__"=some (some (.ref f))
 fn:W.isFn K (.ref f)=true
 kp:W.keepIn K (.ref C)=true
theorem Zo{b:List (Addr×Obj)}{σ:St}{H:Hp}{s:Shared}{Q:VK}{us:List Value}{vs:List V}(M:Mk X.K C f)(F:u6 X.prog X.w X.K X.mg X.base CX k f fd ps sp)(hr:Room (k+1) X.A)(hb:Binds X.K fd ps ds)(hd:Vals u9 ds)
  (hx:Passes CX X E) (I:Inv X b σ H s) (r:Vals vs us)
  (h:∀x dx,H x=none->H dx=none->dx≠x->sp (.ref x::(vs++u9)) (upd (upd H dx (.own x)) x (.ins C dx [])) (λv g=>v=.non/\Q (.ref x) g) E):
  wpAny (model X.prog X.w) X.A (call (.ref C) us) (EP X b σ Q) X.xe s:=by
 have hq:=h (s.heap.objs.size+1) s.heap.objs.size (I.hok.fresh (Nat.le_succ _)) (I.hok.fresh (Nat.le_refl _)) (Nat.ne_of_lt (Nat.lt_succ_self _));have c:=Inv.made (C:=C) I;have d:Vals (V.ref (s.heap.objs.size+1)::(vs++u9)) (Value.ref (s.heap.objs.size+1)::(us++ds)):=.cons rfl (r.append hd);have hl:(Value.ref (s.heap.objs.size+1)::us++ds).length=ps.length:=by
  have e:=d.length;rw[F.len _ _ _ _ hq]at e;exact e.symm
 refine wpAny_call (Zjw (f:=f) I.Oj M.makes M.init (beq_iff_eq.mp M.fn) (codeAny_mono (F.run _ X.stack _ _ ⟨Value.ref (s.heap.objs.size+1)::us,[]⟩ (Value.ref (s.heap.objs.size+1)::(us++ds)) _ _ E (hr.make C us [])
  (c.env0.make C us []) (hb _ (Value.ref (s.heap.objs.size+1)::us) c.Oj hl) d hq) λr s' a=>?_))
 cases r with
 | error e=>exact hx b σ _ _ e s' c a
 | ok fl=>
  cases fl with
  | ret u=>
   obtain⟨v,H',i,m,j,l⟩:=c.after a;subst j;exact⟨m,⟨V.ref (s.heap.objs.size+1),H',i,rfl,l⟩⟩
  | next=>exact False.elim a
  | brk=>exact False.elim a
  | cont=>exact False.elim a
theorem zK(M:Mk X.K C f)(F:u6 X.prog X.w X.K X.mg X.base CX k f fd ps sp)(hr:Room (k+1) X.A)(d:Gl X x)(hm:X.mg x=some (.ref C))(hb:Binds X.K fd ps ds)(hd:Vals u9 ds)(hx:Passes CX X E)
  (i:PA X (e::es) t) (c:(x == ("__debug__":Str))=false:=by decide) (g:starEach (e::es) X.env=(false,eval e X.env)::starEach es X.env:=by rfl) (b:(backTo pos (starEach es X.env)).any (·.1)=false:=by rfl):
  PE X (.Call (.Name x p) (e::es) [] pos) (Ab C sp u9 E t):=by
 intro a s σ H Q I h;refine wpAny_Call_Name_kw (ug I d hm ?_ c);refine W.callWith_K (h₀:=X.base) I.ok.mod.kin M.kp (jf (i pos a s σ H _ I h) λus j ⟨vs,H1,I1,r,q⟩=>⟨I1.Oj,?_⟩) g b;exact Zo M F hr hb hd hx I1 r q
theorem Zj3(M:Mk X.K C f)(F:u6 X.prog X.w X.K X.mg X.base CX k f fd ps sp)(hr:Room (k+1) X.A)(c:Gl X x)(hm:X.mg x=some (.ref C))(hb:Binds X.K fd ps ds)(hd:Vals u9 ds)(hx:Passes CX X E)
  (a:(x == ("__debug__":Str))=false:=by decide):PE X (.Call (.Name x p) [] [] pos) (Ab C sp u9 E aG):=by
 intro b s σ H Q I h;refine wpAny_Call_Name_kw (ug I c hm ?_ a);exact W.callWith_K0 I.Oj M.kp (Zo (us:=[]) M F hr hb hd hx I .nil h)
end
section
variable {X:Cx}{CX:Y7}{k:Nat}{f C:Addr}{fd:FuncData}{ps ks:List Str}{sp:Sp}{E:XK}{x m:Str}{p pos apos kpos:Pos}{e o:Expr}{es:List Expr}{kws:List Keyword}{te ta:TE}{t tk:TA}{nm:Option Str}
structure ZCr(K:aC)(fd:FuncData)(ps ks:List Str)(g:List Value->List Value->List Value)(gV:List V->List V->List V):Prop where
 to:∀(s:Shared) (us ws:List Value),K.In s.heap->(g us ws).length=ps.length->BindsTo s fd ⟨us,ks.zip ws⟩ (ps.zip (g us ws))
 rel:∀{vs:List V}{us:List Value}{zs:List V}{ws:List Value},Vals vs us->Vals zs ws->Vals (gV vs zs) (g us ws)
variable {g:List Value->List Value->List Value}{gV:List V->List V->List V}
end
structure aQ(N P:List Str)(sc:Scope):Prop where
 kind:sc.kind=.function
 co:sc.isCoroutine=false
 gen:sc.isGenerator=false
 nd:N.Nodup
 pre:N.take P.length=P
 par:∀x∈P,sc.names.lookup x=some .local\/sc.names.lookup x=some .cell
 Zqy:∀y∈sc.names,y.2≠.free
theorem Vx{kindOf:Str->Option NameKind}{x:Str}:∀{binds:List (Str×Value)}{m:Str->Option Value},(∀v,(x,v)∉binds)->bindL kindOf binds m x=m x
 | [],_,_=>rfl
 | (n,v)::r,m,h=>by
  unfold bindL;rw[Vx λw hw=>h w (List.mem_cons_of_mem _ hw)];split
  ·have:x≠n:=by rintro rfl;exact h v List.mem_cons_self
   simp[this]
  ·rfl
theorem Vz{kindOf:Str->Option NameKind}{x:Str}:∀{binds:List (Str×Value)}{m:Str->Option Value},(∀v,(x,v)∉binds)->bindC kindOf binds m x=m x
 | [],_,_=>rfl
 | (n,v)::r,m,h=>by
  unfold bindC;rw[Vz λw hw=>h w (List.mem_cons_of_mem _ hw)];split
  ·rfl
  ·have:x≠n:=by rintro rfl;exact h v List.mem_cons_self
   simp[this]
theorem Vy{kindOf:Str->Option NameKind}{x:Str}{v:Value}:∀{P:List Str}{vs:List Value}{i:Nat}{m:Str->Option Value},P.Nodup->P[i]? =some x->vs[i]? =some v->kindOf x=some .local->
  bindL kindOf (P.zip vs) m x=some v
 | [],_,_,_,_,h,_,_=>by simp at h
 | _::_,[],_,_,_,_,h,_=>by simp at h
 | p::P,w::vs,0,m,nd,h1,h2,hk=>by
  simp at h1 h2;subst h1;subst h2;show bindL kindOf ((p,w)::P.zip vs) m p=_;unfold bindL;rw[Vx λv hv=>(List.nodup_cons.mp nd).1 (List.of_mem_zip hv).1,if_pos hk];simp
 | p::P,w::vs,i+1,m,nd,h1,h2,hk=>by
  show bindL kindOf ((p,w)::P.zip vs) m x=_;unfold bindL;exact Vy (i:=i) (List.nodup_cons.mp nd).2 (by simpa using h1) (by simpa using h2) hk
theorem VB{kindOf:Str->Option NameKind}{x:Str}{v:Value}:∀{P:List Str}{vs:List Value}{i:Nat}{m:Str->Option Value},P.Nodup->P[i]? =some x->vs[i]? =some v->kindOf x≠some .local->
  bindC kindOf (P.zip vs) m x=some v
 | [],_,_,_,_,h,_,_=>by simp at h
 | _::_,[],_,_,_,_,h,_=>by simp at h
 | p::P,w::vs,0,m,nd,h1,h2,hk=>by
  simp at h1 h2;subst h1;subst h2;show bindC kindOf ((p,w)::P.zip vs) m p=_;unfold bindC;rw[Vz λv hv=>(List.nodup_cons.mp nd).1 (List.of_mem_zip hv).1,if_neg hk];simp
 | p::P,w::vs,i+1,m,nd,h1,h2,hk=>by
  show bindC kindOf ((p,w)::P.zip vs) m x=_;unfold bindC;exact VB (i:=i) (List.nodup_cons.mp nd).2 (by simpa using h1) (by simpa using h2) hk
def start(N:List Str)(vs:List V):St:=vs.map some++List.replicate (N.length - vs.length) none
def Lx(CX:Y7)(P:Program)(w:World)(K:aC)(mg:Str->Option Value)(base:Heap)(N:List Str)(b:Str)(a:Scope)(f:Addr)(d:Value)(A:Around)(outer:List Env)(s:Shared)(H:Hp)(E:XK):Cx where
 prog:=P
 w:=w
 K:=K
 mg:=mg
 base:=base
 A:=A.deeper (envOfC b a s.heap.objs.size f d)
 N:=N
 s₀:=s
 H₀:=H
 env:=envOfC b a s.heap.objs.size f d
 outer:=outer
 stack:=envOfC b a s.heap.objs.size f d::outer
 ex:=[]
 calm:=true
 fn:=λ_=>true
 pn:=[]
 xe:=λe s'=>wpAny (model P w) (A.deeper (envOfC b a s.heap.objs.size f d)) (leaving (envOfC b a s.heap.objs.size f d) e) (λ_ c=>CX outer H s E e c) (λg c=>CX outer H s E g c) s'
theorem Zaq{a:Scope}{n:Nat}{x:Str}(h:a.names.lookup x=some .cell):∃c,(cellsFrom n a.names []).lookup x=some c:=by
 have q:=W.cellsFrom_some a.names n [] (.inl h);exact Option.isSome_iff_exists.mp q
theorem Zgs{CX:Y7}{P:Program}{w:World}{K:aC}{mg:Str->Option Value}{base:Heap}{N ps:List Str}{g:Str}{d:Scope}{f:Addr}{o:Value}{A:Around}{outer:List Env}{s t:Shared}{H:Hp}{E:XK}{us:List Value}{vs:List V}
  (S:aQ N ps d) (hd:A.handled=none) (j:Zej P w K mg base A outer s H) (hl:vs.length=ps.length) (r:Vals vs us)
  (x:InCallC s s.heap.objs.size (bindL (envOfC g d s.heap.objs.size f o).kindOf (ps.zip us) λ_=>none) (cellsFrom (s.heap.objs.size+1) d.names []) (bindC (envOfC g d s.heap.objs.size f o).kindOf (ps.zip us) λ_=>none) t):
  Inv (Lx CX P w K mg base N g d f o A outer s H E) [] (start N vs) H t:=by
 have B:ps.length<=N.length:=by have:=congrArg List.length S.pre;rw[List.length_take]at this;omega
 obtain⟨h1,tk,rfl,hk⟩:=x.done;have l:∀b:Addr,b∉(Lx CX P w K mg base N g d f o A outer s H E).ex:=λb z=>absurd (show b∈([]:List Addr)from z) (by simp);refine⟨⟨j.mod,S.kind,rfl,rfl,Nat.le_refl _,λy z c h1 h2=>?_,λy hy=>?_,λy c _ h=>?_,λ_=>hd,Around.frames_deeper j.frames,.inr ⟨rfl,rfl⟩,λb z=>absurd z (l b),j.bs,j.bsz,λb _ _=>l b,λb z=>absurd z (l b),j.yo,j.frf⟩,
  rfl,j.bare,Un.kept hk,⟨_,x.toInCall.ns,λi y v h1 h2 h3=>?_⟩,λy c h=>⟨_,x.cell y c h⟩,j.hok.fresh (Nat.le_refl _),λy c h=>?_,λp hp=>absurd (show p∈([]:List (Addr×Obj))from hp) (by simp),j.hok.kept hk,?_⟩
 ·exact name_of_addr x.apart (PySem.mem_of_lookup h1) (PySem.mem_of_lookup h2)
 ·have hy:d.names.lookup y=some .cell\/d.names.lookup y=some .free:=hy;rcases hy with hy | hy
  ·exact Zaq hy
  ·exact absurd rfl (S.Zqy _ (PySem.mem_of_lookup hy))
 ·exact Nat.le_of_lt (x.above y c (PySem.mem_of_lookup h))
 ·have hi:i<vs.length:=by
   unfold start at h2
   by_cases hi:i<vs.length
   ·exact hi
   ·rw[List.getElem?_append_right (by simpa using hi)]at h2;rw[List.getElem?_replicate]at h2;split at h2<;>cases h2
  have D:vs[i]? =some v:=by
   unfold start at h2;rw[List.getElem?_append_left (by simpa using hi),cA]at h2;cases e:vs[i]? with
   | none=>rw[e]at h2;cases h2
   | some a=>rw[e]at h2;cases h2;rfl
  obtain⟨u,hu,C⟩:=r.get D;have hp:ps[i]? =some y:=by
   rw[<- S.pre,List.getElem?_take_of_lt (by omega)];exact h1
  have m:ps.Nodup:=by rw[<- S.pre];exact S.nd.sublist (List.take_sublist _ _)
  refine⟨u,C,?_⟩;rcases S.par y (List.mem_of_getElem? hp)with k | k
  ·exact .inl ⟨k,Vy m hp hu k⟩
  ·obtain⟨c,e⟩:=Zaq (n:=s.heap.objs.size+1) k;refine .inr ⟨.inl k,c,e,?_⟩;have q:=x.cell y c e;rw[VB m hp hu (by show d.names.lookup y≠_;rw[k];decide)]at q;exact q
 ·exact j.hok.fresh (Nat.le_of_lt (x.above y c (PySem.mem_of_lookup h)))
 ·unfold start;show _=N.length;rw[List.length_append,bx,List.length_replicate];omega
theorem Zlf{CX:Y7}{P:Program}{w:World}{K:aC}{mg:Str->Option Value}{base:Heap}{k:Nat}{f:Addr}{name c:Str}{g:Arguments}{h:List Stmt}{a:Scope}{dV kV p O d ct oc:Value}{L od:Option Addr}
  {C:Array (Option Value)}{N ps:List Str}{sp:Sp} (lk:K.lookup f=some ⟨oc,od,.func (W.fnOf name c g h a dV kV p O L d ct),C⟩) (B:W.codeIn K d c=true) (S:aQ N ps a)
  (len:∀vs H Q E,sp vs H Q E->vs.length=ps.length)
  (l:∀(A:Around) (outer:List Env) (s:Shared) (H:Hp) (vs:List V) (Q:VK) (E:XK),Room k (A.deeper (envOfC c a s.heap.objs.size f d))->sp vs H Q E->
   ∃t,Y6 (Lx CX P w K mg base N c a f d A outer s H E) h t/\t { nx:=λ_ H'=>Q .non H',rt:=Q } (start N vs) H):
  u6 P w K mg base CX (k+1) f (W.fnOf name c g h a dV kV p O L d ct) ps sp:=by
 refine⟨len,λA outer s H R us vs Q E hr z hb r m=>?_⟩;have hl:=len _ _ _ _ m;have T:K.In s.heap:=z.mod.kin.keeps λb o e=>(z.bs b o e).1;have D:s.heap.NoLimit:=z.mod.nolimit.keeps λb o e=>(z.bs b o e).1;have j:∀y∈ps.zip us,a.names.lookup y.1=some .local\/(a.names.lookup y.1=some .cell/\((cellsFrom (s.heap.objs.size+1) a.names []).lookup y.1).isSome=true):=λ⟨n,v⟩ hy=>by
  rcases S.par n (List.of_mem_zip hy).1 with q | q
  ·exact .inl q
  ·exact .inr ⟨q,W.cellsFrom_some _ _ _ (.inl q)⟩
 refine codeAny_call_function hr.depth (T _ _ lk) rfl S.co S.gen rfl (W.codeRec_of T B) (hb _ _ _ _ ?_);refine wpAny_newFunctionEnv_cells S.kind j λenv X M x=>?_;subst X;refine⟨D.keeps x.toInCall.keep,codeAny_func ?_⟩;obtain⟨t,U,hq⟩:=l A outer s H vs Q E (hr.deeper _) m;have I:Inv (Lx CX P w K mg base N c a f d A outer s H E) [] (start N vs) H M:=Zgs S hr.hd z hl r x;refine wpAny_mono (U [] M (start N vs) H _ I hq) (λfl s' hs=>?_) λe s' hs=>hs;have fin:∀{i:St}{H':Hp}{v:V}{u:Value},Inv (Lx CX P w K mg base N c a f d A outer s H E) [] i H' s'->RelV v u->Q v H'->CE outer P w H s Q u s':=
  λ{i H' v u} J F q=>⟨v,H',J.os,J.bare,J.base,J.hok,F,q⟩
 cases fl with
 | ret u=>
  obtain⟨v,i,H',J,F,q⟩:=hs;exact fin J F q
 | next=>
  obtain⟨i,H',J,q⟩:=hs;exact fin (v:=V.non) (u:=Value.none) J rfl q
 | brk=>
  obtain⟨_,_,_,q⟩:=hs;exact False.elim q
 | cont=>
  obtain⟨_,_,_,q⟩:=hs;exact False.elim q
end L2
namespace L2
open PySem PySem.Spec PyProof.Rows
section
variable {X:Cx}{x:Str}{p pos:Pos}{e:Expr}{es:List Expr}{t:TA}{id T:String}{r:List V->Hp->VK->Prop}
def Jy(r:List V->Hp->VK->Prop)(t:TA):TE:=λσ H Q=>t σ H λvs a=>r vs a Q
theorem gb(hc:Ru X (.builtin id) r)(f:Gl X x)(hm:X.mg x=none)(hv:bootBuiltins x=some (.builtin id))(i:PA X (e::es) t)(hn:x≠"__name__":=by decide)(c:(x == ("__debug__":Str))=false:=by decide)
  (g:starEach (e::es) X.env=(false,eval e X.env)::starEach es X.env:=by rfl) (b:(backTo pos (starEach es X.env)).any (·.1)=false:=by rfl):PE X (.Call (.Name x p) (e::es) [] pos) (Jy r t):=by
 intro a s σ H Q I h;refine wpAny_Call_Name_kw (XC I f hm hv ?_ hn c);exact PyProof.Rows.callWith_builtin1 (jf (i pos a s σ H _ I h) λus d ⟨vs,H1,I1,r1,q1⟩=>hc a d σ H1 vs us Q I1 r1 q1) g b
theorem yd(hc:Ru X (.type T) r)(f:Gl X x)(hm:X.mg x=none)(hv:bootBuiltins x=some (.type T))(i:PA X (e::es) t)(hn:x≠"__name__":=by decide)(c:(x == ("__debug__":Str))=false:=by decide)
  (g:starEach (e::es) X.env=(false,eval e X.env)::starEach es X.env:=by rfl) (b:(backTo pos (starEach es X.env)).any (·.1)=false:=by rfl):PE X (.Call (.Name x p) (e::es) [] pos) (Jy r t):=by
 intro a s σ H Q I h;refine wpAny_Call_Name_kw (XC I f hm hv ?_ hn c);exact PyProof.Rows.callWith_type1 (jf (i pos a s σ H _ I h) λus d ⟨vs,H1,I1,r1,q1⟩=>hc a d σ H1 vs us Q I1 r1 q1) g b
end
end L2
namespace HT
open PySem PyProof.Rows
section
open PySem.SeqAt
open PySem.AutoSeq1 (wpAny_loadPart')
open PySem.MeetsSeq PySem.MeetsSeq2 PySem.MeetsSeq3
end
section
variable {prog:Program}{w:World}{A:Around}{E:Value->Shared->Prop}{s:Shared}
theorem Zp6{t b:Addr}{vs a:List Value}{Q:Value->Shared->Prop}(m:IsTup s.heap t vs.toArray)(hb:IsTup s.heap b a.toArray)(hv:vs≠[])
  (h1:a=[]->Q (.ref t) s) (h2:a≠[]->Q (.ref s.heap.objs.size) { s with heap:=s.heap.push { cls:=.type "tuple",data:=.seq (vs++a).toArray } })
  (hsz:vs.length+a.length<=sizeLine):wpAny (model prog w) A (binaryOp .Add (.ref t) (.ref b)) Q E s:=by
 obtain⟨⟨l,dd,k,sl⟩,i,hc,n,hd⟩:=id m;obtain⟨⟨j,f,data2,h⟩,c,d,n2,g⟩:=id hb;simp only at hc hd d g;subst hc hd d g;have e:vs.toArray++a.toArray=(vs++a).toArray:=by simp
 by_cases hw:a=[]
 ·exact concat_meets ⟨_,i,rfl⟩ ⟨_,c,rfl⟩ noFill_tuple_add seq_tuple_add PySem.F.slot_tuple_add PySem.F.entry_tuple_add (PySem.F.args_tuple_add_2 _ _)
   (tuple_addW1 t b vs.toArray a.toArray n n2 dd f sl h (by simpa using hv) (by simp[hw])) ⟨i,c,h1 hw⟩
 ·refine concat_meets ⟨_,i,rfl⟩ ⟨_,c,rfl⟩ noFill_tuple_add seq_tuple_add PySem.F.slot_tuple_add PySem.F.entry_tuple_add (PySem.F.args_tuple_add_2 _ _)
   (tuple_addW2 t b vs.toArray a.toArray n n2 dd f sl h (by simpa using hv) (by simpa using hw) (by rw[List.size_toArray,List.size_toArray];exact hsz)) ⟨i,c,?_⟩
  rw[e];exact h2 hw
def Y5(n d:Nat):Option Int->Nat
 | none=>d
 | some v=>if v<0 then(v+(n:Int)).toNat else min v.toNat n
end
end HT
namespace L2
open PySem PySem.Spec PyProof.Rows
abbrev TO:=St->Hp->(Option Int->Hp->Prop)->Prop
def PO(X:Cx)(e:Option Expr)(t:TO):Prop:=
 ∀(a:List (Addr×Obj)) (s:Shared) (σ:St) (H:Hp) (Q:Option Int->Hp->Prop),Inv X a σ H s->t σ H Q->
  wpAny (model X.prog X.w) X.A (evalPart e X.env) (λu s'=>∃o H',Inv X a σ H' s'/\IsPart u o/\Q o H') X.xe s
def Zel(t:TE):TO:=λσ H Q=>t σ H λx a=>∃i,x=.int i/\Q (some i) a
section
variable {X:Cx}{e:Expr}{te:TE}{lo hi:Option Expr}{tl th:TO}{pos p2:Pos}
theorem Zes(h:PE X e te):PO X (some e) (Zel te):=by
 intro a s σ H Q I hw;rw[evalPart_some];refine jf (h a s σ H _ I hw) λu b ⟨x,H1,I1,r1,q1⟩=>?_;obtain⟨i,rfl,q⟩:=q1;obtain⟨t,rfl⟩:=r1;exact⟨some i,H1,I1,.int i t,q⟩
def SlR(X:Cx)(r:V->Option Int->Option Int->Hp->VK->Prop):Prop:=
 ∀(a:List (Addr×Obj)) (s:Shared) (σ:St) (H:Hp) (x:V) (v b c:Value) (lo hi:Option Int) (sl:Addr) (Q:VK),Inv X a σ H s->RelV x v->s.heap.IsSliceOf sl b c .none->IsPart b lo->IsPart c hi->r x lo hi H Q->
  ∃T id,typeLookup (.type T) "__getitem__"=pure (some (.builtin id))/\s.TypeIs v T/\wpAny (model X.prog X.w) X.A (getItem v (.ref sl)) (EP X a σ Q) X.xe s
def tSl(r:V->Option Int->Option Int->Hp->VK->Prop)(te:TE)(tl th:TO):TE:=λσ H Q=>te σ H λx c=>tl σ c λl b=>th σ b λu a=>r x l u a Q
theorem Zj1{r:V->Option Int->Option Int->Hp->VK->Prop}(hr:SlR X r)(k:PE X e te)(hl:PO X lo tl)(hu:PO X hi th):PE X (.Subscript e (.Slice lo hi none p2) pos) (tSl r te tl th):=by
 intro a s σ H Q I h;refine Subscript_ (jf (k a s σ H _ I h) λv g ⟨x,H1,I1,r1,q1⟩=>?_);refine wpAny_Slice (jf (hl a g σ H1 _ I1 q1) λd m ⟨l,H2,I2,pl,q2⟩=>jf (hu a m σ H2 _ I2 q2) λf c ⟨u,H3,I3,pu,q3⟩=>?_);rw[evalPart_none];refine wpAny_pure ?_;have i:Inv X a σ H3 { c with heap:=c.heap.push { cls:=.type "slice",data:=.fields #[d,f,.none] } }:=I3.kept (t':=c.toks) λb ob q=>Heap.get?_push_of_some _ q;obtain⟨T,id,n,o,j⟩:=hr a { c with heap:=c.heap.push { cls:=.type "slice",data:=.fields #[d,f,.none] } } σ H3 x v d f l u c.heap.objs.size Q i r1 (Heap.IsSliceOf.new ..) pl pu q3;show wpAny (model X.prog X.w) X.A (subscriptTail e (.Slice lo hi none p2) v (.ref c.heap.objs.size)) (EP X a σ Q) X.xe { c with heap:=c.heap.push { cls:=.type "slice",data:=.fields #[d,f,.none] } };exact tail_any (ops:=[.ref c.heap.objs.size,v]) o n j (by with_unfolding_all rfl)
def Zho(xs:List V)(lo hi:Option Int):List V:=(xs.drop (HT.Y5 xs.length 0 lo)).take (HT.Y5 xs.length xs.length hi - HT.Y5 xs.length 0 lo)
theorem Zao(xs:List V)(lo hi:Option Int):(Zho xs lo hi).length<=xs.length:=by
 unfold Zho;rw[List.length_take,List.length_drop];omega
def Zpn(K:aC):R2:=λx y H Q=>∃a b xs c,x=.ref a/\y=.ref b/\je K H a xs/\je K H b c/\xs≠[]/\xs.length+c.length<=sizeLine/\
 (c=[]->Q (.ref a) H)/\(c≠[]->∀p,H p=none->Q (.ref p) (upd H p (.tup (xs++c))))
theorem Vals.Xr{xs:List V}{us:List Value}(r:Vals xs us):us=[]↔xs=[]:=by
 cases r with
 | nil=>simp
 | cons _ _=>simp
theorem Znj:Ak X (binaryOp .Add) (Zpn X.K):=by
 intro e s σ H x y v u Q I n k h;obtain⟨a,b,xs,g,rfl,rfl,p,hb,hx,hz,j,l⟩:=h;cases n;cases k;obtain⟨i,d,m,_⟩:=I.tuple p;obtain⟨f,c,p2,_⟩:=I.tuple hb;refine HT.Zp6 m p2 (λz=>hx (d.Xr.mp z)) (λz=>⟨.ref a,H,I,rfl,j (c.Xr.mp z)⟩) (λz=>?_) (by rw[<- d.length,<- c.length];exact hz);refine⟨.ref s.heap.objs.size,_,I.laid (t':=s.toks) (o:=.tup (xs++g)) (λb ob q=>Heap.get?_push_of_some _ q) (Nat.le_refl _) ?_,rfl,l (λw=>z (c.Xr.mpr w)) _ (I.hok.fresh (Nat.le_refl _))⟩;exact⟨by rw[List.length_append];exact hz,_,d.append c,IsTup.new _ _⟩
end
end L2
namespace L2
open PySem PySem.Spec PyProof.Rows
def ixN(n:Nat)(i:Int):Option Nat:=if 0<=i then(if i<n then some i.toNat else none)else if -(n:Int)<=i then some (i+n).toNat else none
def atI{a:Type}(xs:List a)(i:Int):Option a:=(ixN xs.length i).bind λj=>xs[j]?
theorem Zf3{n:Nat}{i:Int}{j:Nat}(h:ixN n i=some j):seqIndex? i n=some j/\j<n/\-(n:Int)<=i/\i<n:=by
 unfold ixN at h
 by_cases a:0<=i
 ·rw[if_pos a]at h
  by_cases h1:i<n
  ·rw[if_pos h1]at h;have e:i.toNat=j:=Option.some.inj h;exact⟨by rw[seqIndex_of a h1,e],by omega,by omega,h1⟩
  ·rw[if_neg h1]at h;cases h
 ·rw[if_neg a]at h
  by_cases h1:-(n:Int)<=i
  ·rw[if_pos h1]at h;have e:(i+n).toNat=j:=Option.some.inj h;exact⟨by rw[seqIndex_neg (by omega) h1,e],by omega,h1,by omega⟩
  ·rw[if_neg h1]at h;cases h
theorem Ym{a:Type}{xs:List a}{i:Int}{v:a}(h:atI xs i=some v):∃j,seqIndex? i xs.length=some j/\xs[j]? =some v/\j<xs.length/\-(xs.length:Int)<=i/\i<xs.length:=by
 unfold atI at h;cases e:ixN xs.length i with
 | none=>rw[e]at h;cases h
 | some j=>
  rw[e]at h;obtain⟨h1,h2,h3,h4⟩:=Zf3 e;exact⟨j,h1,h,h2,h3,h4⟩
theorem jl{a:Type}{xs:List a}{j:Nat}{v:a}(h:xs[j]? =some v):atI xs (j:Int)=some v:=by
 have hj:j<xs.length:=(dX h).1;have e:ixN xs.length (j:Int)=some j:=by
  unfold ixN;rw[if_pos (by omega),if_pos (by omega)];simp
 unfold atI;rw[e];exact h
def YH(b:Expr):Prop:=∀o i,subscripted b false o i=operate [o,i] (getItem o i)
def IxR(X:Cx)(r:R2):Prop:=
 ∀(c a:Expr) (b:List (Addr×Obj)) (s:Shared) (σ:St) (H:Hp) (x y:V) (v u:Value) (Q:VK),Inv X b σ H s->RelV x v->RelV y u->r x y H Q->
  subscripted a false v u=operate [v,u] (getItem v u)->wpAny (model X.prog X.w) X.A (subscriptTail c a v u) (EP X b σ Q) X.xe s
def MtR(X:Cx)(id:String)(r:V->List V->Hp->VK->Prop):Prop:=
 ∀(a:List (Addr×Obj)) (s:Shared) (σ:St) (H:Hp) (x:V) (xs:List V) (v:Value) (us:List Value) (Q:VK),Inv X a σ H s->RelV x v->Vals xs us->r x xs H Q->
  wpAny (model X.prog X.w) X.A (call (.builtin id) (v::us)) (EP X a σ Q) X.xe s
section
variable {X:Cx}{a b:Expr}{ta tb:TE}{pos:Pos}
theorem Zpp{r:R2}(hr:IxR X r)(j:PE X a ta)(hb:PE X b tb)(hs:YH b):PE X (.Subscript a b pos) (bF r ta tb):=by
 intro c s σ H Q I h;exact Subscript_ (Zso j hb I h λv u f x y e d i g q=>hr a b c f σ e x y v u Q d i g q (hs _ _))
def nD(K:aC):R2:=λx y H Q=>∃p xs i v,x=.ref p/\y=.int i/\cV K H p xs/\atI xs i=some v/\Q v H
def fD(K:aC):R2:=λx y H Q=>∃p xs i v,x=.ref p/\y=.int i/\je K H p xs/\atI xs i=some v/\Q v H
def Zim:R2:=λx y H Q=>∃z i c,x=.str z/\y=.int i/\z.length<=sizeLine/\atI z.cps.toList i=some c/\Q (.str ⟨#[c]⟩) H
theorem dU:IxR X (nD X.K):=by
 intro d c a s σ H x y v u Q I m l h hs;obtain⟨p,xs,i,z,rfl,rfl,hq,k,q⟩:=h;cases m;obtain⟨t,rfl⟩:=l;obtain⟨b,r,pl,hz⟩:=I.list hq;obtain⟨j,h1,h2,h3,h4,h5⟩:=Ym k;obtain⟨w,f,e⟩:=r.get h2;have hl:=r.length;have hn:=K7;have fin:EP X a σ Q w s:=⟨z,H,I,e,q⟩
 by_cases g:0<=i
 ·have hj:i.toNat=j:=by
   rw[seqIndex_of g h5]at h1;exact Option.some.inj h1
  exact item_listR pl.isList g (by omega) (by rw[hj];simpa using f) fin hs
 ·have hj:(i+(b.toArray.size:Int)).toNat=j:=by
   rw[seqIndex_neg (by omega) h4]at h1;rw[List.size_toArray,<- hl];exact Option.some.inj h1
  exact subscriptTail_builtinR (x:=w) pl.isList.typeIs slot_list_getitem.lookup
   (wpAny_getItem_list_neg (Q:=λr s'=>r=w/\EP X a σ Q r s') pl.isList (by omega) (by rw[List.size_toArray]<;>omega) (by omega) (by rw[hj];simpa using f) ⟨rfl,fin⟩) hs
theorem bO:IxR X (fD X.K):=by
 intro c b a s σ H x y v u Q I k g h hs;obtain⟨p,xs,i,z,rfl,rfl,hq,f,q⟩:=h;cases k;obtain⟨t,rfl⟩:=g;obtain⟨e,r,pl,hz⟩:=I.tuple hq;obtain⟨j,h1,h2,h3,h4,h5⟩:=Ym f;obtain⟨w,l,d⟩:=r.get h2;have hl:=r.length;have hn:=K7;have fin:EP X a σ Q w s:=⟨z,H,I,d,q⟩;exact subscriptTail_builtinR (x:=w) pl.typeIs slot_tuple_getitem.lookup
  (getItem_tuple (j:=j) (Q:=λr s'=>r=w/\EP X a σ Q r s') pl (by omega) (by omega) (by rw[List.size_toArray,<- hl];exact h1) (by simpa using l) ⟨rfl,fin⟩) hs
theorem Zkj:IxR X Zim:=by
 intro b a d s σ H x y v u Q I l k h hs;obtain⟨z,i,c,rfl,rfl,hz,g,q⟩:=h;obtain⟨t,rfl⟩:=l;obtain⟨t',rfl⟩:=k;obtain⟨j,h1,h2,h3,h4,h5⟩:=Ym g;have hl:z.cps.toList.length=z.length:=by simp[Str.length]
 rw[hl]at h1 h4 h5;have hn:=K7;exact tail_any (typeIs_str s z t) slot_str_getitem.lookup (getItem_str (c:=c) (by
  have e:decide (i < -(2 ^ 63:Int))=false:=decide_eq_false (by omega);have f:decide (i≥2 ^ 63)=false:=decide_eq_false (by omega);rw[e,f,Bool.or_false]) (by rw[h1];simpa using h2) ⟨.str ⟨#[c]⟩,H,I.tok _,⟨_,rfl⟩,q⟩) hs
theorem Zd9(a:List Value)(n j:Nat)(u:Value):Obj.mapSeq (·.setIfInBounds j u) { cls:=.type "list",data:=.seq a.toArray n }={ cls:=.type "list",data:=.seq (a.set j u).toArray n }:=by
 simp[Obj.mapSeq]
theorem Inv.lst{b:List (Addr×Obj)}{σ:St}{H:Hp}{s:Shared}{p:Addr}{xs:List V}(I:Inv X b σ H s)(h:H p=some (.lst xs)):
  ∃(a:List Value) (n:Nat),Vals xs a/\s.heap.get? p=some { cls:=.type "list",data:=.seq a.toArray n }/\xs.length<=sizeLine:=by
 obtain⟨z,a,n,r,e⟩:=I.hok p _ h;exact⟨a,n,r,e,z⟩
theorem Inv.Zr8{a:List (Addr×Obj)}{σ:St}{H:Hp}{s:Shared}{p:Addr}{xs g:List V}{c its':List Value}{n d:Nat}{f:Obj->Obj}(I:Inv X a σ H s)(h:H p=some (.lst xs))
  (j:s.heap.get? p=some { cls:=.type "list",data:=.seq c.toArray n }) (i:f { cls:=.type "list",data:=.seq c.toArray n }={ cls:=.type "list",data:=.seq its'.toArray d }) (r:Vals g its') (hz:g.length<=sizeLine) (t:Nat):
  Inv X a σ (upd H p (.lst g)) { s with heap:=s.heap.update p f,toks:=t }:=by
 have e:(s.heap.update p f).get? p=some { cls:=.type "list",data:=.seq its'.toArray d }:=by
  rw[Heap.get?_update_self f j (by rw[i]<;>rfl),i]
 refine I.write (x:=p) (e:=p) (by rw[h];trivial) (.inl rfl) (λb u hb q=>(Heap.get?_update_other _ _ (Ne.symm hb)).trans q) ⟨_,e⟩ ?_;exact⟨hz,its',d,r,e⟩
def Ed:V->V->V->Hp->(Hp->Prop)->Prop:=λo i v H Q=>∃p xs k j,o=.ref p/\i=.int k/\H p=some (.lst xs)/\ixN xs.length k=some j/\Q (upd H p (.lst (xs.set j v)))
theorem set_list:Zut X Ed:=by
 intro b s σ H o i v m w u Q I f g l h;obtain⟨p,xs,k,j,rfl,rfl,hp,hj,q⟩:=h;cases f;obtain⟨t,rfl⟩:=g;obtain⟨a,n,r,c,hz⟩:=I.lst hp;obtain⟨h1,h2,h3,h4⟩:=Zf3 hj;have hl:=r.length;have hn:=K7;have d:Inv X b σ (upd H p (.lst (xs.set j v))) { s with heap:=s.heap.update p (Obj.mapSeq (·.setIfInBounds j u)) }:=
  I.Zr8 hp c (Zd9 a n j u) (r.set l j) (by rw[List.length_set];exact hz) s.toks
 by_cases e:0<=k
 ·have hk:k.toNat=j:=by
   rw[seqIndex_of e h4]at h1;exact Option.some.inj h1
  exact W.ki_setAt c e (by omega) (by rw[List.size_toArray,<- hl];exact h4) (by rw[hk];exact⟨_,d,q⟩)
 ·have hk:(k+(a.toArray.size:Int)).toNat=j:=by
   rw[seqIndex_neg (by omega) h3]at h1;rw[List.size_toArray,<- hl];exact Option.some.inj h1
  exact W.ki_setBack c (by omega) (by rw[List.size_toArray,<- hl];exact h3) (by omega) (by rw[hk];exact⟨_,d,q⟩)
theorem Wb(lo hi:Option Int)(n:Nat):(sliceBounds lo hi none n).1=((HT.Y5 n 0 lo:Nat):Int)/\(sliceBounds lo hi none n).2.1=((HT.Y5 n n hi:Nat):Int)/\(sliceBounds lo hi none n).2.2=1:=by
 refine⟨?_,?_,rfl⟩
 ·cases lo with
  | none=>simp[sliceBounds,HT.Y5]
  | some i=>
   simp only[sliceBounds,HT.Y5,Option.getD_none,show(1:Int) > 0 by decide,if_true]
   by_cases h:i<0
   ·simp only[h,if_true]<;>omega
   ·simp only[h,if_false]<;>omega
 ·cases hi with
  | none=>simp[sliceBounds,HT.Y5]
  | some i=>
   simp only[sliceBounds,HT.Y5,Option.getD_none,show(1:Int) > 0 by decide,if_true]
   by_cases h:i<0
   ·simp only[h,if_true]<;>omega
   ·simp only[h,if_false]<;>omega
theorem RT(a:List Value)(lo hi:Option Int):slicePick a.toArray lo hi none=((a.drop (HT.Y5 a.length 0 lo)).take (HT.Y5 a.length a.length hi - HT.Y5 a.length 0 lo)).toArray:=by
 obtain⟨h1,h2,h3⟩:=Wb lo hi a.toArray.size;unfold slicePick;rw[h1,h2,h3];simp only[sliceRange_one,pick_run,List.size_toArray]<;>rfl
def Zta(K:aC):V->Option Int->Option Int->Hp->VK->Prop:=λx lo hi H Q=>∃a xs,x=.ref a/\cV K H a xs/\∀p,H p=none->Q (.ref p) (upd H p (.lst (Zho xs lo hi)))
theorem Zmg:SlR X (Zta X.K):=by
 intro d s σ H x v j k lo hi sl Q I i hs pl g h;obtain⟨a,xs,rfl,hx,q⟩:=h;cases i;obtain⟨f,r,e,hz⟩:=I.list hx;have c:=r.length;refine⟨"list",_,slot_list_getitem.lookup,e.isList.typeIs,?_⟩;refine wpAny_getItem_list_slice e.isList hs pl g .none (by simp) ?_ (by rw[List.size_toArray]<;>omega);rw[RT,<- c];refine⟨.ref s.heap.objs.size,_,I.laid (t':=s.toks) (o:=.lst (Zho xs lo hi)) (λb ob q=>Heap.get?_push_of_some _ q) (Nat.le_refl _) ?_,rfl,q _ (I.hok.fresh (Nat.le_refl _))⟩;exact⟨Nat.le_trans (Zao xs lo hi) hz,_,0,(r.drop (HT.Y5 xs.length 0 lo)).take (HT.Y5 xs.length xs.length hi - HT.Y5 xs.length 0 lo),Heap.get?_push_size _ rfl⟩
def Ae:V->Bool
 | .non=>true
 | .bl _=>true
 | .int _=>true
 | .str _=>true
 | _=>false
def eqV:V->V->Bool
 | .non,.non=>true
 | .bl a,.bl b=>a == b
 | .bl a,.int b=>(if a then 1 else 0) == b
 | .int a,.bl b=>a == (if b then 1 else 0)
 | .int a,.int b=>a == b
 | .str a,.str b=>a == b
 | _,_=>false
theorem Gh{A:Around}{s:Shared}{y x:V}{u v:Value}(e:RelV y u)(c:RelV x v)(f:Ae y=true)(d:Ae x=true):SeqAt.EqAt A s u v (eqV y x):=by
 cases y with
 | non=>
  cases e;cases x with
  | non=>cases c;exact SeqAt.EqAt.same _
  | bl b=>cases c;exact SeqAt.EqAt.none_bool b
  | int b=>obtain⟨t,rfl⟩:=c;exact SeqAt.EqAt.none_int b t
  | str b=>obtain⟨t,rfl⟩:=c;exact SeqAt.EqAt.none_str b t
  | _=>exact absurd (show false=true from d) Bool.false_ne_true
 | bl a=>
  cases e;cases x with
  | non=>cases c;exact SeqAt.EqAt.bool_none a
  | bl b=>cases c;exact SeqAt.EqAt.bool_bool a b
  | int b=>obtain⟨t,rfl⟩:=c;exact SeqAt.EqAt.bool_int a b t
  | str b=>obtain⟨t,rfl⟩:=c;exact SeqAt.EqAt.bool_str a b t
  | _=>exact absurd (show false=true from d) Bool.false_ne_true
 | int a=>
  obtain⟨t',rfl⟩:=e;cases x with
  | non=>cases c;exact SeqAt.EqAt.int_none a t'
  | bl b=>cases c;exact SeqAt.EqAt.int_bool a t' b
  | int b=>obtain⟨t,rfl⟩:=c;exact SeqAt.EqAt.int_int a t' b t
  | str b=>obtain⟨t,rfl⟩:=c;exact SeqAt.EqAt.int_str a t' b t
  | _=>exact absurd (show false=true from d) Bool.false_ne_true
 | str a=>
  obtain⟨t',rfl⟩:=e;cases x with
  | non=>cases c;exact SeqAt.EqAt.str_none a t'
  | bl b=>cases c;exact SeqAt.EqAt.str_bool a t' b
  | int b=>obtain⟨t,rfl⟩:=c;exact SeqAt.EqAt.str_int a t' b t
  | str b=>obtain⟨t,rfl⟩:=c;exact SeqAt.EqAt.str_str a t' b t
  | _=>exact absurd (show false=true from d) Bool.false_ne_true
 | _=>exact absurd (show false=true from f) Bool.false_ne_true
def eqU(x:V)(u:Value):Bool:=match u with
 | .none=>eqV .non x
 | .bool b=>eqV (.bl b) x
 | .int i _=>eqV (.int i) x
 | .str z _=>eqV (.str z) x
 | _=>false
theorem Zlk{x y:V}{u:Value}(r:RelV y u)(f:Ae y=true):eqU x u=eqV y x:=by
 cases y with
 | non=>cases r;rfl
 | bl b=>cases r;rfl
 | int i=>obtain⟨t,rfl⟩:=r;rfl
 | str z=>obtain⟨t,rfl⟩:=r;rfl
 | _=>exact absurd (show false=true from f) Bool.false_ne_true
theorem Yn{x:V}:∀{xs:List V}{us:List Value},Vals xs us->xs.all Ae=true->us.any (eqU x)=xs.any λy=>eqV y x
 | _,_,.nil,_=>rfl
 | y::xs,u::us,.cons r t,f=>by
  rw[List.all_cons,Bool.and_eq_true]at f;rw[List.any_cons,List.any_cons,Zlk r f.1,Yn t f.2]
theorem QB{A:Around}{s:Shared}{x:V}{v:Value}(b:RelV x v)(a:Ae x=true):∀{xs:List V}{us:List Value},Vals xs us->xs.all Ae=true->∀u∈us,SeqAt.EqAt A s u v (eqU x u)
 | _,_,.nil,_=>λu hu=>by cases hu
 | y::xs,u::us,.cons r t,f=>λc hu=>by
  rw[List.all_cons,Bool.and_eq_true]at f;rcases List.mem_cons.mp hu with rfl | hu
  ·rw[Zlk r f.1];exact Gh r b f.1 a
  ·exact QB b a t f.2 c hu
def inV(x:V)(xs:List V):Bool:=xs.any λy=>eqV y x
def rIn(K:aC)(a:Bool):R2:=λx y H Q=>∃p xs,y=.ref p/\(cV K H p xs\/je K H p xs)/\Ae x=true/\xs.all Ae=true/\Q (.bl (if a then !inV x xs else inV x xs)) H
theorem U0:Ak X (compareOp .In) (rIn X.K false):=by
 intro c s σ H x y v u Q I d e h;obtain⟨p,xs,rfl,hq,b,fs,q⟩:=h;cases e;rcases hq with hq | hq
 ·obtain⟨a,r,pl,hz⟩:=I.list hq;refine SeqAt.in_listAt (eqU x) pl.isList (λw hw=>QB d b r fs w (by simpa using hw)) ⟨.bl _,H,I,rfl,?_⟩;rw[show a.toArray.any (eqU x)=a.any (eqU x) by simp,Yn r fs];exact q
 ·obtain⟨a,r,pl,hz⟩:=I.tuple hq;refine SeqAt.in_tupleAt (eqU x) pl (λw hw=>QB d b r fs w (by simpa using hw)) ⟨.bl _,H,I,rfl,?_⟩;rw[show a.toArray.any (eqU x)=a.any (eqU x) by simp,Yn r fs];exact q
theorem Yi:Ru X (.builtin "len") (λxs H Q=>∃p b,xs=[.ref p]/\(cV X.K H p b\/je X.K H p b)/\Q (.int b.length) H):=by
 intro e s σ H xs us Q I r h;obtain⟨p,b,rfl,hq,q⟩:=h;obtain⟨u,rfl,f⟩:=vals1 r;cases f;have hn:=K7;rcases hq with hq | hq
 ·obtain⟨c,d,pl,hz⟩:=I.list hq;have a:=d.length;exact Calls.call_len_list pl.isList (by simp only[List.size_toArray]<;>omega) ⟨.int b.length,H,I.tok _,⟨s.toks+1,by rw[List.size_toArray,a]⟩,q⟩
 ·obtain⟨c,d,pl,hz⟩:=I.tuple hq;have a:=d.length;exact len_tuple pl (by simp only[List.size_toArray]<;>omega) ⟨.int b.length,H,I.tok _,⟨s.toks+1,by rw[List.size_toArray,a]⟩,q⟩
theorem Jm:Ru X (.type "list") (λxs H Q=>∃p c,xs=[.ref p]/\(cV X.K H p c\/je X.K H p c)/\∀l,H l=none->Q (.ref l) (upd H l (.lst c))):=by
 intro f s σ H xs us Q I r h;obtain⟨p,c,rfl,hq,q⟩:=h;obtain⟨u,rfl,k⟩:=vals1 r;cases k;have fin:∀(a:List Value),Vals c a->c.length<=sizeLine->∀(h':Heap) (c':Nat),(∀b j,s.heap.get? b=some j->h'.get? b=some j)->
   h'.get? s.heap.objs.size=some { cls:=.type "list",dict:=none,data:=.seq a.toArray c',slots:=#[] }->EP X f σ Q (.ref s.heap.objs.size) { s with heap:=h' }:=λa d hz h' c' kp e=>
  ⟨.ref s.heap.objs.size,_,I.laid (t':=s.toks) kp (Nat.le_refl _) (show lY X.prog X.w _ h' _ (.lst c)from⟨hz,a,c',d,e⟩),rfl,q _ (I.hok.fresh (Nat.le_refl _))⟩
 rcases hq with hq | hq
 ·obtain⟨a,d,pl,hz⟩:=I.list hq;have g:=d.length;obtain⟨o,i,hc,n,hd⟩:=pl.isList;exact call_list_seq p (.inl rfl) i hc hd (λh' c' kp e=>fin a d hz h' c' kp e) (by simp only[List.size_toArray]<;>omega)
 ·obtain⟨a,d,pl,hz⟩:=I.tuple hq;have g:=d.length;obtain⟨o,i,hc,n,hd⟩:=pl;exact call_list_seq p (.inr rfl) i hc hd (λh' c' kp e=>fin a d hz h' c' kp e) (by simp only[List.size_toArray]<;>omega)
def tyV(K:aC)(T:String)(x:V)(H:Hp):Prop:=match x with
 | .str _=>T="str"
 | .int _=>T="int"
 | .ref p=>(T="list"/\∃xs,cV K H p xs)\/(T="tuple"/\∃o,K.lookup p=some o/\o.cls=.type "tuple"/\o.dict=none)\/
   (T="dict"/\((∃a,H p=some (.dK a))\/∃a,H p=some (.dT a)))\/(T="set"/\∃S n,H p=some (.set S n))
 | _=>False
theorem Zhy{b:List (Addr×Obj)}{σ:St}{H:Hp}{s:Shared}{T:String}{x:V}{v:Value}(I:Inv X b σ H s)(r:RelV x v)(ty:tyV X.K T x H):
  s.TypeIs v T/\∀a,v=.ref a->∃ob,s.heap.get? a=some ob/\ob.dict=none:=by
 cases x with
 | str z=>
  obtain⟨t,rfl⟩:=r;cases (show T="str" from ty);exact⟨typeIs_str s z t,λ_ e=>nomatch e⟩
 | int i=>
  obtain⟨t,rfl⟩:=r;cases (show T="int" from ty);exact⟨typeIs_int s i t,λ_ e=>nomatch e⟩
 | ref p=>
  cases r;rcases ty with ⟨rfl,xs,hq⟩ | ⟨rfl,o,hk,hc,hd⟩ | ⟨rfl,hk⟩ | ⟨rfl,S,n,hk⟩
  ·obtain⟨g,_,pl,_⟩:=I.list hq;refine⟨pl.isList.typeIs,λa e=>?_⟩;cases e;obtain⟨o,n,e,c,hd,_⟩:=pl;exact⟨o,e,hd⟩
  ·refine⟨⟨o,I.Oj p o hk,hc⟩,λa e=>?_⟩;cases e;exact⟨o,I.Oj _ o hk,hd⟩
  ·have z:∃o,s.heap.get? p=some o/\o.ExactDict:=by
    rcases hk with ⟨f,hk⟩ | ⟨f,hk⟩
    ·obtain⟨_,_,_,_,o,_,_,e,ex,_⟩:=I.hok p _ hk;exact⟨o,e,ex⟩
    ·obtain⟨_,_,_,_,o,_,_,e,ex,_⟩:=I.hok p _ hk;exact⟨o,e,ex⟩
   obtain⟨o,e,ex⟩:=z;refine⟨⟨o,e,ex.1⟩,λa d=>?_⟩;cases d;exact⟨o,e,ex.2.1⟩
  ·obtain⟨o,_,_,_,e,ex,_⟩:=I.hok p _ hk;refine⟨⟨o,e,ex.1⟩,λa d=>?_⟩;cases d;exact⟨o,e,ex.2.1⟩
 | _=>exact False.elim ty
def Zq7(K:aC)(T:String)(r:V->List V->Hp->VK->Prop)(to:TE):TE:=λσ H Q=>to σ H λx a=>tyV K T x a/\r x [] a Q
def tBM(K:aC)(T:String)(r:V->List V->Hp->VK->Prop)(to:TE)(t:TA):TE:=λσ H Q=>to σ H λx a=>tyV K T x a/\t σ a λxs b=>r x xs b Q
variable {o e:Expr}{es:List Expr}{to:TE}{t:TA}{name:Str}{apos cpos:Pos}{T id:String}{r:V->List V->Hp->VK->Prop}
theorem Zqn(g:PlainAttrs T)(slot:Slot T name id)(d:typeOf (.builtin id)=pure (.type "method_descriptor"))(hm:MtR X id r)(e:PE X o to)
  (b:attributeBase o name X.env (eval o X.env)=eval o X.env:=by rfl) (c:(apos.endLine == cpos.line)=true:=by rfl):PE X (.Call (.Attribute o name apos) [] [] cpos) (Zq7 X.K T r to):=by
 intro a s σ H Q I h;refine wpAny_Call_method0_late b c (jf (e a s σ H _ I h) λv f ⟨x,H1,I1,r1,ty,q1⟩=>?_);obtain⟨h1,h2⟩:=Zhy I1 r1 ty;exact⟨T,id,g,slot,d,h1,h2,Calls.callWith_builtin rfl (PySem.evalArgs_none (hm a f σ H1 x [] v [] Q I1 r1 .nil q1))⟩
theorem Ef(n:PlainAttrs T)(slot:Slot T name id)(g:typeOf (.builtin id)=pure (.type "method_descriptor"))(hm:MtR X id r)(j:PE X o to)(w:PA X (e::es) t)
  (c:attributeBase o name X.env (eval o X.env)=eval o X.env:=by rfl)
  (f:((backTo cpos (starEach (e::es) X.env)).all (λx=>!x.1) && (backToKw cpos (keywordEach [] X.env)).all (λx=>x.1.isSome)
   && decide ((e::es).length+([]:List Keyword).length+(if ([]:List Keyword).isEmpty then 0 else 1)<30))=true:=by rfl)
  (d:(apos.endLine == cpos.line)=true:=by rfl) (hs:starEach (e::es) X.env=(false,eval e X.env)::starEach es X.env:=by rfl) (b:(backTo cpos (starEach es X.env)).any (·.1)=false:=by rfl):
  PE X (.Call (.Attribute o name apos) (e::es) [] cpos) (tBM X.K T r to t):=by
 intro a s σ H Q I h;refine wpAny_Call_method_late c f d rfl (jf (j a s σ H _ I h) λv l ⟨x,H1,I1,r1,ty,q1⟩=>?_);obtain⟨h1,h2⟩:=Zhy I1 r1 ty;refine⟨T,id,n,slot,g,h1,h2,?_⟩;have i:=w cpos a l σ H1 _ I1 q1;rw[hs]at i ⊢;refine Calls.callWith_builtin (by show(false || (backTo cpos (starEach es X.env)).any (·.1))=false;rw[b]<;>rfl) (Calls.evalArgs_plain ?_);exact jf i λus q ⟨vs,p,m,k,u⟩=>hm a q σ p x vs v us Q m r1 k u
end
end L2
namespace L2
open PySem PySem.Spec PyProof.Rows
def MtM(X:Cx)(id:String)(r:V->List V->Hp->VK->Prop):Prop:=
 ∀(a:List (Addr×Obj)) (s:Shared) (σ:St) (H:Hp) (x:V) (xs:List V) (v:Value) (us:List Value) (Q:VK),Inv X a σ H s->RelV x v->Vals xs us->r x xs H Q->
  wpAny (model X.prog X.w) X.A (call (.builtin id) (v::us)) (EP X a σ Q) X.xe s
theorem Vals.one:∀{x:V}{us:List Value},Vals [x] us->∃u,us=[u]/\RelV x u
 | _,_,.cons r .nil=>⟨_,rfl,r⟩
theorem Vals.zero:∀{us:List Value},Vals [] us->us=[]
 | _,.nil=>rfl
theorem Vals.dropLast{xs:List V}{us:List Value}(h:Vals xs us):Vals xs.dropLast us.dropLast:=by
 induction h with
 | nil=>exact .nil
 | cons r t ih=>
  cases t with
  | nil=>exact .nil
  | cons q t'=>exact .cons r ih
theorem Vals.eraseIdx:∀{xs:List V}{us:List Value} (i:Nat),Vals xs us->Vals (xs.eraseIdx i) (us.eraseIdx i)
 | _,_,_,.nil=>.nil
 | _,_,0,.cons _ t=>t
 | _,_,i+1,.cons r t=>.cons r (Vals.eraseIdx i t)
theorem Vals.rep{xs:List V}{us:List Value}(h:Vals xs us):∀k:Nat,Vals (List.replicate k xs).flatten (List.replicate k us).flatten
 | 0=>.nil
 | k+1=>by
  rw[List.replicate_succ,List.replicate_succ,List.flatten_cons,List.flatten_cons];exact Vals.append h (Vals.rep h k)
theorem Ze0{c:Type}(l:List c):l.eraseIdx (l.length - 1)=l.dropLast:=by
 induction l with
 | nil=>rfl
 | cons a r ih=>
  cases r with
  | nil=>rfl
  | cons b r=>
   have e:(a::b::r).length - 1=((b::r).length - 1)+1:=by
    have h1:(a::b::r).length=r.length+2:=rfl;have h2:(b::r).length=r.length+1:=rfl;omega
   rw[e,List.eraseIdx_cons_succ,ih]
   all_goals rfl
theorem Vc{a:Type}:∀(l:List a) (i:Nat),(l.eraseIdx i).length<=l.length
 | [],_=>Nat.le_refl _
 | _::_,0=>Nat.le_succ _
 | _::r,i+1=>Nat.succ_le_succ (Vc r i)
theorem foldl_rep(a:List Value):∀(k:Nat) (acc:List Value),
  List.foldl (λd c=>d++c) acc.toArray (List.replicate k a.toArray)=(acc++(List.replicate k a).flatten).toArray
 | 0,acc=>by simp
 | k+1,acc=>by
  have e:acc.toArray++a.toArray=(acc++a).toArray:=by simp
  have b:(acc++a)++(List.replicate k a).flatten=acc++(List.replicate (k+1) a).flatten:=by
   rw[List.replicate_succ,List.flatten_cons,List.append_assoc]
  rw[<- b,<- foldl_rep a k (acc++a),<- e,List.replicate_succ,List.foldl_cons]
section
variable {X:Cx}{pins:List (Addr×Obj)}{σ:St}{H:Hp}{s:Shared}{l b:Addr}{xs ys zs:List V}
theorem Inv.Zny{a its':List Value}{n:Nat}{f:Array Value->Array Value}{t':Nat}(I:Inv X pins σ H s)(c:H l=some (.lst xs))
  (e:s.heap.get? l=some { cls:=.type "list",data:=.seq a.toArray n }) (b:f a.toArray=its'.toArray) (hv:Vals ys its') (hz:ys.length<=sizeLine):
  Inv X pins σ (upd H l (.lst ys)) { s with heap:=s.heap.update l (Obj.mapSeq f),toks:=t' }:=by
 have q:=PySem.IsL.update e f;rw[b]at q;refine I.write (x:=l) (e:=l) (by rw[c];exact trivial) (.inl rfl) (λd u hb hu=>(Heap.get?_update_other s.heap (Obj.mapSeq f) (Ne.symm hb)).trans hu) ⟨_,q⟩ ?_;exact⟨hz,its',_,hv,q⟩
theorem Inv.Ztn{a:List Value}{t':Nat}(I:Inv X pins σ H s)(hv:Vals ys a)(hz:ys.length<=sizeLine):
  Inv X pins σ (upd H s.heap.objs.size (.lst ys)) { s with heap:=s.heap.push { cls:=.type "list",data:=.seq a.toArray },toks:=t' }:=
 I.laid (λ_ _ q=>Heap.get?_push_of_some _ q) (Nat.le_refl _) ⟨hz,a,0,hv,Heap.get?_push_size _ rfl⟩
theorem Inv.fresh(I:Inv X pins σ H s):H s.heap.objs.size=none:=I.hok.fresh (Nat.le_refl _)
theorem Inv.Za3(I:Inv X pins σ H s)(b:H l=some (.lst xs)):xs.length<=sizeLine/\∃(a:List Value) (n:Nat),Vals xs a/\xs.length=a.length/\s.heap.get? l=some { cls:=.type "list",data:=.seq a.toArray n }:=by
 obtain⟨z,a,n,r,e⟩:=I.hok l _ b;exact⟨z,a,n,r,r.length,e⟩
theorem ZV{n:Nat}(h:n<=sizeLine):Builtin.List.listTooLong n=false:=by
 unfold Builtin.List.listTooLong;exact decide_eq_false (by omega)
end
section
variable {X:Cx}
def zE:V->List V->Hp->VK->Prop:=λx vs H Q=>∃l xs y,x=.ref l/\vs=[y]/\H l=some (.lst xs)/\xs.length<sizeLine/\Q .non (upd H l (.lst (xs++[y])))
theorem rH:MtM X "list.append" zE:=by
 intro b s σ H x vs v us Q I g f h;obtain⟨l,xs,y,rfl,rfl,c,hz,q⟩:=h;cases g;obtain⟨u,rfl,d⟩:=f.one;obtain⟨z,a,n,r,hl,e⟩:=I.Za3 c;refine call_meets F.slot_list_append ⟨_,e,rfl⟩ F.entry_list_append (F.args_list_append_2 _ _) (PySem.list_append l a.toArray n u (by rw[List.size_toArray];omega)) ⟨e,?_⟩;refine⟨.non,_,I.Zny (its':=a++[u]) c e (by simp) (r.append (.cons d .nil)) ?_,rfl,q⟩;rw[List.length_append,List.length_singleton];omega
def N8:V->List V->Hp->VK->Prop:=λx vs H Q=>∃l b xs a,x=.ref l/\vs=[.ref b]/\H l=some (.lst xs)/\H b=some (.lst a)/\xs.length+a.length<=sizeLine/\Q .non (upd H l (.lst (xs++a)))
theorem KN:MtM X "list.extend" N8:=by
 intro f s σ H x vs v us Q I p m h;obtain⟨l,b,xs,y,rfl,rfl,g,o,hz,q⟩:=h;cases p;obtain⟨u,rfl,k⟩:=m.one;cases k;obtain⟨z,c,n,r,hl,e⟩:=I.Za3 g;obtain⟨w,a,n2,i,t,j⟩:=I.Za3 o;have hsz:c.toArray.size+a.toArray.size<=sizeLine:=by rw[List.size_toArray,List.size_toArray];omega
 have d:¬ (!c.toArray.isEmpty && Builtin.List.listTooLong (c.toArray.size+a.toArray.size))=true:=by
  rw[ZV hsz,Bool.and_false];exact Bool.false_ne_true
 refine call_meets F.slot_list_extend ⟨_,e,rfl⟩ F.entry_list_extend (F.args_list_extend_2 _ _)
  (AutoSeq1.list_extend_list_list_0 l c.toArray n b a.toArray n2 d (by rw[List.size_toArray];omega) (by omega)) ⟨e,j,?_⟩
 refine⟨.non,_,I.Zny (its':=c++a) g e (by simp) (r.append i) ?_,rfl,q⟩;rw[List.length_append];omega
def Ztb:V->List V->Hp->VK->Prop:=λx vs H Q=>∃l xs y,x=.ref l/\vs=[]/\H l=some (.lst xs)/\xs[xs.length - 1]? =some y/\Q y (upd H l (.lst xs.dropLast))
theorem Zr5:MtM X "list.pop" Ztb:=by
 intro d s σ H x vs v us Q I j i h;obtain⟨l,xs,y,rfl,rfl,f,hy,q⟩:=h;cases j;have b:=i.zero;subst b;obtain⟨z,a,n,r,hl,e⟩:=I.Za3 f;obtain⟨u,hu,g⟩:=r.get hy;have c:a.toArray[a.toArray.size - 1]? =some u:=by
  show a.toArray[a.length - 1]? =some u;rw[<- Array.getElem?_toList,<- hl];exact hu
 refine call_meets F.slot_list_pop ⟨_,e,rfl⟩ F.entry_list_pop (F.args_list_pop_1 _) (MeetsSeq.list_pop_last l a.toArray n u c (by rw[List.size_toArray];omega)) ⟨e,?_⟩;refine⟨y,_,I.Zny (its':=a.dropLast) f e ?_ r.dropLast ?_,g,q⟩
 ·show a.toArray.eraseIdxIfInBounds (a.toArray.size - 1)=a.dropLast.toArray;rw[List.size_toArray,List.eraseIdxIfInBounds_toArray,Ze0]
 ·rw[List.length_dropLast];omega
def Zil:V->List V->Hp->VK->Prop:=λx vs H Q=>∃l xs i k y,x=.ref l/\vs=[.int i]/\H l=some (.lst xs)/\-(2 ^ 63)<=i/\i<2 ^ 63/\seqIndex? i xs.length=some k/\xs[k]? =some y/\Q y (upd H l (.lst (xs.eraseIdx k)))
theorem Zjt:MtM X "list.pop" Zil:=by
 intro c s σ H x vs v us Q I j g h;obtain⟨l,xs,i,k,y,rfl,rfl,d,h1,h2,hk,hy,q⟩:=h;cases j;obtain⟨u,rfl,f⟩:=g.one;obtain⟨t,rfl⟩:=f;obtain⟨z,a,n,r,hl,e⟩:=I.Za3 d;obtain⟨w,hw,b⟩:=r.get hy;refine call_meets F.slot_list_pop ⟨_,e,rfl⟩ F.entry_list_pop (F.args_list_pop_2 _ _)
  (MeetsSeq.list_pop_at l a.toArray n i t k w (fitsIndex_both h1 h2) (by rw[List.size_toArray,<- hl];exact hk) (by rw[<- Array.getElem?_toList];exact hw) (by rw[List.size_toArray];omega)) ⟨e,?_⟩
 refine⟨y,_,I.Zny (its':=a.eraseIdx k) d e ?_ (r.eraseIdx k) ?_,b,q⟩
 ·show a.toArray.eraseIdxIfInBounds k=(a.eraseIdx k).toArray;rw[List.eraseIdxIfInBounds_toArray]
 ·have:=Vc xs k;omega
def vd:R2:=λx y H Q=>∃l b xs a,x=.ref l/\y=.ref b/\H l=some (.lst xs)/\H b=some (.lst a)/\xs.length+a.length<=sizeLine/\∀p,H p=none->Q (.ref p) (upd H p (.lst (xs++a)))
theorem pJ:Ak X (binaryOp .Add) vd:=by
 intro d s σ H x y v u Q I o i h;obtain⟨l,b,xs,w,rfl,rfl,m,k,hz,q⟩:=h;cases o;cases i;obtain⟨z,c,n,r,hl,e⟩:=I.Za3 m;obtain⟨t,a,n2,f,p,g⟩:=I.Za3 k;refine PySem.P.add_list e g ?_ (by rw[List.size_toArray,List.size_toArray];omega);have j:c.toArray++a.toArray=(c++a).toArray:=by simp
 rw[j];exact⟨.ref _,_,I.Ztn (t':=s.toks) (r.append f) (by rw[List.length_append];omega),rfl,q _ I.fresh⟩
def Zt:R2:=λx y H Q=>∃l k xs,x=.ref l/\y=.int k/\H l=some (.lst xs)/\-(2 ^ 63)<=k/\k<2 ^ 63/\xs.length * k.toNat<=sizeLine/\
 ∀p,H p=none->Q (.ref p) (upd H p (.lst (List.replicate k.toNat xs).flatten))
theorem len_rep{a:Type}(xs:List a)(k:Nat):(List.replicate k xs).flatten.length=k * xs.length:=by
 induction k with
 | zero=>simp
 | succ k ih=>rw[List.replicate_succ,List.flatten_cons,List.length_append,ih,Nat.succ_mul,Nat.add_comm]
theorem Qg:Ak X (binaryOp .Mult) Zt:=by
 intro p s σ H x y v u Q I C w h;obtain⟨l,k,xs,rfl,rfl,A,h1,h2,hz,q⟩:=h;cases C;obtain⟨t,rfl⟩:=w;obtain⟨z,b,n,r,hl,e⟩:=I.Za3 A;have f:b.toArray.size * k.toNat<=sizeLine:=by rw[List.size_toArray,<- hl];exact hz
 have c:¬ b.toArray.size * k.toNat > (2 ^ 63 - 1) / 8:=by
  have:(sizeLine:Nat)<=(2 ^ 63 - 1) / 8:=by decide
  omega
 have g:¬ (!Builtin.List.listFitsIndex k)=true:=by
  rw[fitsIndex_both h1 h2];exact Bool.false_ne_true
 have i:¬ Builtin.List.listTooLong (b.toArray.size * k.toNat)=true:=by
  rw[ZV f];exact Bool.false_ne_true
 have d:List.foldl (λo j=>o++j) #[] (List.replicate (if b.toArray.isEmpty=true then 0 else k.toNat) b.toArray)=(List.replicate k.toNat b).flatten.toArray:=by
  have B:∀m:Nat,List.foldl (λo j=>o++j) #[] (List.replicate m b.toArray)=(List.replicate m b).flatten.toArray:=λm=>by
   have:=foldl_rep b m [];rw[List.nil_append]at this;exact this
  rw[B];cases b with
  | nil=>simp
  | cons a D=>rw[if_neg (by simp)]
 refine wpAny_binaryOp_repeat_ref (T:="list") (U:="int") (by decide) ⟨_,e,rfl⟩ (λs'=>typeIs_int s' k t) noFill_list_mul F.fills_int_mul F.slot_int_rmul repeat_list F.slot_int_index.lookup
  (call_meets F.slot_int_rmul (typeIs_int s k t) F.entry_int_rmul (F.args_int_rmul_2 _ _) (int___rmul___int_list k t l b.toArray n)
   ⟨e,rfl,⟨_,e,rfl⟩,call_meets F.slot_list_mul ⟨_,e,rfl⟩ F.entry_list_mul (F.args_list_mul_2 _ _) (AutoListH.list___mul___list_int_3 l b.toArray n k t g c i) ⟨e,?_⟩⟩)
 rw[d];exact⟨.ref _,_,I.Ztn (t':=s.toks) (r.rep k.toNat) (by rw[len_rep,Nat.mul_comm];exact hz),rfl,q _ I.fresh⟩
end
section
variable {prog:Program}{w:World}{A:Around}{E:Value->Shared->Prop}{s:Shared}
end
section
variable {X:Cx}
end
end L2
namespace Att
open PySem PySem.W PySem.Calls PyProof.Rows
theorem NQ{P:Params}{h:Heap}:∀(ns:List Int) (vs:List Value),WellAll P h vs (ns.map WData.int)->IntsAre vs ns:=by
 intro ns
 induction ns with
 | nil=>
  intro vs w;rw[List.map_nil]at w;cases w;exact .nil
 | cons n ns ih=>
  intro vs w;rw[List.map_cons]at w;cases w with
  | cons a b=>
   cases a;exact .cons _ _ (ih _ b)
theorem Zft{l:OpenLaw}{n:Nat}(hn:l.most=some n){P:Params}{h:Heap}{b:List WData}{e:List Value}
  (c:l.row.toRowW.claim.pre b=true) (i:WellAll P h e b):
  ∃a vs ns,e=[Value.ref a]/\b=[WData.list (ns.map WData.int)]/\h.get? a=some { cls:=.type "list",data:=.seq vs.toArray }/\IntsAre vs ns/\ns.length<=n:=by
 have j:WShape.hasAll [] b [.list .int]=true:=(pre_splitW c).1;have hc:l.pre.holds [] { args:=b }=true:=(pre_splitW c).2;obtain⟨d,r,rfl,h1,h2⟩:=hasAllW_cons j;obtain rfl:=hasAllW_nil h2;obtain⟨xs,rfl,h3⟩:=hasW_list h1;obtain⟨ns,rfl⟩:=items_int h3;have f:ns.length<=n:=by
  unfold OpenLaw.pre at hc;have h4:(WTm.not (.lt (.lit (.int (n:Int))) (.len (.arg 0)))).holds [] { args:=[.list (ns.map .int)] }=true:=by
   have h4:=(holds_andW hc).1;rw[hn]at h4;exact h4
  have h5:=condW_of h4 (w_not (w_lt w_lit (w_len_list (w_arg rfl))));rw[bx]at h5;refine Nat.le_of_not_lt λq=>?_;have p:(n:Int)<((ns.length:Nat):Int):=by omega
  first
   | (rw[decide_eq_true p]at h5;exact absurd h5 (by decide))
   | (simp at h5;omega)
 cases i with
 | cons m o=>
  cases o;cases m with
  | list k g=>exact⟨_,_,ns,rfl,rfl,k,NQ ns _ g,f⟩
theorem Zg1(l:OpenLaw)(a:List WData):l.row.toRowW.claim.post a (.bool true) a=true:=
 postW_of (r:=l.row.toRowW) (X:=(true == true))
  (show WShape.has [] (.bool true) .bool=true by first | rfl | decide | simp[WShape.has,WShape.arms,WShape.armsAll])
  (show(WTm.eq .res (.lit (.bool true))).value [] { args:=a,res:=some (.bool true),after:=a }=some (.bool (true == true))from w_eq_bool (w_res rfl) w_lit) rfl
theorem Zas{l:OpenLaw}{n:Nat}{q:Program}{c:List Str}{z:(Str->Option Value)->Heap->Prop}{C:World->Heap->Prop}{d:DefRec}
  (hn:l.most=some n) (m:d.params.defaults=[])
  (call:∀(w:World) (s₀ b:Shared) (mg s:Str->Option Value) (fa:Addr) (o:Obj) (t k g:Value) (a:Addr) (vs:List Value) (ns:List Int),
   Ground q c [] z w s₀ mg s b.heap->C w b.heap->
   b.heap.get? fa=some o->o.data=.func (docDef d.name d.params d.body d.scope t k g)->b.heap.CodeRec k d.name->mg d.name=some (.ref fa)->
   b.heap.get? a=some { cls:=.type "list",data:=.seq vs.toArray }->IntsAre vs ns->ns.length<=n->b.gens=#[]->
   codeAny (model l.prog w) callerA (.call (.ref fa) ⟨[.ref a],[]⟩) (λr s'=>r=.ok (.ret (.bool true))/\OldK b.heap s'.heap/\s'.os=b.os/\AllBare s'.gens) b):
  WalkO q c z C l.row.toRowW d [] (λf vs=>PySem.call f vs):=by
 intro w s₀ b mg s G Y fa o t k g dV kV D hd p A u H x B I i y E v F;obtain rfl:dV=.none:=Dflts.none A m;obtain rfl:kV=.none:=Dflts.noKw A;obtain⟨a,vs,ns,rfl,rfl,j,e,h⟩:=Zft hn i v;refine enter_call (codeAny_mono (call w s₀ b mg s fa o t k g a vs ns G Y D (fd_plain hd) p u j e h H) λr s' hq=>?_);obtain⟨rfl,h2,h3,h4⟩:=hq;exact⟨.inl ⟨.bool true,.bool true,[],rfl,λ_=>rfl,.bool true,Zg1 l _,λ_=>⟨List.Pairwise.nil,λ_ hm=>(nomatch hm)⟩⟩,h2,h3,h4⟩
section
variable {prog:Program}{w:World}{A:Around}{E:Value->Shared->Prop}{s:Shared}{K:Frag}
end
end Att
namespace L2
open PySem PySem.Spec PyProof.Rows
theorem Uh:∀{vs:List Value}{ns:List Int},IntsAre vs ns->Vals (ns.map V.int) vs
 | _,_,.nil=>.nil
 | _,_,.cons n t h=>.cons ⟨t,rfl⟩ (Uh h)
def Only(H:Hp):Prop:=∀b,H b=none\/∃o xs,H b=some (.DR o (.lst xs))
theorem Zkf{P:Program}{w:World}{K:aC}{mg N:Str->Option Value}{CX:Y7}{k:Nat}{fa a:Addr}{fd:FuncData}{x:Str}{sp:Sp}{c:Shared}{vs:List Value}{ns:List Int}
  (S:K.In c.heap) (p:c.heap.Ns mainGlobals mg) (hb:c.heap.Ns builtinsNs N) (O:∀x:Str,x≠"__name__"->N x=bootBuiltins x) (l:c.heap.NoLimit) (hg:c.gens=#[])
  (E:c.heap.get? a=some { cls:=.type "list",data:=.seq vs.toArray }) (hi:IntsAre vs ns) (hl:ns.length<=sizeLine) (hr:Room k callerA)
  (F:∀base:Heap,K.In base->base.Ns mainGlobals mg->u6 P w K mg base CX k fa fd [x] sp) (i:∀(s:Shared) (u:Value),BindsTo s fd ⟨[u],[]⟩ [(x,u)])
  (I:∀H:Hp,Only H->cV K H a (ns.map V.int)->sp [.ref a] H (λv _=>v=.bl true) λ_ _ _=>False)
  (J:∀H e s',CX [] H c (λ_ _ _=>False) e s'->False):
  codeAny (model P w) callerA (.call (.ref fa) ⟨[.ref a],[]⟩) (λr s'=>r=.ok (.ret (.bool true))/\OldK c.heap s'.heap/\s'.os=c.os/\AllBare s'.gens) c:=by
 have U:=Uh hi;have B:=hi.length;have g:∀H:Hp,Only H->cV K H a (ns.map V.int)->Ao P w H c.heap->(∀b,H b≠none->b=a)->(H a≠none->K.lookup a=none)->
   codeAny (model P w) callerA (.call (.ref fa) ⟨[.ref a],[]⟩) (λr s'=>r=.ok (.ret (.bool true))/\OldK c.heap s'.heap/\s'.os=c.os/\AllBare s'.gens) c:=by
  intro H Q hS hok T hK;have A:∀{b:Addr}{o:Obj},c.heap.get? b=some o->H b=none->(XJ c.heap H).get? b=some o:=λe n=>Zl1 e n;have M:∀{b:Addr}{o:Obj}{y:Array DictEntry}{D:Nat},c.heap.get? b=some o->o.data=.dict y D->H b=none:=λ{b o y D} e d=>by
   cases q:H b with
   | none=>rfl
   | some u=>
    have L:b=a:=T b (by rw[q];simp);subst L;rw[E]at e;cases e;have d':Data.seq vs.toArray _=Data.dict y D:=d;cases d'
  have f:∀{b:Addr}{m:Str->Option Value},c.heap.Ns b m->(XJ c.heap H).Ns b m:=λ{b m} ⟨o,y,D,e,d,r⟩=>⟨o,y,D,A e (M e d),d,r⟩;have t:K.In (XJ c.heap H):=λb o e=>A (S b o e) (by
   cases q:H b with
   | none=>rfl
   | some u=>
    have L:b=a:=T b (by rw[q];simp);subst L;rw[hK (by rw[q];simp)]at e;cases e)
  have Y:Mod K mg (XJ c.heap H):=⟨t,f p,⟨N,f hb,O⟩,let ⟨mc,h1,h2⟩:=l;⟨mc,f h1,h2⟩⟩;have e0:Zej P w K mg (XJ c.heap H) callerA [] c H:=⟨rfl,Y,λb o e=>Zns e,Nat.le_of_eq (Zh7 _ _),trivial,λb hb=>absurd (show b∈([]:List Addr)from hb) (by simp),hok,.of_eq hg⟩;refine codeAny_mono ((F _ t (f p)).run callerA [] c H ⟨[.ref a],[]⟩ [.ref a] [.ref a] _ _ hr e0 (i c (.ref a)) (.cons rfl .nil) (I H Q hS)) λr s' h=>?_;cases r with
  | error e=>exact(J H e s' h).elim
  | ok fl=>
   cases fl with
   | next=>exact False.elim h
   | brk=>exact False.elim h
   | cont=>exact False.elim h
   | ret u=>
    obtain⟨v,H',os,bare,un,j,X,q⟩:=h;have W:v=.bl true:=q;subst W;obtain rfl:u=Value.bool true:=X;refine⟨rfl,OldK.of_keep λb o e=>?_,os,bare⟩;cases q:H b with
    | none=>exact un.keep b o e q (by intro z;exact absurd (show b∈([]:List Addr)from z) (by simp)) (by simp)
    | some u=>
     rcases Q b with z | ⟨ob,xs,z⟩
     ·rw[q]at z;cases z
     ·have z2:=un.Ge b ob _ z;obtain⟨R,_⟩:=hok b _ z;obtain⟨Z,_⟩:=j b _ z2;rw[e]at R;cases R;exact Z
 cases hk:K.lookup a with
 | some o=>
  have e:=S a o hk;rw[E]at e;cases e;refine g (λ_=>none) (λ_=>.inl rfl) (.inr ⟨_,vs.toArray,_,hk,rfl,rfl,rfl,by rw[List.size_toArray,B];exact hl,by simpa using U⟩) (λb u z=>by have C:(none:Option HO)=some u:=z;cases C) (λb z=>absurd rfl z) λz=>absurd rfl z
 | none=>
  refine g (λb=>if b=a then some (.DR { cls:=.type "list",data:=.seq vs.toArray } (.lst (ns.map V.int)))else none) (λb=>?_) (.inl (.inr ⟨{ cls:=.type "list",data:=.seq vs.toArray },if_pos rfl⟩)) (λb u z=>?_) (λb z=>?_) λ_=>hk
  ·by_cases hb:b=a
   ·exact .inr ⟨_,_,if_pos hb⟩
   ·exact .inl (if_neg hb)
  ·by_cases hb:b=a
   ·have C:=(if_pos hb).symm.trans z;cases C;subst hb;exact⟨E,by rw[bx];exact hl,vs,_,U,E⟩
   ·have C:=(if_neg hb).symm.trans z;cases C
  ·by_cases hb:b=a
   ·exact hb
   ·exact absurd (if_neg hb) z
end L2
namespace L2
open PySem PySem.Spec PyProof.Rows
theorem Zm8{l:W.OpenLaw}{n k:Nat}{q:Program}{i:List Str}{J:(Str->Option Value)->Heap->Prop}{C:World->Heap->Prop}{d:DefRec}{K:Params->aC}{CX:World->Y7}{sp:World->Sp}{x:Str}
  (hn:l.most=some n) (z:n<=sizeLine) (t:d.params.defaults=[]) (hr:Room k callerA)
  (I:∀(w:World) (h:Heap),C w h->(K w.params).In h)
  (F:∀(w:World) (mg:Str->Option Value) (fa:Addr) (h:Heap),(K w.params).In h->h.Ns mainGlobals mg->mg d.name=some (.ref fa)->
   ∃fd:FuncData,(∀(s:Shared) (u:Value),BindsTo s fd ⟨[u],[]⟩ [(x,u)])/\
    ∀base:Heap,(K w.params).In base->base.Ns mainGlobals mg->u6 l.prog w (K w.params) mg base (CX w) k fa fd [x] (sp w))
  (r:∀(w:World) (H:Hp) (a:Addr) (ns:List Int),ns.length<=n->Only H->cV (K w.params) H a (ns.map V.int)->sp w [.ref a] H (λv _=>v=.bl true) λ_ _ _=>False)
  (y:∀(w:World) (H:Hp) (s:Shared) (e:Value) (s':Shared),CX w [] H s (λ_ _ _=>False) e s'->False):
  W.WalkO q i J C l.row.toRowW d [] (λf vs=>PySem.call f vs):=by
 refine Att.Zas hn t λw s₀ m mg R fa o S Q O a vs ns G Y P hd E A p j c N=>?_;have B:=I w _ Y;obtain⟨fd,hb,D⟩:=F w mg fa _ B G.T.g A;exact Zkf B G.T.g G.T.b G.T.builtins G.T.nolimit N p j (Nat.le_trans c z) hr D hb (λH L M=>r w H a ns c L M) λH e s'=>y w H m e s'
end L2
namespace L2
open PySem PySem.Spec PyProof.Rows
def inClass(s:Stmt)(j:Nat):Stmt:=match s with
 | .ClassDef _ _ _ a _ _ _ _ _ _ _=>a.getD j (.Pass ⟨0,0,0,0⟩)
 | _=>.Pass ⟨0,0,0,0⟩
def mX(s:Stmt):Arguments:=match s with
 | .FunctionDef _ a _ _ _ _ _ _ _ _=>a
 | _=>{ posonlyargs:=[],args:=[],vararg:=none,kwonlyargs:=[],kw_defaults:=[],kwarg:=none,defaults:=[] }
def j7(s:Stmt):List Stmt:=match s with
 | .FunctionDef _ _ b _ _ _ _ _ _ _=>b
 | _=>[]
def aF(s:Stmt):Scope:=match s with
 | .FunctionDef _ _ _ _ _ _ a _ _ _=>a
 | _=>{ kind:=.function,names:=[],isGenerator:=false,isCoroutine:=false }
abbrev E0:XK:=λ_ _ _=>False
structure jA(K:aC)(x qual:Str)(st:Stmt)(f:Addr)(fd:FuncData):Prop where
 ex:∃(oc:Value) (od:Option Addr) (kV doc pm:Value) (an:Option Addr) (cdv ct:Value) (osl:Array (Option Value)),
  fd=W.fnOf x qual (mX st) (j7 st) (aF st) .none kV doc pm an cdv ct/\K.lookup f=some ⟨oc,od,.func fd,osl⟩/\W.codeIn K cdv qual=true
 kp:W.keepIn K (.ref f)=true
section
variable {P:Program}{w:World}{K:aC}{mg:Str->Option Value}{base:Heap}
theorem jA.binds{x a:Str}{st:Stmt}{f:Addr}{fd:FuncData}{ps:List Str}(F:jA K x a st f fd)
  (h:∀(kV c e:Value) (d:Option Addr) (b ct:Value) (us:List Value),us.length=ps.length->bindArgs (W.fnOf x a (mX st) (j7 st) (aF st) .none kV c e d b ct) ⟨us,[]⟩=pure (ps.zip us)):Binds K fd ps []:=by
 obtain⟨oc,od,kV,c,e,d,b,ct,i,rfl,lk,g⟩:=F.ex;exact .all (h kV c e d b ct)
theorem Zlc{x a:Str}{st:Stmt}{f:Addr}{oc:Value}{od h:Option Addr}{e:Array (Option Value)}{kV d g b ct:Value}(l:K.lookup f=some ⟨oc,od,.func (W.fnOf x a (mX st) (j7 st) (aF st) .none kV d g h b ct),e⟩)
  (c:W.codeIn K b a=true) (k:W.keepIn K (.ref f)=true):jA K x a st f (W.fnOf x a (mX st) (j7 st) (aF st) .none kV d g h b ct):=⟨⟨oc,od,kV,d,g,h,b,ct,e,rfl,l,c⟩,k⟩
end
theorem uO{A:Around}{k:Nat}(hr:Room k A):A.units+1<cLine:=Nat.lt_of_le_of_lt (Nat.add_le_add_left (by decide:1<=64) _) hr.units
section
variable {X:Cx}
theorem pv(i:Nat){x:Str}{a:Pos}(c:X.N[i]? =some x:=by rfl)(hv:Vis X.env.scope x:=by first | exact Or.inl rfl | exact Or.inr (Or.inl rfl) | exact Or.inr (Or.inr rfl))(hd:(x == ("__debug__":Str))=false:=by decide)
  (b:(x == ("__classdict__":Str))=false:=by decide):PE X (.Name x a) (ak i):=Ziz c hv hd b
end
theorem Zkk{A B:Prop}(h:B):if false=true then A else B:=by
 rw[if_neg Bool.false_ne_true];exact h
theorem Za5{A B:Prop}(h:A):if true=true then A else B:=by
 rw[if_pos rfl];exact h
theorem Zrh{c A B:Prop} [Decidable c](h1:c->A)(h2:¬ c->B):if c then A else B:=by
 by_cases h:c
 ·rw[if_pos h];exact h1 h
 ·rw[if_neg h];exact h2 h
def aU(H H':Hp):Prop:=∀b o,H b=some o->H' b=some o
theorem aU.refl(H:Hp):aU H H:=λ_ _ h=>h
theorem aU.trans{H e d:Hp}(a:aU H e)(b:aU e d):aU H d:=λc o h=>b c o (a c o h)
theorem aU.free{H H':Hp}(e:aU H H'){l:Addr}(h:H' l=Option.none):H l=Option.none:=by
 cases q:H l with
 | none=>rfl
 | some o=>
  rw[e l o q]at h;cases h
theorem aU.seq{K:aC}{H H':Hp}{a:Addr}{xs:List V}(e:aU H H')(h:cV K H a xs):cV K H' a xs:=by
 rcases h with (h | ⟨o,h⟩) | h
 ·exact .inl (.inl (e _ _ h))
 ·exact .inl (.inr ⟨o,e _ _ h⟩)
 ·exact .inr h
end L2
namespace L2
open PySem PySem.Spec PyProof.Rows
end L2
namespace L2
open PySem PySem.Spec PyProof.Rows
end L2
namespace L2
open PySem PySem.Spec PyProof.Rows
section
variable {X:Cx}{pins:List (Addr×Obj)}{σ:List (Option V)}{H H':Hp}{s:Shared}{h':Heap}
end
end L2
namespace L2
open PySem PySem.Spec PyProof.Rows
section
variable {X:Cx}
variable {a b:Expr}{ta tb:TE}{pos:Pos}
variable {tA tB':TT}{rest:List Expr}
end
end L2
namespace L2
open PySem PySem.Spec PyProof.Rows
end L2
namespace L2
open PySem PySem.Spec PyProof.Rows
end L2
namespace L2
open PySem PySem.Spec PyProof.Rows
section
variable {X:Cx}{a b c:Expr}{ta tb tc:TE}{pos:Pos}
end
end L2
namespace L2
open PySem PySem.Spec PyProof.Rows
section
variable {prog:Program}{w:World}{A:Around}{E:Value->Shared->Prop}{s:Shared}{K:aC}{x dx C f:Addr}{mA:Str->Option Value}{name:Str}{v:Value}
end
section
variable {X:Cx}{pins:List (Addr×Obj)}{σ:St}{H:Hp}{s:Shared}{a C dx:Addr}{fs:List (Str×V)}{f:Str}{v:V}{A:Around}{E:Value->Shared->Prop}
end
end L2
namespace L2
open PySem PySem.Spec PyProof.Rows
section
variable {X:Cx}{CX:Y7}{k:Nat}{f C:Addr}{fd:FuncData}{ps:List Str}{sp:Sp}{u9:List V}{ds:List Value}{E:XK}{x m:Str}{p pos apos:Pos}{e o:Expr}{es:List Expr}{ta:TE}{t:TA}
end
end L2
namespace L2
open PySem PySem.Spec PyProof.Rows
section
variable {X:Cx}{x:Str}{p pos:Pos}{e:Expr}{es:List Expr}{t:TA}{id T:String}{r:List V->Hp->VK->Prop}
end
end L2
namespace L2
open PySem PySem.Spec PyProof.Rows
section
variable {κ:Type} [DecidableEq κ]
def m7(a:List (κ×V))(k:κ):Option V:=(a.find? λkv=>decide (kv.1=k)).map (·.2)
def putK(a:List (κ×V))(k:κ)(v:V):List (κ×V):=
 if (a.any λkv=>decide (kv.1=k))=true then a.map (λkv=>if kv.1=k then(kv.1,v)else kv)else a++[(k,v)]
theorem mO{p:κ×V}{r:List (κ×V)}{k:κ}(e:p.1=k):m7 (p::r) k=some p.2:=by simp[m7,List.find?_cons,e]
theorem mQ{p:κ×V}{r:List (κ×V)}{k:κ}(e:¬ p.1=k):m7 (p::r) k=m7 r k:=by simp[m7,List.find?_cons,e]
theorem Av(k:κ):∀a:List (κ×V),(a.any λkv=>decide (kv.1=k))=(m7 a k).isSome
 | []=>rfl
 | p::r=>by
  rw[List.any_cons]
  by_cases e:p.1=k
  ·simp only[mO e,decide_eq_true e,Bool.true_or,Option.isSome_some]
  ·rw[mQ e,decide_eq_false e,Bool.false_or];exact Av k r
theorem Y8(k j:κ)(y:V):∀a:List (κ×V),m7 (a.map λkv=>if kv.1=k then(kv.1,y)else kv) j=(m7 a j).map λx=>if j=k then y else x
 | []=>rfl
 | p::r=>by
  have ih:=Y8 k j y r;rw[List.map_cons]
  by_cases h:p.1=k
  ·rw[if_pos h]
   by_cases e:p.1=j
   ·rw[mO (p:=(p.1,y)) e,mO e,Option.map_some,if_pos (e.symm.trans h)]
   ·rw[mQ (p:=(p.1,y)) e,mQ e,ih]
  ·rw[if_neg h]
   by_cases e:p.1=j
   ·rw[mO (p:=p) e,mO e,Option.map_some,if_neg (λz=>h (e.trans z))]
   ·rw[mQ (p:=p) e,mQ e,ih]
theorem Ui(k j:κ)(y:V):∀a:List (κ×V),m7 a k=none->m7 (a++[(k,y)]) j=if j=k then some y else m7 a j
 | [],_=>by
  by_cases e:k=j
  ·rw[if_pos e.symm];exact mO (p:=(k,y)) e
  ·rw[if_neg (λz=>e z.symm)];exact mQ (p:=(k,y)) e
 | p::r,hn=>by
  rw[List.cons_append];have hk:¬ p.1=k:=λz=>by rw[mO z]at hn;cases hn
  rw[mQ hk]at hn;have ih:=Ui k j y r hn
  by_cases e:p.1=j
  ·rw[mO e,mO e,if_neg (λz=>hk (e.trans z))]
  ·rw[mQ e,mQ e,ih]
theorem Zhw(b:List (κ×V))(k j:κ)(y:V):m7 (putK b k y) j=if j=k then some y else m7 b j:=by
 unfold putK
 by_cases a:(b.any λkv=>decide (kv.1=k))=true
 ·rw[if_pos a,Y8];rw[Av]at a
  by_cases e:j=k
  ·obtain⟨x,hx⟩:=Option.isSome_iff_exists.mp a;rw[if_pos e,e,hx,Option.map_some,if_pos rfl]
  ·rw[if_neg e];cases m7 b j with
   | none=>rfl
   | some x=>rw[Option.map_some,if_neg e]
 ·rw[if_neg a];refine Ui k j y b ?_;rw[Av]at a;cases q:m7 b k with
  | none=>rfl
  | some x=>rw[q]at a;exact(a rfl).elim
theorem CG(a:List (κ×V))(k:κ)(v:V):(putK a k v).length<=a.length+1:=by
 unfold putK;split
 ·rw[bx];omega
 ·rw[List.length_append,List.length_cons,List.length_nil];omega
theorem Zir{a:List (κ×V)}{k:κ}(v:V)(h:m7 a k=none):putK a k v=a++[(k,v)]:=by
 unfold putK;rw[Av,h];exact if_neg (by decide)
theorem Ea.La{o:Option V}{u:Option Value}(r:Ea o u):o.isSome=u.isSome:=by
 cases o with
 | none=>cases u with
  | none=>rfl
  | some _=>exact(show False from r).elim
 | some _=>cases u with
  | none=>exact(show False from r).elim
  | some _=>rfl
theorem KV.val{a:List (κ×V)}{vs:List (κ×Value)}(r:KV a vs)(k:κ):Ea (m7 a k) (valueAt vs k):=by
 unfold KV at r
 induction r with
 | nil=>exact True.intro
 | @cons p q ps d h t ih=>
  obtain⟨h1,h2⟩:=h
  by_cases e:p.1=k
  ·have c:q.1=k:=h1.symm.trans e;have b:valueAt (q::d) k=some q.2:=by simp[valueAt,List.find?_cons,c]
   rw[mO e,b];exact h2
  ·have c:¬ q.1=k:=λz=>e (h1.trans z);have b:valueAt (q::d) k=valueAt d k:=by simp[valueAt,List.find?_cons,c]
   rw[mQ e,b];exact ih
theorem KV.any{a:List (κ×V)}{vs:List (κ×Value)}(r:KV a vs)(k:κ):(a.any λkv=>decide (kv.1=k))=vs.any λkv=>decide (kv.1=k):=by
 unfold KV at r
 induction r with
 | nil=>rfl
 | cons h t ih=>rw[List.any_cons,List.any_cons,ih,h.1]
theorem KV.repl{a:List (κ×V)}{vs:List (κ×Value)}(r:KV a vs)(k:κ){y:V}{u:Value}(b:RelV y u):
  KV (a.map λkv=>if kv.1=k then(kv.1,y)else kv) (vs.map λkv=>if kv.1=k then(kv.1,u)else kv):=by
 unfold KV at r ⊢
 induction r with
 | nil=>exact .nil
 | @cons p q ps c h t ih=>
  rw[List.map_cons,List.map_cons];refine .cons ?_ ih;obtain⟨h1,h2⟩:=h
  by_cases e:p.1=k
  ·rw[if_pos e,if_pos (h1.symm.trans e)];exact⟨h1,b⟩
  ·rw[if_neg e,if_neg (λz=>e (h1.trans z))];exact⟨h1,h2⟩
theorem KV.put{a:List (κ×V)}{vs:List (κ×Value)}(r:KV a vs)(k:κ){y:V}{u:Value}(b:RelV y u):KV (putK a k y) (stored vs k u):=by
 unfold putK stored;rw[r.any k]
 by_cases e:(vs.any λkv=>decide (kv.1=k))=true
 ·rw[if_pos e,if_pos e];exact r.repl k b
 ·rw[if_neg e,if_neg e];exact Paired.snoc r ⟨rfl,b⟩
theorem KV.length{a:List (κ×V)}{vs:List (κ×Value)}(r:KV a vs):a.length=vs.length:=Paired.length r
end
theorem Zf2{P:Program}{w:World}{k:Key}{u:Value}(r:RelV (kV k) u):(fL P w).is k u=true:=by
 cases k with
 | inl i=>obtain⟨t,e⟩:=(show ∃t,u=Value.int i t from r);subst e;exact Z7 P w i t
 | inr x=>obtain⟨t,e⟩:=(show ∃t,u=Value.str x t from r);subst e;exact Z6 P w x t
theorem Vd{P:Program}{w:World}:∀{a:List Key}{us:List Value},Vals (a.map kV) us->ItemsAre (fL P w) a us
 | [],_,r=>by rw[List.map_nil]at r;cases r;exact .nil
 | k::a,_,r=>by
  rw[List.map_cons]at r;cases r with
  | cons h t=>exact .cons (Zf2 h) (Vd t)
abbrev KT(H:Hp):List (List Key×V)->List (List Key×Addr×Value)->Prop:=Paired λp q=>p.1=q.1/\H q.2.1=some (.tup (p.1.map kV))/\RelV p.2 q.2.2
theorem KT.val{H:Hp}{a:List (List Key×V)}{xs:List (List Key×Addr×Value)}(r:KT H a xs)(k:List Key):Ea (m7 a k) ((atKey xs k).map (·.2)):=by
 induction r with
 | nil=>exact True.intro
 | @cons p q ps d h t ih=>
  obtain⟨h1,_,h2⟩:=h
  by_cases e:p.1=k
  ·have c:q.1=k:=h1.symm.trans e;have b:atKey (q::d) k=some q.2:=by simp[atKey,List.find?_cons,c]
   rw[mO e,b];exact h2
  ·have c:¬ q.1=k:=λz=>e (h1.trans z);have b:atKey (q::d) k=atKey d k:=by simp[atKey,List.find?_cons,c]
   rw[mQ e,b];exact ih
theorem KT.repl{H:Hp}{a:List (List Key×V)}{xs:List (List Key×Addr×Value)}(r:KT H a xs)(k:List Key){y:V}{u:Value}(b:RelV y u):
  KT H (a.map λkv=>if kv.1=k then(kv.1,y)else kv) (xs.map (putAt k u)):=by
 induction r with
 | nil=>exact .nil
 | @cons p q ps c h t ih=>
  rw[List.map_cons,List.map_cons];refine .cons ?_ ih;obtain⟨h1,h2,h3⟩:=h;unfold putAt
  by_cases e:p.1=k
  ·rw[if_pos e,if_pos (h1.symm.trans e)];exact⟨h1,h2,b⟩
  ·rw[if_neg e,if_neg (λz=>e (h1.trans z))];exact⟨h1,h2,h3⟩
theorem KT.put{H:Hp}{a:List (List Key×V)}{xs:List (List Key×Addr×Value)}(r:KT H a xs)(k:List Key){b:Addr}{y:V}{u:Value}(hb:H b=some (.tup (k.map kV)))(c:RelV y u):
  KT H (putK a k y) (storedH xs k b u):=by
 have e:(a.any λkv=>decide (kv.1=k))=(atKey xs k).isSome:=by
  rw[Av,(r.val k).La,Option.isSome_map]
 unfold putK storedH;rw[e]
 by_cases q:(atKey xs k).isSome=true
 ·rw[if_pos q,if_pos q];exact r.repl k c
 ·rw[if_neg q,if_neg q];exact Paired.snoc r ⟨rfl,hb,c⟩
theorem KT.keeps{H H':Hp}{a:List (List Key×V)}{xs:List (List Key×Addr×Value)}(r:KT H a xs)(d:∀b c,H b=some (.tup c)->H' b=some (.tup c)):KT H' a xs:=
 Paired.Zr7 r λ_ _ z=>⟨z.1,d _ _ z.2.1,z.2.2⟩
section
variable {P:Program}{w:World}{H:Hp}{h:Heap}{a:Addr}
theorem Zpm{u:HO}(ok:Ao P w H h)(e:Rd H a u):lY P w H h a u:=e.ok ok
theorem Jk{b:List (Key×V)}(ok:Ao P w H h)(e:Rd H a (.dK b)):b.length<=sizeLine/\(a == sysModules)=false/\∃vs,KV b vs/\h.DictOf (fL P w) a vs:=
 show lY P w H h a (.dK b)from Zpm ok e
theorem Zpx{b:List (Key×V)}(ok:Ao P w H h)(e:H a=some (.dK b)):b.length<=sizeLine/\(a == sysModules)=false/\∃vs,KV b vs/\h.DictOf (fL P w) a vs:=Jk ok (.inl e)
theorem XD{c:List Key}(ok:Ao P w H h)(e:H a=some (.tup (c.map kV))):(tupleKind (fL P w)).is h c a:=by
 obtain⟨_,b,r,o,h1,h2,n,h3⟩:=(show lY P w H h a (.tup (c.map kV))from ok a _ e);exact⟨o,b.toArray,n,h1,h2,h3,by simpa using Vd r⟩
theorem Zaj{b:List (List Key×V)}(ok:Ao P w H h)(e:Rd H a (.dT b)):b.length<=sizeLine/\(a == sysModules)=false/\
  ∃xs,KT H b xs/\h.DictOfH (tupleKind (fL P w)) a xs:=by
 obtain⟨z,y,xs,r,o,d,c,h1,h2,h3,h4,h5⟩:=(show lY P w H h a (.dT b)from Zpm ok e);refine⟨z,y,xs,r,o,d,c,h1,h2,h3,h4,λx hx=>?_,h5⟩;have all:∀{l:List (List Key×V)}{m:List (List Key×Addr×Value)},KT H l m->∀x∈m,(tupleKind (fL P w)).is h x.1 x.2.1:=by
  intro l m q
  induction q with
  | nil=>intro x hx;exact nomatch hx
  | @cons p q ps f hq t ih=>
   intro x hx;rcases List.mem_cons.mp hx with e | hx
   ·subst e;exact XD ok (by rw[<- hq.1];exact hq.2.1)
   ·exact ih x hx
 exact all r x hx
theorem Zuk{b:List (List Key×V)}(ok:Ao P w H h)(e:H a=some (.dT b)):b.length<=sizeLine/\(a == sysModules)=false/\
  ∃xs,KT H b xs/\h.DictOfH (tupleKind (fL P w)) a xs:=Zaj ok (.inl e)
end
def Gx(H:Hp)(a:Addr)(y:V)(r:Option V):Prop:=
 (∃c k,Rd H a (.dK c)/\y=kV k/\r=m7 c k)\/∃c k b,Rd H a (.dT c)/\y=.ref b/\H b=some (.tup (k.map kV))/\r=m7 c k
def Uc(H:Hp)(a:Addr)(y v:V)(H':Hp):Prop:=
 (∃c k,H a=some (.dK c)/\y=kV k/\c.length<sizeLine/\H'=upd H a (.dK (putK c k v)))\/
 ∃c k b,H a=some (.dT c)/\y=.ref b/\H b=some (.tup (k.map kV))/\c.length<sizeLine/\H'=upd H a (.dT (putK c k v))
theorem Gx.k{H:Hp}{a:Addr}{b:List (Key×V)}{k:Key}(e:H a=some (.dK b)):Gx H a (kV k) (m7 b k):=.inl ⟨b,k,.inl e,rfl,rfl⟩
theorem Uc.k{H:Hp}{a:Addr}{b:List (Key×V)}{k:Key}{v:V}(e:H a=some (.dK b))(hl:b.length<sizeLine):Uc H a (kV k) v (upd H a (.dK (putK b k v))):=.inl ⟨b,k,e,rfl,hl,rfl⟩
section
variable {X:Cx}{pins:List (Addr×Obj)}{σ:St}{H:Hp}{s:Shared}{a:Addr}{y v:V}{u r:Value}{o:Option V}{A:Around}{E:Value->Shared->Prop}
theorem Inv.big(I:Inv X pins σ H s):sysModules<s.heap.objs.size:=by
 have h:mainGlobals<s.heap.objs.size:=(I.mod.glob.keeps I.bk).lt;exact Nat.lt_trans (by decide) h
theorem Zhn{Q:Value->Shared->Prop}(hu:A.units+1<cLine)(I:Inv X pins σ H s)(g:Gx H a y (some v))(m:RelV y u)(h:∀d s',Inv X pins σ H s'->RelV v d->Q d s'):
  wpAny (model X.prog X.w) A (getItem (.ref a) u) Q E s:=by
 rcases g with ⟨j,k,e,f,l⟩ | ⟨j,k,b,e,f,n,l⟩
 ·subst f;obtain⟨z,hd,vs,rel,dd⟩:=Jk I.hok e;obtain⟨d,hw,c⟩:=Ea.some_of (v:=v) (o:=valueAt vs k) (by rw[l];exact rel.val k);exact wpAny_getItem_of (Zf2 m) dd.mapOf hw (h d _ (I.tok _) c)
 ·subst f;cases (show u=Value.ref b from m);obtain⟨z,hd,xs,rel,dd⟩:=Zaj I.hok e;obtain⟨d,hw,c⟩:=Ea.some_of (v:=v) (o:=(atKey xs k).map (·.2)) (by rw[l];exact rel.val k);obtain⟨p,hp,i⟩:=Option.map_eq_some_iff.mp hw;refine wpAny_getItem_heap (tupleKind_room_in1 hu) (XD I.hok n) dd hp ?_;rw[i];exact h d _ (I.tok _) c
theorem Zfb{Q:Value->Shared->Prop}(hu:A.units+1<cLine)(I:Inv X pins σ H s)(g:Gx H a y o)(f:RelV y u)(h:∀s',Inv X pins σ H s'->Q (.bool (!o.isSome)) s'):
  wpAny (model X.prog X.w) A (compareOp .NotIn u (.ref a)) Q E s:=by
 rcases g with ⟨d,k,e,c,l⟩ | ⟨d,k,b,e,c,i,l⟩
 ·subst c;obtain⟨z,hd,vs,rel,dd⟩:=Jk I.hok e;refine wpAny_notIn_of (Zf2 f) hd dd.mapOf ?_;rw[<- (rel.val k).La,<- l];exact h _ (I.tok _)
 ·subst c;cases (show u=Value.ref b from f);obtain⟨z,hd,xs,rel,dd⟩:=Zaj I.hok e;refine wpAny_notIn_heap (tupleKind_room_in1 hu) (XD I.hok i) hd dd ?_;have q:=(rel.val k).La;rw[Option.isSome_map]at q;rw[<- q,<- l];exact h _ (I.tok _)
theorem Zfa{h':Heap}{t':Nat}{ob:HO}(I:Inv X pins σ H s)(c:Mut (H a))(hs:Heap.SameBut a s.heap h')(d:∃q,h'.get? a=some q)(new:lY X.prog X.w (upd H a ob) h' a ob):
  Inv X pins σ (upd H a ob) { s with heap:=h',toks:=t' }:=
 I.write (x:=a) (e:=a) c (.inl rfl) (λb q hb z=>(hs.2 b hb).trans z) d new
theorem Zsh{P:Program}{w:World}{H':Hp}{h':Heap}{b:List (Key×V)}{vs:List (Key×Value)}(z:b.length<=sizeLine)(hd:(a == sysModules)=false)(rel:KV b vs)(dd:h'.DictOf (fL P w) a vs):
  lY P w H' h' a (.dK b):=⟨z,hd,vs,rel,dd⟩
theorem Zhm{H':Hp}{Q:Unit->Shared->Prop}(hu:A.units+1<cLine)(I:Inv X pins σ H s)(g:Uc H a y v H')(o:RelV y u)(p:RelV v r)(h:∀s',Inv X pins σ H' s'->Q () s'):
  wpAny (model X.prog X.w) A (setItem (.ref a) u r) Q E s:=by
 rcases g with ⟨d,k,e,i,l,j⟩ | ⟨d,k,b,e,i,m,l,j⟩
 ·subst i j;obtain⟨z,hd,vs,rel,dd⟩:=Zpx I.hok e;have hz:vs.length<=sizeLine:=by rw[<- rel.length];exact z
  have hl:(putK d k v).length<=sizeLine:=by have:=CG d k v;omega
  refine wpAny_setItem_pairs (hsz:=hz) (Zf2 o) dd λh' f hs=>h _ ?_;have B:∃q,h'.get? a=some q:=let ⟨q,_,_,hq,_⟩:=f;⟨q,hq⟩
  exact Zfa I (by rw[e];exact True.intro) hs B (Zsh hl hd (rel.put k p) f)
 ·subst i j;cases (show u=Value.ref b from o);obtain⟨z,hd,xs,rel,dd⟩:=Zuk I.hok e;have hz:xs.length<=sizeLine:=by rw[<- Paired.length rel];exact z
  have hl:(putK d k v).length<=sizeLine:=by have:=CG d k v;omega
  refine wpAny_setItem_heap (hsz:=hz) (tupleKind_room_in1 hu) (XD I.hok m) dd λh' f hs=>h _ ?_;obtain⟨q,x,t,hq,h2,h3,h4,_,h5⟩:=f;refine Zfa I (by rw[e];exact True.intro) hs ⟨q,hq⟩ ⟨hl,hd,_,(rel.put k m p).keeps λc C n=>?_,q,x,t,hq,h2,h3,h4,h5⟩;rw[aB (qw n e (λz=>nomatch z))];exact n
end
section
variable {X:Cx}{pins:List (Addr×Obj)}{σ:St}{H:Hp}{s:Shared}{a:Addr}{kvs:List (Key×V)}{k:Key}{u:Value}{A:Around}{E:Value->Shared->Prop}
end
def Zpe(i:Expr):Prop:=∀b a,subscripted i false b a=operate [b,a] (getItem b a)
theorem Zen{prog:Program}{w:World}{A:Around}{E:Value->Shared->Prop}{s:Shared}{env:Env}{b a:Expr}{k:Pos}{T id:String}{Q:Value->Shared->Prop}
  (hl:typeLookup (.type T) "__getitem__"=pure (some (.builtin id))) (hs:Zpe a)
  (h:wpAny (model prog w) A (eval b env) (λo f=>wpAny (model prog w) A (eval a env) (λi c=>c.TypeIs o T/\wpAny (model prog w) A (getItem o i) Q E c) E f) E s):
  wpAny (model prog w) A (eval (.Subscript b a k) env) Q E s:=by
 refine Subscript_ (wpAny_mono h (λo f j=>wpAny_mono j (λi c d=>?_) λ_ _ x=>x) λ_ _ x=>x);obtain⟨l,d⟩:=d;unfold subscriptTail;refine wpAny_bind ?_;rw[getitemInPython_of_ne l.not_modules];refine wpAny_bind (wpAny_specialOf l hl ?_);have fin:wpAny (model prog w) A (subscripted a false o i) (λr e=>wpAny (model prog w) A (letTemporaryGo b o r >>= λ_=>pure r) Q E e) E c:=by
  rw[hs o i];exact wpAny_operating (wpAny_mono d (λr e g=>wpAny_bind (wpAny_letTemporaryGo (wpAny_pure g))) λ_ _ x=>x)
 first
  | exact wpAny_pure (wpAny_bind fin)
  | exact wpAny_bind (wpAny_pure (wpAny_bind fin))
  | exact wpAny_bind fin
theorem Zan{X:Cx}{c:List (Addr×Obj)}{σ:St}{H:Hp}{s:Shared}{a:Addr}{y:V}{o:Option V}(I:Inv X c σ H s)(g:Gx H a y o):s.TypeIs (.ref a) "dict":=by
 rcases g with ⟨d,k,e,_,_⟩ | ⟨d,k,b,e,_,_,_⟩
 ·obtain⟨_,_,vs,_,dd⟩:=Jk I.hok e;exact dd.typeIs
 ·obtain⟨_,_,xs,_,dd⟩:=Zaj I.hok e;exact dd.typeIs
def GR(c ty:TE):TE:=λσ H Q=>c σ H λx d=>ty σ d λy b=>∃a v,x=.ref a/\Gx b a y (some v)/\Q v b
def GQ(ty c:TE):TE:=λσ H Q=>ty σ H λy d=>c σ d λx b=>∃a o,x=.ref a/\Gx b a y o/\Q (.bl (!o.isSome)) b
def Ms(d ty e:TE):TS:=λD σ H=>e σ H λv g=>d σ g λx f=>ty σ f λy c=>∃a b,x=.ref a/\Uc c a y v b/\D.nx σ b
section
variable {X:Cx}{o i e value:Expr}{pos pos' tpos:Pos}{td ty tv:TE}
theorem Zng(hu:X.A.units+1<cLine)(d:PE X o td)(hi:PE X i ty)(hs:Zpe i):PE X (.Subscript o i pos) (GR td ty):=by
 intro b s σ H Q I h;refine Zen PySem.F.slot_dict_getitem.lookup hs (jf (d b s σ H _ I h) λu e ⟨x,H1,I1,rx,q1⟩=>jf (hi b e σ H1 _ I1 q1) λm l ⟨y,H2,I2,ry,a,v,ex,g,q2⟩=>?_);subst ex;obtain rfl:u=Value.ref a:=rx;exact⟨Zan I2 g,Zhn hu I2 g ry λj k f c=>⟨v,H2,f,c,q2⟩⟩
theorem Kc(hu:X.A.units+1<cLine)(hi:PE X i ty)(c:PE X o td):PC X .NotIn i o (GQ ty td):=by
 intro b s σ H Q I h;refine jf (hi b s σ H _ I h) λk d ⟨y,H1,I1,ry,q1⟩=>jf (c b d σ H1 _ I1 q1) λu j ⟨x,H2,I2,rx,a,ov,ex,g,q2⟩=>?_;subst ex;obtain rfl:u=Value.ref a:=rx;exact Zfb hu I2 g ry λf e=>⟨.bl (!ov.isSome),H2,e,rfl,q2⟩
theorem Dm(hu:X.A.units+1<cLine)(c:PE X o td)(hi:PE X i ty)(hv:PE X value tv)(hs:swapsWith value (some (.Subscript o i pos')) pos.line X.env=pure false):
  PS X (.Assign [.Subscript o i pos'] value pos) (Ms td ty tv):=by
 intro b s σ H D I h;refine wpAny_Assign_Subscript (jf (hv b s σ H _ I h) λr d ⟨v,H1,I1,rv,q1⟩=>jf (c b d σ H1 _ I1 q1) λu f ⟨x,H2,I2,rx,q2⟩=>jf (hi b f σ H2 _ I2 q2) λl k ⟨y,H3,I3,ry,a,H4,ex,g,q3⟩=>?_) hs;subst ex;obtain rfl:u=Value.ref a:=rx;exact Zhm hu I3 g ry rv λj e=>⟨σ,H4,e,q3⟩
end
theorem Zls{P:Program}{w:World}{H:Hp}(h:Heap)(hb:sysModules<h.objs.size):lY P w H (h.push { cls:=.type "dict",data:=.dict #[] }) h.objs.size (.dK []):=
 ⟨Nat.zero_le _,beq_eq_false_iff_ne.mpr (Ne.symm (Nat.ne_of_lt hb)),[],.nil,Heap.DictOf.new h⟩
def JC:TE:=λ_ H Q=>∀p,H p=none->Q (.ref p) (upd H p (.dK []))
section
variable {X:Cx}{pos:Pos}
theorem BP:PE X (.Dict [] [] pos) JC:=λb s σ H Q I h=>
 wpAny_Dict_empty ⟨.ref s.heap.objs.size,_,I.laid (a:=s.heap.objs.size) (o:=.dK []) (t':=s.toks) (λ_ _ q=>Heap.get?_push_of_some _ q) (Nat.le_refl _) (Zls s.heap I.big),rfl,h _ (I.hok.fresh (Nat.le_refl _))⟩
end
def Zi5:List (TE×TE)->St->Hp->(List (V×V)->Hp->Prop)->Prop
 | [],_,H,Q=>Q [] H
 | (tk,b)::r,σ,H,Q=>tk σ H λx d=>b σ d λy c=>Zi5 r σ c λps a=>Q ((x,y)::ps) a
abbrev VV:List (V×V)->List (Value×Value)->Prop:=Paired λp q=>RelV p.1 q.1/\RelV p.2 q.2
def PPs(X:Cx)(d:Pos)(keys:List (Option Expr))(a:List Expr)(c:List (TE×TE)):Prop:=
 ∀(b:List (Addr×Obj)) (s:Shared) (σ:St) (H:Hp) (Q:List (V×V)->Hp->Prop),Inv X b σ H s->Zi5 c σ H Q->
  wpAny (model X.prog X.w) X.A (evalPairs (pairTrees keys a X.env d)) (λvs s'=>∃ps H',Inv X b σ H' s'/\VV ps vs/\Q ps H') X.xe s
structure M1(X:Cx)(o:Expr)(m:Str)(apos:Pos)(e:Expr)(cpos:Pos):Prop where
 base:attributeBase o m X.env (eval o X.env)=eval o X.env
 few:((backTo cpos (starEach [e] X.env)).all (λx=>!x.1) && (backToKw cpos (keywordEach [] X.env)).all (λx=>x.1.isSome)
  && decide (([e]:List Expr).length+([]:List Keyword).length+(if ([]:List Keyword).isEmpty then 0 else 1)<30))=true
 line:(apos.endLine == cpos.line)=true
 trees:backTo cpos (starEach [e] X.env)=[(false,eval e X.env)]
structure M2(X:Cx)(o:Expr)(m:Str)(apos:Pos)(e f:Expr)(cpos:Pos):Prop where
 base:attributeBase o m X.env (eval o X.env)=eval o X.env
 few:((backTo cpos (starEach [e,f] X.env)).all (λx=>!x.1) && (backToKw cpos (keywordEach [] X.env)).all (λx=>x.1.isSome)
  && decide (([e,f]:List Expr).length+([]:List Keyword).length+(if ([]:List Keyword).isEmpty then 0 else 1)<30))=true
 line:(apos.endLine == cpos.line)=true
 trees:backTo cpos (starEach [e,f] X.env)=[(false,eval e X.env),(false,eval f X.env)]
def IsD(H:Hp)(a:Addr):Prop:=(∃b,Rd H a (.dK b))\/∃b,Rd H a (.dT b)
theorem Zkl{X:Cx}{c:List (Addr×Obj)}{σ:St}{H:Hp}{s:Shared}{a:Addr}(I:Inv X c σ H s)(d:IsD H a):
  s.TypeIs (.ref a) "dict"/\(∀b,Value.ref a=.ref b->∃ob,s.heap.get? b=some ob/\ob.dict=none)/\(a == sysModules)=false:=by
 rcases d with ⟨f,e⟩ | ⟨f,e⟩
 ·obtain⟨_,hd,vs,_,dd⟩:=Jk I.hok e;refine⟨dd.typeIs,λb q=>?_,hd⟩;cases q;obtain⟨ob,_,_,h1,h2,_⟩:=dd;exact⟨ob,h1,h2.2.1⟩
 ·obtain⟨_,hd,xs,_,dd⟩:=Zaj I.hok e;refine⟨dd.typeIs,λb q=>?_,hd⟩;cases q;obtain⟨ob,_,_,h1,h2,_⟩:=dd;exact⟨ob,h1,h2.2.1⟩
section
variable {X:Cx}{pins:List (Addr×Obj)}{σ:St}{H:Hp}{s:Shared}{a:Addr}{y d:V}{u r:Value}{o:Option V}{A:Around}{E:Value->Shared->Prop}
end
section
variable {X:Cx}{o e f:Expr}{apos cpos:Pos}{td ty tx:TE}
end
section
variable {X:Cx}{pins:List (Addr×Obj)}{σ:St}{H:Hp}{s:Shared}{a:Addr}{kvs:List (Key×V)}{A:Around}{E:Value->Shared->Prop}
end
section
variable {X:Cx}{pins:List (Addr×Obj)}{σ:St}{H:Hp}{s:Shared}{a:Addr}{y:V}{u:Value}{A:Around}{E:Value->Shared->Prop}
end
end L2
namespace Att
open PySem PySem.W PySem.Calls PyProof.Rows
section
variable {prog:Program}{w:World}{A:Around}{E:Value->Shared->Prop}{s:Shared}{K:Frag}
end
end Att
namespace L2
open PySem PySem.Spec PyProof.Rows
end L2
namespace L2
open PySem PySem.Spec PyProof.Rows
end L2
namespace L2
open PySem PySem.Spec PyProof.Rows
section
variable {X:Cx}
end
section
variable {κ:Type} [DecidableEq κ]
end
end L2
set_option maxHeartbeats 40000000
namespace G
open PySem L2
section
variable {D:Ends}{σ:St}{H H1:Hp}{Q:VK}{t u:TS}{ta tb tc te:TE}{n:St->Hp->Prop}{r:VK}{b c:St->Hp->Prop}
theorem Jb(h:t ⟨u ⟨n,r,b,c⟩,r,b,c⟩ σ H):aN t u ⟨n,r,b,c⟩ σ H:=h
theorem uN(h:n σ H):cR ⟨n,r,b,c⟩ σ H:=h
theorem Zrx(h:te σ H λ_ H1=>n σ H1):vh te ⟨n,r,b,c⟩ σ H:=h
theorem Zf4(h:te σ H r):bN te ⟨n,r,b,c⟩ σ H:=h
theorem Zu4{c':TT}(h:c' σ H λk H1=>if k=true then t ⟨n,r,b,c⟩ σ H1 else u ⟨n,r,b,c⟩ σ H1):fG c' t u ⟨n,r,b,c⟩ σ H:=h
theorem QZ{g:TG}(h:te σ H λx H1=>g x σ H1 n):bD te g ⟨n,r,b,c⟩ σ H:=h
theorem i_C{v:V}(h:Q v H):tC v σ H Q:=h
theorem Zdi{f:R2}(h:ta σ H λx H1=>tb σ H1 λy a=>f x y a Q):bF f ta tb σ H Q:=h
theorem Zvj{f:V->Hp->VK->Prop}(h:ta σ H λx H1=>f x H1 Q):tUn f ta σ H Q:=h
def kB(q:Bool->Hp->Prop):VK:=λx H'=>∃k,x=.bl k/\q k H'
theorem i_B{k:Bool}{q:Bool->Hp->Prop}(h:q k H):kB q (.bl k) H:=⟨k,rfl,h⟩
theorem Zrl{q:Bool->Hp->Prop}(h:te σ H (kB q)):cj te σ H q:=h
theorem Ztw{q:Bool->Hp->Prop}(h:te σ H (kB q)):tB te σ H q:=h
theorem Zua{t u:TT}{q:Bool->Hp->Prop}(h:t σ H λk H1=>if k=true then u σ H1 q else q false H1):Ng t u σ H q:=h
theorem Ztx{t u:TT}{q:Bool->Hp->Prop}(h:t σ H λk H1=>if k=true then q true H1 else u σ H1 q):tOr t u σ H q:=h
theorem Zps{t:TT}{q:Bool->Hp->Prop}(h:t σ H λk H1=>q (!k) H1):VM t σ H q:=h
theorem Zs3(h:ta σ H (kB λk H1=>if k=true then tb σ H1 Q else Q (.bl false) H1)):Zem ta tb σ H Q:=h
theorem Zro(h:ta σ H (kB λk H1=>Q (.bl (!k)) H1)):Zi6 ta σ H Q:=h
theorem Zu3{t:TT}(h:t σ H λk H1=>if k=true then ta σ H1 Q else tb σ H1 Q):tIf t ta tb σ H Q:=h
theorem Zub{g:Int->Int->V}{i j:Int}(h:Q (g i j) H):oY g (.int i) (.int j) H Q:=⟨i,j,rfl,rfl,h⟩
theorem i_I{C:Int->Int->Prop}{g:Int->Int->V}{i j:Int}(hc:C i j)(h:Q (g i j) H):rI C g (.int i) (.int j) H Q:=⟨i,j,rfl,rfl,hc,h⟩
theorem i_U{g:Int->V}{i:Int}(h:Q (g i) H):rU g (.int i) H Q:=⟨i,rfl,h⟩
theorem Zu8{i j:Int}(h:Q (.bl (decide (i=j))) H):yw (.int i) (.int j) H Q:=⟨rfl,by rw[show decide (V.int i=V.int j)=decide (i=j)from decide_eq_decide.mpr ⟨λe=>V.int.inj e,λe=>by rw[e]⟩];exact h⟩
theorem Zu7{i j:Str}(h:Q (.bl (decide (i=j))) H):yw (.str i) (.str j) H Q:=⟨rfl,by rw[show decide (V.str i=V.str j)=decide (i=j)from decide_eq_decide.mpr ⟨λe=>V.str.inj e,λe=>by rw[e]⟩];exact h⟩
theorem Zu0{i j:Int}(h:Q (.bl (!decide (i=j))) H):rNe (.int i) (.int j) H Q:=⟨rfl,by rw[show decide (V.int i=V.int j)=decide (i=j)from decide_eq_decide.mpr ⟨λe=>V.int.inj e,λe=>by rw[e]⟩];exact h⟩
theorem Ztz{i j:Str}(h:Q (.bl (!decide (i=j))) H):rNe (.str i) (.str j) H Q:=⟨rfl,by rw[show decide (V.str i=V.str j)=decide (i=j)from decide_eq_decide.mpr ⟨λe=>V.str.inj e,λe=>by rw[e]⟩];exact h⟩
def Nz:R2:=λx y H Q=>y=.non/\Q (.bl (decide (x=.non))) H
def yc:R2:=λx y H Q=>y=.non/\Q (.bl (!decide (x=.non))) H
theorem Zru(h:Q (.bl true) H):Nz .non .non H Q:=⟨rfl,h⟩
theorem Zrt{i:Int}(h:Q (.bl false) H):Nz (.int i) .non H Q:=⟨rfl,h⟩
theorem Zrs{i:Addr}(h:Q (.bl false) H):Nz (.ref i) .non H Q:=⟨rfl,h⟩
theorem Zob(h:Q (.bl false) H):yc .non .non H Q:=⟨rfl,h⟩
theorem Zoa{i:Int}(h:Q (.bl true) H):yc (.int i) .non H Q:=⟨rfl,h⟩
theorem Zo9{i:Addr}(h:Q (.bl true) H):yc (.ref i) .non H Q:=⟨rfl,h⟩
theorem Zku{A B:Prop}(h:A):if true=true then A else B:=Za5 h
theorem Zkv{A B:Prop}(h:B):if false=true then A else B:=Zkk h
theorem Zog{A B:Prop}(h:B):if (!true)=true then A else B:=Zkk h
theorem Zoh{A B:Prop}(h:A):if (!false)=true then A else B:=Za5 h
theorem uw{p A B:Prop} [Decidable p](h1:p->A)(h2:¬ p->B):if decide p=true then A else B:=Zrh (λe=>h1 (of_decide_eq_true e)) (λe=>h2 (λq=>e (decide_eq_true q)))
theorem Zdg{p A B:Prop} [Decidable p](h1:¬ p->A)(h2:p->B):if (!decide p)=true then A else B:=Zrh (λe=>h1 (by simpa using e)) (λe=>h2 (by simpa using e))
theorem Zty{q:List V->Hp->Prop}(h:q [] H):aG σ H q:=h
theorem Zs1{q:List V->Hp->Prop}{t:TA}(h:ta σ H λx H1=>t σ H1 λxs a=>q (x::xs) a):aj ta t σ H q:=h
theorem Zu1{t:TA}(h:t σ H λxs H1=>xs.length<=sizeLine/\∀p,H1 p=none->Q (.ref p) (upd H1 p (.lst xs))):iy t σ H Q:=h
theorem Zts{t:TA}(h:t σ H λxs H1=>xs.length<=sizeLine/\∀p,H1 p=none->Q (.ref p) (upd H1 p (.tup xs))):gn t σ H Q:=h
theorem Zs2{t:TA}{sp:Sp}{u9:List V}{E:XK}(h:t σ H λvs H1=>sp (vs++u9) H1 Q E):aW sp u9 E t σ H Q:=h
theorem Zvx{t:TA}{f:List V->Hp->VK->Prop}(h:t σ H λvs H1=>f vs H1 Q):Jy f t σ H Q:=h
theorem Zrq{t:TA}{sp:Sp}{u9:List V}{E:XK}{C:Addr}(h:t σ H λvs H1=>∀x dx,H1 x=none->H1 dx=none->dx≠x->sp (.ref x::(vs++u9)) (upd (upd H1 dx (.own x)) x (.ins C dx [])) (λv a=>v=.non/\Q (.ref x) a) E):Ab C sp u9 E t σ H Q:=h
def Ztr(K:aC)(f:Str)(Q:VK):VK:=λx H1=>∃a C dx fs v,x=.ref a/\H1 a=some (.ins C dx fs)/\Gy K C/\bK K C f/\fs.lookup f=some v/\Q v H1
theorem Zu6{K:aC}{f:Str}(h:ta σ H (Ztr K f Q)):bC K ta f σ H Q:=h
theorem aJ{K:aC}{f:Str}{a C dx:Addr}{fs:List (Str×V)}{v:V}(h:H a=some (.ins C dx fs))(hc:Gy K C)(hn:bK K C f)(hl:fs.lookup f=some v)(q:Q v H):Ztr K f Q (.ref a) H:=⟨a,C,dx,fs,v,rfl,h,hc,hn,hl,q⟩
theorem Zrm{K:aC}{f:Str}{d:TE}(h:d σ H λy H1=>ta σ H1 λx e=>∃a C dx fs,x=.ref a/\e a=some (.ins C dx fs)/\Gy K C/\bK K C f/\fs.length<1000/\n σ (upd e a (.ins C dx (cB f y fs)))):gY K ta d f ⟨n,r,b,c⟩ σ H:=h
theorem Zrp{C:Addr}{m:Str}{sp:Sp}{u9:List V}{E:XK}{t:TA}(h:ta σ H λx H1=>∃a dx fs,x=.ref a/\H1 a=some (.ins C dx fs)/\fs.lookup m=none/\t σ H1 λvs b=>sp (x::(vs++u9)) b Q E):nj C m sp u9 E ta t σ H Q:=h
def kI(q:Int->Hp->Prop):VK:=λx H1=>∃i,x=.int i/\q i H1
theorem Zrn{q:Option Int->Hp->Prop}(h:te σ H (kI λi=>q (some i))):Zel te σ H q:=h
theorem Zvl{i:Int}{q:Int->Hp->Prop}(h:q i H):kI q (.int i) H:=⟨i,rfl,h⟩
theorem Zvk{f:V->Option Int->Option Int->Hp->VK->Prop}{tl th:TO}(h:te σ H λx H1=>tl σ H1 λl b=>th σ b λu a=>f x l u a Q):tSl f te tl th σ H Q:=h
theorem Zvw{K:aC}{T:String}{f:V->List V->Hp->VK->Prop}{to:TE}{t:TA}(h:to σ H λx H1=>tyV K T x H1/\t σ H1 λxs a=>f x xs a Q):tBM K T f to t σ H Q:=h
theorem Zu9{K:aC}{T:String}{f:V->List V->Hp->VK->Prop}{to:TE}(h:to σ H λx H1=>tyV K T x H1/\f x [] H1 Q):Zq7 K T f to σ H Q:=h
theorem Zu5{f:TI}{g:TG}{tb:TS}(h:f σ H λJ H1=>∃W:Nat->Nat->St->Hp->Prop,(∃m,W 0 m σ H1)/\∀i m σ H,W i m σ H->
 (J.stop i H/\n σ H)\/(J.go i H/\∃N:St->Hp->Prop,(∀ a H',N a H'->∃e,e<m/\W (i+1) e a H')/\∀x H',J.yld i H x H'->g x σ H' λd j=>tb ⟨N,r,n,N⟩ d j)):wz f g tb ⟨n,r,b,c⟩ σ H:=h
theorem Zvo{K:aC}{R:It->Hp->Prop}(h:te σ H λx H1=>∃a,x=.ref a/\(∃xs,cV K H1 a xs)/\R (Itl K a) H1):nZ K te σ H R:=h
theorem Zvn{ta:TA}{R:It->Hp->Prop}(h:ta σ H λvs H1=>∃j:Int,vs=[.int j]/\-(2 ^ 62)<=j/\j<2 ^ 62/\R (Itr 0 j.toNat) H1):En ta σ H R:=h
end
theorem Zvi{v:V}{l:St}{H:Hp}{Q:VK}(h:Q v H):ak 0 (some v::l) H Q:=⟨v,rfl,h⟩
theorem Zvh{a:Option V}{v:V}{l:St}{H:Hp}{Q:VK}(h:Q v H):ak 1 (a::some v::l) H Q:=⟨v,rfl,h⟩
theorem Zvv{a:Option V}{y:Option V}{v:V}{l:St}{H:Hp}{Q:St->Hp->Prop}(h:Q (a::some v::l) H):aM 1 v (a::y::l) H Q:=h
theorem Zvg{b a:Option V}{v:V}{l:St}{H:Hp}{Q:VK}(h:Q v H):ak 2 (b::a::some v::l) H Q:=⟨v,rfl,h⟩
theorem Zrw{b a:Option V}{y:Option V}{v:V}{l:St}{H:Hp}{Q:St->Hp->Prop}(h:Q (b::a::some v::l) H):aM 2 v (b::a::y::l) H Q:=h
theorem Zdh{c b a:Option V}{v:V}{l:St}{H:Hp}{Q:VK}(h:Q v H):ak 3 (c::b::a::some v::l) H Q:=⟨v,rfl,h⟩
theorem Za6{c b a:Option V}{y:Option V}{v:V}{l:St}{H:Hp}{Q:St->Hp->Prop}(h:Q (c::b::a::some v::l) H):aM 3 v (c::b::a::y::l) H Q:=h
theorem Zvf{d c b a:Option V}{v:V}{l:St}{H:Hp}{Q:VK}(h:Q v H):ak 4 (d::c::b::a::some v::l) H Q:=⟨v,rfl,h⟩
theorem Zoi{d c b a:Option V}{y:Option V}{v:V}{l:St}{H:Hp}{Q:St->Hp->Prop}(h:Q (d::c::b::a::some v::l) H):aM 4 v (d::c::b::a::y::l) H Q:=h
theorem Zve{e d c a b:Option V}{v:V}{l:St}{H:Hp}{Q:VK}(h:Q v H):ak 5 (e::d::c::a::b::some v::l) H Q:=⟨v,rfl,h⟩
theorem Zvu{e d c a b:Option V}{y:Option V}{v:V}{l:St}{H:Hp}{Q:St->Hp->Prop}(h:Q (e::d::c::a::b::some v::l) H):aM 5 v (e::d::c::a::b::y::l) H Q:=h
theorem Zvd{f e d a c b:Option V}{v:V}{l:St}{H:Hp}{Q:VK}(h:Q v H):ak 6 (f::e::d::a::c::b::some v::l) H Q:=⟨v,rfl,h⟩
theorem Zvt{f e d a c b:Option V}{y:Option V}{v:V}{l:St}{H:Hp}{Q:St->Hp->Prop}(h:Q (f::e::d::a::c::b::some v::l) H):aM 6 v (f::e::d::a::c::b::y::l) H Q:=h
theorem Zvc{f e d a c b g:Option V}{v:V}{l:St}{H:Hp}{Q:VK}(h:Q v H):ak 7 (f::e::d::a::c::b::g::some v::l) H Q:=⟨v,rfl,h⟩
theorem Zvs{f e d a c b g:Option V}{y:Option V}{v:V}{l:St}{H:Hp}{Q:St->Hp->Prop}(h:Q (f::e::d::a::c::b::g::some v::l) H):aM 7 v (f::e::d::a::c::b::g::y::l) H Q:=h
theorem Zvb{g f e a c b i d:Option V}{v:V}{l:St}{H:Hp}{Q:VK}(h:Q v H):ak 8 (g::f::e::a::c::b::i::d::some v::l) H Q:=⟨v,rfl,h⟩
theorem Zvr{g f e a c b i d:Option V}{y:Option V}{v:V}{l:St}{H:Hp}{Q:St->Hp->Prop}(h:Q (g::f::e::a::c::b::i::d::some v::l) H):aM 8 v (g::f::e::a::c::b::i::d::y::l) H Q:=h
theorem Zva{i g f a d c j e b:Option V}{v:V}{l:St}{H:Hp}{Q:VK}(h:Q v H):ak 9 (i::g::f::a::d::c::j::e::b::some v::l) H Q:=⟨v,rfl,h⟩
theorem Zvq{i g f a d c j e b:Option V}{y:Option V}{v:V}{l:St}{H:Hp}{Q:St->Hp->Prop}(h:Q (i::g::f::a::d::c::j::e::b::some v::l) H):aM 9 v (i::g::f::a::d::c::j::e::b::y::l) H Q:=h
end G
namespace G
open PySem L2
theorem aL{H:Hp}{p:Addr}(h:H p=none)(o:HO):aU H (upd H p o):=λb u q=>by rw[aB (aD q h)];exact q
theorem nwO{H b:Hp}{a:Addr}{o:HO}(n:H a=none)(h:upd H a o=b):aU H b/\b a=some o:=by
 subst h;exact⟨aL n o,aq⟩
def oA(K:aC):List V->Hp->VK->Prop:=λxs H Q=>∃p a,xs=[.ref p]/\(cV K H p a\/je K H p a)/\Q (.int a.length) H
theorem lK{K:aC}{a:Addr}{H:Hp}{Q:VK}{xs:List V}(hp:cV K H a xs)(h:Q (.int xs.length) H):oA K [.ref a] H Q:=⟨a,xs,rfl,.inl hp,h⟩
theorem jW{K:aC}{a:Addr}{H:Hp}{Q:VK}{xs:List V}{i:Int}{v:V}(hp:cV K H a xs)(hi:atI xs i=some v)(h:Q v H):nD K (.ref a) (.int i) H Q:=⟨a,xs,i,v,rfl,rfl,hp,hi,h⟩
section
variable {K:aC}{a:Addr}{xs:List V}{g:TG}{tb:TS}{σ:St}{H:Hp}{n:St->Hp->Prop}{r:VK}
theorem forL(xs:List V)(Pv:Nat->St->Hp->Prop)(f:Pv 0 σ H)(hl:∀i σ H,i<=xs.length->Pv i σ H->cV K H a xs)
  (hs:∀i x σ H,xs[i]? =some x->Pv i σ H->g x σ H λb d=>tb ⟨Pv (i+1),r,n,Pv (i+1)⟩ b d) (hd:∀ σ H,Pv xs.length σ H->n σ H):
  ∃W:Nat->Nat->St->Hp->Prop,(∃m,W 0 m σ H)/\∀i m σ H,W i m σ H->
   ((Itl K a).stop i H/\n σ H)\/((Itl K a).go i H/\∃N:St->Hp->Prop,(∀ c H',N c H'->∃e,e<m/\W (i+1) e c H')/\∀x H',(Itl K a).yld i H x H'->g x σ H' λb d=>tb ⟨N,r,n,N⟩ b d):=
 Zle (D:=⟨n,r,λ_ _=>False,λ_ _=>False⟩) Pv f hl hs hd
theorem forR{lo:Int}{k:Nat}(Pv:Nat->St->Hp->Prop)(e:Pv 0 σ H)
  (hs:∀i σ H,i<k->Pv i σ H->g (.int (lo+i)) σ H λa c=>tb ⟨Pv (i+1),r,n,Pv (i+1)⟩ a c) (hd:∀ σ H,Pv k σ H->n σ H):
  ∃W:Nat->Nat->St->Hp->Prop,(∃m,W 0 m σ H)/\∀i m σ H,W i m σ H->
   ((Itr lo k).stop i H/\n σ H)\/((Itr lo k).go i H/\∃N:St->Hp->Prop,(∀ b H',N b H'->∃d,d<m/\W (i+1) d b H')/\∀x H',(Itr lo k).yld i H x H'->g x σ H' λa c=>tb ⟨N,r,n,N⟩ a c):=
 Zha (D:=⟨n,r,λ_ _=>False,λ_ _=>False⟩) Pv e hs hd
end
theorem aX{n:Nat}(h:n<=1000000):n<=sizeLine:=Nat.le_trans h (by decide)
end G
namespace G
open PySem L2
def Zin:R2:=λx y H Q=>∃i j,x=.str i/\y=.str j/\i.length+j.length<=sizeLine/\Q (.str (i++j)) H
theorem Zkx{i j:Str}{H:Hp}{Q:VK}(hz:i.length+j.length<=sizeLine)(h:Q (.str (i++j)) H):Zin (.str i) (.str j) H Q:=⟨i,j,rfl,rfl,hz,h⟩
theorem Zu2{z:Str}{i:Int}{c:Nat}{H:Hp}{Q:VK}(hz:z.length<=sizeLine)(hi:atI z.cps.toList i=some c)(h:Q (.str ⟨#[c]⟩) H):Zim (.str z) (.int i) H Q:=⟨z,i,c,rfl,rfl,hz,hi,h⟩
theorem Zkt{z:Str}{i:Int}{H:Hp}{Q:VK}(hz:z.length<=sizeLine)(a:0<=i)(h1:i<z.length)(h:∀c:Nat,Q (.str ⟨#[c]⟩) H):Zim (.str z) (.int i) H Q:=by
 have hk:i.toNat<z.cps.toList.length:=by rw[Array.length_toList];exact(Int.toNat_lt a).mpr h1
 have b:i=((i.toNat:Nat):Int):=by omega
 have q:atI z.cps.toList ((i.toNat:Nat):Int)=some z.cps.toList[i.toNat]:=jl (bL hk);rw[<- b]at q;exact Zu2 hz q (h _)
theorem str_len(z:Str):z.cps.toList.length=z.length:=Array.length_toList
def pick(σ:St)(j:Nat):Option V:=match σ[j]? with
 | some v=>v
 | none=>none
def tLC(g:TI)(a:List Nat)(tc:TT)(e:TE):TE:=λσ H Q=>g σ H λJ h=>∃W:Nat->Nat->List V->Hp->Prop,(∃m,W 0 m [] h)/\∀i m b H,W i m b H->
 (J.stop i H/\∀p,H p=none->Q (.ref p) (upd H p (.lst b)))\/
 (J.go i H/\b.length<sizeLine/\∀x H',J.yld i H x H'->tc (some x::a.map (pick σ)) H' λk d=>if k=true then e (some x::a.map (pick σ)) d (λy f=>∃c,c<m/\W (i+1) c (b++[y]) f)else ∃c,c<m/\W (i+1) c b d)
def xW:TT:=λ_ H Q=>Q true H
theorem CQ{σ:St}{H:Hp}{Q:Bool->Hp->Prop}(h:Q true H):xW σ H Q:=h
theorem Zoj{r b:R2}{d c tc:TE}{σ:St}{H:Hp}{Q:VK}(h:d σ H λx g=>c σ g λy f=>r x y f (kB λk a=>if k=true then tc σ a (λw e=>b y w e Q)else Q (.bl false) a)):Zbg r b d c tc σ H Q:=h
end G
namespace G
open PySem L2
def Zfy(z:Str)(n:Int):Str:=⟨(List.replicate n.toNat z.cps.toList).flatten.toArray⟩
def Zep:R2:=λx y H Q=>∃z k,x=.str z/\y=.int k/\0<=k/\k<=1000/\z.length<=1000/\∀t:Str,t.length<=1000000->t=Zfy z k->Q (.str t) H
theorem Zko{z:Str}{k:Int}{H:Hp}{Q:VK}(a:0<=k)(h1:k<=1000)(h2:z.length<=1000)(h:∀t:Str,t.length<=1000000->t=Zfy z k->Q (.str t) H):Zep (.str z) (.int k) H Q:=⟨z,k,rfl,rfl,a,h1,h2,h⟩
end G
namespace G
open PySem L2
structure EqD(K:aC)(C:Addr):Prop where
 eq:W.findIn K (.ref C) "__eq__"=some (some (.builtin "object.__eq__"))
 ob:W.mroIn K C (.type "object")=some true
end G
namespace G
open PySem L2
def Jz(C:Addr)(E:XK)(b:TA):TS:=λ_ σ H=>b σ H λvs a=>vs.length<=100/\E (.ref C) none a
def Zbh(sp:Sp)(u9:List V)(E:St->XK)(t:TA):TE:=λσ H Q=>t σ H λvs a=>sp (vs++u9) a Q (E σ)
def Zq5(d:Value->Prop)(c:(St->XK)->TS)(th:TS):TS:=λD σ H=>c (λa b _ H'=>d b/\th D a H') D σ H
section
variable {σ:St}{H:Hp}{Q:VK}{n:St->Hp->Prop}{r:VK}{b c:St->Hp->Prop}{te:TE}{t:TA}
theorem Zo8{C:Addr}{E:XK}(h:t σ H λvs a=>vs.length<=100/\E (.ref C) none a):Jz C E t ⟨n,r,b,c⟩ σ H:=h
theorem Zok{sp:Sp}{u9:List V}{E:St->XK}(h:t σ H λvs a=>sp (vs++u9) a Q (E σ)):Zbh sp u9 E t σ H Q:=h
theorem Ztt{f:Value->Prop}{e:(St->XK)->TS}{th:TS}(h:e (λa d _ H'=>f d/\th ⟨n,r,b,c⟩ a H') ⟨n,r,b,c⟩ σ H):Zq5 f e th ⟨n,r,b,c⟩ σ H:=h
end
theorem Zrv{to a:TE}{ts:Zpd}{x:V}{σ:St}{H:Hp}{Q:St->Hp->Prop}(h:to σ H λo d=>a σ d λi c=>ts o i x c λb=>Q σ b):Q5 to a ts x σ H Q:=h
def Rm(K:aC):List V->Hp->VK->Prop:=λxs H Q=>∃(p:Addr) (a:List V),xs=[.ref p]/\cV K H p a/\∀l,H l=none->Q (.ref l) (upd H l (.lst a))
theorem XH{K:aC}{H:Hp}{Q:VK}{p:Addr}{a:List V}(h1:cV K H p a)(h:∀l,H l=none->Q (.ref l) (upd H l (.lst a))):Rm K [.ref p] H Q:=⟨p,a,rfl,h1,h⟩
def OkN(K:aC)(H:Hp)(xs:List V):Prop:=∀y∈xs,y=.non\/∃a C dx fs,y=.ref a/\H a=some (.ins C dx fs)/\Gy K C/\EqD K C
def Zqi(K:aC)(a:Bool):R2:=λx y H Q=>∃p xs,x=.non/\y=.ref p/\cV K H p xs/\OkN K H xs/\Q (.bl (if a then !decide (V.non∈xs)else decide (V.non∈xs))) H
theorem Zkr{K:aC}{H:Hp}{Q:VK}{p:Addr}{xs:List V}(h1:cV K H p xs)(h2:OkN K H xs)(h:Q (.bl (!decide (V.non∈xs))) H):Zqi K true .non (.ref p) H Q:=⟨p,xs,rfl,rfl,h1,h2,h⟩
def Zeq(K:aC):V->List V->Hp->VK->Prop:=λx vs H Q=>∃p xs,x=.ref p/\vs=[.non]/\cV K H p xs/\OkN K H xs/\V.non∈xs/\Q (.int (xs.idxOf V.non)) H
def eqL(xs a:List V):Bool:=xs.length == a.length && (xs.zip a).all λp=>eqV p.1 p.2
def Zmw(K:aC)(b:Bool):R2:=λx y H Q=>∃p q xs a,x=.ref p/\y=.ref q/\cV K H p xs/\cV K H q a/\(xs.length=a.length->xs.all Ae=true/\a.all Ae=true)/\Q (.bl (if b then !eqL xs a else eqL xs a)) H
def Fm(S:List Addr)(H H':Hp):Prop:=∀b o,H b=some o->b∉S->H' b=some o
theorem Fm.same{H H':Hp}(a:Fm [] H H'):aU H H':=λc o h=>a c o h (λz=>nomatch z)
def fz(S:List Addr)(H:Hp):Hp:=λb=>if b∈S then none else H b
theorem Zdj{x:V}{H:Hp}{Q:VK}(h:Q (.bl (!decide (x=.non))) H):yc x .non H Q:=⟨rfl,h⟩
def LCg(J:It)(a:List Nat)(tc:TT)(e:TE)(σ:St)(H:Hp)(Q:VK):Prop:=∃W:Nat->Nat->List V->Hp->Prop,(∃m,W 0 m [] H)/\∀i m b H,W i m b H->
 (J.stop i H/\∀p,H p=none->Q (.ref p) (upd H p (.lst b)))\/
 (J.go i H/\b.length<sizeLine/\∀x H',J.yld i H x H'->tc (some x::a.map (pick σ)) H' λk d=>if k=true then e (some x::a.map (pick σ)) d (λy f=>∃c,c<m/\W (i+1) c (b++[y]) f)else ∃c,c<m/\W (i+1) c b d)
theorem Em{b:TI}{a:List Nat}{tc:TT}{c:TE}{σ:St}{H:Hp}{Q:VK}(h:b σ H λJ d=>LCg J a tc c σ d Q):tLC b a tc c σ H Q:=h
theorem Zkd{J:It}{a:List Nat}{tc:TT}{j:TE}{σ:St}{H:Hp}{Q:VK}(k:Nat)(hz:k<=1000000)(g:Nat->Option V)
  (b:J.stop k H) (f:∀i,i<k->J.go i H) (hy:∀i x H',i<k->J.yld i H x H'->H'=H/\(∀q:Bool->Hp->Prop,q (g i).isSome H->tc (some x::a.map (pick σ)) H q)/\∀(y:V) (q:VK),g i=some y->q y H->j (some x::a.map (pick σ)) H q)
  (q:∀p,H p=none->Q (.ref p) (upd H p (.lst ((List.range k).filterMap g)))):
  LCg J a tc j σ H Q:=by
 refine⟨λi m h H'=>H'=H/\i<=k/\m=k - i/\h=(List.range i).filterMap g,⟨k,rfl,Nat.zero_le _,rfl,rfl⟩,?_⟩;rintro i m h _ ⟨rfl,hi,rfl,rfl⟩
 by_cases hk:i=k
 ·subst hk;exact .inl ⟨b,q⟩
 ·have c:i<k:=by omega
  refine .inr ⟨f i c,?_,λx H' y=>?_⟩
  ·refine Nat.lt_of_le_of_lt (Nat.le_trans (List.length_filterMap_le _ _) ?_) (show 1000000<sizeLine by decide);rw[List.length_range];omega
  ·obtain⟨rfl,h1,h2⟩:=hy i x H' c y;refine h1 _ ?_;have d:List.filterMap g (List.range (i+1))=List.filterMap g (List.range i)++(match g i with | some y=>[y] | none=>[]):=by
    rw[List.range_succ,List.filterMap_append];cases e:g i with
    | none=>rw[List.filterMap_cons_none e];rfl
    | some y=>rw[List.filterMap_cons_some e];rfl
   cases e:g i with
   | none=>
    rw[e]at d;dsimp only[Option.isSome];refine Zkk ⟨k - (i+1),by omega,rfl,by omega,rfl,?_⟩;rw[d,List.append_nil]
   | some y=>
    rw[e]at d;dsimp only[Option.isSome];refine Za5 (h2 y _ e ⟨k - (i+1),by omega,rfl,by omega,rfl,?_⟩);rw[d]
theorem XS(l:List Nat)(p:Nat->Bool)(f:Nat->V):l.filterMap (λi=>if p i=true then some (f i)else none)=(l.filter p).map f:=by
 induction l with
 | nil=>rfl
 | cons a l ih=>
  by_cases h:p a=true
  ·rw[List.filterMap_cons_some (by rw[if_pos h]),List.filter_cons_of_pos h,List.map_cons,ih]
  ·rw[List.filterMap_cons_none (by rw[if_neg h]),List.filter_cons_of_neg h,ih]
theorem QK{a:List Nat}{tc:TT}{d:TE}{σ:St}{H:Hp}{Q:VK}{n:Nat}{z:Int}(j:z.toNat=n)(p:Nat->Bool)(f:Nat->V)(hz:n<=1000000)
  (b:∀i,i<n->∀q:Bool->Hp->Prop,q (p i) H->tc (some (.int i)::a.map (pick σ)) H q)
  (c:∀i,i<n->p i=true->∀q:VK,q (f i) H->d (some (.int i)::a.map (pick σ)) H q)
  (q:∀l,H l=none->Q (.ref l) (upd H l (.lst (((List.range n).filter p).map f)))):
  LCg (Itr 0 z.toNat) a tc d σ H Q:=by
 subst j;refine Zkd z.toNat hz (λi=>if p i=true then some (f i)else none) (Nat.le_refl _) (λi hi=>hi) (λi x H' hi y=>?_) ?_
 ·obtain⟨g,k⟩:=y;have ex:x=.int i:=by rw[k];simp
  refine⟨g,λq hq=>?_,λy q hy hq=>?_⟩
  ·rw[ex];refine b i hi q ?_;cases e:p i with
   | true=>rw[e]at hq;exact hq
   | false=>rw[e]at hq;exact hq
  ·rw[ex];cases e:p i with
   | true=>
    rw[e]at hy;have h:f i=y:=by simpa using hy
    exact c i hi e q (by rw[h];exact hq)
   | false=>rw[e]at hy;simp at hy
 ·rw[XS];exact q
theorem Zf1{K:aC}{a:Addr}{xs:List V}{b:List Nat}{tc:TT}{c:TE}{σ:St}{H:Hp}{Q:VK}(hs:cV K H a xs)(g:Nat->Option V)(hz:xs.length<=1000000)
  (hy:∀i x,xs[i]? =some x->(∀q:Bool->Hp->Prop,q (g i).isSome H->tc (some x::b.map (pick σ)) H q)/\∀(y:V) (q:VK),g i=some y->q y H->c (some x::b.map (pick σ)) H q)
  (q:∀p,H p=none->Q (.ref p) (upd H p (.lst ((List.range xs.length).filterMap g)))):
  LCg (Itl K a) b tc c σ H Q:=by
 refine Zkd xs.length hz g ⟨xs,hs,Nat.le_refl _⟩ (λi hi=>⟨xs,xs[i],hs,bL hi⟩) (λi x H' hi y=>?_) q;obtain⟨d,e⟩:=y;exact⟨d,hy i x (e xs hs)⟩
theorem uh{n i:Nat}(h:i<n):ixN n (i:Int)=some i:=by
 unfold ixN;rw[if_pos (by omega),if_pos (by omega)];simp
theorem Zo7{n:Nat}{i:Int}(a:0<=i)(h:i.toNat<n):ixN n i=some i.toNat:=by
 have e:i=((i.toNat:Nat):Int):=by omega
 have:=uh h;rw[<- e]at this;exact this
theorem pq{a:Type}{xs:List a}{i:Int}{v:a}(b:0<=i)(h:xs[i.toNat]? =some v):atI xs i=some v:=by
 have e:i=((i.toNat:Nat):Int):=by omega
 have:=jl h;rw[<- e]at this;exact this
end G
namespace G
open PySem L2
inductive Al{α β:Type}(P:α->β->Prop):List α->List β->Prop
 | nil:Al P [] []
 | cons {x:α}{y:β}{xs:List α}{ys:List β}:P x y->Al P xs ys->Al P (x::xs) (y::ys)
section
variable {α β:Type}{P P':α->β->Prop}{xs:List α}{ys:List β}
theorem Al.length(h:Al P xs ys):xs.length=ys.length:=by
 induction h with
 | nil=>rfl
 | cons _ _ ih=>rw[List.length_cons,List.length_cons,ih]
theorem Al.mono(h:Al P xs ys)(f:∀x y,P x y->P' x y):Al P' xs ys:=by
 induction h with
 | nil=>exact .nil
 | cons p _ ih=>exact .cons (f _ _ p) ih
theorem Al.get(h:Al P xs ys):∀{i:Nat}{y:β},ys[i]? =some y->∃x,xs[i]? =some x/\P x y:=by
 induction h with
 | nil=>intro i y e;simp at e
 | cons p _ ih=>
  intro i y e;cases i with
  | zero=>simp at e;subst e;exact⟨_,rfl,p⟩
  | succ i=>
   obtain⟨x,a,b⟩:=ih (i:=i) (y:=y) (by simpa using e);exact⟨x,by simpa using a,b⟩
end
end G
namespace G
open PySem L2
abbrev Tg:=Addr->Nat×Nat
def WT(H:Hp)(T:Tg):Prop:=∀b,H b=none->T b=(0,0)
structure jo(s:Nat)(H H':Hp)(T T':Tg):Prop where
 kp:∀b o,H b=some o->(T b).1≠s->H' b=some o
 al:∀b o,H b=some o->∃o',H' b=some o'
 tg:∀b o,H b=some o->T' b=T b
 wt:WT H' T'
def jR(T:Tg)(a:Addr)(v:Nat×Nat):Tg:=λx=>if x=a then v else T x
theorem ji{T:Tg}{a:Addr}{v:Nat×Nat}:jR T a v a=v:=by unfold jR;rw[if_pos rfl]
theorem lF{T:Tg}{a b:Addr}{v:Nat×Nat}(h:b≠a):jR T a v b=T b:=by unfold jR;rw[if_neg h]
theorem WT.same{H H':Hp}{T:Tg}(w:WT H T)(s:aU H H'):WT H' T:=λb h=>w b (s.free h)
theorem jo.refl{s:Nat}{H:Hp}{T:Tg}(w:WT H T):jo s H H T T:=⟨λ_ _ h _=>h,λ_ o h=>⟨o,h⟩,λ_ _ _=>rfl,w⟩
theorem jo.same{s:Nat}{H H':Hp}{T:Tg}(w:WT H T)(e:aU H H'):jo s H H' T T:=⟨λb o h _=>e b o h,λb o h=>⟨o,e b o h⟩,λ_ _ _=>rfl,w.same e⟩
theorem jo.trans{s:Nat}{H e d:Hp}{T f c:Tg}(a:jo s H e T f)(b:jo s e d f c):jo s H d T c where
 kp:=λx o h n=>b.kp x o (a.kp x o h n) (by rw[a.tg x o h];exact n)
 al:=λx o h=>by
  obtain⟨o1,h1⟩:=a.al x o h;exact b.al x o1 h1
 tg:=λx o h=>by
  obtain⟨o1,h1⟩:=a.al x o h;rw[b.tg x o1 h1,a.tg x o h]
 wt:=b.wt
theorem jo.upd{s:Nat}{H:Hp}{T:Tg}{a:Addr}{o c:HO}(w:WT H T)(f:H a=some o)(d:(T a).1=s):jo s H (L2.upd H a c) T T where
 kp:=λx u h n=>by
  have:x≠a:=λe=>n (by rw[e];exact d);rw[aB this];exact h
 al:=λx u h=>by
  by_cases e:x=a
  ·exact⟨c,by rw[e,aq]⟩
  ·exact⟨u,by rw[aB e];exact h⟩
 tg:=λ_ _ _=>rfl
 wt:=λb h=>w b (by
  by_cases e:b=a
  ·rw[e,aq]at h;cases h
  ·rw[aB e]at h;exact h)
theorem Qy{T:Tg}{a b:Addr}{x y:Nat×Nat}(c:T a=x)(hb:T b=y)(h:x≠y):a≠b:=λe=>h (by rw[<- c,<- hb,e])
end G
namespace G
open PySem L2
theorem Zke{J:It}{b:List Nat}{tc:TT}{o:TE}{σ:St}{H:Hp}{Q:VK}(k:Nat)(hz:k<=1000000)(R:Nat->V->Hp->Prop)(mono:∀i y a d,R i y a->aU a d->R i y d)
  (f:∀H',aU H H'->J.stop k H') (n:∀i H',i<k->aU H H'->J.go i H')
  (hy:∀i x a H',i<k->aU H a->J.yld i a x H'->H'=a/\(∀q:Bool->Hp->Prop,q true a->tc (some x::b.map (pick σ)) a q)/\∀q:VK,(∀y d,aU a d->R i y d->q y d)->o (some x::b.map (pick σ)) a q)
  (q:∀c H',aU H H'->c.length=k->(∀(i:Nat) y,c[i]? =some y->R i y H')->∀p,H' p=none->Q (.ref p) (upd H' p (.lst c))):
  LCg J b tc o σ H Q:=by
 refine⟨λi m c H'=>aU H H'/\i<=k/\m=k - i/\c.length=i/\∀(j:Nat) y,c[j]? =some y->R j y H',⟨k,aU.refl _,Nat.zero_le _,rfl,rfl,λj y e=>by simp at e⟩,?_⟩;rintro i m c a ⟨g,hi,rfl,hl,hr⟩
 by_cases hk:i=k
 ·subst hk;exact .inl ⟨f a g,q c a g hl hr⟩
 ·have h:i<k:=by omega
  refine .inr ⟨n i a h g,Nat.lt_of_le_of_lt (show c.length<=1000000 by omega) (show 1000000<sizeLine by decide),λx H' y=>?_⟩;obtain⟨rfl,h1,h2⟩:=hy i x a H' h g y;refine h1 _ (Za5 (h2 _ λy d s r=>⟨k - (i+1),by omega,g.trans s,by omega,rfl,by rw[List.length_append,hl];rfl,λj z e=>?_⟩))
  by_cases hj:j<c.length
  ·rw[List.getElem?_append_left hj]at e;exact mono j z _ _ (hr j z e) s
  ·have l:=(dX e).1;rw[List.length_append,List.length_singleton]at l;have t:j=c.length:=by omega
   subst t;rw[List.getElem?_append_right (Nat.le_refl _),Nat.sub_self]at e;cases e;rw[hl];exact r
theorem Znz{b:List Nat}{tc:TT}{g:TE}{σ:St}{H:Hp}{Q:VK}{n:Nat}{z:Int}(k:z.toNat=n)(hz:n<=1000000)(R:Nat->V->Hp->Prop)(mono:∀i y a c,R i y a->aU a c->R i y c)
  (e:∀i a,∀q:Bool->Hp->Prop,q true a->tc (some (.int i)::b.map (pick σ)) a q)
  (f:∀(i:Nat) a,i<n->aU H a->∀q:VK,(∀y c,aU a c->R i y c->q y c)->g (some (.int i)::b.map (pick σ)) a q)
  (q:∀d H',aU H H'->d.length=n->(∀(i:Nat) y,d[i]? =some y->R i y H')->∀p,H' p=none->Q (.ref p) (upd H' p (.lst d))):LCg (Itr 0 z.toNat) b tc g σ H Q:=by
 subst k;refine Zke z.toNat hz R mono (λ_ _=>Nat.le_refl _) (λi _ hi _=>hi) (λi x a H' hi j y=>?_) q;obtain⟨h,l⟩:=y;have ex:x=.int i:=by rw[l];simp
 subst ex;exact⟨h,e i a,λq hq=>f i a hi j q hq⟩
theorem Zo0{J:It}{d:List Nat}{tc:TT}{v:TE}{σ:St}{H:Hp}{Q:VK}(k:Nat)(hz:k<=1000000)(R:Nat->Addr->Hp->Prop)(mono:∀i y c f,R i y c->aU c f->R i y f)(al:∀i y c,R i y c->∃o,c y=some o)
  (g:∀H',aU H H'->J.stop k H') (s:∀i H',i<k->aU H H'->J.go i H')
  (hy:∀i x c H',i<k->aU H c->J.yld i c x H'->H'=c/\(∀q:Bool->Hp->Prop,q true c->tc (some x::d.map (pick σ)) c q)/\∀q:VK,(∀r f,aU c f->c r=none->R i r f->q (.ref r) f)->v (some x::d.map (pick σ)) c q)
  (q:∀(rs:List Addr) H',aU H H'->rs.length=k->rs.Nodup->(∀r∈rs,H r=none)->(∀(i:Nat) r,rs[i]? =some r->R i r H')->∀p,H' p=none->Q (.ref p) (upd H' p (.lst (rs.map V.ref)))):
  LCg J d tc v σ H Q:=by
 refine⟨λi m C H'=>∃rs:List Addr,C=rs.map V.ref/\aU H H'/\i<=k/\m=k - i/\rs.length=i/\rs.Nodup/\(∀r∈rs,H r=none)/\∀(j:Nat) r,rs[j]? =some r->R j r H',⟨k,[],rfl,aU.refl _,Nat.zero_le _,rfl,rfl,List.nodup_nil,λr hr=>(nomatch hr),λj y e=>by simp at e⟩,?_⟩;rintro i m _ c ⟨rs,rfl,h,hi,rfl,hl,nd,A,hr⟩
 by_cases hk:i=k
 ·subst hk;exact .inl ⟨g c h,q rs c h hl nd A hr⟩
 ·have l:i<k:=by omega
  refine .inr ⟨s i c l h,Nat.lt_of_le_of_lt (show(rs.map V.ref).length<=1000000 by rw[bx];omega) (show 1000000<sizeLine by decide),λx H' y=>?_⟩;obtain⟨rfl,h1,h2⟩:=hy i x c H' l h y;refine h1 _ (Za5 (h2 _ λr f w B D=>⟨k - (i+1),by omega,rs++[r],by rw[List.map_append];rfl,h.trans w,by omega,rfl,by rw[List.length_append,hl];rfl,?_,λz hz=>?_,λj z e=>?_⟩))
  ·rw[List.nodup_append];refine⟨nd,by simp,λa E b hb e=>?_⟩;rw[List.mem_singleton.mp hb]at e;subst e;obtain⟨j,hj,t⟩:=List.getElem_of_mem E;obtain⟨o,u⟩:=al j a _ (hr j a (by rw[bL hj,t]));rw[B]at u;cases u
  ·rcases List.mem_append.mp hz with hz | hz
   ·exact A z hz
   ·rw[List.mem_singleton.mp hz];exact h.free B
  ·by_cases hj:j<rs.length
   ·rw[List.getElem?_append_left hj]at e;exact mono j z _ _ (hr j z e) w
   ·have n:=(dX e).1;rw[List.length_append,List.length_singleton]at n;have t:j=rs.length:=by omega
    subst t;rw[List.getElem?_append_right (Nat.le_refl _),Nat.sub_self]at e;cases e;rw[hl];exact D
theorem QL{K:aC}{a:Addr}{xs:List V}{c:List Nat}{tc:TT}{h:TE}{σ:St}{H:Hp}{Q:VK}(hs:cV K H a xs)(hz:xs.length<=1000000)(R:Nat->Addr->Hp->Prop)(mono:∀i y b d,R i y b->aU b d->R i y d)(al:∀i y b,R i y b->∃o,b y=some o)
  (e:∀x b,∀q:Bool->Hp->Prop,q true b->tc (some x::c.map (pick σ)) b q)
  (f:∀(i:Nat) x b,xs[i]? =some x->aU H b->∀q:VK,(∀r d,aU b d->b r=none->R i r d->q (.ref r) d)->h (some x::c.map (pick σ)) b q)
  (q:∀(rs:List Addr) H',aU H H'->rs.length=xs.length->rs.Nodup->(∀r∈rs,H r=none)->(∀(i:Nat) r,rs[i]? =some r->R i r H')->∀p,H' p=none->Q (.ref p) (upd H' p (.lst (rs.map V.ref)))):LCg (Itl K a) c tc h σ H Q:=by
 refine Zo0 xs.length hz R mono al (λH' s=>⟨xs,s.seq hs,Nat.le_refl _⟩) (λi H' hi s=>⟨xs,xs[i],s.seq hs,bL hi⟩) (λi x b H' hi g y=>?_) q;obtain⟨j,k⟩:=y;exact⟨j,e x b,λq hq=>f i x b (k xs (g.seq hs)) g q hq⟩
end G
namespace G
open PySem L2 PySem.Spec PyProof.Rows
theorem boot_len:bootBuiltins "len"=some (.builtin "len"):=by decide +kernel
theorem boot_list:bootBuiltins "list"=some (.type "list"):=by decide +kernel
structure Zt1(K:aC)(x qual:Str)(st:Stmt)(f:Addr)(fd:FuncData):Prop where
 ex:∃(oc:Value) (od:Option Addr) (dV kV doc pm:Value) (an:Option Addr) (cdv ct:Value) (osl:Array (Option Value)),
  fd=W.fnOf x qual (mX st) (j7 st) (aF st) dV kV doc pm an cdv ct/\K.lookup f=some ⟨oc,od,.func fd,osl⟩/\W.codeIn K cdv qual=true
 kp:W.keepIn K (.ref f)=true
section
variable {P:Program}{w:World}{K:aC}{mg:Str->Option Value}{base:Heap}
theorem Zov{x a:Str}{st:Stmt}{f:Addr}{oc dV:Value}{od h:Option Addr}{e:Array (Option Value)}{kV d g b ct:Value}(l:K.lookup f=some ⟨oc,od,.func (W.fnOf x a (mX st) (j7 st) (aF st) dV kV d g h b ct),e⟩)
  (c:W.codeIn K b a=true) (k:W.keepIn K (.ref f)=true):Zt1 K x a st f (W.fnOf x a (mX st) (j7 st) (aF st) dV kV d g h b ct):=⟨⟨oc,od,dV,kV,d,g,h,b,ct,e,rfl,l,c⟩,k⟩
theorem Zef{f b:Addr}{oc tc:Value}{od d:Option Addr}{c ts:Array (Option Value)}{fd:FuncData}{a:Array Value}{tn:Nat}{ps:List Str}{ds:List Value}(_:K.lookup f=some ⟨oc,od,.func fd,c⟩)(t:K.lookup b=some ⟨tc,d,.seq a tn,ts⟩)
  (h:∀us:List Value,us.length+ds.length=ps.length->∃k,bindArgs fd ⟨us,[]⟩=seqItems? (.ref b) >>= k/\k (some a)=pure (ps.zip (us++ds))) (hd:fd.defaults=.ref b:=by rfl):Binds K fd ps ds:=by
 intro s us e hl;obtain⟨k,h1,h2⟩:=h us (by rw[List.length_append]at hl;exact hl);exact BindsTo.of_defaults hd (e _ _ t) rfl (by rw[h1,hd]) h2
end
section
variable {X:Cx}
theorem vH:Ak X (compareOp .Is) Nz:=Zqq
theorem sJ:Ak X (compareOp .IsNot) yc:=Zni
theorem eG:Ru X (.builtin "len") (oA X.K):=Yi
def kk(t n:String):Option Bool:=if (Value.type t == Value.type n)=true then some true else if W.kitMeta n=true then(fastBuiltinMro t).map (·.contains (.type n))else none
end
end G
namespace G
open PySem L2 PySem.Spec PyProof.Rows
section
variable {X:Cx}
def GC(mg:Str->Option Value)(x:Str)(v:V):Prop:=∃u,mg x=some u/\RelV v u
theorem GC.pe{x:Str}{v:V}{a:Pos}(h:GC X.mg x v)(b:Gl X x)(hd:(x == ("__debug__":Str))=false:=by decide):PE X (.Name x a) (tC v):=by
 obtain⟨u,hm,r⟩:=h;exact Znf b hm r hd
end
end G
namespace G
open PySem L2 PySem.Spec PyProof.Rows
section
variable {X:Cx}
theorem Znw(z:Str)(k:Int):Txt.mul z k=Zfy z k:=by
 unfold Txt.mul Zfy;have fl:∀(n:Nat) (acc:List Nat),List.foldl (λb a=>b++a) acc.toArray (List.replicate n z.cps)=(acc++(List.replicate n z.cps.toList).flatten).toArray:=by
  intro n
  induction n with
  | zero=>intro acc;simp
  | succ n ih=>
   intro acc;rw[List.replicate_succ,List.replicate_succ,List.foldl_cons,List.flatten_cons];have e:acc.toArray++z.cps=(acc++z.cps.toList).toArray:=by simp
   rw[e,ih,List.append_assoc]
 split
 ·rename_i h
  have e:k.toNat=0:=by omega
  rw[e];rfl
 ·rename_i h
  split
  ·rename_i h2
   rw[Bool.or_eq_true]at h2;rcases h2 with h2 | h2
   ·have e:k.toNat=1:=by have:=beq_iff_eq.mp h2;omega
    rw[e];simp
   ·have e:z.cps=#[]:=Array.eq_empty_of_size_eq_zero (beq_iff_eq.mp h2);obtain⟨c⟩:=z;dsimp only at e;subst e;have:∀n:Nat,(List.replicate n ([]:List Nat)).flatten=[]:=λn=>by
     induction n with
     | zero=>rfl
     | succ n ih=>rw[List.replicate_succ,List.flatten_cons,ih];rfl
    simp[this]
  ·have:=fl k.toNat [];simp only[List.nil_append]at this;show(⟨List.foldl (λb a=>b++a) #[] (List.replicate k.toNat z.cps)⟩:Str)=_;rw[this]
theorem PL(z:Str)(k:Int):(Zfy z k).length=k.toNat * z.length:=by
 show(List.toArray _).size=_;rw[List.size_toArray];have:∀n:Nat,(List.replicate n z.cps.toList).flatten.length=n * z.length:=λn=>by
  induction n with
  | zero=>simp
  | succ n ih=>rw[List.replicate_succ,List.flatten_cons,List.length_append,ih,str_len,Nat.succ_mul,Nat.add_comm]
 exact this _
theorem Zet:Ak X (binaryOp .Mult) Zep:=by
 intro a s σ H x y v u Q I d c h;obtain⟨z,k,rfl,rfl,f,h1,h2,q⟩:=h;obtain⟨t,rfl⟩:=d;obtain⟨t',rfl⟩:=c;have hb:k.toNat * z.length<=1000000:=Nat.le_trans (Nat.mul_le_mul (show k.toNat<=1000 by omega) h2) (by decide);refine SB.mul ⟨?_,λh3 _=>?_,λh3 _=>?_⟩ λb kk=>?_
 ·simp;omega
 ·intro z1;have:(z.length:Int)<=1000:=by omega
  have e:(1000:Int)<(2 ^ 63 - 1) / k:=by
   have hk:0<k:=by omega
   rw[Int.lt_iff_add_one_le,Int.le_ediv_iff_mul_le hk];omega
  omega
 ·unfold Builtin.Str.tooLong;have:z.length * k.toNat<=1000000:=by rw[Nat.mul_comm];exact hb
  simp;exact Nat.le_trans this (by decide)
 ·rw[Znw];exact⟨.str (Zfy z k),H,I.tok _,⟨_,rfl⟩,q _ (by rw[PL];exact hb) rfl⟩
end
end G
namespace G
open PySem L2
end G
namespace G
open PySem L2 PySem.Spec PyProof.Rows
section
variable {X:Cx}{pins:List (Addr×Obj)}{σ:L2.St}{H:Hp}{s:Shared}{acc:Addr}{ys:List V}{its:List Value}{n:Nat}
theorem adopt(I:Inv X pins σ H s)(f:qO X pins H acc)(d:s.heap.get? acc=some { cls:=.type "list",data:=.seq its.toArray n })(hv:Vals ys its)(hz:ys.length<=sizeLine):Inv X pins σ (upd H acc (.lst ys)) s:=by
 obtain⟨i,g,l,a,j,h⟩:=f;have ne:∀b u,H b=some u->b≠acc:=λb u e=>aD e i;refine I.step (h':=s.heap) (g':=s.gens) (t':=s.toks) (d':=s.drawn) (ch:=[acc]) (λb hb=>?_) (λ_ _ _ _ _ e _=>e) (λb o _ _ _ e _=>⟨o.slots,e⟩) (λb o hb e k=>?_) (λb o _ e=>⟨o,e⟩)
  (λb xs e=>by rw[aB (ne b _ e)];exact e) (λb o u e=>by rw[aB (ne b _ e)];exact e) (λb ps e=>⟨#[],by rw[aB (ne b _ e),e];simp⟩) (λm hm=>hm) (λb u e=>?_) I.bare
 ·have e:b=acc:=by simpa using hb
  subst e;exact⟨a,g,j,h⟩
 ·have e:b≠acc:=by simpa using hb
  rw[aB e];exact k
 ·by_cases hb:b=acc
  ·subst hb;rw[aq]at e;cases e;exact⟨hz,its,n,hv,d⟩
  ·rw[aB hb]at e;exact(I.hok b u e).stay (λ_ _ _ q=>q) (λc q=>by rw[aB (ne c _ q)];exact q) λc xs q=>by rw[aB (ne c _ q)];exact q
theorem disown(I:Inv X pins σ (upd H acc (.lst ys)) s)(g:qO X pins H acc):Inv X pins σ H s:=by
 obtain⟨k,h,n,f,l,i⟩:=g;have back:∀b u,upd H acc (.lst ys) b=some u->u≠.lst ys->H b=some u:=λb u e a=>by
  by_cases hb:b=acc
  ·subst hb;rw[aq]at e;cases e;exact absurd rfl a
  ·rw[aB hb]at e;exact e
 refine I.step (h':=s.heap) (g':=s.gens) (t':=s.toks) (d':=s.drawn) (ch:=[acc]) (λb hb=>?_) (λ_ _ _ _ _ e _=>e) (λb o _ _ _ e _=>⟨o.slots,e⟩) (λb o hb e d=>?_) (λb o _ e=>⟨o,e⟩)
  (λb xs e=>back b _ e (λz=>nomatch z)) (λb o u e=>back b _ e (λz=>nomatch z)) (λb ps e=>⟨#[],by rw[back b _ e (λz=>nomatch z)];simp⟩) (λm hm=>hm) (λb u e=>?_) I.bare
 ·have e:b=acc:=by simpa using hb
  subst e;exact⟨f,h,l,i⟩
 ·have e:b≠acc:=by simpa using hb
  rw[aB e]at d;exact d
 ·have hb:b≠acc:=aD e k;have j:upd H acc (.lst ys) b=some u:=by rw[aB hb];exact e
  exact(I.hok b u j).stay (λ_ _ _ q=>q) (λc q=>back c _ q (λz=>nomatch z)) λc xs q=>back c _ q (λz=>nomatch z)
end
def PF(X:Cx)(b:List Expr)(t:TT):Prop:=
 ∀(a:List (Addr×Obj)) (s:Shared) (σ:L2.St) (H:Hp) (Q:Bool->Hp->Prop),Inv X a σ H s->t σ H Q->
  wpAny (model X.prog X.w) X.A (forIn b true λc r=>if r=true then do let ok <- isTrue c X.env (eval c X.env);pure (ForInStep.yield ok)else pure (ForInStep.yield r)) (TP X a σ Q) X.xe s
theorem FQ{X:Cx}:PF X [] xW:=λ_ _ _ H _ I h=>wpAny_tests_nil ⟨H,I,h⟩
theorem J9{X:Cx}{c:Expr}{t:TT}(h:PT X c t):PF X [c] t:=λa s σ H Q I q=>wpAny_tests_one (h a s σ H Q I q)
def Rg(X:Cx)(a:Scope)(cl:List (Str×Addr))(N:List Str)(C:Addr)(s:Shared)(H:Hp)(ex:List Addr)(pn:List (Addr×Obj)):Cx:=
 { X with N:=N,s₀:=s,H₀:=H,env:=compEnvC a cl C X.env,outer:=X.stack,ex:=ex,fn:=λ_=>false,pn:=pn,xe:=λ_ _=>False }
def AllIn(cells:List (Str×Addr)):List (Str×Addr)->Prop
 | []=>True
 | p::r=>cells.lookup p.1=some p.2/\AllIn cells r
theorem AllIn.get{cells:List (Str×Addr)}:∀{cl:List (Str×Addr)},AllIn cells cl->∀{x:Str}{c:Addr},cl.lookup x=some c->cells.lookup x=some c
 | [],_,x,c,h=>by cases h
 | (y,d)::r,a,x,c,h=>by
  cases e:(x == y)with
  | true=>
   rw[List.lookup_cons,e]at h;have b:x=y:=beq_iff_eq.mp e;subst b;cases h;exact a.1
  | false=>
   rw[List.lookup_cons,e]at h;exact AllIn.get a.2 h
def Dj(X:Cx):List Str->List Nat->Prop
 | [],[]=>True
 | y::r,j::js=>X.N[j]? =some y/\X.env.kindOf y=some .cell/\Dj X r js
 | _,_=>False
theorem Dj.len{X:Cx}:∀{ns:List Str}{js:List Nat},Dj X ns js->ns.length=js.length
 | [],[],_=>rfl
 | [],_::_,h=>h.elim
 | _::_,[],h=>h.elim
 | _::r,_::js,h=>by rw[List.length_cons,List.length_cons,Dj.len h.2.2]
theorem Dj.get{X:Cx}{σ:L2.St}:∀{ns:List Str}{js:List Nat},Dj X ns js->∀{i:Nat}{x:Str}{v:V},ns[i]? =some x->(js.map (pick σ))[i]? =some (some v)->∃j:Nat,X.N[j]? =some x/\X.env.kindOf x=some .cell/\σ[j]? =some (some v)
 | [],_,_,i,x,v,h,_=>by simp at h
 | _::_,[],h,_,_,_,_,_=>h.elim
 | y::r,j::js,h,0,x,v,h1,h2=>by
  simp at h1 h2;subst h1;refine⟨j,h.1,h.2.1,?_⟩;unfold pick at h2;split at h2
  ·rename_i e;rw[e,h2]
  ·cases h2
 | y::r,j::js,h,i+1,x,v,h1,h2=>Dj.get (i:=i) h.2.2 (by simpa using h1) (by simpa using h2)
theorem Zk9{x n:Str}{k:NameKind}{r:List (Str×NameKind)}(h:(x == n)=false):List.lookup x ((n,k)::r)=List.lookup x r:=by rw[List.lookup_cons,h]
theorem Zka{x n:Str}{k:NameKind}{r:List (Str×NameKind)}(h:(x == n)=true):List.lookup x ((n,k)::r)=some k:=by rw[List.lookup_cons,h]
def Bv(env:Env)(x:Str)(k:NameKind):NameKind:=if (k == NameKind.free && env.scope.kind == .function && env.kindOf x == some .cell)=true then .cell else k
theorem nH{env:Env}{x:Str}:∀{names:List (Str×NameKind)},
  (names.map λ(n,k)=>if (k == NameKind.free && env.scope.kind == .function && env.kindOf n == some .cell)then(n,NameKind.cell)else(n,k)).lookup x=(names.lookup x).map (Bv env x)
 | []=>rfl
 | (n,a)::r=>by
  have ih:=@nH env x r;show List.lookup x ((if (a == NameKind.free && env.scope.kind == .function && env.kindOf n == some .cell)=true then(n,NameKind.cell)else(n,a))::r.map λ(n,k)=>if (k == NameKind.free && env.scope.kind == .function && env.kindOf n == some .cell)then(n,NameKind.cell)else(n,k))=_;cases hx:x == n with
  | true=>
   have e:=beq_iff_eq.mp hx;subst e;rw[Zka (k:=a) hx]
   by_cases hc:(a == NameKind.free && env.scope.kind == .function && env.kindOf x == some .cell)=true
   ·rw[if_pos hc,Zka hx];show some NameKind.cell=some (Bv env x a);unfold Bv;rw[if_pos hc]
   ·rw[if_neg hc,Zka hx];show some a=some (Bv env x a);unfold Bv;rw[if_neg hc]
  | false=>
   rw[Zk9 (k:=a) (r:=r) hx]
   by_cases hc:(a == NameKind.free && env.scope.kind == .function && env.kindOf n == some .cell)=true
   ·rw[if_pos hc,Zk9 hx];exact ih
   ·rw[if_neg hc,Zk9 hx];exact ih
theorem lookup_all{names:List (Str×NameKind)}{p:Str×NameKind->Bool}:∀{x:Str}{k:NameKind},names.all p=true->names.lookup x=some k->p (x,k)=true:=by
 induction names with
 | nil=>intro x k _ h;simp at h
 | cons y r ih=>
  intro x k a h;obtain⟨n,d⟩:=y;rw[List.all_cons,Bool.and_eq_true]at a;cases hx:x == n with
  | true=>
   rw[List.lookup_cons,hx]at h;have b:x=n:=beq_iff_eq.mp hx;have c:d=k:=Option.some.inj h;rw[b,<- c];exact a.1
  | false=>
   rw[List.lookup_cons,hx]at h;exact ih a.2 h
theorem M8{prog:Program}{w:World}{A:Around}{R:Result->Shared->Prop}{s:Shared}{p a iter:Expr}{q:List Expr}{b:Scope}{y:Pos}{B acc:Value}{env:Env}(I:Nat->Shared->Prop)
  (turn:∀n s,I n s->wpAny (model prog w) A (pyNext B) (λr e=>match r with
   | none=>R (.ok .next) e
   | some v=>wpAny (model prog w) A (letOwnedTupleGo a B v) (λ_ f=>wpAny (model prog w) A (assign a env v) (λ_ j=>
     wpAny (model prog w) A (forIn q true λc r=>if r=true then do let ok <- isTrue c env (eval c env);pure (ForInStep.yield ok)else pure (ForInStep.yield r)) (λok d=>
      if ok=true then wpAny (model prog w) A (eval p env) (λx i=>
       wpAny (model prog w) A (call (.builtin "list.append") [acc,x]) (λ_ k=>∃m,m<n/\I m k) (λ_ _=>False) i) (λ_ _=>False) d
      else ∃m,m<n/\I m d) (λ_ _=>False) j) (λ_ _=>False) f) (λ_ _=>False) e) (λ_ _=>False) s)
  (n:Nat) (h:I n s):
  codeAny (model prog w) A (.compLoop (.ListComp p [⟨a,iter,q,0⟩] b y) 0 B acc env) R s:=by
 refine codeAny_loop rfl I (λn s C=>?_) n h;show wpAny _ A ((compTurn (.ListComp p [⟨a,iter,q,0⟩] b y) 0 B acc env).onRaise (λx=>do noteFrame x env;theTreesLotGoes x)) _ _ s;refine wpAny_noted ?_;rw[compTurn_list];refine wpAny_bind (wpAny_standAt (wpAny_bind (wpAny_mono (turn n s C) (λr e l=>?_) λ_ _ h'=>h'.elim)));cases r with
 | none=>exact wpAny_pure l
 | some v=>
  refine wpAny_bind (wpAny_mono l (λ_ f o=>?_) λ_ _ h'=>h'.elim);refine wpAny_bind (wpAny_mono o (λ_ j z=>wpAny_bind (wpAny_mono z (λok d g=>?_) λ_ _ h'=>h'.elim)) λ_ _ h'=>h'.elim);cases ok with
  | false=>exact wpAny_pure ⟨rfl,g⟩
  | true=>
   exact wpAny_bind (wpAny_bind (wpAny_mono g (λx i u=>wpAny_bind (wpAny_mono u (λ_ k t=>wpAny_pure (wpAny_pure ⟨rfl,t⟩)) λ_ _ h'=>h'.elim)) λ_ _ h'=>h'.elim))
theorem Zj4{X:Cx}{elt iter tg:Expr}{pos:Pos}{ifs:List Expr}{f:Scope}{cl:List (Str×Addr)}{wi:TI}{tc:TT}{te:TE}{cns:List Str}{ns:List Str}{gt:TG}{R:It->L2.St->Hp->VK->Prop}(t:List Nat)
  (hR:∀J σ H Q,R J σ H Q->∃W:Nat->Nat->List V->Hp->Prop,(∃m,W 0 m [] H)/\∀i m K H,W i m K H->
   (J.stop i H/\∀p,H p=none->Q (.ref p) (upd H p (.lst K)))\/
   (J.go i H/\K.length<sizeLine/\∀x H',J.yld i H x H'->∀vs:L2.St,vs.length=ns.length->∃us:L2.St,us.length=ns.length/\gt x (vs++t.map (pick σ)) H' (λσ2 H2=>σ2=us++t.map (pick σ)/\H2=H')/\tc (us++t.map (pick σ)) H' λk H2=>if k=true then te (us++t.map (pick σ)) H2 (λy H3=>∃m',m'<m/\W (i+1) m' (K++[y]) H3)else ∃m',m'<m/\W (i+1) m' K H2))
  (hi:PI X tg iter wi) (hg:∀C s H ex pn,PG (Rg X f cl (ns++cns) C s H ex pn) tg gt)
  (hf:∀C s H ex pn,PF (Rg X f cl (ns++cns) C s H ex pn) ifs tc) (he:∀C s H ex pn,PE (Rg X f cl (ns++cns) C s H ex pn) elt te) (hc:X.calm=true)
  (hclos:closureFor f X.env=pure cl) (hcl:AllIn X.env.cells cl) (hcap:Dj X cns t)
  (O:f.kind=.function) (hcell:(f.names.all λp=>p.2 != .cell)=true) (hfree:(f.names.all λp=>p.2 != .free || (cl.lookup p.1).isSome)=true)
  (hcf:(cns.all λy=>f.names.lookup y == some .free)=true) (hnames:∀y∈f.names,y.2=.local->f.names.lookup y.1=some .local)
  (hs:∀v,foldedSetIterable iter X.env v=pure v):
  PE X (.ListComp elt [⟨tg,iter,ifs,0⟩] f pos) (λσ H Q=>wi σ H λJ H1=>R J σ H1 Q):=by
 intro D s σ H Q I h;rw[eval_ListComp];refine wpAny_comprehension_free (use:=none) rfl hs hclos O hnames (jf (hi D s σ H _ I h) λxv s1 h1=>jf h1 λitv Z h2=>?_);obtain⟨it,S,tn,J,H2,rfl,E,T,st2,f2,hr⟩:=h2;obtain⟨W,⟨m0,w0⟩,turn⟩:=hR _ _ _ _ hr;have hne:∀y∈f.names,y.2≠.cell:=λy hy e=>by
  have:=List.all_eq_true.mp hcell y hy;rw[e]at this;simp at this
 refine wpAny_newObj_type (wpAny_newFunctionEnv hne (by intro y hy;simp at hy) (λh₁ L M=>?_) O);dsimp only at L M ⊢;generalize F:Z.heap.objs.size=acc;generalize hH3:Z.heap.push { cls:=.type "list",dict:=none,data:=.seq ([]:List Value).toArray }=h3 at L M ⊢;have hC:h3.objs.size=acc+1:=by rw[<- hH3,Heap.size_push,F]
 have P:∀b o,Z.heap.get? b=some o->h3.get? b=some o:=λb o e=>hH3 ▸ Heap.get?_push_of_some _ e;have S7:∀b o,h3.get? b=some o->h₁.get? b=some o:=λb o e=>M.extBut b o (Nat.ne_of_lt (Heap.lt_size e)) (Heap.get?_push_of_some _ e);have Zqw:h3.get? acc=some { cls:=.type "list",dict:=none,data:=.seq ([]:List Value).toArray }:=by
  rw[<- hH3,<- F];exact Heap.get?_push_size _ rfl
 have I3:Inv X D σ H2 { Z with heap:=h3 }:=E.kept (t':=Z.toks) P;have Zdz:qO X D H2 acc:=E.Zab (Nat.le_of_eq F) (E.hok.fresh (Nat.le_of_eq F));have fpl:∀b∈S,b<acc:=λb hb=>by
  obtain⟨o,e,_⟩:=T.obj _ _ st2 b hb;rw[<- F];exact Heap.lt_size e
 have Lw:∀b∈acc::S,qO X D H2 b:=λb hb=>(List.mem_cons.mp hb).elim (λe=>e ▸ Zdz) (f2 b);have exC:∀b∈acc::S,b≠h3.objs.size:=λb hb=>by
  rcases List.mem_cons.mp hb with e | hb
  ·rw[hC,e];exact Nat.ne_of_lt (Nat.lt_succ_self _)
  ·rw[hC];exact Nat.ne_of_lt (Nat.lt_succ_of_lt (fpl b hb))
 have Es:∀b∈acc::S,b∉frs X.stack:=λb hb hm=>by
  obtain⟨_,g1,g2,_⟩:=Lw b hb;exact(List.mem_cons.mp (E.Ay b hm)).elim g1 g2
 let Y:Cx:=Rg X f cl (ns++cns) h3.objs.size { Z with heap:=h3 } H2 (acc::S) (X.pn++D)
 have g:∀y c,cl.lookup y=some c->X.env.cells.lookup y=some c:=λy c e=>hcl.get e;have IV:∀y k,Y.env.kindOf y=some k->(k=.cell\/k=.free)->∃c,cl.lookup y=some c:=λy k e hk=>by
  have e0:(f.names.lookup y).map (Bv X.env y)=some k:=nH.symm.trans e;obtain⟨k0,e1,U⟩:=Option.map_eq_some_iff.mp e0;have e3:=lookup_all hfree e1;have e4:=lookup_all hcell e1
  by_cases hf:k0=.free
  ·subst hf;rw[Bool.or_eq_true]at e3;rcases e3 with e3 | e3
   ·exact absurd rfl (bne_iff_ne.mp e3)
   ·exact Option.isSome_iff_exists.mp e3
  ·exfalso
   have e5:Bv X.env y k0=k0:=by
    unfold Bv;rw[if_neg];intro z;rw[Bool.and_eq_true,Bool.and_eq_true]at z;exact hf (beq_iff_eq.mp z.1.1)
   rw[e5]at U;subst U;rcases hk with rfl | rfl
   ·simp at e4
   ·exact hf rfl
 have okY:Y.Ok:={
  mod:=E.ok.mod
  kind:=O
  glob:=E.ok.glob
  blt:=E.ok.blt
  above:=Nat.le_refl _
  inj:=λa b c e1 U=>E.ok.inj a b c (g _ _ e1) (g _ _ U)
  has:=λy hy=>hy.elim (λe=>IV y _ e (.inl rfl)) (λe=>IV y _ e (.inr rfl))
  cab:=λy c e=>nomatch e
  hd:=E.ok.hd
  frames:=E.ok.frames
  stk:=.inl rfl
  exf:=λb hb=>⟨exC b hb,λy c e=>(Lw b hb).2.2.2.2.1 y c (g _ _ e)⟩
  bs:=λb o e=>⟨P b o (E.bs b o e).1,(E.bs b o e).2⟩
  bsz:=by
   show X.base.objs.size<=h3.objs.size;rw[hC,<- F];exact Nat.le_succ_of_le (Nat.le_trans E.ok.bsz E.sz)
  S6:=λb o e hb=>by
   rcases(Lw b hb).2.2.2.1 with z | z
   ·exact E.ok.S6 b o e z
   ·exact absurd (Nat.lt_of_lt_of_le (Heap.lt_size e) (Nat.le_trans E.ok.bsz z)) (Nat.lt_irrefl _)
  Zag:=Es
  yo:=I3.stack
  frf:=I3.N7 }
 have Zr9:(List.replicate ns.length none++t.map (pick σ):L2.St).length=(ns++cns).length:=by rw[List.length_append,List.length_append,List.length_replicate,bx,hcap.len]
 have I4:Inv Y [] (List.replicate ns.length none++t.map (pick σ)) H2 { Z with heap:=h₁,toks:=Z.toks+([]:List (Str×Value)).length }:={
  ok:=okY
  os:=rfl
  bare:=E.bare
  base:=Un.kept S7
  loc:=by
   refine⟨_,L,λi y v e1 U e3=>?_⟩
   by_cases hlt:i<ns.length
   ·have U:(List.replicate ns.length none++t.map (pick σ):L2.St)[i]? =some (some v):=U;rw[List.getElem?_append_left (by rw[List.length_replicate];exact hlt),List.getElem?_replicate,if_pos hlt]at U;cases U
   ·have e1':cns[i - ns.length]? =some y:=by
     have e1':(ns++cns)[i]? =some y:=e1;rw[List.getElem?_append_right (by omega)]at e1';exact e1'
    have e2':(t.map (pick σ):L2.St)[i - ns.length]? =some (some v):=by
     have U:(List.replicate ns.length none++t.map (pick σ):L2.St)[i]? =some (some v):=U;rw[List.getElem?_append_right (by rw[List.length_replicate];omega),List.length_replicate]at U;exact U
    obtain⟨j,j1,j2,j3⟩:=hcap.get (σ:=σ) (i:=i - ns.length) (x:=y) (v:=v) e1' e2';obtain⟨m,hn,hl⟩:=E.loc;obtain⟨u,r,l⟩:=hl j y v j1 j3 (.inr (.inl j2));rcases l with ⟨l,_⟩ | ⟨_,c,l1,l2⟩
    ·rw[j2]at l;cases l
    ·refine⟨u,r,.inr ?_⟩;rcases e3 with e3 | e3 | e3
     ·exfalso
      have hm:y∈cns:=List.mem_of_getElem? e1';have hl:f.names.lookup y=some .free:=beq_iff_eq.mp (List.all_eq_true.mp hcf y hm);have e0:(f.names.lookup y).map (Bv X.env y)=some .local:=nH.symm.trans e3;rw[hl]at e0;have e5:Bv X.env y .free=.local:=Option.some.inj e0;unfold Bv at e5;split at e5<;>cases e5
     ·obtain⟨c',hc'⟩:=IV y _ e3 (.inl rfl);have:=g _ _ hc';rw[l1]at this;cases this;exact⟨.inl e3,c,hc',l2.keeps λb o e=>S7 _ _ (P _ _ e)⟩
     ·obtain⟨c',hc'⟩:=IV y _ e3 (.inr rfl);have:=g _ _ hc';rw[l1]at this;cases this;exact⟨.inr e3,c,hc',l2.keeps λb o e=>S7 _ _ (P _ _ e)⟩
  cell:=λy c e=>by
   obtain⟨v,z⟩:=E.cell y c (g _ _ e);exact⟨v,z.keeps λb o e=>S7 _ _ (P _ _ e)⟩
  free:=E.hok.fresh (by rw[F];show acc<=h3.objs.size;rw[hC];exact Nat.le_succ _)
  sO:=λy c e=>E.sO y c (g _ _ e)
  pin:=λp hp=>by
   have hp2:p∈(X.pn++D)++[]:=hp;have hp':p∈X.pn++D:=by rw[List.append_nil]at hp2;exact hp2
   obtain⟨p1,p2,p3,p4,p5⟩:=E.pin p hp';refine⟨S7 _ _ (P _ _ p1),p2,?_,λhm=>(List.mem_cons.mp (E.Ay _ hm)).elim p3 p4,p5⟩;exact Nat.ne_of_lt (by show p.1<h3.objs.size;exact Heap.lt_size (P _ _ p1))
  hok:=E.hok.kept λb u e=>S7 _ _ (P _ _ e)
  len:=Zr9 }
 have fpY:∀{H':Hp}{pl:List (Addr×Obj)}{b:Addr},b∈acc::S->H' b=none->(∀p∈pl,p.1≠b)->qO Y pl H' b:=λ{H' pl b} hb hn hp=>
  ⟨hn,exC b hb,Es b hb,.inl hb,λy c e=>(Lw b hb).2.2.2.2.1 y c (g _ _ e),λp hm=>(List.mem_append.mp hm).elim (λz=>(Lw b hb).2.2.2.2.2 p z) (hp p)⟩
 have fin:∀{N:L2.St}{H':Hp}{s':Shared}{K:List V}{B:List Value}{kk:Nat}{pl:List (Addr×Obj)},Inv Y pl N H' s'->H' acc=none->Vals K B->K.length<=sizeLine->
   s'.heap.get? acc=some { cls:=.type "list",data:=.seq B.toArray kk }->(∀p,H' p=none->Q (.ref p) (upd H' p (.lst K)))->
   ∀h',Heap.SameBut h3.objs.size s'.heap h'->EP X D σ Q (.ref acc) { s' with heap:=h' }:=λ{N H' s' K B kk pl} J ha hv hz ho hq h' hs'=>by
  have Zos:acc≠h3.objs.size:=exC acc (List.mem_cons_self);have CP:∀b o,b≠h3.objs.size->s'.heap.get? b=some o->h'.get? b=some o:=λb o hb e=>hs'.extBut b o hb e;have ltC:∀b o,Z.heap.get? b=some o->b≠h3.objs.size:=λb o e=>Nat.ne_of_lt (Heap.lt_size (P b o e));have Lj:H' h3.objs.size=none:=J.free;have un:Un (frs X.stack) (acc::S) H2 H' Z.heap h':={
   keep:=λb o e n hb hx=>CP b o (ltC b o e) (J.base.keep b o (P b o e) n hb hx)
   slot:=λb o e n hb hx=>by
    obtain⟨sl,q⟩:=J.base.slot b o (P b o e) n hb hx;exact⟨sl,CP b _ (ltC b o e) q⟩
   free:=λb o e n hx=>J.base.free b o (P b o e) n hx
   there:=λb o e hx=>by
    obtain⟨o',q⟩:=J.base.there b o (P b o e) hx;exact⟨o',CP b o' (ltC b o e) q⟩
   tups:=J.base.tups
   Ge:=J.base.Ge
   GP:=J.base.GP }
  have hok:Ao X.prog X.w H' h':=λb u e=>by
   refine(J.hok b u e).stay (λc v hc q=>CP c v ?_ q) (λ_ q=>q) λ_ _ q=>q;rintro rfl;rcases hc with rfl | hc
   ·rw[Lj]at e;cases e
   ·rw[Lj]at hc;cases hc
  have I5:Inv X D σ H' { s' with heap:=h' }:=E.call' (ch:=acc::S) J.os un hok J.bare λb hb=>by
   obtain⟨g0,g1,g2,g3,g4,g5⟩:=Lw b hb;exact⟨g3,g1,g4,g5⟩
  refine⟨.ref acc,_,adopt (acc:=acc) I5 ?_ (CP _ _ Zos ho) hv hz,rfl,hq acc ha⟩;obtain⟨g0,g1,g2,g3,g4,g5⟩:=Zdz;exact⟨ha,g1,g2,g3,g4,g5⟩
 have loop:codeAny (model X.prog X.w) X.A (.compLoop (.ListComp elt [⟨tg,iter,ifs,0⟩] f pos) 0 (.ref it) (.ref acc) Y.env) (compPost (model X.prog X.w) X.A X.xe none (EP X D σ Q) (.ref acc) h3.objs.size)
   { Z with heap:=h₁,toks:=Z.toks+([]:List (Str×Value)).length }:=by
  refine M8 (λn s'=>∃(i:Nat) (v:L2.St) (K:List V) (B:List Value) (kk:Nat) (H':Hp),v.length=ns.length/\Inv Y [] (v++t.map (pick σ)) H' s'/\tn i s'.heap/\(∀b∈S,H' b=none)/\H' acc=none/\Vals K B/\K.length<=sizeLine/\
   s'.heap.get? acc=some { cls:=.type "list",data:=.seq B.toArray kk }/\W i n K H') ?_ m0 ⟨0,List.replicate ns.length none,[],[],0,H2,List.length_replicate,I4,T.keep _ _ _ st2 (λb _ o e=>S7 _ _ (P _ _ e)),λb hb=>(f2 b hb).1,Zdz.1,.nil,Nat.zero_le _,S7 _ _ Zqw,w0⟩
  rintro n s5 ⟨i,v,K,B,kk,H5,lv,I5,st5,fr5,ha5,hv5,hz5,ho5,w5⟩;have Ziw:Inv Y [(acc,{ cls:=.type "list",data:=.seq B.toArray kk })] (v++t.map (pick σ)) H5 s5:=I5.tY λp hp=>by
   have e:p=(acc,{ cls:=.type "list",data:=.seq B.toArray kk }):=by simpa using hp
   subst e;exact⟨ho5,ha5,exC acc List.mem_cons_self,Es acc List.mem_cons_self,λv=>by intro z;cases z⟩
  have fpA:∀{H':Hp},(∀b∈S,H' b=none)->∀b∈S,qO Y [(acc,{ cls:=.type "list",data:=.seq B.toArray kk })] H' b:=λhn b hb=>fpY (List.mem_cons_of_mem _ hb) (hn b hb) λp hp=>by
   have e:p=(acc,{ cls:=.type "list",data:=.seq B.toArray kk }):=by simpa using hp
   subst e;exact(Nat.ne_of_lt (fpl b hb)).symm
  rcases turn i n K H5 w5 with ⟨stop,qn⟩ | ⟨go,hlt,step⟩
  ·refine jf (T.done Y rfl rfl rfl hc i _ s5 _ H5 (λ_ _=>False) Ziw (fpA fr5) st5 stop) λr s6 ⟨hr,I6⟩=>?_;subst hr;obtain⟨m,hm,_⟩:=I6.loc;have ho6:=(I6.pin (acc,{ cls:=.type "list",data:=.seq B.toArray kk }) (List.mem_append_right _ List.mem_cons_self)).1;exact⟨m,hm,fin I6 ha5 hv5 hz5 ho6 qn⟩
  ·refine jf (T.item Y rfl rfl rfl hc i _ s5 _ H5 (λ_ _=>False) Ziw (fpA fr5) st5 go) λr s6 ⟨u,hr,h6⟩=>?_;subst hr;refine jf h6 λ_ s7 ⟨z,H7,I7,r7,y7,st7,fr7⟩=>?_;have I7':=I7.pinned (fpA fr7) (T.obj _ _ st7);obtain⟨us,lu,hgt,step⟩:=step z H7 y7 v lv;have pg:PG Y tg gt:=hg _ _ _ _ _;refine jf (pg _ s7 _ H7 z u (λσ2 H2'=>σ2=us++t.map (pick σ)/\H2'=H7) I7' r7 hgt) λ_ s8 ⟨σ8,H8,I8,e8,e8'⟩=>?_;subst e8 e8';refine jf (hf _ _ _ _ _ _ s8 _ H8 _ I8 step) λok s9 ⟨H9,I9,q9⟩=>?_;have stat:∀{H':Hp}{s':Shared}{N:L2.St},Inv Y ([(acc,{ cls:=.type "list",data:=.seq B.toArray kk })]++wZ S s7.heap) N H' s'->tn (i+1) s'.heap/\(∀b∈S,H' b=none)/\H' acc=none/\s'.heap.get? acc=some { cls:=.type "list",data:=.seq B.toArray kk }:=λ{H' s' N} J=>by
    have pa:=J.pin (acc,{ cls:=.type "list",data:=.seq B.toArray kk }) (List.mem_append_right _ (List.mem_append_left _ List.mem_cons_self));refine⟨T.keep _ _ _ st7 λb hb o e=>(J.pin (b,o) (List.mem_append_right _ (List.mem_append_right _ (nG hb e)))).1,λb hb=>?_,pa.2.1,pa.1⟩;obtain⟨o,e,d⟩:=T.obj _ _ st7 b hb;exact(J.pin (b,o) (List.mem_append_right _ (List.mem_append_right _ (nG hb e)))).2.1
   have ZW:∀{H':Hp}{s':Shared}{N:L2.St}{pl:List (Addr×Obj)},Inv Y pl N H' s'->Inv Y [] N H' s':=λJ=>J.tY λp hp=>nomatch hp;cases ok with
   | false=>
    obtain⟨m',hm,w9⟩:=q9;obtain⟨t1,t2,t3,t4⟩:=stat I9;exact⟨m',hm,i+1,us,K,B,kk,H9,lu,ZW I9,t1,t2,t3,hv5,hz5,t4,w9⟩
   | true=>
    show wpAny _ _ (eval elt Y.env) _ _ s9;refine jf (he _ _ _ _ _ _ s9 _ H9 _ I9 q9) λy s10 ⟨yv,H10,I10,r10,m',hm,w10⟩=>?_;obtain⟨t1,t2,t3,t4⟩:=stat I10;have Zsv:Inv Y (wZ S s7.heap) (us++t.map (pick σ)) H10 s10:=I10.tY λp hp=>I10.pin p (List.mem_append_right _ (List.mem_append_right _ hp));have fA:qO Y (wZ S s7.heap) H10 acc:=fpY List.mem_cons_self t3 λp hp=>Nat.ne_of_lt (fpl _ (KC hp).1);have Ja:=adopt Zsv fA t4 hv5 hz5;refine jf (rH (X:=Y) _ s10 _ _ (.ref acc) [yv] (.ref acc) [y] (λ_ H'=>H'=upd (upd H10 acc (.lst K)) acc (.lst (K++[yv]))) Ja rfl (.cons r10 .nil) ⟨acc,K,yv,rfl,rfl,aq,hlt,rfl⟩) λ_ s11 ⟨_,H11,I11,_,e11⟩=>?_;rw[eN]at e11;subst e11;obtain⟨Zs4,its',kk',Zs5,Zs6⟩:=I11.hok acc _ aq;have Jd:=disown I11 fA;have Zq9:tn (i+1) s11.heap:=T.keep _ _ _ st7 λb hb o e=>(Jd.pin (b,o) (List.mem_append_right _ (nG hb e))).1;exact⟨m',hm,i+1,us,K++[yv],its',kk',H10,lu,ZW Jd,Zq9,t2,t3,Zs5,Zs4,Zs6,w10⟩
 exact codeAny_compStart_list loop (T.self X.A 0 _ _ _ (T.keep _ _ _ st2 (λb _ o e=>S7 _ _ (P _ _ e))) loop)
theorem HH{X:Cx}{n iter:Expr}{x:Str}{w u:Pos}{o:List Expr}{a:Scope}{cl:List (Str×Addr)}{B:TI}{tc:TT}{A:TE}{cns:List Str}(b:List Nat)
  (hi:PI X (.Name x w) iter B)
  (E:∀C s H ex pn,PF (Rg X a cl (x::cns) C s H ex pn) o tc) (F:∀C s H ex pn,PE (Rg X a cl (x::cns) C s H ex pn) n A) (hc:X.calm=true)
  (e:closureFor a X.env=pure cl) (q:AllIn X.env.cells cl) (k:Dj X cns b)
  (f:a.kind=.function) (d:(a.names.all λp=>p.2 != .cell)=true) (j:(a.names.all λp=>p.2 != .free || (cl.lookup p.1).isSome)=true)
  (r:(cns.all λy=>a.names.lookup y == some .free)=true) (c:∀y∈a.names,y.2=.local->a.names.lookup y.1=some .local) (hx:a.names.lookup x=some .local) (t:(x::cns).Nodup)
  (hs:∀v,foldedSetIterable iter X.env v=pure v:=by intro _;rfl):
  PE X (.ListComp n [⟨.Name x w,iter,o,0⟩] a u) (tLC B b tc A):=by
 refine Zj4 (ns:=[x]) (gt:=aM 0) b (λJ σ H Q h=>?_) hi (λC s H ex pn=>fK t rfl (.inl (lookup_relabel_local hx)) (.inr (lookup_relabel_local hx))) E F hc e q k f d j r c hs;obtain⟨W,w0,turn⟩:=h;refine⟨W,w0,λi m D H hw=>(turn i m D H hw).imp id λ⟨g,l,st⟩=>⟨g,l,λz H' y vs hv=>?_⟩⟩
 match vs,hv with
 | [v],_=>exact⟨[some z],rfl,⟨rfl,rfl⟩,st z H' y⟩
end G
namespace G
open PySem L2 PySem.Spec PyProof.Rows
theorem KD{P:Program}{w:World}{H:Hp}{h:Heap}{a:Addr}{o:HO}(x:lY P w H h a o):∃ob,h.get? a=some ob:=by
 induction o with
 | lst xs=>obtain⟨_,_,_,_,e⟩:=x;exact⟨_,e⟩
 | tup xs=>obtain⟨_,_,_,ob,e,_⟩:=x;exact⟨ob,e⟩
 | dK b=>obtain⟨_,_,_,_,ob,_,_,e,_⟩:=x;exact⟨ob,e⟩
 | dT b=>obtain⟨_,_,_,_,ob,_,_,e,_⟩:=x;exact⟨ob,e⟩
 | set S n=>obtain⟨ob,_,_,_,e,_⟩:=x;exact⟨ob,e⟩
 | ins C dx fs=>obtain⟨_,_,_,e,_⟩:=x;exact⟨_,e⟩
 | own y=>exact x
 | xd fs=>obtain⟨_,⟨ob,_,_,e,_⟩,_⟩:=x;exact⟨ob,e⟩
 | rng lo hi=>obtain⟨_,_,_,e⟩:=x;exact⟨_,e⟩
 | DR ob u ih=>exact⟨_,x.1⟩
 | O7 ps=>exact⟨_,x⟩
 | met f y=>exact⟨_,x⟩
 | ext c=>obtain⟨_,e,_⟩:=x;exact e
theorem VG{P:Program}{w:World}{fs:List Addr}{H0 c:Hp}{g h1 h2:Heap}(u:Un fs [] H0 c g h1)(ok:Ao P w c h1)(k:∀b∈fs,c b=none)
  (kp:∀b o,h1.get? b=some o->((∃v,g.get? b=some v)\/∃v,c b=some v)->b∉fs->h2.get? b=some o) (sl:∀b o,h1.get? b=some o->b∈fs->∃z,h2.get? b=some { o with slots:=z }):
  Un fs [] H0 c g h2/\Ao P w c h2:=by
 refine⟨⟨λb o e n hb hx=>kp b o (u.keep b o e n hb hx) (.inl ⟨o,e⟩) hb,λb o e n hb hx=>?_,u.free,λb o e hx=>?_,u.tups,u.Ge,u.GP⟩,λa o e=>?_⟩
 ·obtain⟨z,d⟩:=u.slot b o e n hb hx;obtain⟨j,f⟩:=sl b _ d hb;exact⟨j,f⟩
 ·obtain⟨h,d⟩:=u.there b o e hx
  by_cases hb:b∈fs
  ·obtain⟨z,f⟩:=sl b _ d hb;exact⟨_,f⟩
  ·exact⟨h,kp b h d (.inl ⟨o,e⟩) hb⟩
 ·refine(ok a o e).stay (λb v hb q=>?_) (λ_ q=>q) λ_ _ q=>q;have hs:∃v,c b=some v:=by
   rcases hb with z | z
   ·exact⟨o,by rw[z];exact e⟩
   ·exact⟨_,z⟩
  refine kp b v q (.inr hs) λz=>?_;obtain⟨l,i⟩:=hs;rw[k b z]at i;cases i
def Rv(P:Program)(w:World):Y7:=λouter H s E e s'=>
 ∃(c:Addr) (a a0:Value) (B:Heap) (H':Hp),e=.ref c/\s'.os=s.os/\AllBare s'.gens/\Un (frs outer) [] H H' s.heap s'.heap/\Ao P w H' s'.heap/\Heap.FlyingW B outer c a a0 s'.heap/\
  (∀b o,s'.heap.get? b=some o->((∃v,s.heap.get? b=some v)\/∃v,H' b=some v)->b∉frs outer->B.get? b=some o)/\E a none H'
theorem iB{P:Program}{w:World}{X:Cx}:Passes (Rv P w) X E0:=λ_ _ _ _ _ _ _ h=>by
 obtain⟨_,_,_,_,_,_,_,_,_,_,_,_,z⟩:=h;exact z.elim
section
variable {P:Program}{w:World}{K:aC}{mg:Str->Option Value}{base:Heap}{N:List Str}{qual:Str}{scope:Scope}{f:Addr}{cd:Value}{A:Around}{outer:List Env}{s:Shared}{H:Hp}{E:XK}
theorem HN:Passes (Rv P w) (Lx (Rv P w) P w K mg base N qual scope f cd A outer s H E) E:=by
 intro d σ D r e j I h;obtain⟨x,n,a0,B,c,rfl,os,bare,un,ok,fl,y,u⟩:=h;have J:Inv (Lx (Rv P w) P w K mg base N qual scope f cd A outer s H E) d σ c j:=I.call' os un ok bare (λb z=>nomatch z);have t:∀b o,s.heap.get? b=some o->b≠(envOfC qual scope s.heap.objs.size f cd).locals:=λb o e=>Nat.ne_of_lt (Nat.lt_of_lt_of_le (Heap.lt_size e) I.ok.above);have m:∀b,((∃v,s.heap.get? b=some v)\/∃v,c b=some v)->b∉frs outer->b∉frs (envOfC qual scope s.heap.objs.size f cd::outer):=λb hb hn hm=>by
  rcases List.mem_cons.mp (J.Ay b hm)with z | z
  ·rcases hb with ⟨v,e⟩ | ⟨v,e⟩
   ·exact t b v e z
   ·rw[z]at e;have:=J.free;rw[e]at this;cases this
  ·exact hn z
 have l:∀b,((∃v,s.heap.get? b=some v)\/∃v,c b=some v)->(∃v,r.heap.get? b=some v)\/∃v,c b=some v:=λb hb=>by
  rcases hb with ⟨v,e⟩ | hb
  ·exact .inl (I.base.there b v e (λz=>nomatch z))
  ·exact .inr hb
 refine wpAny_leaves_onW I.ok.frames rfl fl λh' a sm=>?_;have k:∀b o,j.heap.get? b=some o->b∈frs outer->∀vs,o.data≠.fields vs:=λb o e hb=>by
  obtain⟨_,C,g,hd⟩:=J.yo.mem hb;rw[e]at g;cases g;exact hd
 have i:∀b o,j.heap.get? b=some o->((∃v,s.heap.get? b=some v)\/∃v,c b=some v)->b∉frs outer->B.get? b=some o:=λb o e hb hn=>y b o e (l b hb) (m b hb hn);have U:=VG (P:=P) (w:=w) (h2:=h') J.base J.hok (λb hb=>by
   obtain⟨_,o,p,_⟩:=J.ok.yo.mem hb;exact J.base.free b o p (J.ok.frf b hb) (λz=>nomatch z)) (λb o e hb hn=>a.1 _ _ (i b o e hb hn)) λb o e hb=>sm b o e (k b o e hb)
 refine⟨x,n,a0,B,c,rfl,J.os,J.bare,U.1,U.2,a,λb o e hb hn=>?_,u⟩;have there:∃v,j.heap.get? b=some v:=by
  rcases hb with ⟨v,z⟩ | ⟨v,z⟩
  ·exact J.base.there b v z (λz=>nomatch z)
  ·exact KD (J.hok b v z)
 obtain⟨v,z⟩:=there;have q:=i b v z hb hn;have:=a.1 _ _ q;rw[e]at this;cases this;exact q
theorem WY{c:List (Addr×Obj)}{σ:L2.St}{g:Hp}{a:Shared}{C e:Addr}{vs:List Value}{h1:Heap}(I:Inv (Lx (Rv P w) P w K mg base N qual scope f cd A outer s H E) c σ g a)
  (hx:Heap.MadeExcOf a.heap h1 e (.ref C) vs) (r:E (.ref C) none g):(Lx (Rv P w) P w K mg base N qual scope f cd A outer s H E).xe (.ref e) { a with heap:=h1 }:=by
 have m:∀b o,s.heap.get? b=some o->b≠(envOfC qual scope s.heap.objs.size f cd).locals:=λb o e=>Nat.ne_of_lt (Nat.lt_of_lt_of_le (Heap.lt_size e) I.ok.above);have j:∀b,((∃v,s.heap.get? b=some v)\/∃v,g b=some v)->b∉frs outer->b∉frs (envOfC qual scope s.heap.objs.size f cd::outer):=λb hb hn hm=>by
  rcases List.mem_cons.mp (I.Ay b hm)with z | z
  ·rcases hb with ⟨v,e⟩ | ⟨v,e⟩
   ·exact m b v e z
   ·rw[z]at e;have:=I.free;rw[e]at this;cases this
  ·exact hn z
 have n:a.heap.FunFrames (W.hideAll a.heap (frs (envOfC qual scope s.heap.objs.size f cd::outer))) (envOfC qual scope s.heap.objs.size f cd::outer):=
  W.funFrames_hide I.stack λenv p b hb=>List.mem_filterMap.mpr ⟨env,p,hb⟩
 refine wpAny_leaves_madeW (s:={ a with heap:=h1 }) I.ok.frames rfl (λb o q=>W.of_hideAll _ q) n hx λh' t fl _ _ sm=>?_;have h:∀b o,a.heap.get? b=some o->((∃v,s.heap.get? b=some v)\/∃v,g b=some v)->b∉frs outer->(W.hideAll a.heap (frs (envOfC qual scope s.heap.objs.size f cd::outer))).get? b=some o:=
  λb o e hb hn=>W.hideAll_get _ e (j b hb hn)
 have i:∀b o,a.heap.get? b=some o->b∈frs outer->∀vs,o.data≠.fields vs:=λb o e hb=>by
  obtain⟨_,u,d,hd⟩:=I.yo.mem hb;rw[e]at d;cases d;exact hd
 have U:=VG (P:=P) (w:=w) (h2:=h') I.base I.hok (λb hb=>by
   obtain⟨_,o,l,_⟩:=I.ok.yo.mem hb;exact I.base.free b o l (I.ok.frf b hb) (λz=>nomatch z)) (λb o e hb hn=>fl.1 _ _ (h b o e hb hn)) λb o e hb=>sm b o (hx.keeps b o e) (i b o e hb)
 refine⟨e,.ref C,.ref t,_,g,rfl,I.os,I.bare,U.1,U.2,fl,λb o q hb hn=>?_,r⟩;have there:∃v,a.heap.get? b=some v:=by
  rcases hb with ⟨v,z⟩ | ⟨v,z⟩
  ·exact I.base.there b v z (λz=>nomatch z)
  ·exact KD (I.hok b v z)
 obtain⟨v,z⟩:=there;have k:=h b v z hb hn;have:=fl.1 _ _ k;rw[q]at this;cases this;exact k
end
abbrev Zm3(K:aC)(C:Addr):Prop:=W.excIn K C [.type "ValueError",.type "Exception",.type "BaseException",.type "object"] "ValueError.__new__"=true
theorem Zp2{K:aC}{h:Heap}{C:Addr}{s:List Value}{p:String}(X:K.In h)(q:W.excIn K C s p=true):
  ∃tl N nm w bs hd sn sub ab col dd d b e f c mN,h.get? C=some (excClassObj nm w C N bs tl hd sn sub ab col dd d b e f c p)/\h.Ns N mN/\mN "__init__"=none/\OwnTail h s tl:=by
 unfold W.excIn at q;split at q
 ·rename_i dd g a j
  split at q
  ·rename_i I tl d b e f n2 c m o
   simp only[Bool.and_eq_true,beq_iff_eq,Bool.not_eq_true']at q;obtain⟨⟨⟨⟨⟨t,x⟩,e3⟩,B⟩,k⟩,r⟩:=q;subst t x;obtain⟨v,E,H,n,u,D,z,F,y,i,A⟩:=g;dsimp only at m e3 k r;subst m e3;have l:a=#[d,b,e,f,some (.builtin n2),c]:=by
    obtain⟨ls⟩:=a;simp only at o;rw[o]
   subst l;refine⟨tl,n,v,u,E,D,z,F,y,i,dd,d,b,e,f,c,h.nsMap n,X _ _ j,?_,W.nsMap_none_of_in X k r,W.tail_of_in X B⟩;exact .of_isNs (W.isNs_of_in X k)
  ·cases q
 ·cases q
section
variable {X:Cx}{x:Str}{C:Addr}{np cpos pos:Pos}{e:Expr}{es:List Expr}{ta:TA}{E:XK}
theorem HF(hc:X.calm=true)(o:Gl X x)(hm:X.mg x=some (.ref C))(hx:Zm3 X.K C)(w:PA X (e::es) ta)
  (p:∀(a:List (Addr×Obj)) (σ:L2.St) (H:Hp) (s:Shared) (c:Addr) (vs:List Value) (h1:Heap),Inv X a σ H s->Heap.MadeExcOf s.heap h1 c (.ref C) vs->E (.ref C) none H->X.xe (.ref c) { s with heap:=h1 })
  (hs:starEach (e::es) X.env=(false,eval e X.env)::starEach es X.env:=by rfl) (f:(backTo cpos (starEach es X.env)).any (·.1)=false:=by rfl) (hd:(x == ("__debug__":Str))=false:=by decide):
  PS X (.Raise (some (.Call (.Name x np) (e::es) [] cpos)) none pos) (Jz C E ta):=by
 intro a s σ H D I h;obtain⟨tl,N,nm,j,bs,g,sn,sub,ab,col,dd,t,l,u,v,m,mN,n,k,d,T⟩:=Zp2 I.ok.mod.kin hx;refine wpAny_Raise_call_subT (C:=C) (nm:=nm) (q:=j) (N:=N) (bs:=bs) (bm:=tl) (hdct:=g) (sn:=sn) (sub:=sub) (ab:=ab) (col:=col) (dd:=dd) (k0:=t) (k1:=l) (k2:=u) (k3:=v) (k5:=m) PySem.F.excBase_ValueError (mN:=mN)
  (T.hasType PySem.F.excBase_ValueError.hasBase) (I.ok.hd hc) ?_ d (ug I o hm ⟨rfl,?_⟩ hd)
 ·rw[hs];show(false || (backTo cpos (starEach es X.env)).any (·.1))=false;rw[f];rfl
 ·have q:=w cpos a s σ H _ I h;rw[hs]at q ⊢;refine Calls.evalArgs_plain (jf q λus i ⟨vs,H1,I1,r,l1,hE1⟩=>⟨rfl,?_,I1.bk _ _ n,k.keeps I1.bk,T.keeps I1.bk,λh1 c b=>p a σ H1 i c _ h1 I1 b hE1⟩);rw[<- r.length];exact Nat.le_trans l1 (by decide)
end
end G
namespace G
open PySem L2 PySem.Spec PyProof.Rows
def Zfg(CX:Y7)(X:Cx)(E:L2.St->XK):Prop:=∀(a:List (Addr×Obj)) (σ:L2.St) (H:Hp) (s:Shared) (e:Value) (s':Shared),Inv X a σ H s->CX X.stack H s (E σ) e s'->X.xe e s'
section
variable {X:Cx}{CX:Y7}{k:Nat}{f C:Addr}{fd:FuncData}{ps:List Str}{sp:Sp}{u9:List V}{ds:List Value}{E:L2.St->XK}{x m:Str}{p pos apos:Pos}{e o:Expr}{es:List Expr}{ta:TE}{t:TA}
theorem Zmt{a:List (Addr×Obj)}{σ:L2.St}{H:Hp}{s:Shared}{Q:VK}{us:List Value}{vs:List V}(F:u6 X.prog X.w X.K X.mg X.base CX k f fd ps sp)(hr:Room k X.A)(hb:Binds X.K fd ps ds)(hd:Vals u9 ds)(hx:Zfg CX X E)
  (I:Inv X a σ H s) (r:Vals vs us) (h:sp (vs++u9) H Q (E σ)):wpAny (model X.prog X.w) X.A (call (.ref f) us) (EP X a σ Q) X.xe s:=by
 have b:Vals (vs++u9) (us++ds):=r.append hd;have hl:(us++ds).length=ps.length:=by rw[<- b.length];exact F.len _ _ _ _ h
 refine wpAny_call (codeAny_mono (F.run X.A X.stack s H ⟨us,[]⟩ (us++ds) (vs++u9) Q (E σ) hr I.env0 (hb s us I.Oj hl) b h) λr s' hq=>?_);cases r with
 | error e=>exact hx a σ H s e s' I hq
 | ok fl=>
  cases fl with
  | ret u=>exact I.after hq
  | next=>exact False.elim hq
  | brk=>exact False.elim hq
  | cont=>exact False.elim hq
theorem Zj7(F:u6 X.prog X.w X.K X.mg X.base CX k f fd ps sp)(hr:Room k X.A)(d:Gl X x)(hm:X.mg x=some (.ref f))(hk:W.keepIn X.K (.ref f)=true)(hb:Binds X.K fd ps ds)(hd:Vals u9 ds)(hx:Zfg CX X E)
  (i:PA X (e::es) t) (c:(x == ("__debug__":Str))=false:=by decide) (g:starEach (e::es) X.env=(false,eval e X.env)::starEach es X.env:=by rfl) (b:(backTo pos (starEach es X.env)).any (·.1)=false:=by rfl):
  PE X (.Call (.Name x p) (e::es) [] pos) (Zbh sp u9 E t):=by
 intro a s σ H Q I h;refine wpAny_Call_Name_kw (ug I d hm ?_ c);refine W.callWith_K (h₀:=X.base) I.ok.mod.kin hk (jf (i pos a s σ H _ I h) λus j ⟨vs,H1,I1,r,q⟩=>⟨I1.Oj,?_⟩) g b;exact Zmt F hr hb hd hx I1 r q
end
abbrev cxB(X:Cx)(pn:List (Addr×Obj))(xe:Value->Shared->Prop):Cx:={ X with pn:=pn,xe:=xe }
abbrev cxH(X:Cx)(ea:Value)(pn:List (Addr×Obj)):Cx:={ X with A:=X.A.mark (some ea),calm:=false,pn:=pn,xe:=λ_ _=>False }
section
variable {X:Cx}{pins:List (Addr×Obj)}{σ:L2.St}{H:Hp}{s:Shared}
theorem Zqu(ok:X.Ok)(pn:List (Addr×Obj))(xe:Value->Shared->Prop):(cxB X pn xe).Ok:=
 ⟨ok.mod,ok.kind,ok.glob,ok.blt,ok.above,ok.inj,ok.has,ok.cab,ok.hd,ok.frames,ok.stk,ok.exf,ok.bs,ok.bsz,ok.S6,ok.Zag,ok.yo,ok.frf⟩
theorem Zqt(ok:X.Ok)(a:Value)(pn:List (Addr×Obj)):(cxH X a pn).Ok:=
 ⟨ok.mod,ok.kind,ok.glob,ok.blt,ok.above,ok.inj,ok.has,ok.cab,λz=>(nomatch z),ok.frames,ok.stk,ok.exf,ok.bs,ok.bsz,ok.S6,ok.Zag,ok.yo,ok.frf⟩
theorem Zq3(I:Inv X pins σ H s)(xe:Value->Shared->Prop):Inv (cxB X (X.pn++pins) xe) [] σ H s:=
 ⟨Zqu I.ok _ _,I.os,I.bare,I.base,I.loc,I.cell,I.free,I.sO,λp hp=>I.pin p (by simpa using hp),I.hok,I.len⟩
theorem Qq{xe:Value->Shared->Prop}{pl:List (Addr×Obj)}(ok:X.Ok)(I:Inv (cxB X (X.pn++pins) xe) pl σ H s):Inv X pins σ H s:=
 ⟨ok,I.os,I.bare,I.base,I.loc,I.cell,I.free,I.sO,λp hp=>I.pin p (List.mem_append_left _ hp),I.hok,I.len⟩
theorem Zi0(I:Inv X pins σ H s)(a:Value):Inv (cxH X a (X.pn++pins)) [] σ H s:=
 ⟨Zqt I.ok _ _,I.os,I.bare,I.base,I.loc,I.cell,I.free,I.sO,λp hp=>I.pin p (by simpa using hp),I.hok,I.len⟩
theorem Xq{a:Value}{pl:List (Addr×Obj)}(ok:X.Ok)(I:Inv (cxH X a (X.pn++pins)) pl σ H s):Inv X pins σ H s:=
 ⟨ok,I.os,I.bare,I.base,I.loc,I.cell,I.free,I.sO,λp hp=>I.pin p (List.mem_append_left _ hp),I.hok,I.len⟩
theorem Zqc{xe:Value->Shared->Prop}{D:Ends}{f:Flow}(ok:X.Ok)(h:SP (cxB X (X.pn++pins) xe) [] D f s):SP X pins D f s:=by
 cases f with
 | next=>obtain⟨a,H',I,q⟩:=h;exact⟨a,H',Qq ok I,q⟩
 | brk=>obtain⟨a,H',I,q⟩:=h;exact⟨a,H',Qq ok I,q⟩
 | cont=>obtain⟨a,H',I,q⟩:=h;exact⟨a,H',Qq ok I,q⟩
 | ret u=>obtain⟨v,a,H',I,r,q⟩:=h;exact⟨v,a,H',Qq ok I,r,q⟩
theorem Zqb{b:Value}{D:Ends}{f:Flow}(ok:X.Ok)(h:SP (cxH X b (X.pn++pins)) [] D f s):SP X pins D f s:=by
 cases f with
 | next=>obtain⟨a,H',I,q⟩:=h;exact⟨a,H',Xq ok I,q⟩
 | brk=>obtain⟨a,H',I,q⟩:=h;exact⟨a,H',Xq ok I,q⟩
 | cont=>obtain⟨a,H',I,q⟩:=h;exact⟨a,H',Xq ok I,q⟩
 | ret u=>obtain⟨v,a,H',I,r,q⟩:=h;exact⟨v,a,H',Xq ok I,r,q⟩
theorem flown{i:Addr}{f a0:Value}{B:Heap}{c:Hp}{a:Shared}{h3:Heap}(I:Inv X pins σ H s)(os:a.os=s.os)(bare:AllBare a.gens)(un:Un (frs X.stack) [] H c s.heap a.heap)(ok:Ao X.prog X.w c a.heap)
  (fl:Heap.FlyingW B X.stack i f a0 a.heap) (j:∀b o,a.heap.get? b=some o->((∃v,s.heap.get? b=some v)\/∃v,c b=some v)->b∉frs X.stack->B.get? b=some o)
  (st:B.StaysIn h3) (sm:a.heap.UpToSlots h3):Inv X pins σ c { a with heap:=h3 }:=by
 have h:∀b∈frs X.stack,c b=none:=λb hb=>by
  obtain⟨_,o,g,_⟩:=I.stack.mem hb;exact un.free b o g (I.N7 b hb) (λz=>nomatch z)
 have U:=VG (P:=X.prog) (w:=X.w) (h2:=h3) un ok h (λb o e hb hn=>st _ _ (j b o e hb hn)) λb o e hb=>by
  obtain⟨_,k,d,hd⟩:=fl.2.2.1.mem hb;rw[e]at d;cases d;exact sm b o e hd
 exact I.call' (s':={ a with heap:=h3 }) (ch:=[]) os U.1 U.2 bare (λb z=>nomatch z)
end
section
variable {X:Cx}{x:Str}{C:Addr}{np pos hpos:Pos}{body suite:List Stmt}{b₀:Stmt}{Mt:Value->Prop}{tb:(L2.St->XK)->TS}{th:TS}
theorem Zqk(d:X.stack=X.env::X.outer/\X.env.frame=some X.env.locals)(Q:Gl X x)(hm:X.mg x=some (.ref C))(t:∀c,Mt c->W.exmOne X.K c (.ref C)=some true)
  (hb:∀(E:L2.St->XK) (pn:List (Addr×Obj)) (xe:Value->Shared->Prop),Zfg (Rv X.prog X.w) (cxB X pn xe) E->Y6 (cxB X pn xe) body (tb E))
  (hs:∀(i:Value) (pn:List (Addr×Obj)),Y6 (cxH X i pn) (b₀::suite) th) (hd:(x == ("__debug__":Str))=false:=by decide):
  PS X (.Try body [.ExceptHandler (some (.Name x np)) none (b₀::suite) hpos] [] [] pos) (Zq5 Mt tb th):=by
 intro a s σ H D I h;refine wpAny_Try_except ?_;have hx:Zfg (Rv X.prog X.w) (cxB X (X.pn++a) λe s'=>∃ σ H s,Inv X a σ H s/\Rv X.prog X.w X.stack H s (λb _ H'=>Mt b/\th D σ H') e s') (λo b _ H'=>Mt b/\th D o H'):=
  λpl σ H s e s' J z=>⟨σ,H,s,Qq I.ok J,z⟩
 refine wpAny_mono (hb _ _ _ hx [] s σ H D (Zq3 I _) h) (λf L q=>?_) λe L q=>?_
 ·have q:=Zqc I.ok q;cases f with
  | next=>exact wpAny_execs_nil q
  | ret v=>exact q
  | brk=>exact q
  | cont=>exact q
 ·obtain⟨y,U,T,J,i,b,a0,B,R,rfl,os,bare,un,ok,fl,N,O,l⟩:=q;have j:=fl;rw[d.1]at j;refine wpAny_looks_onW (d.1 ▸ J.ok.frames) d.2 j λh4 p F=>?_;refine wpAny_landsW p λh5 g r=>?_;have k:L.heap.UpToSlots h5:=F.trans r;have M:=flown J os bare un ok fl N g.1 k;refine wpAny_handleBy_cons (codeAny_handlers_test (ug (X:=cxH X (.ref i) (X.pn++a)) (Zi0 M (.ref i)) Q hm ?_ hd)) (by intro z;cases z);obtain⟨ob,m,A⟩:=g.there;have LT:W.Looks (model X.prog X.w) h5 (typeOf (.ref i)) b:=A ▸ (W.Looks.ld m).andThen .now;refine(W.exm_one M.Oj LT (t b O)).here ?_;refine codeAny_handlers_suite ?_;refine lands_againW g λh6 u n=>?_;have P:=flown J os bare un ok fl N u.1 (k.trans n);refine wpAny_mono (hs (.ref i) (X.pn++a) [] _ y R D (Zi0 P (.ref i)) l) (λf S q=>Zqb I.ok q) λ_ _ z=>z.elim
end
end G
namespace G
open PySem L2 PySem.Spec PyProof.Rows
section
variable {P:Program}{w:World}{K:aC}{mg:Str->Option Value}{base:Heap}{x qual:Str}{st:Stmt}{f:Addr}{fd:FuncData}{N ps:List Str}{k:Nat}{sp:Sp}
theorem fok(F:jA K x qual st f fd)(S:aQ N ps (aF st))(len:∀vs H Q E,sp vs H Q E->vs.length=ps.length)
  (b:∀(a:Value) (A:Around) (outer:List Env) (s:Shared) (H:Hp) (vs:List V) (Q:VK) (E:XK),Room k (A.deeper (envOfC qual (aF st) s.heap.objs.size f a))->sp vs H Q E->
   ∃t,Y6 (Lx (Rv P w) P w K mg base N qual (aF st) f a A outer s H E).nox (j7 st) t/\t { nx:=λ_ H'=>Q .non H',rt:=Q } (start N vs) H):u6 P w K mg base (Rv P w) (k+1) f fd ps sp:=by
 obtain⟨oc,od,kV,g,j,i,a,ct,e,rfl,lk,d⟩:=F.ex;refine Zlf lk d S len λA outer s H vs Q E hr c=>?_;obtain⟨t,h,q⟩:=b a A outer s H vs Q E hr c;exact⟨t,h.nox,q⟩
theorem ZCl(F:jA K x qual st f fd)(S:aQ N ps (aF st))(len:∀vs H Q E,sp vs H Q E->vs.length=ps.length)
  (b:∀(a:Value) (A:Around) (outer:List Env) (s:Shared) (H:Hp) (vs:List V) (Q:VK) (E:XK),Room k (A.deeper (envOfC qual (aF st) s.heap.objs.size f a))->sp vs H Q E->
   ∃t,Y6 (Lx (Rv P w) P w K mg base N qual (aF st) f a A outer s H E) (j7 st) t/\t { nx:=λ_ H'=>Q .non H',rt:=Q } (start N vs) H):u6 P w K mg base (Rv P w) (k+1) f fd ps sp:=by
 obtain⟨oc,od,kV,g,i,h,a,ct,e,rfl,lk,d⟩:=F.ex;exact Zlf lk d S len λA outer s H vs Q E hr c=>b a A outer s H vs Q E hr c
theorem Zui(F:Zt1 K x qual st f fd)(S:aQ N ps (aF st))(len:∀vs H Q E,sp vs H Q E->vs.length=ps.length)
  (b:∀(a:Value) (A:Around) (outer:List Env) (s:Shared) (H:Hp) (vs:List V) (Q:VK) (E:XK),Room k (A.deeper (envOfC qual (aF st) s.heap.objs.size f a))->sp vs H Q E->
   ∃t,Y6 (Lx (Rv P w) P w K mg base N qual (aF st) f a A outer s H E) (j7 st) t/\t { nx:=λ_ H'=>Q .non H',rt:=Q } (start N vs) H):u6 P w K mg base (Rv P w) (k+1) f fd ps sp:=by
 obtain⟨oc,od,dV,kV,g,i,h,a,ct,e,rfl,lk,d⟩:=F.ex;exact Zlf lk d S len λA outer s H vs Q E hr c=>b a A outer s H vs Q E hr c
end
end G
namespace G
open PySem L2 PySem.Spec PyProof.Rows
structure ZD2(K:aC)(C:Addr):Prop where
 ga:W.findIn K (.ref C) "__getattribute__"=some (some (.builtin "BaseException.__getattribute__"))
 no:W.findIn K (.ref C) "__getattr__"=some none
 cl:W.findIn K (.ref C) "__class__"=some (some (.builtin "object.__class__"))
 so:W.mroIn K C (.type "object")=some true
 sb:W.mroIn K C (.type "BaseException")=some true
 is:W.hasDictIn K C=true
section
variable {prog:Program}{w:World}{A:Around}{E:Value->Shared->Prop}{h:Heap}{g:Array GenState}{d:Drawn}{t:Nat}{os:OsState}{a:Addr}{o:Obj}{C:Addr}{K:aC}
end
section
variable {X:Cx}
theorem Gk:Ru X (.type "list") (Rm X.K):=by
 intro a s σ H xs us Q I r h;obtain⟨p,b,rfl,hs,q⟩:=h;exact Jm a s σ H [.ref p] us Q I r ⟨p,b,rfl,.inl hs,q⟩
theorem Zhf{xs c:List V}{us d:List Value}(f:Vals xs us)(l:Vals c d)(o:xs.all Ae=true)(q:c.all Ae=true)(hl:xs.length=c.length):
  (∀(A:Around) (s:Shared) (j:Nat) (h1:j<us.toArray.size) (h2:j<d.toArray.size),SeqAt.EqAt A s us.toArray[j] d.toArray[j] (match xs[j]?,c[j]? with | some a,some b=>eqV a b | _,_=>false))/\
  (List.range us.toArray.size).all (λj=>match xs[j]?,c[j]? with | some a,some b=>eqV a b | _,_=>false)=eqL xs c:=by
 refine⟨λA s j h1 h2=>?_,?_⟩
 ·rw[List.size_toArray]at h1 h2;have t:=f.length;have w:=l.length;have k:xs[j]? =some xs[j]:=bL (by omega);have m:c[j]? =some c[j]:=bL (by omega);obtain⟨u,g,r⟩:=f.get k;obtain⟨v,i,n⟩:=l.get m;rw[bL h1]at g;rw[bL h2]at i;cases g;cases i;rw[k,m];exact Gh r n (List.all_eq_true.mp o _ (List.getElem_mem (by omega))) (List.all_eq_true.mp q _ (List.getElem_mem (by omega)))
 ·rw[List.size_toArray,<- f.length];unfold eqL;rw[beq_iff_eq.mpr hl,Bool.true_and,Bool.eq_iff_iff,List.all_eq_true,List.all_eq_true];constructor
  ·intro h p hp;obtain⟨j,hj,e⟩:=List.getElem_of_mem hp;rw[List.length_zip]at hj;have:=h j (List.mem_range.mpr (by omega));rw[bL (show j<xs.length by omega),bL (show j<c.length by omega)]at this;rw[List.getElem_zip]at e;rw[<- e];exact this
  ·intro h j hj;have hj:=List.mem_range.mp hj;rw[bL (show j<xs.length by omega),bL (show j<c.length by omega)];have hz:j<(xs.zip c).length:=by rw[List.length_zip];omega
   have:=h _ (List.getElem_mem hz);rw[List.getElem_zip]at this;exact this
theorem Zp5{xs a:List V}(h:xs.length≠a.length):eqL xs a=false:=by
 unfold eqL;rw[show(xs.length == a.length)=false by simpa using h,Bool.false_and]
end
end G
namespace G
open PySem L2 PySem.Spec PyProof.Rows
theorem Zjk:fastBuiltinMro "NoneType"=some [.type "NoneType",.type "object"]:=by decide +kernel
section
variable {K:aC}{A:Around}{a C:Addr}{o:Obj}
theorem Zsf{M:Model}{E:Value->Shared->Prop}{s:Shared}{Q:Unit->Shared->Prop}(e:W.Looks M s.heap (isInstance (.ref a) (.type "object")) true)(hq:Q () s):wpAny M A (checkBuiltinCall "object.__eq__" ⟨[.ref a,.none],[]⟩) Q E s:=by
 have d:=PySem.F.cmpArgs_eq (.ref a) .none;simp only[checkBuiltinCall,PySem.F.cmpKind_eq,PySem.F.cmpSplit_eq];refine wpAny_bind (e.here ?_);simp only[Bool.not_true,Bool.false_eq_true,if_false];cases c:Manifest.signature? "object.__eq__" with
 | none=>exact wpAny_pure hq
 | some b=>
  simp only[argsOk,c]at d;have h2:Bind.checkArgs "object.__eq__" b ⟨[.ref a,.none],[]⟩=pure ():=d;show wpAny M A (Bind.checkArgs "object.__eq__" b ⟨[.ref a,.none],[]⟩) Q E _;rw[h2];exact wpAny_pure hq
theorem Zp4{prog:Program}{w:World}{E:Value->Shared->Prop}{s:Shared}{Q:Value->Shared->Prop}(b:W.Looks (model prog w) s.heap (isInstance (.ref a) (.type "object")) true)(hq:Q .notImplemented s):
  wpAny (model prog w) A (call (.builtin "object.__eq__") [.ref a,.none]) Q E s:=by
 refine wpAny_call (codeAny_call_builtin PySem.F.cmp_object.eq.plain PySem.F.cmpEntry_eq (Zsf b ?_));obtain⟨h,g,d,t,os⟩:=s;unfold Builtin.«object.__eq__»
 repeat (first | with_reducible refine wpAny_bind (m:=isSame (.ref a) .none) (wpAny_pure ?_) | wp_step)
 exact hq
theorem Zq0{prog:Program}{w:World}{E:Value->Shared->Prop}{s:Shared}{Q:Option Value->Shared->Prop}(X:K.In s.heap)(hx:s.heap.get? a=some o)(hc:o.cls=.ref C)(b:EqD K C)(hq:Q none s):
  wpAny (model prog w) A (tryCompare (.ref a) "__eq__" .none) Q E s:=by
 have LT:W.Looks (model prog w) s.heap (typeOf (.ref a)) (.ref C):=hc ▸ (W.Looks.ld hx).andThen .now;have d:W.Looks (model prog w) s.heap (isInstance (.ref a) (.type "object")) true:=LT.andThen (W.looks_mroIn X b.ob);have c:W.Looks (model prog w) s.heap (specialOf (.ref a) "__eq__") (some (.builtin "object.__eq__")):=LT.andThen (W.looks_findIn X b.eq);simp only[tryCompare];refine wpAny_bind ?_;simp only[callSpecialIfBound?,bindSpecialIfBound?];refine wpAny_holding (wpAny_bind (wpAny_bind (c.here ?_)));simp only[PySem.F.cmp_object.eq.bind];have fin:wpAny (model prog w) A (call (.builtin "object.__eq__") ([.ref a]++[.none]) >>= λv=>pure (some v)) (λr s'=>wpAny (model prog w) A (match r with | some .notImplemented | none=>pure none | some v=>pure (some v)) Q E s') E s:=
  wpAny_bind (Zp4 d (wpAny_pure (wpAny_pure hq)))
 refine wpAny_bind (wpAny_askSetting (wpAny_ite ?_));split
 ·exact wpAny_bind (wpAny_pure (wpAny_pure fin))
 ·exact wpAny_tryCatch (wpAny_bind (wpAny_pure (wpAny_pure fin)))
theorem Zmv{s:Shared}(X:K.In s.heap)(hx:s.heap.get? a=some o)(hc:o.cls=.ref C)(d:EqD K C)(hu:A.units<cLine):SeqAt.RcAt A s (.ref a) .none false:=λprog w E Q h=>by
 have LT:W.Looks (model prog w) s.heap (typeOf (.ref a)) (.ref C):=hc ▸ (W.Looks.ld hx).andThen .now;have hi:cmpInfo CmpOp.Eq=("==",("__eq__":Str),("__eq__":Str)):=rfl;have c:oneThing? .Eq (.ref a) .none=none:=rfl;simp only[richCompare,hi,c]
 try with_reducible refine wpAny_holding ?_
 refine wpAny_bind (wpAny_cRoomFor_or (.inr hu) ?_);refine wpAny_bind (LT.here (wpAny_bind (m:=typeOf .none) (wpAny_pure ?_)));have b:(Value.ref C != Value.type "NoneType")=true:=by simp
 simp only[b,if_true];have hs:isSubtype (.type "NoneType") (.ref C)=pure false:=by
  rw[isSubtype_type,Zjk];rfl
 refine wpAny_bind (wpAny_of_eq hs ?_);simp only[Bool.false_eq_true,if_false,Bool.not_false,if_true];refine wpAny_bind (m:=tryCompare (.ref a) _ .none) (Zq0 X hx hc d ?_);refine wpAny_bind (m:=tryCompare .none _ (.ref a)) (wpAny_tryCompare_declines (T:="NoneType") rfl PySem.F.slot_NoneType_eq_refl (call_gives PySem.F.slot_NoneType_eq_refl rfl PySem.F.entry_NoneType_eq (PySem.F.args_NoneType_eq_2 _ _) (SeqAt.NoneType___eq___none_ref_0 a) ⟨rfl,?_⟩));exact wpAny_bind (wpAny_rule (wpAny_bind (wpAny_of_eq (rfl:isSame (.ref a) .none=pure false) (wpAny_pure h))))
theorem Zp3{s:Shared}(X:K.In s.heap)(hx:s.heap.get? a=some o)(hc:o.cls=.ref C)(c:EqD K C)(hu:A.units<cLine):SeqAt.EqAt A s (.ref a) .none false:=λprog w E Q h=>by
 unfold eqBool;refine wpAny_holding ?_;refine wpAny_ite_split (λb=>absurd (eq_of_beq b) nofun) (λ_=>?_);exact wpAny_bind (Zmv X hx hc c hu prog w E _ (wpAny_truthy_bool h))
end
section
variable {X:Cx}
def Cr(u:Value):Bool:=match u with
 | .none=>true
 | _=>false
theorem Z1{H:Hp}{y:V}{u:Value}(r:RelV y u)(h:y=.non\/∃a C dx fs,y=.ref a/\H a=some (.ins C dx fs)/\Gy X.K C/\EqD X.K C):Cr u=decide (y=.non):=by
 rcases h with rfl | ⟨a,_,_,_,rfl,_⟩
 ·obtain rfl:u=Value.none:=r;rfl
 ·obtain rfl:u=Value.ref a:=r;rfl
theorem Zjm{b:List (Addr×Obj)}{σ:L2.St}{H:Hp}{s:Shared}{A:Around}{y:V}{u:Value}(I:Inv X b σ H s)(hu:A.units<cLine)(r:RelV y u)(h:y=.non\/∃a C dx fs,y=.ref a/\H a=some (.ins C dx fs)/\Gy X.K C/\EqD X.K C):SeqAt.EqAt A s u .none (Cr u):=by
 rcases h with rfl | ⟨a,C,dx,fs,rfl,d,hc,c⟩
 ·obtain rfl:u=Value.none:=r;exact SeqAt.EqAt.same .none
 ·obtain rfl:u=Value.ref a:=r;obtain⟨_,_,_,e,_⟩:=(show lY X.prog X.w H s.heap a (.ins C dx fs)from I.hok a _ d);exact Zp3 I.Oj e rfl c hu
theorem Z0{H:Hp}:∀{xs:List V}{us:List Value},Vals xs us->OkN X.K H xs->us.any Cr=decide (V.non∈xs)
 | _,_,.nil,_=>rfl
 | y::xs,u::us,.cons r t,h=>by
  rw[List.any_cons,Z0 t λz hz=>h z (List.mem_cons_of_mem _ hz),Z1 r (h y List.mem_cons_self),Bool.eq_iff_iff];simp only[Bool.or_eq_true,decide_eq_true_eq,List.mem_cons];constructor
  ·rintro(z | z)
   ·exact .inl z.symm
   ·exact .inr z
  ·rintro(z | z)
   ·exact .inl z.symm
   ·exact .inr z
theorem ZX{H:Hp}{a:List (Addr×Obj)}{σ:L2.St}{s:Shared}{A:Around}{xs:List V}{us:List Value}(I:Inv X a σ H s)(hu:A.units<cLine)(r:Vals xs us)(h:OkN X.K H xs):∀u∈us,SeqAt.EqAt A s u .none (Cr u):=by
 intro u hm;obtain⟨i,hi,rfl⟩:=List.getElem_of_mem hm;have hl:=r.length;have hx:xs[i]? =some xs[i]:=bL (by omega);obtain⟨c,e,b⟩:=r.get hx;rw[bL hi]at e;cases e;exact Zjm I hu b (h _ (List.getElem_mem (by omega)))
theorem Zg4(hu:X.A.units+1<cLine):Ak X (compareOp .NotIn) (Zqi X.K true):=by
 intro a s σ H x y v u Q I c b h;obtain⟨p,xs,rfl,rfl,hs,hk,q⟩:=h;obtain rfl:v=Value.none:=c;cases b;obtain⟨us,r,pl,_⟩:=I.list hs;refine SeqAt.notIn_listAt Cr pl.isList (λw hw=>ZX I (by show X.A.units+1<cLine;exact hu) r hk w (by simpa using hw)) ⟨.bl _,H,I,rfl,?_⟩;rw[show us.toArray.any Cr=us.any Cr by simp,Z0 r hk];exact q
theorem ZZ{H:Hp}{xs:List V}{us:List Value}(r:Vals xs us)(h:OkN X.K H xs)(j:Nat)(hj:j<us.length)(a:j<xs.length):Cr us[j]=decide (xs[j]=V.non):=by
 obtain⟨c,e,b⟩:=r.get (bL a);rw[bL hj]at e;cases e;exact Z1 b (h _ (List.getElem_mem a))
theorem Zgc(hu:X.A.units+1<cLine):MtR X "list.index" (Zeq X.K):=by
 intro i s σ H x xs v us Q I o rs h;obtain⟨p,a,rfl,rfl,hs,hk,hn,q⟩:=h;obtain rfl:v=Value.ref p:=o;obtain⟨u,rfl,m⟩:=Vals.one rs;obtain rfl:u=Value.none:=m;obtain⟨b,r,pl,hz⟩:=I.list hs;obtain⟨⟨l,dd,g,sl⟩,f,hc,n,hd⟩:=pl.isList;simp only at hc hd;subst hc hd;have hl:=r.length;have hj:a.idxOf V.non<a.length:=List.idxOf_lt_length_iff.mpr hn;have k:a.length<2 ^ 62:=Nat.lt_of_le_of_lt hz (by decide);refine call_meets PySem.F.slot_list_index ⟨_,f,rfl⟩ PySem.F.entry_list_index (PySem.F.args_list_index_2 _ _)
  (SeqAt.list_indexAt p b.toArray n dd sl .none Cr (a.idxOf V.non) (by simpa[hl]using hj) (by omega) ?_ ?_) ⟨f,λy hy=>ZX I (by show X.A.units+1<cLine;exact hu) r hk y (by simpa using hy),⟨.int _,H,I.tok _,⟨_,rfl⟩,q⟩⟩
 ·show Cr b[a.idxOf V.non]=true;rw[ZZ r hk _ (by omega) hj,decide_eq_true_eq];exact List.getElem_idxOf hj
 ·intro j c d;show Cr b[j]=false;rw[ZZ r hk j (by simpa using c) (by omega),decide_eq_false_iff_not];intro e;have:=List.not_of_lt_findIdx (p:=(· == V.non)) (xs:=a) d;simp[e]at this
theorem Zjc(hu:X.A.units+1<cLine):Ak X (compareOp .NotEq) (Zmw X.K true):=by
 intro f s σ H x y v u Q I n m h;obtain⟨p,r,xs,k,rfl,rfl,hx,hy,g,q⟩:=h;cases n;cases m;obtain⟨us,e,c,_⟩:=I.list hx;obtain⟨o,d,a,_⟩:=I.list hy;have b:X.A.units<cLine:=by omega
 by_cases hl:xs.length=k.length
 ·obtain⟨i,l⟩:=Zhf e d (g hl).1 (g hl).2 hl;refine SeqAt.RcNeAt.lists c.isList a.isList (by rw[List.size_toArray,List.size_toArray,<- e.length,<- d.length];exact hl) b (λj h1 h2=>i _ _ j h1 h2) X.prog X.w X.xe _ ?_;rw[l];exact⟨.bl _,H,I,rfl,q⟩
 ·refine SeqAt.RcNeAt.lists_lengths c.isList a.isList ?_ b X.prog X.w X.xe _ ?_
  ·rw[List.size_toArray,List.size_toArray,<- e.length,<- d.length];simpa using hl
  ·refine⟨.bl _,H,I,rfl,?_⟩;have:=q;rw[Zp5 hl]at this;exact this
end
end G
namespace G
open PySem L2
def JB(C:Addr):TE:=λ_ H Q=>∀x dx,H x=none->H dx=none->dx≠x->Q (.ref x) (upd (upd H dx (.own x)) x (.ins C dx []))
theorem Zoc{C:Addr}{σ:St}{H:Hp}{Q:VK}(h:∀x dx,H x=none->H dx=none->dx≠x->Q (.ref x) (upd (upd H dx (.own x)) x (.ins C dx []))):JB C σ H Q:=h
def Za(t u:TE):TE:=λσ H Q=>t σ H Q\/u σ H Q
theorem Zkq{t u:TE}{σ:St}{H:Hp}{Q:VK}(h:t σ H Q):Za t u σ H Q:=.inl h
theorem Zkp{t u:TE}{σ:St}{H:Hp}{Q:VK}(h:u σ H Q):Za t u σ H Q:=.inr h
end G
namespace G
open PySem L2 PySem.Spec PyProof.Rows
section
variable {X:Cx}
theorem Oc{e:Expr}{t u:TE}(h1:PE X e t)(h2:PE X e u):PE X e (Za t u):=by
 intro a s σ H Q I h;rcases h with h | h
 ·exact h1 a s σ H Q I h
 ·exact h2 a s σ H Q I h
structure Mk0(K:aC)(C:Addr):Prop where
 makes:W.makesIn K C=true
 init:W.findIn K (.ref C) "__init__"=some (some (.builtin "object.__init__"))
 kp:W.keepIn K (.ref C)=true
theorem Zcc{C:Addr}{a:List (Addr×Obj)}{σ:L2.St}{H:Hp}{s:Shared}{Q:VK}(M:Mk0 X.K C)(I:Inv X a σ H s)
  (h:∀x dx,H x=none->H dx=none->dx≠x->Q (.ref x) (upd (upd H dx (.own x)) x (.ins C dx []))):wpAny (model X.prog X.w) X.A (call (.ref C) []) (EP X a σ Q) X.xe s:=by
 have hq:=h (s.heap.objs.size+1) s.heap.objs.size (I.hok.fresh (Nat.le_succ _)) (I.hok.fresh (Nat.le_refl _)) (Nat.ne_of_lt (Nat.lt_succ_self _));have d:=Inv.made (C:=C) I;have Y:=W.makes_of (M:=model X.prog X.w) I.Oj M.makes;refine wpAny_call (Zgd I.Oj M.makes M.init (λself=>W.Looks.of_pure (W.oi_bind self)) ?_);have c:((s.heap.push W.emptyDict).push (W.instObj C s.heap.objs.size)).get? (s.heap.objs.size+1)=some (W.instObj C s.heap.objs.size):=by
  have:=Heap.get?_push_size (s.heap.push W.emptyDict) (o:=W.instObj C s.heap.objs.size) rfl;rw[Heap.size_push]at this;exact this
 have t1:W.Looks (model X.prog X.w) ((s.heap.push W.emptyDict).push (W.instObj C s.heap.objs.size)) (typeOf (.ref (s.heap.objs.size+1))) (.ref C):=(W.Looks.ld c).andThen .now;have t2:W.Looks (model X.prog X.w) ((s.heap.push W.emptyDict).push (W.instObj C s.heap.objs.size)) (isInstance (.ref (s.heap.objs.size+1)) (.type "object")) true:=t1.andThen (Y.top.keeps λb o e=>Heap.get?_push_of_some _ (Heap.get?_push_of_some _ e));refine codeAny_call_builtin W.oi_plain W.entry_oi (@W.check_slot (model X.prog X.w) _ _ _ "object.__init__" "object" "__init__" (.ref (s.heap.objs.size+1)) [] [] _ W.oi_kind W.oi_split t2 (W.oi_args (.ref (s.heap.objs.size+1))) ?_);rw[W.oi_run];exact wpAny_pure (And.intro rfl ⟨V.ref (s.heap.objs.size+1),_,d,rfl,hq⟩)
theorem Ka{C:Addr}{x:Str}{p b:Pos}(M:Mk0 X.K C)(d:Gl X x)(hm:X.mg x=some (.ref C))(a:(x == ("__debug__":Str))=false:=by decide):PE X (.Call (.Name x p) [] [] b) (JB C):=by
 intro c s σ H Q I h;refine wpAny_Call_Name_kw (ug I d hm ?_ a);exact W.callWith_K0 I.Oj M.kp (Zcc M I h)
structure ZD1(K:aC)(C:Addr):Prop where
 pg:W.plainGet K C "__class__"=true
 hd:W.hasDictIn K C=true
 cl:W.findIn K (.ref C) "__class__"=some (some (.builtin "object.__class__"))
 sp:W.specialIn K (.builtin "object.__class__") "__get__"=some (some (.builtin "getset_descriptor.__get__"))
 tk:W.takesIn K (.builtin "object.__class__")=some true
 so:W.mroIn K C (.type "object")=some true
end
end G
namespace G
open PySem L2
end G
namespace G
open PySem L2 PySem.Spec PyProof.Rows
end G
namespace G
open PySem L2 PySem.Spec PyProof.Rows
def Zav(w:World):List DictEntry->List (Str×Addr)->Prop
 | [],[]=>True
 | e::a,p::t=>e.hash=hashStr w p.1/\(∃tk,e.key=.str p.1 tk)/\e.val=.ref p.2/\Zav w a t
 | _,_=>False
def Tab(K:aC)(w:World)(mg:Str->Option Value)(nm:Str)(O7:List (Str×Addr)):Prop:=
 ∃dd o a b,mg nm=some (.ref dd)/\K.lookup dd=some o/\o.ExactDict/\o.data=.dict a b/\Zav w a.toList O7
theorem Zav.keys{prog:Program}{w:World}:∀{a:List DictEntry}{O7:List (Str×Addr)},Zav w a O7->∀e∈a,∃k,(strKind prog w).is k e.key=true/\e.hash=(strKind prog w).hash k
 | [],_,_=>λe b=>absurd b List.not_mem_nil
 | e::a,[],h=>h.elim
 | e::a,p::t,h=>λx hx=>by
  obtain⟨h1,⟨tk,h2⟩,_,h4⟩:=h;rcases List.mem_cons.mp hx with rfl | hx
  ·refine⟨p.1,?_,h1⟩;rw[h2];show Value.isStrOf p.1 (.str p.1 tk)=true;simp[Value.isStrOf]
  ·exact Zav.keys h4 x hx
theorem Zav.find{w:World}:∀{d:List DictEntry}{O7:List (Str×Addr)}{k:Str}{f:Addr},Zav w d O7->O7.lookup k=some f->(d.find? λe=>Value.isStrOf k e.key).map (·.val)=some (.ref f)
 | [],[],_,_,_,h=>by cases h
 | [],_::_,_,_,h,_=>h.elim
 | _::_,[],_,_,h,_=>h.elim
 | e::d,p::t,k,f,h,hl=>by
  obtain⟨_,⟨tk,h2⟩,h3,h4⟩:=h;rw[List.find?_cons,h2]
  by_cases hk:k=p.1
  ·subst hk;have c:Value.isStrOf p.1 (.str p.1 tk)=true:=by simp[Value.isStrOf]
   rw[c];have g:List.lookup p.1 (p::t)=some p.2:=by
    obtain⟨a,b⟩:=p;simp[List.lookup]
   rw[g]at hl;cases hl;show some e.val=_;rw[h3]
  ·have c:Value.isStrOf k (.str p.1 tk)=false:=by
    simp only[Value.isStrOf,beq_eq_false_iff_ne,ne_eq];exact λz=>hk z.symm
   rw[c];have g:List.lookup k (p::t)=List.lookup k t:=by
    obtain⟨a,b⟩:=p;simp only[List.lookup];rw[beq_eq_false_iff_ne.mpr hk]
   rw[g]at hl;exact Zav.find h4 hl
def Zma(O7:List (Str×Addr))(a:TE):TE:=λσ H Q=>a σ H λy b=>∃k f,y=.str k/\O7.lookup k=some f/\Q (.ref f) b
theorem Ztv{O7:List (Str×Addr)}{a:TE}{σ:L2.St}{H:Hp}{Q:VK}(h:a σ H λy b=>∃k f,y=.str k/\O7.lookup k=some f/\Q (.ref f) b):Zma O7 a σ H Q:=h
theorem Zj0{X:Cx}{nm:Str}{O7:List (Str×Addr)}{i:Expr}{m:TE}{p d:Pos}(T:Tab X.K X.w X.mg nm O7)(q:Gl X nm)(hi:PE X i m)(hs:Zpe i)(hd:(nm == ("__debug__":Str))=false:=by decide):
  PE X (.Subscript (.Name nm p) i d) (Zma O7 m):=by
 intro a s σ H Q I h;obtain⟨dd,o,b,n,hm,hk,g,c,j⟩:=T;refine Zen PySem.F.slot_dict_getitem.lookup hs (ug I q hm ?_ hd);refine jf (hi a s σ H _ I h) λt u ⟨y,H2,I2,ry,k,f,ey,l,q2⟩=>?_;subst ey;have hh:=I2.Oj dd o hk;refine⟨⟨o,hh,g.1⟩,?_⟩;obtain⟨tk,rfl⟩:∃tk,t=.str k tk:=ry;refine wpAny_getItem_of (knd:=strKind X.prog X.w) (k:=k) (f:=λk=>findBy Value.isStrOf b k) (by show Value.isStrOf k (.str k tk)=true;simp[Value.isStrOf]) ⟨o,b,n,hh,g,c,λe r=>j.keys e (by simpa using r),λ_=>rfl⟩ (v:=.ref f) ?_ ⟨.ref f,H2,I2.tok _,rfl,q2⟩;show Option.map (λx=>x.val) (Array.find? (λe=>Value.isStrOf k e.key) b)=_;rw[<- Array.find?_toList];exact j.find l
def Rz(P:Program)(w:World)(K:aC)(mg:Str->Option Value)(base:Heap)(CX:Y7)(k:Nat)(ps:List Str)(L:List (Addr×Sp)):Prop:=
 ∀f sp,(f,sp)∈L->∃a fd,a<=k/\u6 P w K mg base CX a f fd ps sp/\W.keepIn K (.ref f)=true/\L2.Binds K fd ps []
theorem Rz.nil{P:Program}{w:World}{K:aC}{mg:Str->Option Value}{base:Heap}{CX:Y7}{k:Nat}{ps:List Str}:Rz P w K mg base CX k ps []:=λ_ _ h=>absurd h List.not_mem_nil
theorem Rz.cons{P:Program}{w:World}{K:aC}{mg:Str->Option Value}{base:Heap}{CX:Y7}{k b:Nat}{ps:List Str}{L:List (Addr×Sp)}{f:Addr}{fd:FuncData}{sp:Sp}(hk:b<=k)(F:u6 P w K mg base CX b f fd ps sp)(hb:L2.Binds K fd ps [])(hp:W.keepIn K (.ref f)=true)(t:Rz P w K mg base CX k ps L):Rz P w K mg base CX k ps ((f,sp)::L):=λg a h=>by
 rcases List.mem_cons.mp h with e | h
 ·cases e;exact⟨b,fd,hk,F,hp,hb⟩
 ·exact t g a h
def VN(i:Nat)(L:List (Addr×Sp))(E:XK)(t:TA):TE:=λσ H Q=>∃f sp,σ[i]? =some (some (.ref f))/\(f,sp)∈L/\t σ H λvs a=>sp vs a Q E
theorem mW{i:Nat}{L:List (Addr×Sp)}{E:XK}{t:TA}{σ:L2.St}{H:Hp}{Q:VK}{f:Addr}(sp:Sp)(a:σ[i]? =some (some (.ref f)))(hm:(f,sp)∈L)(h:t σ H λvs b=>sp vs b Q E):VN i L E t σ H Q:=⟨f,sp,a,hm,h⟩
theorem Zy{X:Cx}{CX:Y7}{k i:Nat}{ps:List Str}{L:List (Addr×Sp)}{x:Str}{E:XK}{e:Expr}{c:List Expr}{t:TA}{p b:Pos}(F:Rz X.prog X.w X.K X.mg X.base CX k ps L)(hr:Room k X.A)(l:X.N[i]? =some x)(hv:Vis X.env.scope x)(hx:Passes CX X E)
  (q:PA X (e::c) t) (hd:(x == ("__debug__":Str))=false:=by decide) (d:(x == ("__classdict__":Str))=false:=by decide) (o:starEach (e::c) X.env=(false,eval e X.env)::starEach c X.env:=by rfl) (g:(backTo b (starEach c X.env)).any (·.1)=false:=by rfl):
  PE X (.Call (.Name x p) (e::c) [] b) (VN i L E t):=by
 intro a s σ H Q I h;obtain⟨f,sp,n,hm,h⟩:=h;obtain⟨z,fd,hk,m,hp,hb⟩:=F f sp hm;refine wpAny_Call_Name_kw (jf (Ziz l hv hd d a s σ H (λv H'=>v=.ref f/\H'=H) I ⟨_,n,rfl,rfl⟩) λu j ⟨v,H1,I1,r,e1,e2⟩=>?_);subst e1 e2;obtain rfl:u=Value.ref f:=r;refine W.callWith_K (h₀:=X.base) I1.ok.mod.kin hp (jf (q b a j σ H1 _ I1 h) λus y ⟨vs,H2,I2,r2,q2⟩=>⟨I2.Oj,?_⟩) o g;refine WL (u9:=[]) m (hr.mono hk) hb .nil hx I2 r2 ?_;rw[List.append_nil];exact q2
section
variable {σ:L2.St}{H:Hp}{Q:VK}{td ty tv:TE}{n bk ct:L2.St->Hp->Prop}{r:VK}
theorem Zs0(h:td σ H λx c=>ty σ c λy b=>∃a v,x=.ref a/\Gx b a y (some v)/\Q v b):GR td ty σ H Q:=h
theorem Zkw(h:ty σ H λy c=>td σ c λx b=>∃a o,x=.ref a/\Gx b a y o/\Q (.bl (!o.isSome)) b):GQ ty td σ H Q:=h
theorem Zry(h:tv σ H λv e=>td σ e λx d=>ty σ d λy c=>∃a b,x=.ref a/\Uc c a y v b/\n σ b):Ms td ty tv ⟨n,r,bk,ct⟩ σ H:=h
theorem Zlt{a:Addr}{b:List (L2.Key×V)}{z:Str}(e:H a=some (.dK b)):Gx H a (.str z) (m7 b (Sum.inr z)):=Gx.k (k:=Sum.inr z) e
theorem Zul{a:Addr}{b:List (L2.Key×V)}{z:Str}{v:V}(e:H a=some (.dK b))(hl:b.length<sizeLine):Uc H a (.str z) v (upd H a (.dK (putK b (Sum.inr z) v))):=Uc.k (k:=Sum.inr z) e hl
end
end G
namespace G
open PySem L2 PySem.Spec PyProof.Rows
def Zpf(K:aC)(J:It)(b:List Nat)(tc:TT)(f:TE)(σ:L2.St)(h:Hp)(Q:VK):Prop:=∃W:Nat->Nat->List V->Hp->Prop,(∃m,W 0 m [] h)/\∀i m c H,W i m c H->
 (J.stop i H/\∀p,H p=none->Q (.ref p) (upd H p (.lst c)))\/
 (J.go i H/\c.length<sizeLine/\∀x H',J.yld i H x H'->∃a u v,x=.ref a/\je K H' a [u,v]/\tc (some u::some v::b.map (pick σ)) H' λk e=>if k=true then f (some u::some v::b.map (pick σ)) e (λy g=>∃d,d<m/\W (i+1) d (c++[y]) g)else ∃d,d<m/\W (i+1) d c e)
def Zi7(K:aC)(b:TI)(a:List Nat)(tc:TT)(d:TE):TE:=λσ H Q=>b σ H λJ c=>Zpf K J a tc d σ c Q
theorem Zrr{K:aC}{b:TI}{a:List Nat}{tc:TT}{c:TE}{σ:L2.St}{H:Hp}{Q:VK}(h:b σ H λJ d=>Zpf K J a tc c σ d Q):Zi7 K b a tc c σ H Q:=h
def Zuz(K:aC)(b:TE):TE:=λσ H Q=>∃a u v r,σ=some (.ref a)::r/\je K H a [u,v]/\b (some u::some v::r) H Q
theorem Zf0{K:aC}{J:It}{b:List Nat}{c:TE}{σ:L2.St}{H:Hp}{Q:VK}(h:LCg J b xW (Zuz K c) σ H Q):Zpf K J b xW c σ H Q:=by
 obtain⟨W,w0,step⟩:=h;refine⟨W,w0,λi m d H hw=>?_⟩;rcases step i m d H hw with z | ⟨g,l,st⟩
 ·exact .inl z
 ·refine .inr ⟨g,l,λx H' y=>?_⟩;have h1:=st x H' y;simp only[xW,↓reduceIte]at h1;obtain⟨a,u,v,r,e,hs,q⟩:=h1;cases e;refine⟨a,u,v,rfl,hs,?_⟩;simp only[xW,↓reduceIte];exact q
theorem Zck{X:Cx}{o iter:Expr}{x y:Str}{A D pt u:Pos}{B:Nat}{q:List Expr}{a:Scope}{cl:List (Str×Addr)}{F:TI}{tc:TT}{E:TE}{cns:List Str}(b:List Nat)
  (hi:PI X (.Tuple [.Name x A,.Name y D] B pt) iter F)
  (O:∀C s H ex pn,PF (Rg X a cl (x::y::cns) C s H ex pn) q tc) (R:∀C s H ex pn,PE (Rg X a cl (x::y::cns) C s H ex pn) o E) (hc:X.calm=true)
  (e:closureFor a X.env=pure cl) (r:AllIn X.env.cells cl) (k:Dj X cns b)
  (f:a.kind=.function) (d:(a.names.all λp=>p.2 != .cell)=true) (j:(a.names.all λp=>p.2 != .free || (cl.lookup p.1).isSome)=true)
  (t:(cns.all λy=>a.names.lookup y == some .free)=true) (c:∀y∈a.names,y.2=.local->a.names.lookup y.1=some .local) (hx:a.names.lookup x=some .local) (hy:a.names.lookup y=some .local) (n:(x::y::cns).Nodup)
  (hs:∀v,foldedSetIterable iter X.env v=pure v:=by intro _;rfl):
  PE X (.ListComp o [⟨.Tuple [.Name x A,.Name y D] B pt,iter,q,0⟩] a u) (Zi7 X.K F b tc E):=by
 refine Zj4 (ns:=[x,y]) (gt:=Zla X.K 2 (Jc (aM 0) (Jc (aM 1) Zlb))) b (λJ σ H Q h=>?_) hi (λC s H ex pn=>W3 hc (sG (fK n rfl (.inl (lookup_relabel_local hx)) (.inr (lookup_relabel_local hx))) (sG (fK n rfl (.inl (lookup_relabel_local hy)) (.inr (lookup_relabel_local hy))) Ob))) O R hc e r k f d j t c hs;obtain⟨W,w0,turn⟩:=h;refine⟨W,w0,λi m I H hw=>(turn i m I H hw).imp id λ⟨g,l,st⟩=>⟨g,l,λz H' y vs hv=>?_⟩⟩;obtain⟨L,M,P,N,w,st⟩:=st z H' y
 match vs,hv with
 | [v,S],_=>exact⟨[some M,some P],rfl,⟨L,_,N,w,rfl,_,_,rfl,_,_,rfl,rfl,rfl,rfl⟩,st⟩
end G
namespace G
open PySem L2 PySem.Spec PyProof.Rows
theorem Zis{X:Cx}{iz:Nat}{z:Str}{pz Ztc:Pos}{elt iter:Expr}{x:Str}{px pos:Pos}{O:List Expr}{f:Scope}{cl:List (Str×Addr)}{wi:TI}{tc:TT}{te:TE}{cns:List Str}(E:List Nat)
  (hi:PI X (.Name x px) iter wi)
  (hf:∀C s H ex pn,PF (Rg X f cl (x::cns) C s H ex pn) O tc) (he:∀C s H ex pn,PE (Rg X f cl (x::cns) C s H ex pn) elt te) (hc:X.calm=true)
  (hclos:closureFor f X.env=pure cl) (hcl:AllIn X.env.cells cl) (hcap:Dj X cns E)
  (R:f.kind=.function) (hcell:(f.names.all λp=>p.2 != .cell)=true) (hfree:(f.names.all λp=>p.2 != .free || (cl.lookup p.1).isSome)=true)
  (hcf:(cns.all λy=>f.names.lookup y == some .free)=true) (hnames:∀y∈f.names,y.2=.local->f.names.lookup y.1=some .local) (hx:f.names.lookup x=some .local) (hnd:(x::cns).Nodup)
  (hN:X.N.Nodup) (hiz:X.N[iz]? =some z) (hz:Loc X.env.scope z) (hfz:X.fn z=true\/X.env.scope.names.lookup z=some .local)
  (hsw:swapsWithSole [.Name z pz] (.ListComp elt [⟨.Name x px,iter,O,0⟩] f pos) Ztc.line X.env=pure true) (hs:∀v,foldedSetIterable iter X.env v=pure v:=by intro _;rfl):
  PS X (.Assign [.Name z pz] (.ListComp elt [⟨.Name x px,iter,O,0⟩] f pos) Ztc) (bD (tLC wi E tc te) (aM iz)):=by
 intro t s σ H D I h;generalize hQ:(λv H1=>aM iz v σ H1 D.nx)=Q;have h:tLC wi E tc te σ H Q:=hQ ▸ h;rw[exec_Assign_arm];refine wpAny_bind (wpAny_standAt ?_);rw[hsw];refine wpAny_bind (wpAny_pure ?_);rw[if_pos rfl];refine wpAny_bind ?_;rw[evalThenUse]
 suffices key:wpAny (model X.prog X.w) X.A (comprehension (.ListComp elt [⟨.Name x px,iter,O,0⟩] f pos) f X.env (firstIterPos [⟨.Name x px,iter,O,0⟩] pos) (newList []) (firstAsync [⟨.Name x px,iter,O,0⟩]) (firstIter [⟨.Name x px,iter,O,0⟩] X.env) (some λv=>assignAll v ((assignEach [.Name z pz] X.env).map (·.2)))) (λ_ s'=>SP X t D .next s') X.xe s from
  wpAny_bind (wpAny_mono key (λ_ s' h=>wpAny_pure (wpAny_pure h)) λ_ _ h=>h)
 refine wpAny_comprehension_free rfl hs hclos R hnames (jf (hi t s σ H _ I h) λxv s1 h1=>jf h1 λitv s2 h2=>?_);obtain⟨it,Z,tn,J,H2,rfl,F,T,st2,f2,W,⟨m0,w0⟩,turn⟩:=h2;have hne:∀y∈f.names,y.2≠.cell:=λy hy e=>by
  have:=List.all_eq_true.mp hcell y hy;rw[e]at this;simp at this
 refine wpAny_newObj_type (wpAny_newFunctionEnv hne (by intro y hy;simp at hy) (λh₁ L M=>?_) R);dsimp only at L M ⊢;generalize K:s2.heap.objs.size=acc;generalize hH3:s2.heap.push { cls:=.type "list",dict:=none,data:=.seq ([]:List Value).toArray }=h3 at L M ⊢;have hC:h3.objs.size=acc+1:=by rw[<- hH3,Heap.size_push,K]
 have U:∀b o,s2.heap.get? b=some o->h3.get? b=some o:=λb o e=>hH3 ▸ Heap.get?_push_of_some _ e;have S7:∀b o,h3.get? b=some o->h₁.get? b=some o:=λb o e=>M.extBut b o (Nat.ne_of_lt (Heap.lt_size e)) (Heap.get?_push_of_some _ e);have Zqw:h3.get? acc=some { cls:=.type "list",dict:=none,data:=.seq ([]:List Value).toArray }:=by
  rw[<- hH3,<- K];exact Heap.get?_push_size _ rfl
 have I3:Inv X t σ H2 { s2 with heap:=h3 }:=F.kept (t':=s2.toks) U;have Zdz:qO X t H2 acc:=F.Zab (Nat.le_of_eq K) (F.hok.fresh (Nat.le_of_eq K));have fpl:∀b∈Z,b<acc:=λb hb=>by
  obtain⟨o,e,_⟩:=T.obj _ _ st2 b hb;rw[<- K];exact Heap.lt_size e
 have Lw:∀b∈acc::Z,qO X t H2 b:=λb hb=>(List.mem_cons.mp hb).elim (λe=>e ▸ Zdz) (f2 b);have exC:∀b∈acc::Z,b≠h3.objs.size:=λb hb=>by
  rcases List.mem_cons.mp hb with e | hb
  ·rw[hC,e];exact Nat.ne_of_lt (Nat.lt_succ_self _)
  ·rw[hC];exact Nat.ne_of_lt (Nat.lt_succ_of_lt (fpl b hb))
 have Es:∀b∈acc::Z,b∉frs X.stack:=λb hb hm=>by
  obtain⟨_,g1,g2,_⟩:=Lw b hb;exact(List.mem_cons.mp (F.Ay b hm)).elim g1 g2
 let Y:Cx:=Rg X f cl (x::cns) h3.objs.size { s2 with heap:=h3 } H2 (acc::Z) (X.pn++t)
 have g:∀y c,cl.lookup y=some c->X.env.cells.lookup y=some c:=λy c e=>hcl.get e;have IV:∀y k,Y.env.kindOf y=some k->(k=.cell\/k=.free)->∃c,cl.lookup y=some c:=λy k e hk=>by
  have e0:(f.names.lookup y).map (Bv X.env y)=some k:=nH.symm.trans e;obtain⟨k0,e1,e2⟩:=Option.map_eq_some_iff.mp e0;have e3:=lookup_all hfree e1;have e4:=lookup_all hcell e1
  by_cases hf:k0=.free
  ·subst hf;rw[Bool.or_eq_true]at e3;rcases e3 with e3 | e3
   ·exact absurd rfl (bne_iff_ne.mp e3)
   ·exact Option.isSome_iff_exists.mp e3
  ·exfalso
   have e5:Bv X.env y k0=k0:=by
    unfold Bv;rw[if_neg];intro z;rw[Bool.and_eq_true,Bool.and_eq_true]at z;exact hf (beq_iff_eq.mp z.1.1)
   rw[e5]at e2;subst e2;rcases hk with rfl | rfl
   ·simp at e4
   ·exact hf rfl
 have okY:Y.Ok:={
  mod:=F.ok.mod
  kind:=R
  glob:=F.ok.glob
  blt:=F.ok.blt
  above:=Nat.le_refl _
  inj:=λa b c e1 e2=>F.ok.inj a b c (g _ _ e1) (g _ _ e2)
  has:=λy hy=>hy.elim (λe=>IV y _ e (.inl rfl)) (λe=>IV y _ e (.inr rfl))
  cab:=λy c e=>nomatch e
  hd:=F.ok.hd
  frames:=F.ok.frames
  stk:=.inl rfl
  exf:=λb hb=>⟨exC b hb,λy c e=>(Lw b hb).2.2.2.2.1 y c (g _ _ e)⟩
  bs:=λb o e=>⟨U b o (F.bs b o e).1,(F.bs b o e).2⟩
  bsz:=by
   show X.base.objs.size<=h3.objs.size;rw[hC,<- K];exact Nat.le_succ_of_le (Nat.le_trans F.ok.bsz F.sz)
  S6:=λb o e hb=>by
   rcases(Lw b hb).2.2.2.1 with z | z
   ·exact F.ok.S6 b o e z
   ·exact absurd (Nat.lt_of_lt_of_le (Heap.lt_size e) (Nat.le_trans F.ok.bsz z)) (Nat.lt_irrefl _)
  Zag:=Es
  yo:=I3.stack
  frf:=I3.N7 }
 have Zr9:(none::E.map (pick σ):L2.St).length=(x::cns).length:=by rw[List.length_cons,List.length_cons,bx,hcap.len]
 have I4:Inv Y [] (none::E.map (pick σ)) H2 { s2 with heap:=h₁,toks:=s2.toks+([]:List (Str×Value)).length }:={
  ok:=okY
  os:=rfl
  bare:=F.bare
  base:=Un.kept S7
  loc:=by
   refine⟨_,L,λi y v e1 e2 e3=>?_⟩;cases i with
   | zero=>simp at e2
   | succ i=>
    obtain⟨j,j1,j2,j3⟩:=hcap.get (σ:=σ) (i:=i) (x:=y) (v:=v) (by have e1':(x::cns)[i+1]? =some y:=e1;simpa using e1') (by simpa using e2);obtain⟨m,hn,hl⟩:=F.loc;obtain⟨u,r,l⟩:=hl j y v j1 j3 (.inr (.inl j2));rcases l with ⟨l,_⟩ | ⟨_,c,l1,l2⟩
    ·rw[j2]at l;cases l
    ·refine⟨u,r,.inr ?_⟩;rcases e3 with e3 | e3 | e3
     ·exfalso
      have hm:y∈cns:=List.mem_of_getElem? (show cns[i]? =some y by have e1':(x::cns)[i+1]? =some y:=e1;simpa using e1');have hl:f.names.lookup y=some .free:=beq_iff_eq.mp (List.all_eq_true.mp hcf y hm);have e0:(f.names.lookup y).map (Bv X.env y)=some .local:=nH.symm.trans e3;rw[hl]at e0;have e5:Bv X.env y .free=.local:=Option.some.inj e0;unfold Bv at e5;split at e5<;>cases e5
     ·obtain⟨c',hc'⟩:=IV y _ e3 (.inl rfl);have:=g _ _ hc';rw[l1]at this;cases this;exact⟨.inl e3,c,hc',l2.keeps λb o e=>S7 _ _ (U _ _ e)⟩
     ·obtain⟨c',hc'⟩:=IV y _ e3 (.inr rfl);have:=g _ _ hc';rw[l1]at this;cases this;exact⟨.inr e3,c,hc',l2.keeps λb o e=>S7 _ _ (U _ _ e)⟩
  cell:=λy c e=>by
   obtain⟨v,z⟩:=F.cell y c (g _ _ e);exact⟨v,z.keeps λb o e=>S7 _ _ (U _ _ e)⟩
  free:=F.hok.fresh (by rw[K];show acc<=h3.objs.size;rw[hC];exact Nat.le_succ _)
  sO:=λy c e=>F.sO y c (g _ _ e)
  pin:=λp hp=>by
   have hp2:p∈(X.pn++t)++[]:=hp;have hp':p∈X.pn++t:=by rw[List.append_nil]at hp2;exact hp2
   obtain⟨p1,p2,p3,p4,p5⟩:=F.pin p hp';refine⟨S7 _ _ (U _ _ p1),p2,?_,λhm=>(List.mem_cons.mp (F.Ay _ hm)).elim p3 p4,p5⟩;exact Nat.ne_of_lt (by show p.1<h3.objs.size;exact Heap.lt_size (U _ _ p1))
  hok:=F.hok.kept λb u e=>S7 _ _ (U _ _ e)
  len:=Zr9 }
 have fpY:∀{H':Hp}{pl:List (Addr×Obj)}{b:Addr},b∈acc::Z->H' b=none->(∀p∈pl,p.1≠b)->qO Y pl H' b:=λ{H' pl b} hb hn hp=>
  ⟨hn,exC b hb,Es b hb,.inl hb,λy c e=>(Lw b hb).2.2.2.2.1 y c (g _ _ e),λp hm=>(List.mem_append.mp hm).elim (λz=>(Lw b hb).2.2.2.2.2 p z) (hp p)⟩
 have fin:∀{P:L2.St}{H':Hp}{s':Shared}{S:List V}{B:List Value}{kk:Nat}{pl:List (Addr×Obj)},Inv Y pl P H' s'->H' acc=none->Vals S B->S.length<=sizeLine->
   s'.heap.get? acc=some { cls:=.type "list",data:=.seq B.toArray kk }->(∀p,H' p=none->Q (.ref p) (upd H' p (.lst S)))->
   ∀h',Heap.SameBut h3.objs.size s'.heap h'->EP X t σ (λv Hf=>Q v Hf/\Hf h3.objs.size=none) (.ref acc) { s' with heap:=h' }:=λ{P H' s' S B kk pl} J ha hv hz ho hq h' hs'=>by
  have Zos:acc≠h3.objs.size:=exC acc (List.mem_cons_self);have CP:∀b o,b≠h3.objs.size->s'.heap.get? b=some o->h'.get? b=some o:=λb o hb e=>hs'.extBut b o hb e;have ltC:∀b o,s2.heap.get? b=some o->b≠h3.objs.size:=λb o e=>Nat.ne_of_lt (Heap.lt_size (U b o e));have Lj:H' h3.objs.size=none:=J.free;have un:Un (frs X.stack) (acc::Z) H2 H' s2.heap h':={
   keep:=λb o e n hb hx=>CP b o (ltC b o e) (J.base.keep b o (U b o e) n hb hx)
   slot:=λb o e n hb hx=>by
    obtain⟨sl,q⟩:=J.base.slot b o (U b o e) n hb hx;exact⟨sl,CP b _ (ltC b o e) q⟩
   free:=λb o e n hx=>J.base.free b o (U b o e) n hx
   there:=λb o e hx=>by
    obtain⟨o',q⟩:=J.base.there b o (U b o e) hx;exact⟨o',CP b o' (ltC b o e) q⟩
   tups:=J.base.tups
   Ge:=J.base.Ge
   GP:=J.base.GP }
  have hok:Ao X.prog X.w H' h':=λb u e=>by
   refine(J.hok b u e).stay (λc v hc q=>CP c v ?_ q) (λ_ q=>q) λ_ _ q=>q;rintro rfl;rcases hc with rfl | hc
   ·rw[Lj]at e;cases e
   ·rw[Lj]at hc;cases hc
  have I5:Inv X t σ H' { s' with heap:=h' }:=F.call' (ch:=acc::Z) J.os un hok J.bare λb hb=>by
   obtain⟨g0,g1,g2,g3,g4,g5⟩:=Lw b hb;exact⟨g3,g1,g4,g5⟩
  refine⟨.ref acc,_,adopt (acc:=acc) I5 ?_ (CP _ _ Zos ho) hv hz,rfl,hq acc ha,by rw[aB Zos.symm];exact Lj⟩;obtain⟨g0,g1,g2,g3,g4,g5⟩:=Zdz;exact⟨ha,g1,g2,g3,g4,g5⟩
 have loop:codeAny (model X.prog X.w) X.A (.compLoop (.ListComp elt [⟨.Name x px,iter,O,0⟩] f pos) 0 (.ref it) (.ref acc) Y.env) (compPost (model X.prog X.w) X.A X.xe (some λv=>assignAll v ((assignEach [.Name z pz] X.env).map (·.2))) (λ_ s'=>SP X t D .next s') (.ref acc) h3.objs.size)
   { s2 with heap:=h₁,toks:=s2.toks+([]:List (Str×Value)).length }:=by
  refine M8 (λn s'=>∃(i:Nat) (v:Option V) (S:List V) (B:List Value) (kk:Nat) (H':Hp),Inv Y [] (v::E.map (pick σ)) H' s'/\tn i s'.heap/\(∀b∈Z,H' b=none)/\H' acc=none/\Vals S B/\S.length<=sizeLine/\
   s'.heap.get? acc=some { cls:=.type "list",data:=.seq B.toArray kk }/\W i n S H') ?_ m0 ⟨0,none,[],[],0,H2,I4,T.keep _ _ _ st2 (λb _ o e=>S7 _ _ (U _ _ e)),λb hb=>(f2 b hb).1,Zdz.1,.nil,Nat.zero_le _,S7 _ _ Zqw,w0⟩
  rintro n s5 ⟨i,v,S,B,kk,H5,I5,st5,fr5,ha5,hv5,hz5,ho5,w5⟩;have Ziw:Inv Y [(acc,{ cls:=.type "list",data:=.seq B.toArray kk })] (v::E.map (pick σ)) H5 s5:=I5.tY λp hp=>by
   have e:p=(acc,{ cls:=.type "list",data:=.seq B.toArray kk }):=by simpa using hp
   subst e;exact⟨ho5,ha5,exC acc List.mem_cons_self,Es acc List.mem_cons_self,λv=>by intro z;cases z⟩
  have fpA:∀{H':Hp},(∀b∈Z,H' b=none)->∀b∈Z,qO Y [(acc,{ cls:=.type "list",data:=.seq B.toArray kk })] H' b:=λhn b hb=>fpY (List.mem_cons_of_mem _ hb) (hn b hb) λp hp=>by
   have e:p=(acc,{ cls:=.type "list",data:=.seq B.toArray kk }):=by simpa using hp
   subst e;exact(Nat.ne_of_lt (fpl b hb)).symm
  rcases turn i n S H5 w5 with ⟨stop,qn⟩ | ⟨go,hlt,step⟩
  ·refine jf (T.done Y rfl rfl rfl hc i _ s5 _ H5 (λ_ _=>False) Ziw (fpA fr5) st5 stop) λr s6 ⟨hr,I6⟩=>?_;subst hr;obtain⟨m,hm,_⟩:=I6.loc;have ho6:=(I6.pin (acc,{ cls:=.type "list",data:=.seq B.toArray kk }) (List.mem_append_right _ List.mem_cons_self)).1;obtain⟨v,Hf,If,rf,qf,hfC⟩:=fin I6 ha5 hv5 hz5 ho6 qn s6.heap (Heap.SameBut.refl _ _);have fC:qO X t Hf h3.objs.size:=F.Zab (by rw[hC,K];exact Nat.le_succ _) hfC;obtain⟨oC,esC,epC,gC,dC,kC,nC⟩:=hm;have Ip:Inv X (t++[(h3.objs.size,oC)]) σ Hf s6:=Inv.tY If λp hp=>by
    rcases List.mem_append.mp hp with hp | hp
    ·exact If.pin p (List.mem_append_right _ hp)
    ·rw[List.mem_singleton.mp hp];exact⟨gC,fC.1,fC.2.1,fC.2.2.1,λv z=>by rw[dC]at z;cases z⟩
   show wpAny _ _ (assign (.Name z pz) X.env (.ref acc)) _ _ _;refine wpAny_assign_Name (GZ Ip hN hiz hz rf (λs7 I7=>?_) hfz);have g7:=(I7.pin (h3.objs.size,oC) (List.mem_append_right _ (List.mem_append_right _ List.mem_cons_self))).1;refine⟨m,⟨oC,esC,epC,g7,dC,kC,nC⟩,λh' hs'=>?_⟩;have I8:=I7.GK;have qf:D.nx (σ.set iz (some v)) Hf:=by rw[<- hQ]at qf;exact qf
   have kb:∀b o,b≠h3.objs.size->s7.heap.get? b=some o->h'.get? b=some o:=λb o hb e=>hs'.extBut b o hb e;refine⟨_,Hf,I8.step (ch:=[h3.objs.size]) (λb hb=>?_) (λb o _ _ hb e _=>kb b o (λz=>hb (by rw[z];exact List.mem_cons_self)) e) (λb o _ _ hb e _=>⟨o.slots,kb b o (λz=>hb (by rw[z];exact List.mem_cons_self)) e⟩) (λ_ _ _ _ h=>h) (λb o hb e=>⟨o,kb b o (λz=>hb (by rw[z];exact List.mem_cons_self)) e⟩) (λ_ _ h=>h) (λ_ _ _ h=>h) (λ_ ps h=>⟨#[],by simpa using h⟩) (λm' hm'=>?_) (λb u e=>?_) I8.bare,qf⟩
   ·rw[List.mem_singleton.mp hb];exact⟨fC.2.2.2.1,fC.2.1,fC.2.2.2.2.1,fC.2.2.2.2.2⟩
   ·obtain⟨o',e1,e2,e3,e4,e5⟩:=hm';exact⟨o',e1,e2,kb _ _ fC.2.1.symm e3,e4,e5⟩
   ·refine(I8.hok b u e).stay (λc w' hc q=>kb c w' ?_ q) (λ_ q=>q) λ_ _ q=>q;rintro rfl;rcases hc with rfl | hc
    ·rw[hfC]at e;cases e
    ·rw[hfC]at hc;cases hc
  ·refine jf (T.item Y rfl rfl rfl hc i _ s5 _ H5 (λ_ _=>False) Ziw (fpA fr5) st5 go) λr s6 ⟨u,hr,h6⟩=>?_;subst hr;refine jf h6 λ_ s7 ⟨z,H7,I7,r7,y7,st7,fr7⟩=>?_;have I7':=I7.pinned (fpA fr7) (T.obj _ _ st7);have pg:PG Y (.Name x px) (aM 0):=fK hnd rfl (.inl (lookup_relabel_local hx)) (.inr (lookup_relabel_local hx));refine jf (pg _ s7 _ H7 z u (λσ2 H2'=>σ2=some z::E.map (pick σ)/\H2'=H7) I7' r7 ⟨rfl,rfl⟩) λ_ s8 ⟨σ8,H8,I8,e8,e8'⟩=>?_;subst e8 e8';refine jf (hf _ _ _ _ _ _ s8 _ H8 _ I8 (step z H8 y7)) λok s9 ⟨H9,I9,q9⟩=>?_;have stat:∀{H':Hp}{s':Shared}{P:L2.St},Inv Y ([(acc,{ cls:=.type "list",data:=.seq B.toArray kk })]++wZ Z s7.heap) P H' s'->tn (i+1) s'.heap/\(∀b∈Z,H' b=none)/\H' acc=none/\s'.heap.get? acc=some { cls:=.type "list",data:=.seq B.toArray kk }:=λ{H' s' P} J=>by
    have pa:=J.pin (acc,{ cls:=.type "list",data:=.seq B.toArray kk }) (List.mem_append_right _ (List.mem_append_left _ List.mem_cons_self));refine⟨T.keep _ _ _ st7 λb hb o e=>(J.pin (b,o) (List.mem_append_right _ (List.mem_append_right _ (nG hb e)))).1,λb hb=>?_,pa.2.1,pa.1⟩;obtain⟨o,e,d⟩:=T.obj _ _ st7 b hb;exact(J.pin (b,o) (List.mem_append_right _ (List.mem_append_right _ (nG hb e)))).2.1
   have ZW:∀{H':Hp}{s':Shared}{P:L2.St}{pl:List (Addr×Obj)},Inv Y pl P H' s'->Inv Y [] P H' s':=λJ=>J.tY λp hp=>nomatch hp;cases ok with
   | false=>
    obtain⟨m',hm,w9⟩:=q9;obtain⟨t1,t2,t3,t4⟩:=stat I9;exact⟨m',hm,i+1,some z,S,B,kk,H9,ZW I9,t1,t2,t3,hv5,hz5,t4,w9⟩
   | true=>
    show wpAny _ _ (eval elt Y.env) _ _ s9;refine jf (he _ _ _ _ _ _ s9 _ H9 _ I9 q9) λy s10 ⟨yv,H10,I10,r10,m',hm,w10⟩=>?_;obtain⟨t1,t2,t3,t4⟩:=stat I10;have Zsv:Inv Y (wZ Z s7.heap) (some z::E.map (pick σ)) H10 s10:=I10.tY λp hp=>I10.pin p (List.mem_append_right _ (List.mem_append_right _ hp));have fA:qO Y (wZ Z s7.heap) H10 acc:=fpY List.mem_cons_self t3 λp hp=>Nat.ne_of_lt (fpl _ (KC hp).1);have Ja:=adopt Zsv fA t4 hv5 hz5;refine jf (rH (X:=Y) _ s10 _ _ (.ref acc) [yv] (.ref acc) [y] (λ_ H'=>H'=upd (upd H10 acc (.lst S)) acc (.lst (S++[yv]))) Ja rfl (.cons r10 .nil) ⟨acc,S,yv,rfl,rfl,aq,hlt,rfl⟩) λ_ s11 ⟨_,H11,I11,_,e11⟩=>?_;rw[eN]at e11;subst e11;obtain⟨Zs4,its',kk',Zs5,Zs6⟩:=I11.hok acc _ aq;have Jd:=disown I11 fA;have Zq9:tn (i+1) s11.heap:=T.keep _ _ _ st7 λb hb o e=>(Jd.pin (b,o) (List.mem_append_right _ (nG hb e))).1;exact⟨m',hm,i+1,some z,S++[yv],its',kk',H10,ZW Jd,Zq9,t2,t3,Zs5,Zs4,Zs6,w10⟩
 exact codeAny_compStart_list loop (T.self X.A 0 _ _ _ (T.keep _ _ _ st2 (λb _ o e=>S7 _ _ (U _ _ e))) loop)
end G
namespace G
open PySem L2 PySem.Spec PyProof.Rows
end G
namespace G
open PySem L2
def Ite(K:aC)(a:Addr):It:=
 ⟨λi H=>∃xs x,cV K H a xs/\xs[i]? =some x,λi H x H'=>∃t v,x=.ref t/\H t=none/\H'=upd H t (.tup [.int i,v])/\∀xs,cV K H a xs->xs[i]? =some v,λi H=>∃xs,cV K H a xs/\xs.length<=i⟩
def Za7(K:aC)(c:TA):TI:=λσ H R=>c σ H λvs b=>∃a,vs=[.ref a]/\(∃xs,cV K b a xs)/\R (Ite K a) b
theorem Zvp{K:aC}{c:TA}{σ:L2.St}{H:Hp}{R:It->Hp->Prop}(h:c σ H λvs b=>∃a,vs=[.ref a]/\(∃xs,cV K b a xs)/\R (Ite K a) b):Za7 K c σ H R:=h
def K9(v d:Addr):HO:=.ext λh=>h.IsItemsView v d
def Zbf(d:TE):TE:=λσ H Q=>d σ H λx c=>∃a b,x=.ref a/\Rd c a (.dK b)/\∀v,c v=none->Q (.ref v) (upd c v (K9 v a))
theorem Zof{d:TE}{σ:L2.St}{H:Hp}{Q:VK}(h:d σ H λx c=>∃a b,x=.ref a/\Rd c a (.dK b)/\∀v,c v=none->Q (.ref v) (upd c v (K9 v a))):Zbf d σ H Q:=h
def Zaw(H:Hp):List Addr->List (Key×V)->Prop
 | [],[]=>True
 | t::ts,kv::a=>H t=some (.tup [kV kv.1,kv.2])/\Zaw H ts a
 | _,_=>False
def Zee:List V->Hp->VK->Prop:=λxs H Q=>∃v a b,xs=[.ref v]/\H v=some (K9 v a)/\Rd H a (.dK b)/\∀l ts H',H l=none->aU H H'->H' l=some (.lst (ts.map V.ref))->Zaw H' ts b->Q (.ref l) H'
theorem Zoe{H:Hp}{Q:VK}{v a:Addr}{b:List (Key×V)}(h1:H v=some (K9 v a))(h2:Rd H a (.dK b))(h:∀l ts H',H l=none->aU H H'->H' l=some (.lst (ts.map V.ref))->Zaw H' ts b->Q (.ref l) H'):Zee [.ref v] H Q:=⟨v,a,b,rfl,h1,h2,h⟩
def Zor(a:List (Key×V)):V->Option Bool
 | .int i=>some (m7 a (.inl i)).isSome
 | .str x=>some (m7 a (.inr x)).isSome
 | .non=>some false
 | _=>none
def Zi8(d:Bool)(ty f:TE):TE:=λσ H Q=>ty σ H λy g=>f σ g λx e=>∃a c b,x=.ref a/\Rd e a (.dK c)/\Zor c y=some b/\Q (.bl (if d then !b else b)) e
theorem Zrz{d:Bool}{ty e:TE}{σ:L2.St}{H:Hp}{Q:VK}(h:ty σ H λy g=>e σ g λx f=>∃a c b,x=.ref a/\Rd f a (.dK c)/\Zor c y=some b/\Q (.bl (if d then !b else b)) f):Zi8 d ty e σ H Q:=h
section
variable {K:aC}{a:Addr}{g:TG}{tb:TS}{σ:L2.St}{H:Hp}{n:L2.St->Hp->Prop}{r:VK}
theorem Zuh(xs:List V)(Pv:Nat->L2.St->Hp->Prop)(k:Pv 0 σ H)(hl:∀i σ H,i<=xs.length->Pv i σ H->cV K H a xs)
  (hs:∀i x t σ H,xs[i]? =some x->Pv i σ H->H t=none->g (.ref t) σ (upd H t (.tup [.int i,x])) λc d=>tb ⟨Pv (i+1),r,n,Pv (i+1)⟩ c d) (hd:∀ σ H,Pv xs.length σ H->n σ H):
  ∃W:Nat->Nat->L2.St->Hp->Prop,(∃m,W 0 m σ H)/\∀i m σ H,W i m σ H->
   ((Ite K a).stop i H/\n σ H)\/((Ite K a).go i H/\∃N:L2.St->Hp->Prop,(∀ b H',N b H'->∃f,f<m/\W (i+1) f b H')/\∀x H',(Ite K a).yld i H x H'->g x σ H' λc d=>tb ⟨N,r,n,N⟩ c d):=by
 refine⟨λi m σ H=>i<=xs.length/\m=xs.length - i/\Pv i σ H,⟨xs.length,Nat.zero_le _,rfl,k⟩,?_⟩;rintro i m σ H ⟨hi,rfl,p⟩;have hq:=hl i σ H hi p
 by_cases hk:i=xs.length
 ·subst hk;exact .inl ⟨⟨xs,hq,Nat.le_refl _⟩,hd σ H p⟩
 ·have e:i<xs.length:=by omega
  have hx:xs[i]? =some xs[i]:=bL e;refine .inr ⟨⟨xs,_,hq,hx⟩,Pv (i+1),λb H' h=>⟨xs.length - (i+1),by omega,by omega,rfl,h⟩,?_⟩;rintro x H' ⟨t,v,rfl,j,rfl,hv⟩;exact hs i v t σ H (hv xs hq) p j
theorem Zo1{d:List Nat}{tc:TT}{n:TE}{Q:VK}{xs:List V}(hs:cV K H a xs)(hz:xs.length<=1000000)(W:Nat->List V->Hp->Prop)(s:W 0 [] H)(h:∀i c b,W i c b->aU H b/\c.length<=i)
  (step:∀i x c b t (C:List V->Hp->Prop),(∀f e,W (i+1) f e->C f e)->xs[i]? =some x->W i c b->b t=none->tc (some (.int i)::some x::d.map (pick σ)) (upd b t (.tup [.int i,x])) λk l=>if k=true then n (some (.int i)::some x::d.map (pick σ)) l (λy e=>C (c++[y]) e)else C c l)
  (q:∀c b,W xs.length c b->∀p,b p=none->Q (.ref p) (upd b p (.lst c))):Zpf K (Ite K a) d tc n σ H Q:=by
 refine⟨λi m c b=>i<=xs.length/\m=xs.length - i/\W i c b,⟨xs.length,Nat.zero_le _,rfl,s⟩,?_⟩;rintro i m c b ⟨hi,rfl,w⟩;obtain⟨sm,hl⟩:=h i c b w;have hq:cV K b a xs:=sm.seq hs
 by_cases hk:i=xs.length
 ·subst hk;exact .inl ⟨⟨xs,hq,Nat.le_refl _⟩,q c b w⟩
 ·have g:i<xs.length:=by omega
  refine .inr ⟨⟨xs,_,hq,bL g⟩,Nat.lt_of_le_of_lt (show c.length<=1000000 by omega) (show 1000000<sizeLine by decide),?_⟩;rintro x H' ⟨t,v,rfl,r,rfl,hv⟩;exact⟨t,_,_,rfl,je.of aq,step i v c b t (λf e=>∃j,j<xs.length - i/\i+1<=xs.length/\j=xs.length - (i+1)/\W (i+1) f e) (λf e o=>⟨xs.length - (i+1),by omega,by omega,rfl,o⟩) (hv xs hq) w r⟩
end
end G
namespace G
open PySem L2 PySem.Spec PyProof.Rows
theorem Zgq{X:Cx}{a:List (Addr×Obj)}{σ:L2.St}{H:Hp}{s:Shared}{h':Heap}{t':Nat}{e d:Addr}(I:Inv X a σ H s)(k:∀b u,b≠e->b≠d->s.heap.get? b=some u->h'.get? b=some u)(f:qO X a H e)(g:qO X a H d):
  Inv X a σ H { s with heap:=h',toks:=t' }:=by
 have ne:∀b u,H b=some u->b≠e:=λb u q z=>by rw[z,f.1]at q;cases q
 have h:∀b u,H b=some u->b≠d:=λb u q z=>by rw[z,g.1]at q;cases q
 have nm:∀b,b∉[e,d]->b≠e/\b≠d:=λb hb=>⟨λz=>hb (by simp[z]),λz=>hb (by simp[z])⟩;refine I.step (g':=s.gens) (d':=s.drawn) (ch:=[e,d]) (λb hb=>?_) (λb o _ _ hc q _=>k b o (nm b hc).1 (nm b hc).2 q) (λb o _ _ hc q _=>⟨o.slots,k b o (nm b hc).1 (nm b hc).2 q⟩) (λ_ _ _ _ n=>n)
  (λb o hc q=>⟨o,k b o (nm b hc).1 (nm b hc).2 q⟩) (λ_ _ q=>q) (λ_ _ _ q=>q) (λb ps q=>⟨#[],by rw[q];simp⟩) (λm hm=>?_) (λb u q=>?_) I.bare
 ·rcases List.mem_cons.mp hb with z | z
  ·rw[z];exact⟨f.2.2.2.1,f.2.1,f.2.2.2.2.1,f.2.2.2.2.2⟩
  ·have p:b=d:=by simpa using z
   rw[p];exact⟨g.2.2.2.1,g.2.1,g.2.2.2.2.1,g.2.2.2.2.2⟩
 ·obtain⟨o,l,j,i,r⟩:=hm;exact⟨o,l,j,k _ o (Ne.symm f.2.1) (Ne.symm g.2.1) i,r⟩
 ·refine(I.hok b u q).stay (λc v hc z=>?_) (λ_ z=>z) λ_ _ z=>z;rcases hc with y | y
  ·rw[y]at z ⊢;exact k b v (ne b u q) (h b u q) z
  ·exact k c v (ne c _ y) (h c _ y) z
theorem QW{X:Cx}{d:List (Addr×Obj)}{σ:L2.St}{H:Hp}{s:Shared}{h':Heap}{t':Nat}{e f a:Addr}{o:HO}(I:Inv X d σ H s)(k:∀b u,b≠e->b≠f->s.heap.get? b=some u->h'.get? b=some u)(g:qO X d H e)(h:qO X d H f)
  (j:s.heap.objs.size<=a) (new:lY X.prog X.w (upd H a o) h' a o):Inv X d σ (upd H a o) { s with heap:=h',toks:=t' }:=by
 have hn:=I.hok.fresh j;have ne:∀b u,H b=some u->b≠e:=λb u q z=>by rw[z,g.1]at q;cases q
 have i:∀b u,H b=some u->b≠f:=λb u q z=>by rw[z,h.1]at q;cases q
 have nm:∀b,b∉[e,f]->b≠e/\b≠f:=λb hb=>⟨λz=>hb (by simp[z]),λz=>hb (by simp[z])⟩;have x:∀b u,s.heap.get? b=some u->b≠a:=λb u q=>Nat.ne_of_lt (Nat.lt_of_lt_of_le (Heap.lt_size q) j);refine I.step (g':=s.gens) (d':=s.drawn) (ch:=[e,f]) (λb hb=>?_) (λb o _ _ hc q _=>k b o (nm b hc).1 (nm b hc).2 q) (λb o _ _ hc q _=>⟨o.slots,k b o (nm b hc).1 (nm b hc).2 q⟩) (λb u _ q n=>(aB (x b u q)).trans n)
  (λb o hc q=>⟨o,k b o (nm b hc).1 (nm b hc).2 q⟩) (λb xs q=>(aB (aD q hn)).trans q) (λb o xs q=>(aB (aD q hn)).trans q) (λb ps q=>⟨#[],by rw[aB (aD q hn),q];simp⟩) (λm hm=>?_) (λb u q=>?_) I.bare
 ·rcases List.mem_cons.mp hb with z | z
  ·rw[z];exact⟨g.2.2.2.1,g.2.1,g.2.2.2.2.1,g.2.2.2.2.2⟩
  ·have A:b=f:=by simpa using z
   rw[A];exact⟨h.2.2.2.1,h.2.1,h.2.2.2.2.1,h.2.2.2.2.2⟩
 ·obtain⟨o,t,p,l,r⟩:=hm;exact⟨o,t,p,k _ o (Ne.symm g.2.1) (Ne.symm h.2.1) l,r⟩
 ·by_cases hb:b=a
  ·subst hb;rw[aq]at q;cases q;exact new
  ·rw[aB hb]at q;refine(I.hok b u q).stay (λc v hc z=>?_) (λc z=>by rw[aB (aD z hn)];exact z) λc xs z=>by rw[aB (aD z hn)];exact z
   rcases hc with y | y
   ·rw[y]at z ⊢;exact k b v (ne b u q) (i b u q) z
   ·exact k c v (ne c _ y) (i c _ y) z
theorem Zfk{P:Program}{w:World}{K:aC}{r:List Expr}{x1:Nat}{pt:Pos}(a e f:Addr)(t:e≠f):
    Turn P w K (.Tuple r x1 pt) (Ite K a) [e,f] e (λi h=>(∃old,IsEnum h e f ((i:Nat):Int) old)/\h.IsListIter f a i) where
  mem:=by simp
  obj:=λi h st b hb=>by
    obtain⟨⟨old,j⟩,o,ho,c,d⟩:=st;rcases List.mem_cons.mp hb with z | z
    · rw[z];exact⟨_,j,λv z=>by cases z⟩
    · have V:b=f:=by simpa using z
      rw[V];exact⟨o,ho,λv z=>by rw[d]at z;cases z⟩
  keep:=λi h h' st k=>⟨let ⟨old,j⟩:=st.1;⟨old,k e (by simp) _ j⟩,st.2.at λo q=>k f (by simp) o q⟩
  item:=by
    intro X L hw D hc i m s σ H E I B st R;subst L hw D;obtain⟨xs,x,hq,hx⟩:=R;obtain⟨F,T,p,hz⟩:=I.list hq;obtain⟨u,hu,ru⟩:=T.get hx;obtain⟨⟨old,j⟩,l⟩:=st;have W:=B e (by simp);have Y:=B f (by simp);have y:e<s.heap.objs.size:=Heap.lt_size j;have U:f<s.heap.objs.size:=by obtain⟨o,q,_⟩:=l;exact Heap.lt_size q
    refine wpAny_pyNext_enum_item j l p.isList (x:=u) (by simpa using hu) t λh1 O C M hz1 S=>?_;refine⟨_,rfl,wpAny_letOwnedTupleGo_enum (s:={ s with heap:=h1,toks:=s.toks+1 }) O λh2 N g=>?_⟩
    replace g:Heap.SameBut e h1 h2:=g
    have hn:H s.heap.objs.size=none:=I.hok.fresh (Nat.le_refl _);have I2:Inv X m σ (upd H s.heap.objs.size (.tup [.int ((i:Nat):Int),x])) { s with heap:=h2,toks:=s.toks+1 }:=by
      refine QW I (λb v hb n q=>g.extBut b v hb (S b v hb n q)) W Y (Nat.le_refl _) ?_;refine⟨by show 2<=sizeLine;decide,[.int ((i:Nat):Int) s.toks,u],.cons ⟨_,rfl⟩ (.cons ru .nil),⟨_,g.extBut _ _ (Nat.ne_of_gt y) M,rfl,_,rfl⟩⟩
    refine⟨.ref s.heap.objs.size,_,I2,rfl,⟨_,x,rfl,hn,rfl,λys hy=>by rw[I.Za4 hy hq];exact hx⟩,⟨⟨u,?_⟩,C.extBut g.extBut (Ne.symm t)⟩,λb hb=>?_⟩
    · have Z:(((i+1:Nat)):Int)=(i:Int)+1:=by omega
      show IsEnum h2 e f (((i+1:Nat)):Int) u;rw[Z];exact N
    · rcases List.mem_cons.mp hb with z | z
      · rw[z,aB (Nat.ne_of_lt y)];exact W.1
      · have V:b=f:=by simpa using z
        rw[V,aB (Nat.ne_of_lt U)];exact Y.1
  done:=by
    intro X L hw D hc i m s σ H E I B st R;subst L hw D;obtain⟨xs,hq,hx⟩:=R;obtain⟨F,T,p,hz⟩:=I.list hq;obtain⟨⟨old,j⟩,l⟩:=st;have hl:=T.length;exact wpAny_pyNext_enum_end (I.ok.hd hc) j l p.isList (by simp;omega) λh' J=>⟨rfl,Zgq (t':=s.toks) I (λb o _ n q=>J b o n q) (B e (by simp)) (B f (by simp))⟩
  self:=λA i s Q E st h=>let ⟨_,j⟩:=st.1;wpAny_pyIter_enum j h
theorem W2{X:Cx}{f:List Expr}{v:Nat}{pt:Pos}{l:Expr}{j:TA}{p g:Pos}(t:Gl X "enumerate")(hm:X.mg "enumerate"=none)(w:PA X [l] j)(hs:starEach [l] X.env=[(false,eval l X.env)]:=by rfl):
  PI X (.Tuple f v pt) (.Call (.Name "enumerate" p) [l] [] g) (Za7 X.K j):=by
 intro c s σ H R I h;refine Call_ (XC I t hm boot_enumerate (PyProof.Rows.callWith_type1 (jf (w g c s σ H _ I h) λus d ⟨vs,H1,I1,r1,q1⟩=>?_) hs rfl));obtain⟨a,e,⟨xs,hq⟩,q⟩:=q1;subst e;cases r1 with
 | cons r u=>
  cases u;obtain rfl:_=Value.ref a:=r;obtain⟨n,y,pl,hz⟩:=I1.list hq;refine call_enumerate_list pl.isList λh' m i hsz hk=>?_;have o:Inv X c σ H1 { d with heap:=h' }:=I1.kept (t':=d.toks) hk
  refine wpAny_pyIter_enum (s:={ d with heap:=h' }) m ?_;have k:∀b,d.heap.objs.size<=b->qO X c H1 b:=λb hb=>I1.Zab hb (I1.hok.fresh hb);refine⟨_,[d.heap.objs.size+1,d.heap.objs.size],_,_,H1,rfl,o,Zfk a _ _ (Nat.succ_ne_self _),⟨⟨_,m⟩,i⟩,λb hb=>?_,q⟩;rcases List.mem_cons.mp hb with z | z
  ·rw[z];exact k _ (Nat.le_succ _)
  ·have x:b=d.heap.objs.size:=by simpa using z
   rw[x];exact k _ (Nat.le_refl _)
end G
namespace G
open PySem L2 PySem.Spec PyProof.Rows
theorem Zgr{X:Cx}{d:List (Addr×Obj)}{σ:L2.St}{H:Hp}{s:Shared}{a:Addr}{o:HO}(I:Inv X d σ H s)(f:qO X d H a)(new:lY X.prog X.w (upd H a o) s.heap a o):Inv X d σ (upd H a o) s:=by
 have hn:=f.1;have r:Inv X d σ (upd H a o) { s with heap:=s.heap,gens:=s.gens,drawn:=s.drawn,toks:=s.toks }:=by
  refine I.step (g':=s.gens) (t':=s.toks) (d':=s.drawn) (ch:=[a]) (λb hb=>?_) (λb u _ _ _ q _=>q) (λb u _ _ _ q _=>⟨u.slots,q⟩) (λb u hc q n=>(aB (λz=>hc (by simp[z]))).trans n) (λb u _ q=>⟨u,q⟩)
   (λb xs q=>(aB (aD q hn)).trans q) (λb u xs q=>(aB (aD q hn)).trans q) (λb ps q=>⟨#[],by rw[aB (aD q hn),q];simp⟩) (λm hm=>hm) (λb u q=>?_) I.bare
  ·have z:b=a:=by simpa using hb
   rw[z];exact⟨f.2.2.2.1,f.2.1,f.2.2.2.2.1,f.2.2.2.2.2⟩
  ·by_cases hb:b=a
   ·subst hb;rw[aq]at q;cases q;exact new
   ·rw[aB hb]at q;exact(I.hok b u q).stay (λc v _ z=>z) (λc z=>by rw[aB (aD z hn)];exact z) λc xs z=>by rw[aB (aD z hn)];exact z
 exact r
theorem Zdn{X:Cx}{c:List (Addr×Obj)}{H:Hp}{a b:Addr}{o:HO}(f:qO X c H b)(h:b≠a):qO X c (upd H a o) b:=⟨(aB h).trans f.1,f.2⟩
theorem Ztp{P:Program}{w:World}{k:Key}{u:Value}(h:(fL P w).is k u=true):RelV (kV k) u:=by
 rcases fM h with ⟨i,t,rfl,rfl⟩ | ⟨x,t,rfl,rfl⟩
 ·exact⟨t,rfl⟩
 ·exact⟨t,rfl⟩
theorem Zj5{X:Cx}{o:Expr}{m:TE}{c d:Pos}(j:PE X o m)(f:attributeBase o "items" X.env (eval o X.env)=eval o X.env:=by rfl)(g:(c.endLine == d.line)=true:=by rfl):
  PE X (.Call (.Attribute o "items" c) [] [] d) (Zbf m):=by
 intro i s σ H Q I h;refine wpAny_Call_method0_late f g (jf (j i s σ H _ I h) λu l ⟨x,H1,I1,rx,a,kvs,ex,rd,q⟩=>?_);subst ex;obtain rfl:u=Value.ref a:=rx;obtain⟨t1,t2,hd⟩:=Zkl I1 (.inl ⟨kvs,rd⟩);obtain⟨z,_,vs,rel,dd⟩:=Jk I1.hok rd;refine⟨"dict","dict.items",PySem.F.plainAttrs_dict,PySem.F.slot_dict_items,PySem.F.type_dict_items,t1,t2,Calls.callWith_builtin rfl (PySem.evalArgs_none ?_)⟩;refine call_meetsIn PySem.F.slot_dict_items t1 PySem.F.entry_dict_items (PySem.F.args_dict_items_1 _) (meets_dict_items (fL X.prog X.w) a hd) ⟨⟨vs,dd⟩,?_⟩;have hn:=I1.hok.fresh (Nat.le_refl _);refine⟨.ref l.heap.objs.size,_,I1.laid (t':=l.toks) (λb u e=>Heap.get?_push_of_some _ e) (Nat.le_refl _) ?_,rfl,q _ hn⟩;exact⟨⟨_,Heap.get?_push_size _ rfl,rfl,rfl⟩,⟨_,Heap.get?_push_size _ rfl⟩,λh1 h2 ⟨o,j,r⟩ k=>⟨o,k o j,r⟩⟩
theorem Mq{X:Cx}{c:List (Addr×Obj)}{σ:L2.St}{s:Shared}:∀(g:List Addr) (d:List (Key×V)) (vs:List (Key×Value)) (H:Hp),Inv X c σ H s->g.Nodup->(∀a∈g,qO X c H a)->g.length=d.length->KV d vs->
  (∀(j:Nat) (a:Addr),g[j]? =some a->∃f k x,vs[j]? =some (k,x)/\(fL X.prog X.w).is k f=true/\s.heap.get? a=some { cls:=.type "tuple",data:=.seq #[f,x] })->
  ∃H',Inv X c σ H' s/\aU H H'/\Zaw H' g d
 | [],[],_,H,I,_,_,_,_,_=>⟨H,I,λ_ _ h=>h,trivial⟩
 | [],_::_,_,_,_,_,_,hl,_,_=>by simp at hl
 | _::_,[],_,_,_,_,_,hl,_,_=>by simp at hl
 | a::g,kv::d,vs,H,I,nd,m,hl,r,l=>by
  cases r with
  | cons B rs=>
   rename_i q p
   obtain⟨f,k,x,e,hk,A⟩:=l 0 a rfl;have v:q=(k,x):=by simpa using e
   subst v;obtain⟨u,C⟩:=B;have fa:=m a (by simp);have y:a∉g:=(List.nodup_cons.mp nd).1;have i:kv.1=k:=u;have t:Inv X c σ (L2.upd H a (.tup [kV kv.1,kv.2])) s:=Zgr I fa ⟨by show 2<=sizeLine;decide,[f,x],.cons (by rw[i];exact Ztp hk) (.cons C .nil),⟨_,A,rfl,_,rfl⟩⟩;obtain⟨H',n,sm,ps⟩:=Mq g d p _ t (List.nodup_cons.mp nd).2 (λb hb=>Zdn (m b (by simp[hb])) λz=>y (z ▸ hb)) (by simpa using hl) rs (λj b hb=>by simpa using l (j+1) b (by simpa using hb));refine⟨H',n,λb o hb=>sm b o ?_,sm _ _ aq,ps⟩;rw[aB (aD hb fa.1)];exact hb
theorem UT:∀a:List Addr,Vals (a.map V.ref) (a.map Value.ref)
 | []=>.nil
 | _::a=>.cons rfl (UT a)
theorem Zed{X:Cx}(hc:X.calm=true):Ru X (.type "list") Zee:=by
 intro f s σ H xs us Q I r h;obtain⟨v,a,l,rfl,hv,m,q⟩:=h;obtain⟨u,rfl,x⟩:=Vals.one r;obtain rfl:u=Value.ref v:=x;have k:s.heap.IsItemsView v a:=(show lY X.prog X.w H s.heap v (K9 v a)from I.hok v _ hv).1;obtain⟨z,hd,vs,rel,dd⟩:=Jk I.hok m;obtain⟨y,hm⟩:=dd.dictAt;have hl:=rel.length;refine W.kdx_call (I.ok.hd hc) k hm (by rw[<- hl];exact z) λh' tk acc c e hk t d i g=>?_;have hn:=I.hok.fresh (Nat.le_refl s.heap.objs.size);have p:Inv X f σ (upd H s.heap.objs.size (.lst (e.map V.ref))) { s with heap:=h',toks:=tk }:=by
  refine I.laid hk (Nat.le_refl _) ⟨by rw[bx,d,<- hl];exact z,acc.toList,c,by rw[g];exact UT e,by rw[Array.toArray_toList];exact t⟩
 have nd:e.Nodup:=i.rise.imp λh=>Nat.ne_of_lt h;obtain⟨H',n,sm,ps⟩:=Mq e l vs _ p nd (λb hb=>Zdn (I.Zab (Nat.le_of_lt (i.above b hb)) (I.hok.fresh (Nat.le_of_lt (i.above b hb)))) (Nat.ne_of_gt (i.above b hb))) (by rw[d,hl]) rel (λj b hb=>i.pairs j b hb);refine⟨.ref s.heap.objs.size,H',n,rfl,q _ e H' hn (λb o hb=>sm b o ?_) (sm _ _ aq) ps⟩;rw[aB (aD hb hn)];exact hb
theorem Zld{X:Cx}{e:List (Addr×Obj)}{σ:L2.St}{H:Hp}{s:Shared}{a:Addr}{o:Obj}{d:List (Key×V)}(I:Inv X e σ H s)(h:H a=some (.dK d))(f:s.heap.get? a=some o):Inv X e σ (upd H a (.DR o (.dK d))) s:=by
 have ne:∀b u,H b=some u->u≠.dK d->b≠a:=λb u q n z=>n (by rw[z,h]at q;exact(Option.some.inj q).symm);have r:Inv X e σ (upd H a (.DR o (.dK d))) { s with heap:=s.heap,gens:=s.gens,drawn:=s.drawn,toks:=s.toks }:=by
  refine I.step (g':=s.gens) (t':=s.toks) (d':=s.drawn) (ch:=[]) (λb hb=>nomatch hb) (λb u _ _ _ q _=>q) (λb u _ _ _ q _=>⟨u.slots,q⟩) (λb u hc q n=>(aB (λz=>by rw[z,h]at n;cases n)).trans n) (λb u _ q=>⟨u,q⟩)
   (λb xs q=>(aB (ne b _ q (λz=>by cases z))).trans q) (λb u xs q=>(aB (ne b _ q (λz=>by cases z))).trans q) (λb ps q=>⟨#[],by rw[aB (ne b _ q (λz=>by cases z)),q];simp⟩) (λm hm=>hm) (λb u q=>?_) I.bare
  have hs:∀c u,H c=some u->u≠.dK d->upd H a (.DR o (.dK d)) c=some u:=λc u z n=>by rw[aB (ne c u z n)];exact z
  by_cases hb:b=a
  ·subst hb;rw[aq]at q;cases q;exact⟨f,(I.hok b _ h).stay (λc v _ z=>z) (λc z=>hs c _ z (λy=>by cases y)) λc xs z=>hs c _ z (λy=>by cases y)⟩
  ·rw[aB hb]at q;exact(I.hok b u q).stay (λc v _ z=>z) (λc z=>hs c _ z (λy=>by cases y)) λc xs z=>hs c _ z (λy=>by cases y)
 exact r
def Zrg:Option Key->Value->Bool
 | none,.none=>true
 | none,_=>false
 | some k,v=>IW k v
theorem mz{k:Option Key}{v:Value}(h:Zrg k v=true):(k=none/\v=.none)\/∃j,k=some j/\IW j v=true:=by
 cases k with
 | none=>cases v<;>first | exact .inl ⟨rfl,rfl⟩ | cases h
 | some j=>exact .inr ⟨j,rfl,h⟩
theorem QT{j:Key}(h:IW j Value.none=true):False:=by
 rcases fM h with ⟨i,t,_,e⟩ | ⟨x,t,_,e⟩<;>cases e
def Zr6(P:Program)(w:World):PySem.KeyKind P w (Option Key) where
  is:=Zrg
  hash:=λk=>match k with | none=>reduceHash 0xFCA86420 | some k=>Zto w k
  inj:=λv a b c hb=>by
    rcases mz c with ⟨rfl,rfl⟩ | ⟨i,rfl,h1⟩
    · rcases mz hb with ⟨rfl,_⟩ | ⟨j,rfl,h2⟩
      · rfl
      · exact(QT h2).elim
    · rcases mz hb with ⟨rfl,rfl⟩ | ⟨j,rfl,h2⟩
      · exact(QT h1).elim
      · rw[(fL P w).inj v i j h1 h2]
  byValue:=λk v h=>by
    rcases mz h with ⟨rfl,rfl⟩ | ⟨i,rfl,h1⟩
    · rfl
    · exact(fL P w).byValue i v h1
  pyHash:=λ{A E s k v Q} hv h=>by
    rcases mz hv with ⟨rfl,rfl⟩ | ⟨i,rfl,h1⟩
    · exact W.pyHash_slot (T:="NoneType") rfl F.slot_NoneType_hash F.entry_NoneType_hash (F.args_NoneType_hash_1 _) (beq_builtin_none _) (.inl rfl) (wpAny_bind (wpAny_pure (wpAny_bind (wpAny_mkInt (wpAny_pure ⟨_,_,rfl,h⟩)))))
    · exact(fL P w).pyHash h1 h
  eqBool:=λ{A E s a b u v Q} hu hv h=>by
    rcases mz hu with ⟨rfl,rfl⟩ | ⟨i,rfl,h1⟩
    · rcases mz hv with ⟨rfl,rfl⟩ | ⟨j,rfl,h2⟩
      · exact Gh (A:=A) (s:=s) (y:=.non) (x:=.non) rfl rfl rfl rfl P w E Q h
      · rcases fM h2 with ⟨n,t,rfl,rfl⟩ | ⟨x,t,rfl,rfl⟩
        · exact Gh (A:=A) (s:=s) (y:=.non) (x:=.int n) rfl ⟨t,rfl⟩ rfl rfl P w E Q h
        · exact Gh (A:=A) (s:=s) (y:=.non) (x:=.str x) rfl ⟨t,rfl⟩ rfl rfl P w E Q h
    · rcases mz hv with ⟨rfl,rfl⟩ | ⟨j,rfl,h2⟩
      · rcases fM h1 with ⟨n,t,rfl,rfl⟩ | ⟨x,t,rfl,rfl⟩
        · exact Gh (A:=A) (s:=s) (y:=.int n) (x:=.non) ⟨t,rfl⟩ rfl rfl rfl P w E Q h
        · exact Gh (A:=A) (s:=s) (y:=.str x) (x:=.non) ⟨t,rfl⟩ rfl rfl rfl P w E Q h
      · refine(fL P w).eqBool h1 h2 ?_
        have e:decide (i=j)=decide (some i=some j):=by
          by_cases z:i=j
          · subst z;simp
          · rw[decide_eq_false z,decide_eq_false (λy=>z (Option.some.inj y))]
        rw[e];exact h
  «strs»:=λk x t v h=>by
    rcases mz h with ⟨_,e⟩ | ⟨i,rfl,h1⟩
    · cases e
    · exact(fL P w).strs i x t v h1
theorem Zjl{P:Program}{w:World}{h:Heap}{a:Addr}{vs:List (Key×Value)}(dd:h.DictOf (fL P w) a vs):∃f,h.MapOf (Zr6 P w) a f/\f none=none:=by
 obtain⟨o,b,g,d,hc,hd,hk,hp,hn⟩:=dd;refine⟨λk=>findBy (Zr6 P w).is b k,⟨o,b,g,d,hc,hd,λe c=>?_,λ_=>rfl⟩,?_⟩
 ·obtain⟨k,h1,h2⟩:=hk e c;exact⟨some k,h1,h2⟩
 ·show Option.map (λx=>x.val) (Array.find? (λe=>Zrg none e.key) b)=none;rw[Option.map_eq_none_iff,Array.find?_eq_none];intro e c;obtain⟨k,h1,_⟩:=hk e c;rcases fM h1 with ⟨n,t,_,z⟩ | ⟨x,t,_,z⟩<;>rw[z]<;>exact λy=>nomatch y
section
variable {X:Cx}{i o:Expr}{ty td:TE}
theorem Zdl{a:List (Key×V)}{y:V}{b:Bool}(h:Zor a y=some b):(∃k,y=kV k/\b=(m7 a k).isSome)\/(y=.non/\b=false):=by
 cases y<;>simp only[Zor,Option.some.injEq]at h<;>first | cases h
 ·exact .inr ⟨rfl,rfl⟩
 ·exact .inl ⟨.inl _,rfl,rfl⟩
 ·exact .inl ⟨.inr _,rfl,rfl⟩
theorem Zcl(hu:X.A.units+1<cLine)(hi:PE X i ty)(d:PE X o td):PC X .NotIn i o (Zi8 true ty td):=by
 intro c s σ H Q I h;refine jf (hi c s σ H _ I h) λm g ⟨y,H1,I1,ry,h1⟩=>?_;refine jf (d c g σ H1 _ I1 h1) λl n ⟨x,H2,I2,rx,a,kvs,b,ex,rd,hb,q⟩=>?_;subst ex;obtain rfl:l=Value.ref a:=rx;rcases Zdl hb with ⟨k,rfl,rfl⟩ | ⟨rfl,rfl⟩
 ·exact Zfb hu I2 (.inl ⟨kvs,k,rd,rfl,rfl⟩) ry λs' e=>⟨.bl _,H2,e,rfl,q⟩
 ·obtain rfl:m=Value.none:=ry;obtain⟨z,hd,vs,rel,dd⟩:=Jk I2.hok rd;obtain⟨f,hm,j⟩:=Zjl dd;refine wpAny_notIn_of (knd:=Zr6 X.prog X.w) (k:=none) rfl hd hm ?_;rw[j];exact⟨.bl _,H2,I2.tok _,rfl,q⟩
end
end G
namespace G
open PySem L2 PySem.Spec PyProof.Rows
section
variable {X:Cx}
end
end G
namespace G
open PySem L2 PySem.Spec PyProof.Rows
end G
namespace G
open PySem L2 PySem.Spec PyProof.Rows
section
variable {X:Cx}{x1 x2 x3 x4:Str}{C1 C2 C3 C4:Addr}{pos np1 np2 np3 np4 hp1 hp2 hp3 hp4:Pos}{body su1 su2 su3 su4:List Stmt}{b1 b2 b3 b4:Stmt}{M1 M2 M3 M4:Value->Prop}{tb:(L2.St->XK)->TS}{t1 t2 t3 t4:TS}
end
end G
namespace G
open PySem L2 PySem.Spec PyProof.Rows
end G
namespace G
open PySem L2
end G
namespace G
open PySem L2 PySem.Spec PyProof.Rows
def Mp(v d:Addr):HO:=.ext λh=>h.IsValuesView v d
def Zi3(d:TE):TE:=λσ H Q=>d σ H λx c=>∃a b,x=.ref a/\Rd c a (.dK b)/\∀v,c v=none->Q (.ref v) (upd c v (Mp v a))
theorem Zrj{d:TE}{σ:L2.St}{H:Hp}{Q:VK}(h:d σ H λx c=>∃a b,x=.ref a/\Rd c a (.dK b)/\∀v,c v=none->Q (.ref v) (upd c v (Mp v a))):Zi3 d σ H Q:=h
theorem Zg3{X:Cx}{o:Expr}{m:TE}{c d:Pos}(j:PE X o m)(f:attributeBase o "values" X.env (eval o X.env)=eval o X.env:=by rfl)(g:(c.endLine == d.line)=true:=by rfl):
  PE X (.Call (.Attribute o "values" c) [] [] d) (Zi3 m):=by
 intro i s σ H Q I h;refine wpAny_Call_method0_late f g (jf (j i s σ H _ I h) λu l ⟨x,H1,I1,rx,a,kvs,ex,rd,q⟩=>?_);subst ex;obtain rfl:u=Value.ref a:=rx;obtain⟨t1,t2,hd⟩:=Zkl I1 (.inl ⟨kvs,rd⟩);obtain⟨z,_,vs,rel,dd⟩:=Jk I1.hok rd;refine⟨"dict","dict.values",PySem.F.plainAttrs_dict,PySem.F.slot_dict_values,PySem.F.type_dict_values,t1,t2,Calls.callWith_builtin rfl (PySem.evalArgs_none ?_)⟩;refine call_meetsIn PySem.F.slot_dict_values t1 PySem.F.entry_dict_values (PySem.F.args_dict_values_1 _) (meets_dict_values (fL X.prog X.w) a hd) ⟨⟨vs,dd⟩,?_⟩;have hn:=I1.hok.fresh (Nat.le_refl _);refine⟨.ref l.heap.objs.size,_,I1.laid (t':=l.toks) (λb u e=>Heap.get?_push_of_some _ e) (Nat.le_refl _) ?_,rfl,q _ hn⟩;exact⟨⟨_,Heap.get?_push_size _ rfl,rfl,rfl⟩,⟨_,Heap.get?_push_size _ rfl⟩,λh1 h2 ⟨o,j,r⟩ k=>⟨o,k o j,r⟩⟩
def Itv(a:Addr)(o:Obj)(b:List (Key×V)):It:=
 ⟨λi H=>H a=some (.DR o (.dK b))/\i<b.length,λi H x H'=>H'=H/\∃kv,b[i]? =some kv/\x=kv.2,λi H=>H a=some (.DR o (.dK b))/\b.length<=i⟩
def Zkz(d:TE):TI:=λσ H R=>d σ H λx c=>∃v a b,x=.ref v/\c v=some (Mp v a)/\c a=some (.dK b)/\∀o,R (Itv a o b) (upd c a (.DR o (.dK b)))
theorem Zvm{d:TE}{σ:L2.St}{H:Hp}{R:It->Hp->Prop}(h:d σ H λx c=>∃v a b,x=.ref v/\c v=some (Mp v a)/\c a=some (.dK b)/\∀o,R (Itv a o b) (upd c a (.DR o (.dK b)))):Zkz d σ H R:=h
theorem UW{a b:Type}{R:a->b->Prop}:∀{xs:List a}{c:List b},Paired R xs c->∀(i:Nat) x y,xs[i]? =some x->c[i]? =some y->R x y
 | _,_,.nil,_,_,_,h,_=>by simp at h
 | _,_,.cons r rs,0,_,_,h1,h2=>by
  cases h1;cases h2;exact r
 | _,_,.cons r rs,i+1,_,_,h1,h2=>UW rs i _ _ (by simpa using h1) (by simpa using h2)
theorem Zfi{P:Program}{w:World}{K:aC}{tg:Expr}(a m:Addr)(o:Obj)(f:List (Key×V))(x:Nat)(t:∃D,o.data=.dict D x):Turn P w K tg (Itv a o f) [m] m (λi h=>h.IsValIter m a i f.length x) where
  mem:=by simp
  obj:=λi h st b hb=>by
    have e:b=m:=by simpa using hb
    subst e;obtain⟨o,e,c,d⟩:=st;exact⟨o,e,λv z=>by rw[d]at z;cases z⟩
  keep:=λi h h' st k=>by
    obtain⟨o,e,r⟩:=st;exact⟨o,k m (by simp) o e,r⟩
  item:=by
    intro X J hw C hc i l s σ H E I y st M;subst J hw C;obtain⟨hz,hi⟩:=M;obtain⟨B,z,hd,vs,rel,dd⟩:s.heap.get? a=some o/\f.length<=sizeLine/\(a == sysModules)=false/\∃vs,KV f vs/\s.heap.DictOf (fL X.prog X.w) a vs:=I.hok a _ hz;obtain⟨p,hm⟩:=dd.dictAt;obtain⟨D,n⟩:=t;have N:p=x:=by
      obtain⟨S,F,j,_,g,_⟩:=id hm;rw[B]at j;cases j;rw[n]at g;injection g with _ e;exact e.symm
    subst N;have hl:=rel.length;have hv:vs[i]? =some vs[i]:=bL (by omega);have u:f[i]? =some f[i]:=bL hi;have hk:RelV f[i].2 vs[i].2:=(UW rel i _ _ u hv).2;obtain⟨O,R,W,A,Q,L⟩:=y m (by simp);rw[hl]at st;refine wpAny_pyNext_values_item st hm (k:=vs[i].1) (v:=vs[i].2) (by rw[hv]) λh' q sb=>?_;have T:Inv X l σ H { s with heap:=h' }:=I.turned (t':=s.toks) (λb o hb e=>(sb.2 b hb).trans e) O R A Q L;obtain⟨Y,e,c,d⟩:=id q;exact⟨_,rfl,Zl8 (s:={ s with heap:=h' }) e c d (by decide) ⟨f[i].2,H,T,hk,⟨rfl,_,u,rfl⟩,by rw[hl];exact q,λb hb=>(y b hb).1⟩⟩
  done:=by
    intro X J hw C hc i l s σ H E I y st M;subst J hw C;obtain⟨hz,hi⟩:=M;obtain⟨B,z,hd,vs,rel,dd⟩:s.heap.get? a=some o/\f.length<=sizeLine/\(a == sysModules)=false/\∃vs,KV f vs/\s.heap.DictOf (fL X.prog X.w) a vs:=I.hok a _ hz;obtain⟨p,hm⟩:=dd.dictAt;obtain⟨D,n⟩:=t;have N:p=x:=by
      obtain⟨S,F,j,_,g,_⟩:=id hm;rw[B]at j;cases j;rw[n]at g;injection g with _ e;exact e.symm
    subst N;have hl:=rel.length;obtain⟨O,R,W,A,Q,L⟩:=y m (by simp);rw[hl]at st;exact wpAny_pyNext_values_end (I.ok.hd hc) st hm (by rw[List.getElem?_eq_none];omega) λh' U=>⟨rfl,I.turned (t':=s.toks) (λb o hb e=>U b o hb e) O R A Q L⟩
  self:=λ_ _ _ _ _ st h=>wpAny_pyIter_valiter st h
theorem Zn8{X:Cx}{tg:Expr}{e:Expr}{l:TE}(r:PE X e l):PI X tg e (Zkz l):=by
 intro d s σ H R I h;refine jf (r d s σ H _ I h) λu c ⟨x,H1,I1,r1,q1⟩=>?_;obtain⟨v,a,j,e,hv,hq,q⟩:=q1;subst e;obtain rfl:u=Value.ref v:=r1;have i:c.heap.IsValuesView v a:=(I1.hok v _ hv).1;obtain⟨z,hs,vs,rel,dd⟩:=Zpx I1.hok hq;obtain⟨m,hm⟩:=dd.dictAt;obtain⟨o,n,k,_,g,_⟩:=id hm;refine wpAny_pyIter_values i hm ?_;have p:=Zld I1 hq k;have f:c.heap.objs.size≠a:=Nat.ne_of_gt (Heap.lt_size k);refine⟨c.heap.objs.size,[c.heap.objs.size],_,_,_,rfl,p.kept (t':=c.toks) λb o e=>Heap.get?_push_of_some _ e,Zfi a _ o j m ⟨n,g⟩,?_,λb hb=>?_,q o⟩
 ·rw[rel.length];exact⟨_,Heap.get?_push_size _ rfl,rfl,rfl⟩
 ·have e:b=c.heap.objs.size:=by simpa using hb
  subst e;exact Zdn (I1.Zab (Nat.le_refl _) (I1.hok.fresh (Nat.le_refl _))) f
theorem Zfm{X:Cx}{f:List (Addr×Obj)}{σ:L2.St}{H:Hp}{s:Shared}{a:Addr}{o:Obj}{d:List (Key×V)}(I:Inv X f σ H s)(h:H a=some (.DR o (.dK d)))(hn:∀m u,X.H₀ a≠some (.DR m u)):Inv X f σ (upd H a (.dK d)) s:=by
 have ne:∀b u,H b=some u->u≠.DR o (.dK d)->b≠a:=λb u q n z=>n (by rw[z,h]at q;exact(Option.some.inj q).symm);have k:∀b,H b=none->upd H a (.dK d) b=none:=λb q=>(aB (λz=>by rw[z,h]at q;cases q)).trans q;have hs:∀c u,H c=some u->u≠.DR o (.dK d)->upd H a (.dK d) c=some u:=λc u z n=>by rw[aB (ne c u z n)];exact z
 obtain⟨F,w,J,g,C,t,A,B,r,i,l⟩:=I;refine⟨F,w,J,⟨g.keep,g.slot,λb ob e n hx=>k b (g.free b ob e n hx),g.there,λb xs e=>hs b _ (g.tups b xs e) (λz=>by cases z),λb ob u e=>(aB (a:=a) (b:=b) (λz=>hn ob u (by rw[<- z];exact e))).trans (g.Ge b ob u e),λb ps e=>?_⟩,C,t,k _ A,λx c e=>k _ (B x c e),λp hp=>?_,λb u q=>?_,l⟩
 ·obtain⟨j,q⟩:=g.GP b ps e;exact⟨j,hs b _ q (λz=>by cases z)⟩
 ·obtain⟨K,D,E⟩:=r p hp;exact⟨K,k _ D,E⟩
 ·by_cases hb:b=a
  ·subst hb;rw[aq]at q;cases q;exact(i b _ h).2.stay (λc v _ z=>z) (λc z=>hs c _ z (λy=>by cases y)) λc xs z=>hs c _ z (λy=>by cases y)
  ·rw[aB hb]at q;exact(i b u q).stay (λc v _ z=>z) (λc z=>hs c _ z (λy=>by cases y)) λc xs z=>hs c _ z (λy=>by cases y)
def Zi4(H0:Hp)(e:TE):TE:=λσ H Q=>e σ H λx c=>∃a o b,c a=some (.DR o (.dK b))/\(∀d u,H0 a≠some (.DR d u))/\Q x (upd c a (.dK b))
theorem Zrk{H0:Hp}{d:TE}{σ:L2.St}{H:Hp}{Q:VK}(h:d σ H λx c=>∃a o b,c a=some (.DR o (.dK b))/\(∀e u,H0 a≠some (.DR e u))/\Q x (upd c a (.dK b))):Zi4 H0 d σ H Q:=h
theorem Zne{X:Cx}{e:Expr}{c:TE}(d:PE X e c):PE X e (Zi4 X.H₀ c):=by
 intro b s σ H Q I h;refine jf (d b s σ H _ I h) λu f ⟨x,H1,I1,r1,a,o,kvs,ha,hn,q⟩=>?_;exact⟨x,_,Zfm I1 ha hn,r1,q⟩
end G
namespace G
open PySem L2 PySem.Spec PyProof.Rows
def Zq6(K:aC)(a:TE):TT:=λσ H Q=>a σ H λx H'=>∃k,Zm0 K x H' k/\Q k H'
theorem Ztu{K:aC}{a:TE}{σ:L2.St}{H:Hp}{Q:Bool->Hp->Prop}(h:a σ H λx H'=>∃k,Zm0 K x H' k/\Q k H'):Zq6 K a σ H Q:=h
theorem Zuy{K:aC}{H:Hp}{a:Addr}{xs:List V}{P:Bool->Prop}(h:cV K H a xs)(q:P (!xs.isEmpty)):∃k,Zm0 K (.ref a) H k/\P k:=⟨_,.inl ⟨xs,h,rfl⟩,q⟩
theorem Zky{i:Nat}{c x:Int}{f:Int->Int->Int}{n:L2.St->Hp->Prop}{r:VK}{b ct:L2.St->Hp->Prop}{σ:L2.St}{H:Hp}(e:σ[i]? =some (some (.int x)))(h:n (σ.set i (some (.int (f x c)))) H):Zq8 i (tC (.int c)) (ipI f) ⟨n,r,b,ct⟩ σ H:=⟨_,e,x,c,rfl,rfl,h⟩
def Zlw(K:aC):List V->Hp->VK->Prop:=λxs H Q=>∃p a,xs=[.ref p]/\(cV K H p a\/je K H p a)/\∀l,H l=none->Q (.ref l) (upd H l (.lst a))
theorem Zod{K:aC}{H:Hp}{Q:VK}{p:Addr}{a:List V}(h1:je K H p a)(h:∀l,H l=none->Q (.ref l) (upd H l (.lst a))):Zlw K [.ref p] H Q:=⟨p,a,rfl,.inr h1,h⟩
section
variable {X:Cx}
end
end G
namespace G
open PySem L2
theorem Zra{K:aC}{a:Addr}{xs:List V}{c:List Nat}{tc:TT}{o:TE}{σ:St}{H:Hp}{Q:VK}(hs:cV K H a xs)(hz:xs.length<=1000000)(R:V->Hp->Prop)(mono:∀y g f,R y g->aU g f->R y f)
  (hy:∀(i:Nat) x g,xs[i]? =some x->aU H g->∀q:Bool->Hp->Prop,(∀(b:Bool) f,aU g f->(b=true->∀t:VK,(∀y k,aU f k->R y k->t y k)->o (some x::c.map (pick σ)) f t)->q b f)->tc (some x::c.map (pick σ)) g q)
  (q:∀d H',aU H H'->d.length<=xs.length->(∀y∈d,R y H')->∀p,H' p=none->Q (.ref p) (upd H' p (.lst d))):LCg (Itl K a) c tc o σ H Q:=by
 refine⟨λi m d H'=>aU H H'/\i<=xs.length/\m=xs.length - i/\d.length<=i/\∀y∈d,R y H',⟨_,aU.refl _,Nat.zero_le _,rfl,Nat.le_refl _,λy e=>(nomatch e)⟩,?_⟩;rintro i m d g ⟨j,hi,rfl,hl,hr⟩
 by_cases hk:i=xs.length
 ·exact .inl ⟨⟨xs,j.seq hs,by omega⟩,q d g j (by omega) hr⟩
 ·have n:i<xs.length:=by omega
  refine .inr ⟨⟨xs,xs[i],j.seq hs,bL n⟩,Nat.lt_of_le_of_lt (show d.length<=1000000 by omega) (show 1000000<sizeLine by decide),λx H' y=>?_⟩;obtain⟨rfl,u⟩:=y;refine hy i x H' (u xs (j.seq hs)) j _ λb f l h=>?_;cases b with
  | false=>exact Zkk ⟨xs.length - (i+1),by omega,j.trans l,by omega,rfl,by omega,λy hy=>mono y _ _ (hr y hy) l⟩
  | true=>
   refine Za5 (h rfl _ λy k s r=>⟨xs.length - (i+1),by omega,j.trans (l.trans s),by omega,rfl,by rw[List.length_append,List.length_singleton];omega,λz hz=>?_⟩);rcases List.mem_append.mp hz with hz | hz
   ·exact mono z _ _ (hr z hz) (l.trans s)
   ·rw[List.mem_singleton.mp hz];exact r
end G
local macro_rules | `(tactic| walk_at "g2")=>`(tactic| with_reducible first | refine G.uN ?_ | refine G.Zrx ?_ | refine G.Zf4 ?_ | refine G.Zu4 ?_ | refine G.QZ ?_ | refine G.i_C ?_ | refine G.Zdi ?_ | refine G.Zvj ?_ | refine G.i_B ?_ | refine G.Zrl ?_ | refine G.Ztw ?_ | refine G.Zua ?_ | refine G.Ztx ?_ | refine G.Zps ?_ | refine G.Zs3 ?_ | refine G.Zro ?_ | refine G.Zu3 ?_ | refine G.Zub ?_ | refine G.i_U ?_ | refine G.Zu8 ?_ | refine G.Zu7 ?_ | refine G.Zu0 ?_ | refine G.Ztz ?_ | refine G.Zru ?_ | refine G.Zrt ?_ | refine G.Zrs ?_ | refine G.Zob ?_ | refine G.Zoa ?_ | refine G.Zo9 ?_ | refine G.Zku ?_ | refine G.Zkv ?_ | refine G.Zog ?_ | refine G.Zoh ?_ | refine G.Zty ?_ | refine G.Zs1 ?_ | refine G.Zu1 ?_ | refine G.Zts ?_ | refine G.Zs2 ?_ | refine G.Zvx ?_ | refine G.Zrq ?_ | refine G.Zu6 ?_ | refine G.Zrm ?_ | refine G.Zrp ?_ | refine G.Zrn ?_ | refine G.Zvl ?_ | refine G.Zvk ?_ | refine G.Zvw ?_ | refine G.Zu9 ?_ | refine G.Zu5 ?_ | refine G.Zvo ?_ | refine G.Zvn ?_ | refine G.Zvi ?_ | refine G.Zvh ?_ | refine G.Zvg ?_ | refine G.Zdh ?_ | refine G.Zvf ?_ | refine G.Zve ?_ | refine G.Zvd ?_ | refine G.Zvc ?_ | refine G.Zvb ?_ | refine G.Zva ?_ | refine G.Zvv ?_ | refine G.Zrw ?_ | refine G.Za6 ?_ | refine G.Zoi ?_ | refine G.Zvu ?_ | refine G.Zvt ?_ | refine G.Zvs ?_ | refine G.Zvr ?_ | refine G.Zvq ?_ | refine G.CQ ?_ | refine G.Zoj ?_ | refine G.Zo8 ?_ | refine G.Zok ?_ | refine G.Ztt ?_ | refine G.Zrv ?_ | refine G.Zoc ?_ | refine G.Ztv ?_ | refine G.Zs0 ?_ | refine G.Zkw ?_ | refine G.Zry ?_ | refine G.Zrr ?_ | refine G.Zrj ?_ | refine G.Zvm ?_ | refine G.Zrk ?_ | refine G.Ztu ?_ | refine G.Zvp ?_ | refine G.Zof ?_ | refine G.Zrz ?_)
local macro_rules | `(tactic| walk_at "g1")=>`(tactic| first | (with_reducible refine G.Jb ?_) | walk_at "g2")
local macro_rules | `(tactic| walk_at "ne")=>`(tactic| first | assumption | (exact Ne.symm (by assumption)) | exact L2.aD (by assumption) (by assumption) | exact Ne.symm (L2.aD (by assumption) (by assumption)) | exact Nat.ne_of_lt (by assumption))
local macro_rules | `(tactic| walk_at "hp")=>`(tactic| first | assumption | exact L2.aq | (refine Eq.trans (L2.aB ?hne) ?_;(case hne=>walk_at "ne");walk_at "hp"))
local macro_rules | `(tactic| walk_at"d")=>`(tactic| first | omega | decide | (show (_:Int)<_;decide) | exact ⟨by decide,by decide⟩ | exact ⟨by decide,by decide,by decide⟩ | (unfold L2.Rx;omega) | exact .inl (by unfold L2.Rx;omega))
local macro_rules | `(tactic| walk_at"e")=>`(tactic| repeat (first | walk_at "g1" | ((with_reducible refine G.i_I ?hc ?_);(case hc=>walk_at"d"))))
local macro_rules | `(tactic| walk_at"s")=>`(tactic| repeat (first | walk_at "g2" | ((with_reducible refine G.i_I ?hc ?_);(case hc=>walk_at"d"))))
local macro_rules | `(tactic| walk_at"c")=>`(tactic| simp only [List.map_cons,List.map_nil,G.pick,List.getElem?_cons_zero,List.getElem?_cons_succ])
namespace K30
open PySem L2 G
def mY(birth:Int)(bulk:Int)(tone:Int)(load:Int)(fa:Addr):List (Str×V):=[("birth",.int birth),("bulk",.int bulk),("tone",.int tone),("load",.int load),("fields",.ref fa)]
theorem gK{birth:Int}{bulk:Int}{tone:Int}{load:Int}{fa:Addr}:List.lookup ("birth":Str) (mY birth bulk tone load fa)=some (.int birth:V):=rfl
theorem Er{birth:Int}{bulk:Int}{tone:Int}{load:Int}{fa:Addr}:List.lookup ("bulk":Str) (mY birth bulk tone load fa)=some (.int bulk:V):=rfl
theorem TJ{birth:Int}{bulk:Int}{tone:Int}{load:Int}{fa:Addr}:List.lookup ("tone":Str) (mY birth bulk tone load fa)=some (.int tone:V):=rfl
theorem xP{birth:Int}{bulk:Int}{tone:Int}{load:Int}{fa:Addr}:List.lookup ("load":Str) (mY birth bulk tone load fa)=some (.int load:V):=rfl
theorem jr{birth:Int}{bulk:Int}{tone:Int}{load:Int}{fa:Addr}:List.lookup ("fields":Str) (mY birth bulk tone load fa)=some (.ref fa:V):=rfl
theorem Ri{birth:Int}{bulk:Int}{tone:Int}{load:Int}{fa:Addr}(y:Int):cB "tone" (.int y) (mY birth bulk tone load fa)=mY birth bulk y load fa:=rfl
theorem Rj{birth:Int}{bulk:Int}{tone:Int}{load:Int}{fa:Addr}(y:Int):cB "load" (.int y) (mY birth bulk tone load fa)=mY birth bulk tone y fa:=rfl
theorem Zlv{birth:Int}{bulk:Int}{tone:Int}{load:Int}{fa:Addr}:(cB "fields" (.ref fa) (cB "load" (.int load) (cB "tone" (.int tone) (cB "bulk" (.int bulk) (cB "birth" (.int birth) [])))))=mY birth bulk tone load fa:=rfl
theorem uU{birth:Int}{bulk:Int}{tone:Int}{load:Int}{fa:Addr}:List.lookup ("units":Str) (mY birth bulk tone load fa)=none:=rfl
theorem Gi{birth:Int}{bulk:Int}{tone:Int}{load:Int}{fa:Addr}:List.lookup ("has_field":Str) (mY birth bulk tone load fa)=none:=rfl
def j9(room:Int)(ca:Addr)(used:Int)(born:Int):List (Str×V):=[("room",.int room),("cells",.ref ca),("used",.int used),("born",.int born)]
theorem Th{room:Int}{ca:Addr}{used:Int}{born:Int}:List.lookup ("room":Str) (j9 room ca used born)=some (.int room:V):=rfl
theorem bQ{room:Int}{ca:Addr}{used:Int}{born:Int}:List.lookup ("cells":Str) (j9 room ca used born)=some (.ref ca:V):=rfl
theorem xx{room:Int}{ca:Addr}{used:Int}{born:Int}:List.lookup ("used":Str) (j9 room ca used born)=some (.int used:V):=rfl
theorem Ti{room:Int}{ca:Addr}{used:Int}{born:Int}:List.lookup ("born":Str) (j9 room ca used born)=some (.int born:V):=rfl
theorem CT{room:Int}{ca:Addr}{used:Int}{born:Int}(y:Int):cB "used" (.int y) (j9 room ca used born)=j9 room ca y born:=rfl
theorem Q3{room:Int}{ca:Addr}{used:Int}{born:Int}(y:Int):cB "born" (.int y) (j9 room ca used born)=j9 room ca used y:=rfl
theorem Zl3{room:Int}{ca:Addr}{used:Int}{born:Int}:(cB "born" (.int born) (cB "used" (.int used) (cB "cells" (.ref ca) (cB "room" (.int room) []))))=j9 room ca used born:=rfl
theorem Td{room:Int}{ca:Addr}{used:Int}{born:Int}:List.lookup ("make":Str) (j9 room ca used born)=none:=rfl
theorem XM{room:Int}{ca:Addr}{used:Int}{born:Int}:List.lookup ("lay":Str) (j9 room ca used born)=none:=rfl
theorem Tf{room:Int}{ca:Addr}{used:Int}{born:Int}:List.lookup ("back":Str) (j9 room ca used born)=none:=rfl
theorem Te{room:Int}{ca:Addr}{used:Int}{born:Int}:List.lookup ("free":Str) (j9 room ca used born)=none:=rfl
theorem CV{room:Int}{ca:Addr}{used:Int}{born:Int}:List.lookup ("there":Str) (j9 room ca used born)=none:=rfl
def QS(lk:Addr)(tl:Int):List (Str×V):=[("looking",.ref lk),("tells",.int tl)]
theorem rM{lk:Addr}{tl:Int}:List.lookup ("looking":Str) (QS lk tl)=some (.ref lk:V):=rfl
theorem CJ{lk:Addr}{tl:Int}:List.lookup ("tells":Str) (QS lk tl)=some (.int tl:V):=rfl
theorem Zkg{lk:Addr}{tl:Int}:(cB "tells" (.int tl) (cB "looking" (.ref lk) []))=QS lk tl:=rfl
def Za8(nm:Str)(sa:Addr):List (Str×V):=[("name",.str nm),("slots",.ref sa)]
theorem qF{nm:Str}{sa:Addr}:List.lookup ("slots":Str) (Za8 nm sa)=some (.ref sa:V):=rfl
theorem Zl6{nm:Str}{sa:Addr}:(cB "slots" (.ref sa) (cB "name" (.str nm) []))=Za8 nm sa:=rfl
def Ar(hp:Addr)(ki:Addr)(hl:Addr)(nm:Addr)(sw:Addr):List (Str×V):=[("heap",.ref hp),("kind",.ref ki),("hands",.ref hl),("names",.ref nm),("sweeper",.ref sw)]
theorem bA{hp:Addr}{ki:Addr}{hl:Addr}{nm:Addr}{sw:Addr}:List.lookup ("heap":Str) (Ar hp ki hl nm sw)=some (.ref hp:V):=rfl
theorem m6{hp:Addr}{ki:Addr}{hl:Addr}{nm:Addr}{sw:Addr}:List.lookup ("kind":Str) (Ar hp ki hl nm sw)=some (.ref ki:V):=rfl
theorem gZ{hp:Addr}{ki:Addr}{hl:Addr}{nm:Addr}{sw:Addr}:List.lookup ("hands":Str) (Ar hp ki hl nm sw)=some (.ref hl:V):=rfl
theorem mL{hp:Addr}{ki:Addr}{hl:Addr}{nm:Addr}{sw:Addr}:List.lookup ("names":Str) (Ar hp ki hl nm sw)=some (.ref nm:V):=rfl
theorem aZ{hp:Addr}{ki:Addr}{hl:Addr}{nm:Addr}{sw:Addr}:List.lookup ("sweeper":Str) (Ar hp ki hl nm sw)=some (.ref sw:V):=rfl
theorem Zfh{hp:Addr}{ki:Addr}{hl:Addr}{nm:Addr}{sw:Addr}:(cB "sweeper" (.ref sw) (cB "names" (.ref nm) (cB "hands" (.ref hl) (cB "kind" (.ref ki) (cB "heap" (.ref hp) [])))))=Ar hp ki hl nm sw:=rfl
def cF(se:Int)(ph:Str)(gr:Addr)(lo:Int)(b:Int)(at_:Int)(st:Int)(a:Int)(ls:Int)(c:Int)(d:V):List (Str×V):=[("sense",.int se),("phase",.str ph),("grey",.ref gr),("looked",.int lo),("turn",.int b),("at",.int at_),("stop",.int st),("walks",.int a),("looks",.int ls),("passes",.int c),("loss",d)]
theorem oX{se:Int}{ph:Str}{gr:Addr}{lo:Int}{b:Int}{at_:Int}{st:Int}{a:Int}{ls:Int}{c:Int}{d:V}:List.lookup ("sense":Str) (cF se ph gr lo b at_ st a ls c d)=some (.int se:V):=rfl
theorem ie{se:Int}{ph:Str}{gr:Addr}{lo:Int}{b:Int}{at_:Int}{st:Int}{a:Int}{ls:Int}{c:Int}{d:V}:List.lookup ("phase":Str) (cF se ph gr lo b at_ st a ls c d)=some (.str ph:V):=rfl
theorem pY{se:Int}{ph:Str}{gr:Addr}{lo:Int}{b:Int}{at_:Int}{st:Int}{a:Int}{ls:Int}{c:Int}{d:V}:List.lookup ("grey":Str) (cF se ph gr lo b at_ st a ls c d)=some (.ref gr:V):=rfl
theorem lH{se:Int}{ph:Str}{gr:Addr}{lo:Int}{b:Int}{at_:Int}{st:Int}{a:Int}{ls:Int}{c:Int}{d:V}:List.lookup ("looked":Str) (cF se ph gr lo b at_ st a ls c d)=some (.int lo:V):=rfl
theorem ux{se:Int}{ph:Str}{gr:Addr}{lo:Int}{a:Int}{at_:Int}{st:Int}{b:Int}{ls:Int}{c:Int}{d:V}:List.lookup ("turn":Str) (cF se ph gr lo a at_ st b ls c d)=some (.int a:V):=rfl
theorem GX{se:Int}{ph:Str}{gr:Addr}{lo:Int}{b:Int}{at_:Int}{st:Int}{a:Int}{ls:Int}{c:Int}{d:V}:List.lookup ("at":Str) (cF se ph gr lo b at_ st a ls c d)=some (.int at_:V):=rfl
theorem O8{se:Int}{ph:Str}{gr:Addr}{lo:Int}{b:Int}{at_:Int}{st:Int}{a:Int}{ls:Int}{c:Int}{d:V}:List.lookup ("stop":Str) (cF se ph gr lo b at_ st a ls c d)=some (.int st:V):=rfl
theorem Ac{se:Int}{ph:Str}{gr:Addr}{lo:Int}{b:Int}{at_:Int}{st:Int}{a:Int}{ls:Int}{c:Int}{d:V}:List.lookup ("walks":Str) (cF se ph gr lo b at_ st a ls c d)=some (.int a:V):=rfl
theorem Ad{se:Int}{ph:Str}{gr:Addr}{lo:Int}{b:Int}{at_:Int}{st:Int}{a:Int}{ls:Int}{c:Int}{d:V}:List.lookup ("looks":Str) (cF se ph gr lo b at_ st a ls c d)=some (.int ls:V):=rfl
theorem xZ{se:Int}{ph:Str}{gr:Addr}{lo:Int}{c:Int}{at_:Int}{st:Int}{b:Int}{ls:Int}{a:Int}{d:V}:List.lookup ("passes":Str) (cF se ph gr lo c at_ st b ls a d)=some (.int a:V):=rfl
theorem O9{se:Int}{ph:Str}{gr:Addr}{lo:Int}{c:Int}{at_:Int}{st:Int}{b:Int}{ls:Int}{d:Int}{a:V}:List.lookup ("loss":Str) (cF se ph gr lo c at_ st b ls d a)=some (a:V):=rfl
theorem JD{se:Int}{ph:Str}{gr:Addr}{lo:Int}{b:Int}{at_:Int}{st:Int}{a:Int}{ls:Int}{c:Int}{d:V}(y:Int):cB "sense" (.int y) (cF se ph gr lo b at_ st a ls c d)=cF y ph gr lo b at_ st a ls c d:=rfl
theorem nR{se:Int}{ph:Str}{gr:Addr}{lo:Int}{b:Int}{at_:Int}{st:Int}{a:Int}{ls:Int}{c:Int}{d:V}(y:Str):cB "phase" (.str y) (cF se ph gr lo b at_ st a ls c d)=cF se y gr lo b at_ st a ls c d:=rfl
theorem Nk{se:Int}{ph:Str}{gr:Addr}{lo:Int}{b:Int}{at_:Int}{st:Int}{a:Int}{ls:Int}{c:Int}{d:V}(y:Addr):cB "grey" (.ref y) (cF se ph gr lo b at_ st a ls c d)=cF se ph y lo b at_ st a ls c d:=rfl
theorem vo{se:Int}{ph:Str}{gr:Addr}{lo:Int}{b:Int}{at_:Int}{st:Int}{a:Int}{ls:Int}{c:Int}{d:V}(y:Int):cB "looked" (.int y) (cF se ph gr lo b at_ st a ls c d)=cF se ph gr y b at_ st a ls c d:=rfl
theorem Nh{se:Int}{ph:Str}{gr:Addr}{lo:Int}{d:Int}{at_:Int}{st:Int}{a:Int}{ls:Int}{b:Int}{c:V}(y:Int):cB "turn" (.int y) (cF se ph gr lo d at_ st a ls b c)=cF se ph gr lo y at_ st a ls b c:=rfl
theorem Ec{se:Int}{ph:Str}{gr:Addr}{lo:Int}{b:Int}{at_:Int}{st:Int}{a:Int}{ls:Int}{c:Int}{d:V}(y:Int):cB "at" (.int y) (cF se ph gr lo b at_ st a ls c d)=cF se ph gr lo b y st a ls c d:=rfl
theorem Ni{se:Int}{ph:Str}{gr:Addr}{lo:Int}{b:Int}{at_:Int}{st:Int}{a:Int}{ls:Int}{c:Int}{d:V}(y:Int):cB "stop" (.int y) (cF se ph gr lo b at_ st a ls c d)=cF se ph gr lo b at_ y a ls c d:=rfl
theorem xX{se:Int}{ph:Str}{gr:Addr}{lo:Int}{a:Int}{at_:Int}{st:Int}{d:Int}{ls:Int}{b:Int}{c:V}(y:Int):cB "walks" (.int y) (cF se ph gr lo a at_ st d ls b c)=cF se ph gr lo a at_ st y ls b c:=rfl
theorem xY{se:Int}{ph:Str}{gr:Addr}{lo:Int}{b:Int}{at_:Int}{st:Int}{a:Int}{ls:Int}{c:Int}{d:V}(y:Int):cB "looks" (.int y) (cF se ph gr lo b at_ st a ls c d)=cF se ph gr lo b at_ st a y c d:=rfl
theorem vm{se:Int}{ph:Str}{gr:Addr}{lo:Int}{b:Int}{at_:Int}{st:Int}{a:Int}{ls:Int}{d:Int}{c:V}(y:Int):cB "passes" (.int y) (cF se ph gr lo b at_ st a ls d c)=cF se ph gr lo b at_ st a ls y c:=rfl
theorem Nj{se:Int}{ph:Str}{gr:Addr}{lo:Int}{b:Int}{at_:Int}{st:Int}{a:Int}{ls:Int}{c:Int}{d:V}(y:V):cB "loss" (y) (cF se ph gr lo b at_ st a ls c d)=cF se ph gr lo b at_ st a ls c y:=rfl
theorem Zfn{se:Int}{ph:Str}{gr:Addr}{lo:Int}{b:Int}{at_:Int}{st:Int}{a:Int}{ls:Int}{c:Int}{d:V}:(cB "loss" (d) (cB "passes" (.int c) (cB "looks" (.int ls) (cB "walks" (.int a) (cB "stop" (.int st) (cB "at" (.int at_) (cB "turn" (.int b) (cB "looked" (.int lo) (cB "grey" (.ref gr) (cB "phase" (.str ph) (cB "sense" (.int se) [])))))))))))=cF se ph gr lo b at_ st a ls c d:=rfl
def rB(K:aC):TS:=
 (aN (gY K (ak 0) (ak 1) "birth")
   (aN (gY K (ak 0) (ak 3) "bulk")
   (aN (gY K (ak 0) (ak 4) "tone")
   (aN (gY K (ak 0) (tC (.int 0)) "load")
   (gY K (ak 0) (bF (Zt) (iy (aj (tC .non) aG)) (ak 2)) "fields")))))
def wY(K:aC):TS:=
 (bN (bF (oY λi j=>.int (i+j)) (bF (oY λi j=>.int (i+j)) (tC (.int 1)) (Jy (G.oA K) (aj (bC K (ak 0) "fields") aG))) (bC K (ak 0) "bulk")))
def qj(K:aC):TS:=
 (bN (Zbg (oY λi j=>.bl (decide (i<=j))) (oY λi j=>.bl (decide (i<j))) (tC (.int 0)) (ak 1) (Jy (G.oA K) (aj (bC K (ak 0) "fields") aG))))
def rz(K:aC):TS:=
 (aN (gY K (ak 0) (ak 1) "room")
   (aN (gY K (ak 0) (iy aG) "cells")
   (aN (gY K (ak 0) (tC (.int 0)) "used")
   (gY K (ak 0) (tC (.int 0)) "born"))))
def zz(K:aC)(a f b:Addr)(g c e d:Sp)(E:XK):TS:=
 (aN (bD (Ab a g [] E0 (aj (bF (oY λi j=>.int (i+j)) (bC K (ak 0) "born") (tC (.int 1))) (aj (ak 1) (aj (ak 2) (aj (ak 3) aG))))) (aM 4))
   (aN (fG (cj (bF (oY λi j=>.bl (decide (j<i))) (nj a "units" c [] E0 (ak 4) aG) (nj b "free" e [] E0 (ak 0) aG))) (G.Jz f E (aj (tC (.str "the room does not suffice")) aG)) cR)
   (aN (gY K (ak 0) (bC K (ak 4) "birth") "born")
   (aN (gY K (ak 0) (bF (oY λi j=>.int (i+j)) (bC K (ak 0) "used") (nj a "units" c [] E0 (ak 4) aG)) "used")
   (bN (nj b "lay" d [] E0 (ak 0) (aj (ak 4) aG)))))))
def BL(K:aC):TS:=
 (aN (fG (cj (bF (G.Zqi K true) (tC .non) (bC K (ak 0) "cells"))) (aN (vh (tBM K "list" zE (bC K (ak 0) "cells") (aj (ak 1) aG)))
   (bN (bF (oY λi j=>.int (i - j)) (Jy (G.oA K) (aj (bC K (ak 0) "cells") aG)) (tC (.int 1))))) cR)
   (aN (bD (tBM K "list" (G.Zeq K) (bC K (ak 0) "cells") (aj (tC .non) aG)) (aM 2))
   (aN (bD (ak 1) (Q5 (bC K (ak 0) "cells") (ak 2) Ed))
   (bN (ak 2)))))
def zB(K:aC)(a:Addr)(b:Sp):TS:=
 (aN (bD (bF (nD K) (bC K (ak 0) "cells") (ak 1)) (aM 2))
   (aN (gY K (ak 0) (bF (oY λi j=>.int (i - j)) (bC K (ak 0) "used") (nj a "units" b [] E0 (ak 2) aG)) "used")
   (aN (bD (tC .non) (Q5 (bC K (ak 0) "cells") (ak 1) Ed))
   (bN (bC K (ak 2) "birth")))))
def zA(K:aC):TS:=
 (bN (bF (oY λi j=>.int (i - j)) (bC K (ak 0) "room") (bC K (ak 0) "used")))
def wX(K:aC):TS:=
 (bN (G.tLC (En (aj (Jy (G.oA K) (aj (bC K (ak 0) "cells") aG)) aG)) [0] (cj (bF (G.yc) (bF (nD K) (bC K (ak 1) "cells") (ak 0)) (tC .non))) (ak 0)))
def FJ(K:aC):TS:=
 (aN (fG ((tOr (cj (bF (G.Nz) (ak 1) (tC .non))) (tOr (cj (bF (oY λi j=>.bl (decide (i<j))) (ak 1) (tC (.int 0)))) (cj (bF (oY λi j=>.bl (decide (j<=i))) (ak 1) (Jy (G.oA K) (aj (bC K (ak 0) "cells") aG))))))) (bN (tC .non)) cR)
   (bN (bF (nD K) (bC K (ak 0) "cells") (ak 1))))
def BK(K:aC)(a:Sp):TS:=
 (aN (bD (aW a [] E0 (aj (ak 0) (aj (ak 1) aG))) (aM 2))
   (aN (fG (cj (bF (G.Nz) (ak 2) (tC .non))) (bN (tC .non)) cR)
   (bN (bC K (ak 2) "birth"))))
def yQ(K:aC)(a:Sp):TS:=
 (aN (bD (iy aG) (aM 2))
   (aN (wz (G.Za7 K (aj (ak 1) aG)) (Zla K 2 (Jc (aM 3) (Jc (aM 4) Zlb)))
   (vh (tBM K "list" N8 (ak 2) (aj (aW a [] E0 (aj (ak 0) (aj (ak 4) (aj (gn (aj (ak 3) aG)) aG)))) aG))))
   (aN (bD (JC) (aM 5))
   (aN (bD (tC (.int 0)) (aM 6))
   (aN (Zbe (cj (bF (oY λi j=>.bl (decide (i<j))) (ak 6) (Jy (G.oA K) (aj (ak 2) aG)))) (aN (bD (bF (fD K) (bF (nD K) (ak 2) (ak 6)) (tC (.int 0))) (aM 7))
   (aN (bD (bF (fD K) (bF (nD K) (ak 2) (ak 6)) (tC (.int 1))) (aM 8))
   (aN (bD (bF (oY λi j=>.int (i+j)) (ak 6) (tC (.int 1))) (aM 6))
   (fG (tB (G.Zi8 true (ak 7) (ak 5))) (aN (Ms (ak 5) (ak 7) (ak 8))
   (vh (tBM K "list" N8 (ak 2) (aj (aW a [] E0 (aj (ak 0) (aj (bC K (bF (nD K) (bC K (ak 0) "cells") (ak 7)) "fields") (aj (ak 8) aG)))) aG)))) cR)))))
   (bN (Jy (G.Zee) (aj (G.Zbf (ak 5)) aG))))))))
def Dl(K:aC)(a:Sp):TS:=
 (bN (G.Zi7 K (G.Za7 K (aj (ak 1) aG)) [0,2] (cj (bF (G.yc) (aW a [] E0 (aj (ak 2) (aj (ak 1) aG))) (tC .non))) (gn (aj (ak 1) (aj (bF (Zpn K) (ak 3) (gn (aj (ak 0) aG))) aG)))))
def rA(K:aC):TS:=
 (aN (gY K (ak 0) (ak 1) "name")
   (gY K (ak 0) (bF (Zt) (iy (aj (tC .non) aG)) (ak 2)) "slots"))
def oG(K:aC):TS:=
 (aN (gY K (ak 0) (tC (.int 0)) "sense")
   (aN (gY K (ak 0) (tC (.str "rest")) "phase")
   (aN (gY K (ak 0) (iy aG) "grey")
   (aN (gY K (ak 0) (tC (.int 0)) "looked")
   (aN (gY K (ak 0) (tC (.int 0)) "turn")
   (aN (gY K (ak 0) (tC (.int 0)) "at")
   (aN (gY K (ak 0) (tC (.int 0)) "stop")
   (aN (gY K (ak 0) (tC (.int 0)) "walks")
   (aN (gY K (ak 0) (tC (.int 0)) "looks")
   (aN (gY K (ak 0) (tC (.int 0)) "passes")
   (gY K (ak 0) (tC .non) "loss")))))))))))
def qe(K:aC)(d a e:Addr)(b c f:Sp):TS:=
 (aN (gY K (ak 0) (Ab a c [] E0 (aj (ak 1) aG)) "heap")
   (aN (gY K (ak 0) (ak 2) "kind")
   (aN (gY K (ak 0) (G.Zi7 K (nZ K (ak 3)) [] G.xW (Ab d b [] E0 (aj (ak 0) (aj (ak 1) aG)))) "hands")
   (aN (gY K (ak 0) (JC) "names")
   (gY K (ak 0) (Ab e f [] E0 aG) "sweeper")))))
def WW(K:aC):TS:=
 (bN (G.tLC (nZ K (bC K (ak 0) "hands")) [] G.xW (Jy (G.Rm K) (aj (bC K (ak 0) "slots") aG))))
def uI(K:aC)(a:Sp):TS:=
 (bN (G.tLC (nZ K (bC K (ak 0) "hands")) [0] G.xW (aW a [] E0 (aj (bC K (ak 1) "heap") (aj (bC K (ak 0) "slots") aG)))))
def yV(K:aC)(a:Sp):TS:=
 (bN (G.tLC (nZ K (ak 1)) [0] G.xW (aW a [] E0 (aj (ak 1) (aj (ak 0) aG)))))
def yR(K:aC):TS:=
 (bN (bF (yw) (bF (oY λi j=>.int (Builtin.bitAnd i j)) (bF (rI (λ_ j=>0<=j) λi j=>.int (i / 2 ^ j.toNat)) (bC K (bC K (ak 0) "sweeper") "looked") (ak 1)) (tC (.int 1))) (tC (.int 1))))
def yS(K:aC):TS:=
 (bN (bF (yw) (bC K (ak 1) "tone") (bC K (bC K (ak 0) "sweeper") "sense")))
def wO(K:aC):TS:=
 (bN (bF (rIn K false) (bC K (bC K (ak 0) "sweeper") "phase") (gn (aj (tC (.str "walk")) (aj (tC (.str "lost")) aG)))))
def Fl(K:aC)(a:Sp):TS:=
 (aN (bD (bC K (ak 0) "sweeper") (aM 2))
   (aN (bD (aW a [] E0 (aj (ak 0) (aj (bF (nD K) (bC K (bC K (ak 0) "heap") "cells") (ak 1)) aG))) (aM 3))
   (aN (fG (cj (bF (yw) (bC K (ak 2) "phase") (tC (.str "rest")))) (bN (tC (.str "kept"))) cR)
   (aN (fG (cj (bF (yw) (bC K (ak 2) "phase") (tC (.str "give")))) (bN (tIf (tB (ak 3)) (tC (.str "kept")) (tC (.str "doomed")))) cR)
   (aN (fG (VM (tB (ak 3))) (bN (tC (.str "pale"))) cR)
   (bN (tIf (cj (bF (rIn K false) (ak 1) (bC K (ak 2) "grey"))) (tC (.str "grey")) (tC (.str "dark")))))))))
def wK(K:aC)(c:Addr)(b a:Sp):TS:=
 (bN (G.tLC (nZ K (nj c "there" b [] E0 (bC K (ak 0) "heap") aG)) [0] G.xW (aW a [] E0 (aj (ak 1) (aj (ak 0) aG)))))
def yP(K:aC)(b a:Sp):TS:=
 (aN (bD (bF (nD K) (bC K (bC K (ak 0) "heap") "cells") (ak 1)) (aM 2))
   (aN (bD (aW b [] E0 (aj (bC K (ak 0) "heap") (aj (bC K (ak 2) "fields") aG))) (aM 3))
   (bN (gn (aj (ak 1) (aj (bC K (ak 2) "birth") (aj (bC K (ak 2) "bulk") (aj (bC K (ak 2) "load") (aj (ak 3) (aj (aW a [] E0 (aj (ak 0) (aj (ak 1) aG))) aG))))))))))
def PX(K:aC)(d c:Addr)(a b:Sp):TS:=
 (aN (bD (bC K (ak 0) "sweeper") (aM 1))
   (aN (gY K (ak 1) (bF (oY λi j=>.int (i - j)) (tC (.int 1)) (bC K (ak 1) "sense")) "sense")
   (aN (gY K (ak 1) (bF (oY λi j=>.int (i+j)) (bC K (ak 1) "turn") (tC (.int 1))) "turn")
   (aN (gY K (ak 1) (tC (.str "walk")) "phase")
   (aN (gY K (ak 1) (iy aG) "grey")
   (aN (gY K (ak 1) (G.Za (nj c "at_begin" a [] E0 (bC K (bC K (ak 0) "kind") "looking") (aj (Jy (G.oA K) (aj (bC K (ak 0) "hands") aG)) aG)) (nj d "at_begin" b [] E0 (bC K (bC K (ak 0) "kind") "looking") (aj (Jy (G.oA K) (aj (bC K (ak 0) "hands") aG)) aG))) "looked")
   (aN (gY K (ak 1) (tC (.int 0)) "walks")
   (aN (gY K (ak 1) (tC (.int 0)) "looks")
   (gY K (ak 1) (tC (.int 0)) "passes")))))))))
def WR(K:aC)(a b:Sp):TS:=
 (aN (bD (bC K (ak 0) "sweeper") (aM 2))
   (aN (bD (aW a [] E0 (aj (bC K (ak 0) "heap") (aj (ak 1) aG))) (aM 3))
   (aN (fG ((tOr (cj (bF (rNe) (bC K (ak 2) "phase") (tC (.str "walk")))) (tOr (cj (bF (G.Nz) (ak 3) (tC .non))) (tB (aW b [] E0 (aj (ak 0) (aj (ak 3) aG))))))) (bN (tC .non)) cR)
   (aN (gY K (ak 3) (bC K (ak 2) "sense") "tone")
   (aN (vh (tBM K "list" zE (bC K (ak 2) "grey") (aj (ak 1) aG)))
   (bN (bC K (ak 3) "birth")))))))
def Bx(K:aC)(a:Sp):TS:=
 (aN (bD (iy aG) (aM 2))
   (aN (wz (nZ K (ak 1)) (aM 3)
   (aN (bD (aW a [] E0 (aj (ak 0) (aj (ak 3) aG))) (aM 4))
   (fG (cj (bF (G.yc) (ak 4) (tC .non))) (vh (tBM K "list" zE (ak 2) (aj (ak 4) aG))) cR)))
   (bN (ak 2))))
def WX(K:aC)(a b:Sp):TS:=
 (aN (bD (aW a [] E0 (aj (bC K (ak 0) "heap") (aj (ak 1) aG))) (aM 3))
   (aN (fG ((tOr (cj (bF (G.Nz) (ak 3) (tC .non))) (cj (bF (rNe) (bC K (ak 3) "birth") (ak 2))))) (bN (tC (.bl true))) cR)
   (bN ((Zem (bF (yw) (bC K (bC K (ak 0) "sweeper") "phase") (tC (.str "give"))) (Zi6 (aW b [] E0 (aj (ak 0) (aj (ak 3) aG)))))))))
def PN(K:aC)(a b:Sp)(H0:Hp):TS:=
 (bN (bF (vd) (aW a [] E0 (aj (ak 0) aG)) (iy (aj (G.Zi4 H0 (G.Zi7 K (G.Zkz (G.Zi3 (bC K (ak 0) "names"))) [0] G.xW (aW b [] E0 (aj (ak 2) (aj (ak 0) (aj (ak 1) aG)))))) aG))))
def Fj(K:aC)(a b c:Sp):TS:=
 (aN (fG (tB (aW a [] E0 (aj (ak 0) (aj (ak 1) (aj (ak 2) aG))))) (bN (tC .non)) cR)
   (aN (fG ((Ng (tB (aW c [] E0 (aj (ak 0) aG))) (VM (tB (aW b [] E0 (aj (ak 0) (aj (bF (nD K) (bC K (bC K (ak 0) "heap") "cells") (ak 1)) aG))))))) (bN (tC .non)) cR)
   (bN (ak 1))))
def wN(K:aC)(a:Sp):TS:=
 (aN (bD (iy aG) (aM 2))
   (aN (wz (G.Za7 K (aj (bC K (ak 0) "hands") aG)) (Zla K 2 (Jc (aM 3) (Jc (aM 4) Zlb)))
   (fG (cj (bF (yw) (bF (oY λi j=>.int (Builtin.bitAnd i j)) (bF (rI (λ_ j=>0<=j) λi j=>.int (i / 2 ^ j.toNat)) (ak 1) (ak 3)) (tC (.int 1))) (tC (.int 1)))) (vh (tBM K "list" N8 (ak 2) (aj (aW a [] E0 (aj (ak 0) (aj (bC K (ak 4) "slots") aG))) aG))) cR))
   (bN (ak 2))))
def tL(K:aC)(a b:Sp):TS:=
 (aN (vh (aW a [] E0 (aj (ak 0) aG)))
   (aN (bD (aW b [] E0 (aj (ak 0) (aj (bC K (bC K (ak 0) "sweeper") "looked") aG))) (aM 1))
   (bN (gn (aj (tC (.str "begin")) (aj (bC K (bC K (ak 0) "sweeper") "turn") (aj (ak 1) aG)))))))
def tH(K:aC)(b a:Sp):TS:=
 (aN (fG (G.Zq6 K (bC K (bC K (ak 0) "sweeper") "grey")) (bN (aW a [] E0 (aj (ak 0) aG))) cR)
   (bN (aW b [] E0 (aj (ak 0) aG))))
def WM(K:aC)(a:Sp):TS:=
 (aN (bD (bC K (ak 0) "sweeper") (aM 1))
   (aN (bD (bF (nD K) (bC K (bC K (ak 0) "heap") "cells") (tBM K "list" Zil (bC K (ak 1) "grey") (aj (tC (.int 0)) aG))) (aM 2))
   (aN (gY K (ak 1) (bF (oY λi j=>.int (i+j)) (bC K (ak 1) "walks") (tC (.int 1))) "walks")
   (bN (gn (aj (tC (.str "walk")) (aj (bC K (ak 2) "birth") (aj (aW a [] E0 (aj (ak 0) (aj (bC K (ak 2) "fields") aG))) aG))))))))
def oF(K:aC)(d c:Addr)(a b e:Sp):TS:=
 (aN (bD (aW e [] E0 (aj (ak 0) (aj (ak 3) aG))) (aM 4))
   (aN (fG ((tOr (cj (bF (yw) (ak 3) (tC (.int 0)))) (VM ((tOr (tB (G.Za (nj c "stays" a [] E0 (ak 2) aG) (nj d "stays" a [] E0 (ak 2) aG))) (G.Zq6 K (ak 4))))))) (bN (aW b [] E0 (aj (ak 0) aG))) cR)
   (aN (gY K (ak 1) (bF (oY λi j=>.int (i+j)) (bC K (ak 1) "looks") (tC (.int 1))) "looks")
   (aN (fG (tB (G.Za (nj c "stays" a [] E0 (ak 2) aG) (nj d "stays" a [] E0 (ak 2) aG))) (gY K (ak 1) (bF (oY λi j=>.int (Builtin.bitOr i j)) (bC K (ak 1) "looked") (ak 3)) "looked") cR)
   (bN (gn (aj (tC (.str "look")) (aj (ak 3) (aj (ak 4) aG)))))))))
def uH(K:aC)(c b:Addr)(g e f a d:Sp):TS:=
 (aN (bD (bC K (ak 0) "sweeper") (aM 1))
   (aN (bD (bC K (bC K (ak 0) "kind") "looking") (aM 2))
   (aN (bD (G.Za (nj b "next_look" e [] E0 (ak 2) (aj (bC K (ak 1) "looked") (aj (Jy (G.oA K) (aj (bC K (ak 0) "hands") aG)) aG))) (nj c "next_look" g [] E0 (ak 2) (aj (bC K (ak 1) "looked") (aj (Jy (G.oA K) (aj (bC K (ak 0) "hands") aG)) aG)))) (aM 3))
   (oF K c b f a d))))
def Zch(K:aC)(b c d a:Sp):TS:=
 (aN (bD (bC K (ak 0) "sweeper") (aM 1))
   (aN (gY K (ak 1) (Jy (G.oA K) (aj (bC K (bC K (ak 0) "heap") "cells") aG)) "stop")
   (aN (gY K (ak 1) (tC (.int 0)) "at")
   (aN (bD (aW c [] E0 (aj (ak 0) aG)) (aM 2))
   (aN (fG (cj (bF (G.yc) (ak 2) (tC .non))) (aN (gY K (ak 1) (tC (.str "lost")) "phase")
   (aN (gY K (ak 1) (ak 2) "loss")
   (bN (aW a [] E0 (aj (ak 2) aG))))) cR)
   (aN (gY K (ak 1) (tC (.str "give")) "phase")
   (aN (bD (aW b [] E0 (aj (bC K (ak 0) "heap") (aj (aW d [] E0 (aj (ak 0) aG)) aG))) (aM 3))
   (bN (gn (aj (tC (.str "cut")) (aj (Jy (G.oA K) (aj (ak 3) aG)) (aj (ak 3) aG))))))))))))
def wQ(K:aC)(c a b:Sp):TS:=
 (aN (wz (nZ K (aW a [] E0 (aj (bC K (ak 0) "heap") (aj (aW b [] E0 (aj (ak 0) aG)) aG)))) (Zla K 2 (Jc (aM 1) (Jc (aM 2) Zlb)))
   (aN (bD (bF (nD K) (bC K (bC K (ak 0) "heap") "cells") (ak 1)) (aM 3))
   (fG (VM (tB (aW c [] E0 (aj (ak 0) (aj (ak 3) aG))))) (bN (gn (aj (tC (.str "lost")) (aj (bC K (ak 3) "birth") (aj (Jy (G.Zlw K) (aj (ak 2) aG)) aG))))) cR)))
   (bN (tC .non)))
def By(K:aC)(b:Addr)(a c:Sp):TS:=
 (aN (bD (bC K (ak 0) "heap") (aM 1))
   (bN (G.tLC (nZ K (nj b "there" a [] E0 (ak 1) aG)) [0,1] (VM (tB (aW c [] E0 (aj (ak 1) (aj (bF (nD K) (bC K (ak 2) "cells") (ak 0)) aG))))) (ak 0))))
def wL(K:aC):TS:=
 (bN (gn (aj (bF (fD K) (ak 0) (tC (.int 0))) (aj (bF (fD K) (ak 0) (tC (.int 1))) (aj (Jy (G.Rm K) (aj (bF (fD K) (ak 0) (tC (.int 2))) aG)) aG)))))
def tK(K:aC)(a b:Sp):TS:=
 (aN (fG (cj (bF (oY λi j=>.bl (decide (i<j))) (bC K (bC K (ak 0) "sweeper") "at") (bC K (bC K (ak 0) "sweeper") "stop"))) (bN (aW b [] E0 (aj (ak 0) aG))) cR)
   (bN (aW a [] E0 (aj (ak 0) aG))))
def wM(K:aC)(b:Addr)(c a d:Sp):TS:=
 (aN (bD (bC K (ak 0) "sweeper") (aM 1))
   (aN (bD (bC K (ak 1) "at") (aM 2))
   (aN (gY K (ak 1) (bF (oY λi j=>.int (i+j)) (ak 2) (tC (.int 1))) "at")
   (aN (gY K (ak 1) (bF (oY λi j=>.int (i+j)) (bC K (ak 1) "passes") (tC (.int 1))) "passes")
   (aN (bD (aW a [] E0 (aj (bC K (ak 0) "heap") (aj (ak 2) aG))) (aM 3))
   (aN (fG ((tOr (cj (bF (G.Nz) (ak 3) (tC .non))) (tB (aW d [] E0 (aj (ak 0) (aj (ak 3) aG)))))) (bN (gn (aj (tC (.str "pass")) (aj (ak 2) (aj (iy aG) aG))))) cR)
   (bN (gn (aj (tC (.str "back")) (aj (nj b "back" c [] E0 (bC K (ak 0) "heap") (aj (ak 2) aG)) (aj (iy (aj (ak 2) aG)) aG)))))))))))
def Zcg(K:aC):TS:=
 (aN (bD (bC K (ak 0) "sweeper") (aM 1))
   (aN (gY K (ak 1) (tC (.str "rest")) "phase")
   (bN (gn (aj (tC (.str "end")) (aj (bC K (ak 1) "turn") (aj (iy (aj (bC K (ak 1) "walks") (aj (bC K (ak 1) "looks") (aj (bC K (ak 1) "passes") aG)))) aG)))))))
def p8(K:aC)(a:Sp):TS:=
 (bN (aW a [] E0 (aj (bC K (bC K (ak 0) "sweeper") "loss") aG)))
def WQ(K:aC)(a d b c:Addr)(f h e g:Sp):TS:=
 (aN (bD (G.Zma [("rest",a),("walk",b),("give",d),("lost",c)] (bC K (bC K (ak 0) "sweeper") "phase")) (aM 1))
   (bN (G.VN 1 [(a,f),(b,e),(d,h),(c,g)] E0 (aj (ak 0) aG))))
def J8:TS:=
 (bN (bF (oY λi j=>.int (i - j)) (bF (rI Y4 λi j=>.int (i * 2 ^ j.toNat)) (tC (.int 1)) (ak 0)) (tC (.int 1))))
def oH:TS:=
 (bN (tC (.int 0)))
def nA:TS:=
 (bN (tC (.int 0)))
def qZ:TS:=
 (bN (tC (.bl true)))
def qg(a:Sp):TS:=
 (bN (aW a [] E0 (aj (ak 1) aG)))
def qi:TS:=
 (aN (wz (En (aj (ak 2) aG)) (aM 3)
   (fG (cj (bF (yw) (bF (oY λi j=>.int (Builtin.bitAnd i j)) (bF (rI (λ_ j=>0<=j) λi j=>.int (i / 2 ^ j.toNat)) (ak 1) (ak 3)) (tC (.int 1))) (tC (.int 0)))) (bN (bF (rI Y4 λi j=>.int (i * 2 ^ j.toNat)) (tC (.int 1)) (ak 3))) cR))
   (bN (tC (.int 0))))
def q8(K:aC):TS:=
 (aN (gY K (ak 0) (ak 1) "looking")
   (gY K (ak 0) (ak 2) "tells"))
def Bw(K:aC):TS:=
 (bN (bC K (bF (nD K) (bC K (ak 0) "hands") (ak 1)) "slots"))
def Fz(K:aC)(b:Addr)(a c:Sp)(E:XK):TS:=
 (aN (bD (aW a [] E0 (aj (bC K (ak 0) "heap") (aj (bF (nD K) (aW c [] E0 (aj (ak 0) (aj (ak 1) aG))) (ak 2)) aG))) (aM 3))
   (aN (fG (cj (bF (G.Nz) (ak 3) (tC .non))) (G.Jz b E (aj (tC (.str "the slot holds no cell")) aG)) cR)
   (bN (ak 3))))
def yU(K:aC)(b d:Addr)(a c:Sp)(E:XK):TS:=
 (aN (bD (aW c [] E (aj (ak 0) (aj (ak 1) (aj (ak 2) aG)))) (aM 4))
   (aN (fG (VM (tB (nj b "has_field" a [] E0 (ak 4) (aj (ak 3) aG)))) (G.Jz d E (aj (tC (.str "the cell does not have the field")) aG)) cR)
   (bN (bC K (ak 4) "fields"))))
def uE(K:aC):TS:=
 (aN (fG (cj (bF (yw) (bF (oY λi j=>.int (Builtin.bitAnd i j)) (bC K (bC K (ak 0) "kind") "tells") (tC (.int 1))) (tC (.int 0)))) (bN (iy aG)) cR)
   (bN (iy (aj (ak 1) aG))))
def uF(K:aC)(a:Sp):TS:=
 (aN (fG ((tOr (cj (bF (yw) (bF (oY λi j=>.int (Builtin.bitAnd i j)) (bC K (bC K (ak 0) "kind") "tells") (tC (.int 2))) (tC (.int 0)))) (tB (aW a [] E0 (aj (ak 0) (aj (ak 1) aG)))))) (bN (iy aG)) cR)
   (bN (iy (aj (ak 2) aG))))
def Fv(K:aC)(a:Addr)(b c d:Sp)(E:XK):TS:=
 (aN (bD (aW d [] E0 (aj (ak 0) (aj (bF (fD K) (ak 1) (tC (.int 1))) aG))) (aM 2))
   (aN (bD (bF (fD K) (ak 1) (tC (.int 3))) (aM 3))
   (aN (bD (bF (fD K) (ak 1) (tC (.int 4))) (aM 4))
   (aN (bD (nj a "make" b [] E (bC K (ak 0) "heap") (aj (ak 3) (aj (ak 4) (aj (bC K (bC K (ak 0) "sweeper") "sense") aG)))) (aM 5))
   (aN (bD (ak 5) (Q5 (ak 2) (bF (fD K) (ak 1) (tC (.int 2))) Ed))
   (bN (gn (aj (tC (.str "made")) (aj (aW c [] E0 (aj (bC K (ak 0) "heap") (aj (ak 5) aG))) (aj (iy aG) aG))))))))))
def J7(K:aC)(a b c:Sp)(E:XK):TS:=
 (aN (bD (bF (fD K) (ak 1) (tC (.int 1))) (aM 2))
   (aN (bD (bF (fD K) (ak 1) (tC (.int 3))) (aM 3))
   (aN (bD (bF (fD K) (ak 1) (tC (.int 4))) (aM 4))
   (aN (bD (bF (nD K) (aW b [] E (aj (ak 0) (aj (ak 2) (aj (ak 3) (aj (ak 4) aG))))) (ak 4)) (aM 5))
   (aN (bD (ak 5) (Q5 (aW c [] E0 (aj (ak 0) (aj (ak 2) aG))) (bF (fD K) (ak 1) (tC (.int 2))) Ed))
   (bN (gn (aj (tC (.str "got")) (aj (aW a [] E0 (aj (bC K (ak 0) "heap") (aj (ak 5) aG))) (aj (iy aG) aG))))))))))
def J4(K:aC)(b e d f c a:Sp)(E:XK):TS:=
 (aN (bD (bF (fD K) (ak 1) (tC (.int 1))) (aM 2))
   (aN (bD (bF (fD K) (ak 1) (tC (.int 3))) (aM 3))
   (aN (bD (aW e [] E (aj (ak 0) (aj (ak 2) (aj (bF (fD K) (ak 1) (tC (.int 2))) (aj (ak 3) aG))))) (aM 4))
   (aN (bD (bF (nD K) (ak 4) (ak 3)) (aM 5))
   (aN (bD (bF (nD K) (aW f [] E0 (aj (ak 0) (aj (ak 2) aG))) (bF (fD K) (ak 1) (tC (.int 4)))) (aM 6))
   (aN (bD (ak 6) (Q5 (ak 4) (ak 3) Ed))
   (aN (bD (aW d [] E0 (aj (ak 0) (aj (bF (vd) (aW a [] E0 (aj (ak 0) (aj (ak 5) aG))) (aW c [] E0 (aj (ak 0) (aj (ak 2) (aj (ak 6) aG))))) aG))) (aM 7))
   (bN (gn (aj (tC (.str "put")) (aj (aW b [] E0 (aj (bC K (ak 0) "heap") (aj (ak 5) aG))) (aj (ak 7) aG))))))))))))
def Fy(K:aC)(a b:Sp):TS:=
 (aN (bD (aW b [] E0 (aj (ak 0) (aj (bF (fD K) (ak 1) (tC (.int 1))) aG))) (aM 2))
   (aN (bD (bF (nD K) (ak 2) (bF (fD K) (ak 1) (tC (.int 3)))) (aM 3))
   (aN (bD (ak 3) (Q5 (ak 2) (bF (fD K) (ak 1) (tC (.int 2))) Ed))
   (bN (gn (aj (tC (.str "copied")) (aj (aW a [] E0 (aj (bC K (ak 0) "heap") (aj (ak 3) aG))) (aj (iy aG) aG))))))))
def Fx(K:aC)(a b:Sp):TS:=
 (aN (bD (aW b [] E0 (aj (ak 0) (aj (bF (fD K) (ak 1) (tC (.int 1))) aG))) (aM 2))
   (aN (bD (bF (nD K) (ak 2) (bF (fD K) (ak 1) (tC (.int 2)))) (aM 3))
   (aN (bD (tC .non) (Q5 (ak 2) (bF (fD K) (ak 1) (tC (.int 2))) Ed))
   (bN (gn (aj (tC (.str "dropped")) (aj (aW a [] E0 (aj (bC K (ak 0) "heap") (aj (ak 3) aG))) (aj (iy aG) aG))))))))
def Fw(K:aC)(b d a c:Sp):TS:=
 (aN (bD (bF (fD K) (ak 1) (tC (.int 1))) (aM 2))
   (aN (bD (bF (fD K) (ak 1) (tC (.int 3))) (aM 3))
   (aN (bD (bF (nD K) (aW a [] E0 (aj (ak 0) (aj (ak 2) aG))) (bF (fD K) (ak 1) (tC (.int 2)))) (aM 4))
   (aN (bD (ak 4) (Q5 (aW a [] E0 (aj (ak 0) (aj (ak 3) aG))) (bF (fD K) (ak 1) (tC (.int 4))) Ed))
   (aN (bD (aW d [] E0 (aj (ak 0) (aj (aW c [] E0 (aj (ak 0) (aj (ak 2) (aj (ak 4) aG)))) aG))) (aM 5))
   (bN (gn (aj (tC (.str "given")) (aj (aW b [] E0 (aj (bC K (ak 0) "heap") (aj (ak 4) aG))) (aj (ak 5) aG))))))))))
def BJ(K:aC)(a:Sp)(E:XK):TS:=
 (aN (bD (aW a [] E (aj (ak 0) (aj (bF (fD K) (ak 1) (tC (.int 1))) (aj (bF (fD K) (ak 1) (tC (.int 2))) aG)))) (aM 2))
   (aN (bD (bC K (ak 2) "load") (aM 3))
   (aN (gY K (ak 2) (bF (fD K) (ak 1) (tC (.int 3))) "load")
   (bN (gn (aj (tC (.str "wrote")) (aj (ak 3) (aj (iy aG) aG))))))))
def Fq(K:aC)(a:Sp)(E:XK):TS:=
 (aN (bD (aW a [] E (aj (ak 0) (aj (bF (fD K) (ak 1) (tC (.int 1))) (aj (bF (fD K) (ak 1) (tC (.int 2))) aG)))) (aM 2))
   (bN (gn (aj (tC (.str "read")) (aj (bC K (ak 2) "load") (aj (iy aG) aG))))))
def Ft(K:aC)(a b:Sp)(E:XK):TS:=
 (aN (bD (bF (fD K) (ak 1) (tC (.int 1))) (aM 2))
   (aN (bD (bF (fD K) (ak 1) (tC (.int 2))) (aM 3))
   (aN (bD (bC K (aW a [] E (aj (ak 0) (aj (ak 2) (aj (ak 3) aG)))) "birth") (aM 4))
   (aN (Ms (bC K (ak 0) "names") (bF (fD K) (ak 1) (tC (.int 3))) (gn (aj (bF (nD K) (aW b [] E0 (aj (ak 0) (aj (ak 2) aG))) (ak 3)) (aj (ak 4) aG))))
   (bN (gn (aj (tC (.str "named")) (aj (ak 4) (aj (iy aG) aG)))))))))
def Fp(K:aC)(a b c d:Sp)(E:XK):TS:=
 (aN (bD (aW c [] E (aj (ak 0) (aj (bF (fD K) (ak 1) (tC (.int 3))) aG))) (aM 2))
   (aN (bD (ak 2) (Q5 (aW d [] E0 (aj (ak 0) (aj (bF (fD K) (ak 1) (tC (.int 1))) aG))) (bF (fD K) (ak 1) (tC (.int 2))) Ed))
   (aN (bD (aW b [] E0 (aj (ak 0) (aj (iy (aj (ak 2) aG)) aG))) (aM 3))
   (bN (gn (aj (tC (.str "sought")) (aj (aW a [] E0 (aj (bC K (ak 0) "heap") (aj (ak 2) aG))) (aj (ak 3) aG))))))))
def uG(K:aC)(b:Addr)(a:Sp)(E:XK):TS:=
 (aN (fG (tB (GQ (ak 1) (bC K (ak 0) "names"))) (G.Jz b E (aj (tC (.str "the weak name was never given")) aG)) cR)
   (aN (bD (bF (fD K) (GR (bC K (ak 0) "names") (ak 1)) (tC (.int 0))) (aM 2))
   (aN (bD (bF (fD K) (GR (bC K (ak 0) "names") (ak 1)) (tC (.int 1))) (aM 3))
   (aN (fG (tB (aW a [] E0 (aj (ak 0) (aj (ak 2) (aj (ak 3) aG))))) (bN (tC .non)) cR)
   (bN (ak 2))))))
def Zij(K:aC)(n o s j l p k r q m:Addr)(g e f c h d a i b t:Sp)(E:XK):TS:=
 (aN (bD (G.Zma [("make",l),("get",s),("put",k),("copy",n),("drop",o),("give",j),("write",m),("read",r),("name",p),("seek",q)] (bF (fD K) (ak 1) (tC (.int 0)))) (aM 2))
   (bN (G.VN 2 [(l,h),(s,f),(k,a),(n,g),(o,e),(j,c),(m,t),(r,i),(p,d),(q,b)] E (aj (ak 0) (aj (ak 1) aG)))))
def zy(K:aC):TS:=
 (aN (fG (cj (bF (oY λi j=>.bl (decide (i<j))) (ak 1) (Jy (G.oA K) (aj (ak 0) aG)))) (bN (bF (nD K) (ak 0) (ak 1))) cR)
   (bN (tC (.int 0))))
def zq:TS:=
 (bN (bF (rI (λ_ j=>0<j) λi j=>.int (i % j)) (bF (rI (λ_ j=>0<j) λi j=>.int (i % j)) (bF (rI Rx λi j=>.int (i * j)) (bF (rI (λ_ j=>0<j) λi j=>.int (i % j)) (ak 0) (ak 1)) (tC (.int 48271))) (ak 1)) (ak 2)))
def yW:TS:=
 (aN (bD (tC (.str "abcdefghijklmnopqrstuvwxyz")) (aM 2))
   (aN (bD (bF (oY λi j=>.int (i+j)) (tC (.int 1)) (bF (rI (λ_ j=>0<j) λi j=>.int (i % j)) (ak 0) (tC (.int 12)))) (aM 3))
   (aN (bD (bF (rI (λ_ j=>0<j) λi j=>.int (i % j)) (bF (rI Ug λi j=>.int (i / j)) (ak 0) (tC (.int 12))) (ak 3)) (aM 4))
   (aN (bD (bF (Zim) (ak 2) (bF (rI (λ_ j=>0<j) λi j=>.int (i % j)) (bF (rI Ug λi j=>.int (i / j)) (ak 0) (tC (.int 5))) (tC (.int 26)))) (aM 5))
   (aN (bD (bF (Zim) (ak 2) (bF (rI (λ_ j=>0<j) λi j=>.int (i % j)) (bF (oY λi j=>.int (i+j)) (bF (rI Ug λi j=>.int (i / j)) (ak 0) (tC (.int 7))) (bF (rI Rx λi j=>.int (i * j)) (tC (.int 5)) (ak 1))) (tC (.int 26)))) (aM 6))
   (bN (bF (G.Zin) (bF (G.Zin) (bF (G.Zep) (ak 5) (ak 4)) (ak 6)) (bF (G.Zep) (ak 5) (bF (oY λi j=>.int (i - j)) (bF (oY λi j=>.int (i - j)) (ak 3) (tC (.int 1))) (ak 4))))))))))
def wV(K:aC)(b a c:Sp):TS:=
 (aN (bD (aW b [] E0 (aj (ak 0) (aj (tC (.int 1)) aG))) (aM 1))
   (aN (bD (iy aG) (aM 2))
   (aN (wz (En (aj (bF (oY λi j=>.int (i+j)) (tC (.int 1)) (aW a [] E0 (aj (ak 1) (aj (tC (.int 104729)) (aj (tC (.int 5)) aG))))) aG)) (aM 3)
   (aN (bD (tC (.int 3)) (aM 4))
   (aN (fG (cj (bF (yw) (bF (rI (λ_ j=>0<j) λi j=>.int (i % j)) (ak 1) (tC (.int 3))) (tC (.int 1)))) (bD (bF (oY λi j=>.int (i+j)) (tC (.int 3)) (aW a [] E0 (aj (bF (oY λi j=>.int (i+j)) (ak 1) (bF (rI Rx λi j=>.int (i * j)) (bF (rI Rx λi j=>.int (i * j)) (tC (.int 7)) (ak 3)) (ak 3))) (aj (tC (.int 224737)) (aj (tC (.int 7)) aG))))) (aM 4)) cR)
   (vh (tBM K "list" zE (ak 2) (aj (gn (aj (aW c [] E0 (aj (ak 1) (aj (ak 3) aG))) (aj (ak 4) aG))) aG))))))
   (bN (ak 2)))))
def za(a b:Sp):TS:=
 (aN (bD (aW a [] E0 (aj (ak 0) (aj (tC (.int 2)) aG))) (aM 1))
   (aN (fG (cj (bF (yw) (aW b [] E0 (aj (ak 1) (aj (tC (.int 7919)) (aj (tC (.int 4)) aG)))) (tC (.int 1)))) (bN (bF (oY λi j=>.int (i+j)) (tC (.int 4)) (bF (rI (λ_ j=>0<j) λi j=>.int (i % j)) (bF (rI Ug λi j=>.int (i / j)) (ak 1) (tC (.int 4))) (tC (.int 60))))) cR)
   (bN (bF (oY λi j=>.int (i - j)) (bF (rI Y4 λi j=>.int (i ^ j.toNat)) (tC (.int 10)) (tC (.int 15))) (bF (rI (λ_ j=>0<j) λi j=>.int (i % j)) (ak 1) (bF (rI Y4 λi j=>.int (i ^ j.toNat)) (tC (.int 10)) (tC (.int 12))))))))
def zm(d c b:Addr)(a:Sp):TS:=
 (aN (fG (cj (bF (yw) (bF (rI (λ_ j=>0<j) λi j=>.int (i % j)) (ak 0) (tC (.int 4))) (tC (.int 0)))) (bN (Ab b a [] E0 (aj (G.JB c) (aj (tC (.int 1)) aG)))) cR)
   (aN (fG (cj (bF (yw) (bF (rI (λ_ j=>0<j) λi j=>.int (i % j)) (ak 0) (tC (.int 4))) (tC (.int 1)))) (bN (Ab b a [] E0 (aj (G.JB c) (aj (tC (.int 3)) aG)))) cR)
   (bN (Ab b a [] E0 (aj (G.JB d) (aj (tC (.int 3)) aG))))))
def zb(K:aC)(a:Sp):TS:=
 (aN (bD (bF (nD K) (iy (aj (tC (.int 1)) (aj (tC (.int 2)) (aj (tC (.int 2)) (aj (tC (.int 3)) (aj (tC (.int 0)) (aj (tC (.int 8)) aG))))))) (aW a [] E0 (aj (ak 0) (aj (tC (.int 611953)) (aj (tC (.int 6)) aG))))) (aM 3))
   (aN (bD (tC (.int 0)) (aM 4))
   (aN (fG (cj (bF (yw) (bF (rI (λ_ j=>0<j) λi j=>.int (i % j)) (ak 0) (tC (.int 3))) (tC (.int 1)))) (bD (bF (rI (λ_ j=>0<j) λi j=>.int (i % j)) (ak 0) (tC (.int 7))) (aM 4)) cR)
   (aN (fG (cj (bF (yw) (bF (rI (λ_ j=>0<j) λi j=>.int (i % j)) (ak 0) (tC (.int 3))) (tC (.int 2)))) (bD (bF (rI (λ_ j=>0<j) λi j=>.int (i % j)) (ak 0) (bF (oY λi j=>.int (i+j)) (bF (rI Y4 λi j=>.int (i ^ j.toNat)) (tC (.int 10)) (tC (.int 12))) (tC (.int 1)))) (aM 4)) cR)
   (bN (gn (aj (tC (.str "make")) (aj (ak 1) (aj (ak 2) (aj (ak 3) (aj (ak 4) aG)))))))))))
def zj:TS:=
 (aN (bD (bF (rI (λ_ j=>0<j) λi j=>.int (i % j)) (ak 0) (bF (rI Y4 λi j=>.int (i ^ j.toNat)) (tC (.int 10)) (tC (.int 60)))) (aM 1))
   (aN (fG (cj (bF (yw) (bF (rI (λ_ j=>0<j) λi j=>.int (i % j)) (bF (rI Ug λi j=>.int (i / j)) (ak 0) (tC (.int 7))) (tC (.int 2))) (tC (.int 1)))) (bN (tUn (rU λi=>.int (-i)) (ak 1))) cR)
   (bN (ak 1))))
def zx(K:aC)(a b d c:Sp):TS:=
 (aN (bD (aW a [] E0 (aj (ak 0) (aj (tC (.int 104729)) (aj (Jy (G.oA K) (aj (ak 1) aG)) aG)))) (aM 3))
   (aN (bD (aW a [] E0 (aj (ak 0) (aj (tC (.int 224737)) (aj (bF (fD K) (bF (nD K) (ak 1) (ak 3)) (tC (.int 1))) aG)))) (aM 4))
   (aN (bD (aW a [] E0 (aj (ak 0) (aj (tC (.int 350377)) (aj (bF (fD K) (bF (nD K) (ak 1) (ak 3)) (tC (.int 1))) aG)))) (aM 5))
   (aN (bD (aW a [] E0 (aj (ak 0) (aj (tC (.int 479909)) (aj (bF (nD K) (iy (aj (tC (.int 3)) (aj (tC (.int 8)) aG))) (bF (rI Ug λi j=>.int (i / j)) (bF (rI (λ_ j=>0<j) λi j=>.int (i % j)) (ak 0) (tC (.int 5))) (tC (.int 4)))) aG)))) (aM 6))
   (aN (bD (aW a [] E0 (aj (ak 0) (aj (tC (.int 7919)) (aj (tC (.int 20)) aG)))) (aM 7))
   (aN (fG (cj (bF (oY λi j=>.bl (decide (i<j))) (ak 7) (tC (.int 5)))) (bN (aW d [] E0 (aj (ak 0) (aj (ak 3) (aj (ak 4) aG))))) cR)
   (aN (fG (cj (bF (oY λi j=>.bl (decide (i<j))) (ak 7) (tC (.int 8)))) (bN (gn (aj (tC (.str "get")) (aj (ak 3) (aj (ak 4) (aj (ak 5) (aj (ak 6) aG))))))) cR)
   (aN (fG (cj (bF (oY λi j=>.bl (decide (i<j))) (ak 7) (tC (.int 11)))) (bN (gn (aj (tC (.str "put")) (aj (ak 3) (aj (ak 5) (aj (ak 6) (aj (ak 4) aG))))))) cR)
   (aN (fG (cj (bF (yw) (ak 7) (tC (.int 11)))) (bN (gn (aj (tC (.str "copy")) (aj (ak 3) (aj (ak 4) (aj (ak 5) aG)))))) cR)
   (aN (fG (cj (bF (yw) (ak 7) (tC (.int 12)))) (bN (gn (aj (tC (.str "drop")) (aj (ak 3) (aj (ak 4) aG))))) cR)
   (aN (fG (cj (bF (oY λi j=>.bl (decide (i<j))) (ak 7) (tC (.int 15)))) (aN (bD (aW a [] E0 (aj (ak 0) (aj (tC (.int 746773)) (aj (Jy (G.oA K) (aj (ak 1) aG)) aG)))) (aM 8))
   (bN (gn (aj (tC (.str "give")) (aj (ak 3) (aj (ak 4) (aj (ak 8) (aj (aW a [] E0 (aj (ak 0) (aj (tC (.int 882377)) (aj (bF (fD K) (bF (nD K) (ak 1) (ak 8)) (tC (.int 1))) aG)))) aG)))))))) cR)
   (aN (fG (cj (bF (yw) (ak 7) (tC (.int 15)))) (bN (gn (aj (tC (.str "write")) (aj (ak 3) (aj (ak 5) (aj (aW b [] E0 (aj (ak 0) aG)) aG)))))) cR)
   (aN (bD (aW c [] E0 (aj (ak 2) (aj (aW a [] E0 (aj (ak 0) (aj (tC (.int 1299709)) (aj (tC (.int 2)) aG)))) aG))) (aM 9))
   (aN (fG (cj (bF (oY λi j=>.bl (decide (i<j))) (ak 7) (tC (.int 18)))) (bN (gn (aj (tC (.str "name")) (aj (ak 3) (aj (ak 5) (aj (ak 9) aG)))))) cR)
   (bN (gn (aj (tC (.str "seek")) (aj (ak 3) (aj (ak 4) (aj (ak 9) aG))))))))))))))))))))
def wW(K:aC)(a b:Sp):TS:=
 (aN (bD (aW a [] E0 (aj (ak 0) (aj (ak 1) (aj (ak 2) aG)))) (aM 3))
   (aN (fG ((Ng (cj (bF (yw) (bF (fD K) (ak 3) (tC (.int 0))) (tC (.str "put")))) (cj (bF (yw) (bF (rI (λ_ j=>0<j) λi j=>.int (i % j)) (bF (rI Ug λi j=>.int (i / j)) (ak 0) (tC (.int 5))) (tC (.int 2))) (tC (.int 0)))))) (bN (iy (aj (ak 3) (aj (gn (aj (tC (.str "drop")) (aj (bF (fD K) (ak 3) (tC (.int 1))) (aj (bF (fD K) (ak 3) (tC (.int 4))) aG)))) aG)))) cR)
   (aN (fG ((Ng (cj (bF (yw) (bF (fD K) (ak 3) (tC (.int 0))) (tC (.str "get")))) (cj (bF (yw) (bF (rI (λ_ j=>0<j) λi j=>.int (i % j)) (bF (rI Ug λi j=>.int (i / j)) (ak 0) (tC (.int 5))) (tC (.int 2))) (tC (.int 0)))))) (bN (iy (aj (ak 3) (aj (gn (aj (tC (.str "put")) (aj (bF (fD K) (ak 3) (tC (.int 1))) (aj (bF (fD K) (ak 3) (tC (.int 3))) (aj (bF (fD K) (ak 3) (tC (.int 4))) (aj (aW b [] E0 (aj (ak 0) (aj (tC (.int 1159523)) (aj (tC (.int 3)) aG)))) aG)))))) aG)))) cR)
   (bN (iy (aj (ak 3) aG))))))
def pF(K:aC)(a:Sp):TS:=
 (aN (wz (En (aj (Jy (G.oA K) (aj (ak 0) aG)) aG)) (aM 4)
   (aN (fG (cj (bF (yw) (ak 5) (tC (.int 1)))) (bD (bF (vd) (ak 3) (iy (aj (gn (aj (tC (.str "get")) (aj (ak 4) (aj (tC (.int 1)) (aj (tC (.int 0)) (aj (bF (rI (λ_ j=>0<j) λi j=>.int (i % j)) (ak 4) (tC (.int 2))) aG)))))) (aj (gn (aj (tC (.str "put")) (aj (ak 4) (aj (tC (.int 0)) (aj (bF (rI (λ_ j=>0<j) λi j=>.int (i % j)) (ak 4) (tC (.int 2))) (aj (tC (.int 2)) aG)))))) aG)))) (aM 3)) cR)
   (aN (fG (cj (bF (oY λi j=>.bl (decide (j<i))) (ak 5) (tC (.int 1)))) (bD (bF (vd) (ak 3) (iy (aj (gn (aj (tC (.str "make")) (aj (ak 4) (aj (tC (.int 0)) (aj (tC (.int 1)) (aj (tC (.int 0)) aG)))))) (aj (gn (aj (tC (.str "put")) (aj (ak 4) (aj (tC (.int 0)) (aj (tC (.int 0)) (aj (tC (.int 1)) aG)))))) (aj (gn (aj (tC (.str "drop")) (aj (ak 4) (aj (tC (.int 1)) aG)))) aG))))) (aM 3)) cR)
   (fG (cj (bF (yw) (ak 5) (tC (.int 3)))) (bD (bF (vd) (ak 3) (iy (aj (gn (aj (tC (.str "name")) (aj (ak 4) (aj (tC (.int 0)) (aj (aW a [] E0 (aj (ak 2) (aj (bF (rI (λ_ j=>0<j) λi j=>.int (i % j)) (ak 4) (tC (.int 2))) aG))) aG))))) (aj (gn (aj (tC (.str "drop")) (aj (ak 4) (aj (tC (.int 0)) aG)))) aG)))) (aM 3)) cR))))
   (bN (ak 3)))
def wR(K:aC)(a b:Sp):TS:=
 (aN (bD (iy aG) (aM 3))
   (aN (wz (En (aj (Jy (G.oA K) (aj (ak 0) aG)) aG)) (aM 4)
   (aN (bD (bF (vd) (ak 3) (iy (aj (gn (aj (tC (.str "make")) (aj (ak 4) (aj (tC (.int 0)) (aj (tC (.int 2)) (aj (tC (.int 0)) aG)))))) (aj (gn (aj (tC (.str "make")) (aj (ak 4) (aj (tC (.int 1)) (aj (tC (.int 1)) (aj (tC (.int 0)) aG)))))) aG)))) (aM 3))
   (bD (bF (vd) (ak 3) (iy (aj (gn (aj (tC (.str "put")) (aj (ak 4) (aj (tC (.int 0)) (aj (bF (rI (λ_ j=>0<j) λi j=>.int (i % j)) (ak 4) (tC (.int 2))) (aj (tC (.int 1)) aG)))))) (aj (gn (aj (tC (.str "drop")) (aj (ak 4) (aj (tC (.int 1)) aG)))) aG)))) (aM 3))))
   (aN (bD (aW a [] E0 (aj (ak 1) (aj (tC (.int 746773)) (aj (tC (.int 4)) aG)))) (aM 5))
   (aN (fG (cj (bF (oY λi j=>.bl (decide (j<i))) (ak 5) (tC (.int 1)))) (bD (bF (vd) (ak 3) (G.tLC (En (aj (Jy (G.oA K) (aj (ak 0) aG)) aG)) [] G.xW (gn (aj (tC (.str "make")) (aj (ak 0) (aj (tC (.int 1)) (aj (tC (.int 0)) (aj (tC (.int 0)) aG)))))))) (aM 3)) cR)
   (aN (bD (bF (vd) (ak 3) (bF (Zt) (iy (aj (tC .non) aG)) (bF (oY λi j=>.int (i+j)) (tC (.int 1)) (aW a [] E0 (aj (ak 1) (aj (tC (.int 882377)) (aj (tC (.int 4)) aG))))))) (aM 3))
   (pF K b))))))
def qb(K:aC)(b c a:Sp):TS:=
 (aN (bD (aW b [] E0 (aj (ak 0) (aj (tC (.int 2)) aG))) (aM 3))
   (aN (bD (tC (.int 0)) (aM 4))
   (aN (wz (nZ K (tSl (Zta K) (ak 0) (Zel (tC (.int 3))) (Zel (tC (.int 43))))) (aM 5)
   (aN (bD (bF (oY λi j=>.int (i+j)) (ak 5) (bF (rI Rx λi j=>.int (i * j)) (bF (rI Rx λi j=>.int (i * j)) (ak 4) (ak 4)) (tC (.int 1000003)))) (aM 6))
   (aN (fG (cj (bF (yw) (aW a [] E0 (aj (ak 6) (aj (tC (.int 1020379)) (aj (tC (.int 3)) aG)))) (tC (.int 0)))) (bD (bF (vd) (ak 2) (bF (Zt) (iy (aj (tC .non) aG)) (bF (oY λi j=>.int (i+j)) (tC (.int 1)) (aW a [] E0 (aj (ak 6) (aj (tC (.int 1159523)) (aj (tC (.int 6)) aG))))))) (aM 2)) (bD (bF (vd) (ak 2) (aW c [] E0 (aj (ak 6) (aj (ak 1) (aj (ak 3) aG))))) (aM 2)))
   (Zq8 4 (tC (.int 1)) (ipI λi j=>i+j)))))
   (bN (bF (vd) (ak 2) (bF (Zt) (iy (aj (tC .non) aG)) (bF (oY λi j=>.int (i+j)) (tC (.int 12)) (aW a [] E0 (aj (ak 3) (aj (tC (.int 1020379)) (aj (tC (.int 12)) aG)))))))))))
def yZ(K:aC)(a c b d:Sp):TS:=
 (aN (bD (iy aG) (aM 2))
   (aN (fG (cj (bF (oY λi j=>.bl (decide (j<i))) (aW b [] E0 (aj (aW a [] E0 (aj (ak 0) (aj (tC (.int 0)) aG))) (aj (tC (.int 611953)) (aj (tC (.int 4)) aG)))) (tC (.int 0)))) (bD (aW d [] E0 (aj (ak 1) (aj (aW a [] E0 (aj (ak 0) (aj (tC (.int 0)) aG))) (aj (aW a [] E0 (aj (ak 0) (aj (tC (.int 2)) aG))) aG)))) (aM 2)) cR)
   (qb K a c b)))
def zp(f e d c:Addr)(b:Sp):TS:=
 (aN (bD (tC .non) (aM 2))
   (aN (G.Zq5 (λa=>a=Value.ref f\/a=Value.ref d\/a=Value.ref e\/a=Value.ref c) (λEx=>(bD (G.Zbh b [] Ex (aj (ak 0) (aj (ak 1) aG))) (aM 2))) (bD (tC .non) (aM 2)))
   (bN (ak 2))))
def yX(K:aC):TS:=
 (aN (bD (JC) (aM 3))
   (aN (wz (nZ K (ak 0)) (aM 4)
   (Ms (ak 3) (bF (fD K) (ak 4) (tC (.int 1))) (bF (fD K) (ak 4) (tC (.int 5)))))
   (aN (wz (nZ K (ak 1)) (aM 5)
   (Ms (ak 3) (ak 5) (ak 2)))
   (bN (ak 3)))))
def uJ(K:aC):TS:=
 (aN (bD (JC) (aM 1))
   (aN (wz (nZ K (ak 0)) (aM 2)
   (Ms (ak 1) (bF (fD K) (ak 2) (tC (.int 1))) (bF (fD K) (ak 2) (tC (.int 4)))))
   (bN (ak 1))))
def qd(K:aC):TS:=
 (aN (bD (JC) (aM 3))
   (aN (bD (iy aG) (aM 4))
   (aN (wz (nZ K (ak 0)) (aM 5)
   (fG (cj (bF (yw) (bF (fD K) (ak 5) (tC (.int 5))) (tC (.str "grey")))) (bD (bF (vd) (ak 4) (bF (fD K) (ak 5) (tC (.int 4)))) (aM 4)) cR))
   (aN (Zbe (cj (bF (G.Zmw K true) (ak 4) (iy aG))) (aN (bD (Zq7 K "list" Ztb (ak 4)) (aM 6))
   (fG ((Ng (cj (bF (G.yc) (ak 6) (tC .non))) (Ng (cj (bF (yw) (GR (ak 1) (ak 6)) (tC (.str "pale")))) (tB (GQ (ak 6) (ak 3)))))) (aN (Ms (ak 3) (ak 6) (tC (.bl true)))
   (bD (bF (vd) (ak 4) (GR (ak 2) (ak 6))) (aM 4))) cR)))
   (bN (ak 3))))))
def pD(K:aC)(b a d e c:Sp):TS:=
 (aN (bD (aW d [] E0 (aj (ak 1) (aj (iy aG) (aj (tC (.str "")) aG)))) (aM 2))
   (aN (bD (aW b [] E0 (aj (ak 1) aG)) (aM 3))
   (aN (bD (aW a [] E0 (aj (ak 1) (aj (ak 2) (aj (ak 3) aG)))) (aM 4))
   (aN (bD (aW e [] E0 (aj (ak 0) aG)) (aM 5))
   (aN (bD (G.tLC (En (aj (Jy (G.oA K) (aj (ak 5) aG)) aG)) [0,5] (tB (aW c [] E0 (aj (ak 1) (aj (ak 0) aG)))) (bF (nD K) (ak 2) (ak 0))) (aM 6))
   (aN (bD (bF (vd) (ak 6) (G.tLC (nZ K (ak 1)) [] (cj (bF (yw) (bF (fD K) (ak 0) (tC (.int 5))) (tC (.str "dark")))) (bF (fD K) (ak 0) (tC (.int 4))))) (aM 6))
   (aN (wz (nZ K (ak 6)) (aM 7)
   (wz (nZ K (ak 7)) (aM 8)
   (fG ((Ng (cj (bF (G.yc) (ak 8) (tC .non))) (Ng (cj (bF (yw) (GR (ak 2) (ak 8)) (tC (.str "pale")))) (tB (GQ (ak 8) (ak 4)))))) (bN (tC (.bl false))) cR)))
   (bN (tC (.bl true))))))))))
def pG(K:aC)(b a:Sp):TS:=
 (aN (bD (aW b [] E0 (aj (ak 1) (aj (iy aG) (aj (tC (.str "")) aG)))) (aM 2))
   (aN (bD (aW a [] E0 (aj (ak 0) aG)) (aM 3))
   (aN (wz (nZ K (ak 1)) (aM 4)
   (fG (cj (bF (yw) (bF (fD K) (ak 4) (tC (.int 5))) (tC (.str "kept")))) (aN (bD (bC K (bF (nD K) (bC K (bC K (ak 0) "heap") "cells") (bF (fD K) (ak 4) (tC (.int 0)))) "fields") (aM 5))
   (aN (fG (cj (bF (G.Zmw K true) (G.tLC (En (aj (Jy (G.oA K) (aj (ak 5) aG)) aG)) [4,5] ((Ng (cj (bF (G.yc) (bF (nD K) (ak 2) (ak 0)) (tC .non))) (cj (bF (G.Nz) (bF (nD K) (bF (fD K) (ak 1) (tC (.int 4))) (ak 0)) (tC .non))))) (ak 0)) (iy aG))) (bN (tC (.bl false))) cR)
   (vh (tBM K "list" zE (ak 3) (aj (bF (fD K) (ak 4) (tC (.int 4))) aG))))) cR))
   (aN (wz (nZ K (ak 3)) (aM 6)
   (wz (nZ K (ak 6)) (aM 7)
   (fG ((Ng (cj (bF (G.yc) (ak 7) (tC .non))) (cj (bF (rNe) (GR (ak 2) (ak 7)) (tC (.str "kept")))))) (bN (tC (.bl false))) cR)))
   (bN (tC (.bl true)))))))
def wU(K:aC)(b a c:Sp):TS:=
 (aN (bD (aW c [] E0 (aj (ak 0) aG)) (aM 1))
   (aN (fG (cj (bF (yw) (bC K (bC K (ak 0) "sweeper") "phase") (tC (.str "walk")))) (bN (aW a [] E0 (aj (ak 0) (aj (ak 1) aG)))) cR)
   (bN ((Zem (bF (rNe) (bC K (bC K (ak 0) "sweeper") "phase") (tC (.str "lost"))) (aW b [] E0 (aj (ak 0) (aj (ak 1) aG))))))))
def Zcf(K:aC)(d:Addr)(b c e h i g f j a:Sp):TS:=
 (aN (bD (aW h [] E0 (aj (ak 0) aG)) (aM 1))
   (aN (bD (Ab d b [] E0 (aj (aW f [] E0 (aj (ak 0) aG)) (aj (aW g [] E0 (aj (aW c [] E0 (aj (ak 0) (aj (tC (.int 0)) aG))) aG)) (aj (Jy (G.Rm K) (aj (ak 1) aG)) aG)))) (aM 2))
   (aN (wz (nZ K (aW j [] E0 (aj (ak 0) (aj (ak 1) aG)))) (aM 3)
   (aN (fG (cj (bF (G.Nz) (ak 3) (tC .non))) (vh (aW a [] E0 (aj (ak 2) aG))) (vh (aW e [] E0 (aj (ak 2) (aj (ak 3) aG)))))
   (fG (VM (tB (aW i [] E0 (aj (ak 2) aG)))) (bN (tC (.bl false))) cR)))
   (bN (tC (.bl true))))))
structure TxC(K:aC)(bh aY:Addr):Prop where
 cT:Gy K bh
 dR:bK K bh "birth"
 lU:bK K bh "bulk"
 lR:bK K bh "tone"
 jB:bK K bh "load"
 dY:bK K bh "fields"
 cG:Gy K aY
 nF:bK K aY "room"
 bM:bK K aY "cells"
 iT:bK K aY "used"
 lQ:bK K aY "born"
 Ol:EqD K bh
structure yu(CC:Addr)(H:Hp)(p fa:Addr)(birth bulk tone load:Int)(fl:List V):Prop where
 o:∃dx,H p=some (.ins CC dx (mY birth bulk tone load fa))
 f:H fa=some (.lst fl)
theorem yu.same{a:Addr}{H H':Hp}{p fa:Addr}{birth bulk tone load:Int}{fl:List V}(h:yu a H p fa birth bulk tone load fl)(s:aU H H'):yu a H' p fa birth bulk tone load fl:=by
 obtain⟨⟨dx,h1⟩,h2⟩:=h;exact⟨⟨dx,s _ _ h1⟩,s _ _ h2⟩
structure HpO(CH:Addr)(H:Hp)(hp ca:Addr)(room used born:Int)(cs:List V):Prop where
 o:∃dx,H hp=some (.ins CH dx (j9 room ca used born))
 c:H ca=some (.lst cs)
theorem Rk{a b c d e f g:Int}{x y:Addr}:mY a b c d x≠j9 e y f g:=λz=>by
 have:=congrArg List.length z;cases this
def wj(a:Addr):Sp:=λvs H Q E=>∃p birth many bulk tone,vs=[.ref p,.int birth,.int many,.int bulk,.int tone]/\∃dx,H p=some (.ins a dx [])/\0<=many/\many<=1000/\
 ∀fa H',H fa=none->H' p=some (.ins a dx (mY birth bulk tone 0 fa))->H' fa=some (.lst (List.replicate many.toNat V.non))->(∀b o,H b=some o->b≠p->H' b=some o)->Q .non H'
def mH(a:Addr):Sp:=λvs H Q E=>∃p,vs=[.ref p]/\∃fa birth bulk tone load fl,yu a H p fa birth bulk tone load fl/\Q (.int (1+fl.length+bulk)) H
def vY(a:Addr):Sp:=λvs H Q E=>∃p room,vs=[.ref p,.int room]/\∃dx,H p=some (.ins a dx [])/\
 ∀ca H',H ca=none->H' p=some (.ins a dx (j9 room ca 0 0))->H' ca=some (.lst [])->(∀b o,H b=some o->b≠p->H' b=some o)->Q .non H'
def vZ(a:Addr):Sp:=λvs H Q E=>∃hp,vs=[.ref hp]/\∃ca room used born cs,HpO a H hp ca room used born cs/\Q (.int (room - used)) H
def Zw(cs:List V):List Int:=((List.range cs.length).filter λi=>!decide (cs[i]? =some V.non)).map λ(i:Nat)=>(i:Int)
def mG(a:Addr):Sp:=λvs H Q E=>∃hp,vs=[.ref hp]/\∃ca room used born cs,HpO a H hp ca room used born cs/\cs.length<=1000/\∀l,H l=none->Q (.ref l) (upd H l (.lst ((Zw cs).map V.int)))
def putN(cs:List V)(v:V):List V:=if V.non∈cs then cs.set (cs.idxOf V.non) v else cs++[v]
def z8(K:aC)(a:Addr):Sp:=λvs H Q E=>∃hp v,vs=[.ref hp,v]/\∃ca room used born cs,HpO a H hp ca room used born cs/\OkN K H cs/\cs.length<=1000/\Q (.int (cs.idxOf V.non)) (upd H ca (.lst (putN cs v)))
def sV(b a:Addr):Sp:=λvs H Q E=>∃hp i,vs=[.ref hp,.int i]/\∃ca dx room used born cs p fa birth bulk tone load fl,0<=i/\H hp=some (.ins a dx (j9 room ca used born))/\H ca=some (.lst cs)/\cs[i.toNat]? =some (.ref p)/\yu b H p fa birth bulk tone load fl/\
 Q (.int birth) (upd (upd H hp (.ins a dx (j9 room ca (used - (1+fl.length+bulk)) born))) ca (.lst (cs.set i.toNat V.non)))
def vX(K:aC)(b a c:Addr):Sp:=λvs H Q E=>∃hp many bulk tone,vs=[.ref hp,.int many,.int bulk,.int tone]/\∃ca dx room used born cs,H hp=some (.ins a dx (j9 room ca used born))/\H ca=some (.lst cs)/\OkN K H cs/\cs.length<=1000/\0<=many/\many<=1000/\
 (room - used<1+many+bulk->∀H',aU H H'->E (.ref c) none H')/\
 (1+many+bulk<=room - used->∀p fa H',H p=none->H fa=none->Fm [hp,ca] H H'->H' hp=some (.ins a dx (j9 room ca (used+(1+many+bulk)) (born+1)))->H' ca=some (.lst (putN cs (.ref p)))->
  yu b H' p fa (born+1) bulk tone 0 (List.replicate many.toNat V.non)->Q (.int (cs.idxOf V.non)) H')
section
variable {K:aC}{bh aY bR:Addr}{H:Hp}{Q:VK}{E:XK}{n:St->Hp->Prop}{bk ct:St->Hp->Prop}
theorem Ud{p:Addr}(T:TxC K bh aY)(q:∃fa birth bulk tone load fl,yu bh H p fa birth bulk tone load fl/\Q (.int (1+fl.length+bulk)) H):wY K ⟨n,Q,bk,ct⟩ [some (.ref p)] H:=by
 obtain⟨fa,birth,bulk,tone,load,fl,⟨⟨dx,h1⟩,h2⟩,h⟩:=q;unfold wY;walk_at"e";refine aJ h1 T.cT T.dY jr ?_;walk_at"e";refine lK (cV.of h2) ?_;walk_at"e";refine aJ h1 T.cT T.lU Er ?_;walk_at"e";exact h
theorem Mm{p:Addr}{birth many bulk tone:Int}(T:TxC K bh aY)(q:∃dx,H p=some (.ins bh dx [])/\0<=many/\many<=1000/\
 ∀fa H',H fa=none->H' p=some (.ins bh dx (mY birth bulk tone 0 fa))->H' fa=some (.lst (List.replicate many.toNat V.non))->(∀b o,H b=some o->b≠p->H' b=some o)->Q .non H'):
  rB K ⟨λ_ H'=>Q .non H',Q,bk,ct⟩ [some (.ref p),some (.int birth),some (.int many),some (.int bulk),some (.int tone)] H:=by
 obtain⟨dx,hp,n,h1,h⟩:=q;unfold rB;walk_at"e";refine⟨p,bh,dx,[],rfl,hp,T.cT,T.dR,by decide,?_⟩;walk_at"e";refine⟨p,bh,dx,_,rfl,aq,T.cT,T.lU,by show 1<1000;decide,?_⟩;rw[eN];walk_at"e";refine⟨p,bh,dx,_,rfl,aq,T.cT,T.lR,by show 2<1000;decide,?_⟩;rw[eN];walk_at"e";refine⟨p,bh,dx,_,rfl,aq,T.cT,T.jB,by show 3<1000;decide,?_⟩;rw[eN];walk_at"e";refine⟨by decide,λi g=>?_⟩;walk_at"e";refine⟨i,many,_,rfl,rfl,aq,by omega,by omega,?_,λfa a=>?_⟩
 ·show 1 * many.toNat<=sizeLine;exact aX (by omega)
 have f:p≠i:=aD aq g;have c:p≠fa:=aD ((aB f).trans aq) a;walk_at"e";refine⟨p,bh,dx,_,rfl,(aB c).trans ((aB f).trans aq),T.cT,T.dY,by show 4<1000;decide,?_⟩;have m:H fa=none:=by
  have e:=a;have n1:fa≠i:=λz=>by rw[z,aq]at e;cases e
  rw[aB n1,aB c.symm]at e;exact e
 refine h fa _ m (aq.trans (congrArg (λl=>some (HO.ins bh dx l)) Zlv)) ?_ λb o hb d=>?_
 ·rw[aB c.symm,aq];have e:(List.replicate many.toNat [V.non]).flatten=List.replicate many.toNat V.non:=by
   generalize many.toNat=k
   induction k with
   | zero=>rfl
   | succ k ih=>rw[List.replicate_succ,List.replicate_succ,List.flatten_cons,ih];rfl
  rw[e]
 ·have j:upd H p (HO.ins bh dx (cB "load" (V.int 0) (cB "tone" (V.int tone) (cB "bulk" (V.int bulk) (cB "birth" (V.int birth) []))))) b=some o:=(aB d).trans hb;have n1:b≠i:=aD j g;have n2:b≠fa:=aD ((aB n1).trans j) a;rw[aB d,aB n2,aB n1];exact j
theorem LC{p:Addr}{room:Int}(T:TxC K bh aY)(q:∃dx,H p=some (.ins aY dx [])/\
 ∀ca H',H ca=none->H' p=some (.ins aY dx (j9 room ca 0 0))->H' ca=some (.lst [])->(∀b o,H b=some o->b≠p->H' b=some o)->Q .non H'):
  rz K ⟨λ_ H'=>Q .non H',Q,bk,ct⟩ [some (.ref p),some (.int room)] H:=by
 obtain⟨dx,hp,h⟩:=q;unfold rz;walk_at"e";refine⟨p,aY,dx,[],rfl,hp,T.cG,T.nF,by decide,?_⟩;walk_at"e";refine⟨by decide,λca c=>?_⟩;walk_at"e";have d:p≠ca:=aD aq c;refine⟨p,aY,dx,_,rfl,(aB d).trans aq,T.cG,T.bM,by show 1<1000;decide,?_⟩;walk_at"e";refine⟨p,aY,dx,_,rfl,aq,T.cG,T.iT,by show 2<1000;decide,?_⟩;rw[eN];walk_at"e";refine⟨p,aY,dx,_,rfl,aq,T.cG,T.lQ,by show 3<1000;decide,?_⟩;rw[eN];have f:H ca=none:=by
  have e:=c;rw[aB d.symm]at e;exact e
 refine h ca _ f (aq.trans (congrArg (λl=>some (HO.ins aY dx l)) Zl3)) ?_ λb o hb a=>?_
 ·rw[aB d.symm,aq]
 ·rw[aB a,aB (aD ((aB a).trans hb) c),aB a];exact hb
theorem YK{hp:Addr}(T:TxC K bh aY)(q:∃ca room used born cs,HpO aY H hp ca room used born cs/\Q (.int (room - used)) H):zA K ⟨n,Q,bk,ct⟩ [some (.ref hp)] H:=by
 obtain⟨ca,room,used,born,cs,⟨⟨dx,h1⟩,h2⟩,h⟩:=q;unfold zA;walk_at"e";refine aJ h1 T.cG T.nF Th ?_;walk_at"e";refine aJ h1 T.cG T.iT xx ?_;walk_at"e";exact h
theorem T7{hp:Addr}(T:TxC K bh aY)(q:∃ca room used born cs,HpO aY H hp ca room used born cs/\cs.length<=1000/\∀l,H l=none->Q (.ref l) (upd H l (.lst ((Zw cs).map V.int)))):wX K ⟨n,Q,bk,ct⟩ [some (.ref hp)] H:=by
 obtain⟨ca,room,used,born,cs,⟨⟨dx,h1⟩,h2⟩,hl,h⟩:=q;unfold wX;walk_at"e";refine Em ?_;walk_at"e";refine aJ h1 T.cG T.bM bQ ?_;walk_at"e";refine lK (cV.of h2) ?_;walk_at"e";refine⟨_,rfl,by omega,by omega,?_⟩;refine QK (n:=cs.length) (by omega) (p:=λi=>!decide (cs[i]? =some V.non)) (f:=λi=>.int i) (by omega) ?_ ?_ ?_
 ·intro i hi k hk;walk_at"c";walk_at"e";refine aJ h1 T.cG T.bM bQ ?_;walk_at"e";refine jW (cV.of h2) (jl (bL hi)) ?_;walk_at"e";refine Zdj ?_;rw[bL hi]at hk;walk_at"e";simpa using hk
 ·intro i hi _ k hk;walk_at"c";walk_at"e";exact hk
 ·have e:((Zw cs).map V.int)=((List.range cs.length).filter λi=>!decide (cs[i]? =some V.non)).map λ(i:Nat)=>V.int i:=by
   unfold Zw;rw[List.map_map];rfl
  rw[<- e];exact h
theorem Zax{hp:Addr}{v:V}(T:TxC K bh aY)(q:∃ca room used born cs,HpO aY H hp ca room used born cs/\OkN K H cs/\cs.length<=1000/\Q (.int (cs.idxOf V.non)) (upd H ca (.lst (putN cs v)))):BL K ⟨n,Q,bk,ct⟩ [some (.ref hp),some v,none] H:=by
 obtain⟨ca,room,used,born,cs,⟨⟨dx,h1⟩,h2⟩,c,hl,h⟩:=q;unfold BL;walk_at"e";refine aJ h1 T.cG T.bM bQ ?_;walk_at"e";refine Zkr (cV.of h2) c ?_;walk_at"e";refine Zdg (λhn=>?_) (λhn=>?_)
 ·walk_at"e";refine aJ h1 T.cG T.bM bQ ?_;refine⟨.inl ⟨rfl,_,cV.of h2⟩,?_⟩;walk_at"e";refine⟨ca,cs,v,rfl,rfl,h2,Nat.lt_of_le_of_lt hl (by decide),?_⟩;walk_at"e";have a:hp≠ca:=qw h1 h2 (λz=>by cases z);refine aJ ((aB a).trans h1) T.cG T.bM bQ ?_;walk_at"e";refine lK (cV.of aq) ?_;walk_at"e";have d:(((cs++[v]).length:Int) - 1)=(cs.idxOf V.non:Nat):=by
   rw[List.length_append,List.idxOf_eq_length hn];simp
  have b:putN cs v=cs++[v]:=by unfold putN;rw[if_neg hn]
  rw[d,<- b];exact h
 ·walk_at"e";refine aJ h1 T.cG T.bM bQ ?_;refine⟨.inl ⟨rfl,_,cV.of h2⟩,?_⟩;walk_at"e";refine⟨ca,cs,rfl,rfl,cV.of h2,c,hn,?_⟩;walk_at"e";refine aJ h1 T.cG T.bM bQ ?_;walk_at"e";have hi:cs.idxOf V.non<cs.length:=List.idxOf_lt_length_iff.mpr hn;refine⟨ca,cs,_,_,rfl,rfl,h2,uh hi,?_⟩;have b:putN cs v=cs.set (cs.idxOf V.non) v:=by unfold putN;rw[if_pos hn]
  rw[<- b];walk_at"e";exact h
theorem YL{hp:Addr}{i:Int}(T:TxC K bh aY)(q:∃ca dx room used born cs p fa birth bulk tone load fl,0<=i/\H hp=some (.ins aY dx (j9 room ca used born))/\H ca=some (.lst cs)/\cs[i.toNat]? =some (.ref p)/\yu bh H p fa birth bulk tone load fl/\
 Q (.int birth) (upd (upd H hp (.ins aY dx (j9 room ca (used - (1+fl.length+bulk)) born))) ca (.lst (cs.set i.toNat V.non)))):zB K bh (mH bh) ⟨n,Q,bk,ct⟩ [some (.ref hp),some (.int i),none] H:=by
 obtain⟨ca,dx,room,used,born,cs,p,fa,birth,bulk,tone,load,fl,e,h1,h2,hi,co,h⟩:=q;obtain⟨⟨dp,b⟩,f⟩:=id co;unfold zB;walk_at"e";refine aJ h1 T.cG T.bM bQ ?_;walk_at"e";refine jW (cV.of h2) (pq e hi) ?_;walk_at"e";refine aJ h1 T.cG T.iT xx ?_;walk_at"e";refine⟨p,dp,_,rfl,b,uU,?_⟩;walk_at"e";refine⟨p,rfl,fa,birth,bulk,tone,load,fl,co,?_⟩;walk_at"e";refine⟨hp,aY,dx,_,rfl,h1,T.cG,T.iT,by show 4<1000;decide,?_⟩;rw[CT];have c:hp≠ca:=qw h1 h2 (λz=>by cases z);walk_at"e";refine aJ aq T.cG T.bM bQ ?_;walk_at"e";have d:i.toNat<cs.length:=(dX hi).1;refine⟨ca,cs,_,_,rfl,rfl,(aB c.symm).trans h2,Zo7 e d,?_⟩;walk_at"e";refine aJ (C:=bh) (a:=p) (dx:=dp) (fs:=mY birth bulk tone load fa) ?_ T.cT T.dR gK ?_
 ·have n1:p≠ca:=qw b h2 (λz=>by cases z);have n2:p≠hp:=qw b h1 (λz=>by injection z with _ _ z;exact Rk z);rw[aB n1,aB n2];exact b
 exact h
theorem YJ{hp:Addr}{many bulk tone:Int}(T:TxC K bh aY)(q:∃ca dx room used born cs,H hp=some (.ins aY dx (j9 room ca used born))/\H ca=some (.lst cs)/\OkN K H cs/\cs.length<=1000/\0<=many/\many<=1000/\
 (room - used<1+many+bulk->∀H',aU H H'->E (.ref bR) none H')/\
 (1+many+bulk<=room - used->∀p fa H',H p=none->H fa=none->Fm [hp,ca] H H'->H' hp=some (.ins aY dx (j9 room ca (used+(1+many+bulk)) (born+1)))->H' ca=some (.lst (putN cs (.ref p)))->
  yu bh H' p fa (born+1) bulk tone 0 (List.replicate many.toNat V.non)->Q (.int (cs.idxOf V.non)) H')):
  zz K bh bR aY (wj bh) (mH bh) (vZ aY) (z8 K aY) E ⟨n,Q,bk,ct⟩ [some (.ref hp),some (.int many),some (.int bulk),some (.int tone),none] H:=by
 obtain⟨ca,dx,room,used,born,cs,h1,h2,w,hl,A,x,I,F⟩:=q;have g:hp≠ca:=qw h1 h2 (λz=>by cases z);unfold zz;walk_at"e";refine aJ h1 T.cG T.lQ Ti ?_;walk_at"e";intro p dp h j B;refine⟨p,_,many,_,_,rfl,dp,aq,A,x,λfa l k f m v=>⟨rfl,?_⟩⟩;have c:H fa=none:=by
  have e:=k
  by_cases z1:fa=p
  ·rw[z1,aq]at e;cases e
  ·rw[aB z1]at e
   by_cases t:fa=dp
   ·rw[t,aq]at e;cases e
   ·rw[aB t]at e;exact e
 have sm:aU H l:=λb o hb=>by
  refine v b o ?_ (aD hb h);rw[aB (aD hb h),aB (aD hb j)];exact hb
 have co:yu bh l p fa (born+1) bulk tone 0 (List.replicate many.toNat V.non):=⟨⟨dp,f⟩,m⟩;have s:((List.replicate many.toNat V.non).length:Int)=many:=by rw[List.length_replicate];omega
 walk_at"e";refine⟨p,dp,_,rfl,f,uU,?_⟩;walk_at"e";refine⟨p,rfl,fa,_,_,_,_,_,co,?_⟩;walk_at"e";refine⟨hp,dx,_,rfl,sm _ _ h1,Te,?_⟩;walk_at"e";refine⟨hp,rfl,ca,room,used,born,cs,⟨⟨dx,sm _ _ h1⟩,sm _ _ h2⟩,?_⟩;walk_at"e";rw[s];refine uw (λr=>?_) (λr=>?_)
 ·walk_at"e";exact⟨by decide,I r l sm⟩
 ·walk_at"e";refine aJ f T.cT T.dR gK ?_;walk_at"e";refine⟨hp,aY,dx,_,rfl,sm _ _ h1,T.cG,T.lQ,by show 4<1000;decide,?_⟩;rw[Q3];walk_at"e";refine aJ aq T.cG T.iT xx ?_;walk_at"e";have n1:p≠hp:=(aD h1 h).symm;have n2:fa≠hp:=(aD h1 c).symm;have n3:p≠ca:=(aD h2 h).symm;have n4:fa≠ca:=(aD h2 c).symm;refine⟨p,dp,_,rfl,(aB n1).trans f,uU,?_⟩;walk_at"e";refine⟨p,rfl,fa,_,_,_,_,_,⟨⟨dp,(aB n1).trans f⟩,(aB n2).trans m⟩,?_⟩;walk_at"e";rw[s];refine⟨hp,aY,dx,_,rfl,aq,T.cG,T.iT,by show 4<1000;decide,?_⟩;rw[CT,eN];walk_at"e";refine⟨hp,dx,_,rfl,aq,XM,?_⟩;walk_at"e";refine⟨hp,.ref p,rfl,ca,room,_,_,cs,⟨⟨dx,aq⟩,(aB g.symm).trans (sm _ _ h2)⟩,?_,hl,?_⟩
  ·intro y hy;rcases w y hy with e | ⟨a,C,d,fs,e,i,hc,u⟩
   ·exact .inl e
   ·refine .inr ?_
    by_cases z:a=hp
    ·rw[z]at i e;rw[h1]at i;cases i;exact⟨hp,_,_,_,e,aq,hc,u⟩
    ·exact⟨a,C,d,fs,e,(aB z).trans (sm _ _ i),hc,u⟩
  ·refine F (by omega) p fa _ h c ?_ ((aB g).trans aq) aq ⟨⟨dp,?_⟩,?_⟩
   ·intro b o hb hn;have D:b≠hp:=λz=>hn (by rw[z];exact List.mem_cons_self);have J:b≠ca:=λz=>hn (by rw[z];exact List.mem_cons_of_mem _ List.mem_cons_self);rw[aB J,aB D];exact sm _ _ hb
   ·rw[aB n3,aB n1];exact f
   ·rw[aB n4,aB n2];exact m
end
structure Ce where
 birth:Int
 bulk:Int
 tone:Int
 load:Int
 fl:List (Option Int)
 deriving DecidableEq
structure Sw where
 sense:Int
 phase:Str
 grey:List Int
 looked:Int
 turn:Int
 at':Int
 stop:Int
 walks:Int
 looks:Int
 passes:Int
 loss:V
structure Wm where
 room:Int
 used:Int
 born:Int
 cells:List (Option Ce)
 hands:List (Str×List (Option Int))
 names:List (Str×(Int×Int))
 w:Int
 tells:Int
 sw:Sw
structure Wa where
 wo:Addr
 hp:Addr
 ca:Addr
 ki:Addr
 lk:Addr
 hl:Addr
 nm:Addr
 sw:Addr
 gr:Addr
 hs:List (Addr×Addr)
 cs:List (Option (Addr×Addr))
 ns:List Addr
def oV:Option Int->V
 | none=>.non
 | some i=>.int i
def pV:Option (Addr×Addr)->V
 | none=>.non
 | some p=>.ref p.1
structure xV(s:Nat)(t0:Nat->Prop)(H H':Hp)(T T':Tg):Prop where
 kp:∀b o,H b=some o->(T b).1=s->¬ t0 (T b).2->H' b=some o
 tg:∀b o,H b=some o->T' b=T b
section
variable {CHd CC:Addr}{H H':Hp}{T T':Tg}{s j i:Nat}{t0:Nat->Prop}
theorem xV.at{a:Addr}{o:HO}{m:Nat}(f:xV s t0 H H' T T')(b:T a=(s,m))(n:¬ t0 m)(h:H a=some o):H' a=some o:=f.kp a o h (by rw[b]) (by rw[b];exact n)
theorem xV.tag{a:Addr}{o:HO}{x:Nat×Nat}(f:xV s t0 H H' T T')(h:H a=some o)(b:T a=x):T' a=x:=(f.tg a o h).trans b
theorem xV.Cq{a:Addr}{o:HO}{m:Nat}(c:T a=(s,m)):xV s (·=m) H (upd H a o) T T:=⟨λb u h e n=>by
  have:b≠a:=λz=>n (by rw[z,c]);rw[aB this];exact h,λ_ _ _=>rfl⟩
theorem xV.of_same(e:aU H H'):xV s (λ_=>False) H H' T T:=⟨λb o h _ _=>e b o h,λ_ _ _=>rfl⟩
theorem xV.Zjh{s':Nat}(e:jo s' H H' T T')(n:s≠s'):xV s (λ_=>False) H H' T T':=⟨λb o h z _=>e.kp b o h (by rw[z];exact n),e.tg⟩
structure HdO(CHd:Addr)(H:Hp)(T:Tg)(s j:Nat)(p:Addr×Addr)(m:Str×List (Option Int)):Prop where
 t1:T p.1=(s,20+2 * j)
 t2:T p.2=(s,21+2 * j)
 o1:∃dx,H p.1=some (.ins CHd dx (Za8 m.1 p.2))
 o2:H p.2=some (.lst (m.2.map oV))
theorem HdO.mv{p:Addr×Addr}{m:Str×List (Option Int)}(h:HdO CHd H T s j p m)(f:xV s t0 H H' T T')(n1:¬ t0 (20+2 * j))(n2:¬ t0 (21+2 * j)):HdO CHd H' T' s j p m:=by
 obtain⟨c,d,⟨dx,b⟩,a⟩:=h;exact⟨f.tag b c,f.tag a d,⟨dx,f.at c n1 b⟩,f.at d n2 a⟩
structure Ue(CC:Addr)(H:Hp)(T:Tg)(s i:Nat)(p:Addr×Addr)(c:Ce):Prop where
 t1:T p.1=(s,100+2 * i)
 t2:T p.2=(s,101+2 * i)
 o1:∃dx,H p.1=some (.ins CC dx (mY c.birth c.bulk c.tone c.load p.2))
 o2:H p.2=some (.lst (c.fl.map oV))
theorem Ue.mv{p:Addr×Addr}{c:Ce}(h:Ue CC H T s i p c)(f:xV s t0 H H' T T')(n1:¬ t0 (100+2 * i))(n2:¬ t0 (101+2 * i)):Ue CC H' T' s i p c:=by
 obtain⟨d,e,⟨dx,b⟩,a⟩:=h;exact⟨f.tag b d,f.tag a e,⟨dx,f.at d n1 b⟩,f.at e n2 a⟩
def CeP(CC:Addr)(H:Hp)(T:Tg)(s i:Nat):Option (Addr×Addr)->Option Ce->Prop
 | none,none=>True
 | some p,some c=>Ue CC H T s i p c
 | _,_=>False
theorem CeP.mv{p:Option (Addr×Addr)}{c:Option Ce}(h:CeP CC H T s i p c)(f:xV s t0 H H' T T')(n1:¬ t0 (100+2 * i))(n2:¬ t0 (101+2 * i)):CeP CC H' T' s i p c:=by
 cases p with
 | none=>cases c with
  | none=>trivial
  | some c=>exact h.elim
 | some p=>cases c with
  | none=>exact h.elim
  | some c=>exact Ue.mv h f n1 n2
end
def NmO(H:Hp)(T:Tg)(t:Addr)(m:Str×(Int×Int)):Prop:=T t=(0,0)/\H t=some (.tup [.int m.2.1,.int m.2.2])
structure Cs where
 W:Addr
 H:Addr
 C:Addr
 K:Addr
 D:Addr
 S:Addr
 F:Addr
 E:Addr
 L:Addr
structure WB(X:Cs)(H:Hp)(T:Tg)(s:Nat)(A:Wa)(w tells:Int):Prop where
 tw:T A.wo=(s,0)
 tk:T A.ki=(0,0)
 tl:T A.lk=(0,0)
 tn:T A.hl=(s,5)
 ow:∃dx,H A.wo=some (.ins X.W dx (Ar A.hp A.ki A.hl A.nm A.sw))
 ok:∃dx,H A.ki=some (.ins X.K dx (QS A.lk tells))
 ol:∃dx,(w=0/\H A.lk=some (.ins X.F dx []))\/(w=1/\H A.lk=some (.ins X.E dx []))
 on:H A.hl=some (.lst (A.hs.map λp=>V.ref p.1))
structure WH(X:Cs)(H:Hp)(T:Tg)(s:Nat)(A:Wa)(room used born:Int):Prop where
 th:T A.hp=(s,1)
 tc:T A.ca=(s,2)
 oh:∃dx,H A.hp=some (.ins X.H dx (j9 room A.ca used born))
 oc:H A.ca=some (.lst (A.cs.map pV))
def Ai(M:List (Str×(Int×Int)))(ns:List Addr):List ((Int ⊕ Str)×V):=List.zipWith (λ(m:Str×(Int×Int)) (t:Addr)=>(Sum.inr m.1,V.ref t)) M ns
structure WN(H:Hp)(T:Tg)(s:Nat)(A:Wa)(names:List (Str×(Int×Int))):Prop where
 tm:T A.nm=(s,6)
 om:H A.nm=some (.dK (Ai names A.ns))
 nms:Al (NmO H T) A.ns names
structure WS(X:Cs)(H:Hp)(T:Tg)(s:Nat)(A:Wa)(S:Sw):Prop where
 ts:T A.sw=(s,7)
 tg:T A.gr=(s,8)
 os:∃dx,H A.sw=some (.ins X.S dx (cF S.sense S.phase A.gr S.looked S.turn S.at' S.stop S.walks S.looks S.passes S.loss))
 og:H A.gr=some (.lst (S.grey.map V.int))
structure WD(X:Cs)(H:Hp)(T:Tg)(s:Nat)(hs:List (Addr×Addr))(hands:List (Str×List (Option Int))):Prop where
 lh:hs.length=hands.length
 l5:hs.length<=30
 hd:∀(j:Nat) p m,hs[j]? =some p->hands[j]? =some m->HdO X.D H T s j p m
structure WC(X:Cs)(H:Hp)(T:Tg)(s:Nat)(cs:List (Option (Addr×Addr)))(cells:List (Option Ce)):Prop where
 lc:cs.length=cells.length
 ce:∀(i:Nat) p c,cs[i]? =some p->cells[i]? =some c->CeP X.C H T s i p c
structure WJ(X:Cs)(H:Hp)(T:Tg)(s:Nat)(A:Wa)(M:Wm):Prop where
 jb:WB X H T s A M.w M.tells
 jh:WH X H T s A M.room M.used M.born
 jn:WN H T s A M.names
 js:WS X H T s A M.sw
 jd:WD X H T s A.hs M.hands
 jc:WC X H T s A.cs M.cells
section
variable {X:Cs}{H H':Hp}{T T':Tg}{s:Nat}{t0:Nat->Prop}{A:Wa}{M:Wm}
theorem WB.mv{w tells:Int}(j:WB X H T s A w tells)(f:xV s t0 H H' T T')(d:∀b o,H b=some o->T b=(0,0)->H' b=some o)(i:¬ t0 0)(n5:¬ t0 5):WB X H' T' s A w tells:=by
 obtain⟨tw,tk,tl,tn,⟨g,ow⟩,⟨h,ok⟩,⟨k,ol⟩,on⟩:=j;have a:∃o,H A.lk=some o:=by
  rcases ol with ⟨_,e⟩ | ⟨_,e⟩
  ·exact⟨_,e⟩
  ·exact⟨_,e⟩
 obtain⟨l,c⟩:=a;refine⟨f.tag ow tw,f.tag ok tk,f.tag c tl,f.tag on tn,⟨g,f.at tw i ow⟩,⟨h,d _ _ ok tk⟩,⟨k,?_⟩,f.at tn n5 on⟩;rcases ol with ⟨z,e⟩ | ⟨z,e⟩
 ·exact .inl ⟨z,d _ _ e tl⟩
 ·exact .inr ⟨z,d _ _ e tl⟩
theorem WH.mv{room used born:Int}(j:WH X H T s A room used born)(f:xV s t0 H H' T T')(n1:¬ t0 1)(n2:¬ t0 2):WH X H' T' s A room used born:=by
 obtain⟨th,tc,⟨d,oh⟩,oc⟩:=j;exact⟨f.tag oh th,f.tag oc tc,⟨d,f.at th n1 oh⟩,f.at tc n2 oc⟩
theorem WN.mv{names:List (Str×(Int×Int))}(j:WN H T s A names)(f:xV s t0 H H' T T')(a:∀b o,H b=some o->T b=(0,0)->H' b=some o)(n6:¬ t0 6):WN H' T' s A names:=by
 obtain⟨tm,om,nms⟩:=j;exact⟨f.tag om tm,f.at tm n6 om,nms.mono λt m ⟨z1,z2⟩=>⟨f.tag z2 z1,a _ _ z2 z1⟩⟩
theorem WS.mv{S:Sw}(j:WS X H T s A S)(f:xV s t0 H H' T T')(n7:¬ t0 7)(n8:¬ t0 8):WS X H' T' s A S:=by
 obtain⟨ts,tg,⟨d,os⟩,og⟩:=j;exact⟨f.tag os ts,f.tag og tg,⟨d,f.at ts n7 os⟩,f.at tg n8 og⟩
theorem WD.mv{hs:List (Addr×Addr)}{hands:List (Str×List (Option Int))}(j:WD X H T s hs hands)(f:xV s t0 H H' T T')(n:∀k,20<=k->k<100->¬ t0 k):WD X H' T' s hs hands:=by
 obtain⟨lh,l5,hd⟩:=j;refine⟨lh,l5,λj p m a b=>?_⟩;have hl:j<hs.length:=(dX a).1;exact(hd j p m a b).mv f (n _ (by omega) (by omega)) (n _ (by omega) (by omega))
theorem WC.mv{cs:List (Option (Addr×Addr))}{cells:List (Option Ce)}(j:WC X H T s cs cells)(f:xV s t0 H H' T T')(n:∀k,100<=k->¬ t0 k):WC X H' T' s cs cells:=by
 obtain⟨lc,ce⟩:=j;exact⟨lc,λi p c a b=>(ce i p c a b).mv f (n _ (by omega)) (n _ (by omega))⟩
theorem WJ.mv(j:WJ X H T s A M)(f:xV s (λ_=>False) H H' T T')(a:∀b o,H b=some o->T b=(0,0)->H' b=some o):WJ X H' T' s A M:=
 ⟨j.jb.mv f a id id,j.jh.mv f id id,j.jn.mv f a id,j.js.mv f id id,j.jd.mv f λ_ _ _=>id,j.jc.mv f λ_ _=>id⟩
theorem WJ.same(j:WJ X H T s A M)(e:aU H H'):WJ X H' T s A M:=j.mv (xV.of_same e) λb o h _=>e b o h
theorem WJ.other{s':Nat}(j:WJ X H T s A M)(e:jo s' H H' T T')(n:s≠s')(a:s'≠0):WJ X H' T' s A M:=j.mv (xV.Zjh e n) λb o h t=>e.kp b o h (by rw[t];exact λz=>a z.symm)
theorem pL{a:Addr}{c:HO}{m:Nat}(f:s≠0)(d:T a=(s,m)):∀b o,H b=some o->T b=(0,0)->upd H a c b=some o:=λb o e t=>by
 rw[aB (Qy t d (λz=>f (congrArg Prod.fst z).symm))];exact e
theorem WJ.slot(j:WJ X H T s A M)(w:WT H T)(g:s≠0){h k:Nat}{p:Addr×Addr}{m:Str×List (Option Int)}{x:Option Int}(hp:A.hs[h]? =some p)(hm:M.hands[h]? =some m):
  jo s H (upd H p.2 (.lst ((m.2.map oV).set k (oV x)))) T T/\WJ X (upd H p.2 (.lst ((m.2.map oV).set k (oV x)))) T s A { M with hands:=M.hands.set h (m.1,m.2.set k x) }:=by
 have hl:=j.jd.l5;have hh:h<A.hs.length:=(dX hp).1;have c:h<M.hands.length:=(dX hm).1;have d:=j.jd.hd h p m hp hm;refine⟨jo.upd w d.o2 (by rw[d.t2]),?_⟩;have f:xV s (·=21+2 * h) H (upd H p.2 (.lst ((m.2.map oV).set k (oV x)))) T T:=xV.Cq d.t2;have l:upd H p.2 (.lst ((m.2.map oV).set k (oV x))) p.2=some (.lst ((m.2.set k x).map oV)):=by rw[aq,List.map_set]
 refine⟨j.jb.mv f (pL g d.t2) (by omega) (by omega),j.jh.mv f (by omega) (by omega),j.jn.mv f (pL g d.t2) (by omega),j.js.mv f (by omega) (by omega),⟨by rw[List.length_set];exact j.jd.lh,hl,λe n i b a=>?_⟩,j.jc.mv f λ_ _=>by omega⟩
 by_cases hj:e=h
 ·subst hj;dsimp only at a;rw[List.getElem?_set_self c]at a;rw[hp]at b;cases b;cases a;obtain⟨dd,o1⟩:=d.o1;exact⟨d.t1,d.t2,⟨dd,f.at d.t1 (by omega) o1⟩,l⟩
 ·dsimp only at a;rw[List.getElem?_set_ne (λz=>hj z.symm)]at a;exact(j.jd.hd e n i b a).mv f (by omega) (by omega)
theorem WC.at(j:WC X H T s A.cs M.cells){i:Nat}{c:Ce}(h:M.cells[i]? =some (some c)):∃p,A.cs[i]? =some (some p)/\Ue X.C H T s i p c:=by
 have hl:i<A.cs.length:=by rw[j.lc];exact(dX h).1
 have e:=j.ce i _ _ (bL hl) h;cases a:A.cs[i]with
 | none=>rw[a]at e;exact e.elim
 | some g=>rw[a]at e;exact⟨g,by rw[bL hl,a],e⟩
theorem WC.at0(j:WC X H T s A.cs M.cells){i:Nat}(h:M.cells[i]? =some none):A.cs[i]? =some none:=by
 have hl:i<A.cs.length:=by rw[j.lc];exact(dX h).1
 have e:=j.ce i _ _ (bL hl) h;cases a:A.cs[i]with
 | none=>rw[bL hl,a]
 | some g=>rw[a]at e;exact e.elim
theorem WC.chg(j:WC X H T s A.cs M.cells){i:Nat}{p:Addr×Addr}{c':Ce}(f:xV s t0 H H' T T')(hp:A.cs[i]? =some (some p))(n:∀k,100<=k->k≠100+2 * i->k≠101+2 * i->¬ t0 k)(e:Ue X.C H' T' s i p c'):
  WC X H' T' s A.cs (M.cells.set i (some c')):=by
 have hl:i<A.cs.length:=(dX hp).1;refine⟨by rw[List.length_set];exact j.lc,λk g c b a=>?_⟩
 by_cases hk:k=i
 ·subst hk;rw[List.getElem?_set_self (by rw[<- j.lc];exact hl)]at a;rw[hp]at b;cases b;cases a;exact e
 ·rw[List.getElem?_set_ne (λz=>hk z.symm)]at a;exact(j.ce k g c b a).mv f (n _ (by omega) (by omega) (by omega)) (n _ (by omega) (by omega) (by omega))
theorem WJ.field(j:WJ X H T s A M)(w:WT H T)(a:s≠0){i k:Nat}{p:Addr×Addr}{c:Ce}{x:Option Int}(hp:A.cs[i]? =some (some p))(e:Ue X.C H T s i p c):
  jo s H (upd H p.2 (.lst ((c.fl.map oV).set k (oV x)))) T T/\WJ X (upd H p.2 (.lst ((c.fl.map oV).set k (oV x)))) T s A { M with cells:=M.cells.set i (some { c with fl:=c.fl.set k x }) }:=by
 refine⟨jo.upd w e.o2 (by rw[e.t2]),?_⟩;have f:xV s (·=101+2 * i) H (upd H p.2 (.lst ((c.fl.map oV).set k (oV x)))) T T:=xV.Cq e.t2;have b:upd H p.2 (.lst ((c.fl.map oV).set k (oV x))) p.2=some (.lst ((c.fl.set k x).map oV)):=by rw[aq,List.map_set]
 obtain⟨dd,o1⟩:=e.o1;exact⟨j.jb.mv f (pL a e.t2) (by omega) (by omega),j.jh.mv f (by omega) (by omega),j.jn.mv f (pL a e.t2) (by omega),j.js.mv f (by omega) (by omega),j.jd.mv f λ_ _ _=>by omega,
  j.jc.chg f hp (λk _ _ n2 z=>n2 z) ⟨e.t1,e.t2,⟨dd,f.at e.t1 (by omega) o1⟩,b⟩⟩
theorem WJ.cell(j:WJ X H T s A M)(w:WT H T)(a:s≠0){i:Nat}{p:Addr×Addr}{c:Ce}{dx:Addr}{tone load:Int}(hp:A.cs[i]? =some (some p))(e:Ue X.C H T s i p c):
  jo s H (upd H p.1 (.ins X.C dx (mY c.birth c.bulk tone load p.2))) T T/\WJ X (upd H p.1 (.ins X.C dx (mY c.birth c.bulk tone load p.2))) T s A { M with cells:=M.cells.set i (some { c with tone:=tone,load:=load }) }:=by
 obtain⟨dd,o1⟩:=e.o1;refine⟨jo.upd w o1 (by rw[e.t1]),?_⟩;have f:xV s (·=100+2 * i) H (upd H p.1 (.ins X.C dx (mY c.birth c.bulk tone load p.2))) T T:=xV.Cq e.t1;exact⟨j.jb.mv f (pL a e.t1) (by omega) (by omega),j.jh.mv f (by omega) (by omega),j.jn.mv f (pL a e.t1) (by omega),j.js.mv f (by omega) (by omega),j.jd.mv f λ_ _ _=>by omega,
  j.jc.chg f hp (λk _ n1 _ z=>n1 z) ⟨e.t1,e.t2,⟨dx,aq⟩,f.at e.t2 (by omega) e.o2⟩⟩
theorem WJ.sweep(j:WJ X H T s A M)(w:WT H T)(a:s≠0){dx:Addr}(S:Sw)(b:S.grey=M.sw.grey):
  jo s H (upd H A.sw (.ins X.S dx (cF S.sense S.phase A.gr S.looked S.turn S.at' S.stop S.walks S.looks S.passes S.loss))) T T/\
  WJ X (upd H A.sw (.ins X.S dx (cF S.sense S.phase A.gr S.looked S.turn S.at' S.stop S.walks S.looks S.passes S.loss))) T s A { M with sw:=S }:=by
 obtain⟨ts,tg,⟨dd,os⟩,og⟩:=j.js;refine⟨jo.upd w os (by rw[ts]),?_⟩;have f:xV s (·=7) H (upd H A.sw (.ins X.S dx (cF S.sense S.phase A.gr S.looked S.turn S.at' S.stop S.walks S.looks S.passes S.loss))) T T:=xV.Cq ts;exact⟨j.jb.mv f (pL a ts) (by omega) (by omega),j.jh.mv f (by omega) (by omega),j.jn.mv f (pL a ts) (by omega),⟨ts,tg,⟨dx,aq⟩,by rw[b];exact f.at tg (by omega) og⟩,j.jd.mv f λ_ _ _=>by omega,j.jc.mv f λ_ _=>by omega⟩
theorem WJ.Zpt(j:WJ X H T s A M)(w:WT H T)(a:s≠0){g:List Int}:jo s H (upd H A.gr (.lst (g.map V.int))) T T/\WJ X (upd H A.gr (.lst (g.map V.int))) T s A { M with sw:={ M.sw with grey:=g } }:=by
 obtain⟨ts,tg,⟨dd,os⟩,og⟩:=j.js;refine⟨jo.upd w og (by rw[tg]),?_⟩;have f:xV s (·=8) H (upd H A.gr (.lst (g.map V.int))) T T:=xV.Cq tg;exact⟨j.jb.mv f (pL a tg) (by omega) (by omega),j.jh.mv f (by omega) (by omega),j.jn.mv f (pL a tg) (by omega),⟨ts,tg,⟨dd,f.at ts (by omega) os⟩,aq⟩,j.jd.mv f λ_ _ _=>by omega,j.jc.mv f λ_ _=>by omega⟩
theorem WJ.back(j:WJ X H T s A M)(w:WT H T)(C:s≠0){i:Nat}{dx:Addr}{used':Int}(hi:i<A.cs.length)(H':Hp)(kp:∀b o,H b=some o->b≠A.hp->b≠A.ca->H' b=some o)(u:H' A.hp=some (.ins X.H dx (j9 M.room A.ca used' M.born)))(B:H' A.ca=some (.lst ((A.cs.map pV).set i V.non))):
  jo s H H' T T/\WJ X H' T s { A with cs:=A.cs.set i none } { M with used:=used',cells:=M.cells.set i none }:=by
 obtain⟨th,tc,⟨dd,oh⟩,oc⟩:=j.jh;have al:∀b o,H b=some o->∃r,H' b=some r:=λb o h=>by
  by_cases z1:b=A.hp
  ·exact⟨_,by rw[z1];exact u⟩
  ·by_cases v:b=A.ca
   ·exact⟨_,by rw[v];exact B⟩
   ·exact⟨o,kp b o h z1 v⟩
 have f:xV s (λk=>k=1\/k=2) H H' T T:=⟨λb o h e n=>kp b o h (λz=>n (.inl (by rw[z,th]))) (λz=>n (.inr (by rw[z,tc]))),λ_ _ _=>rfl⟩;have x:∀b o,H b=some o->T b=(0,0)->H' b=some o:=λb o h t=>kp b o h (Qy t th (λz=>C (congrArg Prod.fst z).symm)) (Qy t tc (λz=>C (congrArg Prod.fst z).symm));refine⟨⟨λb o h n=>kp b o h (λz=>n (by rw[z,th])) (λz=>n (by rw[z,tc])),al,λ_ _ _=>rfl,λb h=>w b ?_⟩,?_⟩
 ·cases z:H b with
  | none=>rfl
  | some o=>obtain⟨r,y⟩:=al b o z;rw[h]at y;cases y
 ·refine⟨?_,⟨th,tc,⟨dx,u⟩,by rw[List.map_set];exact B⟩,?_,?_,j.jd.mv f λ_ _ _=>by omega,⟨by rw[List.length_set,List.length_set];exact j.jc.lc,λk g c a d=>?_⟩⟩
  ·obtain⟨l,p,m,q,E,I,D,F⟩:=j.jb.mv f x (by omega) (by omega);exact⟨l,p,m,q,E,I,D,F⟩
  ·obtain⟨l,p,m⟩:=j.jn.mv f x (by omega);exact⟨l,p,m⟩
  ·obtain⟨l,p,m,q⟩:=j.js.mv f (by omega) (by omega);exact⟨l,p,m,q⟩
  ·by_cases hk:k=i
   ·subst hk;dsimp only at a d;rw[List.getElem?_set_self hi]at a;rw[List.getElem?_set_self (by rw[<- j.jc.lc];exact hi)]at d;cases a;cases d
    trivial
   ·dsimp only at a d;rw[List.getElem?_set_ne (λz=>hk z.symm)]at a d;exact(j.jc.ce k g c a d).mv f (by omega) (by omega)
end
def lM{a:Type}:List (Option a)->Nat
 | []=>0
 | none::_=>0
 | some _::l=>lM l+1
def mZ{a:Type}(l:List (Option a))(x:a):List (Option a):=if lM l<l.length then l.set (lM l) (some x)else l++[some x]
theorem XR{b:Type}(l:List (Option b)):lM l<=l.length:=by
 induction l with
 | nil=>exact Nat.le_refl _
 | cons a l ih=>cases a with
  | none=>exact Nat.zero_le _
  | some a=>exact Nat.succ_le_succ ih
theorem Zox{b:Type}{l:List (Option b)}(h:lM l<l.length):l[lM l]? =some none:=by
 induction l with
 | nil=>exact absurd h (Nat.lt_irrefl _)
 | cons a l ih=>cases a with
  | none=>rfl
  | some a=>exact ih (Nat.lt_of_succ_lt_succ h)
theorem Zaa{c:Type}{f:Option c->V}(d:∀x,f x=V.non↔x=none)(l:List (Option c)):(l.map f).idxOf V.non=lM l/\(V.non∈l.map f↔lM l<l.length):=by
 induction l with
 | nil=>exact⟨rfl,⟨λz=>(nomatch z),λz=>absurd z (Nat.lt_irrefl _)⟩⟩
 | cons a l ih=>
  rw[List.map_cons,List.idxOf_cons];cases a with
  | none=>
   have e:f none=V.non:=(d none).mpr rfl;rw[e];exact⟨rfl,⟨λ_=>Nat.zero_lt_succ _,λ_=>List.mem_cons_self⟩⟩
  | some a=>
   have e:f (some a)≠V.non:=λz=>by cases (d (some a)).mp z
   have b:(f (some a) == V.non)=false:=beq_eq_false_iff_ne.mpr e;rw[b];refine⟨congrArg (· + 1) ih.1,?_⟩;show _↔lM l+1<l.length+1;rw[List.mem_cons,ih.2];constructor
   ·rintro(z | z)
    ·exact absurd z.symm e
    ·omega
   ·intro z;exact .inr (by omega)
theorem Zio{a:Type}{f:Option a->V}(d:∀x,f x=V.non↔x=none)(l:List (Option a))(x:a):putN (l.map f) (f (some x))=(mZ l x).map f:=by
 obtain⟨c,b⟩:=Zaa d l;unfold putN mZ
 by_cases z:lM l<l.length
 ·rw[if_pos z,if_pos (b.mpr z),List.map_set];exact congrArg (λk=>(l.map f).set k (f (some x))) c
 ·rw[if_neg z,if_neg (λw=>z (b.mp w)),List.map_append];rfl
theorem Zj9(p:Option (Addr×Addr)):pV p=V.non↔p=none:=by cases p<;>simp[pV]
theorem Oa{a:Type}(l:List (Option a))(x:a):(mZ l x)[lM l]? =some (some x):=by
 unfold mZ
 by_cases z:lM l<l.length
 ·rw[if_pos z,List.getElem?_set_self z]
 ·have e:lM l=l.length:=Nat.le_antisymm (XR l) (by omega);rw[if_neg z,e,List.getElem?_append_right (Nat.le_refl _),Nat.sub_self];rfl
theorem Zer{a:Type}{l:List (Option a)}{x:a}{i:Nat}{y:Option a}(hi:i≠lM l)(h:(mZ l x)[i]? =some y):l[i]? =some y:=by
 unfold mZ at h
 by_cases z:lM l<l.length
 ·rw[if_pos z,List.getElem?_set_ne (λw=>hi w.symm)]at h;exact h
 ·rw[if_neg z]at h;have e:lM l=l.length:=Nat.le_antisymm (XR l) (by omega);have hl:=(dX h).1;rw[List.length_append,List.length_singleton]at hl;rw[List.getElem?_append_left (by omega)]at h;exact h
theorem Ziq{a b:Type}{l:List (Option a)}{m:List (Option b)}{x:a}{y:b}(hl:l.length=m.length)(c:lM l=lM m):(mZ l x).length=(mZ m y).length:=by
 unfold mZ
 by_cases z:lM l<l.length
 ·rw[if_pos z,if_pos (by omega),List.length_set,List.length_set];exact hl
 ·rw[if_neg z,if_neg (by omega),List.length_append,List.length_append,hl];rfl
theorem Zmz{a:Type}(l:List (Option a))(x:a):(mZ l x).length<=l.length+1:=by
 unfold mZ
 by_cases z:lM l<l.length
 ·rw[if_pos z,List.length_set];omega
 ·rw[if_neg z,List.length_append];exact Nat.le_refl _
theorem Zow{d f:Type}:∀(l:List (Option d)) (m:List (Option f)),l.length=m.length->(∀(i:Nat) x y,l[i]? =some x->m[i]? =some y->(x=none↔y=none))->lM l=lM m:=by
 intro l
 induction l with
 | nil=>
  intro m hl _;cases m with
  | nil=>rfl
  | cons b m=>simp at hl
 | cons a l ih=>
  intro m hl h;cases m with
  | nil=>simp at hl
  | cons b m=>
   have c:=ih m (by simpa using hl) λi x y h1 h2=>h (i+1) x y (by simpa using h1) (by simpa using h2);have e:=h 0 a b rfl rfl;cases a with
   | none=>rw[e.mp rfl];rfl
   | some a=>cases b with
    | none=>exact absurd (e.mpr rfl) (λz=>by cases z)
    | some b=>exact congrArg (· + 1) c
section
variable {X:Cs}{H H':Hp}{T T':Tg}{s:Nat}{A:Wa}{M:Wm}
theorem WC.fst(j:WC X H T s A.cs M.cells):lM A.cs=lM M.cells:=Zow _ _ j.lc λi p c a b=>by
 have e:=j.ce i p c a b;cases p with
 | none=>cases c with
  | none=>exact⟨λ_=>rfl,λ_=>rfl⟩
  | some c=>exact e.elim
 | some p=>cases c with
  | none=>exact e.elim
  | some c=>exact⟨λz=>(by cases z),λz=>(by cases z)⟩
theorem WJ.put(j:WJ X H T s A M)(w:WT H T)(J:s≠0){dx:Addr}{used':Int}{p fa:Addr}{c:Ce}(kp:∀b o,H b=some o->b≠A.hp->b≠A.ca->H' b=some o)(y:H' A.hp=some (.ins X.H dx (j9 M.room A.ca used' (M.born+1))))(I:H' A.ca=some (.lst (putN (A.cs.map pV) (.ref p))))
  (n1:H p=none) (n2:H fa=none) (L:p≠fa) (o1:∃dx,H' p=some (.ins X.C dx (mY c.birth c.bulk c.tone c.load fa))) (o2:H' fa=some (.lst (c.fl.map oV))):
  ∃T',jo s H H' T T'/\WJ X H' T' s { A with cs:=mZ A.cs (p,fa) } { M with used:=used',born:=M.born+1,cells:=mZ M.cells c }:=by
 obtain⟨th,tc,⟨dd,oh⟩,oc⟩:=j.jh;have u:=j.jc.fst
 let k:=lM A.cs
 let T':Tg:=jR (jR T p (s,100+2 * k)) fa (s,101+2 * k)
 have told:∀b o,H b=some o->T' b=T b:=λb o h=>by
  show jR _ _ _ b=_;rw[lF (aD h n2),lF (aD h n1)]
 have t1:T' p=(s,100+2 * k):=by show jR _ _ _ p=_;rw[lF L,ji]
 have t2:T' fa=(s,101+2 * k):=by show jR _ _ _ fa=_;rw[ji]
 have al:∀b o,H b=some o->∃x,H' b=some x:=λb o h=>by
  by_cases z1:b=A.hp
  ·exact⟨_,by rw[z1];exact y⟩
  ·by_cases B:b=A.ca
   ·exact⟨_,by rw[B];exact I⟩
   ·exact⟨o,kp b o h z1 B⟩
 have f:xV s (λk=>k=1\/k=2) H H' T T':=⟨λb o h e n=>kp b o h (λz=>n (.inl (by rw[z,th]))) (λz=>n (.inr (by rw[z,tc]))),told⟩;have E:∀b o,H b=some o->T b=(0,0)->H' b=some o:=λb o h t=>kp b o h (Qy t th (λz=>J (congrArg Prod.fst z).symm)) (Qy t tc (λz=>J (congrArg Prod.fst z).symm));refine⟨T',⟨λb o h D=>kp b o h (λz=>D (by rw[z,th])) (λz=>D (by rw[z,tc])),al,told,λb h=>?_⟩,?_⟩
 ·have a:b≠p:=λe=>by obtain⟨d,z⟩:=o1;rw[e,z]at h;cases h
  have l:b≠fa:=λe=>by rw[e,o2]at h;cases h
  have hb:H b=none:=by
   cases z:H b with
   | none=>rfl
   | some o=>obtain⟨x,F⟩:=al b o z;rw[h]at F;cases F
  show jR _ _ _ b=_;rw[lF l,lF a];exact w b hb
 ·refine⟨?_,⟨f.tag oh th,f.tag oc tc,⟨dx,y⟩,?_⟩,?_,?_,j.jd.mv f λ_ _ _=>by omega,⟨Ziq j.jc.lc u,λi g K q r=>?_⟩⟩
  ·obtain⟨a,l,m,v,O,Q,N,P⟩:=j.jb.mv f E (by omega) (by omega);exact⟨a,l,m,v,O,Q,N,P⟩
  ·show H' A.ca=some (.lst ((mZ A.cs (p,fa)).map pV));rw[<- Zio Zj9];exact I
  ·obtain⟨a,l,m⟩:=j.jn.mv f E (by omega);exact⟨a,l,m⟩
  ·obtain⟨a,l,m,v⟩:=j.js.mv f (by omega) (by omega);exact⟨a,l,m,v⟩
  ·dsimp only at q r
   by_cases hk:i=lM A.cs
   ·subst hk;rw[Oa]at q;rw[u,Oa]at r;cases q;cases r;exact⟨t1,t2,o1,o2⟩
   ·exact(j.jc.ce i g K (Zer hk q) (Zer (by rw[<- u];exact hk) r)).mv f (by omega) (by omega)
end
def cellAt(M:Wm)(x:Int):Option Ce:=if 0<=x then(M.cells[x.toNat]?).join else none
def sS(M:Wm):Option Int->Option Int
 | none=>none
 | some x=>(cellAt M x).map (·.birth)
def aR(M:Wm)(h k:Nat):Option Int:=((M.hands[h]?).bind λm=>m.2[k]?).join
def setSlot(M:Wm)(h k:Nat)(x:Option Int):Wm:={ M with hands:=M.hands.modify h λm=>(m.1,m.2.set k x) }
def setCell(M:Wm)(i:Int)(c:Ce):Wm:={ M with cells:=M.cells.set i.toNat (some c) }
def bY(M:Wm):Option Int->Option Int×Wm
 | none=>(none,M)
 | some i=>match cellAt M i with
  | none=>(none,M)
  | some c=>if M.sw.phase="walk"/\c.tone≠M.sw.sense then(some c.birth,{ setCell M i { c with tone:=M.sw.sense }with sw:={ M.sw with grey:=M.sw.grey++[i] } })else(none,M)
def bB(M:Wm)(h:Nat):Bool:=decide (M.sw.looked / 2 ^ h % 2=1)
def pU(M:Wm)(a birth:Int):Bool:=match cellAt M a with
 | none=>true
 | some c=>if c.birth=birth then decide (M.sw.phase="give"/\c.tone≠M.sw.sense)else true
def vq(l:List (Str×(Int×Int)))(k:Str)(v:Int×Int):List (Str×(Int×Int)):=if (l.any λm=>decide (m.1=k))=true then l.map (λm=>if m.1=k then(m.1,v)else m)else l++[(k,v)]
def ym(l:List (Str×(Int×Int)))(k:Str):Option (Int×Int):=(l.find? λm=>decide (m.1=k)).map (·.2)
inductive Rf where
 | full | empty | rR | Qv
 deriving DecidableEq
structure Ev where
 word:Str
 thing:Option Int
 notes:List Int
inductive nY where
 | make (h s:Nat) (many bulk:Int)
 | get (h s t f:Nat)
 | put (h t f s:Nat)
 | copy (h s t:Nat)
 | drop (h s:Nat)
 | give (h s g t:Nat)
 | write (h t:Nat) (load:Int)
 | read (h t:Nat)
 | name (h t:Nat) (word:Str)
 | seek (h s:Nat) (word:Str)
def old?(M:Wm):Bool:=decide (M.tells % 2=1)
def qu(M:Wm):Bool:=decide (M.tells / 2 % 2=1)
def ofN:Option Int->List Int
 | none=>[]
 | some b=>[b]
def aP(M:Wm):List (Option Int)->List Int×Wm
 | []=>([],M)
 | x::l=>(ofN (bY M x).1++(aP (bY M x).2 l).1,(aP (bY M x).2 l).2)
def qN(M:Wm):nY->Except Rf (Ev×Wm)
 | .make h s many bulk=>
  if M.used+(1+many+bulk)<=M.room then
   .ok (⟨"made",some (M.born+1),[]⟩,setSlot { M with used:=M.used+(1+many+bulk),born:=M.born+1,cells:=mZ M.cells ⟨M.born+1,bulk,M.sw.sense,0,List.replicate many.toNat none⟩ } h s (some (lM M.cells)))
  else .error .full
 | .get h s t f=>match aR M h t with
  | none=>.error .empty
  | some x=>match cellAt M x with
   | none=>.error .empty
   | some c=>match c.fl[f]? with
    | none=>.error .rR
    | some v=>.ok (⟨"got",sS M v,[]⟩,setSlot M h s v)
 | .put h t f s=>match aR M h t with
  | none=>.error .empty
  | some x=>match cellAt M x with
   | none=>.error .empty
   | some c=>match c.fl[f]? with
    | none=>.error .rR
    | some v=>
     let M1:=setCell M x { c with fl:=c.fl.set f (aR M h s) }
     let r:=aP M1 ((if old? M=true then [v]else [])++if (qu M && !bB M h)=true then [aR M h s]else [])
     .ok (⟨"put",sS M v,r.1⟩,r.2)
 | .copy h s t=>.ok (⟨"copied",sS M (aR M h t),[]⟩,setSlot M h s (aR M h t))
 | .drop h s=>.ok (⟨"dropped",sS M (aR M h s),[]⟩,setSlot M h s none)
 | .give h s g t=>
  let r:=aP (setSlot M g t (aR M h s)) (if (qu M && !bB M h)=true then [aR M h s]else [])
  .ok (⟨"given",sS M (aR M h s),r.1⟩,r.2)
 | .write h t load=>match aR M h t with
  | none=>.error .empty
  | some x=>match cellAt M x with
   | none=>.error .empty
   | some c=>.ok (⟨"wrote",some c.load,[]⟩,setCell M x { c with load:=load })
 | .read h t=>match aR M h t with
  | none=>.error .empty
  | some x=>match cellAt M x with
   | none=>.error .empty
   | some c=>.ok (⟨"read",some c.load,[]⟩,M)
 | .name h t word=>match aR M h t with
  | none=>.error .empty
  | some x=>match cellAt M x with
   | none=>.error .empty
   | some c=>.ok (⟨"named",some c.birth,[]⟩,{ M with names:=vq M.names word (x,c.birth) })
 | .seek h s word=>match ym M.names word with
  | none=>.error .Qv
  | some (p,b)=>
   if pU M p b=true then .ok (⟨"sought",none,[]⟩,setSlot M h s none)
   else
    let r:=aP (setSlot M h s (some p)) [some p]
    .ok (⟨"sought",some b,r.1⟩,r.2)
def dV:nY->List V
 | .make h s many bulk=>[.str "make",.int h,.int s,.int many,.int bulk]
 | .get h s t f=>[.str "get",.int h,.int s,.int t,.int f]
 | .put h t f s=>[.str "put",.int h,.int t,.int f,.int s]
 | .copy h s t=>[.str "copy",.int h,.int s,.int t]
 | .drop h s=>[.str "drop",.int h,.int s]
 | .give h s g t=>[.str "give",.int h,.int s,.int g,.int t]
 | .write h t load=>[.str "write",.int h,.int t,.int load]
 | .read h t=>[.str "read",.int h,.int t]
 | .name h t word=>[.str "name",.int h,.int t,.str word]
 | .seek h s word=>[.str "seek",.int h,.int s,.str word]
def An(M:Wm)(h s:Nat):Prop:=∃m,M.hands[h]? =some m/\s<m.2.length
def okD(M:Wm):nY->Prop
 | .make h s many bulk=>An M h s/\0<=many/\many<=1000/\0<=bulk
 | .get h s t _=>An M h s/\An M h t
 | .put h t _ s=>An M h t/\An M h s
 | .copy h s t=>An M h s/\An M h t
 | .drop h s=>An M h s
 | .give h s g t=>An M h s/\An M g t
 | .write h t _=>An M h t
 | .read h t=>An M h t
 | .name h t _=>An M h t
 | .seek h s _=>An M h s
structure Ok(M:Wm):Prop where
 sl:∀m∈M.hands,∀x,some x∈m.2->∃c,cellAt M x=some c
 fl:∀c,some c∈M.cells->∀x,some x∈c.fl->∃d,cellAt M x=some d
 tn:∀c,some c∈M.cells->c.tone=0\/c.tone=1
def Am(d c a b:Addr):Rf->Addr
 | .full=>d
 | .empty=>c
 | .rR=>a
 | .Qv=>b
def EvN(H0 H:Hp)(a:Addr)(e:Ev):Prop:=∃l,H0 l=none/\H a=some (.tup [.str e.word,oV e.thing,.ref l])/\H l=some (.lst (e.notes.map V.int))
def cz(X:Cs)(f:Rf->Addr)(P:nY->Prop):Sp:=λvs H Q E=>∃wo dd,vs=[.ref wo,.ref dd]/\∃T s A M d,P d/\WT H T/\s≠0/\WJ X H T s A M/\A.wo=wo/\H dd=some (.tup (dV d))/\okD M d/\M.cells.length<=900/\(M.sw.phase="walk"->M.sw.grey.length<=10000)/\(0<=M.tells/\M.tells<4)/\M.names.length<=1000/\
 (∀r,qN M d=.error r->∀H',aU H H'->E (.ref (f r)) none H')/\
 (∀e c,qN M d=.ok (e,c)->∀H' T' b a,jo s H H' T T'->WJ X H' T' s b c->b.wo=wo->EvN H H' a e->Q (.ref a) H')
abbrev ZCq(X:Cs)(rf:Rf->Addr):Sp:=cz X rf λ_=>True
theorem Zfz{b:Type}{l:List (Option b)}{x a:b}{i:Nat}(h:l[i]? =some (some a)):(mZ l x)[i]? =some (some a):=by
 have hl:=(dX h).1;unfold mZ
 by_cases z:lM l<l.length
 ·have hi:i≠lM l:=λe=>by rw[e,Zox z]at h;cases h
  rw[if_pos z,List.getElem?_set_ne (λw=>hi w.symm)];exact h
 ·rw[if_neg z,List.getElem?_append_left hl];exact h
theorem bT{M:Wm}{x:Int}{c:Ce}:cellAt M x=some c↔0<=x/\M.cells[x.toNat]? =some (some c):=by
 unfold cellAt
 by_cases z:0<=x
 ·rw[if_pos z];cases e:M.cells[x.toNat]? with
  | none=>simp
  | some y=>cases y with
   | none=>simp
   | some d=>simp[z]
 ·rw[if_neg z];simp[z]
theorem nJ{M:Wm}{x:Int}{c:Ce}(h:cellAt M x=some c):some c∈M.cells:=List.mem_of_getElem? (bT.mp h).2
theorem zY{M:Wm}{x u b:Int}{c d:Ce}(h:cellAt M x=some d):cellAt { M with used:=u,born:=b,cells:=mZ M.cells c } x=some d:=by
 obtain⟨a,h1⟩:=bT.mp h;exact bT.mpr ⟨a,Zfz h1⟩
theorem Gj{M:Wm}{u b:Int}{c:Ce}:cellAt { M with used:=u,born:=b,cells:=mZ M.cells c } (lM M.cells)=some c:=
 bT.mpr ⟨by omega,by rw[Int.toNat_natCast];exact Oa _ _⟩
theorem Zjv{a:Type}{l:List (Option a)}{x:a}{y:Option a}(h:y∈mZ l x):y∈l\/y=some x:=by
 unfold mZ at h
 by_cases z:lM l<l.length
 ·rw[if_pos z]at h;rcases List.mem_or_eq_of_mem_set h with h | h
  ·exact .inl h
  ·exact .inr h
 ·rw[if_neg z]at h;rcases List.mem_append.mp h with h | h
  ·exact .inl h
  ·exact .inr (List.mem_singleton.mp h)
theorem Zfs{M:Wm}{h k:Nat}{m:Str×List (Option Int)}{x:Option Int}(hm:M.hands[h]? =some m)(hk:m.2[k]? =some x):aR M h k=x:=by
 unfold aR;rw[hm];show(m.2[k]?).join=x;rw[hk];rfl
theorem ZR{M:Wm}{h k:Nat}(o:An M h k):∃m,M.hands[h]? =some m/\m.2[k]? =some (aR M h k)/\k<m.2.length:=by
 obtain⟨m,hm,hk⟩:=o;refine⟨m,hm,?_,hk⟩;rw[Zfs hm (bL hk)];exact bL hk
theorem RV{M:Wm}{h k:Nat}{x:Option Int}{m:Str×List (Option Int)}(hm:M.hands[h]? =some m):(setSlot M h k x).hands=M.hands.set h (m.1,m.2.set k x):=by
 show M.hands.modify h _=_;apply List.ext_getElem?;intro i;rw[List.getElem?_modify]
 by_cases e:h=i
 ·subst e;rw[List.getElem?_set_self (dX hm).1,hm];simp
 ·rw[List.getElem?_set_ne e];simp[e]
theorem pW{M:Wm}{h k:Nat}{x:Option Int}{y:Option Int}:sS (setSlot M h k x) y=sS M y:=by cases y<;>rfl
def rowsOf(M:Wm):List (List (Option Int)):=M.hands.map λm=>m.2.map (sS M)
theorem Zd3{M:Wm}(h:M.sw.phase≠"walk")(x:Option Int):bY M x=(none,M):=by
 cases x with
 | none=>rfl
 | some x=>
  unfold bY;dsimp only;cases cellAt M x with
  | none=>rfl
  | some c=>
   dsimp only;rw[if_neg (λz=>h z.1)]
theorem Zal{M:Wm}{h s:Nat}{many bulk:Int}(a:M.used+(1+many+bulk)<=M.room):qN M (.make h s many bulk)=.ok (⟨"made",some (M.born+1),[]⟩,setSlot { M with used:=M.used+(1+many+bulk),born:=M.born+1,cells:=mZ M.cells ⟨M.born+1,bulk,M.sw.sense,0,List.replicate many.toNat none⟩ } h s (some (lM M.cells))):=by
 show(if _ then _ else _)=_;rw[if_pos a]
structure qI(K:aC)(X:Cs):Prop where
 c:TxC K X.C X.H
 cW:Gy K X.W
 KJ:bK K X.W "heap"
 nWk:bK K X.W "kind"
 nWd:bK K X.W "hands"
 nWn:bK K X.W "names"
 Qz:bK K X.W "sweeper"
 cD:Gy K X.D
 nDn:bK K X.D "name"
 nDs:bK K X.D "slots"
 cK:Gy K X.K
 nKl:bK K X.K "looking"
 nKt:bK K X.K "tells"
 cS:Gy K X.S
 n1:bK K X.S "sense"
 n2:bK K X.S "phase"
 n3:bK K X.S "grey"
 n4:bK K X.S "looked"
 n5:bK K X.S "turn"
 n6:bK K X.S "at"
 n7:bK K X.S "stop"
 n8:bK K X.S "walks"
 n9:bK K X.S "looks"
 n10:bK K X.S "passes"
 n11:bK K X.S "loss"
structure Yz(X:Cs)(H:Hp)(T:Tg)(s:Nat)(A:Wa)(M:Wm):Prop where
 jb:WB X H T s A M.w M.tells
 jh:WH X H T s A M.room M.used M.born
 js:WS X H T s A M.sw
 jd:WD X H T s A.hs M.hands
 jc:WC X H T s A.cs M.cells
theorem WJ.w0{X:Cs}{H:Hp}{T:Tg}{s:Nat}{A:Wa}{M:Wm}(j:WJ X H T s A M):Yz X H T s A M:=⟨j.jb,j.jh,j.js,j.jd,j.jc⟩
theorem WJ.names{X:Cs}{H:Hp}{T:Tg}{s:Nat}{A:Wa}{M:Wm}{o:HO}(j:WJ X H T s A M)(a:s≠0):Yz X (upd H A.nm o) T s A M:=by
 have f:xV s (·=6) H (upd H A.nm o) T T:=xV.Cq j.jn.tm;exact⟨j.jb.mv f (pL a j.jn.tm) (by omega) (by omega),j.jh.mv f (by omega) (by omega),j.js.mv f (by omega) (by omega),j.jd.mv f λ_ _ _=>by omega,j.jc.mv f λ_ _=>by omega⟩
theorem Yz.same{X:Cs}{H H':Hp}{T:Tg}{s:Nat}{A:Wa}{M:Wm}(j:Yz X H T s A M)(e:aU H H'):Yz X H' T s A M:=by
 have f:xV s (λ_=>False) H H' T T:=xV.of_same e;exact⟨j.jb.mv f (λb o h _=>e b o h) id id,j.jh.mv f id id,j.js.mv f id id,j.jd.mv f λ_ _ _=>id,j.jc.mv f λ_ _=>id⟩
def atO(cs:List V):V->V
 | .int i=>if 0<=i then(cs[i.toNat]?).getD .non else .non
 | _=>.non
def d7(a:Addr):Sp:=λvs H Q E=>∃hp pl,vs=[.ref hp,pl]/\(pl=.non\/∃i,pl=.int i)/\∃ca room used born cs,HpO a H hp ca room used born cs/\Q (atO cs pl) H
def cO(M:Wm)(x:Option Int):Option Ce:=x.bind (cellAt M)
def cJ(X:Cs):Sp:=λvs H Q E=>∃hp pl,vs=[.ref hp,pl]/\∃x,pl=oV x/\∃T s A M,WJ X H T s A M/\A.hp=hp/\Q (oV (sS M x)) H
def vW(X:Cs):Sp:=λvs H Q E=>∃p f,vs=[.ref p,.int f]/\∃T s i q c,Ue X.C H T s i q c/\q.1=p/\Q (.bl (decide (0<=f) && decide (f<c.fl.length))) H
def cg(X:Cs):Sp:=λvs H Q E=>∃wo h,vs=[.ref wo,.int h]/\∃T s A M k p,WJ X H T s A M/\A.wo=wo/\h=((k:Nat):Int)/\A.hs[k]? =some p/\Q (.ref p.2) H
def cL(X:Cs):Sp:=λvs H Q E=>∃wo p,vs=[.ref wo,.ref p]/\∃T s A M i q c,Yz X H T s A M/\A.wo=wo/\Ue X.C H T s i q c/\q.1=p/\Q (.bl (decide (c.tone=M.sw.sense))) H
def nM(X:Cs):Sp:=λvs H Q E=>∃wo h,vs=[.ref wo,.int h]/\∃T s A M k,WJ X H T s A M/\A.wo=wo/\h=((k:Nat):Int)/\Q (.bl (bB M k)) H
def z6(X:Cs):Sp:=λvs H Q E=>∃wo v,vs=[.ref wo,v]/\∃T s A M,WJ X H T s A M/\A.wo=wo/\(0<=M.tells/\M.tells<4)/\∀l,H l=none->Q (.ref l) (upd H l (.lst (if old? M=true then [v]else [])))
def pM(X:Cs):Sp:=λvs H Q E=>∃wo h v,vs=[.ref wo,.int h,v]/\∃T s A M k,WJ X H T s A M/\A.wo=wo/\(0<=M.tells/\M.tells<4)/\h=((k:Nat):Int)/\∀l,H l=none->Q (.ref l) (upd H l (.lst (if (qu M && !bB M k)=true then [v]else [])))
def jP(X:Cs)(CE:Addr):Sp:=λvs H Q E=>∃wo h t,vs=[.ref wo,.int h,.int t]/\∃T s A M hn tn,WJ X H T s A M/\A.wo=wo/\h=((hn:Nat):Int)/\t=((tn:Nat):Int)/\An M hn tn/\
 (cO M (aR M hn tn)=none->E (.ref CE) none H)/\
 (∀i c p,aR M hn tn=some i->0<=i->cellAt M i=some c->A.cs[i.toNat]? =some (some p)->Ue X.C H T s i.toNat p c->Q (.ref p.1) H)
def nO(X:Cs)(CE a:Addr):Sp:=λvs H Q E=>∃wo h t f,vs=[.ref wo,.int h,.int t,.int f]/\∃T s A M hn tn fn,WJ X H T s A M/\A.wo=wo/\h=((hn:Nat):Int)/\t=((tn:Nat):Int)/\f=((fn:Nat):Int)/\An M hn tn/\
 (cO M (aR M hn tn)=none->E (.ref CE) none H)/\
 (∀i c,aR M hn tn=some i->0<=i->cellAt M i=some c->c.fl[fn]? =none->E (.ref a) none H)/\
 (∀i c p,aR M hn tn=some i->0<=i->cellAt M i=some c->A.cs[i.toNat]? =some (some p)->Ue X.C H T s i.toNat p c->fn<c.fl.length->Q (.ref p.2) H)
def YD(X:Cs):Sp:=λvs H Q E=>∃wo pl,vs=[.ref wo,pl]/\∃x,pl=oV x/\∃T s A M,WT H T/\s≠0/\WJ X H T s A M/\A.wo=wo/\(M.sw.phase="walk"->M.sw.grey.length<=20000)/\
 ∀H',jo s H H' T T->WJ X H' T s A (bY M x).2->Q (oV (bY M x).1) H'
def PlO(H:Hp)(T:Tg)(A:Wa)(M:Wm)(pl:Addr)(xs:List (Option Int)):Prop:=(H pl=some (.lst (xs.map oV))/\T pl=(0,0))\/(∃(k:Nat) (p:Addr×Addr) (m:Str×List (Option Int)),A.hs[k]? =some p/\M.hands[k]? =some m/\pl=p.2/\xs=m.2)\/(∃(k:Nat) (p:Addr×Addr) (c:Ce),A.cs[k]? =some (some p)/\M.cells[k]? =some (some c)/\pl=p.2/\xs=c.fl)
theorem PlO.get{X:Cs}{H:Hp}{T:Tg}{s:Nat}{A:Wa}{M:Wm}{pl:Addr}{xs:List (Option Int)}(h:PlO H T A M pl xs)(j:WJ X H T s A M):H pl=some (.lst (xs.map oV)):=by
 rcases h with ⟨h,_⟩ | ⟨k,p,m,h1,h2,rfl,rfl⟩ | ⟨k,p,c,h1,h2,rfl,rfl⟩
 ·exact h
 ·exact(j.jd.hd k p m h1 h2).o2
 ·have e:=j.jc.ce k _ _ h1 h2;exact(show Ue X.C H T s k p c from e).o2
def fJ(X:Cs):Sp:=λvs H Q E=>∃wo pl,vs=[.ref wo,.ref pl]/\∃xs T s A M,WT H T/\s≠0/\WJ X H T s A M/\A.wo=wo/\PlO H T A M pl xs/\xs.length<=100/\(M.sw.phase="walk"->M.sw.grey.length<=10000)/\
 ∀H' T' l,jo s H H' T T'->WJ X H' T' s A (aP M xs).2->H' l=some (.lst ((aP M xs).1.map V.int))->H l=none->Q (.ref l) H'
def Gs(X:Cs):Sp:=λvs H Q E=>∃wo p b,vs=[.ref wo,.int p,.int b]/\∃T s A M,Yz X H T s A M/\A.wo=wo/\Q (.bl (pU M p b)) H
def su(X:Cs)(a:Addr):Sp:=λvs H Q E=>∃wo z,vs=[.ref wo,.str z]/\∃T s A M,WJ X H T s A M/\A.wo=wo/\(ym M.names z=none->E (.ref a) none H)/\(∀p b,ym M.names z=some (p,b)->Q (if pU M p b=true then .non else .int p) H)
theorem yg(x:Option Int):oV x=.non\/∃i,oV x=.int i:=by cases x with
 | none=>exact .inl rfl
 | some i=>exact .inr ⟨i,rfl⟩
section
variable {X:Cs}{H H':Hp}{T T':Tg}{s:Nat}{A:Wa}{M:Wm}
theorem Yz.hpO(j:Yz X H T s A M):HpO X.H H A.hp A.ca M.room M.used M.born (A.cs.map pV):=⟨j.jh.oh,j.jh.oc⟩
theorem Yz.look(j:Yz X H T s A M)(x:Option Int):(cO M x=none/\atO (A.cs.map pV) (oV x)=.non)\/∃i c p,x=some i/\0<=i/\cellAt M i=some c/\M.cells[i.toNat]? =some (some c)/\A.cs[i.toNat]? =some (some p)/\atO (A.cs.map pV) (oV x)=.ref p.1/\Ue X.C H T s i.toNat p c:=by
 cases x with
 | none=>exact .inl ⟨rfl,rfl⟩
 | some i=>
  show(cellAt M i=none/\atO _ (.int i)=_)\/_
  by_cases a:0<=i
  ·cases hc:M.cells[i.toNat]? with
   | none=>
    have hl:A.cs[i.toNat]? =none:=by
     rw[List.getElem?_eq_none_iff]at hc ⊢;rw[j.jc.lc];exact hc
    refine .inl ⟨by unfold cellAt;rw[if_pos a,hc];rfl,?_⟩;show(if 0<=i then _ else _)=_;rw[if_pos a,cA,hl];rfl
   | some y=>cases y with
    | none=>
     refine .inl ⟨by unfold cellAt;rw[if_pos a,hc];rfl,?_⟩;show(if 0<=i then _ else _)=_;rw[if_pos a,cA,j.jc.at0 hc];rfl
    | some c=>
     obtain⟨p,hp,e⟩:=j.jc.at hc;refine .inr ⟨i,c,p,rfl,a,by unfold cellAt;rw[if_pos a,hc];rfl,hc,hp,?_,e⟩;show(if 0<=i then _ else _)=_;rw[if_pos a,cA,hp];rfl
  ·refine .inl ⟨by unfold cellAt;rw[if_neg a],?_⟩;show(if 0<=i then _ else _)=_;rw[if_neg a]
theorem WJ.hpO(j:WJ X H T s A M):HpO X.H H A.hp A.ca M.room M.used M.born (A.cs.map pV):=j.w0.hpO
theorem WJ.look(j:WJ X H T s A M)(x:Option Int):(cO M x=none/\atO (A.cs.map pV) (oV x)=.non)\/∃i c p,x=some i/\0<=i/\cellAt M i=some c/\M.cells[i.toNat]? =some (some c)/\A.cs[i.toNat]? =some (some p)/\atO (A.cs.map pV) (oV x)=.ref p.1/\Ue X.C H T s i.toNat p c:=j.w0.look x
theorem WJ.hand(j:WJ X H T s A M){k:Nat}{p:Addr×Addr}(hp:A.hs[k]? =some p):∃m,M.hands[k]? =some m/\HdO X.D H T s k p m:=by
 have hl:k<M.hands.length:=by rw[<- j.jd.lh];exact(dX hp).1
 exact⟨_,bL hl,j.jd.hd k p _ hp (bL hl)⟩
theorem WJ.handOf(j:WJ X H T s A M){h t:Nat}(o:An M h t):∃p m,A.hs[h]? =some p/\M.hands[h]? =some m/\m.2[t]? =some (aR M h t)/\t<m.2.length/\HdO X.D H T s h p m:=by
 obtain⟨m,hm,hk,hl⟩:=ZR o;have hh:h<A.hs.length:=by rw[j.jd.lh];exact(dX hm).1
 exact⟨_,m,bL hh,hm,hk,hl,j.jd.hd h _ m (bL hh) hm⟩
theorem WJ.fresh(j:WJ X H T s A M){l:Addr}{o:HO}{v:Nat×Nat}(h:H l=none):WJ X (upd H l o) (jR T l v) s A M:=
 j.mv (H':=upd H l o) (T':=jR T l v) ⟨λb u e _ _=>by rw[aB (aD e h)];exact e,λb u e=>lF (aD e h)⟩ λb u e _=>by rw[aB (aD e h)];exact e
end
theorem Zur{t:Int}(h:0<=t/\t<4):Builtin.bitAnd t 1=t % 2/\(Builtin.bitAnd t 2=0↔¬ t / 2 % 2=1):=by
 have:t=0\/t=1\/t=2\/t=3:=by omega
 rcases this with rfl | rfl | rfl | rfl<;>decide
section
variable {K:aC}{X:Cs}{H:Hp}{Q:VK}{E:XK}{n:St->Hp->Prop}{bk ct:St->Hp->Prop}
theorem Zec{hp:Addr}{pl:V}(T:qI K X)(q:(pl=.non\/∃i,pl=.int i)/\∃ca room used born cs,HpO X.H H hp ca room used born cs/\Q (atO cs pl) H):FJ K ⟨n,Q,bk,ct⟩ [some (.ref hp),some pl] H:=by
 obtain⟨a,ca,room,used,born,cs,⟨⟨dx,h1⟩,h2⟩,q⟩:=q;unfold FJ;rcases a with rfl | ⟨i,rfl⟩
 ·walk_at"e";exact q
 ·walk_at"e";refine uw (λz=>?_) (λz=>?_)
  ·walk_at"e";rw[show atO cs (.int i)=.non from if_neg (by omega)]at q;exact q
  ·rw[show atO cs (.int i)=(cs[i.toNat]?).getD .non from if_pos (by omega)]at q;walk_at"e";refine aJ h1 T.c.cG T.c.bM bQ ?_;walk_at"e";refine lK (cV.of h2) ?_;walk_at"e";refine uw (λy=>?_) (λy=>?_)
   ·walk_at"e";rw[List.getElem?_eq_none_iff.mpr (by omega)]at q;exact q
   ·walk_at"e";refine aJ h1 T.c.cG T.c.bM bQ ?_;walk_at"e";have hl:i.toNat<cs.length:=by omega
    refine jW (cV.of h2) (pq (by omega) (bL hl)) ?_;rw[bL hl]at q;exact q
theorem Zar{hp:Addr}{pl:V}(T:qI K X)(q:∃x,pl=oV x/\∃T s A M,WJ X H T s A M/\A.hp=hp/\Q (oV (sS M x)) H):BK K (d7 X.H) ⟨n,Q,bk,ct⟩ [some (.ref hp),some pl,none] H:=by
 obtain⟨x,rfl,Tg,s,A,M,j,rfl,q⟩:=q;unfold BK;walk_at"e";refine⟨_,_,rfl,yg x,_,_,_,_,_,j.hpO,?_⟩;rcases j.look x with ⟨b,a⟩ | ⟨i,c,p,rfl,e,d,_,_,a,⟨t1,t2,⟨dx,o1⟩,o2⟩⟩
 ·rw[a];have:sS M x=none:=by
   cases x with
   | none=>rfl
   | some i=>show(cellAt M i).map _=none;rw[show cellAt M i=none from b];rfl
  rw[this]at q;walk_at"e";exact q
 ·rw[a];have:sS M (some i)=some c.birth:=by show(cellAt M i).map _=_;rw[d];rfl
  rw[this]at q;walk_at"e";refine aJ o1 T.c.cT T.c.dR gK ?_;exact q
theorem Jx{p:Addr}{f:Int}(T:qI K X)(q:∃T s i q c,Ue X.C H T s i q c/\q.1=p/\Q (.bl (decide (0<=f) && decide (f<c.fl.length))) H):qj K ⟨n,Q,bk,ct⟩ [some (.ref p),some (.int f)] H:=by
 obtain⟨Tg,s,i,r,c,⟨t1,t2,⟨dx,o1⟩,o2⟩,rfl,q⟩:=q;unfold qj;walk_at"e";refine uw (λz=>?_) (λz=>?_)
 ·rw[decide_eq_true z,Bool.true_and]at q;walk_at"e";refine aJ o1 T.c.cT T.c.dY jr ?_;walk_at"e";refine lK (cV.of o2) ?_;walk_at"e";rw[bx];exact q
 ·rw[decide_eq_false z,Bool.false_and]at q;walk_at"e";exact q
theorem Zg{wo:Addr}{h:Int}(T:qI K X)(q:∃T s A M k p,WJ X H T s A M/\A.wo=wo/\h=((k:Nat):Int)/\A.hs[k]? =some p/\Q (.ref p.2) H):Bw K ⟨n,Q,bk,ct⟩ [some (.ref wo),some (.int h)] H:=by
 obtain⟨Tg,s,A,M,k,p,j,rfl,rfl,hp,q⟩:=q;obtain⟨a,ow⟩:=j.jb.ow;obtain⟨m,hm,⟨t1,t2,⟨dx,o1⟩,o2⟩⟩:=j.hand hp;unfold Bw;walk_at"e";refine aJ ow T.cW T.nWd gZ ?_;walk_at"e";refine jW (cV.of j.jb.on) (jl (v:=.ref p.1) (by rw[cA,hp];rfl)) ?_;refine aJ o1 T.cD T.nDs qF ?_;exact q
theorem XN{wo p:Addr}(T:qI K X)(q:∃T s A M i q c,Yz X H T s A M/\A.wo=wo/\Ue X.C H T s i q c/\q.1=p/\Q (.bl (decide (c.tone=M.sw.sense))) H):yS K ⟨n,Q,bk,ct⟩ [some (.ref wo),some (.ref p)] H:=by
 obtain⟨Tg,s,A,M,i,r,c,j,rfl,⟨t1,t2,⟨dx,o1⟩,o2⟩,rfl,q⟩:=q;obtain⟨b,ow⟩:=j.jb.ow;obtain⟨a,os⟩:=j.js.os;unfold yS;walk_at"e";refine aJ o1 T.c.cT T.c.lR TJ ?_;walk_at"e";refine aJ ow T.cW T.Qz aZ ?_;walk_at"e";refine aJ os T.cS T.n1 oX ?_;walk_at"e";exact q
end
theorem Zsn{y:Int}:Builtin.bitAnd y 1=y % 2:=by
 unfold Builtin.bitAnd
 by_cases h:0<=y
 ·rw[decide_eq_true h,decide_eq_true (show(0:Int)<=1 by decide)];show((y.toNat &&& 1:Nat):Int)=_;rw[Nat.and_one_is_mod];omega
 ·rw[decide_eq_false h,decide_eq_true (show(0:Int)<=1 by decide)];show(1:Int) - ((1 &&& (Builtin.bitNot y).toNat:Nat):Int)=_;rw[Nat.and_comm,Nat.and_one_is_mod];unfold Builtin.bitNot;omega
section
variable {K:aC}{X:Cs}{H:Hp}{Q:VK}{E:XK}{n:St->Hp->Prop}{bk ct:St->Hp->Prop}{CE CF CN:Addr}
theorem Xz{wo:Addr}{h:Int}(T:qI K X)(q:∃T s A M k,WJ X H T s A M/\A.wo=wo/\h=((k:Nat):Int)/\Q (.bl (bB M k)) H):yR K ⟨n,Q,bk,ct⟩ [some (.ref wo),some (.int h)] H:=by
 obtain⟨Tg,s,A,M,k,j,rfl,rfl,q⟩:=q;obtain⟨a,ow⟩:=j.jb.ow;obtain⟨b,os⟩:=j.js.os;unfold yR;walk_at"e";refine aJ ow T.cW T.Qz aZ ?_;walk_at"e";refine aJ os T.cS T.n4 lH ?_;walk_at"e";rw[Zsn,Int.toNat_natCast];exact q
theorem O5{wo:Addr}{v:V}(T:qI K X)(q:∃T s A M,WJ X H T s A M/\A.wo=wo/\(0<=M.tells/\M.tells<4)/\∀l,H l=none->Q (.ref l) (upd H l (.lst (if old? M=true then [v]else [])))):
  uE K ⟨n,Q,bk,ct⟩ [some (.ref wo),some v] H:=by
 obtain⟨Tg,s,A,M,j,rfl,b,q⟩:=q;obtain⟨d,ow⟩:=j.jb.ow;obtain⟨c,ok⟩:=j.jb.ok;obtain⟨a,_⟩:=Zur b;unfold uE;walk_at"e";refine aJ ow T.cW T.nWk m6 ?_;walk_at"e";refine aJ ok T.cK T.nKt CJ ?_;walk_at"e";rw[a];refine uw (λz=>?_) (λz=>?_)
 ·walk_at"e";refine⟨aX (by simp),λl hl=>?_⟩;have:=q l hl;rw[if_neg (by unfold old?;rw[decide_eq_true_iff];omega)]at this;exact this
 ·walk_at"e";refine⟨aX (by simp),λl hl=>?_⟩;have:=q l hl;rw[if_pos (by unfold old?;rw[decide_eq_true_iff];omega)]at this;exact this
theorem O6{wo:Addr}{h:Int}{v:V}(T:qI K X)(q:∃T s A M k,WJ X H T s A M/\A.wo=wo/\(0<=M.tells/\M.tells<4)/\h=((k:Nat):Int)/\∀l,H l=none->Q (.ref l) (upd H l (.lst (if (qu M && !bB M k)=true then [v]else [])))):
  uF K (nM X) ⟨n,Q,bk,ct⟩ [some (.ref wo),some (.int h),some v] H:=by
 obtain⟨Tg,s,A,M,k,j,rfl,b,rfl,q⟩:=q;obtain⟨d,ow⟩:=j.jb.ow;obtain⟨c,ok⟩:=j.jb.ok;obtain⟨_,a⟩:=Zur b;unfold uF;walk_at"e";refine aJ ow T.cW T.nWk m6 ?_;walk_at"e";refine aJ ok T.cK T.nKt CJ ?_;walk_at"e";refine uw (λz=>?_) (λz=>?_)
 ·walk_at"e";refine⟨aX (by simp),λl hl=>?_⟩;have:=q l hl;have e:qu M=false:=by unfold qu;exact decide_eq_false (a.mp z)
  rw[e,Bool.false_and,if_neg (by decide)]at this;exact this
 ·have e:qu M=true:=by unfold qu;exact decide_eq_true (Decidable.not_not.mp λw=>z (a.mpr w))
  rw[e,Bool.true_and]at q;walk_at"e";refine⟨_,_,rfl,Tg,s,A,M,k,j,rfl,rfl,?_⟩;cases hl:bB M k with
  | true=>
   rw[hl]at q;walk_at"e";refine⟨aX (by simp),λl hl=>?_⟩;exact q l hl
  | false=>
   rw[hl]at q;walk_at"e";refine⟨aX (by simp),λl hl=>?_⟩;exact q l hl
theorem Zeb{wo:Addr}{h t:Int}(T:qI K X)(q:∃T s A M hn tn,WJ X H T s A M/\A.wo=wo/\h=((hn:Nat):Int)/\t=((tn:Nat):Int)/\An M hn tn/\
 (cO M (aR M hn tn)=none->E (.ref CE) none H)/\
 (∀i c p,aR M hn tn=some i->0<=i->cellAt M i=some c->A.cs[i.toNat]? =some (some p)->Ue X.C H T s i.toNat p c->Q (.ref p.1) H)):
  Fz K CE (d7 X.H) (cg X) E ⟨n,Q,bk,ct⟩ [some (.ref wo),some (.int h),some (.int t),none] H:=by
 obtain⟨Tg,s,A,M,hn,tn,j,rfl,rfl,rfl,ok,g,e⟩:=q;obtain⟨r,ow⟩:=j.jb.ow;obtain⟨p,m,hp,hm,hs,hl,⟨t1,t2,o1,o2⟩⟩:=j.handOf ok;unfold Fz;walk_at"e";refine aJ ow T.cW T.KJ bA ?_;walk_at"e";refine⟨_,_,rfl,Tg,s,A,M,hn,p,j,rfl,rfl,hp,?_⟩;walk_at"e";refine jW (cV.of o2) (jl (v:=oV (aR M hn tn)) (by rw[cA,hs];rfl)) ?_;walk_at"e";refine⟨_,_,rfl,yg _,_,_,_,_,_,j.hpO,?_⟩;rcases j.look (aR M hn tn)with ⟨d,a⟩ | ⟨i,c,l,k,o,f,_,b,a,ce⟩
 ·rw[a];walk_at"e";exact⟨by decide,g d⟩
 ·rw[a];walk_at"e";exact e i c l k o f b ce
theorem XX{wo:Addr}{h t f:Int}(T:qI K X)(q:∃T s A M hn tn fn,WJ X H T s A M/\A.wo=wo/\h=((hn:Nat):Int)/\t=((tn:Nat):Int)/\f=((fn:Nat):Int)/\An M hn tn/\
 (cO M (aR M hn tn)=none->E (.ref CE) none H)/\
 (∀i c,aR M hn tn=some i->0<=i->cellAt M i=some c->c.fl[fn]? =none->E (.ref CF) none H)/\
 (∀i c p,aR M hn tn=some i->0<=i->cellAt M i=some c->A.cs[i.toNat]? =some (some p)->Ue X.C H T s i.toNat p c->fn<c.fl.length->Q (.ref p.2) H)):
  yU K X.C CF (vW X) (jP X CE) E ⟨n,Q,bk,ct⟩ [some (.ref wo),some (.int h),some (.int t),some (.int f),none] H:=by
 obtain⟨Tg,s,A,M,hn,tn,fn,j,rfl,rfl,rfl,rfl,ok,k,e,g⟩:=q;unfold yU;walk_at"e";refine⟨_,_,_,rfl,Tg,s,A,M,hn,tn,j,rfl,rfl,rfl,ok,k,λi c p b d a hp ce=>?_⟩;obtain⟨t1,t2,⟨dx,o1⟩,o2⟩:=id ce;walk_at"e";refine⟨p.1,dx,_,rfl,o1,Gi,?_⟩;walk_at"e";refine⟨_,_,rfl,Tg,s,_,p,c,ce,rfl,?_⟩
 by_cases z:fn<c.fl.length
 ·rw[show(decide ((0:Int)<=(fn:Int)) && decide ((fn:Int)<c.fl.length))=true from by simp;omega];walk_at"e";refine aJ o1 T.c.cT T.c.dY jr ?_;exact g i c p b d a hp ce z
 ·rw[show(decide ((0:Int)<=(fn:Int)) && decide ((fn:Int)<c.fl.length))=false from by simp;omega];walk_at"e";exact⟨by decide,e i c b d a (List.getElem?_eq_none_iff.mpr (by omega))⟩
theorem Zou{wo:Addr}{pl b:Int}(T:qI K X)(q:∃T s A M,Yz X H T s A M/\A.wo=wo/\Q (.bl (pU M pl b)) H):WX K (d7 X.H) (cL X) ⟨n,Q,bk,ct⟩ [some (.ref wo),some (.int pl),some (.int b),none] H:=by
 obtain⟨Tg,s,A,M,j,rfl,q⟩:=q;obtain⟨h,ow⟩:=j.jb.ow;obtain⟨g,os⟩:=j.js.os;unfold WX;walk_at"e";refine aJ ow T.cW T.KJ bA ?_;walk_at"e";refine⟨_,_,rfl,yg (some pl),_,_,_,_,_,j.hpO,?_⟩;unfold pU at q;rcases j.look (some pl)with ⟨d,a⟩ | ⟨i,c,p,f,k,e,_,hp,a,ce⟩
 ·rw[show atO (A.cs.map pV) (.int pl)=.non from a];rw[show cellAt M pl=none from d]at q;walk_at"e";exact q
 ·cases f;rw[show atO (A.cs.map pV) (.int pl)=.ref p.1 from a];rw[e]at q;dsimp only at q;obtain⟨t1,t2,⟨dx,o1⟩,o2⟩:=id ce;walk_at"e";refine aJ o1 T.c.cT T.c.dR gK ?_;walk_at"e";refine Zdg (λz=>?_) (λz=>?_)
  ·rw[if_neg z]at q;walk_at"e";exact q
  ·rw[if_pos z]at q;walk_at"e";refine aJ ow T.cW T.Qz aZ ?_;walk_at"e";refine aJ os T.cS T.n2 ie ?_;walk_at"e";refine uw (λy=>?_) (λy=>?_)
   ·walk_at"e";refine⟨_,_,rfl,Tg,s,A,M,_,p,c,j,rfl,ce,rfl,?_⟩;walk_at"e";have:decide (M.sw.phase="give"/\c.tone≠M.sw.sense)=!decide (c.tone=M.sw.sense):=by simp[y]
    rw[this]at q;exact q
   ·have:decide (M.sw.phase="give"/\c.tone≠M.sw.sense)=false:=decide_eq_false λw=>y w.1;rw[this]at q;exact q
theorem Znt{wo:Addr}{pl:V}(T:qI K X)(q:∃x,pl=oV x/\∃T s A M,WT H T/\s≠0/\WJ X H T s A M/\A.wo=wo/\(M.sw.phase="walk"->M.sw.grey.length<=20000)/\
 ∀H',jo s H H' T T->WJ X H' T s A (bY M x).2->Q (oV (bY M x).1) H'):WR K (d7 X.H) (cL X) ⟨n,Q,bk,ct⟩ [some (.ref wo),some pl,none,none] H:=by
 obtain⟨x,rfl,Tg,s,A,M,w,t,j,rfl,J,q⟩:=q;obtain⟨P,ow⟩:=j.jb.ow;obtain⟨O,os⟩:=j.js.os;unfold WR;walk_at"e";refine aJ ow T.cW T.Qz aZ ?_;walk_at"e";refine aJ ow T.cW T.KJ bA ?_;walk_at"e";refine⟨_,_,rfl,yg x,_,_,_,_,_,j.hpO,?_⟩;walk_at"e";refine aJ os T.cS T.n2 ie ?_;walk_at"e";have stay:bY M x=(none,M)->Q .non H:=λe=>by
  have:=q H (jo.refl w);rw[e]at this;exact this j
 refine Zdg (λz=>?_) (λz=>?_)
 ·walk_at"e";exact stay (Zd3 z x)
 ·rcases j.look x with ⟨B,k⟩ | ⟨i,c,p,rfl,W,u,hc,hp,k,ce⟩
  ·rw[k];walk_at"e";refine stay ?_;cases x with
   | none=>rfl
   | some i=>unfold bY;dsimp only;rw[show cellAt M i=none from B]
  ·rw[k];obtain⟨t1,t2,⟨dx,o1⟩,o2⟩:=id ce;walk_at"e";refine⟨_,_,rfl,Tg,s,A,M,_,p,c,j.w0,rfl,ce,rfl,?_⟩
   by_cases y:c.tone=M.sw.sense
   ·rw[decide_eq_true y];walk_at"e";refine stay ?_;unfold bY;dsimp only;rw[u];dsimp only;rw[if_neg λw=>w.2 y]
   ·rw[decide_eq_false y];have I:bY M (some i)=(some c.birth,{ setCell M i { c with tone:=M.sw.sense }with sw:={ M.sw with grey:=M.sw.grey++[i] } }):=by
     unfold bY;dsimp only;rw[u];dsimp only;rw[if_pos ⟨z,y⟩]
    rw[I]at q;walk_at"e";refine aJ os T.cS T.n1 oX ?_;walk_at"e";refine⟨p.1,X.C,dx,_,rfl,o1,T.c.cT,T.c.lR,by show 5<1000;decide,?_⟩;rw[Ri];obtain⟨a,b⟩:=j.cell w t (dx:=dx) (tone:=M.sw.sense) (load:=c.load) hp ce;generalize upd H p.1 (.ins X.C dx (mY c.birth c.bulk M.sw.sense c.load p.2))=v at a b ⊢;obtain⟨R,l⟩:=b.js.os;obtain⟨U,f,L⟩:=b.jc.at (i:=i.toNat) (c:={ c with tone:=M.sw.sense,load:=c.load }) (by rw[List.getElem?_set_self (dX hc).1]);rw[hp]at f;cases f;walk_at"e";refine aJ l T.cS T.n3 pY ?_;walk_at"e";have r:=J z;refine⟨.inl ⟨rfl,_,cV.of b.js.og⟩,?_⟩;walk_at"e";refine⟨_,_,_,rfl,rfl,b.js.og,?_,?_⟩
    ·rw[bx];exact Nat.lt_of_le_of_lt r (by decide)
    obtain⟨h,o⟩:=b.Zpt a.wt t (g:=M.sw.grey++[i]);have F:(M.sw.grey.map V.int++[V.int i])=(M.sw.grey++[i]).map V.int:=by rw[List.map_append];rfl
    show bN _ _ _ (upd v A.gr (.lst (M.sw.grey.map V.int++[oV (some i)])));rw[show(M.sw.grey.map V.int++[oV (some i)])=(M.sw.grey++[i]).map V.int from F];generalize upd v A.gr (.lst ((M.sw.grey++[i]).map V.int))=E at h o ⊢;obtain⟨S,d,m⟩:=o.jc.at (i:=i.toNat) (c:={ c with tone:=M.sw.sense,load:=c.load }) (by show(M.cells.set _ _)[_]? =_;rw[List.getElem?_set_self (dX hc).1]);rw[hp]at d;cases d;obtain⟨_,_,⟨D,N⟩,_⟩:=m;walk_at"e";refine aJ N T.c.cT T.c.dR gK ?_;exact q E (a.trans h) o
theorem Zr0{Tg:Tg}{z:Str}:∀{ns:List Addr}{names:List (Str×(Int×Int))},Al (NmO H Tg) ns names->(ym names z=none/\m7 (Ai names ns) (Sum.inr z)=none)\/∃p b t,ym names z=some (p,b)/\m7 (Ai names ns) (Sum.inr z)=some (.ref t)/\H t=some (.tup [.int p,.int b])/\Tg t=(0,0):=by
 intro ns names h
 induction h with
 | nil=>exact .inl ⟨rfl,rfl⟩
 | @cons t m ns names h1 _ ih=>
  by_cases e:m.1=z
  ·refine .inr ⟨m.2.1,m.2.2,t,?_,?_,h1.2,h1.1⟩
   ·unfold ym;rw[List.find?_cons_of_pos (by simpa using e)];rfl
   ·show(List.find? _ ((Sum.inr m.1,V.ref t)::Ai names ns)).map _=_;rw[List.find?_cons_of_pos (by simpa using e)];rfl
  ·have g:ym (m::names) z=ym names z:=by unfold ym;rw[List.find?_cons_of_neg (by simpa using e)]
   have v:m7 (Ai (m::names) (t::ns)) (Sum.inr z)=m7 (Ai names ns) (Sum.inr z):=by
    show(List.find? _ ((Sum.inr m.1,V.ref t)::Ai names ns)).map _=_;rw[List.find?_cons_of_neg (by simpa using e)];rfl
   rw[g,v];exact ih
theorem Qc{wo:Addr}{z:Str}(T:qI K X)(q:∃T s A M,WJ X H T s A M/\A.wo=wo/\(ym M.names z=none->E (.ref CN) none H)/\(∀p b,ym M.names z=some (p,b)->Q (if pU M p b=true then .non else .int p) H)):
  uG K CN (Gs X) E ⟨n,Q,bk,ct⟩ [some (.ref wo),some (.str z),none,none] H:=by
 obtain⟨Tg,s,A,M,j,rfl,g,f⟩:=q;obtain⟨h,ow⟩:=j.jb.ow;obtain⟨tm,om,nms⟩:=j.jn;unfold uG;walk_at"e";refine aJ ow T.cW T.nWn mL ?_;refine⟨_,_,rfl,Zlt om,?_⟩;rcases Zr0 (z:=z) nms with ⟨c,a⟩ | ⟨p,b,t,c,a,e,_⟩
 ·rw[a];walk_at"e";exact⟨by decide,g c⟩
 ·rw[a,show(!(some (V.ref t)).isSome)=false from rfl];walk_at"e";refine aJ ow T.cW T.nWn mL ?_;walk_at"e";refine⟨_,_,rfl,by have:=Zlt (z:=z) om;rw[a]at this;exact this,?_⟩;walk_at"e";refine⟨t,_,0,_,rfl,rfl,je.of e,rfl,?_⟩;walk_at"e";refine aJ ow T.cW T.nWn mL ?_;walk_at"e";refine⟨_,_,rfl,by have:=Zlt (z:=z) om;rw[a]at this;exact this,?_⟩;walk_at"e";refine⟨t,_,1,_,rfl,rfl,je.of e,rfl,?_⟩;walk_at"e";refine⟨_,_,_,rfl,Tg,s,A,M,j.w0,rfl,?_⟩;have:=f p b c;cases d:pU M p b with
  | true=>
   rw[d]at this;walk_at"e";exact this
  | false=>
   rw[d]at this;walk_at"e";exact this
theorem jo.new{s:Nat}{H a:Hp}{T c:Tg}{l:Addr}{o d:HO}(e:jo s H a T c)(hl:H l=none)(hx:a l=some d):jo s H (upd a l o) T c where
 kp:=λb u h z=>by rw[aB (aD h hl)];exact e.kp b u h z
 al:=λb u h=>by rw[aB (aD h hl)];exact e.al b u h
 tg:=e.tg
 wt:=λb h=>e.wt b (by
  by_cases z:b=l
  ·rw[z,aq]at h;cases h
  ·rw[aB z]at h;exact h)
theorem jo.fresh{s:Nat}{H:Hp}{T:Tg}{l:Addr}{o:HO}{v:Nat×Nat}(w:WT H T)(hl:H l=none):jo s H (upd H l o) T (jR T l v) where
 kp:=λb u h z=>by rw[aB (aD h hl)];exact h
 al:=λb u h=>⟨u,by rw[aB (aD h hl)];exact h⟩
 tg:=λb u h=>lF (aD h hl)
 wt:=λb h=>by
  by_cases z:b=l
  ·rw[z,aq]at h;cases h
  ·rw[aB z]at h;rw[lF z];exact w b h
theorem Zd4{M:Wm}{x:Option Int}:(bY M x).2.sw.phase=M.sw.phase/\(bY M x).2.sw.grey.length<=M.sw.grey.length+1/\(bY M x).2.tells=M.tells/\(bY M x).2.names=M.names:=by
 cases x with
 | none=>exact⟨rfl,Nat.le_succ _,rfl,rfl⟩
 | some i=>
  unfold bY;dsimp only;cases cellAt M i with
  | none=>exact⟨rfl,Nat.le_succ _,rfl,rfl⟩
  | some c=>
   dsimp only
   by_cases z:M.sw.phase="walk"/\c.tone≠M.sw.sense
   ·rw[if_pos z];exact⟨rfl,by show(M.sw.grey++[i]).length<=_;rw[List.length_append];exact Nat.le_refl _,rfl,rfl⟩
   ·rw[if_neg z];exact⟨rfl,Nat.le_succ _,rfl,rfl⟩
theorem Mv{M:Wm}{x:Option Int}:(bY M x).2.hands=M.hands:=by
 cases x with
 | none=>rfl
 | some i=>
  unfold bY;dsimp only;cases cellAt M i with
  | none=>rfl
  | some c=>
   dsimp only;split<;>rfl
theorem Zd5{M:Wm}{x:Option Int}{k:Nat}{c:Ce}(h:M.cells[k]? =some (some c)):∃c',(bY M x).2.cells[k]? =some (some c')/\c'.fl=c.fl/\c'.birth=c.birth/\c'.bulk=c.bulk/\c'.load=c.load:=by
 cases x with
 | none=>exact⟨c,h,rfl,rfl,rfl,rfl⟩
 | some i=>
  unfold bY;dsimp only;cases hc:cellAt M i with
  | none=>exact⟨c,h,rfl,rfl,rfl,rfl⟩
  | some d=>
   dsimp only;split
   ·show ∃c',(M.cells.set i.toNat _)[k]? =_/\_
    by_cases z:i.toNat=k
    ·subst z;obtain⟨_,hd⟩:=bT.mp hc;rw[h]at hd;cases hd;exact⟨_,List.getElem?_set_self (dX h).1,rfl,rfl,rfl,rfl⟩
    ·rw[List.getElem?_set_ne z];exact⟨c,h,rfl,rfl,rfl,rfl⟩
   ·exact⟨c,h,rfl,rfl,rfl,rfl⟩
theorem lB:∀{l:List (Option Int)}{M:Wm}{x:Option Int},aP M (l++[x])=((aP M l).1++ofN (bY (aP M l).2 x).1,(bY (aP M l).2 x).2)
 | [],M,x=>by
  show(ofN (bY M x).1++[],(bY M x).2)=([]++ofN (bY M x).1,(bY M x).2);rw[List.append_nil,List.nil_append]
 | y::l,M,x=>by
  show(ofN (bY M y).1++(aP (bY M y).2 (l++[x])).1,(aP (bY M y).2 (l++[x])).2)=_;rw[lB];show _=((ofN (bY M y).1++(aP (bY M y).2 l).1)++_,_);rw[List.append_assoc];rfl
theorem vJ:∀{l:List (Option Int)}{M:Wm},(aP M l).2.sw.phase=M.sw.phase/\(aP M l).2.sw.grey.length<=M.sw.grey.length+l.length
 | [],M=>⟨rfl,Nat.le_refl _⟩
 | y::l,M=>by
  obtain⟨a,b,_⟩:=Zd4 (M:=M) (x:=y);obtain⟨c,d⟩:=vJ (l:=l) (M:=(bY M y).2);refine⟨c.trans a,?_⟩;show(aP (bY M y).2 l).2.sw.grey.length<=_;rw[List.length_cons];omega
theorem zP:∀{l:List (Option Int)}{M:Wm},(aP M l).1.length<=l.length
 | [],M=>Nat.le_refl _
 | y::l,M=>by
  have:=zP (l:=l) (M:=(bY M y).2);show(ofN (bY M y).1++(aP (bY M y).2 l).1).length<=_;rw[List.length_append,List.length_cons];have:(ofN (bY M y).1).length<=1:=by cases (bY M y).1<;>simp[ofN]
  omega
theorem ZS{wo pl:Addr}(T:qI K X)(q:∃xs T s A M,WT H T/\s≠0/\WJ X H T s A M/\A.wo=wo/\PlO H T A M pl xs/\xs.length<=100/\(M.sw.phase="walk"->M.sw.grey.length<=10000)/\
 ∀H' T' l,jo s H H' T T'->WJ X H' T' s A (aP M xs).2->H' l=some (.lst ((aP M xs).1.map V.int))->H l=none->Q (.ref l) H'):Bx K (YD X) ⟨n,Q,bk,ct⟩ [some (.ref wo),some (.ref pl),none,none,none] H:=by
 obtain⟨xs,Tg,s,A,M,w,U,j,rfl,I,hx,hg,q⟩:=q;have F:=I.get j;unfold Bx;walk_at"e";refine⟨aX (by simp),λl hl=>?_⟩;have d:pl≠l:=aD F hl;have t:jo s H (upd H l (.lst [])) Tg (jR Tg l (s+1,0)):=jo.fresh w hl;have O:WJ X (upd H l (.lst [])) (jR Tg l (s+1,0)) s A M:=j.fresh hl;have S:upd H l (.lst []) l=some (.lst []):=aq;have tl:jR Tg l (s+1,0) l=(s+1,0):=ji;have r:PlO (upd H l (.lst [])) (jR Tg l (s+1,0)) A M pl xs:=by
  rcases I with ⟨h1,h2⟩ | h
  ·exact .inl ⟨(aB d).trans h1,(lF d).trans h2⟩
  ·exact .inr h
 have D:upd H l (.lst []) pl=some (.lst (xs.map oV)):=(aB d).trans F;generalize upd H l (.lst [])=H1 at t O S D r ⊢;generalize jR Tg l (s+1,0)=u at t O tl r;walk_at"e";refine⟨pl,rfl,⟨_,cV.of D⟩,forL (xs.map oV) (λi σ o=>∃P R,σ=[some (.ref A.wo),some (.ref pl),some (.ref l),P,R]/\jo s H o Tg u/\WJ X o u s A (aP M (xs.take i)).2/\o l=some (.lst ((aP M (xs.take i)).1.map V.int))/\PlO o u A (aP M (xs.take i)).2 pl xs) ⟨_,_,rfl,t,O,S,r⟩ (λ_ _ _ _ ⟨_,_,_,_,j,_,e⟩=>cV.of (e.get j)) ?_ ?_⟩
 ·rintro i x σ o hi ⟨P,R,rfl,f,N,L,E⟩;obtain⟨y,hy,rfl⟩:∃y,xs[i]? =some y/\oV y=x:=by
   rw[cA]at hi;obtain⟨y,a,b⟩:=Option.map_eq_some_iff.mp hi;exact⟨y,a,b⟩
  have il:=(dX hy).1;have v:xs.take (i+1)=xs.take i++[y]:=by
   rw[List.take_add_one,hy];rfl
  obtain⟨gp,gl⟩:=vJ (l:=xs.take i) (M:=M);have nl:=zP (l:=xs.take i) (M:=M);have tk:(xs.take i).length<=100:=by rw[List.length_take];omega
  walk_at"e";refine⟨_,_,rfl,y,rfl,u,s,A,_,f.wt,U,N,rfl,λz=>?_,λJ g Y=>?_⟩
  ·have:=hg (gp.symm.trans z);omega
  have B:J l=some (.lst ((aP M (xs.take i)).1.map V.int)):=g.kp _ _ L (by rw[tl];show s+1≠s;omega);have W:PlO J u A (bY (aP M (xs.take i)).2 y).2 pl xs:=by
   rcases E with ⟨h1,h2⟩ | ⟨k,p,m,h1,h2,h3,h4⟩ | ⟨k,p,c,h1,h2,h3,h4⟩
   ·exact .inl ⟨g.kp _ _ h1 (by rw[h2];exact λz=>U z.symm),h2⟩
   ·exact .inr (.inl ⟨k,p,m,h1,by rw[Mv];exact h2,h3,h4⟩)
   ·obtain⟨c',Z,e2,_⟩:=Zd5 (x:=y) h2;exact .inr (.inr ⟨k,p,c',h1,Z,h3,by rw[e2];exact h4⟩)
  have C:=f.trans g;walk_at"e";cases hn:(bY (aP M (xs.take i)).2 y).1 with
  | none=>
   dsimp only[oV];walk_at"e";refine⟨_,_,rfl,C,?_,?_,by rw[v,lB];exact W⟩
   ·rw[v,lB];exact Y
   ·rw[v,lB];show J l=some (.lst (((aP M (xs.take i)).1++ofN (bY (aP M (xs.take i)).2 y).1).map V.int));rw[hn];show J l=some (.lst (((aP M (xs.take i)).1++[]).map V.int));rw[List.append_nil];exact B
  | some b=>
   dsimp only[oV];walk_at"e";refine⟨.inl ⟨rfl,_,cV.of B⟩,?_⟩;walk_at"e";refine⟨_,_,_,rfl,rfl,B,?_,?_⟩
   ·rw[bx];exact Nat.lt_of_le_of_lt (show _<=100 by omega) (by decide)
   walk_at"e";refine⟨_,_,rfl,jo.new C hl B,?_,?_,?_⟩
   ·rw[v,lB];exact Y.other (s':=s+1) (jo.upd g.wt B (by rw[tl])) (by omega) (by omega)
   ·rw[v,lB,aq];show some (HO.lst _)=some (HO.lst (((aP M (xs.take i)).1++ofN (bY (aP M (xs.take i)).2 y).1).map V.int));rw[hn,List.map_append];rfl
   ·rw[v,lB];rcases W with ⟨h1,h2⟩ | h
    ·exact .inl ⟨by rw[aB d];exact h1,h2⟩
    ·exact .inr h
 ·rintro σ o ⟨P,R,rfl,f,N,L,E⟩;walk_at"e";rw[show(xs.map oV).length=xs.length from bx _,List.take_length]at N L;exact q o u l f N L hl
end
theorem qQ{M:Wm}{h k:Nat}{x:Option Int}{m:Str×List (Option Int)}(hm:M.hands[h]? =some m):{ M with hands:=M.hands.set h (m.1,m.2.set k x) }=setSlot M h k x:=by
 have e:=RV (k:=k) (x:=x) hm;show _={ M with hands:=_ };rw[show(M.hands.modify h λm=>(m.1,m.2.set k x))=M.hands.set h (m.1,m.2.set k x)from e]
def Le(d:nY):Prop:=∃h s many bulk,d=.make h s many bulk
def Vf(d:nY):Prop:=∃h s t f,d=.get h s t f
def Ve(d:nY):Prop:=∃h t f s,d=.put h t f s
def Lh(d:nY):Prop:=∃h s t,d=.copy h s t
def Lg(d:nY):Prop:=∃h s,d=.drop h s
def Lf(d:nY):Prop:=∃h s g t,d=.give h s g t
def Dq(d:nY):Prop:=∃h t load,d=.write h t load
def Ld(d:nY):Prop:=∃h t,d=.read h t
def isName(d:nY):Prop:=∃h t word,d=.name h t word
def Lb(d:nY):Prop:=∃h s word,d=.seek h s word
abbrev Di(X:Cs)(rf:Rf->Addr)(P:nY->Prop)(wo dd:Addr)(H:Hp)(Q:VK)(E:XK):Prop:=∃T s A M d,P d/\WT H T/\s≠0/\WJ X H T s A M/\A.wo=wo/\H dd=some (.tup (dV d))/\okD M d/\M.cells.length<=900/\(M.sw.phase="walk"->M.sw.grey.length<=10000)/\(0<=M.tells/\M.tells<4)/\M.names.length<=1000/\
 (∀r,qN M d=.error r->∀H',aU H H'->E (.ref (rf r)) none H')/\
 (∀e M',qN M d=.ok (e,M')->∀H' T' A' a,jo s H H' T T'->WJ X H' T' s A' M'->A'.wo=wo->EvN H H' a e->Q (.ref a) H')
section
variable {X:Cs}{H Hx:Hp}{T Tx:Tg}{s:Nat}{A Ax:Wa}{M M':Wm}{d:nY}{e:Ev}{wo:Addr}{Q:VK}
theorem jo.free{s:Nat}{H Hx:Hp}{T Tx:Tg}{l:Addr}(e:jo s H Hx T Tx)(h:Hx l=none):H l=none:=by
 cases z:H l with
 | none=>rfl
 | some o=>obtain⟨b,a⟩:=e.al l o z;rw[h]at a;cases a
theorem ev0(h:∀e M',qN M d=.ok (e,M')->∀H' T' c a,jo s H H' T T'->WJ X H' T' s c M'->c.wo=wo->EvN H H' a e->Q (.ref a) H')(k:qN M d=.ok (e,M'))(hn:e.notes=[])(st:jo s H Hx T Tx)(j:WJ X Hx Tx s Ax M')(m:Ax.wo=wo){l a:Addr}(hl:Hx l=none)(i:upd Hx l (.lst []) a=none):
  Q (.ref a) (upd (upd Hx l (.lst [])) a (.tup [.str e.word,oV e.thing,.ref l])):=by
 have g:=aL hl (.lst []);have b:=aL i (.tup [.str e.word,oV e.thing,.ref l]);have f:=g.trans b;refine h e M' k _ Tx Ax a (st.trans (jo.same st.wt f)) (j.same f) m ⟨l,jo.free st hl,aq,?_⟩;rw[hn];exact b _ _ aq
theorem ev1{l a:Addr}(c:H l=none)(g:∀e M',qN M d=.ok (e,M')->∀H' T' f a,jo s H H' T T'->WJ X H' T' s f M'->f.wo=wo->EvN H H' a e->Q (.ref a) H')(i:qN M d=.ok (e,M'))(st:jo s H Hx T Tx)(j:WJ X Hx Tx s Ax M')(k:Ax.wo=wo)(hl:Hx l=some (.lst (e.notes.map V.int)))(h:Hx a=none):
  Q (.ref a) (upd Hx a (.tup [.str e.word,oV e.thing,.ref l])):=by
 have b:=aL h (.tup [.str e.word,oV e.thing,.ref l]);exact g e M' i _ Tx Ax a (st.trans (jo.same st.wt b)) (j.same b) k ⟨l,c,aq,b _ _ hl⟩
end
theorem Mr{M:Wm}{i:Int}{c c':Ce}(h:cellAt M i=some c)(hb:c'.birth=c.birth)(x:Option Int):sS (setCell M i c') x=sS M x:=by
 cases x with
 | none=>rfl
 | some y=>
  obtain⟨a,h1⟩:=bT.mp h;show(cellAt (setCell M i c') y).map _=(cellAt M y).map _
  by_cases e:y=i
  ·subst e;rw[h,show cellAt (setCell M y c') y=some c' from bT.mpr ⟨a,by show(M.cells.set _ _)[_]? =_;rw[List.getElem?_set_self (dX h1).1]⟩];show some c'.birth=some c.birth;rw[hb]
  ·have:cellAt (setCell M i c') y=cellAt M y:=by
    unfold cellAt setCell
    by_cases z:0<=y
    ·rw[if_pos z,if_pos z];show((M.cells.set _ _)[_]?).join=_;rw[List.getElem?_set_ne (by omega)]
    ·rw[if_neg z,if_neg z]
   rw[this]
theorem Zgb{M:Wm}{y:Option Int}(x:Option Int):sS (bY M y).2 x=sS M x:=by
 cases y with
 | none=>rfl
 | some i=>
  unfold bY;dsimp only;cases hc:cellAt M i with
  | none=>rfl
  | some c=>
   dsimp only
   by_cases z:M.sw.phase="walk"/\c.tone≠M.sw.sense
   ·rw[if_pos z];have e:=Mr (M:=M) (i:=i) (c:=c) (c':={ c with tone:=M.sw.sense }) hc rfl x;cases x with
    | none=>rfl
    | some y=>exact e
   ·rw[if_neg z]
theorem zQ:∀{l:List (Option Int)}{M:Wm} (x:Option Int),sS (aP M l).2 x=sS M x
 | [],_,_=>rfl
 | y::l,M,x=>(zQ (l:=l) (M:=(bY M y).2) x).trans (Zgb x)
theorem Zkn{b:Bool}{x:Option Int}:(if b=true then [oV x]else [])=(if b=true then [x]else []).map oV:=by cases b<;>rfl
section
variable {K:aC}{X:Cs}{H:Hp}{Q:VK}{E:XK}{n:St->Hp->Prop}{bk ct:St->Hp->Prop}{rf:Rf->Addr}
theorem Ze7{wo dd:Addr}(T:qI K X)(q:Di X rf Lh wo dd H Q E):Fy K (cJ X) (cg X) ⟨n,Q,bk,ct⟩ [some (.ref wo),some (.ref dd),none,none] H:=by
 obtain⟨Tg,s,A,M,_,⟨h,sl,t,rfl⟩,w,g,j,rfl,od,⟨o1,o2⟩,hc,y,C,hn,z,i⟩:=q;obtain⟨p,m,hp,hm,hs,hl,hd⟩:=j.handOf o2;obtain⟨u,e,_,f⟩:=ZR o1;rw[hm]at e;cases e;unfold Fy;walk_at"e";refine⟨dd,_,1,_,rfl,rfl,je.of od,rfl,?_⟩;walk_at"e";refine⟨_,_,rfl,Tg,s,A,M,h,p,j,rfl,rfl,hp,?_⟩;walk_at"e";refine⟨dd,_,3,_,rfl,rfl,je.of od,rfl,?_⟩;refine jW (cV.of hd.o2) (jl (v:=oV (aR M h t)) (by rw[cA,hs];rfl)) ?_;walk_at"e";refine⟨dd,_,2,_,rfl,rfl,je.of od,rfl,?_⟩;refine⟨p.2,_,_,sl,rfl,rfl,hd.o2,uh (by rw[bx];exact f),?_⟩;obtain⟨c,b⟩:=j.slot w g (k:=sl) (x:=aR M h t) hp hm;rw[qQ hm]at b;generalize upd H p.2 (.lst ((m.2.map oV).set sl (oV (aR M h t))))=B at c b ⊢;obtain⟨r,ow⟩:=b.jb.ow;walk_at"e";refine aJ ow T.cW T.KJ bA ?_;walk_at"e";refine⟨_,_,rfl,aR M h t,rfl,Tg,s,A,_,b,rfl,?_⟩;rw[pW];walk_at"e";refine⟨aX (by simp),λl hl=>⟨aX (by simp),λa o=>?_⟩⟩;exact ev0 i (d:=.copy h sl t) rfl rfl c b rfl hl o
theorem Ze6{wo dd:Addr}(T:qI K X)(q:Di X rf Lg wo dd H Q E):Fx K (cJ X) (cg X) ⟨n,Q,bk,ct⟩ [some (.ref wo),some (.ref dd),none,none] H:=by
 obtain⟨Tg,s,A,M,_,⟨h,sl,rfl⟩,w,e,j,rfl,od,o1,hc,o,u,hn,r,f⟩:=q;obtain⟨p,m,hp,hm,hs,hl,hd⟩:=j.handOf o1;unfold Fx;walk_at"e";refine⟨dd,_,1,_,rfl,rfl,je.of od,rfl,?_⟩;walk_at"e";refine⟨_,_,rfl,Tg,s,A,M,h,p,j,rfl,rfl,hp,?_⟩;walk_at"e";refine⟨dd,_,2,_,rfl,rfl,je.of od,rfl,?_⟩;refine jW (cV.of hd.o2) (jl (v:=oV (aR M h sl)) (by rw[cA,hs];rfl)) ?_;walk_at"e";refine⟨dd,_,2,_,rfl,rfl,je.of od,rfl,?_⟩;refine⟨p.2,_,_,sl,rfl,rfl,hd.o2,uh (by rw[bx];exact hl),?_⟩;obtain⟨c,b⟩:=j.slot w e (k:=sl) (x:=none) hp hm;rw[qQ hm]at b;show bN _ _ _ (upd H p.2 (.lst ((m.2.map oV).set sl (oV none))));generalize upd H p.2 (.lst ((m.2.map oV).set sl (oV none)))=t at c b ⊢;obtain⟨i,ow⟩:=b.jb.ow;walk_at"e";refine aJ ow T.cW T.KJ bA ?_;walk_at"e";refine⟨_,_,rfl,aR M h sl,rfl,Tg,s,A,_,b,rfl,?_⟩;rw[pW];walk_at"e";refine⟨aX (by simp),λl hl=>⟨aX (by simp),λa g=>?_⟩⟩;exact ev0 f (d:=.drop h sl) rfl rfl c b rfl hl g
theorem Ze5{wo dd:Addr}(T:qI K X)(q:Di X rf Lf wo dd H Q E):Fw K (cJ X) (fJ X) (cg X) (pM X) ⟨n,Q,bk,ct⟩ [some (.ref wo),some (.ref dd),none,none,none,none] H:=by
 obtain⟨Tg,s,A,M,_,⟨h,sl,g,t,rfl⟩,w,C,j,rfl,od,⟨o1,o2⟩,hc,O,U,hn,Y,N⟩:=q;obtain⟨p,m,hp,hm,hs,hl,hd⟩:=j.handOf o1;obtain⟨B,F,e,f,L,o,r⟩:=j.handOf o2;unfold Fw;walk_at"e";refine⟨dd,_,1,_,rfl,rfl,je.of od,rfl,?_⟩;walk_at"e";refine⟨dd,_,3,_,rfl,rfl,je.of od,rfl,?_⟩;walk_at"e";refine⟨_,_,rfl,Tg,s,A,M,h,p,j,rfl,rfl,hp,?_⟩;walk_at"e";refine⟨dd,_,2,_,rfl,rfl,je.of od,rfl,?_⟩;refine jW (cV.of hd.o2) (jl (v:=oV (aR M h sl)) (by rw[cA,hs];rfl)) ?_;walk_at"e";refine⟨_,_,rfl,Tg,s,A,M,g,B,j,rfl,rfl,e,?_⟩;walk_at"e";refine⟨dd,_,4,_,rfl,rfl,je.of od,rfl,?_⟩;refine⟨B.2,_,_,t,rfl,rfl,r.o2,uh (by rw[bx];exact o),?_⟩;obtain⟨b,l⟩:=j.slot w C (k:=t) (x:=aR M h sl) e f;rw[qQ f]at l;generalize upd H B.2 (.lst ((F.2.map oV).set t (oV (aR M h sl))))=P at b l ⊢;walk_at"e";refine⟨_,_,_,rfl,Tg,s,A,_,h,l,rfl,U,rfl,λD c=>?_⟩;rw[show(qu (setSlot M g t (aR M h sl)) && !bB (setSlot M g t (aR M h sl)) h)=(qu M && !bB M h)from rfl,Zkn];generalize zz:upd P D _=H2;obtain⟨i,I⟩:=nwO c zz;walk_at"e";refine⟨_,_,rfl,_,Tg,s,A,_,b.wt.same i,C,l.same i,rfl,.inl ⟨I,b.wt _ c⟩,by cases (qu M && !bB M h)<;>simp,O,λW J Z u z R y=>?_⟩;obtain⟨V,ow⟩:=z.jb.ow;walk_at"e";refine aJ ow T.cW T.KJ bA ?_;walk_at"e";refine⟨_,_,rfl,aR M h sl,rfl,J,s,A,_,z,rfl,?_⟩;rw[zQ,pW];walk_at"e";refine⟨aX (by simp),λa S=>?_⟩;exact ev1 (jo.free b (i.free y)) N (d:=.give h sl g t) rfl (b.trans ((jo.same b.wt i).trans u)) z rfl R S
theorem Ze4{wo dd W:Addr}(T:qI K X)(hF:rf .full=W)(q:Di X rf Le wo dd H Q E):Fv K X.H (vX K X.C X.H W) (cJ X) (cg X) E ⟨n,Q,bk,ct⟩ [some (.ref wo),some (.ref dd),none,none,none,none] H:=by
 obtain⟨Tg,s,A,M,_,⟨h,sl,many,bulk,rfl⟩,w,U,j,rfl,od,⟨o1,m0,m1,b0⟩,hc,hg,ht,hn,hE,Z⟩:=q;obtain⟨p,m,hp,hm,hs,hl,hd⟩:=j.handOf o1;obtain⟨d1,ow⟩:=j.jb.ow;obtain⟨d2,os⟩:=j.js.os;obtain⟨th,tc,⟨F,oh⟩,oc⟩:=j.jh;have hcs:A.cs.length<=900:=by rw[j.jc.lc];exact hc
 unfold Fv;walk_at"e";refine⟨dd,_,1,_,rfl,rfl,je.of od,rfl,?_⟩;walk_at"e";refine⟨_,_,rfl,Tg,s,A,M,h,p,j,rfl,rfl,hp,?_⟩;walk_at"e";refine⟨dd,_,3,_,rfl,rfl,je.of od,rfl,?_⟩;walk_at"e";refine⟨dd,_,4,_,rfl,rfl,je.of od,rfl,?_⟩;walk_at"e";refine aJ ow T.cW T.KJ bA ?_;refine⟨A.hp,F,_,rfl,oh,Td,?_⟩;walk_at"e";refine aJ ow T.cW T.Qz aZ ?_;walk_at"e";refine aJ os T.cS T.n1 oX ?_;walk_at"e";refine⟨_,_,_,_,rfl,A.ca,F,_,_,_,_,oh,oc,?_,by rw[bx];omega,m0,m1,λhf H' sm=>?_,λhf Y fa N L I R a1 a2 co=>?_⟩
 ·intro y hy;obtain⟨o,ho,rfl⟩:=List.mem_map.mp hy;cases o with
  | none=>exact .inl rfl
  | some g=>
   obtain⟨i,hi,v⟩:=List.getElem_of_mem ho;have e:=j.jc.ce i _ _ (bL hi) (bL (by rw[<- j.jc.lc];exact hi));rw[v]at e;cases u:M.cells[i]'(by rw[<- j.jc.lc];exact hi)with
   | none=>rw[u]at e;exact e.elim
   | some c=>
    rw[u]at e;obtain⟨_,_,⟨dx,o1⟩,_⟩:=(show Ue X.C H Tg s i g c from e);exact .inr ⟨g.1,X.C,dx,_,rfl,o1,T.c.cT,T.c.Ol⟩
 ·rw[<- hF];refine hE .full ?_ H' sm;show(if _ then _ else _)=_;rw[if_neg (by omega)]
 ·obtain⟨⟨dp,O⟩,S⟩:=co;have D:Y≠fa:=qw O S (λz=>by cases z);obtain⟨T1,r,P⟩:=j.put w U (H':=N) (dx:=F) (used':=M.used+(1+many+bulk)) (p:=Y) (fa:=fa) (c:=⟨M.born+1,bulk,M.sw.sense,0,List.replicate many.toNat none⟩)
   (λb o hb n1 n2=>R b o hb (by simp[n1,n2])) a1 a2 L I D ⟨dp,O⟩ (by rw[S,List.map_replicate];rfl)
  have v:((A.cs.map pV).idxOf V.non:Int)=(lM M.cells:Nat):=by rw[(Zaa Zj9 A.cs).1,j.jc.fst]
  walk_at"e";rw[v];refine⟨dd,_,2,_,rfl,rfl,je.of (R _ _ od ?_),rfl,?_⟩
  ·intro z;rcases List.mem_cons.mp z with z | z
   ·rw[z,oh]at od;cases od
   ·rw[List.mem_singleton.mp z,oc]at od;cases od
  have J:=P.jd.hd h p m hp hm;refine⟨p.2,_,_,sl,rfl,rfl,J.o2,uh (by rw[bx];exact hl),?_⟩;obtain⟨f,t⟩:=P.slot r.wt U (k:=sl) (x:=some (lM M.cells:Nat)) hp hm;rw[qQ (M:={ M with used:=M.used+(1+many+bulk),born:=M.born+1,cells:=mZ M.cells ⟨M.born+1,bulk,M.sw.sense,0,List.replicate many.toNat none⟩ }) hm]at t;show bN _ _ _ (upd N p.2 (.lst ((m.2.map oV).set sl (oV (some (lM M.cells:Nat))))));generalize upd N p.2 (.lst ((m.2.map oV).set sl (oV (some (lM M.cells:Nat)))))=H2 at f t ⊢;obtain⟨d5,B⟩:=t.jb.ow;walk_at"e";refine aJ B T.cW T.KJ bA ?_;walk_at"e";refine⟨_,_,rfl,some (lM M.cells:Nat),rfl,T1,s,_,_,t,rfl,?_⟩;rw[pW];rw[show sS { M with used:=M.used+(1+many+bulk),born:=M.born+1,cells:=mZ M.cells ⟨M.born+1,bulk,M.sw.sense,0,List.replicate many.toNat none⟩ } (some (lM M.cells:Nat))=some (M.born+1)from by
   show(cellAt _ _).map _=_;rw[Gj];rfl]
  walk_at"e";refine⟨aX (by simp),λl hl=>⟨aX (by simp),λa ha=>?_⟩⟩;exact ev0 Z (d:=.make h sl many bulk) (Zal (by omega)) rfl (r.trans f) t rfl hl ha
end
theorem Zhl{M:Wm}{h s t f:Nat}(e:cO M (aR M h t)=none):qN M (.get h s t f)=.error .empty:=by
 show(match aR M h t with | none=>_ | some x=>_)=_;cases hs:aR M h t with
 | none=>rfl
 | some x=>
  rw[hs]at e;show(match cellAt M x with | none=>_ | some c=>_)=_;rw[show cellAt M x=none from e]
theorem Zhj{M:Wm}{h s t f:Nat}(e:cO M (aR M h t)=none):qN M (.put h t f s)=.error .empty:=by
 show(match aR M h t with | none=>_ | some x=>_)=_;cases hs:aR M h t with
 | none=>rfl
 | some x=>
  rw[hs]at e;show(match cellAt M x with | none=>_ | some c=>_)=_;rw[show cellAt M x=none from e]
theorem Zam{M:Wm}{h t:Nat}{l:Int}(e:cO M (aR M h t)=none):qN M (.write h t l)=.error .empty:=by
 show(match aR M h t with | none=>_ | some x=>_)=_;cases hs:aR M h t with
 | none=>rfl
 | some x=>
  rw[hs]at e;show(match cellAt M x with | none=>_ | some c=>_)=_;rw[show cellAt M x=none from e]
theorem Ze9{M:Wm}{h t:Nat}(e:cO M (aR M h t)=none):qN M (.read h t)=.error .empty:=by
 show(match aR M h t with | none=>_ | some x=>_)=_;cases hs:aR M h t with
 | none=>rfl
 | some x=>
  rw[hs]at e;show(match cellAt M x with | none=>_ | some c=>_)=_;rw[show cellAt M x=none from e]
theorem Zea{M:Wm}{h t:Nat}{z:Str}(e:cO M (aR M h t)=none):qN M (.name h t z)=.error .empty:=by
 show(match aR M h t with | none=>_ | some x=>_)=_;cases hs:aR M h t with
 | none=>rfl
 | some x=>
  rw[hs]at e;show(match cellAt M x with | none=>_ | some c=>_)=_;rw[show cellAt M x=none from e]
theorem Zlr{M:Wm}{h s t f:Nat}{i:Int}{c:Ce}(a:aR M h t=some i)(d:cellAt M i=some c)(b:c.fl[f]? =none):qN M (.get h s t f)=.error .rR:=by
 show(match aR M h t with | none=>_ | some x=>_)=_;rw[a];show(match cellAt M i with | none=>_ | some c=>_)=_;rw[d];show(match c.fl[f]? with | none=>_ | some v=>_)=_;rw[b]
theorem Zlp{M:Wm}{h s t f:Nat}{i:Int}{c:Ce}(a:aR M h t=some i)(d:cellAt M i=some c)(b:c.fl[f]? =none):qN M (.put h t f s)=.error .rR:=by
 show(match aR M h t with | none=>_ | some x=>_)=_;rw[a];show(match cellAt M i with | none=>_ | some c=>_)=_;rw[d];show(match c.fl[f]? with | none=>_ | some v=>_)=_;rw[b]
theorem Zlq{M:Wm}{h s t f:Nat}{i:Int}{c:Ce}{v:Option Int}(a:aR M h t=some i)(d:cellAt M i=some c)(b:c.fl[f]? =some v):qN M (.get h s t f)=.ok (⟨"got",sS M v,[]⟩,setSlot M h s v):=by
 show(match aR M h t with | none=>_ | some x=>_)=_;rw[a];show(match cellAt M i with | none=>_ | some c=>_)=_;rw[d];show(match c.fl[f]? with | none=>_ | some v=>_)=_;rw[b]
def putL(M:Wm)(h s:Nat)(v:Option Int):List (Option Int):=(if old? M=true then [v]else [])++if (qu M && !bB M h)=true then [aR M h s]else []
theorem Zlo{M:Wm}{h s t f:Nat}{i:Int}{c:Ce}{v:Option Int}(a:aR M h t=some i)(d:cellAt M i=some c)(b:c.fl[f]? =some v):qN M (.put h t f s)=.ok (⟨"put",sS M v,(aP (setCell M i { c with fl:=c.fl.set f (aR M h s) }) (putL M h s v)).1⟩,(aP (setCell M i { c with fl:=c.fl.set f (aR M h s) }) (putL M h s v)).2):=by
 show(match aR M h t with | none=>_ | some x=>_)=_;rw[a];show(match cellAt M i with | none=>_ | some c=>_)=_;rw[d];show(match c.fl[f]? with | none=>_ | some v=>_)=_;rw[b];rfl
theorem Ze8{M:Wm}{h t:Nat}{l i:Int}{c:Ce}(a:aR M h t=some i)(b:cellAt M i=some c):qN M (.write h t l)=.ok (⟨"wrote",some c.load,[]⟩,setCell M i { c with load:=l }):=by
 show(match aR M h t with | none=>_ | some x=>_)=_;rw[a];show(match cellAt M i with | none=>_ | some c=>_)=_;rw[b]
theorem Zhi{M:Wm}{h t:Nat}{i:Int}{c:Ce}(a:aR M h t=some i)(b:cellAt M i=some c):qN M (.read h t)=.ok (⟨"read",some c.load,[]⟩,M):=by
 show(match aR M h t with | none=>_ | some x=>_)=_;rw[a];show(match cellAt M i with | none=>_ | some c=>_)=_;rw[b]
theorem Zhk{M:Wm}{h t:Nat}{z:Str}{i:Int}{c:Ce}(a:aR M h t=some i)(b:cellAt M i=some c):qN M (.name h t z)=.ok (⟨"named",some c.birth,[]⟩,{ M with names:=vq M.names z (i,c.birth) }):=by
 show(match aR M h t with | none=>_ | some x=>_)=_;rw[a];show(match cellAt M i with | none=>_ | some c=>_)=_;rw[b]
section
variable {X:Cs}{H H':Hp}{T T':Tg}{s:Nat}{A:Wa}{M:Wm}
theorem Zqz{z:Str}{v:Int×Int}{t:Addr}(f:NmO H T t (z,v)):∀{ns:List Addr}{names:List (Str×(Int×Int))},Al (NmO H T) ns names->(∃b,(Ai names ns).map (λkv=>if kv.1=Sum.inr z then(kv.1,V.ref t)else kv)=Ai (names.map λm=>if m.1=z then(m.1,v)else m) b/\Al (NmO H T) b (names.map λm=>if m.1=z then(m.1,v)else m))/\
  ((Ai names ns).any λkv=>decide (kv.1=Sum.inr z))=(names.any λm=>decide (m.1=z))/\Ai names ns++[(Sum.inr z,V.ref t)]=Ai (names++[(z,v)]) (ns++[t])/\Al (NmO H T) (ns++[t]) (names++[(z,v)]):=by
 intro ns names h
 induction h with
 | nil=>exact⟨⟨[],rfl,.nil⟩,rfl,rfl,.cons f .nil⟩
 | @cons a m ns names h1 _ ih=>
  obtain⟨⟨b,c,d⟩,e3,g,i⟩:=ih;refine⟨?_,?_,?_,.cons h1 i⟩
  ·by_cases e:m.1=z
   ·refine⟨t::b,?_,?_⟩
    ·show(if (Sum.inr m.1:Int ⊕ Str)=Sum.inr z then _ else _)::_=_;rw[if_pos (by rw[e]),List.map_cons,if_pos e];show _::_=(Sum.inr m.1,V.ref t)::Ai _ b;rw[<- c];rfl
    ·rw[List.map_cons,if_pos e];exact .cons (by rw[e];exact f) d
   ·refine⟨a::b,?_,?_⟩
    ·show(if (Sum.inr m.1:Int ⊕ Str)=Sum.inr z then _ else _)::_=_;rw[if_neg (λw=>e (Sum.inr.inj w)),List.map_cons,if_neg e];show _::_=(Sum.inr m.1,V.ref a)::Ai _ b;rw[<- c];rfl
    ·rw[List.map_cons,if_neg e];exact .cons h1 d
  ·show(decide ((Sum.inr m.1:Int ⊕ Str)=Sum.inr z) || (Ai names ns).any _)=(decide (m.1=z) || names.any _);rw[e3];congr 1
   by_cases e:m.1=z<;>simp[e]
  ·show(Sum.inr m.1,V.ref a)::(Ai names ns++_)=(Sum.inr m.1,V.ref a)::Ai (names++_) (ns++_);rw[g]
theorem Zjo{ns:List Addr}{names:List (Str×(Int×Int))}(h:Al (NmO H T) ns names):(Ai names ns).length=names.length:=by
 induction h with
 | nil=>rfl
 | @cons a m ns names h1 _ ih=>show(_::Ai names ns).length=_;rw[List.length_cons,List.length_cons,ih]
theorem WJ.named(j:WJ X H T s A M)(w:WT H T)(k:s≠0){z:Str}{v:Int×Int}{t:Addr}(D:NmO H T t (z,v)):∃a,jo s H (upd H A.nm (.dK (putK (Ai M.names A.ns) (Sum.inr z) (.ref t)))) T T/\
  WJ X (upd H A.nm (.dK (putK (Ai M.names A.ns) (Sum.inr z) (.ref t)))) T s { A with ns:=a } { M with names:=vq M.names z v }:=by
 obtain⟨tm,om,nms⟩:=j.jn;obtain⟨⟨n1,l,r⟩,e3,x,B⟩:=Zqz D nms;have f:xV s (·=6) H (upd H A.nm (.dK (putK (Ai M.names A.ns) (Sum.inr z) (.ref t)))) T T:=xV.Cq tm;have i:∀{ns:List Addr}{names:List (Str×(Int×Int))},Al (NmO H T) ns names->Al (NmO (upd H A.nm (.dK (putK (Ai M.names A.ns) (Sum.inr z) (.ref t)))) T) ns names:=λh=>h.mono λt m ⟨z1,z2⟩=>⟨z1,pL k tm _ _ z2 z1⟩;have go:∀a,putK (Ai M.names A.ns) (Sum.inr z) (.ref t)=Ai (vq M.names z v) a->Al (NmO H T) a (vq M.names z v)->WJ X (upd H A.nm (.dK (putK (Ai M.names A.ns) (Sum.inr z) (.ref t)))) T s { A with ns:=a } { M with names:=vq M.names z v }:=λa u n=>by
  refine⟨?_,?_,⟨tm,by show upd _ A.nm _ A.nm=_;rw[aq,u],i n⟩,?_,j.jd.mv f λ_ _ _=>by omega,j.jc.mv f λ_ _=>by omega⟩
  ·obtain⟨c,e,d,g,p,C,o,q⟩:=j.jb.mv f (pL k tm) (by omega) (by omega);exact⟨c,e,d,g,p,C,o,q⟩
  ·obtain⟨c,e,d,g⟩:=j.jh.mv f (by omega) (by omega);exact⟨c,e,d,g⟩
  ·obtain⟨c,e,d,g⟩:=j.js.mv f (by omega) (by omega);exact⟨c,e,d,g⟩
 by_cases b:(M.names.any λm=>decide (m.1=z))=true
 ·refine⟨n1,jo.upd w om (by rw[tm]),go n1 ?_ ?_⟩
  ·unfold putK vq;rw[if_pos (e3.trans b),if_pos b,l]
  ·unfold vq;rw[if_pos b];exact r
 ·refine⟨A.ns++[t],jo.upd w om (by rw[tm]),go _ ?_ ?_⟩
  ·unfold putK vq;rw[if_neg (λy=>b (e3.symm.trans y)),if_neg b,x]
  ·unfold vq;rw[if_neg b];exact B
end
section
variable {K:aC}{X:Cs}{H:Hp}{Q:VK}{E:XK}{n:St->Hp->Prop}{bk ct:St->Hp->Prop}{rf:Rf->Addr}{CE CF CN:Addr}
theorem Zhh{wo dd:Addr}(T:qI K X)(o:rf .empty=CE)(r:rf .rR=CF)(q:Di X rf Vf wo dd H Q E):J7 K (cJ X) (nO X CE CF) (cg X) E ⟨n,Q,bk,ct⟩ [some (.ref wo),some (.ref dd),none,none,none,none] H:=by
 obtain⟨Tg,s,A,M,_,⟨h,sl,t,f,rfl⟩,w,D,j,rfl,od,⟨o1,o2⟩,hc,O,R,hn,B,F⟩:=q;obtain⟨p,m,hp,hm,hs,hl,hd⟩:=j.handOf o1;unfold J7;walk_at"e";refine⟨dd,_,1,_,rfl,rfl,je.of od,rfl,?_⟩;walk_at"e";refine⟨dd,_,3,_,rfl,rfl,je.of od,rfl,?_⟩;walk_at"e";refine⟨dd,_,4,_,rfl,rfl,je.of od,rfl,?_⟩;walk_at"e";refine⟨_,_,_,_,rfl,Tg,s,A,M,h,t,f,j,rfl,rfl,rfl,rfl,o2,λe=>?_,λi c z J y u=>?_,λi c L z J y C ce u=>?_⟩
 ·rw[<- o];exact B .empty (Zhl e) H (aU.refl _)
 ·rw[<- r];exact B .rR (Zlr z y u) H (aU.refl _)
 ·have hv:=bL u;walk_at"e";refine jW (cV.of ce.o2) (jl (v:=oV (c.fl[f])) (by rw[cA,hv];rfl)) ?_;walk_at"e";refine⟨_,_,rfl,Tg,s,A,M,h,p,j,rfl,rfl,hp,?_⟩;walk_at"e";refine⟨dd,_,2,_,rfl,rfl,je.of od,rfl,?_⟩;refine⟨p.2,_,_,sl,rfl,rfl,hd.o2,uh (by rw[bx];exact hl),?_⟩;obtain⟨g,b⟩:=j.slot w D (k:=sl) (x:=c.fl[f]) hp hm;rw[qQ hm]at b;generalize upd H p.2 (.lst ((m.2.map oV).set sl (oV c.fl[f])))=P at g b ⊢;obtain⟨N,ow⟩:=b.jb.ow;walk_at"e";refine aJ ow T.cW T.KJ bA ?_;walk_at"e";refine⟨_,_,rfl,c.fl[f],rfl,Tg,s,A,_,b,rfl,?_⟩;rw[pW];walk_at"e";refine⟨aX (by simp),λl hl=>⟨aX (by simp),λa I=>?_⟩⟩;exact ev0 F (d:=.get h sl t f) (Zlq z y hv) rfl g b rfl hl I
theorem Zhg{wo dd:Addr}(T:qI K X)(y:rf .empty=CE)(z:rf .rR=CF)(q:Di X rf Ve wo dd H Q E):J4 K (cJ X) (nO X CE CF) (fJ X) (cg X) (pM X) (z6 X) E ⟨n,Q,bk,ct⟩ [some (.ref wo),some (.ref dd),none,none,none,none,none,none] H:=by
 obtain⟨Tg,s,A,M,_,⟨h,t,f,sl,rfl⟩,w,U,j,rfl,od,⟨o2,o1⟩,hc,hg,Z,hn,W,hQ⟩:=q;obtain⟨p,m,hp,hm,hs,hl,hd⟩:=j.handOf o1;unfold J4;walk_at"e";refine⟨dd,_,1,_,rfl,rfl,je.of od,rfl,?_⟩;walk_at"e";refine⟨dd,_,3,_,rfl,rfl,je.of od,rfl,?_⟩;walk_at"e";refine⟨dd,_,2,_,rfl,rfl,je.of od,rfl,?_⟩;walk_at"e";refine⟨_,_,_,_,rfl,Tg,s,A,M,h,t,f,j,rfl,rfl,rfl,rfl,o2,λe=>?_,λi c N h0 u r=>?_,λi c S N h0 u D ce r=>?_⟩
 ·rw[<- y];exact W .empty (Zhj e) H (aU.refl _)
 ·rw[<- z];exact W .rR (Zlp N u r) H (aU.refl _)
 ·have hv:=bL r;walk_at"e";refine jW (cV.of ce.o2) (jl (v:=oV (c.fl[f])) (by rw[cA,hv];rfl)) ?_;walk_at"e";refine⟨_,_,rfl,Tg,s,A,M,h,p,j,rfl,rfl,hp,?_⟩;walk_at"e";refine⟨dd,_,4,_,rfl,rfl,je.of od,rfl,?_⟩;refine jW (cV.of hd.o2) (jl (v:=oV (aR M h sl)) (by rw[cA,hs];rfl)) ?_;walk_at"e";refine⟨S.2,_,_,f,rfl,rfl,ce.o2,uh (by rw[bx];exact r),?_⟩;obtain⟨b,l⟩:=j.field w U (k:=f) (x:=aR M h sl) D ce;have l:WJ X _ Tg s A (setCell M i { c with fl:=c.fl.set f (aR M h sl) }):=l;generalize upd H S.2 (.lst ((c.fl.map oV).set f (oV (aR M h sl))))=H1 at b l ⊢;walk_at"e";refine⟨_,_,rfl,Tg,s,A,_,l,rfl,Z,λR C=>?_⟩;rw[show old? (setCell M i { c with fl:=c.fl.set f (aR M h sl) })=old? M from rfl,Zkn];generalize zz:upd H1 R _=H2;obtain⟨B,g1⟩:=nwO C zz;walk_at"e";refine⟨_,_,_,rfl,Tg,s,A,_,h,l.same B,rfl,Z,rfl,λV P=>?_⟩;rw[show(qu (setCell M i { c with fl:=c.fl.set f (aR M h sl) }) && !bB (setCell M i { c with fl:=c.fl.set f (aR M h sl) }) h)=(qu M && !bB M h)from rfl,Zkn];generalize zz:upd H2 V _=H3;obtain⟨L,g2⟩:=nwO P zz;walk_at"e";refine⟨R,V,_,_,rfl,rfl,L _ _ g1,g2,?_,λY o=>?_⟩
  ·refine aX ?_;cases old? M<;>cases (qu M && !bB M h)<;>simp
  rw[<- List.map_append];generalize zz:upd H3 Y _=H4;obtain⟨s3,O⟩:=nwO o zz;have O:H4 Y=some (.lst ((putL M h sl c.fl[f]).map oV)):=O;have g:=B.trans (L.trans s3);walk_at"e";refine⟨_,_,rfl,putL M h sl c.fl[f],Tg,s,A,_,b.wt.same g,U,l.same g,rfl,.inl ⟨O,(b.wt.same (B.trans L)) _ o⟩,?_,hg,λH5 T5 l5 J F g5 I=>?_⟩
  ·unfold putL;cases old? M<;>cases (qu M && !bB M h)<;>simp
  obtain⟨d1,ow⟩:=F.jb.ow;walk_at"e";refine aJ ow T.cW T.KJ bA ?_;walk_at"e";refine⟨_,_,rfl,c.fl[f],rfl,T5,s,A,_,F,rfl,?_⟩;rw[zQ,Mr (c':={ c with fl:=c.fl.set f (aR M h sl) }) u rfl];walk_at"e";refine⟨aX (by simp),λa ha=>?_⟩;exact ev1 (jo.free b (g.free I)) hQ (d:=.put h t f sl) (Zlo N u hv) (b.trans ((jo.same b.wt g).trans J)) F rfl g5 ha
theorem Zak{wo dd:Addr}(T:qI K X)(g:rf .empty=CE)(q:Di X rf Dq wo dd H Q E):BJ K (jP X CE) E ⟨n,Q,bk,ct⟩ [some (.ref wo),some (.ref dd),none,none] H:=by
 obtain⟨Tg,s,A,M,_,⟨h,t,load,rfl⟩,w,p,j,rfl,od,o1,hc,B,F,hn,v,r⟩:=q;unfold BJ;walk_at"e";refine⟨dd,_,1,_,rfl,rfl,je.of od,rfl,?_⟩;walk_at"e";refine⟨dd,_,2,_,rfl,rfl,je.of od,rfl,?_⟩;walk_at"e";refine⟨_,_,_,rfl,Tg,s,A,M,h,t,j,rfl,rfl,rfl,o1,λe=>?_,λi c k x I u m ce=>?_⟩
 ·rw[<- g];exact v .empty (Zam e) H (aU.refl _)
 ·obtain⟨t1,t2,⟨dx,b⟩,y⟩:=id ce;walk_at"e";refine aJ b T.c.cT T.c.jB xP ?_;walk_at"e";refine⟨dd,_,3,_,rfl,rfl,je.of od,rfl,?_⟩;walk_at"e";refine⟨k.1,X.C,dx,_,rfl,b,T.c.cT,T.c.jB,by show 5<1000;decide,?_⟩;rw[Rj];obtain⟨f,o⟩:=j.cell w p (dx:=dx) (tone:=c.tone) (load:=load) m ce;generalize upd H k.1 (.ins X.C dx (mY c.birth c.bulk c.tone load k.2))=D at f o ⊢;walk_at"e";refine⟨aX (by simp),λl hl=>⟨aX (by simp),λa z=>?_⟩⟩;exact ev0 r (d:=.write h t load) (Ze8 x u) rfl f o rfl hl z
theorem Ze2{wo dd:Addr}(T:qI K X)(b:rf .empty=CE)(q:Di X rf Ld wo dd H Q E):Fq K (jP X CE) E ⟨n,Q,bk,ct⟩ [some (.ref wo),some (.ref dd),none] H:=by
 obtain⟨Tg,s,A,M,_,⟨h,t,rfl⟩,w,x,j,rfl,od,o1,hc,y,z,hn,o,k⟩:=q;unfold Fq;walk_at"e";refine⟨dd,_,1,_,rfl,rfl,je.of od,rfl,?_⟩;walk_at"e";refine⟨dd,_,2,_,rfl,rfl,je.of od,rfl,?_⟩;walk_at"e";refine⟨_,_,_,rfl,Tg,s,A,M,h,t,j,rfl,rfl,rfl,o1,λe=>?_,λi c v p B m g ce=>?_⟩
 ·rw[<- b];exact o .empty (Ze9 e) H (aU.refl _)
 ·obtain⟨t1,t2,⟨dx,f⟩,r⟩:=id ce;walk_at"e";refine aJ f T.c.cT T.c.jB xP ?_;walk_at"e";refine⟨aX (by simp),λl hl=>⟨aX (by simp),λa u=>?_⟩⟩;exact ev0 k (d:=.read h t) (Zhi p m) rfl (jo.refl w) j rfl hl u
theorem Ze3{wo dd:Addr}(T:qI K X)(o:rf .empty=CE)(q:Di X rf isName wo dd H Q E):Ft K (jP X CE) (cg X) E ⟨n,Q,bk,ct⟩ [some (.ref wo),some (.ref dd),none,none,none] H:=by
 obtain⟨Tg,s,A,M,_,⟨h,t,z,rfl⟩,w,D,j,rfl,od,o1,hc,U,V,hn,L,I⟩:=q;obtain⟨p,m,hp,hm,hs,hl,hd⟩:=j.handOf o1;unfold Ft;walk_at"e";refine⟨dd,_,1,_,rfl,rfl,je.of od,rfl,?_⟩;walk_at"e";refine⟨dd,_,2,_,rfl,rfl,je.of od,rfl,?_⟩;walk_at"e";refine⟨_,_,_,rfl,Tg,s,A,M,h,t,j,rfl,rfl,rfl,o1,λe=>?_,λi c P x W J C ce=>?_⟩
 ·rw[<- o];exact L .empty (Zea e) H (aU.refl _)
 ·obtain⟨t1,t2,⟨dx,u⟩,N⟩:=id ce;walk_at"e";refine aJ u T.c.cT T.c.dR gK ?_;walk_at"e";refine⟨_,_,rfl,Tg,s,A,M,h,p,j,rfl,rfl,hp,?_⟩;walk_at"e";refine jW (cV.of hd.o2) (jl (v:=oV (aR M h t)) (by rw[cA,hs];rfl)) ?_;rw[x];walk_at"e";refine⟨aX (by simp),λtp b=>?_⟩;generalize zz:upd H tp _=H1;obtain⟨g,r⟩:=nwO b zz;have r:H1 tp=some (.tup [.int i,.int c.birth]):=r;have k:=j.same g;have B:=w.same g;obtain⟨R,ow⟩:=k.jb.ow;walk_at"e";refine aJ ow T.cW T.nWn mL ?_;walk_at"e";refine⟨dd,_,3,_,rfl,rfl,je.of (g _ _ od),rfl,?_⟩;refine⟨_,_,rfl,Zul k.jn.om (by rw[Zjo k.jn.nms];exact Nat.lt_of_le_of_lt hn (by decide)),?_⟩;obtain⟨F,f,y⟩:=k.named B D (z:=z) (v:=(i,c.birth)) (t:=tp) ⟨w _ b,r⟩;generalize upd H1 A.nm (.dK (putK (Ai M.names A.ns) (Sum.inr z) (.ref tp)))=S at f y ⊢;walk_at"e";refine⟨aX (by simp),λl hl=>⟨aX (by simp),λa O=>?_⟩⟩;exact ev0 I (d:=.name h t z) (Zhk x J) rfl ((jo.same w g).trans f) y rfl hl O
theorem Ze1{wo dd:Addr}(T:qI K X)(u:rf .Qv=CN)(q:Di X rf Lb wo dd H Q E):Fp K (cJ X) (fJ X) (su X CN) (cg X) E ⟨n,Q,bk,ct⟩ [some (.ref wo),some (.ref dd),none,none] H:=by
 obtain⟨Tg,s,A,M,_,⟨h,sl,z,rfl⟩,w,F,j,rfl,od,o1,hc,L,Z,hn,N,J⟩:=q;obtain⟨p,m,hp,hm,hs,hl,hd⟩:=j.handOf o1;unfold Fp;walk_at"e";refine⟨dd,_,3,_,rfl,rfl,je.of od,rfl,?_⟩;walk_at"e";refine⟨_,_,rfl,Tg,s,A,M,j,rfl,λe=>?_,λpl b e=>?_⟩
 ·rw[<- u];refine N .Qv ?_ H (aU.refl _);show(match ym M.names z with | none=>_ | some (p,b)=>_)=_;rw[e]
 ·let x:Option Int:=if pU M pl b=true then none else some pl
  have ex:(if pU M pl b=true then V.non else .int pl)=oV x:=by
   show _=oV (if _ then _ else _);cases pU M pl b<;>rfl
  rw[ex];have O:qN M (.seek h sl z)=.ok (⟨"sought",sS M x,(aP (setSlot M h sl x) [x]).1⟩,(aP (setSlot M h sl x) [x]).2):=by
   show(match ym M.names z with | none=>_ | some (p,b)=>_)=_;rw[e];dsimp only;cases f:pU M pl b with
   | true=>
    have:x=none:=by show(if _ then _ else _)=_;rw[f];rfl
    rw[this];rfl
   | false=>
    have hx:x=some pl:=by show(if _ then _ else _)=_;rw[f];rfl
    have:sS M (some pl)=some b:=by
     unfold pU at f;show(cellAt M pl).map _=_;cases l:cellAt M pl with
     | none=>rw[l]at f;cases f
     | some c=>
      rw[l]at f;dsimp only at f
      by_cases y:c.birth=b
      ·rw[<- y];rfl
      ·rw[if_neg y]at f;cases f
    rw[hx,this];rfl
  clear_value x;walk_at"e";refine⟨dd,_,1,_,rfl,rfl,je.of od,rfl,?_⟩;walk_at"e";refine⟨_,_,rfl,Tg,s,A,M,h,p,j,rfl,rfl,hp,?_⟩;walk_at"e";refine⟨dd,_,2,_,rfl,rfl,je.of od,rfl,?_⟩;refine⟨p.2,_,_,sl,rfl,rfl,hd.o2,uh (by rw[bx];exact hl),?_⟩;obtain⟨g,r⟩:=j.slot w F (k:=sl) (x:=x) hp hm;rw[qQ hm]at r;generalize upd H p.2 (.lst ((m.2.map oV).set sl (oV x)))=P at g r ⊢;walk_at"e";refine⟨aX (by simp),λD i=>?_⟩;generalize zz:upd P D _=H2;obtain⟨o,t⟩:=nwO i zz;have t:H2 D=some (.lst ([x].map oV)):=t;walk_at"e";refine⟨_,_,rfl,[x],Tg,s,A,_,g.wt.same o,F,r.same o,rfl,.inl ⟨t,g.wt _ i⟩,by simp,L,λW I Y v C R B=>?_⟩;obtain⟨U,ow⟩:=C.jb.ow;walk_at"e";refine aJ ow T.cW T.KJ bA ?_;walk_at"e";refine⟨_,_,rfl,x,rfl,I,s,A,_,C,rfl,?_⟩;rw[zQ,pW];walk_at"e";refine⟨aX (by simp),λa S=>?_⟩;exact ev1 (jo.free g (o.free B)) J (d:=.seek h sl z) O (g.trans ((jo.same g.wt o).trans v)) C rfl R S
end
section
variable {K:aC}{X:Cs}{H:Hp}{Q:VK}{E:XK}{n:St->Hp->Prop}{bk ct:St->Hp->Prop}{rf:Rf->Addr}{f1 f2 f3 f4 f5 f6 f7 f8 f9 f10:Addr}
theorem Zum{wo dd:Addr}(T:qI K X)(q:Di X rf (λ_=>True) wo dd H Q E):
  Zij K f1 f2 f3 f4 f5 f6 f7 f8 f9 f10 (cz X rf Lh) (cz X rf Lg) (cz X rf Vf) (cz X rf Lf) (cz X rf Le) (cz X rf isName) (cz X rf Ve) (cz X rf Ld) (cz X rf Lb) (cz X rf Dq) E ⟨n,Q,bk,ct⟩ [some (.ref wo),some (.ref dd),none] H:=by
 obtain⟨Tg,s,A,M,d,_,w,a,j,rfl,od,r⟩:=q;unfold Zij;cases d with
 | make h s' many bulk=>
  walk_at"e";refine⟨dd,_,0,_,rfl,rfl,je.of od,rfl,?_⟩;refine⟨_,f5,rfl,rfl,?_⟩;walk_at"e";refine mW (cz X rf Le) rfl (by simp) ?_;walk_at"e";exact⟨_,_,rfl,Tg,s,A,M,_,⟨_,_,_,_,rfl⟩,w,a,j,rfl,od,r⟩
 | get h s' t f=>
  walk_at"e";refine⟨dd,_,0,_,rfl,rfl,je.of od,rfl,?_⟩;refine⟨_,f3,rfl,rfl,?_⟩;walk_at"e";refine mW (cz X rf Vf) rfl (by simp) ?_;walk_at"e";exact⟨_,_,rfl,Tg,s,A,M,_,⟨_,_,_,_,rfl⟩,w,a,j,rfl,od,r⟩
 | put h t f s'=>
  walk_at"e";refine⟨dd,_,0,_,rfl,rfl,je.of od,rfl,?_⟩;refine⟨_,f7,rfl,rfl,?_⟩;walk_at"e";refine mW (cz X rf Ve) rfl (by simp) ?_;walk_at"e";exact⟨_,_,rfl,Tg,s,A,M,_,⟨_,_,_,_,rfl⟩,w,a,j,rfl,od,r⟩
 | copy h s' t=>
  walk_at"e";refine⟨dd,_,0,_,rfl,rfl,je.of od,rfl,?_⟩;refine⟨_,f1,rfl,rfl,?_⟩;walk_at"e";refine mW (cz X rf Lh) rfl (by simp) ?_;walk_at"e";exact⟨_,_,rfl,Tg,s,A,M,_,⟨_,_,_,rfl⟩,w,a,j,rfl,od,r⟩
 | drop h s'=>
  walk_at"e";refine⟨dd,_,0,_,rfl,rfl,je.of od,rfl,?_⟩;refine⟨_,f2,rfl,rfl,?_⟩;walk_at"e";refine mW (cz X rf Lg) rfl (by simp) ?_;walk_at"e";exact⟨_,_,rfl,Tg,s,A,M,_,⟨_,_,rfl⟩,w,a,j,rfl,od,r⟩
 | give h s' g t=>
  walk_at"e";refine⟨dd,_,0,_,rfl,rfl,je.of od,rfl,?_⟩;refine⟨_,f4,rfl,rfl,?_⟩;walk_at"e";refine mW (cz X rf Lf) rfl (by simp) ?_;walk_at"e";exact⟨_,_,rfl,Tg,s,A,M,_,⟨_,_,_,_,rfl⟩,w,a,j,rfl,od,r⟩
 | write h t load=>
  walk_at"e";refine⟨dd,_,0,_,rfl,rfl,je.of od,rfl,?_⟩;refine⟨_,f10,rfl,rfl,?_⟩;walk_at"e";refine mW (cz X rf Dq) rfl (by simp) ?_;walk_at"e";exact⟨_,_,rfl,Tg,s,A,M,_,⟨_,_,_,rfl⟩,w,a,j,rfl,od,r⟩
 | read h t=>
  walk_at"e";refine⟨dd,_,0,_,rfl,rfl,je.of od,rfl,?_⟩;refine⟨_,f8,rfl,rfl,?_⟩;walk_at"e";refine mW (cz X rf Ld) rfl (by simp) ?_;walk_at"e";exact⟨_,_,rfl,Tg,s,A,M,_,⟨_,_,rfl⟩,w,a,j,rfl,od,r⟩
 | name h t z=>
  walk_at"e";refine⟨dd,_,0,_,rfl,rfl,je.of od,rfl,?_⟩;refine⟨_,f6,rfl,rfl,?_⟩;walk_at"e";refine mW (cz X rf isName) rfl (by simp) ?_;walk_at"e";exact⟨_,_,rfl,Tg,s,A,M,_,⟨_,_,_,rfl⟩,w,a,j,rfl,od,r⟩
 | seek h s' z=>
  walk_at"e";refine⟨dd,_,0,_,rfl,rfl,je.of od,rfl,?_⟩;refine⟨_,f9,rfl,rfl,?_⟩;walk_at"e";refine mW (cz X rf Lb) rfl (by simp) ?_;walk_at"e";exact⟨_,_,rfl,Tg,s,A,M,_,⟨_,_,_,rfl⟩,w,a,j,rfl,od,r⟩
end
def jL(X:Cs):Sp:=λvs H Q E=>∃hp sl,vs=[.ref hp,.ref sl]/\∃T s A M,∃xs:List (Option Int),WJ X H T s A M/\A.hp=hp/\H sl=some (.lst (xs.map oV))/\xs.length<=1000/\∀l,H l=none->Q (.ref l) (upd H l (.lst ((xs.map (sS M)).map oV)))
def uV(X:Cs):Sp:=λvs H Q E=>∃wo,vs=[.ref wo]/\∃T s A M,WJ X H T s A M/\A.wo=wo/\M.cells.length<=1000/\(∀m∈M.hands,m.2.length<=1000)/\∀(l:Addr) (ls:List Addr) H',aU H H'->H' l=some (.lst (ls.map V.ref))->ls.length=(rowsOf M).length->(∀(j:Nat) r x,ls[j]? =some r->(rowsOf M)[j]? =some x->H' r=some (.lst (x.map oV)))->(H l=none/\(∀r∈ls,H r=none)/\l∉ls)->Q (.ref l) H'
section
variable {K:aC}{X:Cs}{H:Hp}{Q:VK}{E:XK}{n:St->Hp->Prop}{bk ct:St->Hp->Prop}
theorem Yk{hp sl:Addr}(T:qI K X)(q:∃T s A M,∃xs:List (Option Int),WJ X H T s A M/\A.hp=hp/\H sl=some (.lst (xs.map oV))/\xs.length<=1000/\∀l,H l=none->Q (.ref l) (upd H l (.lst ((xs.map (sS M)).map oV)))):
  yV K (cJ X) ⟨n,Q,bk,ct⟩ [some (.ref hp),some (.ref sl)] H:=by
 obtain⟨Tg,s,A,M,xs,j,rfl,o,hx,q⟩:=q;unfold yV;walk_at"e";refine Em ?_;walk_at"e";refine⟨_,rfl,⟨_,cV.of o⟩,?_⟩;refine Zf1 (cV.of o) (λi=>(xs[i]?).map λx=>oV (sS M x)) (by rw[bx];omega) (λi x hx=>?_) ?_
 ·rw[cA]at hx;obtain⟨y,hy,rfl⟩:=Option.map_eq_some_iff.mp hx;refine⟨λq hq=>?_,λz q hz hq=>?_⟩
  ·rw[hy]at hq;exact CQ hq
  ·rw[hy]at hz;cases hz;walk_at"c";walk_at"e";exact⟨_,_,rfl,y,rfl,Tg,s,A,M,j,rfl,hq⟩
 ·intro p hp;have:(List.range (xs.map oV).length).filterMap (λi=>(xs[i]?).map λx=>oV (sS M x))=(xs.map (sS M)).map oV:=by
   rw[bx,List.map_map];clear q o hx
   induction xs with
   | nil=>rfl
   | cons a l ih=>
    rw[List.length_cons,List.range_succ_eq_map,List.filterMap_cons];simp only[List.getElem?_cons_zero,Option.map_some,List.map_cons,List.filterMap_map];congr 1
  rw[this];exact q p hp
theorem Rn{wo:Addr}(T:qI K X)(q:∃T s A M,WJ X H T s A M/\A.wo=wo/\M.cells.length<=1000/\(∀m∈M.hands,m.2.length<=1000)/\∀(l:Addr) (ls:List Addr) H',aU H H'->H' l=some (.lst (ls.map V.ref))->ls.length=(rowsOf M).length->(∀(j:Nat) r x,ls[j]? =some r->(rowsOf M)[j]? =some x->H' r=some (.lst (x.map oV)))->(H l=none/\(∀r∈ls,H r=none)/\l∉ls)->Q (.ref l) H'):
  uI K (jL X) ⟨n,Q,bk,ct⟩ [some (.ref wo)] H:=by
 obtain⟨Tg,s,A,M,j,rfl,hc,hh,q⟩:=q;obtain⟨B,ow⟩:=j.jb.ow;have l5:=j.jd.l5;unfold uI;walk_at"e";refine Em ?_;walk_at"e";refine aJ ow T.cW T.nWd gZ ?_;refine⟨_,rfl,⟨_,cV.of j.jb.on⟩,?_⟩;refine QL (cV.of j.jb.on) (by rw[bx];omega) (λi r o=>∃x,(rowsOf M)[i]? =some x/\o r=some (.lst (x.map oV))) (λ_ _ _ _ ⟨x,e,z⟩ s=>⟨x,e,s _ _ z⟩) (λ_ _ _ ⟨_,_,z⟩=>⟨_,z⟩) (λx u q hq=>CQ hq) (λi x u hi a C hq=>?_) ?_
 ·rw[cA]at hi;obtain⟨p,hp,rfl⟩:=Option.map_eq_some_iff.mp hi;have b:=j.same a;obtain⟨m,hm,hd⟩:=b.hand hp;obtain⟨dx,o1⟩:=hd.o1;obtain⟨w,c⟩:=b.jb.ow;walk_at"c";walk_at"e";refine aJ c T.cW T.KJ bA ?_;walk_at"e";refine aJ o1 T.cD T.nDs qF ?_;walk_at"e";refine⟨_,_,rfl,Tg,s,A,M,m.2,b,rfl,hd.o2,hh m (List.mem_of_getElem? hm),λl hl=>?_⟩;exact hq l _ (aL hl _) hl ⟨_,by unfold rowsOf;rw[cA,hm];rfl,aq⟩
 ·intro rs H' a hl _ v hr p hp;have f:=aL hp (.lst (rs.map V.ref));refine q p rs _ (a.trans f) aq ?_ (λt r x g h=>?_) ⟨a.free hp,v,λz=>?_⟩
  ·rw[hl,bx];unfold rowsOf;rw[bx,j.jd.lh]
  ·obtain⟨y,e3,z⟩:=hr t r g;rw[h]at e3;cases e3;exact f _ _ z
  ·obtain⟨k,hk,e⟩:=List.getElem_of_mem z;obtain⟨_,_,d⟩:=hr k p (by rw[bL hk,e]);rw[hp]at d;cases d
end
def v9(a:Addr):Sp:=λvs H Q E=>∃p nm many,vs=[.ref p,.str nm,.int many]/\∃dx,H p=some (.ins a dx [])/\0<=many/\many<=1000/\
 ∀sa H',H sa=none->H' p=some (.ins a dx (Za8 nm sa))->H' sa=some (.lst (List.replicate many.toNat V.non))->(∀b o,H b=some o->b≠p->H' b=some o)->Q .non H'
def qL(a:Addr):Sp:=λvs H Q E=>∃p,vs=[.ref p]/\∃dx,H p=some (.ins a dx [])/\
 ∀gr H',H gr=none->H' p=some (.ins a dx (cF 0 "rest" gr 0 0 0 0 0 0 0 .non))->H' gr=some (.lst [])->(∀b o,H b=some o->b≠p->H' b=some o)->Q .non H'
section
variable {K:aC}{X:Cs}{H:Hp}{Q:VK}{E:XK}{n:St->Hp->Prop}{bk ct:St->Hp->Prop}
theorem LQ{p:Addr}{nm:Str}{many:Int}(T:qI K X)(q:∃dx,H p=some (.ins X.D dx [])/\0<=many/\many<=1000/\
 ∀sa H',H sa=none->H' p=some (.ins X.D dx (Za8 nm sa))->H' sa=some (.lst (List.replicate many.toNat V.non))->(∀b o,H b=some o->b≠p->H' b=some o)->Q .non H'):
  rA K ⟨λ_ H'=>Q .non H',Q,bk,ct⟩ [some (.ref p),some (.str nm),some (.int many)] H:=by
 obtain⟨dx,hp,m,h1,h⟩:=q;unfold rA;walk_at"e";refine⟨p,X.D,dx,[],rfl,hp,T.cD,T.nDn,by decide,?_⟩;walk_at"e";refine⟨by decide,λi f=>?_⟩;walk_at"e";refine⟨i,many,_,rfl,rfl,aq,by omega,by omega,?_,λfa a=>?_⟩
 ·show 1 * many.toNat<=sizeLine;exact aX (by omega)
 have c:p≠i:=aD aq f;have d:p≠fa:=aD (by rw[aB c];exact aq) a;have g:H fa=none:=by
  by_cases z:fa=i
  ·rw[z,aq]at a;cases a
  ·rw[aB z,aB (λe=>d e.symm)]at a;exact a
 have j:H i=none:=by rw[aB (λe=>c e.symm)]at f;exact f
 walk_at"e";refine⟨p,X.D,dx,_,rfl,by rw[aB d,aB c];exact aq,T.cD,T.nDs,by show 1<1000;decide,?_⟩;refine h fa _ g ?_ ?_ λb o hb l=>?_
 ·rw[aq,Zl6]
 ·rw[aB d.symm,aq];congr 2;generalize many.toNat=k
  induction k with
  | zero=>rfl
  | succ k ih=>rw[List.replicate_succ,List.replicate_succ,List.flatten_cons,ih];rfl
 ·rw[aB l,aB (aD hb g),aB (aD hb j),aB l];exact hb
theorem DY{p:Addr}(T:qI K X)(q:∃dx,H p=some (.ins X.S dx [])/\
 ∀gr H',H gr=none->H' p=some (.ins X.S dx (cF 0 "rest" gr 0 0 0 0 0 0 0 .non))->H' gr=some (.lst [])->(∀b o,H b=some o->b≠p->H' b=some o)->Q .non H'):
  oG K ⟨λ_ H'=>Q .non H',Q,bk,ct⟩ [some (.ref p)] H:=by
 obtain⟨dx,hp,h⟩:=q;unfold oG;walk_at"e";refine⟨p,X.S,dx,[],rfl,hp,T.cS,T.n1,by decide,?_⟩;walk_at"e";refine⟨p,X.S,dx,_,rfl,aq,T.cS,T.n2,by show 1<1000;decide,?_⟩;rw[eN];walk_at"e";refine⟨by decide,λgr c=>?_⟩;have a:p≠gr:=aD aq c;have d:H gr=none:=by rw[aB a.symm]at c;exact c
 walk_at"e";refine⟨p,X.S,dx,_,rfl,by rw[aB a];exact aq,T.cS,T.n3,by show 2<1000;decide,?_⟩;walk_at"e";refine⟨p,X.S,dx,_,rfl,aq,T.cS,T.n4,by show 3<1000;decide,?_⟩;rw[eN];walk_at"e";refine⟨p,X.S,dx,_,rfl,aq,T.cS,T.n5,by show 4<1000;decide,?_⟩;rw[eN];walk_at"e";refine⟨p,X.S,dx,_,rfl,aq,T.cS,T.n6,by show 5<1000;decide,?_⟩;rw[eN];walk_at"e";refine⟨p,X.S,dx,_,rfl,aq,T.cS,T.n7,by show 6<1000;decide,?_⟩;rw[eN];walk_at"e";refine⟨p,X.S,dx,_,rfl,aq,T.cS,T.n8,by show 7<1000;decide,?_⟩;rw[eN];walk_at"e";refine⟨p,X.S,dx,_,rfl,aq,T.cS,T.n9,by show 8<1000;decide,?_⟩;rw[eN];walk_at"e";refine⟨p,X.S,dx,_,rfl,aq,T.cS,T.n10,by show 9<1000;decide,?_⟩;rw[eN];walk_at"e";refine⟨p,X.S,dx,_,rfl,aq,T.cS,T.n11,by show 10<1000;decide,?_⟩;rw[eN];refine h gr _ d ?_ ?_ λb o hb e=>?_
 ·rw[aq,Zfn]
 ·rw[aB a.symm,aq]
 ·rw[aB e,aB (aD hb d),aB e];exact hb
end
def wd(w:Int):Str:=if w=0 then "first" else if w=1 then "each" else "last"
def tlS(t:Int):Str:=if t=0 then "" else if t=1 then " old" else if t=2 then " new" else " old new"
def words(w t:Int):Str:=wd w++tlS t
structure KdO(X:Cs)(H:Hp)(ki lk:Addr)(w t:Int):Prop where
 ok:∃dx,H ki=some (.ins X.K dx (QS lk t))
 ol:∃dx,(w=0/\H lk=some (.ins X.F dx []))\/(w=1/\H lk=some (.ins X.E dx []))
theorem KdO.same{X:Cs}{H H':Hp}{ki lk:Addr}{w t:Int}(k:KdO X H ki lk w t)(s:aU H H'):KdO X H' ki lk w t:=by
 obtain⟨⟨d,a⟩,⟨c,b⟩⟩:=k;refine⟨⟨d,s _ _ a⟩,⟨c,?_⟩⟩;rcases b with ⟨z,e⟩ | ⟨z,e⟩
 ·exact .inl ⟨z,s _ _ e⟩
 ·exact .inr ⟨z,s _ _ e⟩
def KH(room:Int)(hands:List (Str×Int))(w t:Int):Wm:=⟨room,0,0,[],hands.map λm=>(m.1,List.replicate m.2.toNat none),[],w,t,⟨0,"rest",[],0,0,0,0,0,0,0,.non⟩⟩
def ur(X:Cs):Sp:=λvs H Q E=>∃p room ki a,vs=[.ref p,.int room,.ref ki,.ref a]/\∃dx T s lk w t ts hands,H p=some (.ins X.W dx [])/\WT H T/\s≠0/\KdO X H ki lk w t/\T ki=(0,0)/\T lk=(0,0)/\ki≠p/\lk≠p/\H a=some (.lst (ts.map V.ref))/\
 Al (λ(t:Addr) (m:Str×Int)=>H t=some (.tup [.str m.1,.int m.2])/\0<=m.2/\m.2<=1000) ts hands/\hands.length<=30/\
 ∀H' T' A,(∀b o,H b=some o->b≠p->H' b=some o)->(∀b o,H b=some o->b≠p->T' b=T b)->WT H' T'->A.wo=p->WJ X H' T' s A (KH room hands w t)->Q .non H'
def sU(a:Addr):Sp:=λvs H Q E=>∃p l t,vs=[.ref p,.ref l,.int t]/\∃dx,H p=some (.ins a dx [])/\∀H',H' p=some (.ins a dx (QS l t))->(∀b o,H b=some o->b≠p->H' b=some o)->Q .non H'
def Gr(v:V):Sp:=λvs H Q E=>∃a,vs=[.ref a]/\Q v H
section
variable {K:aC}{X:Cs}{H:Hp}{Q:VK}{E:XK}{n:St->Hp->Prop}{bk ct:St->Hp->Prop}
theorem Lz{p l:Addr}{t:Int}(T:qI K X)(q:∃dx,H p=some (.ins X.K dx [])/\∀H',H' p=some (.ins X.K dx (QS l t))->(∀b o,H b=some o->b≠p->H' b=some o)->Q .non H'):
  q8 K ⟨λ_ H'=>Q .non H',Q,bk,ct⟩ [some (.ref p),some (.ref l),some (.int t)] H:=by
 obtain⟨dx,hp,h⟩:=q;unfold q8;walk_at"e";refine⟨p,X.K,dx,[],rfl,hp,T.cK,T.nKl,by decide,?_⟩;walk_at"e";refine⟨p,X.K,dx,_,rfl,aq,T.cK,T.nKt,by show 1<1000;decide,?_⟩;rw[eN];refine h _ ?_ λb o hb a=>?_
 ·rw[aq,Zkg]
 ·rw[aB a];exact hb
theorem w0{w:Int}(hw:w=0\/w=1\/w=2):words w 0=wd w:=by rcases hw with rfl | rfl | rfl<;>decide +kernel
theorem w3{w:Int}(hw:w=0\/w=1\/w=2):words w 3=(wd w++" old")++" new":=by rcases hw with rfl | rfl | rfl<;>decide +kernel
end
structure Ex(p:Addr)(H H':Hp)(T T':Tg):Prop where
 kp:∀b o,H b=some o->b≠p->H' b=some o
 al:∀b o,H b=some o->∃o',H' b=some o'
 tg:∀b o,H b=some o->T' b=T b
 wt:WT H' T'
section
variable {p:Addr}{H H1 H2 H':Hp}{T T1 T2 T':Tg}
theorem Ex.trans(a:Ex p H H1 T T1)(b:Ex p H1 H2 T1 T2):Ex p H H2 T T2 where
 kp:=λx o h n=>b.kp x o (a.kp x o h n) n
 al:=λx o h=>by obtain⟨o1,h1⟩:=a.al x o h;exact b.al x o1 h1
 tg:=λx o h=>by obtain⟨o1,h1⟩:=a.al x o h;rw[b.tg x o1 h1,a.tg x o h]
 wt:=b.wt
theorem Zt4(w:WT H T)(al:∀b o,H b=some o->∃a,H' b=some a):WT H' T:=λb h=>w b (by
 cases z:H b with
 | none=>rfl
 | some o=>obtain⟨a,e⟩:=al b o z;rw[h]at e;cases e)
theorem Zb7{a:Addr}{o:HO}{v:Nat×Nat}(w:WT H T)(h:H a=some o):WT H (jR T a v):=λb hb=>by
 rw[lF (λe=>by rw[e,h]at hb;cases hb)];exact w b hb
theorem Ex.Zhx{o a:HO}(w:WT H T)(h:H p=some a):Ex p H (upd H p o) T T where
 kp:=λx u hx n=>by rw[aB n];exact hx
 al:=λx u hx=>by
  by_cases e:x=p
  ·exact⟨o,by rw[e,aq]⟩
  ·exact⟨u,by rw[aB e];exact hx⟩
 tg:=λ_ _ _=>rfl
 wt:=Zt4 w λx u hx=>by
  by_cases e:x=p
  ·exact⟨o,by rw[e,aq]⟩
  ·exact⟨u,by rw[aB e];exact hx⟩
theorem Ex.news{vs:List (Addr×(Nat×Nat))}(w:WT H T)(s:aU H H')(hn:∀v∈vs,H v.1=none/\∃o,H' v.1=some o):Ex p H H' T (vs.foldr (λv t=>jR t v.1 v.2) T):=by
 have tg:∀b o,H b=some o->(vs.foldr (λv t=>jR t v.1 v.2) T) b=T b:=by
  intro b o hb
  induction vs with
  | nil=>rfl
  | cons v vs ih=>
   show jR _ v.1 v.2 b=_;rw[lF (aD hb (hn v List.mem_cons_self).1)];exact ih λu hu=>hn u (List.mem_cons_of_mem _ hu)
 refine⟨λb o hb _=>s _ _ hb,λb o hb=>⟨o,s _ _ hb⟩,tg,?_⟩;clear tg
 induction vs with
 | nil=>exact w.same s
 | cons v vs ih=>
  obtain⟨o,a⟩:=(hn v List.mem_cons_self).2;exact Zb7 (ih λu hu=>hn u (List.mem_cons_of_mem _ hu)) a
end
section
variable {K:aC}{X:Cs}{H:Hp}{Q:VK}{E:XK}{n:St->Hp->Prop}{bk ct:St->Hp->Prop}
theorem Jp{p ki hl0:Addr}{room:Int}(T:qI K X)(q:∃dx T s lk w t,∃ts:List Addr,∃hands,H p=some (.ins X.W dx [])/\WT H T/\s≠0/\KdO X H ki lk w t/\T ki=(0,0)/\T lk=(0,0)/\ki≠p/\lk≠p/\H hl0=some (.lst (ts.map V.ref))/\
 Al (λ(t:Addr) (m:Str×Int)=>H t=some (.tup [.str m.1,.int m.2])/\0<=m.2/\m.2<=1000) ts hands/\hands.length<=30/\
 ∀H' T' A,(∀b o,H b=some o->b≠p->H' b=some o)->(∀b o,H b=some o->b≠p->T' b=T b)->WT H' T'->A.wo=p->WJ X H' T' s A (KH room hands w t)->Q .non H'):
  qe K X.D X.H X.S (v9 X.D) (vY X.H) (qL X.S) ⟨λ_ H'=>Q .non H',Q,bk,ct⟩ [some (.ref p),some (.int room),some (.ref ki),some (.ref hl0)] H:=by
 obtain⟨dx,T0,s,lk,w,t,ts,hands,hp,wt0,s0,kd,tki,tlk,nki,nlk,oh0,al,hn,hQ⟩:=q;have x0:WT H (jR T0 p (s,0)):=Zb7 wt0 hp;have tp:jR T0 p (s,0) p=(s,0):=ji;have M:∀b o,H b=some o->b≠p->jR T0 p (s,0) b=T0 b:=λb _ _ hb=>lF hb;generalize hT:jR T0 p (s,0)=Ta at x0 tp M;unfold qe;walk_at"e";intro hq dh nh ndh neh;refine⟨hq,room,rfl,dh,aq,λca H1 l L J k1=>⟨rfl,?_⟩⟩;have Zr4:H ca=none:=by
  by_cases z:ca=hq
  ·rw[z,aq]at l;cases l
  ·rw[aB z]at l
   by_cases y:ca=dh
   ·rw[y,aq]at l;cases l
   ·rw[aB y]at l;exact l
 have sm1:aU H H1:=λb o hb=>k1 b o (by rw[aB (aD hb nh),aB (aD hb ndh)];exact hb) (aD hb nh);have e1:Ex p H H1 Ta _:=Ex.news (vs:=[(hq,(s,1)),(ca,(s,2))]) x0 sm1 (by
  intro v hv;simp only[List.mem_cons,List.not_mem_nil,or_false]at hv;rcases hv with rfl | rfl
  ·exact⟨nh,_,L⟩
  ·exact⟨Zr4,_,J⟩)
 have nhc:hq≠ca:=qw L J (λz=>by cases z);have th1:([(hq,(s,1)),(ca,(s,2))].foldr (λv t=>jR t v.1 v.2) Ta) hq=(s,1):=ji;have tc1:([(hq,(s,1)),(ca,(s,2))].foldr (λv t=>jR t v.1 v.2) Ta) ca=(s,2):=(lF nhc.symm).trans ji;generalize ([(hq,(s,1)),(ca,(s,2))]:List (Addr×(Nat×Nat))).foldr (λv t=>jR t v.1 v.2) Ta=Tb at e1 th1 tc1;have hp1:=sm1 _ _ hp;have nph:hq≠p:=λz=>by rw[z,hp]at nh;cases nh
 have npc:ca≠p:=λz=>by rw[z,hp]at Zr4;cases Zr4
 clear k1 l;walk_at"e";refine⟨p,X.W,dx,[],rfl,hp1,T.cW,T.KJ,by decide,?_⟩;have e2:=e1.trans (Ex.Zhx (o:=.ins X.W dx (cB "heap" (.ref hq) [])) e1.wt hp1);have g2:upd H1 p (.ins X.W dx (cB "heap" (.ref hq) [])) p=some (.ins X.W dx (cB "heap" (.ref hq) [])):=aq;have L:=(aB (o:=.ins X.W dx (cB "heap" (.ref hq) [])) nph).trans L;have J:=(aB (o:=.ins X.W dx (cB "heap" (.ref hq) [])) npc).trans J;generalize upd H1 p (.ins X.W dx (cB "heap" (.ref hq) []))=H2 at e2 g2 L J ⊢;walk_at"e";refine⟨p,X.W,dx,_,rfl,g2,T.cW,T.nWk,by show 1<1000;decide,?_⟩;have e3:=e2.trans (Ex.Zhx (o:=.ins X.W dx (cB "kind" (.ref ki) (cB "heap" (.ref hq) []))) e2.wt g2);have g3:upd H2 p (.ins X.W dx (cB "kind" (.ref ki) (cB "heap" (.ref hq) []))) p=some (.ins X.W dx (cB "kind" (.ref ki) (cB "heap" (.ref hq) []))):=aq;have L:=(aB (o:=.ins X.W dx (cB "kind" (.ref ki) (cB "heap" (.ref hq) []))) nph).trans L;have J:=(aB (o:=.ins X.W dx (cB "kind" (.ref ki) (cB "heap" (.ref hq) []))) npc).trans J;generalize upd H2 p (.ins X.W dx (cB "kind" (.ref ki) (cB "heap" (.ref hq) [])))=H3 at e3 g3 L J ⊢;generalize U:(cB "kind" (.ref ki) (cB "heap" (.ref hq) []))=r at g3 ⊢;have lF3:r.length=2:=by rw[<- U];rfl
 have N:H3 hl0=some (.lst (ts.map V.ref)):=e3.kp _ _ oh0 (λz=>by rw[z,hp]at oh0;cases oh0);have ltl:ts.length=hands.length:=al.length;have Zux:∀(i:Nat) a,ts[i]? =some a->∃m,hands[i]? =some m/\H3 a=some (.tup [.str m.1,.int m.2])/\0<=m.2/\m.2<=1000:=λi a ha=>by
  have hl:i<hands.length:=by rw[<- ltl];exact(dX ha).1
  obtain⟨a',ha',z1,I,z3⟩:=al.get (bL hl);rw[ha]at ha';cases ha';exact⟨_,bL hl,e3.kp _ _ z1 (λz=>by rw[z,hp]at z1;cases z1),I,z3⟩
 have lo:=e3.wt;walk_at"e";refine⟨_,rfl,⟨_,cV.of N⟩,Zf0 ?_⟩;refine⟨λi m ys Hx=>i<=ts.length/\m=ts.length - i/\∃(hs:List (Addr×Addr)) (Tx:Tg),ys=hs.map (λq=>V.ref q.1)/\hs.length=i/\aU H3 Hx/\Ex p H3 Hx Tb Tx/\∀(j:Nat) q m,hs[j]? =some q->hands[j]? =some m->HdO X.D Hx Tx s j q (m.1,List.replicate m.2.toNat none)/\q.1≠p/\q.2≠p,
  ⟨ts.length,Nat.zero_le _,rfl,[],Tb,rfl,rfl,aU.refl _,⟨λ_ _ h _=>h,λ_ o h=>⟨o,h⟩,λ_ _ _=>rfl,lo⟩,λj q m e=>by simp at e⟩,?_⟩
 rintro i m ys Hx ⟨hi,rfl,hs,Tx,rfl,hl,sx,ex,hds⟩
 by_cases hk:i=ts.length
 ·refine .inl ⟨⟨_,cV.of (sx _ _ N),by rw[bx];omega⟩,λd B=>?_⟩;have ZD0:H3 d=none:=sx.free B;have s4:=aL B (.lst (hs.map λq=>V.ref q.1));have e4:Ex p Hx _ Tx _:=Ex.news (p:=p) (vs:=[(d,(s,5))]) ex.wt s4 (by
   intro v hv;rw[List.mem_singleton.mp hv];exact⟨B,_,aq⟩)
  have t4:([(d,(s,5))].foldr (λv t=>jR t v.1 v.2) Tx) d=(s,5):=ji;have o4:upd Hx d (.lst (hs.map λq=>V.ref q.1)) d=some (.lst (hs.map λq=>V.ref q.1)):=aq;have E:=sx _ _ g3;have nhp:d≠p:=λz=>by rw[z,E]at B;cases B
  have hp4:=s4 _ _ E;generalize upd Hx d (.lst (hs.map λq=>V.ref q.1))=H4 at s4 e4 o4 hp4 ⊢;generalize ([(d,(s,5))]:List (Addr×(Nat×Nat))).foldr (λv t=>jR t v.1 v.2) Tx=T4 at e4 t4;walk_at"e";refine⟨p,X.W,dx,_,rfl,hp4,T.cW,T.nWd,by rw[lF3];decide,?_⟩;have e5:=Ex.Zhx (p:=p) (o:=.ins X.W dx (cB "hands" (.ref d) r)) e4.wt hp4;have hp5:upd H4 p (.ins X.W dx (cB "hands" (.ref d) r)) p=some (.ins X.W dx (cB "hands" (.ref d) r)):=aq;generalize upd H4 p (.ins X.W dx (cB "hands" (.ref d) r))=H5 at e5 hp5 ⊢;walk_at"e";intro nm P;have nnp:nm≠p:=λz=>by rw[z,hp5]at P;cases P
  have s6:=aL P (.dK []);have e6:Ex p H5 _ T4 _:=Ex.news (p:=p) (vs:=[(nm,(s,6))]) e5.wt s6 (by
   intro v hv;rw[List.mem_singleton.mp hv];exact⟨P,_,aq⟩)
  have t6:([(nm,(s,6))].foldr (λv t=>jR t v.1 v.2) T4) nm=(s,6):=ji;have o6:upd H5 nm (.dK []) nm=some (.dK []):=aq;have hp6:=s6 _ _ hp5;generalize upd H5 nm (.dK [])=H6 at s6 e6 o6 hp6 ⊢;generalize ([(nm,(s,6))]:List (Addr×(Nat×Nat))).foldr (λv t=>jR t v.1 v.2) T4=T6 at e6 t6;walk_at"e";refine⟨p,X.W,dx,_,rfl,hp6,T.cW,T.nWn,by rw[<- U];show 3<1000;decide,?_⟩;have e7:=Ex.Zhx (p:=p) (o:=.ins X.W dx (cB "names" (.ref nm) (cB "hands" (.ref d) r))) e6.wt hp6;have Y:upd H6 p (.ins X.W dx (cB "names" (.ref nm) (cB "hands" (.ref d) r))) p=some (.ins X.W dx (cB "names" (.ref nm) (cB "hands" (.ref d) r))):=aq;generalize upd H6 p (.ins X.W dx (cB "names" (.ref nm) (cB "hands" (.ref d) r)))=H7 at e7 Y ⊢;walk_at"e";intro sw ds F nds nes;refine⟨sw,rfl,ds,aq,λgr H8 g b1 b2 k8=>⟨rfl,?_⟩⟩;have Zr1:H7 gr=none:=by
   by_cases z:gr=sw
   ·rw[z,aq]at g;cases g
   ·rw[aB z]at g
    by_cases y:gr=ds
    ·rw[y,aq]at g;cases g
    ·rw[aB y]at g;exact g
  have s8:aU H7 H8:=λb o hb=>k8 b o (by rw[aB (aD hb F),aB (aD hb nds)];exact hb) (aD hb F);have e8:Ex p H7 H8 T6 _:=Ex.news (p:=p) (vs:=[(sw,(s,7)),(gr,(s,8))]) e7.wt s8 (by
   intro v hv;simp only[List.mem_cons,List.not_mem_nil,or_false]at hv;rcases hv with rfl | rfl
   ·exact⟨F,_,b1⟩
   ·exact⟨Zr1,_,b2⟩)
  have nsg:sw≠gr:=qw b1 b2 (λz=>by cases z);have ts8:([(sw,(s,7)),(gr,(s,8))].foldr (λv t=>jR t v.1 v.2) T6) sw=(s,7):=ji;have tg8:([(sw,(s,7)),(gr,(s,8))].foldr (λv t=>jR t v.1 v.2) T6) gr=(s,8):=(lF nsg.symm).trans ji;generalize ([(sw,(s,7)),(gr,(s,8))]:List (Addr×(Nat×Nat))).foldr (λv t=>jR t v.1 v.2) T6=T8 at e8 ts8 tg8;have hp8:=s8 _ _ Y;have nsp:sw≠p:=λz=>by rw[z,Y]at F;cases F
  have ngp:gr≠p:=λz=>by rw[z,Y]at Zr1;cases Zr1
  clear k8 g;walk_at"e";refine⟨p,X.W,dx,_,rfl,hp8,T.cW,T.Qz,by rw[<- U];show 4<1000;decide,?_⟩;have e9:=Ex.Zhx (p:=p) (o:=.ins X.W dx (cB "sweeper" (.ref sw) (cB "names" (.ref nm) (cB "hands" (.ref d) r)))) e8.wt hp8;have hp9:upd H8 p (.ins X.W dx (cB "sweeper" (.ref sw) (cB "names" (.ref nm) (cB "hands" (.ref d) r)))) p=some (.ins X.W dx (Ar hq ki d nm sw)):=by
   rw[aq,<- U,Zfh]
  generalize upd H8 p (.ins X.W dx (cB "sweeper" (.ref sw) (cB "names" (.ref nm) (cB "hands" (.ref d) r))))=H9 at e9 hp9 ⊢;have O:=e9;have f69:=e7.trans (e8.trans e9);have f49:=e5.trans (e6.trans f69);have C:=e4.trans f49;have u:=ex.trans C;have f:=e3.trans u;obtain⟨⟨dk,ok⟩,⟨dl,ol⟩⟩:=kd;have hlk:∃o,H lk=some o:=by
   rcases ol with ⟨_,z⟩ | ⟨_,z⟩
   ·exact⟨_,z⟩
   ·exact⟨_,z⟩
  obtain⟨olk,elk⟩:=hlk;refine hQ H9 T8 ⟨p,hq,ca,ki,lk,d,nm,sw,gr,hs,[],[]⟩ f.kp (λb o hb nb=>(f.tg b o hb).trans (M b o hb nb)) f.wt rfl ⟨⟨(f.tg _ _ hp).trans tp,(f.tg _ _ ok).trans ((M _ _ ok nki).trans tki),(f.tg _ _ elk).trans ((M _ _ elk nlk).trans tlk),(f49.tg _ _ o4).trans t4,⟨dx,hp9⟩,⟨dk,f.kp _ _ ok nki⟩,⟨dl,?_⟩,f49.kp _ _ o4 nhp⟩,
   ⟨(u.tg _ _ L).trans th1,(u.tg _ _ J).trans tc1,⟨dh,u.kp _ _ L nph⟩,u.kp _ _ J npc⟩,⟨(f69.tg _ _ o6).trans t6,f69.kp _ _ o6 nnp,.nil⟩,
   ⟨(O.tg _ _ b1).trans ts8,(O.tg _ _ b2).trans tg8,⟨ds,O.kp _ _ b1 nsp⟩,O.kp _ _ b2 ngp⟩,⟨?_,by show hs.length<=30;rw[hl,hk,ltl];exact hn,?_⟩,⟨rfl,λi q c z=>by simp at z⟩⟩
  ·rcases ol with ⟨z,y⟩ | ⟨z,y⟩
   ·exact .inl ⟨z,f.kp _ _ y nlk⟩
   ·exact .inr ⟨z,f.kp _ _ y nlk⟩
  ·show hs.length=(hands.map _).length;rw[bx,hl,hk,ltl]
  ·intro j q m z1 I;have I:(hands.map λm=>(m.1,List.replicate m.2.toNat none))[j]? =some m:=I;rw[cA]at I;obtain⟨m0,y1,rfl⟩:=Option.map_eq_some_iff.mp I;obtain⟨⟨u1,u2,⟨du,u3⟩,u4⟩,v1,v2⟩:=hds j q m0 z1 y1;exact⟨(C.tg _ _ u3).trans u1,(C.tg _ _ u4).trans u2,⟨du,C.kp _ _ u3 v1⟩,C.kp _ _ u4 v2⟩
 ·have R:i<ts.length:=by omega
  refine .inr ⟨⟨_,_,cV.of (sx _ _ N),by rw[cA,bL R];rfl⟩,?_,λx H' y=>?_⟩
  ·rw[bx,hl];exact Nat.lt_of_lt_of_le R (aX (by omega))
  obtain⟨y1,y2⟩:=y;subst y1;have Z:=y2 _ (cV.of (sx _ _ N));rw[cA,bL R]at Z;have Z:x=.ref ts[i]:=(Option.some.inj Z).symm;subst Z;obtain⟨m,hm,ot,m0,m1⟩:=Zux i _ (bL R);refine CQ (Za5 ⟨ts[i],.str m.1,.int m.2,_,rfl,je.of (sx _ _ ot),?_⟩);walk_at"c";walk_at"e";intro q1 dq nq ndq neq;refine⟨q1,m.1,m.2,rfl,dq,aq,m0,m1,λsa Hy n b1 b2 k=>⟨rfl,?_⟩⟩;have Zqx:H' sa=none:=by
   by_cases z:sa=q1
   ·rw[z,aq]at n;cases n
   ·rw[aB z]at n
    by_cases y:sa=dq
    ·rw[y,aq]at n;cases n
    ·rw[aB y]at n;exact n
  have sy:aU H' Hy:=λb o hb=>k b o (by rw[aB (aD hb nq),aB (aD hb ndq)];exact hb) (aD hb nq);have Z:Ex p H' Hy Tx _:=Ex.news (p:=p) (vs:=[(q1,(s,20+2 * i)),(sa,(s,21+2 * i))]) ex.wt sy (by
   intro v hv;simp only[List.mem_cons,List.not_mem_nil,or_false]at hv;rcases hv with rfl | rfl
   ·exact⟨nq,_,b1⟩
   ·exact⟨Zqx,_,b2⟩)
  have nqs:q1≠sa:=qw b1 b2 (λz=>by cases z);have E:=sx _ _ g3;refine⟨ts.length - (i+1),by omega,by omega,rfl,hs++[(q1,sa)],_,by rw[List.map_append];rfl,by rw[List.length_append,hl];rfl,sx.trans sy,ex.trans Z,λj q m' z1 I=>?_⟩
  by_cases hj:j<hs.length
  ·rw[List.getElem?_append_left hj]at z1;obtain⟨⟨u1,u2,⟨du,u3⟩,u4⟩,v1,v2⟩:=hds j q m' z1 I;exact⟨⟨(Z.tg _ _ u3).trans u1,(Z.tg _ _ u4).trans u2,⟨du,sy _ _ u3⟩,sy _ _ u4⟩,v1,v2⟩
  ·have hj':=(dX z1).1;rw[List.length_append,List.length_singleton]at hj';have ej:j=hs.length:=by omega
   subst ej;rw[List.getElem?_append_right (Nat.le_refl _),Nat.sub_self]at z1;cases z1;rw[hl]at I ⊢;rw[hm]at I;cases I;exact⟨⟨ji,(lF nqs.symm).trans ji,⟨dq,b1⟩,by rw[b2,List.map_replicate];rfl⟩,(λz=>by rw[show q1=p from z,E]at nq;cases nq),(λz=>by rw[show sa=p from z,E]at Zqx;cases Zqx)⟩
end
def uM(M:Wm)(i:Int)(c:Ce):Str:=if M.sw.phase="rest" then "kept" else if M.sw.phase="give" then(if c.tone=M.sw.sense then "kept" else "doomed")else if c.tone=M.sw.sense then(if i∈M.sw.grey then "grey" else "dark")else "pale"
def lE(M:Wm):List (Int×Ce):=(List.range M.cells.length).filterMap λ(i:Nat)=>((M.cells[i]?).join).map λc=>((i:Int),c)
def Dt(X:Cs):Sp:=λvs H Q E=>∃wo i,vs=[.ref wo,.int i]/\∃T s A M c,WJ X H T s A M/\A.wo=wo/\0<=i/\M.cells[i.toNat]? =some (some c)/\Q (.str (uM M i c)) H
def TcO(M:Wm)(H:Hp)(p:Addr×Addr)(t:Int×Ce):Prop:=H p.1=some (.tup [.int t.1,.int t.2.birth,.int t.2.bulk,.int t.2.load,.ref p.2,.str (uM M t.1 t.2)])/\H p.2=some (.lst ((t.2.fl.map (sS M)).map oV))
def vV(X:Cs):Sp:=λvs H Q E=>∃wo i,vs=[.ref wo,.int i]/\∃T s A M c,WJ X H T s A M/\A.wo=wo/\0<=i/\M.cells[i.toNat]? =some (some c)/\c.fl.length<=1000/\∀a l H',aU H H'->H a=none->H l=none->TcO M H' (a,l) (i,c)->Q (.ref a) H'
def YB(X:Cs):Sp:=λvs H Q E=>∃wo,vs=[.ref wo]/\∃T s A M,WJ X H T s A M/\A.wo=wo/\M.cells.length<=1000/\(∀c,some c∈M.cells->c.fl.length<=1000)/\
 ∀(l:Addr) (ls:List Addr) H',aU H H'->H' l=some (.lst (ls.map V.ref))->ls.length=(lE M).length->(∀(j:Nat) r t,ls[j]? =some r->(lE M)[j]? =some t->∃f,TcO M H' (r,f) t/\H f=none/\H r=none)->H l=none->Q (.ref l) H'
theorem Ziv{X:Cs}{H:Hp}{T:Tg}{s:Nat}{A:Wa}{M:Wm}(j:WJ X H T s A M):Zw (A.cs.map pV)=(lE M).map (·.1):=by
 have a:∀i,i<M.cells.length->(decide ((A.cs.map pV)[i]? =some V.non)=true↔(M.cells[i]?).join=none):=λi hi=>by
  rw[decide_eq_true_iff,cA];cases hc:M.cells[i]? with
  | none=>rw[List.getElem?_eq_none_iff]at hc;omega
  | some y=>cases y with
   | none=>rw[j.jc.at0 hc];simp[pV]
   | some c=>
    obtain⟨p,hp,_⟩:=j.jc.at hc;rw[hp];simp[pV]
 unfold Zw lE;rw[bx,j.jc.lc];generalize hn:M.cells.length=n at a;clear hn
 induction n with
 | zero=>rfl
 | succ n ih=>
  rw[List.range_succ,List.filter_append,List.map_append,List.filterMap_append,List.map_append,ih λi hi=>a i (by omega)];congr 1;have k:=a n (by omega);cases hc:(M.cells[n]?).join with
  | none=>
   have:decide ((A.cs.map pV)[n]? =some V.non)=true:=k.mpr hc;simp only[List.filter_cons,this,Bool.not_true,List.filter_nil,List.filterMap_cons,hc,Option.map_none,List.filterMap_nil];rfl
  | some c=>
   have:decide ((A.cs.map pV)[n]? =some V.non)=false:=by
    cases hd:decide ((A.cs.map pV)[n]? =some V.non)with
    | false=>rfl
    | true=>rw[k.mp hd]at hc;cases hc
   simp only[List.filter_cons,this,Bool.not_false,List.filter_nil,List.filterMap_cons,hc,Option.map_some,List.filterMap_nil];rfl
theorem Zek{M:Wm}{j:Nat}{t:Int×Ce}(h:(lE M)[j]? =some t):0<=t.1/\M.cells[t.1.toNat]? =some (some t.2):=by
 have hm:=List.mem_of_getElem? h;unfold lE at hm;obtain⟨i,hi,e⟩:=List.mem_filterMap.mp hm;obtain⟨c,hc,rfl⟩:=Option.map_eq_some_iff.mp e;refine⟨by show(0:Int)<=(i:Nat);omega,?_⟩;show M.cells[((i:Nat):Int).toNat]? =some (some c);rw[Int.toNat_natCast];cases hx:M.cells[i]? with
 | none=>rw[hx]at hc;cases hc
 | some y=>rw[hx]at hc;rw[show y=some c from hc]
section
variable {K:aC}{X:Cs}{H:Hp}{Q:VK}{E:XK}{n:St->Hp->Prop}{bk ct:St->Hp->Prop}
theorem Zkm{i:Int}{l:List Int}:inV (.int i) (l.map V.int)=decide (i∈l):=by
 unfold inV
 induction l with
 | nil=>rfl
 | cons a l ih=>
  rw[List.map_cons,List.any_cons,ih]
  by_cases e:i=a
  ·subst e;simp[eqV]
  ·have b:¬ a=i:=λz=>e z.symm;simp[eqV,e,b]
theorem Zd7{wo:Addr}{i:Int}(T:qI K X)(q:∃T s A M c,WJ X H T s A M/\A.wo=wo/\0<=i/\M.cells[i.toNat]? =some (some c)/\Q (.str (uM M i c)) H):Fl K (cL X) ⟨n,Q,bk,ct⟩ [some (.ref wo),some (.int i),none,none] H:=by
 obtain⟨Tg,s,A,M,c,j,rfl,b,hc,q⟩:=q;obtain⟨e,ow⟩:=j.jb.ow;obtain⟨d,os⟩:=j.js.os;obtain⟨th,tc,⟨f,oh⟩,oc⟩:=j.jh;obtain⟨p,hp,ce⟩:=j.jc.at hc;unfold Fl;walk_at"e";refine aJ ow T.cW T.Qz aZ ?_;walk_at"e";refine aJ ow T.cW T.KJ bA ?_;refine aJ oh T.c.cG T.c.bM bQ ?_;walk_at"e";refine jW (cV.of oc) (pq (v:=.ref p.1) b (by rw[cA,hp];rfl)) ?_;walk_at"e";refine⟨_,_,rfl,Tg,s,A,M,_,p,c,j.w0,rfl,ce,rfl,?_⟩;walk_at"e";refine aJ os T.cS T.n2 ie ?_;walk_at"e";unfold uM at q;refine uw (λz=>?_) (λz=>?_)
 ·rw[if_pos z]at q;walk_at"e";exact q
 ·rw[if_neg z]at q;walk_at"e";refine aJ os T.cS T.n2 ie ?_;walk_at"e";refine uw (λy=>?_) (λy=>?_)
  ·rw[if_pos y]at q;walk_at"e";refine uw (λx=>?_) (λx=>?_)
   ·rw[if_pos x]at q;walk_at"e";exact q
   ·rw[if_neg x]at q;walk_at"e";exact q
  ·rw[if_neg y]at q;walk_at"e";refine Zdg (λx=>?_) (λx=>?_)
   ·rw[if_neg x]at q;walk_at"e";exact q
   ·rw[if_pos x]at q;walk_at"e";refine aJ os T.cS T.n3 pY ?_;refine⟨_,_,rfl,.inl (cV.of j.js.og),rfl,?_,?_⟩
    ·rw[List.all_map,List.all_eq_true];intro a _;rfl
    rw[if_neg (by decide),Zkm];walk_at"e";refine uw (λy=>?_) (λy=>?_)
    ·rw[if_pos y]at q;walk_at"e";exact q
    ·rw[if_neg y]at q;walk_at"e";exact q
theorem VJ{wo:Addr}{i:Int}(T:qI K X)(q:∃T s A M c,WJ X H T s A M/\A.wo=wo/\0<=i/\M.cells[i.toNat]? =some (some c)/\c.fl.length<=1000/\∀a l H',aU H H'->H a=none->H l=none->TcO M H' (a,l) (i,c)->Q (.ref a) H'):
  yP K (jL X) (Dt X) ⟨n,Q,bk,ct⟩ [some (.ref wo),some (.int i),none,none] H:=by
 obtain⟨Tg,s,A,M,c,j,rfl,f,hc,hl,q⟩:=q;obtain⟨h,ow⟩:=j.jb.ow;obtain⟨th,tc,⟨k,oh⟩,oc⟩:=j.jh;obtain⟨p,hp,ce⟩:=j.jc.at hc;obtain⟨t1,t2,⟨dx,o1⟩,o2⟩:=id ce;unfold yP;walk_at"e";refine aJ ow T.cW T.KJ bA ?_;refine aJ oh T.c.cG T.c.bM bQ ?_;walk_at"e";refine jW (cV.of oc) (pq (v:=.ref p.1) f (by rw[cA,hp];rfl)) ?_;walk_at"e";refine aJ ow T.cW T.KJ bA ?_;walk_at"e";refine aJ o1 T.c.cT T.c.dY jr ?_;walk_at"e";refine⟨_,_,rfl,Tg,s,A,M,c.fl,j,rfl,o2,hl,λl nl=>?_⟩;generalize zz:upd H l _=H1;obtain⟨b,g⟩:=nwO nl zz;walk_at"e";refine aJ (b _ _ o1) T.c.cT T.c.dR gK ?_;walk_at"e";refine aJ (b _ _ o1) T.c.cT T.c.lU Er ?_;walk_at"e";refine aJ (b _ _ o1) T.c.cT T.c.jB xP ?_;walk_at"e";refine⟨_,_,rfl,Tg,s,A,M,c,j.same b,rfl,f,hc,?_⟩;walk_at"e";refine⟨aX (by simp),λa d=>?_⟩;have e:=aL d (.tup [.int i,.int c.birth,.int c.bulk,.int c.load,.ref l,.str (uM M i c)]);exact q a l _ (b.trans e) (b.free d) nl ⟨aq,e _ _ g⟩
theorem RC{wo:Addr}(T:qI K X)(q:∃T s A M,WJ X H T s A M/\A.wo=wo/\M.cells.length<=1000/\(∀c,some c∈M.cells->c.fl.length<=1000)/\
 ∀(l:Addr) (ls:List Addr) H',aU H H'->H' l=some (.lst (ls.map V.ref))->ls.length=(lE M).length->(∀(j:Nat) r t,ls[j]? =some r->(lE M)[j]? =some t->∃f,TcO M H' (r,f) t/\H f=none/\H r=none)->H l=none->Q (.ref l) H'):
  wK K X.H (mG X.H) (vV X) ⟨n,Q,bk,ct⟩ [some (.ref wo)] H:=by
 obtain⟨Tg,s,A,M,j,rfl,hc,I,q⟩:=q;obtain⟨S,ow⟩:=j.jb.ow;obtain⟨th,tc,⟨J,oh⟩,oc⟩:=j.jh;have hl:(lE M).length<=1000:=by
  have:=List.length_filterMap_le (λ(i:Nat)=>((M.cells[i]?).join).map λc=>((i:Int),c)) (List.range M.cells.length);rw[List.length_range]at this;exact Nat.le_trans this hc
 unfold wK;walk_at"e";refine Em ?_;walk_at"e";refine aJ ow T.cW T.KJ bA ?_;refine⟨A.hp,J,_,rfl,oh,CV,?_⟩;walk_at"e";refine⟨_,rfl,_,_,_,_,_,j.hpO,by rw[bx,j.jc.lc];exact hc,λD w=>?_⟩;rw[Ziv j];generalize zz:upd H D _=P;obtain⟨d,C⟩:=nwO w zz;refine⟨_,rfl,⟨_,cV.of C⟩,?_⟩;refine QL (cV.of C) (by rw[bx,bx];omega) (λi r F=>∃t f,(lE M)[i]? =some t/\TcO M F (r,f) t/\H f=none) (λ_ _ _ _ ⟨t,f,e,⟨z1,u⟩,v⟩ s=>⟨t,f,e,⟨s _ _ z1,s _ _ u⟩,v⟩) (λ_ _ _ ⟨_,_,_,⟨z,_⟩,_⟩=>⟨_,z⟩) (λx P q hq=>CQ hq) (λi x U hi h W hq=>?_) ?_
 ·rw[cA,cA]at hi;cases m:(lE M)[i]? with
  | none=>rw[m]at hi;cases hi
  | some t=>
   rw[m]at hi;cases hi;obtain⟨O,b⟩:=Zek m;walk_at"c";walk_at"e";refine⟨_,_,rfl,Tg,s,A,M,t.2,j.same (d.trans h),rfl,O,b,I _ (List.mem_of_getElem? b),λa l L g N nl o=>?_⟩;exact hq a L g N ⟨t,l,m,o,(d.trans h).free nl⟩
 ·intro rs H' h y _ R hr p hp;have g:=aL hp (.lst (rs.map V.ref));refine q p rs _ (d.trans (h.trans g)) aq (by rw[y,bx,bx]) (λk r t B E=>?_) (d.free (h.free hp));obtain⟨t',f,e3,⟨z1,u⟩,v⟩:=hr k r B;rw[E]at e3;cases e3;exact⟨f,⟨g _ _ z1,g _ _ u⟩,v,d.free (R r (List.mem_of_getElem? B))⟩
end
section
variable {K:aC}{X:Cs}{H:Hp}{Q:VK}{E:XK}{T:Tg}{s:Nat}{A:Wa}{M:Wm}
theorem Zh8{i:Nat}{c:Ce}(j:WJ X H T s A M)(w:WT H T)(p:s≠0)(hc:M.cells[i]? =some (some c))
  (k:∀H' a,jo s H H' T T->WJ X H' T s a { M with used:=M.used - (1+c.fl.length+c.bulk),cells:=M.cells.set i none }->a.wo=A.wo/\a.sw=A.sw->Q (.int c.birth) H'):
  sV X.C X.H [.ref A.hp,.int i] H Q E:=by
 obtain⟨th,tc,⟨l,oh⟩,oc⟩:=j.jh;obtain⟨h,f,ce⟩:=j.jc.at hc;obtain⟨_,_,⟨n,o1⟩,d⟩:=id ce;have hl:=(dX hc).1;refine⟨A.hp,i,rfl,A.ca,l,M.room,M.used,M.born,A.cs.map pV,h.1,h.2,c.birth,c.bulk,c.tone,c.load,c.fl.map oV,by omega,oh,oc,by rw[Int.toNat_natCast,cA,f];rfl,⟨⟨n,o1⟩,d⟩,?_⟩;rw[Int.toNat_natCast,bx];have e:A.hp≠A.ca:=qw oh oc (λz=>by cases z);obtain⟨g,m⟩:=j.back w p (i:=i) (used':=M.used - (1+c.fl.length+c.bulk)) (by rw[j.jc.lc];exact hl) (upd (upd H A.hp (.ins X.H l (j9 M.room A.ca (M.used - (1+c.fl.length+c.bulk)) M.born))) A.ca (.lst ((A.cs.map pV).set i V.non)))
  (λb o hb n1 n2=>by rw[aB n2,aB n1];exact hb) (by rw[aB e];exact aq) aq
 exact k _ _ g m ⟨rfl,rfl⟩
end
def heldOf(M:Wm):List (List (Option Int)):=M.hands.map (·.2)
def YF(X:Cs):Sp:=λvs H Q E=>∃wo,vs=[.ref wo]/\∃T s A M,WJ X H T s A M/\A.wo=wo/\M.hands.length<=1000/\∀(l:Addr) (ls:List Addr) H',aU H H'->H l=none->H' l=some (.lst (ls.map V.ref))->ls.length=(heldOf M).length->ls.Nodup->(∀r∈ls,H r=none)->l∉ls->(∀(j:Nat) r x,ls[j]? =some r->(heldOf M)[j]? =some x->H' r=some (.lst (x.map oV)))->Q (.ref l) H'
section
variable {K:aC}{X:Cs}{H:Hp}{Q:VK}{E:XK}{n:St->Hp->Prop}{bk ct:St->Hp->Prop}
theorem Zol{wo:Addr}(T:qI K X)(q:∃T s A M,WJ X H T s A M/\A.wo=wo/\M.hands.length<=1000/\∀(l:Addr) (ls:List Addr) H',aU H H'->H l=none->H' l=some (.lst (ls.map V.ref))->ls.length=(heldOf M).length->ls.Nodup->(∀r∈ls,H r=none)->l∉ls->(∀(j:Nat) r x,ls[j]? =some r->(heldOf M)[j]? =some x->H' r=some (.lst (x.map oV)))->Q (.ref l) H'):
  WW K ⟨n,Q,bk,ct⟩ [some (.ref wo)] H:=by
 obtain⟨Tg,s,A,M,j,rfl,hl,q⟩:=q;obtain⟨dx,ow⟩:=j.jb.ow;unfold WW;walk_at"e";refine Em ?_;walk_at"e";refine aJ ow T.cW T.nWd gZ ?_;have l5:=j.jd.l5;refine⟨_,rfl,⟨_,cV.of j.jb.on⟩,?_⟩;refine QL (cV.of j.jb.on) (by rw[bx];omega) (λi r h=>∃x,(heldOf M)[i]? =some x/\h r=some (.lst (x.map oV))) (λ_ _ _ _ ⟨x,e,z⟩ s=>⟨x,e,s _ _ z⟩) (λ_ _ _ ⟨_,_,z⟩=>⟨_,z⟩) (λx t q hq=>CQ hq) (λi x t hi a v hq=>?_) ?_
 ·rw[cA]at hi;obtain⟨p,hp,rfl⟩:=Option.map_eq_some_iff.mp hi;have g:=j.same a;obtain⟨m,hm,hd⟩:=g.hand hp;obtain⟨dx,o1⟩:=hd.o1;walk_at"c";walk_at"e";refine aJ o1 T.cD T.nDs qF ?_;walk_at"e";refine XH (cV.of hd.o2) λl hl=>?_;exact hq l _ (aL hl _) hl ⟨_,by unfold heldOf;rw[cA,hm];rfl,aq⟩
 ·intro rs H' a hl nd u hr p hp;have c:=aL hp (.lst (rs.map V.ref));refine q p rs _ (a.trans c) (a.free hp) aq ?_ nd u (λz=>?_) λo r x d f=>?_
  ·rw[hl,bx];unfold heldOf;rw[bx,j.jd.lh]
  ·obtain⟨k,hk,e⟩:=List.getElem_of_mem z;obtain⟨_,_,b⟩:=hr k p (by rw[bL hk,e]);rw[hp]at b;cases b
  ·obtain⟨y,e3,z⟩:=hr o r d;rw[f]at e3;cases e3;exact c _ _ z
end
def jm(w:Int)(h:Nat):Int:=if w=0 then 2 ^ h - 1 else 0
def rN(M:Wm):Wm:={ M with sw:={ M.sw with sense:=1 - M.sw.sense,phase:="walk",grey:=[],looked:=jm M.w M.hands.length,turn:=M.sw.turn+1,walks:=0,looks:=0,passes:=0 } }
def Js:Sp:=λvs H Q E=>∃h,vs=[.int h]/\0<=h/\h<=30/\Q (.int (2 ^ h.toNat - 1)) H
def nP(k:Nat):Sp:=λvs H Q E=>∃a h,vs=[.ref a,.int h]/\0<=h/\h<=30/\Q (.int (if k=0 then 2 ^ h.toNat - 1 else 0)) H
def O2(X:Cs):Sp:=λvs H Q E=>∃wo,vs=[.ref wo]/\∃T s A M,WT H T/\s≠0/\WJ X H T s A M/\A.wo=wo/\∀H' T' a,jo s H H' T T'->WJ X H' T' s a (rN M)->a.wo=wo/\a.sw=A.sw->Q .non H'
section
variable {X:Cs}{H H':Hp}{T T':Tg}{s:Nat}{A:Wa}{M:Wm}
theorem WJ.Znv(j:WJ X H T s A M)(w:WT H T)(k:s≠0){dx l:Addr}(S:Sw)(hl:H l=none)(p:S.grey=[]):
  jo s H (upd (upd H l (.lst [])) A.sw (.ins X.S dx (cF S.sense S.phase l S.looked S.turn S.at' S.stop S.walks S.looks S.passes S.loss))) T (jR T l (s,8))/\
  WJ X (upd (upd H l (.lst [])) A.sw (.ins X.S dx (cF S.sense S.phase l S.looked S.turn S.at' S.stop S.walks S.looks S.passes S.loss))) (jR T l (s,8)) s { A with gr:=l } { M with sw:=S }:=by
 obtain⟨ts,tg,⟨dd,os⟩,og⟩:=id j.js;have d:l≠A.sw:=(aD os hl).symm;have i:WT (upd H l (.lst [])) (jR T l (s,8)):=Zb7 (w.same (aL hl _)) aq;have g:jo s H (upd H l (.lst [])) T (jR T l (s,8)):=⟨λb o h _=>(aL hl _) _ _ h,λb o h=>⟨o,(aL hl _) _ _ h⟩,λb o h=>lF (aD h hl),i⟩;have c:WJ X (upd H l (.lst [])) (jR T l (s,8)) s A M:=j.fresh hl;obtain⟨a,B,⟨v,e⟩,O⟩:=id c.js;refine⟨g.trans (jo.upd i e (by rw[a])),?_⟩;have f:xV s (·=7) (upd H l (.lst [])) (upd (upd H l (.lst [])) A.sw (.ins X.S dx (cF S.sense S.phase l S.looked S.turn S.at' S.stop S.walks S.looks S.passes S.loss))) (jR T l (s,8)) (jR T l (s,8)):=xV.Cq a;have z:=c.jb.mv f (pL k a) (by omega) (by omega);have F:=c.jh.mv f (by omega) (by omega);have E:=c.jn.mv f (pL k a) (by omega);have r:=c.jd.mv f λ_ _ _=>by omega
 have K:=c.jc.mv f λ_ _=>by omega
 obtain⟨N,L,n,u,J,D,C,I⟩:=z;obtain⟨y1,t,m,q⟩:=F;obtain⟨z1,x,y⟩:=E;exact⟨⟨N,L,n,u,J,D,C,I⟩,⟨y1,t,m,q⟩,⟨z1,x,y⟩,⟨a,ji,⟨dx,aq⟩,by rw[aB d,aq,p];rfl⟩,r,K⟩
end
section
variable {K:aC}{X:Cs}{H:Hp}{Q:VK}{E:XK}{n:St->Hp->Prop}{bk ct:St->Hp->Prop}
theorem Zpy{j:Int}(a:0<=j)(h1:j<=1000):Y4 1 j:=⟨a,by omega,by decide⟩
theorem Zhp{h:Int}(q:0<=h/\h<=30/\Q (.int (2 ^ h.toNat - 1)) H):J8 ⟨n,Q,bk,ct⟩ [some (.int h)] H:=by
 obtain⟨a,h1,q⟩:=q;unfold J8;walk_at"e";refine⟨_,_,rfl,rfl,Zpy a (by omega),?_⟩;walk_at"e";rw[Int.one_mul];exact q
theorem Eb{a:Addr}{h:Int}(q:0<=h/\h<=30/\Q (.int (if (1:Nat)=0 then 2 ^ h.toNat - 1 else 0)) H):oH ⟨n,Q,bk,ct⟩ [some (.ref a),some (.int h)] H:=by
 unfold oH;walk_at"e";exact q.2.2
theorem Jv{a:Addr}{h:Int}(q:0<=h/\h<=30/\Q (.int (if (0:Nat)=0 then 2 ^ h.toNat - 1 else 0)) H):qg Js ⟨n,Q,bk,ct⟩ [some (.ref a),some (.int h)] H:=by
 obtain⟨b,h1,q⟩:=q;unfold qg;walk_at"e";exact⟨h,rfl,b,h1,q⟩
theorem Zlx{wo:Addr}(c:qI K X)(q:∃T s A M,WT H T/\s≠0/\WJ X H T s A M/\A.wo=wo/\∀H' T' v,jo s H H' T T'->WJ X H' T' s v (rN M)->v.wo=wo/\v.sw=A.sw->Q .non H'):
  PX K X.E X.F (nP 0) (nP 1) ⟨λ_ H'=>Q .non H',Q,bk,ct⟩ [some (.ref wo),none] H:=by
 obtain⟨T,s,A,M,w,O,j,rfl,q⟩:=q;obtain⟨P,ow⟩:=j.jb.ow;obtain⟨ds,os⟩:=j.js.os;obtain⟨R,ok⟩:=j.jb.ok;obtain⟨dl,ol⟩:=j.jb.ol;have on:=j.jb.on;have lh:=j.jd.lh;have l5:=j.jd.l5;unfold PX;walk_at"e";refine aJ ow c.cW c.Qz aZ ?_;walk_at"e";refine aJ os c.cS c.n1 oX ?_;walk_at"e";refine⟨A.sw,X.S,ds,_,rfl,os,c.cS,c.n1,by show 11<1000;decide,?_⟩;rw[JD];walk_at"e";refine aJ aq c.cS c.n5 ux ?_;walk_at"e";refine⟨A.sw,X.S,ds,_,rfl,aq,c.cS,c.n5,by show 11<1000;decide,?_⟩;rw[Nh,eN];walk_at"e";refine⟨A.sw,X.S,ds,_,rfl,aq,c.cS,c.n2,by show 11<1000;decide,?_⟩;rw[nR,eN];walk_at"e";refine⟨by decide,λgr h=>?_⟩;have k:A.sw≠gr:=aD aq h;have r:H gr=none:=by rw[aB k.symm]at h;exact h
 walk_at"e";refine⟨A.sw,X.S,ds,_,rfl,by rw[aB k];exact aq,c.cS,c.n3,by show 11<1000;decide,?_⟩;rw[Nk];have B:∀(a b:HO) (o:HO),upd (upd (upd H A.sw a) gr o) A.sw b=upd (upd H gr o) A.sw b:=λa b o=>by
  funext x
  by_cases z:x=A.sw
  ·rw[z,aq,aq]
  ·rw[aB z,aB z]
   by_cases y:x=gr
   ·rw[y,aq,aq]
   ·rw[aB y,aB y,aB z]
 rw[B];have fin:∀{lo:Int}{σ:St},σ=[some (.ref A.wo),some (.ref A.sw)]->lo=jm M.w M.hands.length->∀(m:Hp),m=upd (upd H gr (.lst [])) A.sw (.ins X.S ds (cF (1 - M.sw.sense) "walk" gr M.sw.looked (M.sw.turn+1) M.sw.at' M.sw.stop M.sw.walks M.sw.looks M.sw.passes M.sw.loss))->
   (∃a C dx fs,V.ref A.sw=.ref a/\m a=some (.ins C dx fs)/\Gy K C/\bK K C "looked"/\fs.length<1000/\(aN (gY K (ak 1) (tC (.int 0)) "walks") (aN (gY K (ak 1) (tC (.int 0)) "looks") (gY K (ak 1) (tC (.int 0)) "passes"))) ⟨λ_ H'=>Q .non H',Q,bk,ct⟩ σ (upd m a (.ins C dx (cB "looked" (.int lo) fs)))):=by
  rintro lo σ rfl D m rfl;refine⟨A.sw,X.S,ds,_,rfl,aq,c.cS,c.n4,by show 11<1000;decide,?_⟩;rw[vo,eN];walk_at"e";refine⟨A.sw,X.S,ds,_,rfl,aq,c.cS,c.n8,by show 11<1000;decide,?_⟩;rw[xX,eN];walk_at"e";refine⟨A.sw,X.S,ds,_,rfl,aq,c.cS,c.n9,by show 11<1000;decide,?_⟩;rw[xY,eN];walk_at"e";refine⟨A.sw,X.S,ds,_,rfl,aq,c.cS,c.n10,by show 11<1000;decide,?_⟩;rw[vm,eN];obtain⟨st,N⟩:=j.Znv w O (dx:=ds) (l:=gr) { M.sw with sense:=1 - M.sw.sense,phase:="walk",grey:=[],looked:=jm M.w M.hands.length,turn:=M.sw.turn+1,walks:=0,looks:=0,passes:=0 } r rfl;subst D;exact q _ _ _ st N ⟨rfl,rfl⟩
 have kp:∀b o,H b=some o->b≠A.sw->upd (upd H gr (.lst [])) A.sw (.ins X.S ds (cF (1 - M.sw.sense) "walk" gr M.sw.looked (M.sw.turn+1) M.sw.at' M.sw.stop M.sw.walks M.sw.looks M.sw.passes M.sw.loss)) b=some o:=λb o hb L=>by
  rw[aB L,aB (aD hb r)];exact hb
 have u:∀{a:Addr}{C d:Addr}{fs:List (Str×V)},H a=some (.ins C d fs)->fs.length<11->a≠A.sw:=λe hl z=>by
  rw[z,os]at e;have:=Option.some.inj e
  injection this with _ _ e3
  rw[<- e3]at hl;exact absurd hl (by show ¬ 11<11;decide)
 have f:=kp _ _ ow (u ow (by show 5<11;decide));have i:=kp _ _ ok (u ok (by show 2<11;decide));have g:=kp _ _ on (qw on os (λz=>by cases z));generalize t:upd (upd H gr (.lst [])) A.sw (.ins X.S ds (cF (1 - M.sw.sense) "walk" gr M.sw.looked (M.sw.turn+1) M.sw.at' M.sw.stop M.sw.walks M.sw.looks M.sw.passes M.sw.loss))=m at kp f i g ⊢;have n:((A.hs.map λp=>V.ref p.1).length:Int)=(M.hands.length:Int):=by rw[bx,lh]
 refine Jb ?_;walk_at"s";rcases ol with ⟨J,o⟩ | ⟨J,o⟩
 ·have I:=kp _ _ o (u o (by show 0<11;decide));refine Zkq ?_;walk_at"s";refine aJ f c.cW c.nWk m6 ?_;refine aJ i c.cK c.nKl rM ?_;walk_at"s";refine⟨A.lk,dl,_,rfl,I,rfl,?_⟩;walk_at"s";refine aJ f c.cW c.nWd gZ ?_;walk_at"s";refine lK (cV.of g) ?_;rw[n];walk_at"s";refine⟨A.lk,_,rfl,by omega,by omega,?_⟩;walk_at"s";exact fin rfl (by unfold jm;rw[if_pos J,if_pos rfl,Int.toNat_natCast]) _ t.symm
 ·have I:=kp _ _ o (u o (by show 0<11;decide));refine Zkp ?_;walk_at"s";refine aJ f c.cW c.nWk m6 ?_;refine aJ i c.cK c.nKl rM ?_;walk_at"s";refine⟨A.lk,dl,_,rfl,I,rfl,?_⟩;walk_at"s";refine aJ f c.cW c.nWd gZ ?_;walk_at"s";refine lK (cV.of g) ?_;rw[n];walk_at"s";refine⟨A.lk,_,rfl,by omega,by omega,?_⟩;walk_at"s";exact fin rfl (by unfold jm;rw[if_neg (show ¬ (1:Nat)=0 by decide),if_neg (by omega)]) _ t.symm
end
def O4(M:Wm):Bool:=decide (M.sw.phase="walk"\/M.sw.phase="lost")
def Mu(M:Wm)(p b:Int):Option Int:=if pU M p b=true then none else match cellAt M p with
 | none=>none
 | some c=>if O4 M=true/\¬ c.tone=M.sw.sense then none else some p
def um(X:Cs):Sp:=λvs H Q E=>∃wo,vs=[.ref wo]/\∃T s A M,Yz X H T s A M/\A.wo=wo/\∀H',aU H H'->Q (.bl (O4 M)) H'
def Dr(X:Cs):Sp:=λvs H Q E=>∃wo p b,vs=[.ref wo,.int p,.int b]/\∃T s A M,Yz X H T s A M/\A.wo=wo/\∀H',aU H H'->Q (oV (Mu M p b)) H'
section
variable {K:aC}{X:Cs}{H:Hp}{Q:VK}{E:XK}{n:St->Hp->Prop}{bk ct:St->Hp->Prop}
theorem S8{wo:Addr}(T:qI K X)(q:∃T s A M,Yz X H T s A M/\A.wo=wo/\∀H',aU H H'->Q (.bl (O4 M)) H'):wO K ⟨n,Q,bk,ct⟩ [some (.ref wo)] H:=by
 obtain⟨Tg,s,A,M,j,rfl,q⟩:=q;obtain⟨g,ow⟩:=j.jb.ow;obtain⟨f,os⟩:=j.js.os;unfold wO;walk_at"e";refine aJ ow T.cW T.Qz aZ ?_;walk_at"e";refine aJ os T.cS T.n2 ie ?_;walk_at"e";refine⟨aX (by simp),λtp b=>?_⟩;generalize zz:upd H tp _=H1;obtain⟨c,e⟩:=nwO b zz;refine⟨tp,_,rfl,.inr (je.of e),rfl,rfl,?_⟩;have q:=q H1 c;rw[show O4 M=(if false=true then !inV (V.str M.sw.phase) [V.str "walk",.str "lost"]else inV (V.str M.sw.phase) [V.str "walk",.str "lost"])from by
  rw[if_neg Bool.false_ne_true];unfold O4 inV
  by_cases h1:M.sw.phase="walk"
  ·simp[h1,eqV]
  ·by_cases h2:M.sw.phase="lost"
   ·simp[h2,eqV]
   ·have a:¬ ("walk":Str)=M.sw.phase:=λz=>h1 z.symm;have d:¬ ("lost":Str)=M.sw.phase:=λz=>h2 z.symm;simp[h1,h2,a,d,eqV]]at q
 exact q
theorem Zcd{wo:Addr}{p b:Int}(T:qI K X)(q:∃T s A M,Yz X H T s A M/\A.wo=wo/\∀H',aU H H'->Q (oV (Mu M p b)) H'):Fj K (Gs X) (cL X) (um X) ⟨n,Q,bk,ct⟩ [some (.ref wo),some (.int p),some (.int b)] H:=by
 obtain⟨Tg,s,A,M,j,rfl,q⟩:=q;unfold Fj;walk_at"e";refine⟨_,_,_,rfl,Tg,s,A,M,j,rfl,?_⟩;have h:∀c,cellAt M p=some c->pU M p b=false->Mu M p b=if O4 M=true/\¬ c.tone=M.sw.sense then none else some p:=λc hc a=>by
  unfold Mu;rw[a,if_neg Bool.false_ne_true,hc]
 cases a:pU M p b with
 | true=>
  walk_at"e";have:=q H (aU.refl _);rw[show Mu M p b=none from if_pos a]at this;exact this
 | false=>
  walk_at"e";refine⟨_,rfl,Tg,s,A,M,j,rfl,λr l=>?_⟩;obtain⟨c,hc⟩:∃c,cellAt M p=some c:=by
   cases e:cellAt M p with
   | none=>
    have:pU M p b=true:=by unfold pU;rw[e]
    rw[this]at a;cases a
   | some c=>exact⟨c,rfl⟩
  have q:=q r l;rw[h c hc a]at q;have d:=j.same l;cases hw:O4 M with
  | false=>
   walk_at"e";rw[if_neg (λz=>by rw[hw]at z;cases z.1)]at q;exact q
  | true=>
   walk_at"e";obtain⟨w,ow⟩:=d.jb.ow;obtain⟨x,oh⟩:=d.jh.oh;rcases d.look (some p)with ⟨f,_⟩ | ⟨i,c',k,t,u,m,o,hp,_,ce⟩
   ·have f:cellAt M p=none:=f;rw[hc]at f;cases f
   cases t;rw[hc]at m;cases m;refine aJ ow T.cW T.KJ bA ?_;walk_at"e";refine aJ oh T.c.cG T.c.bM bQ ?_;walk_at"e";refine jW (cV.of d.jh.oc) (pq (v:=.ref k.1) u (by rw[cA,hp];rfl)) ?_;walk_at"e";refine⟨_,_,rfl,Tg,s,A,M,_,k,c,d,rfl,ce,rfl,?_⟩;walk_at"e"
   by_cases g:c.tone=M.sw.sense
   ·rw[if_neg (λz=>z.2 g)]at q;refine Zdg (λz=>absurd g z) (λ_=>?_);walk_at"e";exact q
   ·rw[if_pos ⟨hw,g⟩]at q;refine Zdg (λ_=>?_) (λz=>absurd z g);walk_at"e";exact q
end
def uD(M:Wm):List (Option Int):=M.names.map λm=>Mu M m.2.1 m.2.2
def jj(M:Wm):List (List (Option Int)):=heldOf M++[uD M]
def Ot(X:Cs):Sp:=λvs H Q E=>∃wo,vs=[.ref wo]/\∃T s A M,s≠0/\WJ X H T s A M/\A.wo=wo/\M.hands.length<=1000/\M.names.length<=1000/\∀(l:Addr) (ls:List Addr) H',aU H H'->H l=none->H' l=some (.lst (ls.map V.ref))->ls.length=(jj M).length->(∀r∈ls,H r=none)->l∉ls->(∀(j:Nat) r x,ls[j]? =some r->(jj M)[j]? =some x->H' r=some (.lst (x.map oV)))->Q (.ref l) H'
section
variable {K:aC}{X:Cs}{H:Hp}{Q:VK}{E:XK}{n:St->Hp->Prop}{bk ct:St->Hp->Prop}
theorem Ztk{T:Tg}{ns:List Addr}{names:List (Str×(Int×Int))}(h:Al (NmO H T) ns names):∀{i:Nat}{kv:L2.Key×V},(Ai names ns)[i]? =some kv->∃t m,names[i]? =some m/\kv.2=.ref t/\H t=some (.tup [.int m.2.1,.int m.2.2])/\T t=(0,0):=by
 induction h with
 | nil=>intro i kv e;simp[Ai]at e
 | cons a h ih=>
  intro i kv e;cases i with
  | zero=>cases e;exact⟨_,_,rfl,rfl,a.2,a.1⟩
  | succ i=>exact ih (i:=i) (kv:=kv) (by simpa[Ai]using e)
theorem Zii{wo:Addr}(T:qI K X)(q:∃T s A M,s≠0/\WJ X H T s A M/\A.wo=wo/\M.hands.length<=1000/\M.names.length<=1000/\∀(l:Addr) (ls:List Addr) H',aU H H'->H l=none->H' l=some (.lst (ls.map V.ref))->ls.length=(jj M).length->(∀r∈ls,H r=none)->l∉ls->(∀(j:Nat) r x,ls[j]? =some r->(jj M)[j]? =some x->H' r=some (.lst (x.map oV)))->Q (.ref l) H'):
  PN K (YF X) (Dr X) H ⟨n,Q,bk,ct⟩ [some (.ref wo)] H:=by
 obtain⟨Tg,s,A,M,h0,j,rfl,hh,hn,q⟩:=q;unfold PN;walk_at"e";refine⟨_,rfl,Tg,s,A,M,j,rfl,hh,λl1 a H1 Z nl1 Y N nd1 nn1 ZCz g1=>?_⟩;have j1:=j.same Z;obtain⟨dw,ow⟩:=j1.jb.ow;have om:=j1.jn.om;walk_at"e";refine aJ ow T.cW T.nWn mL ?_;refine⟨_,_,rfl,.inl om,λvv nvv=>?_⟩;generalize zz:upd H1 vv _=H2;obtain⟨O,g2⟩:=nwO nvv zz;have S:=j1.same O;have E:=S.jn.om;refine⟨_,_,_,rfl,g2,E,λo=>?_⟩;have lnm:(Ai M.names A.ns).length=M.names.length:=Zjo S.jn.nms;have w3:=S.names (o:=.DR o (.dK (Ai M.names A.ns))) h0;have d:∀b u,H2 b=some u->b≠A.nm->upd H2 A.nm (.DR o (.dK (Ai M.names A.ns))) b=some u:=λb u hb nb=>by rw[aB nb];exact hb
 have R:upd H2 A.nm (.DR o (.dK (Ai M.names A.ns))) A.nm=some (.DR o (.dK (Ai M.names A.ns))):=aq;generalize upd H2 A.nm (.DR o (.dK (Ai M.names A.ns)))=H3 at w3 d R ⊢;have nmn:∀t xs,H2 t=some (.tup xs)->t≠A.nm:=λt xs z=>qw z E (λy=>by cases y);refine Zf0 ?_;refine Zke M.names.length (by omega) (λi y _=>∃m,M.names[i]? =some m/\y=oV (Mu M m.2.1 m.2.2)) (λ_ _ _ _ h _=>h) (λH' s=>⟨s _ _ R,by omega⟩) (λi H' hi s=>⟨s _ _ R,by omega⟩) (λi x H4 W hi C y=>?_) ?_
 ·obtain⟨rfl,kv,ekv,rfl⟩:=y;obtain⟨t,m,em,et,ot,tt⟩:=Ztk S.jn.nms ekv;refine⟨rfl,λq hq=>CQ hq,λq hq=>?_⟩;have ot4:=C _ _ (d _ _ ot (nmn _ _ ot));refine⟨t,_,_,_,by rw[et],je.of ot4,?_⟩;walk_at"c";walk_at"e";exact⟨_,_,_,rfl,Tg,s,A,M,w3.same C,rfl,λH6 f=>hq _ _ f ⟨m,em,rfl⟩⟩
 ·intro ys H4 C ly hy p U;have ey:ys=(uD M).map oV:=by
   refine List.ext_getElem? λi=>?_
   by_cases hi:i<ys.length
   ·obtain⟨m,g,v⟩:=hy i ys[i] (bL hi);rw[bL hi,v];unfold uD;rw[cA,cA,g];rfl
   ·rw[List.getElem?_eq_none (by omega),List.getElem?_eq_none];unfold uD;rw[bx,bx];omega
  subst ey;have g5:=C _ _ R;have w:p≠A.nm:=λz=>by rw[z,g5]at U;cases U
  refine⟨A.nm,o,_,by rw[aB w.symm];exact g5,(λo' u z=>by rw[j.jn.om]at z;cases z),?_⟩;generalize B:upd (upd H4 p (.lst ((uD M).map oV))) A.nm (.dK (Ai M.names A.ns))=W;have I:aU H2 W:=λb u hb=>by
   rw[<- B]
   by_cases z:b=A.nm
   ·subst z;rw[aq];rw[E]at hb;exact hb
   ·have h3:=d b u hb z;rw[aB z,aB (aD (C _ _ h3) U)];exact C _ _ h3
  have np2:H2 p=none:=by
   cases z:H2 p with
   | none=>rfl
   | some u=>
    have:=C _ _ (d p u z w);rw[U]at this;cases this
  have J:W p=some (.lst ((uD M).map oV)):=by rw[<- B,aB w];exact aq
  clear B;have F:=Z.trans (O.trans I);have D:=O.trans I;walk_at"e";refine⟨aX (by simp),λl2 nl2=>?_⟩;generalize zz:upd W l2 _=H6;obtain⟨f,g6⟩:=nwO nl2 zz;refine⟨l1,l2,_,_,rfl,rfl,f _ _ (D _ _ Y),g6,?_,λl3 c=>?_⟩
  ·rw[bx];have:(heldOf M).length=M.hands.length:=by unfold heldOf;rw[bx]
   exact aX (by simp;omega)
  have P:=aL c (.lst (a.map V.ref++[.ref p]));have L:=F.trans (f.trans P);have e7:a.map V.ref++[V.ref p]=(a++[p]).map V.ref:=by rw[List.map_append];rfl
  rw[e7]at P L ⊢;have fp:H p=none:=Z.free (O.free np2);refine q l3 (a++[p]) _ L (F.free (f.free c)) aq ?_ (λr hr=>?_) (λhr=>?_) λk r x g v=>?_
  ·unfold jj;rw[List.length_append,List.length_append,N];rfl
  ·rcases List.mem_append.mp hr with hr | hr
   ·exact nn1 r hr
   ·rw[List.mem_singleton.mp hr];exact fp
  ·rcases List.mem_append.mp hr with hr | hr
   ·obtain⟨k,hk,e⟩:=List.getElem_of_mem hr;have:=g1 k l3 (heldOf M)[k] (by rw[bL hk,e]) (bL (by omega));rw[f _ _ (D _ _ this)]at c;cases c
   ·rw[List.mem_singleton.mp hr,f _ _ J]at c;cases c
  ·unfold jj at v
   by_cases hk:k<a.length
   ·rw[List.getElem?_append_left hk]at g;rw[List.getElem?_append_left (by omega)]at v;exact P _ _ (f _ _ (D _ _ (g1 k r x g v)))
   ·have hk2:=(dX g).1;rw[List.length_append,List.length_singleton]at hk2;have ek:k=a.length:=by omega
    rw[List.getElem?_append_right (by omega)]at g v;rw[ek,Nat.sub_self]at g;rw[ek,N,Nat.sub_self]at v;cases g;cases v;exact P _ _ (f _ _ J)
end
namespace KB
abbrev Fd:=List (Option (List (Option Int)))
def Vu(F:Fd)(p:Int):Option (List (Option Int)):=if 0<=p then(F[p.toNat]?).join else none
def nxt(F:Fd)(pl:Option Int)(f:Int):Option Int:=match pl with
 | none=>none
 | some p=>match Vu F p with
  | none=>none
  | some fl=>if 0<=f then(fl[f.toNat]?).join else none
abbrev Rw:=List (List (Option Int))
def slt(R:Rw)(r s:Int):Option Int:=((R[r.toNat]?).bind λx=>x[s.toNat]?).join
def ZG(F:Fd)(w:List Int)(x:Option Int×Nat):Option (Int×List Int):=match x.1 with
 | none=>none
 | some q=>if (Vu F q).isSome then some (q,w++[(x.2:Int)])else none
def onw(F:Fd)(w:List Int)(n:Nat)(ps:List (Option Int)):List (Int×List Int):=(ps.zipIdx n).filterMap (ZG F w)
def q0(F:Fd)(n:Nat)(R:Rw):List (Int×List Int):=(R.zipIdx n).flatMap λx=>onw F [(x.2:Int)] 0 x.1
structure Good(F:Fd)(R:Rw)(p:Int)(w:List Int):Prop where
 ex:∃r s fs row,w=r::s::fs/\0<=r/\0<=s/\R[r.toNat]? =some row/\s.toNat<row.length/\(∀f∈fs,0<=f)/\fs.foldl (nxt F) (slt R r s)=some p
 there:(Vu F p).isSome=true
theorem Dp{F:Fd}{w:List Int}{n:Nat}{ps:List (Option Int)}{q:Int}{v:List Int}(h:(q,v)∈onw F w n ps):∃k,ps[k]? =some (some q)/\v=w++[((n+k:Nat):Int)]/\(Vu F q).isSome=true:=by
 obtain⟨⟨x,m⟩,hm,e⟩:=List.mem_filterMap.mp h;obtain⟨a,b⟩:=List.mem_zipIdx_iff_le_and_getElem?_sub.mp hm;unfold ZG at e;cases x with
 | none=>cases e
 | some c=>
  simp only at e;split at e
  ·rename_i hs
   cases e;refine⟨m - n,b,?_,hs⟩;have:n+(m - n)=m:=by have:=a;simp only at this;omega
   rw[this]
  ·cases e
theorem Zl7{F:Fd}{R:Rw}{p q:Int}{w v:List Int}{fl:List (Option Int)}(g:Good F R p w)(a:Vu F p=some fl)(h:(q,v)∈onw F w 0 fl):Good F R q v:=by
 obtain⟨k,hk,rfl,hs⟩:=Dp h;obtain⟨⟨r,s,fs,row,rfl,h1,h2,h3,h4,h5,h6⟩,_⟩:=g;refine⟨⟨r,s,fs++[((0+k:Nat):Int)],row,rfl,h1,h2,h3,h4,λf a=>?_,?_⟩,hs⟩
 ·rcases List.mem_append.mp a with z | z
  ·exact h5 f z
  ·have:f=((0+k:Nat):Int):=by simpa using z
   omega
 ·rw[List.foldl_append,h6];show nxt F (some p) _=some q;unfold nxt;simp only[a];rw[if_pos (by omega)];have:(((0+k:Nat):Int)).toNat=k:=by omega
  rw[this,hk];rfl
theorem Zot{F:Fd}{R:Rw}{q:Int}{v:List Int}(h:(q,v)∈q0 F 0 R):Good F R q v:=by
 obtain⟨⟨row,n⟩,hm,h⟩:=List.mem_flatMap.mp h;have hr:R[n]? =some row:=List.mem_zipIdx_iff_getElem?.mp hm;obtain⟨k,hk,rfl,hs⟩:=Dp h;refine⟨⟨(n:Int),((0+k:Nat):Int),[],row,rfl,by omega,by omega,by simpa using hr,?_,(λf c=>by cases c),?_⟩,hs⟩
 ·have:k<row.length:=(dX hk).1;omega
 ·show slt R _ _=some q;unfold slt;have a:((n:Int)).toNat=n:=by omega
  have b:(((0+k:Nat):Int)).toNat=k:=by omega
  rw[a,b,hr];simp only[Option.bind_some,hk,Option.join_some]
inductive O3(F:Fd)(R:Rw):List (Int×List Int)->Nat->List (Int×List Int)->Prop
 | start:O3 F R (q0 F 0 R) 0 []
 | old {q k l p w}:O3 F R q k l->q[k]? =some (p,w)->p∈l.map (·.1)->O3 F R q (k+1) l
 | new {q k l p w fl}:O3 F R q k l->q[k]? =some (p,w)->p∉l.map (·.1)->Vu F p=some fl->O3 F R (q++onw F w 0 fl) (k+1) (l++[(p,w)])
theorem O3.good{F:Fd}{R:Rw}{q l:List (Int×List Int)}{k:Nat}(b:O3 F R q k l):(∀x∈q,Good F R x.1 x.2)/\∀x∈l,Good F R x.1 x.2:=by
 induction b with
 | start=>exact⟨λx hx=>Zot hx,λx hx=>nomatch hx⟩
 | old _ _ _ ih=>exact ih
 | new b hq hn a ih=>
  have g:=ih.1 _ (List.mem_of_getElem? hq);refine⟨λx hx=>?_,λx hx=>?_⟩
  ·rcases List.mem_append.mp hx with z | z
   ·exact ih.1 x z
   ·exact Zl7 g a z
  ·rcases List.mem_append.mp hx with z | z
   ·exact ih.2 x z
   ·have c:=List.mem_singleton.mp z;rw[c];exact g
def wgt:Option (List (Option Int))->Nat
 | none=>0
 | some fl=>fl.length
def Zbc(F:Fd)(l:List (Int×List Int)):Nat:=((F.zipIdx).map λx=>if (x.2:Int)∈l.map (·.1)then 0 else wgt x.1).sum
theorem Zi9{a:Type}(f g:a->Nat):∀(xs:List a),(∀x∈xs,g x<=f x)->(xs.map g).sum<=(xs.map f).sum
 | [],_=>Nat.le_refl _
 | x::xs,h=>by
  have h1:=h x (by simp);have h2:=Zi9 f g xs λy hy=>h y (by simp[hy]);simp only[List.map_cons,List.sum_cons];omega
theorem Zb{b:Type}(f g:b->Nat)(d:Nat):∀(xs:List b) (a:b),a∈xs->(∀x∈xs,g x<=f x)->g a+d<=f a->(xs.map g).sum+d<=(xs.map f).sum
 | [],_,h,_,_=>nomatch h
 | x::xs,a,c,h,hd=>by
  have h1:=h x (by simp);have h2:=Zi9 f g xs λy hy=>h y (by simp[hy]);simp only[List.map_cons,List.sum_cons];rcases List.mem_cons.mp c with z | z
  ·subst z;omega
  ·have h3:=Zb f g d xs a z (λy hy=>h y (by simp[hy])) hd;omega
theorem Oe{F:Fd}{w:List Int}{n:Nat}{ps:List (Option Int)}:(onw F w n ps).length<=ps.length:=by
 unfold onw;have:=List.length_filterMap_le (ZG F w) (ps.zipIdx n);rw[List.length_zipIdx]at this;exact this
theorem Zhz{F:Fd}{l:List (Int×List Int)}{p:Int}{w:List Int}{fl:List (Option Int)}(hn:p∉l.map (·.1))(a:Vu F p=some fl):Zbc F (l++[(p,w)])+fl.length<=Zbc F l:=by
 unfold Vu at a;split at a
 ·rename_i b
  have hp:F[p.toNat]? =some (some fl):=by
   cases e:F[p.toNat]? with
   | none=>rw[e]at a;cases a
   | some x=>rw[e]at a;simp only[Option.join_some]at a;rw[a]
  unfold Zbc;refine Zb _ _ fl.length _ (some fl,p.toNat) (List.mem_zipIdx_iff_getElem?.mpr hp) (λx _=>?_) ?_
  ·simp only[List.map_append,List.map_cons,List.map_nil,List.mem_append]
   by_cases h1:(x.2:Int)∈l.map (·.1)
   ·simp only[h1,true_or,↓reduceIte,Nat.le_refl]
   ·simp only[h1,false_or];split
    ·exact Nat.zero_le _
    ·exact Nat.le_refl _
  ·have e:((p.toNat:Nat):Int)=p:=by omega
   simp only[List.map_append,List.map_cons,List.map_nil,List.mem_append,e];rw[if_pos (.inr (by simp)),if_neg hn];show 0+fl.length<=wgt (some fl);show 0+fl.length<=fl.length;omega
 ·cases a
def total(F:Fd)(R:Rw):Nat:=(q0 F 0 R).length+Zbc F []
theorem O3.bound{F:Fd}{R:Rw}{q l:List (Int×List Int)}{k:Nat}(b:O3 F R q k l):q.length+Zbc F l<=total F R:=by
 induction b with
 | start=>exact Nat.le_refl _
 | old _ _ _ ih=>exact ih
 | new b hq hn a ih=>
  have h2:=@Oe F;rw[List.length_append];refine Nat.le_trans ?_ ih
  rename_i w fl
  have h3:=h2 (w:=w) (n:=0) (ps:=fl);have h4:=Zhz (w:=w) hn a;omega
end KB
def Zp9(cs:List V)(i:Int):V:=if 0<=i then(cs[i.toNat]?).getD .non else .non
def CO(a:Addr)(H:Hp)(cs:List V)(i:Nat):Option (List (Option Int))->Prop
 | none=>cs[i]? =some .non
 | some fl=>∃p fa b u t l,cs[i]? =some (.ref p)/\yu a H p fa b u t l (fl.map oV)
structure HV(CC CH:Addr)(H:Hp)(hp:Addr)(F:KB.Fd):Prop where
 ex:∃ca room used born cs,HpO CH H hp ca room used born cs/\cs.length=F.length/\∀(i:Nat) x,F[i]? =some x->CO CC H cs i x
theorem HpO.same{a:Addr}{H H':Hp}{hp ca:Addr}{room used born:Int}{cs:List V}(h:HpO a H hp ca room used born cs)(s:aU H H'):HpO a H' hp ca room used born cs:=by
 obtain⟨⟨dx,h1⟩,h2⟩:=h;exact⟨⟨dx,s _ _ h1⟩,s _ _ h2⟩
theorem CO.same{a:Addr}{H H':Hp}{cs:List V}{i:Nat}{x:Option (List (Option Int))}(h:CO a H cs i x)(s:aU H H'):CO a H' cs i x:=by
 cases x with
 | none=>exact h
 | some fl=>
  obtain⟨p,fa,b,u,t,l,e,c⟩:=h;exact⟨p,fa,b,u,t,l,e,c.same s⟩
theorem HV.same{a b:Addr}{H H':Hp}{hp:Addr}{F:KB.Fd}(h:HV a b H hp F)(s:aU H H'):HV a b H' hp F:=by
 obtain⟨ca,room,used,born,cs,o,l,e⟩:=h;exact⟨ca,room,used,born,cs,o.same s,l,λi x hx=>(e i x hx).same s⟩
theorem Zlj{d:Addr}{H:Hp}{cs:List V}{F:KB.Fd}(hl:cs.length=F.length)(e:∀(i:Nat) x,F[i]? =some x->CO d H cs i x)(i:Int):
  (KB.Vu F i=none/\Zp9 cs i=.non)\/∃fl p fa b u t l,KB.Vu F i=some fl/\Zp9 cs i=.ref p/\cs[i.toNat]? =some (.ref p)/\0<=i/\yu d H p fa b u t l (fl.map oV):=by
 unfold KB.Vu Zp9
 by_cases g:0<=i
 ·simp only[g,↓reduceIte];cases f:F[i.toNat]? with
  | none=>
   have:cs[i.toNat]? =none:=by rw[List.getElem?_eq_none_iff]at f ⊢;omega
   exact .inl ⟨rfl,by rw[this];rfl⟩
  | some x=>
   have c:=e _ _ f;cases x with
   | none=>exact .inl ⟨rfl,by rw[show cs[i.toNat]? =some V.non from c];rfl⟩
   | some fl=>
    obtain⟨p,fa,b,u,t,l,a,h⟩:=c;exact .inr ⟨fl,p,fa,b,u,t,l,rfl,by rw[a];rfl,a,trivial,h⟩
 ·simp only[g,↓reduceIte];exact .inl ⟨trivial,trivial⟩
def GD(H:Hp):List Addr->List (Int×List Int)->Prop
 | [],[]=>True
 | t::ts,x::b=>(∃a,H t=some (.tup [.int x.1,.ref a])/\H a=some (.tup (x.2.map V.int)))/\GD H ts b
 | _,_=>False
theorem GD.same{H H':Hp}(s:aU H H'):∀{ts:List Addr}{b:List (Int×List Int)},GD H ts b->GD H' ts b
 | [],[],_=>trivial
 | [],_::_,h=>h.elim
 | _::_,[],h=>h.elim
 | _::_,_::_,⟨⟨a,h1,h2⟩,h3⟩=>⟨⟨a,s _ _ h1,s _ _ h2⟩,GD.same s h3⟩
theorem GD.app{H:Hp}:∀{ts us:List Addr}{a rs:List (Int×List Int)},GD H ts a->GD H us rs->GD H (ts++us) (a++rs)
 | [],_,[],_,_,h=>h
 | [],_,_::_,_,h,_=>h.elim
 | _::_,_,[],_,h,_=>h.elim
 | _::_,_,_::_,_,⟨h1,h3⟩,h=>⟨h1,GD.app h3 h⟩
theorem GD.len{H:Hp}:∀{ts:List Addr}{a:List (Int×List Int)},GD H ts a->ts.length=a.length
 | [],[],_=>rfl
 | [],_::_,h=>h.elim
 | _::_,[],h=>h.elim
 | _::_,_::_,⟨_,h3⟩=>by rw[List.length_cons,List.length_cons,GD.len h3]
theorem GD.at{H:Hp}:∀{ts:List Addr}{b:List (Int×List Int)}{i:Nat}{x:Int×List Int},GD H ts b->b[i]? =some x->∃t a,ts[i]? =some t/\H t=some (.tup [.int x.1,.ref a])/\H a=some (.tup (x.2.map V.int))
 | [],[],_,_,_,e=>by simp at e
 | [],_::_,_,_,h,_=>h.elim
 | _::_,[],_,_,h,_=>h.elim
 | t::_,_::_,0,_,⟨⟨a,h1,h2⟩,_⟩,e=>by cases e;exact⟨t,a,rfl,h1,h2⟩
 | _::_,_::_,i+1,_,⟨_,h3⟩,e=>GD.at (i:=i) h3 e
def Dd(K:aC)(b c:Addr):Sp:=λvs H Q E=>∃hp a wt F ps w,vs=[.ref hp,.ref a,.ref wt]/\HV b c H hp F/\cV K H a (ps.map oV)/\je K H wt (w.map V.int)/\w≠[]/\w.length<=100000/\ps.length<=1000/\
 ∀l ts H',H l=none->aU H H'->H' l=some (.lst (ts.map V.ref))->GD H' ts (KB.onw F w 0 ps)->Q (.ref l) H'
def Gu(K:aC)(H:Hp):List Addr->KB.Rw->Prop
 | [],[]=>True
 | a::b,r::R=>cV K H a (r.map oV)/\Gu K H b R
 | _,_=>False
theorem Gu.same{K:aC}{H H':Hp}(s:aU H H'):∀{a:List Addr}{R:KB.Rw},Gu K H a R->Gu K H' a R
 | [],[],_=>trivial
 | [],_::_,h=>h.elim
 | _::_,[],h=>h.elim
 | _::_,_::_,⟨h1,h3⟩=>⟨s.seq h1,Gu.same s h3⟩
theorem Gu.len{K:aC}{H:Hp}:∀{a:List Addr}{R:KB.Rw},Gu K H a R->a.length=R.length
 | [],[],_=>rfl
 | [],_::_,h=>h.elim
 | _::_,[],h=>h.elim
 | _::_,_::_,⟨_,h3⟩=>by rw[List.length_cons,List.length_cons,Gu.len h3]
theorem Gu.at{K:aC}{H:Hp}:∀{b:List Addr}{R:KB.Rw}{i:Nat}{a:Addr},Gu K H b R->b[i]? =some a->∃r,R[i]? =some r/\cV K H a (r.map oV)
 | [],[],_,_,_,e=>by simp at e
 | [],_::_,_,_,h,_=>h.elim
 | _::_,[],_,_,h,_=>h.elim
 | _::_,r::_,0,_,⟨h1,_⟩,e=>by cases e;exact⟨r,rfl,h1⟩
 | _::_,_::_,i+1,_,⟨_,h3⟩,e=>Gu.at (i:=i) h3 e
structure Few(F:KB.Fd)(R:KB.Rw):Prop where
 f:F.length<=1000
 g:∀p fl,KB.Vu F p=some fl->fl.length<=1000
 r:R.length<=1000
 s:∀x∈R,x.length<=1000
 t:KB.total F R<=90000
def Ds(K:aC)(c d:Addr):Sp:=λvs H Q E=>∃hp b F rs R,vs=[.ref hp,.ref b]/\HV c d H hp F/\cV K H b (rs.map V.ref)/\Gu K H rs R/\Few F R/\
 ∀l ts q a H',KB.O3 F R q q.length a->H l=none->aU H H'->H' l=some (.lst (ts.map V.ref))->GD H' ts a->Q (.ref l) H'
theorem Zuq{f g hp:Addr}{H:Hp}{Q:VK}{E:XK}{pl:Option Int}{F:KB.Fd}(v:HV f g H hp F)(e:pl.bind (KB.Vu F)=none->Q .non H)(j:∀fl p fa b u t l,pl.bind (KB.Vu F)=some fl->yu f H p fa b u t l (fl.map oV)->Q (.ref p) H):d7 g [.ref hp,oV pl] H Q E:=by
 obtain⟨ca,room,used,born,cs,o,hl,h⟩:=v;refine⟨hp,oV pl,rfl,yg pl,ca,room,used,born,cs,o,?_⟩;cases pl with
 | none=>exact e rfl
 | some i=>
  show Q (Zp9 cs i) H;rcases Zlj hl h i with ⟨a,d⟩ | ⟨fl,p,fa,b,u,t,l,a,d,_,_,c⟩
  ·rw[d];exact e a
  ·rw[d];exact j fl p fa b u t l a c
theorem ZF(F:KB.Fd)(w:List Int)(n:Nat)(ps:List (Option Int))(x:Option Int):KB.onw F w n (ps++[x])=KB.onw F w n ps++(KB.ZG F w (x,n+ps.length)).toList:=by
 unfold KB.onw;rw[List.zipIdx_append,List.filterMap_append];congr 1
theorem take_snoc{a:Type}{xs:List a}{i:Nat}{x:a}(h:xs[i]? =some x):xs.take (i+1)=xs.take i++[x]:=by
 rw[List.take_add_one,h];rfl
theorem lJ{H:Hp}{a:Addr}{o:HO}(h:H a=none):aU H (upd H a o):=λb u q=>by rw[aB (aD q h)];exact q
section
variable {K:aC}{bh aY bR:Addr}{H:Hp}{Q:VK}{E:XK}{n:St->Hp->Prop}{bk ct:St->Hp->Prop}
theorem Zcq{hp a wt:Addr}{F:KB.Fd}{ps:List (Option Int)}{w:List Int}(v:HV bh aY H hp F)(P:cV K H a (ps.map oV))(hw:je K H wt (w.map V.int))(B:w≠[])(U:w.length<=100000)(R:ps.length<=1000)
  (Zqd:∀{H':Hp},aU H H'->je K H' wt (w.map V.int))
  (q:∀l ts H',H l=none->aU H H'->H' l=some (.lst (ts.map V.ref))->GD H' ts (KB.onw F w 0 ps)->Q (.ref l) H'):
  Dl K (d7 aY) ⟨n,Q,bk,ct⟩ [some (.ref hp),some (.ref a),some (.ref wt)] H:=by
 unfold Dl;walk_at"e";refine⟨a,rfl,⟨_,P⟩,Zo1 P (by rw[bx];omega) (λi s f=>aU H f/\i<=ps.length/\∃ts,s=ts.map V.ref/\GD f ts (KB.onw F w 0 (ps.take i))) ⟨aU.refl _,Nat.zero_le _,[],rfl,trivial⟩ ?_ ?_ ?_⟩
 ·rintro i s f ⟨sm,hi,ts,rfl,g⟩;refine⟨sm,?_⟩;rw[bx,g.len];refine Nat.le_trans KB.Oe ?_;rw[List.length_take];omega
 ·rintro i x s f t C N hx ⟨sm,hi,ts,rfl,g⟩ W;walk_at"c";rw[cA]at hx;obtain⟨y,hy,rfl⟩:=Option.map_eq_some_iff.mp hx;have m:i<ps.length:=(dX hy).1;have j:0+(ps.take i).length=i:=by rw[List.length_take];omega
  have D:aU f (upd f t (.tup [.int i,oV y])):=lJ W;have r:=sm.trans D;walk_at"e";refine Zuq (v.same r) (λe=>?_) (λfl p fa b u t' l e c=>?_)
  ·refine Zdj ?_;walk_at"e";refine Zkk (N _ _ ⟨r,m,ts,rfl,?_⟩);rw[take_snoc hy,ZF,j];have A:KB.ZG F w (y,i)=none:=by
    unfold KB.ZG;cases y with
    | none=>rfl
    | some d=>simp only;rw[show KB.Vu F d=none from e];rfl
   rw[A];simp only[Option.toList_none,List.append_nil];exact g.same D
  ·refine Zdj ?_;walk_at"e";refine Za5 ?_;obtain⟨d,rfl⟩:∃d,y=some d:=by
    cases y with
    | none=>cases e
    | some d=>exact⟨d,rfl⟩
   have S:KB.Vu F d=some fl:=e;walk_at"e";refine⟨(by show 1<=sizeLine;decide),λt2 E=>?_⟩;have O:=D.trans (lJ (o:=.tup [.int i]) E);refine⟨wt,t2,w.map V.int,[.int i],rfl,rfl,Zqd (sm.trans O),je.of aq,by simpa using B,by rw[bx];exact aX (by simp only[List.length_cons,List.length_nil];omega),(λz=>nomatch z),(λ_ h J=>?_)⟩;have T:=O.trans (lJ (o:=.tup (w.map V.int++[.int i])) J);walk_at"e";refine⟨(by show 2<=sizeLine;decide),λL k=>?_⟩;have M:=T.trans (lJ (o:=.tup [oV (some d),.ref h]) k);have I:h≠L:=aD aq k;have h3:upd (upd (upd (upd f t (.tup [.int i,oV (some d)])) t2 (.tup [.int i])) h (.tup (w.map V.int++[.int i]))) L (.tup [oV (some d),.ref h]) h=some (.tup (w.map V.int++[.int i])):=by
    rw[aB I,aq]
   walk_at"e";refine N _ _ ⟨sm.trans M,m,ts++[L],by simp,?_⟩;rw[take_snoc hy,ZF,j];have A:KB.ZG F w (some d,i)=some (d,w++[(i:Int)]):=by
    unfold KB.ZG;simp only[S,Option.isSome_some,↓reduceIte]
   rw[A];refine(g.same M).app ⟨⟨h,aq,?_⟩,trivial⟩;rw[h3,List.map_append];rfl
 ·rintro s f ⟨sm,_,ts,rfl,g⟩ l hl;walk_at"e";rw[bx,List.take_length]at g;exact q l ts _ (sm.free hl) (sm.trans (lJ hl)) aq (g.same (lJ hl))
end
theorem Zqd{K:aC}{H H':Hp}{a:Addr}{xs:List V}(e:aU H H')(h:je K H a xs):je K H' a xs:=by
 rcases h with (h | ⟨o,h⟩) | h
 ·exact .inl (.inl (e _ _ h))
 ·exact .inl (.inr ⟨o,e _ _ h⟩)
 ·exact .inr h
def TK(H H':Hp):Prop:=∀b xs,H b=some (.tup xs)->H' b=some (.tup xs)
theorem TK.same{H H':Hp}(s:aU H H'):TK H H':=λb _ h=>s b _ h
theorem TK.upd{H:Hp}{a:Addr}{o:HO}(h:∀xs,H a≠some (.tup xs)):TK H (L2.upd H a o):=λb xs q=>by
 have n:b≠a:=λz=>h xs (by rw[<- z];exact q);rw[aB n];exact q
theorem TK.trans{H e d:Hp}(a:TK H e)(b:TK e d):TK H d:=λc xs h=>b c xs (a c xs h)
theorem GD.tk{H H':Hp}(s:TK H H'):∀{ts:List Addr}{b:List (Int×List Int)},GD H ts b->GD H' ts b
 | [],[],_=>trivial
 | [],_::_,h=>h.elim
 | _::_,[],h=>h.elim
 | _::_,_::_,⟨⟨a,h1,h2⟩,h3⟩=>⟨⟨a,s _ _ h1,s _ _ h2⟩,GD.tk s h3⟩
def VD(H:Hp):List (Key×V)->List (Int×List Int)->Prop
 | [],[]=>True
 | kv::b,x::c=>(kv.1=Sum.inl x.1/\∃a,kv.2=.ref a/\H a=some (.tup (x.2.map V.int)))/\VD H b c
 | _,_=>False
theorem VD.tk{H H':Hp}(s:TK H H'):∀{b:List (Key×V)}{c:List (Int×List Int)},VD H b c->VD H' b c
 | [],[],_=>trivial
 | [],_::_,h=>h.elim
 | _::_,[],h=>h.elim
 | _::_,_::_,⟨⟨d,a,h1,h2⟩,h3⟩=>⟨⟨d,a,h1,s _ _ h2⟩,VD.tk s h3⟩
theorem VD.app{H:Hp}:∀{b ls:List (Key×V)}{a rs:List (Int×List Int)},VD H b a->VD H ls rs->VD H (b++ls) (a++rs)
 | [],_,[],_,_,h=>h
 | [],_,_::_,_,h,_=>h.elim
 | _::_,_,[],_,h,_=>h.elim
 | _::_,_,_::_,_,⟨h1,h3⟩,h=>⟨h1,VD.app h3 h⟩
theorem VD.len{H:Hp}:∀{ts:List (Key×V)}{a:List (Int×List Int)},VD H ts a->ts.length=a.length
 | [],[],_=>rfl
 | [],_::_,h=>h.elim
 | _::_,[],h=>h.elim
 | _::_,_::_,⟨_,h3⟩=>by rw[List.length_cons,List.length_cons,VD.len h3]
theorem VD.val{H:Hp}(p:Int):∀{a:List (Key×V)}{b:List (Int×List Int)},VD H a b->(m7 a (Sum.inl p)).isSome=decide (p∈b.map (·.1))
 | [],[],_=>by simp[m7]
 | [],_::_,h=>h.elim
 | _::_,[],h=>h.elim
 | kv::a,x::b,⟨⟨c,_⟩,h3⟩=>by
  by_cases e:x.1=p
  ·rw[mO (by rw[c,e])];simp[e]
  ·rw[mQ (by rw[c];exact λz=>e (Sum.inl.inj z)),VD.val p h3];simp only[List.map_cons,List.mem_cons];have d:¬ p=x.1:=λz=>e z.symm;simp only[d,false_or]
theorem VD.prs{H:Hp}:∀{ts:List Addr}{b:List (Key×V)}{c:List (Int×List Int)},VD H b c->Zaw H ts b->GD H ts c
 | [],[],[],_,_=>trivial
 | _,[],_::_,h,_=>h.elim
 | _,_::_,[],h,_=>h.elim
 | [],_::_,_::_,_,h=>h.elim
 | _::_,[],[],_,h=>h.elim
 | t::ts,kv::b,x::c,⟨⟨f,a,h1,h2⟩,h3⟩,⟨e,d⟩=>⟨⟨a,by rw[e,f,h1];rfl,h2⟩,VD.prs h3 d⟩
theorem Zmy(F:KB.Fd)(R:KB.Rw)(i:Nat)(r:List (Option Int))(h:R[i]? =some r):KB.q0 F 0 (R.take (i+1))=KB.q0 F 0 (R.take i)++KB.onw F [(i:Int)] 0 r:=by
 unfold KB.q0;rw[take_snoc h,List.zipIdx_append,List.flatMap_append];have hl:(R.take i).length=i:=by
  have:=(dX h).1;rw[List.length_take];omega
 rw[hl];simp only[List.zipIdx_cons,List.zipIdx_nil,List.flatMap_cons,List.flatMap_nil,List.append_nil,Nat.zero_add]
structure RS(K:aC)(CC CH:Addr)(H0 H:Hp)(ql d:Addr)(F:KB.Fd)(R:KB.Rw)(q qs:List (Int×List Int))(k:Nat):Prop where
 sm:aU H0 H
 nq:H0 ql=none
 b:KB.O3 F R q k qs
 hk:k<=q.length
 oq:∃ts,H ql=some (.lst (ts.map V.ref))/\GD H ts q
 od:∃kvs,H d=some (.dK kvs)/\VD H kvs qs
 nd:H0 d=none
theorem Zk8{H:Hp}{a:Addr}{xs:List V}{o:HO}(h:H a=some (.lst xs)):TK H (upd H a o):=TK.upd λb z=>by rw[h]at z;cases z
theorem Zun{H:Hp}{a:Addr}{xs:List (Key×V)}{o:HO}(h:H a=some (.dK xs)):TK H (upd H a o):=TK.upd λb z=>by rw[h]at z;cases z
theorem Px{H0 H:Hp}{a:Addr}{o:HO}(s:aU H0 H)(h:H0 a=none):aU H0 (upd H a o):=λb u q=>by rw[aB (aD q h)];exact s b u q
theorem Zpj{F:KB.Fd}{R:KB.Rw}{q l:List (Int×List Int)}{k:Nat}(b:KB.O3 F R q k l):l.length<=k:=by
 induction b with
 | start=>exact Nat.le_refl _
 | old _ _ _ ih=>omega
 | new _ _ _ _ ih=>rw[List.length_append];simp only[List.length_cons,List.length_nil];omega
theorem Zm5{F:KB.Fd}{R:KB.Rw}{q l:List (Int×List Int)}{k:Nat}(b:KB.O3 F R q k l):∀x∈q,x.2.length<=k+2:=by
 induction b with
 | start=>
  intro x hx;obtain⟨⟨row,n⟩,hm,h⟩:=List.mem_flatMap.mp hx;obtain⟨j,_,e,_⟩:=KB.Dp (q:=x.1) (v:=x.2) h;rw[e];simp
 | old _ _ _ ih=>intro x hx;have:=ih x hx;omega
 | new b hq _ _ ih=>
  intro x hx;rcases List.mem_append.mp hx with z | z
  ·have:=ih x z;omega
  ·obtain⟨j,_,e,_⟩:=KB.Dp (q:=x.1) (v:=x.2) z;have:=ih _ (List.mem_of_getElem? hq);rw[e,List.length_append];simp only[List.length_cons,List.length_nil];simp only at this;omega
theorem Zqj(F:KB.Fd):∀(R S:KB.Rw) (n:Nat),(KB.q0 F n R).length<=(KB.q0 F n (R++S)).length:=λR S n=>by
 unfold KB.q0;rw[List.zipIdx_append,List.flatMap_append,List.length_append];omega
theorem Zmx(F:KB.Fd)(R:KB.Rw)(i:Nat):(KB.q0 F 0 (R.take i)).length<=KB.total F R:=by
 have:=Zqj F (R.take i) (R.drop i) 0;rw[List.take_append_drop]at this;unfold KB.total;omega
section
variable {K:aC}{bh aY bR:Addr}{H:Hp}{Q:VK}{E:XK}{n:St->Hp->Prop}{bk ct:St->Hp->Prop}
theorem Zq{hp Y:Addr}{F:KB.Fd}{rs:List Addr}{R:KB.Rw}{v2 v3 v4 v5 v6 M I:Option V}(T:TxC K bh aY)(v:HV bh aY H hp F)(hr:cV K H Y (rs.map V.ref))(rw':Gu K H rs R)(P:Few F R)
  (q:∀l ts q N H',KB.O3 F R q q.length N->H l=none->aU H H'->H' l=some (.lst (ts.map V.ref))->GD H' ts N->Q (.ref l) H'):
  yQ K (Dd K bh aY) ⟨n,Q,bk,ct⟩ [some (.ref hp),some (.ref Y),v2,v3,v4,v5,v6,M,I] H:=by
 have hrl:=rw'.len;have f1:=P.r;unfold yQ;walk_at"e";refine⟨(by show 0<=sizeLine;decide),λA L=>?_⟩;walk_at"e";refine⟨Y,rfl,⟨_,(lJ L).seq hr⟩,Zuh (rs.map V.ref) (λi σ O=>i<=rs.length/\aU H O/\(∃ts,O A=some (.lst (ts.map V.ref))/\GD O ts (KB.q0 F 0 (R.take i)))/\∃x y,σ=[some (.ref hp),some (.ref Y),some (.ref A),x,y,v5,v6,M,I])
  ⟨Nat.zero_le _,lJ L,⟨[],aq,trivial⟩,_,_,rfl⟩ (λi σ O _ ⟨_,sm,_⟩=>sm.seq hr) ?_ ?_⟩
 ·rintro i x t σ O hx ⟨hi,sm,⟨ts,f,D⟩,y,z,rfl⟩ ht;rw[cA]at hx;obtain⟨r,er,rfl⟩:=Option.map_eq_some_iff.mp hx;obtain⟨row,eR,hrow⟩:=rw'.at er;have hil:i<rs.length:=(dX er).1;have B:=lJ (o:=.tup [.int i,.ref r]) ht;refine⟨t,_,rfl,je.of aq,rfl,.int i,_,rfl,?_⟩;walk_at"e";refine⟨.ref r,_,rfl,?_⟩;walk_at"e";refine⟨rfl,?_⟩;walk_at"e";refine⟨.inl ⟨rfl,_,cV.of (B _ _ f)⟩,?_⟩;walk_at"e";refine⟨(by show 1<=sizeLine;decide),λt2 ht2=>?_⟩;have C:=B.trans (lJ (o:=.tup [.int i]) ht2);walk_at"e";refine⟨hp,r,t2,F,row,[(i:Int)],rfl,v.same (sm.trans C),(sm.trans C).seq hrow,je.of aq,(λz=>nomatch z),(by show 1<=100000;decide),P.s _ (List.mem_of_getElem? eR),λl us H' hl s3 hl' qa'=>?_⟩;have s4:=C.trans s3;have hq':H' A=some (.lst (ts.map V.ref)):=s4 _ _ f;walk_at"e";have hlen:ts.length<=100000:=by
   rw[D.len];exact Nat.le_trans (Nat.le_trans (Zmx F R i) P.t) (by decide)
  have hlen2:us.length<=1000:=by
   rw[qa'.len];exact Nat.le_trans KB.Oe (P.s _ (List.mem_of_getElem? eR))
  refine⟨A,l,_,_,rfl,rfl,hq',hl',by rw[bx,bx];exact aX (by omega),?_⟩;walk_at"e";refine⟨hil,Px (sm.trans s4) L,⟨ts++us,by rw[aq,List.map_append],?_⟩,_,_,rfl⟩;rw[Zmy F R i row eR];exact((D.same s4).app qa').tk (Zk8 hq')
 ·rintro σ O ⟨hi,sm,⟨ts,f,D⟩,y,z,rfl⟩;rw[bx,hrl,List.take_length]at D;walk_at"e";intro d hd;walk_at"e";have ndq:d≠A:=λe=>by rw[e,f]at hd;cases hd
  refine⟨λm σ O=>∃q N k x y M I,m=KB.total F R - k/\σ=[some (.ref hp),some (.ref Y),some (.ref A),x,y,some (.ref d),some (.int (k:Nat)),M,I]/\RS K bh aY H O A d F R q N k,⟨_,KB.q0 F 0 R,[],0,_,_,_,_,rfl,rfl,?_⟩,?_⟩
  ·exact⟨sm.trans (lJ hd),L,.start,Nat.zero_le _,⟨ts,by rw[aB ndq.symm];exact f,D.same (lJ hd)⟩,⟨[],aq,trivial⟩,sm.free hd⟩
  ·rintro m σ Hy ⟨X,N,k,x,y,M,I,rfl,rfl,rs'⟩;obtain⟨E,nq,b,hk,⟨ts,f,D⟩,⟨h,j,Z⟩,nd⟩:=rs';have hlq:=D.len;walk_at"e";refine lK (cV.of f) ?_;walk_at"e";have hb:=b.bound;refine uw (λz=>?_) (λz=>?_)
   ·rw[bx]at z;have S:k<X.length:=by omega
    have hq:X[k]? =some X[k]:=bL S;obtain⟨t,a,et,ht,U⟩:=D.at hq;generalize hx:X[k]=pw at hq ht U;obtain⟨p,w⟩:=pw;refine⟨λσ' H'=>∃q2 W x y M I,σ'=[some (.ref hp),some (.ref Y),some (.ref A),x,y,some (.ref d),some (.int ((k:Int)+1)),M,I]/\RS K bh aY H H' A d F R q2 W (k+1),?_,?_⟩
    ·rintro σ' H' ⟨q2,W,x,y,M,I,rfl,r2⟩;exact⟨KB.total F R - (k+1),by omega,q2,W,k+1,x,y,M,I,rfl,by rw[show((k+1:Nat):Int)=(k:Int)+1 from by omega],r2⟩
    have hix:atI (ts.map V.ref) ((k:Nat):Int)=some (.ref t):=jl (by rw[cA,et];rfl);walk_at"e";refine jW (cV.of f) hix ?_;walk_at"e";refine⟨t,_,0,.int p,rfl,rfl,je.of ht,pq (by decide) rfl,?_⟩;walk_at"e";refine jW (cV.of f) hix ?_;walk_at"e";refine⟨t,_,1,.ref a,rfl,rfl,je.of ht,pq (by decide) rfl,?_⟩;walk_at"e";refine⟨d,h,_,rfl,.inl j,rfl,?_⟩;walk_at"e";have gd:=b.good.1 _ (List.mem_of_getElem? hq);refine Zrh (λy=>?_) (λy=>?_)
    ·have hno:m7 h (Sum.inl p)=none:=by
      cases e:m7 h (Sum.inl p)with
      | none=>rfl
      | some _=>rw[e]at y;simp at y
     have hnp:p∉N.map (·.1):=by
      have:=Z.val p;rw[hno]at this;simpa using this
     obtain⟨fl,J⟩:∃fl,KB.Vu F p=some fl:=Option.isSome_iff_exists.mp gd.there;walk_at"e";refine⟨d,_,rfl,Uc.k (k:=Sum.inl p) j ?_,?_⟩
     ·have h2:=Z.len;have h3:=Zpj b;have h4:=P.t;exact Nat.lt_of_le_of_lt (show h.length<=1000000 by omega) (show 1000000<sizeLine by decide)
     rw[Zir _ hno];have nd':A≠d:=qw f j (λz=>by cases z);have B:aU H (upd Hy d (.dK (h++[(Sum.inl p,.ref a)]))):=Px E nd;have k1:TK Hy (upd Hy d (.dK (h++[(Sum.inl p,.ref a)]))):=Zun j;have q1:upd Hy d (.dK (h++[(Sum.inl p,.ref a)])) A=some (.lst (ts.map V.ref)):=(aB nd').trans f;walk_at"e";refine⟨.inl ⟨rfl,_,cV.of q1⟩,?_⟩;walk_at"e";obtain⟨ca,room,used,born,cs,ho,hl,he⟩:=(v.same B).ex;have ho':=ho;obtain⟨⟨dx,o1⟩,o2⟩:=ho';refine aJ o1 T.cG T.bM bQ ?_;walk_at"e";rcases Zlj hl he p with ⟨e1,_⟩ | ⟨fl',p',fa,b',u,t',l,e1,_,e3,e4,c⟩
     ·rw[J]at e1;cases e1
     rw[J]at e1;cases e1;refine jW (cV.of o2) (pq e4 e3) ?_;obtain⟨⟨dc,c1⟩,c2⟩:=c;refine aJ c1 T.cT T.dY jr ?_;walk_at"e";have hw:=Zm5 b _ (List.mem_of_getElem? hq);have hgt:=P.t;refine⟨hp,fa,a,F,fl,w,rfl,v.same B,cV.of c2,je.of (k1 _ _ U),?_,?_,P.g p fl J,λl2 us H2 hl2 C hl2' qa2=>?_⟩
     ·obtain⟨r0,s0,fs0,_,e0,_⟩:=gd.ex;intro z;rw[show w=(p,w).2 from rfl,e0]at z;cases z
     ·simp only at hw;omega
     have hq2:H2 A=some (.lst (ts.map V.ref)):=C _ _ q1;have hd2:H2 d=some (.dK (h++[(Sum.inl p,.ref a)])):=C _ _ aq;have k2:=k1.trans (TK.same C);have k3:TK H2 (upd H2 A (.lst (ts.map V.ref++us.map V.ref))):=Zk8 hq2;have b2:=KB.O3.new b hq hnp J;have hb2:=b2.bound;rw[List.length_append,<- qa2.len,<- hlq]at hb2;walk_at"e";refine⟨A,l2,_,_,rfl,rfl,hq2,hl2',by rw[bx,bx];exact aX (by omega),?_⟩;walk_at"e";refine⟨_,_,_,_,_,_,rfl,⟨Px (B.trans C) nq,nq,b2,by rw[List.length_append];omega,⟨ts++us,by rw[aq,List.map_append],(((D.tk k2).app qa2).tk k3)⟩,⟨_,by rw[aB nd'.symm];exact hd2,((Z.tk k2).app ?_).tk k3⟩,nd⟩⟩;exact⟨⟨rfl,a,rfl,k2 _ _ U⟩,trivial⟩
    ·have hin:p∈N.map (·.1):=by
      have:=Z.val p;cases e:m7 h (Sum.inl p)with
      | none=>rw[e]at y;simp at y
      | some _=>rw[e]at this;simpa using this.symm
     walk_at"e";exact⟨_,_,_,_,_,_,rfl,⟨E,nq,.old b hq hin,by omega,⟨ts,f,D⟩,⟨h,j,Z⟩,nd⟩⟩
   ·rw[bx]at z;have S:k=X.length:=by omega
    subst S;walk_at"e";refine⟨d,h,rfl,.inl j,λvw hvw=>?_⟩;walk_at"e";have B:=lJ (o:=K9 vw d) hvw;refine Zoe aq (.inl (B _ _ j)) λl us H2 hl C hl2 pa=>?_;walk_at"e";exact q l us X N H2 b ((E.trans B).free hl) ((E.trans B).trans C) hl2 ((Z.tk (TK.same (B.trans C))).prs pa)
end
def fdOf(M:Wm):KB.Fd:=M.cells.map λo=>o.map (·.fl)
theorem Yz.hv{X:Cs}{H:Hp}{T:Tg}{s:Nat}{A:Wa}{M:Wm}(j:Yz X H T s A M):HV X.C X.H H A.hp (fdOf M):=by
 have hl:=j.jc.lc;refine⟨A.ca,M.room,M.used,M.born,A.cs.map pV,j.hpO,by unfold fdOf;rw[bx,bx];exact hl,λi x hx=>?_⟩;unfold fdOf at hx;rw[cA]at hx;obtain⟨o,a,rfl⟩:=Option.map_eq_some_iff.mp hx;cases o with
 | none=>
  show(A.cs.map pV)[i]? =some .non;rw[cA,j.jc.at0 a];rfl
 | some c=>
  obtain⟨p,hp,ce⟩:=j.jc.at a;obtain⟨_,_,o1,o2⟩:=ce;exact⟨p.1,p.2,c.birth,c.bulk,c.tone,c.load,by rw[cA,hp];rfl,⟨o1,o2⟩⟩
theorem Zdy{M:Wm}(x:Int):KB.Vu (fdOf M) x=(cellAt M x).map (·.fl):=by
 unfold KB.Vu fdOf cellAt
 by_cases h:0<=x
 ·rw[if_pos h,if_pos h,cA];cases M.cells[x.toNat]? with
  | none=>rfl
  | some o=>cases o<;>rfl
 ·rw[if_neg h,if_neg h];rfl
section
variable {K:aC}{X:Cs}{H:Hp}{Q:VK}{E:XK}{n:St->Hp->Prop}{bk ct:St->Hp->Prop}
theorem Zg5{hp a wt:Addr}{F:KB.Fd}{ps:List (Option Int)}{w:List Int}(q:HV X.C X.H H hp F/\cV K H a (ps.map oV)/\je K H wt (w.map V.int)/\w≠[]/\w.length<=100000/\ps.length<=1000/\∀l ts H',H l=none->aU H H'->H' l=some (.lst (ts.map V.ref))->GD H' ts (KB.onw F w 0 ps)->Q (.ref l) H'):
  Dl K (d7 X.H) ⟨n,Q,bk,ct⟩ [some (.ref hp),some (.ref a),some (.ref wt)] H:=by
 obtain⟨v,h1,h2,h3,h4,h5,q⟩:=q;exact Zcq v h1 h2 h3 h4 h5 (λe=>Zqd e h2) q
theorem Zce{hp b:Addr}{F:KB.Fd}{rs:List Addr}{R:KB.Rw}(T:qI K X)(q:HV X.C X.H H hp F/\cV K H b (rs.map V.ref)/\Gu K H rs R/\Few F R/\∀l ts q a H',KB.O3 F R q q.length a->H l=none->aU H H'->H' l=some (.lst (ts.map V.ref))->GD H' ts a->Q (.ref l) H'):
  yQ K (Dd K X.C X.H) ⟨n,Q,bk,ct⟩ [some (.ref hp),some (.ref b),none,none,none,none,none,none,none] H:=by
 obtain⟨v,h1,h2,h3,q⟩:=q;exact Zq T.c v h1 h2 h3 q
end
theorem toN{x:Int}(h:0<=x):∃k:Nat,x=k:=⟨x.toNat,by omega⟩
theorem UL(c:Nat):(⟨#[c]⟩:Str).length=1:=rfl
theorem Zt7(a b:Str):(a++b).length=a.length+b.length:=by
 show(a.cps++b.cps).size=_;rw[Array.size_append];rfl
theorem Zly{d e:Type}{P:d->e->Prop}:∀{xs:List d}{c:List e},xs.length=c.length->(∀(i:Nat) x y,xs[i]? =some x->c[i]? =some y->P x y)->Al P xs c
 | [],[],_,_=>.nil
 | [],_::_,h,_=>by simp at h
 | _::_,[],h,_=>by simp at h
 | x::xs,y::c,h,p=>.cons (p 0 x y rfl rfl) (Zly (by simpa using h) λi a b h1 h2=>p (i+1) a b (by simpa using h1) (by simpa using h2))
def kh(a:Int):List (Str×List (Option Int))->Nat->Wm->List Int×Wm
 | [],_,M=>([],M)
 | m::l,k,M=>if a / 2 ^ k % 2=1 then((aP M m.2).1++(kh a l (k+1) (aP M m.2).2).1,(kh a l (k+1) (aP M m.2).2).2)else kh a l (k+1) M
def lsE(x:Int):Nat->Nat->Int
 | _,0=>0
 | i,n+1=>if x / 2 ^ i % 2=0 then 2 ^ i else lsE x (i+1) n
def Ie(k:Nat)(lo:Int)(n:Nat):Int:=if k=0 then 0 else if k=1 then lsE lo 0 n else 2 ^ n - 1
theorem Qx(b:Int)(m:Str×List (Option Int)):∀(l:List (Str×List (Option Int))) (k:Nat) (M:Wm),kh b (l++[m]) k M=if b / 2 ^ (k+l.length) % 2=1 then((kh b l k M).1++(aP (kh b l k M).2 m.2).1,(aP (kh b l k M).2 m.2).2)else kh b l k M
 | [],k,M=>by
  show(if b / 2 ^ k % 2=1 then((aP M m.2).1++[],(aP M m.2).2)else([],M))=_;rw[List.append_nil];rfl
 | a::l,k,M=>by
  have e:k+(a::l).length=k+1+l.length:=by rw[List.length_cons];omega
  rw[e,List.cons_append];show(if b / 2 ^ k % 2=1 then((aP M a.2).1++(kh b (l++[m]) (k+1) (aP M a.2).2).1,(kh b (l++[m]) (k+1) (aP M a.2).2).2)else kh b (l++[m]) (k+1) M)=_;show _=if b / 2 ^ (k+1+l.length) % 2=1 then(((if b / 2 ^ k % 2=1 then((aP M a.2).1++(kh b l (k+1) (aP M a.2).2).1,(kh b l (k+1) (aP M a.2).2).2)else kh b l (k+1) M)).1++(aP (if b / 2 ^ k % 2=1 then((aP M a.2).1++(kh b l (k+1) (aP M a.2).2).1,(kh b l (k+1) (aP M a.2).2).2)else kh b l (k+1) M).2 m.2).1,(aP (if b / 2 ^ k % 2=1 then((aP M a.2).1++(kh b l (k+1) (aP M a.2).2).1,(kh b l (k+1) (aP M a.2).2).2)else kh b l (k+1) M).2 m.2).2)else(if b / 2 ^ k % 2=1 then((aP M a.2).1++(kh b l (k+1) (aP M a.2).2).1,(kh b l (k+1) (aP M a.2).2).2)else kh b l (k+1) M)
  by_cases h:b / 2 ^ k % 2=1
  ·simp only[if_pos h];rw[Qx b m l (k+1)]
   by_cases h2:b / 2 ^ (k+1+l.length) % 2=1
   ·simp only[if_pos h2,List.append_assoc]
   ·simp only[if_neg h2]
  ·simp only[if_neg h];rw[Qx b m l (k+1)]
theorem Ib:∀{l:List (Option Int)}{M:Wm},(aP M l).2.hands=M.hands
 | [],_=>rfl
 | x::l,M=>by
  show(aP (bY M x).2 l).2.hands=_;rw[Ib,Mv]
theorem Cu(a:Int)(B:Nat):∀(l:List (Str×List (Option Int))) (k:Nat) (M:Wm),(∀m∈l,m.2.length<=B)->(kh a l k M).2.sw.phase=M.sw.phase/\(kh a l k M).2.sw.grey.length<=M.sw.grey.length+l.length * B/\(kh a l k M).1.length<=l.length * B/\(kh a l k M).2.hands=M.hands
 | [],_,_,_=>by simp[kh]
 | m::l,k,M,h=>by
  have hm:=h m (by simp);have e:(m::l).length * B=l.length * B+B:=by rw[List.length_cons,Nat.succ_mul]
  unfold kh
  by_cases z:a / 2 ^ k % 2=1
  ·rw[if_pos z];obtain⟨b,g,f,c⟩:=Cu a B l (k+1) (aP M m.2).2 λx hx=>h x (by simp[hx]);obtain⟨d,j⟩:=vJ (l:=m.2) (M:=M);have i:=zP (l:=m.2) (M:=M);exact⟨b.trans d,by show(kh a l (k+1) (aP M m.2).2).2.sw.grey.length<=_;omega,by show((aP M m.2).1++_).length<=_;rw[List.length_append];omega,c.trans Ib⟩
  ·rw[if_neg z];obtain⟨b,g,f,c⟩:=Cu a B l (k+1) M λx hx=>h x (by simp[hx]);exact⟨b,by omega,by omega,c⟩
structure NtR(M M':Wm):Prop where
 rm:M'.room=M.room
 us:M'.used=M.used
 bn:M'.born=M.born
 hd:M'.hands=M.hands
 nm:M'.names=M.names
 ww:M'.w=M.w
 tl:M'.tells=M.tells
 sw:∃g,M'.sw={ M.sw with grey:=g }
 ce:M'.cells.map (λo=>o.map λc=>{ c with tone:=0 })=M.cells.map (λo=>o.map λc=>{ c with tone:=0 })
theorem NtR.refl(M:Wm):NtR M M:=⟨rfl,rfl,rfl,rfl,rfl,rfl,rfl,⟨_,rfl⟩,rfl⟩
theorem NtR.trans{M M1 M2:Wm}(a:NtR M M1)(b:NtR M1 M2):NtR M M2:=by
 obtain⟨j,u,n,o,t,k,l,⟨g,h⟩,c⟩:=a;obtain⟨m,q,p,s,e,r,d,⟨g',f⟩,i⟩:=b;exact⟨m.trans j,q.trans u,p.trans n,s.trans o,e.trans t,r.trans k,d.trans l,⟨g',by rw[f,h]⟩,i.trans c⟩
theorem Zjj(M:Wm)(x:Option Int):NtR M (bY M x).2:=by
 cases x with
 | none=>exact NtR.refl M
 | some i=>
  unfold bY;dsimp only;cases hc:cellAt M i with
  | none=>exact NtR.refl M
  | some c=>
   dsimp only;split
   ·obtain⟨a,h1⟩:=bT.mp hc;refine⟨rfl,rfl,rfl,rfl,rfl,rfl,rfl,⟨_,rfl⟩,?_⟩;show(M.cells.set i.toNat _).map _=_;rw[List.map_set];refine List.ext_getElem? λk=>?_
    by_cases z:i.toNat=k
    ·subst z;rw[List.getElem?_set_self (by rw[bx];exact(dX h1).1),cA,h1];rfl
    ·rw[List.getElem?_set_ne z]
   ·exact NtR.refl M
theorem U3:∀(l:List (Option Int)) (M:Wm),NtR M (aP M l).2
 | [],M=>NtR.refl M
 | x::l,M=>(Zjj M x).trans (U3 l _)
theorem Xu(a:Int):∀(l:List (Str×List (Option Int))) (k:Nat) (M:Wm),NtR M (kh a l k M).2
 | [],_,M=>NtR.refl M
 | m::l,k,M=>by
  unfold kh;split
  ·exact(U3 m.2 M).trans (Xu a l (k+1) _)
  ·exact Xu a l (k+1) M
theorem Zjp(a:Int)(l:List (Str×List (Option Int)))(k:Nat)(M:Wm):(kh a l k M).2.sw.turn=M.sw.turn/\(kh a l k M).2.sw.looked=M.sw.looked/\(kh a l k M).2.sw.looks=M.sw.looks:=by
 obtain⟨g,e⟩:=(Xu a l k M).sw;rw[e];exact⟨rfl,rfl,rfl⟩
theorem Zga{M:Wm}{x:Option Int}(h:(bY M x).1=none):(bY M x).2=M:=by
 cases x with
 | none=>rfl
 | some i=>
  unfold bY at h ⊢;dsimp only at h ⊢;cases hc:cellAt M i with
  | none=>rfl
  | some c=>
   rw[hc]at h;dsimp only at h ⊢;split
   ·rename_i z
    rw[if_pos z]at h;cases h
   ·rfl
theorem Qs:∀{l:List (Option Int)}{M:Wm},(aP M l).1=[]->(aP M l).2=M
 | [],_,_=>rfl
 | x::l,M,h=>by
  have h:ofN (bY M x).1++(aP (bY M x).2 l).1=[]:=h;obtain⟨h1,h2⟩:=List.append_eq_nil_iff.mp h;have h3:(bY M x).1=none:=by
   cases e:(bY M x).1 with
   | none=>rfl
   | some b=>rw[e]at h1;cases h1
  show(aP (bY M x).2 l).2=M;rw[Qs h2,Zga h3]
theorem Xv(a:Int):∀{l:List (Str×List (Option Int))}{k:Nat}{M:Wm},(kh a l k M).1=[]->(kh a l k M).2=M
 | [],_,_,_=>rfl
 | m::l,k,M,h=>by
  unfold kh at h ⊢;split
  ·rename_i z
   rw[if_pos z]at h;obtain⟨h1,h2⟩:=List.append_eq_nil_iff.mp h;show(kh a l (k+1) (aP M m.2).2).2=M;rw[Xv a h2,Qs h1]
  ·rename_i z
   rw[if_neg z]at h;exact Xv a h
theorem Z4:∀(l:List (Str×List (Option Int))) (k:Nat) (M:Wm),kh 0 l k M=([],M)
 | [],_,_=>rfl
 | m::l,k,M=>by
  unfold kh;rw[if_neg (by simp),Z4 l (k+1) M]
def kY(X:Cs):Sp:=λvs H Q E=>∃wo a,vs=[.ref wo,.int a]/\∃T s A M,WT H T/\s≠0/\WJ X H T s A M/\A.wo=wo/\(∀m∈M.hands,m.2.length<=100)/\(M.sw.phase="walk"->M.sw.grey.length<=5000)/\
 ∀H' T' l,jo s H H' T T'->WJ X H' T' s A (kh a M.hands 0 M).2->H' l=some (.lst ((kh a M.hands 0 M).1.map V.int))->H l=none->Q (.ref l) H'
def lX(k:Nat):Sp:=λvs H Q E=>∃a lo h,vs=[.ref a,.int lo,.int h]/\0<=h/\h<=30/\Q (.int (Ie k lo h.toNat)) H
section
variable {K:aC}{X:Cs}{H:Hp}{Q:VK}{E:XK}{n:St->Hp->Prop}{bk ct:St->Hp->Prop}
theorem Ly{a:Addr}(q:Q (.bl true) H):qZ ⟨n,Q,bk,ct⟩ [some (.ref a)] H:=by
 unfold qZ;walk_at"e";exact q
theorem Df{a:Addr}{lo h:Int}(q:0<=h/\h<=30/\Q (.int (Ie 0 lo h.toNat)) H):nA ⟨n,Q,bk,ct⟩ [some (.ref a),some (.int lo),some (.int h)] H:=by
 unfold nA;walk_at"e";exact q.2.2
theorem Jw{a:Addr}{lo h:Int}(q:0<=h/\h<=30/\Q (.int (Ie 1 lo h.toNat)) H):qi ⟨n,Q,bk,ct⟩ [some (.ref a),some (.int lo),some (.int h),none] H:=by
 obtain⟨g,h1,q⟩:=q;have q:Q (.int (lsE lo 0 h.toNat)) H:=q;unfold qi;walk_at"e";refine⟨h,rfl,by omega,by omega,?_⟩;refine forR (λi σ c=>∃v,σ=[some (.ref a),some (.int lo),some (.int h),v]/\c=H/\(i<=h.toNat->lsE lo 0 h.toNat=lsE lo i (h.toNat - i))) ⟨none,rfl,rfl,λ_=>rfl⟩ ?_ ?_
 ·rintro i σ c hi ⟨v,rfl,rfl,b⟩;have b:=b (by omega);have e:h.toNat - i=(h.toNat - (i+1))+1:=by omega
  rw[e]at b;have f:lsE lo i (h.toNat - (i+1)+1)=if lo / 2 ^ i % 2=0 then 2 ^ i else lsE lo (i+1) (h.toNat - (i+1)):=rfl
  rw[f]at b;have d:((0:Int)+(i:Int)).toNat=i:=by omega
  walk_at"e";rw[d,Zsn];refine uw (λz=>?_) (λz=>?_)
  ·rw[if_pos z]at b;walk_at"e";refine i_I (Zpy (by omega) (by omega)) ?_;rw[d,Int.one_mul,<- b];exact q
  ·rw[if_neg z]at b;walk_at"e";exact⟨_,rfl,rfl,λ_=>b⟩
 ·rintro σ c ⟨v,rfl,rfl,b⟩;have b:=b (Nat.le_refl _);rw[Nat.sub_self]at b;have b:lsE lo 0 h.toNat=0:=b;walk_at"e";rw[b]at q;exact q
theorem S5{wo:Addr}{a:Int}(v:qI K X)(q:∃T s A M,WT H T/\s≠0/\WJ X H T s A M/\A.wo=wo/\(∀m∈M.hands,m.2.length<=100)/\(M.sw.phase="walk"->M.sw.grey.length<=5000)/\
 ∀H' T' l,jo s H H' T T'->WJ X H' T' s A (kh a M.hands 0 M).2->H' l=some (.lst ((kh a M.hands 0 M).1.map V.int))->H l=none->Q (.ref l) H'):
  wN K (fJ X) ⟨n,Q,bk,ct⟩ [some (.ref wo),some (.int a),none,none,none] H:=by
 obtain⟨T,s,A,M,w,s0,j,rfl,hs,hg,q⟩:=q;have lh:=j.jd.lh;have l5:=j.jd.l5;unfold wN;walk_at"e";refine⟨aX (by simp),λl hl=>?_⟩;have e:jo s H (upd H l (.lst [])) T (jR T l (s+1,1)):=jo.fresh w hl;have h:WJ X (upd H l (.lst [])) (jR T l (s+1,1)) s A M:=j.fresh hl;have R:upd H l (.lst []) l=some (.lst []):=aq;have tl:jR T l (s+1,1) l=(s+1,1):=ji;generalize upd H l (.lst [])=H1 at e h R ⊢;generalize jR T l (s+1,1)=T1 at e h tl;obtain⟨dw,ow⟩:=h.jb.ow;walk_at"e";refine aJ ow v.cW v.nWd gZ ?_;walk_at"e";refine⟨A.hl,rfl,⟨_,cV.of h.jb.on⟩,Zuh (A.hs.map λp=>V.ref p.1) (λi σ f=>∃T' I P,σ=[some (.ref A.wo),some (.int a),some (.ref l),I,P]/\jo s H f T T'/\T' l=(s+1,1)/\WJ X f T' s A (kh a (M.hands.take i) 0 M).2/\f l=some (.lst ((kh a (M.hands.take i) 0 M).1.map V.int))) ⟨T1,_,_,rfl,e,tl,h,R⟩ (λ_ _ _ _ ⟨_,_,_,_,_,_,z,_⟩=>cV.of z.jb.on) ?_ ?_⟩
 ·rintro i x t σ f hx ⟨D,I,P,rfl,b,d,C,u⟩ ht;rw[cA]at hx;obtain⟨p,hp,rfl⟩:=Option.map_eq_some_iff.mp hx;have hil:i<A.hs.length:=(dX hp).1;obtain⟨m,hm⟩:∃m,M.hands[i]? =some m:=⟨_,bL (by omega)⟩;have N:M.hands.take (i+1)=M.hands.take i++[m]:=by rw[List.take_add_one,hm];rfl
  have r:(M.hands.take i).length=i:=by rw[List.length_take];omega
  obtain⟨n1,n2,n3,n4⟩:=Cu a 100 (M.hands.take i) 0 M λx hx=>hs x (List.mem_of_mem_take hx);have sn:=Qx a m (M.hands.take i) 0 M;rw[<- N,Nat.zero_add,r]at sn;generalize zz:upd f t _=H3;obtain⟨E,J⟩:=nwO ht zz;have L:=C.same E;have g:=b.trans (jo.same (s:=s) b.wt E);have B:=E _ _ u;refine⟨t,_,rfl,je.of J,rfl,.int i,_,rfl,?_⟩;walk_at"e";refine⟨.ref p.1,_,rfl,?_⟩;walk_at"e";refine⟨rfl,?_⟩;walk_at"e";rw[Zsn,Int.toNat_natCast];refine uw (λz=>?_) (λz=>?_)
  ·rw[if_pos z]at sn;walk_at"e";refine⟨.inl ⟨rfl,_,cV.of B⟩,?_⟩;have k:(kh a (M.hands.take i) 0 M).2.hands[i]? =some m:=by rw[n4];exact hm
   have hd:=L.jd.hd i p m hp k;obtain⟨dx,o1⟩:=hd.o1;have F:=hs m (List.mem_of_getElem? hm);have hB:(M.hands.take i).length * 100<=3000:=by rw[r];omega
   walk_at"e";refine aJ o1 v.cD v.nDs qF ?_;walk_at"e";refine⟨_,_,rfl,m.2,D,s,A,_,g.wt,s0,L,rfl,.inr (.inl ⟨i,p,m,hp,k,rfl,rfl⟩),F,λy=>?_,λH4 S Z c U W Y=>?_⟩
   ·have:=hg (n1.symm.trans y);omega
   have O:H4 l=some (.lst ((kh a (M.hands.take i) 0 M).1.map V.int)):=c.kp _ _ B (by rw[d];show s+1≠s;omega);have nl:=zP (l:=m.2) (M:=(kh a (M.hands.take i) 0 M).2);walk_at"e";refine⟨l,Z,_,_,rfl,rfl,O,W,by rw[bx,bx];exact aX (by omega),?_⟩;walk_at"e";have o:S l=(s+1,1):=(c.tg _ _ B).trans d;refine⟨S,_,_,rfl,jo.new (g.trans c) hl O,o,?_,?_⟩
   ·rw[sn];exact U.other (s':=s+1) (jo.upd c.wt O (by rw[o])) (by omega) (by omega)
   ·rw[sn,aq,List.map_append]
  ·rw[if_neg z]at sn;walk_at"e";exact⟨D,_,_,rfl,g,d,by rw[sn];exact L,by rw[sn];exact B⟩
 ·rintro σ f ⟨D,I,P,rfl,b,d,C,u⟩;walk_at"e";rw[bx,lh,List.take_length]at C u;exact q f D l b C u hl
end
structure Gq(M:Wm):Prop where
 cl:M.cells.length<=900
 hl:∀m∈M.hands,m.2.length<=100
 fl:∀c,some c∈M.cells->c.fl.length<=50
 nl:M.names.length<=900
 gl:M.sw.phase="walk"->M.sw.grey.length<=900
 gc:M.sw.phase="walk"->∀x∈M.sw.grey,∃c,cellAt M x=some c
 ph:M.sw.phase="rest"\/M.sw.phase="walk"\/M.sw.phase="give"\/M.sw.phase="lost"
 a0:0<=M.sw.at'
def Zm1(H:Hp)(T:Tg)(M:Wm)(b:Int)(w:List Int):Prop:=∃a c,M.sw.loss=.ref a/\T a=(0,0)/\H a=some (.tup [.str "lost",.int b,.ref c])/\T c=(0,0)/\H c=some (.lst (w.map V.int))
def vB(M:Wm)(i:Nat):Option Ce:=((M.cells[i]?).join).bind λc=>if c.tone=M.sw.sense then none else some c
def tM(M:Wm):List Int:=(List.range M.cells.length).filterMap λi=>(vB M i).map λ_=>(i:Int)
def tO(M:Wm):List Int:=(List.range M.cells.length).filterMap λi=>(vB M i).map (·.birth)
def jg(M:Wm):Wm:={ M with sw:={ M.sw with stop:=M.cells.length,at':=0 } }
def dj(M:Wm):Int:=Ie M.w.toNat M.sw.looked M.hands.length
def uT(M:Wm):Prop:=dj M=0\/(M.w=2/\(kh (dj M) M.hands 0 M).1=[])
inductive tW(lb:Int)(lw:List Int)(M:Wm):Ev->Wm->Prop
 | begin:M.sw.phase="rest"->tW lb lw M ⟨"begin",some (M.sw.turn+1),(kh (jm M.w M.hands.length) M.hands 0 (rN M)).1⟩ (kh (jm M.w M.hands.length) M.hands 0 (rN M)).2
 | walk (x:Int) (g:List Int) (c:Ce):M.sw.phase="walk"->M.sw.grey=x::g->cellAt M x=some c->tW lb lw M ⟨"walk",some c.birth,(aP { M with sw:={ M.sw with grey:=g,walks:=M.sw.walks+1 } } c.fl).1⟩ (aP { M with sw:={ M.sw with grey:=g,walks:=M.sw.walks+1 } } c.fl).2
 | look (N:Wm):M.sw.phase="walk"->M.sw.grey=[]->¬ uT M->N=(kh (dj M) M.hands 0 M).2->tW lb lw M ⟨"look",some (dj M),(kh (dj M) M.hands 0 M).1⟩ { N with sw:={ N.sw with looks:=N.sw.looks+1,looked:=if M.w=2 then N.sw.looked else Builtin.bitOr N.sw.looked (dj M) } }
 | cut (q qs:List (Int×List Int)):M.sw.phase="walk"->M.sw.grey=[]->uT M->KB.O3 (fdOf M) (jj M) q q.length qs->(∀x∈qs,∀c,cellAt M x.1=some c->c.tone=M.sw.sense)->tW lb lw M ⟨"cut",some (tO M).length,tO M⟩ { jg M with sw:={ (jg M).sw with phase:="give" } }
 | lost (q qs:List (Int×List Int)) (i:Nat) (x:Int×List Int) (c:Ce) (v:V):M.sw.phase="walk"->M.sw.grey=[]->uT M->KB.O3 (fdOf M) (jj M) q q.length qs->qs[i]? =some x->(∀(k:Nat) y d,k<i->qs[k]? =some y->cellAt M y.1=some d->d.tone=M.sw.sense)->cellAt M x.1=some c->c.tone≠M.sw.sense->tW lb lw M ⟨"lost",some c.birth,x.2⟩ { jg M with sw:={ (jg M).sw with phase:="lost",loss:=v } }
 | pass:M.sw.phase="give"->M.sw.at'<M.sw.stop->(∀c,cellAt M M.sw.at'=some c->c.tone=M.sw.sense)->tW lb lw M ⟨"pass",some M.sw.at',[]⟩ { M with sw:={ M.sw with at':=M.sw.at'+1,passes:=M.sw.passes+1 } }
 | back (c:Ce):M.sw.phase="give"->M.sw.at'<M.sw.stop->cellAt M M.sw.at'=some c->c.tone≠M.sw.sense->tW lb lw M ⟨"back",some c.birth,[M.sw.at']⟩ { M with used:=M.used - (1+c.fl.length+c.bulk),cells:=M.cells.set M.sw.at'.toNat none,sw:={ M.sw with at':=M.sw.at'+1,passes:=M.sw.passes+1 } }
 | fin:M.sw.phase="give"->¬ M.sw.at'<M.sw.stop->tW lb lw M ⟨"end",some M.sw.turn,[M.sw.walks,M.sw.looks,M.sw.passes]⟩ { M with sw:={ M.sw with phase:="rest" } }
 | again:M.sw.phase="lost"->tW lb lw M ⟨"lost",some lb,lw⟩ M
def Dc(X:Cs)(P:Wm->Prop)(wo:Addr)(H:Hp)(Q:VK):Prop:=∃T s A M lb lw,WT H T/\s≠0/\WJ X H T s A M/\A.wo=wo/\Gq M/\P M/\(M.sw.phase="lost"->Zm1 H T M lb lw)/\
 ∀e c,tW lb lw M e c->∀H' T' d a,jo s H H' T T'->WJ X H' T' s d c->d.wo=wo/\d.sw=A.sw->EvN H H' a e->(c.sw.phase="lost"->∃b,e.thing=some b/\Zm1 H' T' c b e.notes)->Q (.ref a) H'
def bW(X:Cs)(P:Wm->Prop):Sp:=λvs H Q E=>∃wo,vs=[.ref wo]/\Dc X P wo H Q
def Zz(M:Wm):Prop:=M.sw.phase="walk"/\M.sw.grey≠[]
def ZD(M:Wm):Prop:=M.sw.phase="walk"/\M.sw.grey=[]
def Zco(M:Wm):Prop:=M.sw.phase="walk"/\M.sw.grey=[]/\uT M
def ZC(M:Wm):Prop:=M.sw.phase="give"/\M.sw.at'<M.sw.stop
def pEnd(M:Wm):Prop:=M.sw.phase="give"/\¬ M.sw.at'<M.sw.stop
def Od(z:Str)(M:Wm):Prop:=M.sw.phase=z
def Zja(_:Wm):Prop:=True
def mF(K:aC):Sp:=λvs H Q E=>∃d,vs=[.ref d]/\∃z b l,∃ns:List Int,H d=some (.tup [.str z,.int b,.ref l])/\H l=some (.lst (ns.map V.int))/\∀a c H',aU H H'->H c=none->H' a=some (.tup [.str z,.int b,.ref c])->H' c=some (.lst (ns.map V.int))->Q (.ref a) H'
def z7(X:Cs):Sp:=λvs H Q E=>∃wo,vs=[.ref wo]/\∃T s A M,WJ X H T s A M/\A.wo=wo/\M.cells.length<=900/\∀l H',aU H H'->H l=none->H' l=some (.lst ((tM M).map V.int))->Q (.ref l) H'
section
variable {K:aC}{X:Cs}{H:Hp}{Q:VK}{E:XK}{n:St->Hp->Prop}{bk ct:St->Hp->Prop}
theorem RD{e:Addr}(q:∃z b l,∃ns:List Int,H e=some (.tup [.str z,.int b,.ref l])/\H l=some (.lst (ns.map V.int))/\∀a c H',aU H H'->H c=none->H' a=some (.tup [.str z,.int b,.ref c])->H' c=some (.lst (ns.map V.int))->Q (.ref a) H'):
  wL K ⟨n,Q,bk,ct⟩ [some (.ref e)] H:=by
 obtain⟨z,b,l,ns,o1,o2,q⟩:=q;unfold wL;walk_at"e";refine⟨e,_,0,_,rfl,rfl,je.of o1,rfl,?_⟩;walk_at"e";refine⟨e,_,1,_,rfl,rfl,je.of o1,rfl,?_⟩;walk_at"e";refine⟨e,_,2,_,rfl,rfl,je.of o1,rfl,?_⟩;walk_at"e";refine XH (cV.of o2) λc d=>?_;generalize zz:upd H c _=H1;obtain⟨g,h⟩:=nwO d zz;walk_at"e";refine⟨aX (by simp),λa i=>?_⟩;have f:=aL i (.tup [.str z,.int b,.ref c]);exact q a c _ (g.trans f) d aq (f _ _ h)
theorem Q6{a b:Type}{f g:a->Option b}:∀{l:List a},(∀x∈l,f x=g x)->l.filterMap f=l.filterMap g
 | [],_=>rfl
 | x::l,h=>by
  rw[List.filterMap_cons,List.filterMap_cons,h x (by simp),Q6 λy hy=>h y (by simp[hy])]
theorem Zr{a b:Type}(f:a->Option b):∀(xs:List a),(List.range xs.length).filterMap (λi=>(xs[i]?).bind f)=xs.filterMap f
 | []=>rfl
 | x::xs=>by
  rw[List.length_cons,List.range_succ_eq_map,List.filterMap_cons];simp only[List.getElem?_cons_zero,Option.bind_some,List.filterMap_map,List.filterMap_cons];have e:((λi=>((x::xs)[i]?).bind f) ∘ Nat.succ)=λi=>(xs[i]?).bind f:=by
   funext i
   simp
  rw[e,Zr f xs]
theorem Zg2{A:Wa}{M:Wm}{T:Tg}{s:Nat}(j:WJ X H T s A M)(f:V->Option V)(d:∀(i:Nat) (c:Ce),M.cells[i]? =some (some c)->f (.int i)=(vB M i).map λ_=>V.int i):((Zw (A.cs.map pV)).map V.int).filterMap f=(tM M).map V.int:=by
 unfold Zw tM;rw[List.filterMap_map,List.filterMap_map,List.filterMap_filter,List.map_filterMap,bx,j.jc.lc];refine Q6 λi hi=>?_;have a:=List.mem_range.mp hi;have e:(A.cs.map pV)[i]? =some V.non↔M.cells[i]? =some none:=by
  constructor
  ·intro z;cases hc:M.cells[i]with
   | none=>rw[bL a,hc]
   | some c=>
    obtain⟨p,hp,_⟩:=j.jc.at (i:=i) (c:=c) (by rw[bL a,hc]);rw[cA,hp]at z;cases z
  ·intro z;rw[cA,j.jc.at0 z];rfl
 by_cases z:M.cells[i]? =some none
 ·rw[if_neg (by simp[e.mpr z])];unfold vB;rw[z];rfl
 ·have b:¬ (A.cs.map pV)[i]? =some V.non:=λy=>z (e.mp y);rw[if_pos (by simp only[b,decide_false,Bool.not_false])];cases hc:M.cells[i]with
  | none=>exact absurd (by rw[bL a,hc]) z
  | some c=>
   show f (.int (i:Int))=_;rw[d i c (by rw[bL a,hc]),Option.map_map];rfl
theorem Za9{wo:Addr}(e:qI K X)(q:∃T s A M,WJ X H T s A M/\A.wo=wo/\M.cells.length<=900/\∀l H',aU H H'->H l=none->H' l=some (.lst ((tM M).map V.int))->Q (.ref l) H'):
  By K X.H (mG X.H) (cL X) ⟨n,Q,bk,ct⟩ [some (.ref wo),none] H:=by
 obtain⟨T,s,A,M,j,rfl,hc,q⟩:=q;obtain⟨I,ow⟩:=j.jb.ow;obtain⟨E,oh⟩:=j.jh.oh;unfold By;walk_at"e";refine aJ ow e.cW e.KJ bA ?_;walk_at"e";refine Em ?_;walk_at"e";refine⟨A.hp,E,_,rfl,oh,CV,?_⟩;walk_at"e";refine⟨_,rfl,A.ca,M.room,M.used,M.born,_,j.hpO,by rw[bx,j.jc.lc];omega,λlt t=>?_⟩;generalize zz:upd H lt _=H1;obtain⟨g,w⟩:=nwO t zz;have d:=j.same g;have J:(Zw (A.cs.map pV)).length<=900:=by
  unfold Zw;rw[bx];refine Nat.le_trans (List.length_filter_le _ _) ?_;rw[List.length_range,bx,j.jc.lc];exact hc
 refine⟨lt,rfl,⟨_,cV.of w⟩,?_⟩
 let f:V->Option V:=λv=>match v with
  | .int p=>(vB M p.toNat).map λ_=>V.int p
  | _=>none
 refine Zf1 (cV.of w) (λi=>(((Zw (A.cs.map pV)).map V.int)[i]?).bind f) (by rw[bx];omega) (λi x hi=>?_) ?_
 ·rw[cA]at hi;obtain⟨p,hp,rfl⟩:=Option.map_eq_some_iff.mp hi;have hm:=List.mem_of_getElem? hp;unfold Zw at hm;obtain⟨k,hk,rfl⟩:=List.mem_map.mp hm;obtain⟨o,m⟩:=List.mem_filter.mp hk;have a:k<M.cells.length:=by
   have:=List.mem_range.mp o;rw[bx,j.jc.lc]at this;exact this
  obtain⟨c,b⟩:∃c,M.cells[k]? =some (some c):=by
   cases h3:M.cells[k]with
   | none=>
    exfalso
    have:(A.cs.map pV)[k]? =some V.non:=by rw[cA,j.jc.at0 (i:=k) (by rw[bL a,h3])];rfl
    simp[this]at m
   | some c=>exact⟨c,by rw[bL a,h3]⟩
  obtain⟨u,r,ce⟩:=d.jc.at b;have B:(((Zw (A.cs.map pV)).map V.int)[i]?).bind f=(vB M k).map λ_=>V.int (k:Int):=by
   rw[cA,hp];show(vB M (Int.toNat k)).map _=_;rw[Int.toNat_natCast]
  have D:(vB M k)=if c.tone=M.sw.sense then none else some c:=by unfold vB;rw[b];rfl
  obtain⟨F,h⟩:=d.jh.oh;refine⟨λq hq=>?_,λy q hy hq=>?_⟩
  ·rw[B,D]at hq;walk_at"c";walk_at"e";refine aJ h e.c.cG e.c.bM bQ ?_;walk_at"e";refine jW (cV.of d.jh.oc) (jl (v:=.ref u.1) (by rw[cA,r];rfl)) ?_;walk_at"e";refine⟨_,_,rfl,T,s,A,M,_,u,c,d.w0,rfl,ce,rfl,?_⟩;walk_at"e"
   by_cases z:c.tone=M.sw.sense
   ·rw[if_pos z]at hq;rw[decide_eq_true z];exact hq
   ·rw[if_neg z]at hq;rw[decide_eq_false z];exact hq
  ·rw[B]at hy;obtain⟨_,_,rfl⟩:=Option.map_eq_some_iff.mp hy;walk_at"c";walk_at"e";exact hq
 ·intro p C;rw[Zr f,Zg2 j f (λi c hc=>by show(vB M (Int.toNat i)).map _=_;rw[Int.toNat_natCast])];exact q p _ (g.trans (aL C _)) (g.free C) aq
theorem Nq{wo:Addr}(c:qI K X)(q:Dc X (Od "rest") wo H Q):tL K (O2 X) (kY X) ⟨n,Q,bk,ct⟩ [some (.ref wo),none] H:=by
 obtain⟨T,s,A,M,lb,lw,w,t,j,rfl,ok,ph,lo,q⟩:=q;unfold tL;walk_at"e";refine⟨_,rfl,T,s,A,M,w,t,j,rfl,λE x m d k b=>?_⟩;obtain⟨D,ow⟩:=k.jb.ow;obtain⟨ds,os⟩:=k.js.os;rw[b.1]at ow;walk_at"e";refine aJ ow c.cW c.Qz aZ ?_;walk_at"e";refine aJ os c.cS c.n4 lH ?_;walk_at"e";refine⟨_,_,rfl,x,s,m,_,d.wt,t,k,b.1,ok.hl,λ_=>Nat.zero_le _,λu v l f g h r=>?_⟩;have g:WJ X u v s m (kh (jm M.w M.hands.length) M.hands 0 (rN M)).2:=g;have h:u l=some (.lst ((kh (jm M.w M.hands.length) M.hands 0 (rN M)).1.map V.int)):=h;obtain⟨C,e⟩:=g.jb.ow;obtain⟨y,p⟩:=g.js.os;rw[b.1]at e;have i:=Zjp (jm M.w M.hands.length) M.hands 0 (rN M);walk_at"e";refine aJ e c.cW c.Qz aZ ?_;walk_at"e";refine aJ p c.cS c.n5 ux ?_;walk_at"e";refine⟨aX (by simp),λa B=>?_⟩;rw[i.1];have o:=aL B (.tup [.str "begin",.int (M.sw.turn+1),.ref l]);refine q _ _ (.begin ph) _ v m a (d.trans (f.trans (jo.same f.wt o))) (g.same o) b ⟨l,jo.free d r,aq,o _ _ h⟩ λz=>?_;have:=(Cu (jm M.w M.hands.length) 100 M.hands 0 (rN M) ok.hl).1;rw[this]at z;exact absurd z (show ¬ ("walk":Str)="lost" by decide)
end
def uo(X:Cs):Sp:=λvs H Q E=>∃wo,vs=[.ref wo]/\∃T s A M,WT H T/\s≠0/\WJ X H T s A M/\A.wo=wo/\Gq M/\
 (∀q b H',KB.O3 (fdOf M) (jj M) q q.length b->(∀x∈b,∀c,cellAt M x.1=some c->c.tone=M.sw.sense)->aU H H'->Q .non H')/\
 (∀q b (i:Nat) x c a e H',KB.O3 (fdOf M) (jj M) q q.length b->b[i]? =some x->(∀(k:Nat) y d,k<i->b[k]? =some y->cellAt M y.1=some d->d.tone=M.sw.sense)->cellAt M x.1=some c->c.tone≠M.sw.sense->aU H H'->H a=none->H e=none->H' a=some (.tup [.str "lost",.int c.birth,.ref e])->H' e=some (.lst (x.2.map V.int))->Q (.ref a) H')
section
variable {K:aC}{X:Cs}{H:Hp}{Q:VK}{E:XK}{n:St->Hp->Prop}{bk ct:St->Hp->Prop}
theorem Zia{a:Type}(f:a->Nat)(B:Nat):∀(xs:List a),(∀x∈xs,f x<=B)->(xs.map f).sum<=xs.length * B
 | [],_=>by simp
 | x::xs,h=>by
  have h1:=h x (by simp);have h2:=Zia f B xs λy hy=>h y (by simp[hy]);rw[List.map_cons,List.sum_cons,List.length_cons,Nat.succ_mul];omega
theorem Zpw{a b:Type}(f:a->List b)(B:Nat):∀(xs:List a),(∀x∈xs,(f x).length<=B)->(xs.flatMap f).length<=xs.length * B
 | [],_=>by simp
 | x::xs,h=>by
  have h1:=h x (by simp);have h2:=Zpw f B xs λy hy=>h y (by simp[hy]);rw[List.flatMap_cons,List.length_append,List.length_cons,Nat.succ_mul];omega
theorem Zsb{M:Wm}{T:Tg}{s:Nat}{A:Wa}(j:WJ X H T s A M)(ok:Gq M):Few (fdOf M) (jj M):=by
 have l5:=j.jd.l5;have lh:=j.jd.lh;have hl:(heldOf M).length=M.hands.length:=by unfold heldOf;rw[bx]
 have hr:(jj M).length<=31:=by unfold jj;rw[List.length_append,hl,<- lh];simp;omega
 have a:∀x∈jj M,x.length<=900:=λx hx=>by
  unfold jj at hx;rcases List.mem_append.mp hx with hx | hx
  ·obtain⟨m,hm,rfl⟩:=List.mem_map.mp hx;exact Nat.le_trans (ok.hl m hm) (by decide)
  ·rw[List.mem_singleton.mp hx];unfold uD;rw[bx];exact ok.nl
 have f:(fdOf M).length=M.cells.length:=by unfold fdOf;rw[bx]
 have b:=ok.cl;have d:∀(i:Nat) x,(fdOf M)[i]? =some x->KB.wgt x<=50:=λi x hx=>by
  unfold fdOf at hx;rw[cA]at hx;obtain⟨o,e,rfl⟩:=Option.map_eq_some_iff.mp hx;cases o with
  | none=>exact Nat.zero_le _
  | some c=>exact ok.fl c (List.mem_of_getElem? e)
 refine⟨by omega,λp fl hp=>?_,by omega,λx hx=>by have:=a x hx;omega,?_⟩
 ·rw[Zdy]at hp;obtain⟨c,hc,rfl⟩:=Option.map_eq_some_iff.mp hp;have:=ok.fl c (nJ hc);omega
 ·unfold KB.total;have h1:(KB.q0 (fdOf M) 0 (jj M)).length<=31 * 900:=by
   unfold KB.q0;refine Nat.le_trans (Zpw _ 900 _ λx hx=>?_) (by rw[List.length_zipIdx];exact Nat.mul_le_mul_right _ hr);refine Nat.le_trans KB.Oe (a x.1 ?_);obtain⟨_,h2⟩:=List.mem_zipIdx_iff_le_and_getElem?_sub.mp hx;exact List.mem_of_getElem? h2
  have h2:KB.Zbc (fdOf M) []<=900 * 50:=by
   unfold KB.Zbc;refine Nat.le_trans (Zia _ 50 _ λx hx=>?_) (by rw[List.length_zipIdx,f];exact Nat.mul_le_mul_right _ b);obtain⟨_,h2⟩:=List.mem_zipIdx_iff_le_and_getElem?_sub.mp hx;simp only[List.map_nil,List.not_mem_nil,↓reduceIte];exact d _ _ h2
  omega
theorem Zeo{M:Wm}:∀{a:List (List (Option Int))}{ls:List Addr},ls.length=a.length->(∀(j:Nat) r x,ls[j]? =some r->a[j]? =some x->H r=some (.lst (x.map oV)))->Gu K H ls a
 | [],[],_,_=>trivial
 | [],_::_,h,_=>by simp at h
 | _::_,[],h,_=>by simp at h
 | x::a,r::ls,h,g=>⟨cV.of (g 0 r x rfl rfl),Zeo (M:=M) (by simpa using h) λj r x b c=>g (j+1) r x (by simpa using b) (by simpa using c)⟩
theorem Tj{wo:Addr}(m:qI K X)(q:∃T s A M,WT H T/\s≠0/\WJ X H T s A M/\A.wo=wo/\Gq M/\
 (∀q b H',KB.O3 (fdOf M) (jj M) q q.length b->(∀x∈b,∀c,cellAt M x.1=some c->c.tone=M.sw.sense)->aU H H'->Q .non H')/\
 (∀q b (i:Nat) x c a o H',KB.O3 (fdOf M) (jj M) q q.length b->b[i]? =some x->(∀(k:Nat) y d,k<i->b[k]? =some y->cellAt M y.1=some d->d.tone=M.sw.sense)->cellAt M x.1=some c->c.tone≠M.sw.sense->aU H H'->H a=none->H o=none->H' a=some (.tup [.str "lost",.int c.birth,.ref o])->H' o=some (.lst (x.2.map V.int))->Q (.ref a) H')):
  wQ K (cL X) (Ds K X.C X.H) (Ot X) ⟨n,Q,bk,ct⟩ [some (.ref wo),none,none,none] H:=by
 obtain⟨T,s,A,M,w,s0,j,rfl,ok,q1,q2⟩:=q;obtain⟨dw,ow⟩:=j.jb.ow;have l5:=j.jd.l5;have lh:=j.jd.lh;have nl:=ok.nl;unfold wQ;walk_at"e";refine aJ ow m.cW m.KJ bA ?_;walk_at"e";refine⟨_,rfl,T,s,A,M,s0,j,rfl,by omega,by omega,λra rs H1 s1 nra Z N nrs nrl g1=>?_⟩;walk_at"e";refine⟨A.hp,ra,fdOf M,rs,jj M,rfl,(j.same s1).w0.hv,cV.of Z,Zeo (M:=M) N g1,Zsb j ok,λl ts q b H2 S nl2 s2 ol qa=>?_⟩;have g:=s1.trans s2;have D:=j.same g;have good:=S.good.2;have F:=qa.len;obtain⟨dw2,I⟩:=D.jb.ow;obtain⟨dh2,J⟩:=D.jh.oh;refine⟨l,rfl,⟨_,cV.of ol⟩,forL (ts.map V.ref) (λi σ E=>∃W R L,σ=[some (.ref A.wo),W,R,L]/\E=H2/\∀(k:Nat) y d,k<i->b[k]? =some y->cellAt M y.1=some d->d.tone=M.sw.sense) ⟨_,_,_,rfl,rfl,λk y d hk=>absurd hk (Nat.not_lt_zero _)⟩ (λ_ _ _ _ ⟨_,_,_,_,z,_⟩=>by rw[z];exact cV.of ol) ?_ ?_⟩
 ·rintro i x σ E hi ⟨W,R,L,rfl,rfl,f⟩;rw[cA]at hi;obtain⟨t,ht,rfl⟩:=Option.map_eq_some_iff.mp hi;have u:i<b.length:=by rw[<- F];exact(dX ht).1
  obtain⟨t',wa,et,ot,r⟩:=qa.at (bL u);rw[ht]at et;cases et;have hx:b[i]? =some b[i]:=bL u;generalize b[i]=x at hx ot r;obtain⟨fl,B⟩:=Option.isSome_iff_exists.mp (good x (List.mem_of_getElem? hx)).there;rw[Zdy]at B;obtain⟨c,hc,_⟩:=Option.map_eq_some_iff.mp B;obtain⟨x0,Y⟩:=bT.mp hc;obtain⟨pp,U,ce⟩:=D.jc.at Y;obtain⟨_,_,⟨dc,oc⟩,_⟩:=id ce;refine⟨t,_,rfl,je.of ot,rfl,?_⟩;refine⟨_,_,rfl,?_⟩;walk_at"e";refine⟨_,_,rfl,?_⟩;walk_at"e";refine⟨rfl,?_⟩;walk_at"e";refine aJ I m.cW m.KJ bA ?_;refine aJ J m.c.cG m.c.bM bQ ?_;walk_at"e";refine jW (cV.of D.jh.oc) (pq (v:=.ref pp.1) x0 (by rw[cA,U];rfl)) ?_;walk_at"e";refine⟨_,_,rfl,T,s,A,M,_,pp,c,D.w0,rfl,ce,rfl,?_⟩;walk_at"e";refine Zdg (λz=>?_) (λz=>?_)
  ·walk_at"e";refine aJ oc m.c.cT m.c.dR gK ?_;walk_at"e";refine Zod (je.of r) λo p=>?_;generalize zz:upd E o _=H3;obtain⟨s3,g3⟩:=nwO p zz;walk_at"e";refine⟨aX (by simp),λa na=>?_⟩;have s4:=aL na (.tup [.str "lost",.int c.birth,.ref o]);exact q2 q b i x c a o _ S hx f hc z (g.trans (s3.trans s4)) (g.free (s3.free na)) (g.free p) aq (s4 _ _ g3)
  ·walk_at"e";refine⟨_,_,_,rfl,rfl,λk y d hk O P=>?_⟩
   by_cases h:k<i
   ·exact f k y d h O P
   ·have:k=i:=by omega
    subst this;rw[hx]at O;cases O;rw[hc]at P;cases P;exact z
 ·rintro σ E ⟨W,R,L,rfl,rfl,f⟩;rw[bx,F]at f;walk_at"e";refine q1 q b E S (λx hx c hc=>?_) g;obtain⟨k,hk,e⟩:=List.getElem_of_mem hx;exact f k x c hk (by rw[bL hk,e]) hc
theorem W4{M:Wm}:((tM M).map some).map (sS M)=(tO M).map some:=by
 unfold tM tO;rw[List.map_map,List.map_filterMap,List.map_filterMap];refine Q6 λi hi=>?_;rw[Option.map_map,Option.map_map];cases hp:vB M i with
 | none=>rfl
 | some c=>
  unfold vB at hp;obtain⟨d,hd,e⟩:=Option.bind_eq_some_iff.mp hp;have a:d=c:=by
   split at e
   ·cases e
   ·exact Option.some.inj e
  subst a;show some (sS M (some (i:Int)))=some (some d.birth);have:cellAt M (i:Int)=some d:=by
   unfold cellAt;rw[if_pos (by omega),Int.toNat_natCast,hd]
  show some ((cellAt M (i:Int)).map _)=_;rw[this];rfl
theorem Zcm{M:Wm}(h:M.cells.length<=900):(tO M).length<=900/\(tM M).length<=900:=by
 unfold tO tM;have h1:=List.length_filterMap_le (λi=>(vB M i).map (·.birth)) (List.range M.cells.length);have h2:=List.length_filterMap_le (λ(i:Nat)=>(vB M i).map λ_=>(i:Int)) (List.range M.cells.length);rw[List.length_range]at h1 h2;exact⟨by omega,by omega⟩
theorem Zsk{wo:Addr}(f:qI K X)(q:Dc X Zco wo H Q):Zch K (jL X) (uo X) (z7 X) (mF K) ⟨n,Q,bk,ct⟩ [some (.ref wo),none,none,none] H:=by
 obtain⟨T,s,A,M,lb,lw,w,E,j,rfl,ok,⟨ph,gr,cd⟩,lo,q⟩:=q;obtain⟨dw,ow⟩:=j.jb.ow;obtain⟨ds,os⟩:=j.js.os;obtain⟨dh,oh⟩:=j.jh.oh;have u:=ok.cl;unfold Zch;walk_at"e";refine aJ ow f.cW f.Qz aZ ?_;walk_at"e";refine aJ ow f.cW f.KJ bA ?_;refine aJ oh f.c.cG f.c.bM bQ ?_;walk_at"e";refine lK (cV.of j.jh.oc) ?_;rw[bx,j.jc.lc];walk_at"e";refine⟨A.sw,X.S,ds,_,rfl,os,f.cS,f.n7,by show 11<1000;decide,?_⟩;rw[Ni];walk_at"e";refine⟨A.sw,X.S,ds,_,rfl,aq,f.cS,f.n6,by show 11<1000;decide,?_⟩;rw[Ec,eN];obtain⟨b,r⟩:=j.sweep w E (dx:=ds) { M.sw with stop:=M.cells.length,at':=0 } rfl;have r:WJ X _ T s A (jg M):=r;generalize upd H A.sw (.ins X.S ds (cF M.sw.sense M.sw.phase A.gr M.sw.looked M.sw.turn 0 M.cells.length M.sw.walks M.sw.looks M.sw.passes M.sw.loss))=H1 at b r ⊢;have N:Gq (jg M):=⟨ok.cl,ok.hl,ok.fl,ok.nl,ok.gl,ok.gc,ok.ph,Int.le_refl _⟩;walk_at"e";refine⟨_,rfl,T,s,A,jg M,b.wt,E,r,rfl,N,λJ I C R m k=>?_,λJ I i x c a v C R hx m hc ht k O L oa B=>?_⟩
 ·have t:=r.same k;obtain⟨dw2,ow2⟩:=t.jb.ow;obtain⟨d,h⟩:=t.js.os;walk_at"e";refine⟨A.sw,X.S,d,_,rfl,h,f.cS,f.n2,by show 11<1000;decide,?_⟩;rw[nR];obtain⟨e,g⟩:=t.sweep (b.wt.same k) E (dx:=d) { (jg M).sw with phase:="give" } rfl;have g:WJ X _ T s A { jg M with sw:={ (jg M).sw with phase:="give" } }:=g;generalize upd C A.sw (.ins X.S d (cF (jg M).sw.sense "give" A.gr (jg M).sw.looked (jg M).sw.turn (jg M).sw.at' (jg M).sw.stop (jg M).sw.walks (jg M).sw.looks (jg M).sw.passes (jg M).sw.loss))=H3 at e g ⊢;obtain⟨dw3,W⟩:=g.jb.ow;obtain⟨ob,ol⟩:=Zcm u;walk_at"e";refine aJ W f.cW f.KJ bA ?_;walk_at"e";refine⟨_,rfl,T,s,A,_,g,rfl,u,λl4 H4 l nl4 g4=>?_⟩;have e4:(tM { jg M with sw:={ (jg M).sw with phase:="give" } }).map V.int=((tM M).map some).map oV:=by
   rw[List.map_map];rfl
  rw[e4]at g4;walk_at"e";refine⟨A.hp,l4,rfl,T,s,A,_,(tM M).map some,g.same l,rfl,g4,by rw[bx];omega,λl5 y=>?_⟩;have e5:(((tM M).map some).map (sS { jg M with sw:={ (jg M).sw with phase:="give" } })).map oV=(tO M).map V.int:=by
   have:sS { jg M with sw:={ (jg M).sw with phase:="give" } }=sS M:=by funext x;cases x<;>rfl
   rw[this,W4,List.map_map];rfl
  rw[e5];generalize zz:upd H4 l5 _=H5;obtain⟨s5,g5⟩:=nwO y zz;walk_at"e";refine lK (cV.of g5) ?_;rw[bx];walk_at"e";refine⟨aX (by simp),λa O=>?_⟩;have s6:=aL O (.tup [.str "cut",.int (tO M).length,.ref l5]);have D:=l.trans (s5.trans s6);have U:H l5=none:=jo.free b (k.free (jo.free e (l.free y)));exact q _ _ (.cut J I ph gr cd R m) _ T A a (b.trans ((jo.same b.wt k).trans (e.trans (jo.same e.wt D)))) (g.same D) ⟨rfl,rfl⟩ ⟨l5,U,aq,s6 _ _ g5⟩ λz=>absurd z (show ¬ ("give":Str)="lost" by decide)
 ·have t:=r.same k;have w2:=b.wt.same k;obtain⟨d,h⟩:=t.js.os;walk_at"e";refine⟨A.sw,X.S,d,_,rfl,h,f.cS,f.n2,by show 11<1000;decide,?_⟩;rw[nR];walk_at"e";refine⟨A.sw,X.S,d,_,rfl,aq,f.cS,f.n11,by show 11<1000;decide,?_⟩;rw[Nj,eN];obtain⟨e,g⟩:=t.sweep w2 E (dx:=d) { (jg M).sw with phase:="lost",loss:=.ref a } rfl;have g:WJ X _ T s A { jg M with sw:={ (jg M).sw with phase:="lost",loss:=.ref a } }:=g;have ta:T a=(0,0):=b.wt _ O;have tw:T v=(0,0):=b.wt _ L;have p:upd C A.sw (.ins X.S d (cF (jg M).sw.sense "lost" A.gr (jg M).sw.looked (jg M).sw.turn (jg M).sw.at' (jg M).sw.stop (jg M).sw.walks (jg M).sw.looks (jg M).sw.passes (.ref a))) a=some (.tup [.str "lost",.int c.birth,.ref v]):=(aB (qw oa h (λz=>by cases z))).trans oa;have o:upd C A.sw (.ins X.S d (cF (jg M).sw.sense "lost" A.gr (jg M).sw.looked (jg M).sw.turn (jg M).sw.at' (jg M).sw.stop (jg M).sw.walks (jg M).sw.looks (jg M).sw.passes (.ref a))) v=some (.lst (x.2.map V.int)):=(aB (qw B h (λz=>by cases z))).trans B;generalize upd C A.sw (.ins X.S d (cF (jg M).sw.sense "lost" A.gr (jg M).sw.looked (jg M).sw.turn (jg M).sw.at' (jg M).sw.stop (jg M).sw.walks (jg M).sw.looks (jg M).sw.passes (.ref a)))=H3 at e g p o ⊢;walk_at"e";refine⟨a,rfl,"lost",c.birth,v,x.2,p,o,λa' Z H4 l P Y F=>?_⟩;have U:H Z=none:=jo.free b (k.free (jo.free e P));exact q _ _ (.lost J I i x c (.ref a) ph gr cd R hx m hc ht) _ T A a' (b.trans ((jo.same b.wt k).trans (e.trans (jo.same e.wt l)))) (g.same l) ⟨rfl,rfl⟩ ⟨Z,U,Y,F⟩ λ_=>⟨c.birth,rfl,a,v,rfl,ta,l _ _ p,tw,l _ _ o⟩
end
section
variable {K:aC}{X:Cs}{H:Hp}{Q:VK}{E:XK}{n:St->Hp->Prop}{bk ct:St->Hp->Prop}
theorem Zm7{wo:Addr}(b:qI K X)(q:Dc X Zz wo H Q):WM K (fJ X) ⟨n,Q,bk,ct⟩ [some (.ref wo),none,none] H:=by
 obtain⟨T,s,A,M,lb,lw,w,B,j,rfl,ok,⟨ph,gr⟩,lo,q⟩:=q;obtain⟨W,ow⟩:=j.jb.ow;obtain⟨ds,os⟩:=j.js.os;obtain⟨Y,oh⟩:=j.jh.oh;have og:=j.js.og;cases t:M.sw.grey with
 | nil=>exact absurd t gr
 | cons x g=>
  obtain⟨c,hc⟩:=ok.gc ph x (by rw[t];simp);obtain⟨U,f⟩:=bT.mp hc;have E:=ok.gl ph;have O:=ok.fl c (nJ hc);rw[t]at og;unfold WM;walk_at"e";refine aJ ow b.cW b.Qz aZ ?_;walk_at"e";refine aJ ow b.cW b.KJ bA ?_;refine aJ oh b.c.cG b.c.bM bQ ?_;walk_at"e";refine aJ os b.cS b.n3 pY ?_;walk_at"e";refine⟨.inl ⟨rfl,_,cV.of og⟩,?_⟩;walk_at"e";refine⟨A.gr,_,0,0,.int x,rfl,rfl,og,by decide,by decide,by simp[seqIndex?],rfl,?_⟩;obtain⟨e,k⟩:=j.Zpt w B (g:=g);show nD K _ _ (upd H A.gr (.lst (g.map V.int))) _;generalize upd H A.gr (.lst (g.map V.int))=H1 at e k ⊢;obtain⟨F,h,ce⟩:=k.jc.at (i:=x.toNat) (c:=c) f;refine jW (cV.of k.jh.oc) (pq (v:=.ref F.1) U (by rw[cA,h];rfl)) ?_;obtain⟨m,o⟩:=k.js.os;walk_at"e";refine aJ o b.cS b.n8 Ac ?_;walk_at"e";refine⟨A.sw,X.S,m,_,rfl,o,b.cS,b.n8,by show 11<1000;decide,?_⟩;rw[xX];obtain⟨d,u⟩:=k.sweep e.wt B (dx:=m) { M.sw with grey:=g,walks:=M.sw.walks+1 } rfl;have u:WJ X _ T s A { M with sw:={ M.sw with grey:=g,walks:=M.sw.walks+1 } }:=u;generalize upd H1 A.sw _=Z at d u ⊢;obtain⟨L,p,D⟩:=u.jc.at (i:=x.toNat) (c:=c) f;rw[h]at p;cases p;obtain⟨_,_,⟨dc,oc⟩,I⟩:=id D;walk_at"e";refine aJ oc b.c.cT b.c.dR gK ?_;walk_at"e";refine aJ oc b.c.cT b.c.dY jr ?_;walk_at"e";refine⟨_,_,rfl,c.fl,T,s,A,_,d.wt,B,u,rfl,.inr (.inr ⟨x.toNat,F,c,h,f,rfl,rfl⟩),by omega,λ_=>?_,λH3 J l r R P C=>?_⟩
  ·show g.length<=10000;rw[t,List.length_cons]at E;omega
  walk_at"e";refine⟨aX (by simp),λa N=>?_⟩;have y:=aL N (.tup [.str "walk",.int c.birth,.ref l]);refine q _ _ (.walk x g c ph t hc) _ J A a (e.trans (d.trans (r.trans (jo.same r.wt y)))) (R.same y) ⟨rfl,rfl⟩ ⟨l,jo.free e (jo.free d C),aq,y _ _ P⟩ λz=>?_;rw[(vJ (l:=c.fl) (M:={ M with sw:={ M.sw with grey:=g,walks:=M.sw.walks+1 } })).1]at z;exact absurd (ph.symm.trans z) (show ¬ ("walk":Str)="lost" by decide)
theorem Sg{wo:Addr}(e:qI K X)(q:Dc X ZC wo H Q):wM K X.H (sV X.C X.H) (d7 X.H) (cL X) ⟨n,Q,bk,ct⟩ [some (.ref wo),none,none,none] H:=by
 obtain⟨T,s,A,M,lb,lw,w,O,j,rfl,ok,⟨ph,lt⟩,lo,q⟩:=q;obtain⟨dw,ow⟩:=j.jb.ow;obtain⟨ds,os⟩:=j.js.os;unfold wM;walk_at"e";refine aJ ow e.cW e.Qz aZ ?_;walk_at"e";refine aJ os e.cS e.n6 GX ?_;walk_at"e";refine⟨A.sw,X.S,ds,_,rfl,os,e.cS,e.n6,by show 11<1000;decide,?_⟩;rw[Ec];walk_at"e";refine aJ aq e.cS e.n10 xZ ?_;walk_at"e";refine⟨A.sw,X.S,ds,_,rfl,aq,e.cS,e.n10,by show 11<1000;decide,?_⟩;rw[vm,eN];obtain⟨b,f⟩:=j.sweep w O (dx:=ds) { M.sw with at':=M.sw.at'+1,passes:=M.sw.passes+1 } rfl;generalize upd H A.sw _=R at b f ⊢;obtain⟨W,v⟩:=f.jb.ow;obtain⟨J,E⟩:=f.jh.oh;walk_at"e";refine aJ v e.cW e.KJ bA ?_;walk_at"e";refine⟨_,_,rfl,yg (some M.sw.at'),_,_,_,_,_,f.hpO,?_⟩;have p:(∀c,cellAt M M.sw.at'=some c->c.tone=M.sw.sense)->∀l a m,R l=none->aU R m->m a=some (.tup [.str "pass",.int M.sw.at',.ref l])->m l=some (.lst [])->Q (.ref a) m:=λhp l a m nl o V ol=>
  q _ _ (.pass ph lt hp) _ T A a (b.trans (jo.same b.wt o)) (f.same o) ⟨rfl,rfl⟩ ⟨l,jo.free b nl,V,ol⟩ λz=>absurd (ph.symm.trans z) (show ¬ ("give":Str)="lost" by decide)
 rcases f.look (some M.sw.at')with ⟨D,F⟩ | ⟨i,c,N,ei,h0,x,r,Y,F,ce⟩
 ·have D:cellAt M M.sw.at'=none:=D;rw[show atO (A.cs.map pV) (.int M.sw.at')=.non from F];walk_at"e";refine⟨aX (by simp),λl nl=>⟨aX (by simp),λa u=>?_⟩⟩;have o:=aL nl (.lst []);have h:=aL u (.tup [.str "pass",.int M.sw.at',.ref l]);exact p (λc hc=>by rw[D]at hc;cases hc) l a _ nl (o.trans h) aq (h _ _ aq)
 ·cases ei;have x:cellAt M M.sw.at'=some c:=x;rw[show atO (A.cs.map pV) (.int M.sw.at')=.ref N.1 from F];walk_at"e";refine⟨_,_,rfl,T,s,A,_,_,N,c,f.w0,rfl,ce,rfl,?_⟩
  by_cases z:c.tone=M.sw.sense
  ·rw[decide_eq_true (show c.tone=({ M.sw with at':=M.sw.at'+1,passes:=M.sw.passes+1 }:Sw).sense from z)];walk_at"e";refine⟨aX (by simp),λl nl=>⟨aX (by simp),λa u=>?_⟩⟩;have o:=aL nl (.lst []);have h:=aL u (.tup [.str "pass",.int M.sw.at',.ref l]);exact p (λd hd=>by rw[x]at hd;cases hd;exact z) l a _ nl (o.trans h) aq (h _ _ aq)
  ·rw[decide_eq_false (show ¬ c.tone=({ M.sw with at':=M.sw.at'+1,passes:=M.sw.passes+1 }:Sw).sense from z)];obtain⟨k,B⟩:=toN h0;have hk:M.cells[k]? =some (some c):=by rw[B,Int.toNat_natCast]at r;exact r
   walk_at"e";refine aJ v e.cW e.KJ bA ?_;walk_at"e";refine⟨A.hp,J,_,rfl,E,Tf,?_⟩;walk_at"e";rw[B];refine Zh8 f b.wt O hk λm Z g U I=>?_;walk_at"e";refine⟨aX (by simp),λl nl=>⟨aX (by simp),λa u=>?_⟩⟩;have h:=aL nl (.lst [.int (k:Int)]);have L:=aL u (.tup [.str "back",.int c.birth,.ref l]);have t:=h.trans L;have P:=tW.back (lb:=lb) (lw:=lw) (M:=M) c ph lt x z;rw[B,Int.toNat_natCast]at P;rw[B]at U;exact q _ _ P _ T Z a (b.trans (g.trans (jo.same g.wt t))) (U.same t) I ⟨l,jo.free b (jo.free g nl),aq,L _ _ aq⟩ λy=>absurd (ph.symm.trans y) (show ¬ ("give":Str)="lost" by decide)
theorem Zsg{wo:Addr}(b:qI K X)(q:Dc X pEnd wo H Q):Zcg K ⟨n,Q,bk,ct⟩ [some (.ref wo),none] H:=by
 obtain⟨T,s,A,M,lb,lw,w,h,j,rfl,ok,⟨ph,lt⟩,lo,q⟩:=q;obtain⟨o,ow⟩:=j.jb.ow;obtain⟨ds,os⟩:=j.js.os;unfold Zcg;walk_at"e";refine aJ ow b.cW b.Qz aZ ?_;walk_at"e";refine⟨A.sw,X.S,ds,_,rfl,os,b.cS,b.n2,by show 11<1000;decide,?_⟩;rw[nR];obtain⟨d,f⟩:=j.sweep w h (dx:=ds) { M.sw with phase:="rest" } rfl;generalize upd H A.sw _=p at d f ⊢;obtain⟨i,c⟩:=f.js.os;walk_at"e";refine aJ c b.cS b.n5 ux ?_;walk_at"e";refine aJ c b.cS b.n8 Ac ?_;walk_at"e";refine aJ c b.cS b.n9 Ad ?_;walk_at"e";refine aJ c b.cS b.n10 xZ ?_;walk_at"e";refine⟨aX (by simp),λl nl=>⟨aX (by simp),λa k=>?_⟩⟩;have m:=aL nl (.lst [.int M.sw.walks,.int M.sw.looks,.int M.sw.passes]);have g:=aL k (.tup [.str "end",.int M.sw.turn,.ref l]);have e:=m.trans g;exact q _ _ (.fin ph lt) _ T A a (d.trans (jo.same d.wt e)) (f.same e) ⟨rfl,rfl⟩ ⟨l,jo.free d nl,aq,g _ _ aq⟩ λz=>absurd z (show ¬ ("rest":Str)="lost" by decide)
theorem Np{wo:Addr}(a:qI K X)(q:Dc X (Od "give") wo H Q):tK K (bW X pEnd) (bW X ZC) ⟨n,Q,bk,ct⟩ [some (.ref wo)] H:=by
 obtain⟨T,s,A,M,lb,lw,w,b,j,rfl,ok,ph,lo,q⟩:=q;obtain⟨c,ow⟩:=j.jb.ow;obtain⟨ds,os⟩:=j.js.os;unfold tK;walk_at"e";refine aJ ow a.cW a.Qz aZ ?_;walk_at"e";refine aJ os a.cS a.n6 GX ?_;walk_at"e";refine aJ ow a.cW a.Qz aZ ?_;walk_at"e";refine aJ os a.cS a.n7 O8 ?_;walk_at"e";refine uw (λz=>?_) (λz=>?_)
 ·walk_at"e";exact⟨_,rfl,T,s,A,M,lb,lw,w,b,j,rfl,ok,⟨ph,z⟩,lo,q⟩
 ·walk_at"e";exact⟨_,rfl,T,s,A,M,lb,lw,w,b,j,rfl,ok,⟨ph,z⟩,lo,q⟩
theorem Nm{wo:Addr}(a:qI K X)(q:Dc X (Od "walk") wo H Q):tH K (bW X ZD) (bW X Zz) ⟨n,Q,bk,ct⟩ [some (.ref wo)] H:=by
 obtain⟨T,s,A,M,lb,lw,w,b,j,rfl,ok,ph,lo,q⟩:=q;obtain⟨d,ow⟩:=j.jb.ow;obtain⟨ds,os⟩:=j.js.os;unfold tH;walk_at"e";refine aJ ow a.cW a.Qz aZ ?_;walk_at"e";refine aJ os a.cS a.n3 pY ?_;refine Zuy (cV.of j.js.og) ?_;cases c:M.sw.grey with
 | nil=>
  refine Zkv ?_;walk_at"e";exact⟨_,rfl,T,s,A,M,lb,lw,w,b,j,rfl,ok,⟨ph,c⟩,lo,q⟩
 | cons x g=>
  refine Zku ?_;walk_at"e";exact⟨_,rfl,T,s,A,M,lb,lw,w,b,j,rfl,ok,⟨ph,by rw[c];simp⟩,lo,q⟩
theorem Hg{wo:Addr}(c:qI K X)(q:Dc X (Od "lost") wo H Q):p8 K (mF K) ⟨n,Q,bk,ct⟩ [some (.ref wo)] H:=by
 obtain⟨T,s,A,M,lb,lw,w,i,j,rfl,ok,ph,lo,q⟩:=q;obtain⟨h,ow⟩:=j.jb.ow;obtain⟨ds,os⟩:=j.js.os;obtain⟨f,e,d,t1,o1,t2,o2⟩:=lo ph;rw[d]at os;unfold p8;walk_at"e";refine aJ ow c.cW c.Qz aZ ?_;walk_at"e";refine aJ os c.cS c.n11 O9 ?_;walk_at"e";refine⟨f,rfl,"lost",lb,e,lw,o1,o2,λa l k b nl g ol=>?_⟩;exact q _ _ (.again ph) _ T A a (jo.same w b) (j.same b) ⟨rfl,rfl⟩ ⟨l,nl,g,ol⟩ λ_=>⟨lb,rfl,f,e,d,t1,b _ _ o1,t2,b _ _ o2⟩
theorem Zmb{wo f d c e:Addr}(b:qI K X)(q:Dc X Zja wo H Q):WQ K f d c e (bW X (Od "rest")) (bW X (Od "give")) (bW X (Od "walk")) (bW X (Od "lost")) ⟨n,Q,bk,ct⟩ [some (.ref wo),none] H:=by
 obtain⟨T,s,A,M,lb,lw,w,a,j,rfl,ok,_,lo,q⟩:=q;obtain⟨g,ow⟩:=j.jb.ow;obtain⟨ds,os⟩:=j.js.os;unfold WQ;walk_at"e";refine aJ ow b.cW b.Qz aZ ?_;walk_at"e";refine aJ os b.cS b.n2 ie ?_;rcases ok.ph with ph | ph | ph | ph
 ·rw[ph];refine⟨_,f,rfl,rfl,?_⟩;walk_at"e";refine mW (bW X (Od "rest")) rfl (by simp) ?_;walk_at"e";exact⟨_,rfl,T,s,A,M,lb,lw,w,a,j,rfl,ok,ph,lo,q⟩
 ·rw[ph];refine⟨_,c,rfl,rfl,?_⟩;walk_at"e";refine mW (bW X (Od "walk")) rfl (by simp) ?_;walk_at"e";exact⟨_,rfl,T,s,A,M,lb,lw,w,a,j,rfl,ok,ph,lo,q⟩
 ·rw[ph];refine⟨_,d,rfl,rfl,?_⟩;walk_at"e";refine mW (bW X (Od "give")) rfl (by simp) ?_;walk_at"e";exact⟨_,rfl,T,s,A,M,lb,lw,w,a,j,rfl,ok,ph,lo,q⟩
 ·rw[ph];refine⟨_,e,rfl,rfl,?_⟩;walk_at"e";refine mW (bW X (Od "lost")) rfl (by simp) ?_;walk_at"e";exact⟨_,rfl,T,s,A,M,lb,lw,w,a,j,rfl,ok,ph,lo,q⟩
end
section
variable {K:aC}{X:Cs}{H:Hp}{Q:VK}{E:XK}{n:St->Hp->Prop}{bk ct:St->Hp->Prop}
theorem Zc{A:Wa}{w:Int}{σ:St}{b:TE}{q:Bool->Hp->Prop}(ol:∃dx,(w=0/\H A.lk=some (.ins X.F dx []))\/(w=1/\H A.lk=some (.ins X.E dx [])))(a:∀c:VK,c (.ref A.lk) H->b σ H c)(h:q (decide (w≠2)) H):
  tB (G.Za (nj X.F "stays" (Gr (.bl true)) [] E0 b aG) (nj X.E "stays" (Gr (.bl true)) [] E0 b aG)) σ H q:=by
 refine Ztw ?_;obtain⟨dl,⟨d,o⟩ | ⟨d,o⟩⟩:=ol
 ·rw[show decide (w≠2)=true from decide_eq_true (by omega)]at h;refine Zkq ?_;walk_at"s";refine a _ ?_;refine⟨A.lk,dl,_,rfl,o,rfl,?_⟩;walk_at"s";exact⟨_,rfl,i_B h⟩
 ·rw[show decide (w≠2)=true from decide_eq_true (by omega)]at h;refine Zkp ?_;walk_at"s";refine a _ ?_;refine⟨A.lk,dl,_,rfl,o,rfl,?_⟩;walk_at"s";exact⟨_,rfl,i_B h⟩
theorem Zgl{T:Tg}{s:Nat}{A:Wa}{M:Wm}{lb:Int}{lw:List Int}(k:qI K X)(w:WT H T)(y:s≠0)(j:WJ X H T s A M)(ok:Gq M)(ph:M.sw.phase="walk")(gr:M.sw.grey=[])
  (q:∀e p,tW lb lw M e p->∀H' T' t a,jo s H H' T T'->WJ X H' T' s t p->t.wo=A.wo/\t.sw=A.sw->EvN H H' a e->(p.sw.phase="lost"->∃b,e.thing=some b/\Zm1 H' T' p b e.notes)->Q (.ref a) H'):
  oF K X.E X.F (Gr (.bl true)) (bW X Zco) (kY X) ⟨n,Q,bk,ct⟩ [some (.ref A.wo),some (.ref A.sw),some (.ref A.lk),some (.int (dj M)),none] H:=by
 unfold oF;walk_at"e";refine⟨_,_,rfl,T,s,A,M,w,y,j,rfl,ok.hl,λ_=>by rw[gr];exact Nat.zero_le _,λB u l c o g1 nl=>?_⟩;have nt:=Xu (dj M) M.hands 0 M;have ww:=nt.ww;have ol:=o.jb.ol;rw[ww]at ol;have J:uT M->bW X Zco [.ref A.wo] B Q E0:=λcd=>by
  have e:(kh (dj M) M.hands 0 M).2=M:=by
   rcases cd with z | ⟨_,z⟩
   ·rw[z,Z4]
   ·exact Xv _ z
  rw[e]at o;refine⟨_,rfl,u,s,A,M,lb,lw,c.wt,y,o,rfl,ok,⟨ph,gr,cd⟩,λz=>absurd (ph.symm.trans z) (by decide),λe' p r H' T' t a I j' D L N=>?_⟩;obtain⟨l',P,o1,o2⟩:=L;exact q e' p r H' T' t a (c.trans I) j' D ⟨l',jo.free c P,o1,o2⟩ N
 have g:¬ uT M->∀(lo:Int),lo=(if M.w=2 then(kh (dj M) M.hands 0 M).2.sw.looked else Builtin.bitOr (kh (dj M) M.hands 0 M).2.sw.looked (dj M))->∀i,jo s B i u u->WJ X i u s A { (kh (dj M) M.hands 0 M).2 with sw:={ (kh (dj M) M.hands 0 M).2.sw with looks:=(kh (dj M) M.hands 0 M).2.sw.looks+1,looked:=lo } }->i l=some (.lst ((kh (dj M) M.hands 0 M).1.map V.int))->∀a,i a=none->Q (.ref a) (upd i a (.tup [.str "look",.int (dj M),.ref l])):=λZ lo W i f C x a U=>by
  have R:=aL U (.tup [.str "look",.int (dj M),.ref l]);subst W;refine q _ _ (.look _ ph gr Z rfl) _ u A a (c.trans (f.trans (jo.same f.wt R))) (C.same R) ⟨rfl,rfl⟩ ⟨l,nl,aq,R _ _ x⟩ λz=>?_;have:=(Cu (dj M) 100 M.hands 0 M ok.hl).1;have z:(kh (dj M) M.hands 0 M).2.sw.phase="lost":=z;rw[this]at z;exact absurd (ph.symm.trans z) (by decide)
 walk_at"e";refine uw (λhz=>?_) (λhz=>?_)
 ·walk_at"e";exact J (.inl hz)
 ·refine Zps ?_;refine Ztx ?_;refine Zc ol (λQ' h=>by walk_at"s";exact h) ?_;have w2:M.w≠2:=by
   obtain⟨_,⟨e2,_⟩ | ⟨e2,_⟩⟩:=j.jb.ol<;>omega
  rw[show decide (M.w≠2)=true from decide_eq_true (by omega)];have Z:¬ uT M:=λz=>by
   rcases z with z | ⟨z,_⟩
   ·exact hz z
   ·exact w2 z
  have g:=g Z _ rfl;rw[if_neg w2]at g;obtain⟨d,m⟩:=o.js.os;walk_at"e";refine aJ m k.cS k.n9 Ad ?_;walk_at"e";refine⟨A.sw,X.S,d,_,rfl,m,k.cS,k.n9,by show 11<1000;decide,?_⟩;rw[xY];obtain⟨ZCy,Y⟩:=o.sweep c.wt y (dx:=d) { (kh (dj M) M.hands 0 M).2.sw with looks:=(kh (dj M) M.hands 0 M).2.sw.looks+1 } rfl;have v:=Y.jb.ol;have O:({ (kh (dj M) M.hands 0 M).2 with sw:={ (kh (dj M) M.hands 0 M).2.sw with looks:=(kh (dj M) M.hands 0 M).2.sw.looks+1 } }:Wm).w=M.w:=ww;rw[O]at v;refine Jb ?_;refine Zu4 ?_;refine Zc v (λQ' h=>by walk_at"s";exact h) ?_;rw[show decide (M.w≠2)=true from decide_eq_true (by omega)];walk_at"e";refine aJ aq k.cS k.n4 lH ?_;walk_at"e";refine⟨A.sw,X.S,d,_,rfl,aq,k.cS,k.n4,by show 11<1000;decide,?_⟩;rw[vo,eN];obtain⟨f,C⟩:=o.sweep c.wt y (dx:=d) { (kh (dj M) M.hands 0 M).2.sw with looks:=(kh (dj M) M.hands 0 M).2.sw.looks+1,looked:=Builtin.bitOr (kh (dj M) M.hands 0 M).2.sw.looked (dj M) } rfl;have x:upd B A.sw (.ins X.S d (cF (kh (dj M) M.hands 0 M).2.sw.sense (kh (dj M) M.hands 0 M).2.sw.phase A.gr (Builtin.bitOr (kh (dj M) M.hands 0 M).2.sw.looked (dj M)) (kh (dj M) M.hands 0 M).2.sw.turn (kh (dj M) M.hands 0 M).2.sw.at' (kh (dj M) M.hands 0 M).2.sw.stop (kh (dj M) M.hands 0 M).2.sw.walks ((kh (dj M) M.hands 0 M).2.sw.looks+1) (kh (dj M) M.hands 0 M).2.sw.passes (kh (dj M) M.hands 0 M).2.sw.loss)) l=some (.lst ((kh (dj M) M.hands 0 M).1.map V.int)):=(aB (qw g1 m (λz=>by cases z))).trans g1;generalize upd B A.sw _=i at f C x ⊢;walk_at"e";exact⟨aX (by simp),λa U=>g i f C x a U⟩
theorem QJ{wo:Addr}(a:qI K X)(q:Dc X ZD wo H Q):uH K X.E X.F (lX 1) (lX 0) (Gr (.bl true)) (bW X Zco) (kY X) ⟨n,Q,bk,ct⟩ [some (.ref wo),none,none,none,none] H:=by
 obtain⟨T,s,A,M,lb,lw,w,g,j,rfl,ok,⟨ph,gr⟩,lo,q⟩:=q;obtain⟨h,ow⟩:=j.jb.ow;obtain⟨ds,os⟩:=j.js.os;obtain⟨i,d⟩:=j.jb.ok;have on:=j.jb.on;have lh:=j.jd.lh;have l5:=j.jd.l5;have c:((A.hs.map λp=>V.ref p.1).length:Int)=(M.hands.length:Int):=by rw[bx,lh]
 have b:=Zgl (n:=n) (bk:=bk) (ct:=ct) a w g j ok ph gr q;obtain⟨dl,ol⟩:=j.jb.ol;unfold uH;walk_at"e";refine aJ ow a.cW a.Qz aZ ?_;walk_at"e";refine aJ ow a.cW a.nWk m6 ?_;refine aJ d a.cK a.nKl rM ?_;refine Zrw ?_;refine Jb ?_;walk_at"s";rcases ol with ⟨f,o⟩ | ⟨f,o⟩
 ·have e:dj M=Ie 0 M.sw.looked M.hands.length:=by unfold dj;rw[f];rfl
  refine Zkq ?_;walk_at"s";refine⟨A.lk,dl,_,rfl,o,rfl,?_⟩;walk_at"s";refine aJ os a.cS a.n4 lH ?_;walk_at"s";refine aJ ow a.cW a.nWd gZ ?_;walk_at"s";refine lK (cV.of on) ?_;rw[c];walk_at"s";refine⟨A.lk,_,_,rfl,by omega,by omega,?_⟩;rw[Int.toNat_natCast,<- e];walk_at"s";exact b
 ·have e:dj M=Ie 1 M.sw.looked M.hands.length:=by unfold dj;rw[f];rfl
  refine Zkp ?_;walk_at"s";refine⟨A.lk,dl,_,rfl,o,rfl,?_⟩;walk_at"s";refine aJ os a.cS a.n4 lH ?_;walk_at"s";refine aJ ow a.cW a.nWd gZ ?_;walk_at"s";refine lK (cV.of on) ?_;rw[c];walk_at"s";refine⟨A.lk,_,_,rfl,by omega,by omega,?_⟩;rw[Int.toNat_natCast,<- e];walk_at"s";exact b
end
abbrev LK:=List (Str×Int)
def HsO(H:Hp)(l:Addr)(hs:LK):Prop:=∃ts:List Addr,H l=some (.lst (ts.map V.ref))/\Al (λ(a:Addr) (m:Str×Int)=>H a=some (.tup [.str m.1,.int m.2])) ts hs
theorem HsO.same{H H':Hp}{l:Addr}{hs:LK}(h:HsO H l hs)(s:aU H H'):HsO H' l hs:=by
 obtain⟨ts,h1,h2⟩:=h;exact⟨ts,s _ _ h1,h2.mono λa m z=>s _ _ z⟩
structure HsB(hs:LK):Prop where
 n1:1<=hs.length
 n5:hs.length<=5
 sb:∀m∈hs,3<=m.2/\m.2<=9
def Qp(hs:LK)(h s:Nat):Prop:=∃m,hs[h]? =some m/\(s:Int)<m.2
def okR(hs:LK):nY->Prop
 | .make h s many bulk=>Qp hs h s/\0<=many/\many<=8/\0<=bulk
 | .get h s t _=>Qp hs h s/\Qp hs h t
 | .put h t _ s=>Qp hs h t/\Qp hs h s
 | .copy h s t=>Qp hs h s/\Qp hs h t
 | .drop h s=>Qp hs h s
 | .give h s g t=>Qp hs h s/\Qp hs g t
 | .write h t _=>Qp hs h t
 | .read h t=>Qp hs h t
 | .name h t _=>Qp hs h t
 | .seek h s _=>Qp hs h s
theorem HsB.ok{hs:LK}(b:HsB hs){h s:Nat}(hh:h<hs.length)(h3:s<3):Qp hs h s:=by
 have:=b.sb _ (List.getElem_mem hh);exact⟨_,bL hh,by omega⟩
def YG(H0 H:Hp)(hs:LK)(vs:List V):Prop:=∀v∈vs,v=.non\/∃t d,v=.ref t/\H0 t=none/\H t=some (.tup (dV d))/\okR hs d
structure RL(H0 H:Hp)(hs:LK)(l:Addr)(N:Nat):Prop where
 s:aU H0 H
 n:H0 l=none
 ex:∃vs,H l=some (.lst vs)/\vs.length<=N/\YG H0 H hs vs
theorem YG.same{H0 H H':Hp}{hs:LK}{vs:List V}(h:YG H0 H hs vs)(s:aU H H'):YG H0 H' hs vs:=λv hv=>by
 rcases h v hv with z | ⟨t,d,e,f,o,k⟩
 ·exact .inl z
 ·exact .inr ⟨t,d,e,f,s _ _ o,k⟩
theorem RL.same{H0 H H':Hp}{hs:LK}{l:Addr}{N:Nat}(h:RL H0 H hs l N)(s:aU H H'):RL H0 H' hs l N:=by
 obtain⟨a,n,vs,h1,h2,h3⟩:=h;exact⟨a.trans s,n,vs,s _ _ h1,h2,h3.same s⟩
theorem RL.base{H0 a H:Hp}{hs:LK}{l:Addr}{N:Nat}(h:RL a H hs l N)(s:aU H0 a):RL H0 H hs l N:=by
 obtain⟨b,n,vs,h1,h2,h3⟩:=h;refine⟨s.trans b,s.free n,vs,h1,h2,λv hv=>?_⟩;rcases h3 v hv with z | ⟨t,d,e,f,o,k⟩
 ·exact .inl z
 ·exact .inr ⟨t,d,e,s.free f,o,k⟩
theorem RL.mono{H0 H:Hp}{hs:LK}{l:Addr}{N N':Nat}(h:RL H0 H hs l N)(n:N<=N'):RL H0 H hs l N':=by
 obtain⟨b,a,vs,h1,h2,h3⟩:=h;exact⟨b,a,vs,h1,by omega,h3⟩
theorem xQ{H0 H:Hp}{hs:LK}{a c:Addr}{d b:Nat}{Q:VK}(h1:RL H0 H hs a d)(h2:RL H0 H hs c b)(hb:d+b<=100000)(k:∀l H',aU H H'->H l=none->RL H0 H' hs l (d+b)->Q (.ref l) H'):vd (.ref a) (.ref c) H Q:=by
 obtain⟨f,_,vs,g,n,i⟩:=h1;obtain⟨_,_,e,h,m,j⟩:=h2;refine⟨a,c,_,_,rfl,rfl,g,h,aX (by omega),λl nl=>?_⟩;have s:=aL nl (.lst (vs++e));refine k l _ s nl ⟨f.trans s,f.free nl,vs++e,aq,by rw[List.length_append];omega,λv hv=>?_⟩;rcases List.mem_append.mp hv with hv | hv
 ·exact(i.same s) v hv
 ·exact(j.same s) v hv
theorem Zmu(m:Nat):(List.replicate m [V.non]).flatten=(List.replicate m (none:Option Int)).map oV:=by
 induction m with
 | zero=>rfl
 | succ m ih=>rw[List.replicate_succ,List.flatten_cons,ih];rfl
theorem Qu{H0 H:Hp}{hs:LK}{Q:VK}{a:Addr}{k:Int}(b:aU H0 H)(c:H a=some (.lst [V.non]))(k0:0<=k)(k1:k<=1000)(q:∀l H',aU H H'->H l=none->RL H0 H' hs l k.toNat->Q (.ref l) H'):Zt (.ref a) (.int k) H Q:=by
 refine⟨a,k,_,rfl,rfl,c,by omega,by omega,by show 1 * k.toNat<=sizeLine;exact aX (by omega),λl nl=>?_⟩;rw[Zmu];refine q l _ (aL nl _) nl ⟨b.trans (aL nl _),b.free nl,_,aq,by rw[bx,List.length_replicate];exact Nat.le_refl _,λv hv=>?_⟩;rw[List.map_replicate]at hv;rw[List.eq_of_mem_replicate hv];exact .inl rfl
theorem rl1{H0 H:Hp}{hs:LK}{l t:Addr}{d:nY}(s:aU H0 H)(nl:H0 l=none)(nt:H0 t=none)(h:H l=some (.lst [.ref t]))(o:H t=some (.tup (dV d)))(k:okR hs d):RL H0 H hs l 1:=⟨s,nl,_,h,Nat.le_refl _,λv hv=>by
 rw[List.mem_singleton.mp hv];exact .inr ⟨t,d,rfl,nt,o,k⟩⟩
theorem rl2{H0 H:Hp}{hs:LK}{l t u:Addr}{d e:nY}(s:aU H0 H)(nl:H0 l=none)(nt:H0 t=none)(b:H0 u=none)(h:H l=some (.lst [.ref t,.ref u]))(o:H t=some (.tup (dV d)))(k:okR hs d)(a:H u=some (.tup (dV e)))(c:okR hs e):RL H0 H hs l 2:=⟨s,nl,_,h,Nat.le_refl _,λv hv=>by
 rcases List.mem_cons.mp hv with rfl | hv
 ·exact .inr ⟨t,d,rfl,nt,o,k⟩
 ·rw[List.mem_singleton.mp hv];exact .inr ⟨u,e,rfl,b,a,c⟩⟩
theorem rl3{H0 H:Hp}{hs:LK}{l t u w:Addr}{d e f:nY}(s:aU H0 H)(nl:H0 l=none)(nt:H0 t=none)(b:H0 u=none)(c:H0 w=none)(h:H l=some (.lst [.ref t,.ref u,.ref w]))(o:H t=some (.tup (dV d)))(k:okR hs d)(a:H u=some (.tup (dV e)))(g:okR hs e)(o2:H w=some (.tup (dV f)))(k2:okR hs f):RL H0 H hs l 3:=⟨s,nl,_,h,Nat.le_refl _,λv hv=>by
 rcases List.mem_cons.mp hv with rfl | hv
 ·exact .inr ⟨t,d,rfl,nt,o,k⟩
 ·rcases List.mem_cons.mp hv with rfl | hv
  ·exact .inr ⟨u,e,rfl,b,a,g⟩
  ·rw[List.mem_singleton.mp hv];exact .inr ⟨w,f,rfl,c,o2,k2⟩⟩
def qK(K:aC):Sp:=λvs H Q E=>∃a k,vs=[.ref a,.int k]/\∃ns:List Int,cV K H a (ns.map V.int)/\0<=k/\∀z:Int,Q (.int z) H
def jt:Sp:=λvs H Q E=>∃c p m,vs=[.int c,.int p,.int m]/\0<p/\p<2 ^ 32/\0<m/\∀z:Int,0<=z->z<m->Q (.int z) H
def qJ:Sp:=λvs H Q E=>∃c w,vs=[.int c,.int w]/\0<=w/\w<=1000/\∀z:Str,Q (.str z) H
def Ox(K:aC):Sp:=λvs H Q E=>∃a,vs=[.ref a]/\∃ns:List Int,cV K H a (ns.map V.int)/\∀l hs H',aU H H'->H l=none->HsO H' l hs->HsB hs->Q (.ref l) H'
def YC(K:aC):Sp:=λvs H Q E=>∃a,vs=[.ref a]/\∃ns:List Int,cV K H a (ns.map V.int)/\∀z:Int,Q (.int z) H
def Ou:Sp:=λvs H Q E=>∃c h s,vs=[.int c,.int h,.int s]/\∃(hn sn:Nat),h=(hn:Int)/\s=(sn:Int)/\∀t many bulk H',aU H H'->H t=none->0<=many->many<=8->0<=bulk->H' t=some (.tup (dV (.make hn sn many bulk)))->Q (.ref t) H'
def Ov:Sp:=λvs H Q E=>∃c,vs=[.int c]/\∀z:Int,Q (.int z) H
variable {K:aC}{X:Cs}{rf:Rf->Addr}{H:Hp}{Q:VK}{E:XK}{n:St->Hp->Prop}{bk ct:St->Hp->Prop}
section
theorem Yy{a:Addr}{k:Int}(q:∃ns:List Int,cV K H a (ns.map V.int)/\0<=k/\∀z:Int,Q (.int z) H):zy K ⟨n,Q,bk,ct⟩ [some (.ref a),some (.int k)] H:=by
 obtain⟨ns,b,c,h⟩:=q;unfold zy;walk_at"e";refine lK b ?_;walk_at"e";refine uw (λh1=>?_) (λh1=>?_)
 ·walk_at"e";rw[bx]at h1;have hk:k.toNat<ns.length:=by omega
  exact jW b (pq c (by rw[cA,bL hk]<;>rfl)) (h _)
 ·walk_at"e";exact h _
theorem Yw{c p m:Int}(q:0<p/\p<2 ^ 32/\0<m/\∀z:Int,0<=z->z<m->Q (.int z) H):zq ⟨n,Q,bk,ct⟩ [some (.int c),some (.int p),some (.int m)] H:=by
 obtain⟨a,d,b,q⟩:=q;have h1:=Int.emod_nonneg c (show p≠0 by omega);have h2:=Int.emod_lt_of_pos c a;unfold zq;walk_at"e";exact q _ (Int.emod_nonneg _ (by omega)) (Int.emod_lt_of_pos _ b)
theorem Yo{c w:Int}(q:0<=w/\w<=1000/\∀z:Str,Q (.str z) H):yW ⟨n,Q,bk,ct⟩ [some (.int c),some (.int w),none,none,none,none,none] H:=by
 obtain⟨w0,m,q⟩:=q;have l:=Int.emod_nonneg c (show(12:Int)≠0 by decide);have s:=Int.emod_lt_of_pos c (show(0:Int)<12 by decide);obtain⟨sz,o⟩:=toN (x:=1+c % 12) (by omega);have hs:1<=sz/\sz<=12:=by omega
 have a0:=Int.emod_nonneg (c / 12) (show(1+c % 12)≠0 by omega);have p:=Int.emod_lt_of_pos (c / 12) (show 0<1+c % 12 by omega);unfold yW;walk_at"e";have f:=Int.emod_nonneg (c / 5) (show(26:Int)≠0 by decide);have e:=Int.emod_lt_of_pos (c / 5) (show(0:Int)<26 by decide);refine Zkt (by decide) f (by show c / 5 % 26<26;exact e) λch=>?_;walk_at"e";have d:=Int.emod_nonneg (c / 7+5 * w) (show(26:Int)≠0 by decide);have h:=Int.emod_lt_of_pos (c / 7+5 * w) (show(0:Int)<26 by decide);refine Zkt (by decide) d (by show(c / 7+5 * w) % 26<26;exact h) λi=>?_;walk_at"e";refine Zko a0 (by omega) (by rw[UL];decide) λt1 k a=>?_;have j:t1.length<=12:=by rw[a,PL,UL];omega
 walk_at"e";refine Zkx (by rw[UL];exact aX (by omega)) ?_;walk_at"e";refine Zko (by omega) (by omega) (by rw[UL];decide) λt2 r b=>?_;have g:t2.length<=12:=by rw[b,PL,UL];omega
 walk_at"e";refine Zkx (by rw[Zt7,UL];exact aX (by omega)) ?_;exact q _
theorem TX{a:Addr}(q:∃ns:List Int,cV K H a (ns.map V.int)/\∀l hs H',aU H H'->H l=none->HsO H' l hs->HsB hs->Q (.ref l) H'):wV K (qK K) jt qJ ⟨n,Q,bk,ct⟩ [some (.ref a),none,none,none,none] H:=by
 obtain⟨ns,M,q⟩:=q;unfold wV;walk_at"e";refine⟨a,1,rfl,ns,M,by decide,λc=>?_⟩;walk_at"e";refine⟨by decide,λl nl=>?_⟩;generalize zz:upd H l _=H1;obtain⟨F,s⟩:=nwO nl zz;have s:H1 l=some (.lst (([]:List Addr).map V.ref)):=s;walk_at"e";refine⟨_,_,_,rfl,by decide,by decide,by decide,λz P z1=>?_⟩;walk_at"e";refine⟨_,rfl,by omega,by omega,?_⟩;refine forR (λk σ d=>∃(ts:List Addr) (hs:LK) (g j:Option V),σ=[some (.ref a),some (.int c),some (.ref l),g,j]/\aU H d/\d l=some (.lst (ts.map V.ref))/\Al (λ(a:Addr) (m:Str×Int)=>d a=some (.tup [.str m.1,.int m.2])) ts hs/\hs.length=k/\∀m∈hs,3<=m.2/\m.2<=9) ⟨[],[],_,_,rfl,F,s,.nil,rfl,λm hm=>(nomatch hm)⟩ ?_ ?_
 ·rintro k σ d hk ⟨ts,hs,g,j,rfl,v,p,al,hl,hb⟩;have J:k<5:=by omega
  have r:=al.length;have fin:∀{many:Int},3<=many->many<=9->∀(w:St->Hp->Prop) (D:VK) (B A:St->Hp->Prop),(∀ σ H',(∃(ts:List Addr) (hs:LK) (g j:Option V),σ=[some (.ref a),some (.int c),some (.ref l),g,j]/\aU H H'/\H' l=some (.lst (ts.map V.ref))/\Al (λ(a:Addr) (m:Str×Int)=>H' a=some (.tup [.str m.1,.int m.2])) ts hs/\hs.length=k+1/\∀m∈hs,3<=m.2/\m.2<=9)->w σ H')->
    vh (tBM K "list" zE (ak 2) (aj (gn (aj (aW qJ [] E0 (aj (ak 1) (aj (ak 3) aG))) (aj (ak 4) aG))) aG)) ⟨w,D,B,A⟩ [some (.ref a),some (.int c),some (.ref l),some (.int ((0:Int)+k)),some (.int many)] d:=by
   intro many N I w D B A L;walk_at"e";refine⟨.inl ⟨rfl,_,cV.of p⟩,?_⟩;walk_at"e";refine⟨_,_,rfl,by omega,by omega,λwd=>?_⟩;walk_at"e";refine⟨aX (by simp),λt nt=>?_⟩;generalize zz:upd d t _=H3;obtain⟨u,O⟩:=nwO nt zz;have E:=u _ _ p;walk_at"e";refine⟨l,_,_,rfl,rfl,E,?_,?_⟩
   ·rw[bx];exact Nat.lt_of_le_of_lt (show _<=1000 by omega) (by decide)
   rw[show ts.map V.ref++[V.ref t]=(ts++[t]).map V.ref from by rw[List.map_append];rfl];have C:∀b xs,H3 b=some (.tup xs)->upd H3 l (.lst ((ts++[t]).map V.ref)) b=some (.tup xs):=λb xs hb=>by
    rw[aB (qw hb E (λz=>by cases z))];exact hb
   walk_at"e";refine L _ _ ⟨ts++[t],hs++[(wd,many)],_,_,rfl,λb o hb=>by rw[aB (aD hb nl)];exact u _ _ (v _ _ hb),aq,?_,by rw[List.length_append,hl];rfl,λm hm=>?_⟩
   ·refine Zly (by rw[List.length_append,List.length_append,r];rfl) λi x y e f=>?_
    by_cases hi:i<ts.length
    ·rw[List.getElem?_append_left hi]at e;rw[List.getElem?_append_left (by omega)]at f;obtain⟨S,e3,z⟩:=al.get f;rw[e]at e3;cases e3;exact C _ _ (u _ _ z)
    ·have h1:=(dX e).1;rw[List.length_append,List.length_singleton]at h1;rw[List.getElem?_append_right (by omega)]at e f;rw[show i - ts.length=0 by omega]at e;rw[show i - hs.length=0 by omega]at f;cases e;cases f;exact C _ _ O
   ·rcases List.mem_append.mp hm with hm | hm
    ·exact hb m hm
    ·rw[List.mem_singleton.mp hm];exact⟨N,I⟩
  walk_at"e";refine uw (λ_=>?_) (λ_=>?_)
  ·walk_at"e";refine⟨_,_,_,rfl,by decide,by decide,by decide,λy R y1=>?_⟩;refine Zub ?_;refine Zoi ?_;exact fin (many:=3+y) (by omega) (by omega) _ _ _ _ λσ H' h=>h
  ·refine uN ?_;exact fin (many:=3) (by omega) (by omega) _ _ _ _ λσ H' h=>h
 ·rintro σ d ⟨ts,hs,g,j,rfl,v,p,al,hl,hb⟩;walk_at"e";exact q l hs d v nl ⟨ts,p,al⟩ ⟨by omega,by omega,hb⟩
theorem Yr{a:Addr}(q:∃ns:List Int,cV K H a (ns.map V.int)/\∀z:Int,Q (.int z) H):za (qK K) jt ⟨n,Q,bk,ct⟩ [some (.ref a),none] H:=by
 obtain⟨ns,b,q⟩:=q;unfold za;walk_at"e";refine⟨a,2,rfl,ns,b,by decide,λc=>?_⟩;walk_at"e";refine⟨_,_,_,rfl,by decide,by decide,by decide,λz d z1=>?_⟩;walk_at"e";refine uw (λ_=>?_) (λ_=>?_)
 ·walk_at"e";exact q _
 ·walk_at"e";exact q _
theorem QM{C:Addr}{w t:Int}{σ:St}{n:TE}(s:∀(a:Hp) (m:VK),m (.int t) a->n σ a m)(hw:∀{a:Hp}{lk dl:Addr},a lk=some (.ins C dl [])->(w=0/\a lk=some (.ins X.F dl []))\/(w=1/\a lk=some (.ins X.E dl [])))
  (q:∀ki lk H',aU H H'->H ki=none->H lk=none->KdO X H' ki lk w t->Q (.ref ki) H'):Ab X.K (sU X.K) [] E0 (aj (G.JB C) (aj n aG)) σ H Q:=by
 walk_at"e";intro lk dl e g x;have f:aU H (upd (upd H dl (.own lk)) lk (.ins C dl [])):=λb o hb=>by rw[aB (aD hb e),aB (aD hb g)];exact hb
 have h:upd (upd H dl (.own lk)) lk (.ins C dl []) lk=some (.ins C dl []):=aq;generalize upd (upd H dl (.own lk)) lk (.ins C dl [])=a at f h ⊢;walk_at"s";refine s a _ ?_;walk_at"s";intro ki c d k u;have j:aU a (upd (upd a c (.own ki)) ki (.ins X.K c [])):=λb o hb=>by rw[aB (aD hb d),aB (aD hb k)];exact hb
 have l:upd (upd a c (.own ki)) ki (.ins X.K c []) ki=some (.ins X.K c []):=aq;generalize upd (upd a c (.own ki)) ki (.ins X.K c [])=z at j l ⊢;refine⟨ki,lk,t,rfl,c,l,λp y r=>⟨rfl,?_⟩⟩;have v:aU H p:=λb o hb=>r b o (j _ _ (f _ _ hb)) (aD (f _ _ hb) d);have i:lk≠ki:=aD h d;exact q ki lk p v (f.free d) e ⟨⟨c,y⟩,⟨dl,hw (r _ _ (j _ _ h) i)⟩⟩
def Ow(X:Cs):Sp:=λvs H Q E=>∃c,vs=[.int c]/\∀ki lk w t H',0<=t->t<4->t % 2=1->(w=0\/(w=1/\t / 2 % 2=1))->aU H H'->H ki=none->H lk=none->KdO X H' ki lk w t->Q (.ref ki) H'
theorem Yu{c:Int}(q:∀ki lk w t H',0<=t->t<4->t % 2=1->(w=0\/(w=1/\t / 2 % 2=1))->aU H H'->H ki=none->H lk=none->KdO X H' ki lk w t->Q (.ref ki) H'):zm X.E X.F X.K (sU X.K) ⟨n,Q,bk,ct⟩ [some (.int c)] H:=by
 unfold zm;walk_at"e";refine uw (λz=>?_) (λz=>?_)
 ·refine Zf4 ?_;exact QM (λb a h=>by walk_at"e";exact h) (λe=>.inl ⟨rfl,e⟩) λki lk H' s n1 n2 kd=>q ki lk 0 1 H' (by decide) (by decide) (by decide) (.inl rfl) s n1 n2 kd
 ·refine uN ?_;refine Jb ?_;walk_at"s";refine uw (λy=>?_) (λy=>?_)
  ·refine Zf4 ?_;exact QM (λb a h=>by walk_at"e";exact h) (λe=>.inl ⟨rfl,e⟩) λki lk H' s n1 n2 kd=>q ki lk 0 3 H' (by decide) (by decide) (by decide) (.inl rfl) s n1 n2 kd
  ·refine uN ?_;refine Zf4 ?_;exact QM (λb a h=>by walk_at"e";exact h) (λe=>.inr ⟨rfl,e⟩) λki lk H' s n1 n2 kd=>q ki lk 1 3 H' (by decide) (by decide) (by decide) (.inr ⟨rfl,by decide⟩) s n1 n2 kd
theorem Ztl{z:Int}(a:0<=z)(h1:z<6):∃m:Int,atI [V.int 1,.int 2,.int 2,.int 3,.int 0,.int 8] z=some (.int m)/\0<=m/\m<=8:=by
 have:z=0\/z=1\/z=2\/z=3\/z=4\/z=5:=by omega
 rcases this with rfl | rfl | rfl | rfl | rfl | rfl
 ·exact⟨1,rfl,by decide,by decide⟩
 ·exact⟨2,rfl,by decide,by decide⟩
 ·exact⟨2,rfl,by decide,by decide⟩
 ·exact⟨3,rfl,by decide,by decide⟩
 ·exact⟨0,rfl,by decide,by decide⟩
 ·exact⟨8,rfl,by decide,by decide⟩
theorem Ys{c h s:Int}(q:∃(hn sn:Nat),h=(hn:Int)/\s=(sn:Int)/\∀t many bulk H',aU H H'->H t=none->0<=many->many<=8->0<=bulk->H' t=some (.tup (dV (.make hn sn many bulk)))->Q (.ref t) H'):
  zb K jt ⟨n,Q,bk,ct⟩ [some (.int c),some (.int h),some (.int s),none,none] H:=by
 obtain⟨hn,sn,rfl,rfl,q⟩:=q;have j:=Int.emod_nonneg c (show(7:Int)≠0 by decide);have o:(0:Int)<10 ^ Int.toNat 12+1:=by decide
 have k:=Int.emod_nonneg c (show(10:Int) ^ Int.toNat 12+1≠0 by decide);unfold zb;walk_at"e";refine⟨aX (by simp),λl nl=>?_⟩;generalize zz:upd H l _=H1;obtain⟨a,i⟩:=nwO nl zz;walk_at"e";refine⟨_,_,_,rfl,by decide,by decide,by decide,λz g z1=>?_⟩;obtain⟨m,f,d,e⟩:=Ztl g z1;walk_at"e";refine jW (cV.of i) f ?_;have fin:∀{b:Int},0<=b->∀{v:Option V},(bN (gn (aj (tC (.str "make")) (aj (ak 1) (aj (ak 2) (aj (ak 3) (aj (ak 4) aG))))))) ⟨n,Q,bk,ct⟩ [some (.int c),some (.int hn),some (.int sn),some (.int m),some (.int b)] H1:=by
  intro b hb v;walk_at"e";refine⟨aX (by simp),λt nt=>?_⟩;exact q t m b _ (a.trans (aL nt _)) (a.free nt) d e hb aq
 walk_at"e";refine uw (λy=>?_) (λy=>?_)
 ·walk_at"e";refine uw (λx=>absurd (y.symm.trans x) (by decide)) (λx=>?_);refine uN ?_;exact fin j (v:=none)
 ·walk_at"e";refine uw (λx=>?_) (λx=>?_)
  ·walk_at"s";exact⟨aX (by simp),λt nt=>q t m _ _ (a.trans (aL nt _)) (a.free nt) d e k aq⟩
  ·refine uN ?_;exact fin (Int.le_refl _) (v:=none)
theorem Yt{c:Int}(q:∀z:Int,Q (.int z) H):zj ⟨n,Q,bk,ct⟩ [some (.int c),none] H:=by
 have a:(0:Int)<10 ^ Int.toNat 60:=by decide
 unfold zj;walk_at"e";refine uw (λ_=>?_) (λ_=>?_)
 ·walk_at"e";exact q _
 ·walk_at"e";exact q _
end
def O1(K:aC):Sp:=λvs H Q E=>∃c l a,vs=[.int c,.ref l,.int a]/\∃hs,HsO H l hs/\HsB hs/\∀t d H',aU H H'->H t=none->H' t=some (.tup (dV d))->okR hs d->Q (.ref t) H'
def De(K:aC):Sp:=λvs H Q E=>∃c l a,vs=[.int c,.ref l,.int a]/\∃hs,HsO H l hs/\HsB hs/\∀r H',aU H H'->H r=none->RL H H' hs r 2->Q (.ref r) H'
def Jq(K:aC):Sp:=λvs H Q E=>∃l c a,vs=[.ref l,.int c,.int a]/\∃hs,HsO H l hs/\HsB hs/\∀r H',aU H H'->RL H H' hs r 200->Q (.ref r) H'
def Oq(K:aC):Sp:=λvs H Q E=>∃a l,vs=[.ref a,.ref l]/\∃ns:List Int,∃hs,cV K H a (ns.map V.int)/\ns.length<=63/\HsO H l hs/\HsB hs/\∀r H',aU H H'->RL H H' hs r 700->Q (.ref r) H'
section
theorem f38{x:Int}(a:0<=x)(h1:x<2):∃m:Int,atI [V.int 3,.int 8] x=some (.int m)/\0<m:=by
 have:x=0\/x=1:=by omega
 rcases this with rfl | rfl
 ·exact⟨3,rfl,by decide⟩
 ·exact⟨8,rfl,by decide⟩
theorem Yx{c sd:Int}{l:Addr}(q:∃hs,HsO H l hs/\HsB hs/\∀t d H',aU H H'->H t=none->H' t=some (.tup (dV d))->okR hs d->Q (.ref t) H'):
  zx K jt Ov Ou qJ ⟨n,Q,bk,ct⟩ [some (.int c),some (.ref l),some (.int sd),none,none,none,none,none,none,none] H:=by
 obtain⟨hs,O,hb,q⟩:=q;have n1:=hb.n1;have Zgn:∀{H':Hp}{ts:List Addr},HsO H' l hs->H' l=some (.lst (ts.map V.ref))->ts.length=hs.length:=λ{H' ts} h e=>by
  obtain⟨N,h1,h2⟩:=h;rw[h1]at e;have:=congrArg (λo=>match o with | some (HO.lst xs)=>xs.length | _=>0) e;simp only[bx]at this;rw[<- this];exact h2.length
 obtain⟨ts,ol,al⟩:=id O;have j:=al.length;unfold zx;walk_at"e";refine lK (cV.of ol) ?_;rw[bx,j];walk_at"e";refine⟨_,_,_,rfl,by decide,by decide,by omega,λzh h0 h1=>?_⟩;obtain⟨h,rfl⟩:=toN h0;have hh:h<hs.length:=by omega
 obtain⟨m,hm⟩:∃m,hs[h]? =some m:=⟨_,bL hh⟩;have mb:=hb.sb m (List.mem_of_getElem? hm);obtain⟨E,D,r⟩:=al.get hm;have p:atI (ts.map V.ref) (h:Int)=some (.ref E):=jl (by rw[cA,D];rfl);walk_at"e";refine jW (cV.of ol) p ?_;refine⟨E,_,1,_,rfl,rfl,je.of r,rfl,?_⟩;walk_at"e";refine⟨_,_,_,rfl,by decide,by decide,by omega,λzs s0 L=>?_⟩;obtain⟨s,rfl⟩:=toN s0;walk_at"e";refine jW (cV.of ol) p ?_;refine⟨E,_,1,_,rfl,rfl,je.of r,rfl,?_⟩;walk_at"e";refine⟨_,_,_,rfl,by decide,by decide,by omega,λzt t0 t1=>?_⟩;obtain⟨t,rfl⟩:=toN t0;walk_at"e";refine⟨aX (by simp),λW F=>?_⟩;generalize zz:upd H W _=H2;obtain⟨i,J⟩:=nwO F zz;walk_at"e";obtain⟨mf,B,z⟩:=f38 (x:=c % 5 / 4) (by omega) (by omega);refine jW (cV.of J) B ?_;walk_at"e";refine⟨_,_,_,rfl,by decide,by decide,z,λzf f0 _=>?_⟩;obtain⟨f,rfl⟩:=toN f0;walk_at"e";refine⟨_,_,_,rfl,by decide,by decide,by decide,λw w0 w1=>?_⟩;have os:Qp hs h s:=⟨m,hm,L⟩;have y:Qp hs h t:=⟨m,hm,t1⟩;have tup:∀(d:nY),okR hs d->∀tp,H2 tp=none->Q (.ref tp) (upd H2 tp (.tup (dV d))):=λd ok tp a=>q tp d _ (i.trans (aL a _)) (i.free a) aq ok;walk_at"e";refine uw (λ_=>?_) (λw5=>?_)
 ·walk_at"e";exact⟨_,_,_,rfl,h,s,rfl,rfl,λtp many bulk H' sm a R Z b0 o=>q tp _ H' (i.trans sm) (i.free a) o ⟨os,R,Z,b0⟩⟩
 walk_at"e";refine uw (λ_=>?_) (λw8=>?_)
 ·walk_at"e";exact⟨aX (by simp),λtp a=>tup (.get h s t f) ⟨os,y⟩ tp a⟩
 walk_at"e";refine uw (λ_=>?_) (λU=>?_)
 ·walk_at"e";exact⟨aX (by simp),λtp a=>tup (.put h t f s) ⟨y,os⟩ tp a⟩
 walk_at"e";refine uw (λ_=>?_) (λS=>?_)
 ·walk_at"e";exact⟨aX (by simp),λtp a=>tup (.copy h s t) ⟨os,y⟩ tp a⟩
 walk_at"e";refine uw (λ_=>?_) (λX=>?_)
 ·walk_at"e";exact⟨aX (by simp),λtp a=>tup (.drop h s) os tp a⟩
 walk_at"e";refine uw (λ_=>?_) (λP=>?_)
 ·have k:=i _ _ ol;walk_at"e";refine lK (cV.of k) ?_;rw[bx,j];walk_at"e";refine⟨_,_,_,rfl,by decide,by decide,by omega,λzg g0 g1=>?_⟩;obtain⟨g,rfl⟩:=toN g0;have hg:g<hs.length:=by omega
  obtain⟨mg,b⟩:∃m,hs[g]? =some m:=⟨_,bL hg⟩;have Y:=hb.sb mg (List.mem_of_getElem? b);obtain⟨tg,C,A⟩:=al.get b;walk_at"e";refine jW (cV.of k) (jl (v:=.ref tg) (by rw[cA,C];rfl)) ?_;refine⟨tg,_,1,_,rfl,rfl,je.of (i _ _ A),rfl,?_⟩;walk_at"e";refine⟨_,_,_,rfl,by decide,by decide,by omega,λzu I T=>?_⟩;obtain⟨u,rfl⟩:=toN I;walk_at"e";exact⟨aX (by simp),λtp a=>tup (.give h s g u) ⟨os,mg,b,T⟩ tp a⟩
 walk_at"e";refine uw (λ_=>?_) (λM=>?_)
 ·walk_at"e";refine⟨_,rfl,λld=>?_⟩;walk_at"e";exact⟨aX (by simp),λtp a=>tup (.write h t ld) y tp a⟩
 walk_at"e";refine⟨_,_,_,rfl,by decide,by decide,by decide,λzw a0 a1=>?_⟩;walk_at"e";refine⟨_,_,rfl,a0,by omega,λwd=>?_⟩;walk_at"e";refine uw (λ_=>?_) (λw18=>?_)
 ·walk_at"e";exact⟨aX (by simp),λtp a=>tup (.name h t wd) y tp a⟩
 walk_at"e";exact⟨aX (by simp),λtp a=>tup (.seek h s wd) os tp a⟩
def dW:nY->Str
 | .make .. =>"make"
 | .get .. =>"get"
 | .put .. =>"put"
 | .copy .. =>"copy"
 | .drop .. =>"drop"
 | .give .. =>"give"
 | .write .. =>"write"
 | .read .. =>"read"
 | .name .. =>"name"
 | .seek .. =>"seek"
theorem dV0(d:nY):∃r,dV d=.str (dW d)::r:=by cases d<;>exact⟨_,rfl⟩
theorem Zsi{d:nY}(h:dW d="put"):∃h t f s,d=.put h t f s:=by
 cases d<;>first | exact⟨_,_,_,_,rfl⟩ | exact absurd h (by simp only[dW];decide)
theorem Zsj{d:nY}(h:dW d="get"):∃h s t f,d=.get h s t f:=by
 cases d<;>first | exact⟨_,_,_,_,rfl⟩ | exact absurd h (by simp only[dW];decide)
theorem TY{c y:Int}{l:Addr}(q:∃hs,HsO H l hs/\HsB hs/\∀r H',aU H H'->H r=none->RL H H' hs r 2->Q (.ref r) H'):
  wW K (O1 K) jt ⟨n,Q,bk,ct⟩ [some (.int c),some (.ref l),some (.int y),none] H:=by
 obtain⟨hs,B,hb,q⟩:=q;unfold wW;walk_at"e";refine⟨_,_,_,rfl,hs,B,hb,λt d A b nt k ok=>?_⟩;obtain⟨E,D⟩:=dV0 d;have x:atI (dV d) 0=some (.str (dW d)):=by rw[D];exact jl (j:=0) rfl
 have one:bN (iy (aj (ak 3) aG)) ⟨n,Q,bk,ct⟩ [some (.int c),some (.ref l),some (.int y),some (.ref t)] A:=by
  walk_at"e";refine⟨aX (by simp),λr g=>?_⟩;have a:=aL g (.lst [.ref t]);exact q r _ (b.trans a) (b.free g) ((rl1 (d:=d) (b.trans a) (b.free g) nt aq (a _ _ k) ok).mono (by decide))
 have p:(aN (fG ((Ng (cj (bF (yw) (bF (fD K) (ak 3) (tC (.int 0))) (tC (.str "get")))) (cj (bF (yw) (bF (rI (λ_ j=>0<j) λi j=>.int (i % j)) (bF (rI Ug λi j=>.int (i / j)) (ak 0) (tC (.int 5))) (tC (.int 2))) (tC (.int 0)))))) (bN (iy (aj (ak 3) (aj (gn (aj (tC (.str "put")) (aj (bF (fD K) (ak 3) (tC (.int 1))) (aj (bF (fD K) (ak 3) (tC (.int 3))) (aj (bF (fD K) (ak 3) (tC (.int 4))) (aj (aW jt [] E0 (aj (ak 0) (aj (tC (.int 1159523)) (aj (tC (.int 3)) aG)))) aG)))))) aG)))) cR)
   (bN (iy (aj (ak 3) aG)))) ⟨n,Q,bk,ct⟩ [some (.int c),some (.ref l),some (.int y),some (.ref t)] A:=by
  walk_at"e";refine⟨t,_,0,_,rfl,rfl,je.of k,x,?_⟩;walk_at"e";refine uw (λhp=>?_) (λ_=>?_)
  ·obtain⟨h,s,w,f,rfl⟩:=Zsj hp;obtain⟨o1,o2⟩:=ok;walk_at"e";refine uw (λ_=>?_) (λ_=>?_)
   ·walk_at"e";refine⟨t,_,1,_,rfl,rfl,je.of k,rfl,?_⟩;walk_at"e";refine⟨t,_,3,_,rfl,rfl,je.of k,rfl,?_⟩;walk_at"e";refine⟨t,_,4,_,rfl,rfl,je.of k,rfl,?_⟩;walk_at"e";refine⟨_,_,_,rfl,by decide,by decide,by decide,λz C z1=>?_⟩;obtain⟨sl,rfl⟩:=toN C;walk_at"e";refine⟨aX (by simp),λu v=>⟨aX (by simp),λr g=>?_⟩⟩;have a:=aL v (.tup (dV (.put h w f sl)));have o:=aL g (.lst [.ref t,.ref u]);have hh:h<hs.length:=by obtain⟨m,hm,_⟩:=o1;exact(dX hm).1
    exact q r _ (b.trans (a.trans o)) (b.free (a.free g)) (rl2 (d:=.get h s w f) (e:=.put h w f sl) (b.trans (a.trans o)) (b.free (a.free g)) nt (b.free v) aq (o _ _ (a _ _ k)) ⟨o1,o2⟩ (o _ _ aq) ⟨o2,hb.ok hh (by omega)⟩)
   ·exact one
  ·exact one
 walk_at"e";refine⟨t,_,0,_,rfl,rfl,je.of k,x,?_⟩;walk_at"e";refine uw (λhp=>?_) (λ_=>?_)
 ·obtain⟨h,w,f,s,rfl⟩:=Zsi hp;obtain⟨o1,o2⟩:=ok;walk_at"e";refine uw (λ_=>?_) (λ_=>?_)
  ·walk_at"e";refine⟨t,_,1,_,rfl,rfl,je.of k,rfl,?_⟩;walk_at"e";refine⟨t,_,4,_,rfl,rfl,je.of k,rfl,?_⟩;walk_at"e";refine⟨aX (by simp),λu v=>⟨aX (by simp),λr g=>?_⟩⟩;have a:=aL v (.tup (dV (.drop h s)));have o:=aL g (.lst [.ref t,.ref u]);exact q r _ (b.trans (a.trans o)) (b.free (a.free g)) (rl2 (d:=.put h w f s) (e:=.drop h s) (b.trans (a.trans o)) (b.free (a.free g)) nt (b.free v) aq (o _ _ (a _ _ k)) ⟨o1,o2⟩ (o _ _ aq) o2)
  ·exact p
 ·exact p
end
section
def Zhs(σ:St)(e:TE)(d:nY):Prop:=∀(b:Hp) (c:VK),(∀t a,aU b a->b t=none->a t=some (.tup (dV d))->c (.ref t) a)->e σ b c
theorem VH{σ:St}{c:TE}{d:nY}(h:∀(a:Hp) (b:VK),(∀t,a t=none->b (.ref t) (upd a t (.tup (dV d))))->c σ a b):Zhs σ c d:=λa b k=>h a b λt nt=>k t _ (aL nt _) nt aq
theorem Zb8{H0:Hp}{hs:LK}{d e:nY}{h i:TE}{σ:St}(b:aU H0 H)(q:Zhs σ h d)(hb:Zhs σ i e)(kd:okR hs d)(o:okR hs e)(k:∀l H',aU H H'->RL H0 H' hs l 2->Q (.ref l) H'):iy (aj h (aj i aG)) σ H Q:=by
 walk_at"s";refine q H _ λt n a nt p=>?_;walk_at"s";refine hb n _ λu r f j m=>?_;walk_at"s";refine⟨aX (by simp),λl nl=>?_⟩;have c:=aL nl (.lst [.ref t,.ref u]);have g:=b.trans (a.trans (f.trans c));exact k l _ (a.trans (f.trans c)) (rl2 g (b.free (a.free (f.free nl))) (b.free nt) (b.free (a.free j)) aq (c _ _ (f _ _ p)) kd (c _ _ m) o)
theorem Zi1{H0:Hp}{hs:LK}{d e f:nY}{j m tc:TE}{σ:St}(c:aU H0 H)(x:Zhs σ j d)(hb:Zhs σ m e)(hc:Zhs σ tc f)(kd:okR hs d)(s:okR hs e)(y:okR hs f)(k:∀l H',aU H H'->RL H0 H' hs l 3->Q (.ref l) H'):iy (aj j (aj m (aj tc aG))) σ H Q:=by
 walk_at"s";refine x H _ λt q b nt v=>?_;walk_at"s";refine hb q _ λu o h n p=>?_;walk_at"s";refine hc o _ λw z g r ow=>?_;walk_at"s";refine⟨aX (by simp),λl nl=>?_⟩;have a:=aL nl (.lst [.ref t,.ref u,.ref w]);have i:=c.trans (b.trans (h.trans (g.trans a)));exact k l _ (b.trans (h.trans (g.trans a))) (rl3 i (c.free (b.free (h.free (g.free nl)))) (c.free nt) (c.free (b.free n)) (c.free (b.free (h.free r))) aq (a _ _ (g _ _ (h _ _ v))) kd (a _ _ (g _ _ p)) s (a _ _ ow) y)
theorem TQ{l:Addr}{c N:Int}(q:∃hs,HsO H l hs/\HsB hs/\∀r H',aU H H'->RL H H' hs r 200->Q (.ref r) H'):
  wR K jt qJ ⟨n,Q,bk,ct⟩ [some (.ref l),some (.int c),some (.int N),none,none,none] H:=by
 obtain⟨hs,ho,hb,q⟩:=q;obtain⟨ts,ol,al⟩:=id ho;have T:=al.length;have n5:=hb.n5;unfold wR;walk_at"e";refine⟨by decide,λr0 nr0=>?_⟩;have s1:=aL nr0 (.lst []);have g1:RL H (upd H r0 (.lst [])) hs r0 0:=⟨s1,nr0,[],aq,Nat.le_refl _,λv hv=>(nomatch hv)⟩;generalize upd H r0 (.lst [])=I at s1 g1 ⊢;walk_at"e";refine lK (cV.of (s1 _ _ ol)) ?_;rw[bx,T];walk_at"e";refine⟨_,rfl,by omega,by omega,?_⟩;refine forR (λk σ a=>∃r o,σ=[some (.ref l),some (.int c),some (.int N),some (.ref r),o,none]/\aU H a/\RL H a hs r (4 * k)) ⟨r0,_,rfl,s1,g1⟩ ?_ ?_
 ·rintro k σ a hk ⟨r,o,rfl,B,J⟩;have E:k<hs.length:=by omega
  rw[Int.zero_add];obtain⟨f,ef⟩:=toN (x:=(k:Int) % 2) (by omega);have P:Qp hs k 0:=hb.ok E (by decide);have o1:Qp hs k 1:=hb.ok E (by decide);refine Zoi ?_;refine Jb ?_;refine QZ ?_;refine Zdi ?_;refine Zdh ?_;refine Zb8 (H0:=H) B (d:=.make k 0 2 0) (e:=.make k 1 1 0) (VH λI S h=>by walk_at"e";exact⟨aX (by simp),h⟩) (VH λI S h=>by walk_at"e";exact⟨aX (by simp),h⟩) ⟨P,by decide,by decide,by decide⟩ ⟨o1,by decide,by decide,by decide⟩ λY H2 Z rl2=>?_;refine xQ (J.same Z) rl2 (by omega) λr3 b sm3 _ rl3=>?_;refine Za6 ?_;refine QZ ?_;refine Zdi ?_;refine Zdh ?_;refine Zb8 (H0:=H) rl3.s (d:=.put k 0 f 1) (e:=.drop k 1) (VH λI S h=>by walk_at"e";rw[ef];exact⟨aX (by simp),h⟩) (VH λI S h=>by walk_at"e";exact⟨aX (by simp),h⟩) ⟨P,o1⟩ o1 λl4 R sm4 A=>?_;refine xQ (rl3.same sm4) A (by omega) λr5 W sm5 _ O=>?_;refine Za6 ?_;exact⟨r5,_,rfl,B.trans (Z.trans (sm3.trans (sm4.trans sm5))),O.mono (by omega)⟩
 ·rintro σ a ⟨r,o,rfl,B,J⟩;have J:=J.mono (N':=20) (by omega);walk_at"e";refine⟨_,_,_,rfl,by decide,by decide,by decide,λw w0 w1=>?_⟩;have rest:∀{F:Addr}{b:Hp}{o:Option V},aU H b->RL H b hs F 30->(aN (bD (bF (vd) (ak 3) (bF (Zt) (iy (aj (tC .non) aG)) (bF (oY λi j=>.int (i+j)) (tC (.int 1)) (aW jt [] E0 (aj (ak 1) (aj (tC (.int 882377)) (aj (tC (.int 4)) aG))))))) (aM 3))
   (pF K qJ)) ⟨n,Q,bk,ct⟩ [some (.ref l),some (.int c),some (.int N),some (.ref F),o,some (.int w)] b:=by
   intro F b o g rl1;walk_at"e";refine⟨by decide,λl0 nl0=>?_⟩;generalize zz:upd b l0 _=R;obtain⟨m,g4⟩:=nwO nl0 zz;have A:=rl1.same m;walk_at"e";refine⟨_,_,_,rfl,by decide,by decide,by decide,λz z0 z1=>?_⟩;walk_at"e";refine Qu (H0:=H) (hs:=hs) A.s g4 (by omega) (by omega) λl5 W C _ O=>?_;refine xQ (A.same C) (O.mono (N':=4) (by omega)) (by decide) λr6 H6 U _ rl6=>?_;have X:=g.trans (m.trans (C.trans U));refine Za6 ?_;unfold pF;walk_at"e";refine lK (cV.of (X _ _ ol)) ?_;rw[bx,T];walk_at"e";refine⟨_,rfl,by omega,by omega,?_⟩;refine forR (λk σ a=>∃r o,σ=[some (.ref l),some (.int c),some (.int N),some (.ref r),o,some (.int w)]/\aU H a/\RL H a hs r (34+7 * k)) ⟨r6,_,rfl,X,rl6⟩ ?_ ?_
   ·rintro k σ a hk ⟨r,o,rfl,B,J⟩;have E:k<hs.length:=by omega
    rw[Int.zero_add];obtain⟨f,ef⟩:=toN (x:=(k:Int) % 2) (by omega);have P:Qp hs k 0:=hb.ok E (by decide);have o1:Qp hs k 1:=hb.ok E (by decide);have o2:Qp hs k 2:=hb.ok E (by decide);refine Zoi ?_;refine Jb ?_;have L:∀{F:Addr}{b:Hp},aU H b->RL H b hs F (34+7 * k+5)->(fG (cj (bF (yw) (ak 5) (tC (.int 3)))) (bD (bF (vd) (ak 3) (iy (aj (gn (aj (tC (.str "name")) (aj (ak 4) (aj (tC (.int 0)) (aj (aW qJ [] E0 (aj (ak 2) (aj (bF (rI (λ_ j=>0<j) λi j=>.int (i % j)) (ak 4) (tC (.int 2))) aG))) aG))))) (aj (gn (aj (tC (.str "drop")) (aj (ak 4) (aj (tC (.int 0)) aG)))) aG)))) (aM 3)) cR) ⟨λσ a=>∃r o,σ=[some (.ref l),some (.int c),some (.int N),some (.ref r),o,some (.int w)]/\aU H a/\RL H a hs r (34+7 * (k+1)),Q,bN (ak 3) ⟨n,Q,bk,ct⟩,λσ a=>∃r o,σ=[some (.ref l),some (.int c),some (.int N),some (.ref r),o,some (.int w)]/\aU H a/\RL H a hs r (34+7 * (k+1))⟩ [some (.ref l),some (.int c),some (.int N),some (.ref F),some (.int k),some (.int w)] b:=by
     intro F b g rl3;walk_at"e";refine uw (λ_=>?_) (λ_=>?_)
     ·refine QZ ?_;refine Zdi ?_;refine Zdh ?_;walk_at"s";refine⟨_,_,rfl,by omega,by omega,λwd=>?_⟩;walk_at"s";refine⟨aX (by simp),λt nt=>?_⟩;have m:=aL nt (.tup (dV (.name k 0 wd)));have g4:upd b t (.tup (dV (.name k 0 wd))) t=some (.tup (dV (.name k 0 wd))):=aq;show aj _ _ _ (upd b t (.tup (dV (.name k 0 wd)))) _;generalize upd b t (.tup (dV (.name k 0 wd)))=R at m g4 ⊢;walk_at"s";refine⟨aX (by simp),λu nu=>⟨aX (by simp),λY M=>?_⟩⟩;have C:=aL nu (.tup (dV (.drop k 0)));have g5:upd R u (.tup (dV (.drop k 0))) u=some (.tup (dV (.drop k 0))):=aq;show vd _ _ (upd (upd R u (.tup (dV (.drop k 0)))) Y _) _;have M:upd R u (.tup (dV (.drop k 0))) Y=none:=M;generalize upd R u (.tup (dV (.drop k 0)))=W at C g5 M ⊢;have U:=aL M (.lst [.ref t,.ref u]);have r6:RL H (upd W Y (.lst [.ref t,.ref u])) hs Y 2:=rl2 (d:=.name k 0 wd) (e:=.drop k 0) (g.trans (m.trans (C.trans U))) (g.free (m.free (C.free M))) (g.free nt) (g.free (m.free nu)) aq (U _ _ (C _ _ g4)) P (U _ _ g5) P;have s36:=m.trans (C.trans U);refine xQ (rl3.same s36) r6 (by omega) λr7 H7 s7 _ rl7=>?_;refine Za6 ?_;exact⟨r7,_,rfl,g.trans (s36.trans s7),rl7.mono (by omega)⟩
     ·refine uN ?_;exact⟨F,_,rfl,g,rl3.mono (by omega)⟩
    have D:∀{F:Addr}{b:Hp},aU H b->RL H b hs F (34+7 * k+2)->(aN (fG (cj (bF (oY λi j=>.bl (decide (j<i))) (ak 5) (tC (.int 1)))) (bD (bF (vd) (ak 3) (iy (aj (gn (aj (tC (.str "make")) (aj (ak 4) (aj (tC (.int 0)) (aj (tC (.int 1)) (aj (tC (.int 0)) aG)))))) (aj (gn (aj (tC (.str "put")) (aj (ak 4) (aj (tC (.int 0)) (aj (tC (.int 0)) (aj (tC (.int 1)) aG)))))) (aj (gn (aj (tC (.str "drop")) (aj (ak 4) (aj (tC (.int 1)) aG)))) aG))))) (aM 3)) cR)
     (fG (cj (bF (yw) (ak 5) (tC (.int 3)))) (bD (bF (vd) (ak 3) (iy (aj (gn (aj (tC (.str "name")) (aj (ak 4) (aj (tC (.int 0)) (aj (aW qJ [] E0 (aj (ak 2) (aj (bF (rI (λ_ j=>0<j) λi j=>.int (i % j)) (ak 4) (tC (.int 2))) aG))) aG))))) (aj (gn (aj (tC (.str "drop")) (aj (ak 4) (aj (tC (.int 0)) aG)))) aG)))) (aM 3)) cR)) ⟨λσ a=>∃r o,σ=[some (.ref l),some (.int c),some (.int N),some (.ref r),o,some (.int w)]/\aU H a/\RL H a hs r (34+7 * (k+1)),Q,bN (ak 3) ⟨n,Q,bk,ct⟩,λσ a=>∃r o,σ=[some (.ref l),some (.int c),some (.int N),some (.ref r),o,some (.int w)]/\aU H a/\RL H a hs r (34+7 * (k+1))⟩ [some (.ref l),some (.int c),some (.int N),some (.ref F),some (.int k),some (.int w)] b:=by
     intro F b g rl3;refine Jb ?_;walk_at"s";refine uw (λ_=>?_) (λ_=>?_)
     ·refine QZ ?_;refine Zdi ?_;refine Zdh ?_;refine Zi1 (H0:=H) g (d:=.make k 0 1 0) (e:=.put k 0 0 1) (f:=.drop k 1) (VH λI S h=>by walk_at"e";exact⟨aX (by simp),h⟩) (VH λI S h=>by walk_at"e";exact⟨aX (by simp),h⟩) (VH λI S h=>by walk_at"e";exact⟨aX (by simp),h⟩) ⟨P,by decide,by decide,by decide⟩ ⟨P,o1⟩ o1 λl4 R m A=>?_;refine xQ (rl3.same m) A (by omega) λr5 W C _ O=>?_;refine Za6 ?_;exact L (g.trans (m.trans C)) (O.mono (by omega))
     ·refine uN ?_;exact L g (rl3.mono (by omega))
    walk_at"s";refine uw (λ_=>?_) (λ_=>?_)
    ·refine QZ ?_;refine Zdi ?_;refine Zdh ?_;refine Zb8 (H0:=H) B (d:=.get k 1 0 f) (e:=.put k 0 f 2) (VH λI S h=>by walk_at"e";rw[ef];exact⟨aX (by simp),h⟩) (VH λI S h=>by walk_at"e";rw[ef];exact⟨aX (by simp),h⟩) ⟨o1,P⟩ ⟨P,o2⟩ λl4 R m A=>?_;refine xQ (J.same m) A (by omega) λr5 W C _ O=>?_;refine Za6 ?_;exact D (B.trans (m.trans C)) (O.mono (by omega))
    ·refine uN ?_;exact D B (J.mono (by omega))
   ·rintro σ a ⟨r,o,rfl,B,J⟩;walk_at"e";exact q r a B (J.mono (by omega))
  walk_at"e";refine uw (λ_=>?_) (λ_=>?_)
  ·refine QZ ?_;refine Zdi ?_;refine Zdh ?_;refine Em ?_;walk_at"s";refine lK (cV.of (B _ _ ol)) ?_;rw[bx,T];walk_at"s";refine⟨_,rfl,by omega,by omega,?_⟩;refine Znz (n:=hs.length) rfl (by omega) (λi y a=>∃t,y=.ref t/\H t=none/\a t=some (.tup (dV (.make i 1 0 0)))) (λi y I H2 ⟨t,e,f,z⟩ s=>⟨t,e,f,s _ _ z⟩) (λi I q hq=>CQ hq) (λi I hi g q hq=>?_) ?_
   ·walk_at"c";walk_at"e";exact⟨aX (by simp),λt nt=>hq _ _ (aL nt _) ⟨t,rfl,B.free (g.free nt),aq⟩⟩
   ·intro ys b g ly hy p np;have m:=aL np (.lst ys);have r4:RL H (upd b p (.lst ys)) hs p 5:=⟨B.trans (g.trans m),B.free (g.free np),ys,aq,by omega,λv hv=>by
     obtain⟨i,hi,e⟩:=List.getElem_of_mem hv;obtain⟨t,e2,fz,z⟩:=hy i v (by rw[bL hi,e]);exact .inr ⟨t,_,e2,fz,m _ _ z,hb.ok (by omega) (by decide),by decide,by decide,by decide⟩⟩
    refine xQ (J.same (g.trans m)) r4 (by decide) λr5 W C _ O=>?_;refine Za6 ?_;exact rest (B.trans (g.trans (m.trans C))) (O.mono (by decide))
  ·refine uN ?_;exact rest B (J.mono (by decide))
theorem Yq{a l:Addr}(q:∃ns:List Int,∃hs,cV K H a (ns.map V.int)/\ns.length<=63/\HsO H l hs/\HsB hs/\∀r H',aU H H'->RL H H' hs r 700->Q (.ref r) H'):
  yZ K (qK K) (De K) jt (Jq K) ⟨n,Q,bk,ct⟩ [some (.ref a),some (.ref l),none,none,none,none,none] H:=by
 obtain⟨ns,hs,E,hlen,Y,hb,q⟩:=q;unfold yZ;walk_at"e";refine⟨by decide,λL B=>?_⟩;have d:=aL B (.lst []);have Z:RL H (upd H L (.lst [])) hs L 200:=⟨d,B,[],aq,Nat.zero_le _,λv hv=>(nomatch hv)⟩;generalize upd H L (.lst [])=H1 at d Z ⊢;have rest:∀{I:Addr}{o:Hp},aU H o->RL H o hs I 200->(qb K (qK K) (De K) jt) ⟨n,Q,bk,ct⟩ [some (.ref a),some (.ref l),some (.ref I),none,none,none,none] o:=by
  intro I o k rl2;unfold qb;walk_at"e";refine⟨a,2,rfl,ns,k.seq E,by decide,λsd=>?_⟩;walk_at"e";refine⟨a,_,rfl,k.seq E,λC S=>?_⟩;have U:∃J:List Int,Zho (ns.map V.int) (some 3) (some 43)=J.map V.int/\J.length<=63:=by
   refine⟨(ns.drop (HT.Y5 ns.length 0 (some 3))).take (HT.Y5 ns.length ns.length (some 43) - HT.Y5 ns.length 0 (some 3)),?_,?_⟩
   ·unfold Zho;rw[List.map_take,List.map_drop,bx]
   ·rw[List.length_take,List.length_drop];omega
  obtain⟨J,ez,lz⟩:=U;rw[ez];generalize zz:upd o C _=H3;obtain⟨P,X⟩:=nwO S zz;refine⟨C,rfl,⟨_,cV.of X⟩,forL (J.map V.int) (λi σ m=>∃r N W,σ=[some (.ref a),some (.ref l),some (.ref r),some (.int sd),some (.int i),N,W]/\aU H3 m/\RL H m hs r (200+6 * i)) ⟨I,_,_,rfl,aU.refl _,rl2.same P⟩ (λ_ _ _ _ ⟨_,_,_,_,z,_⟩=>cV.of (z _ _ X)) ?_ ?_⟩
  ·rintro i x σ m hi ⟨r,N,W,rfl,D,p⟩;have O:=(dX hi).1;rw[bx]at O;obtain⟨c,hc,rfl⟩:=List.mem_map.mp (List.mem_of_getElem? hi);have hii:(i:Int) * i<=3969:=by
    have:=Nat.mul_le_mul (show i<=63 by omega) (show i<=63 by omega);have e:((i * i:Nat):Int)=(i:Int) * i:=by push_cast;rfl
    omega
   have hi0:0<=(i:Int) * i:=Int.mul_nonneg (by omega) (by omega);have F:=k.trans (P.trans D);walk_at"e";generalize c+(i:Int) * i * 1000003=z;refine⟨_,_,_,rfl,by decide,by decide,by decide,λy y0 y1=>?_⟩;walk_at"e";refine uw (λ_=>?_) (λ_=>?_)
   ·walk_at"e";refine⟨by decide,λT j=>?_⟩;generalize zz:upd m T _=H5;obtain⟨g,M⟩:=nwO j zz;have f:=p.same g;walk_at"e";refine⟨_,_,_,rfl,by decide,by decide,by decide,λw w0 w1=>?_⟩;walk_at"e";refine Qu (H0:=H) (hs:=hs) f.s M (by omega) (by omega) λl6 H6 A _ h=>?_;refine xQ (f.same A) (h.mono (N':=6) (by omega)) (by omega) λu R t _ b=>?_;walk_at"e";refine Zky rfl ?_;exact⟨u,_,_,by rw[show((i+1:Nat):Int)=(i:Int)+1 from by push_cast;rfl];rfl,D.trans (g.trans (A.trans t)),b.mono (by omega)⟩
   ·walk_at"e";refine⟨_,_,_,rfl,hs,Y.same F,hb,λr5 H5 g _ f=>?_⟩;have f:=f.base F;refine xQ (p.same g) f (by omega) λu R t _ b=>?_;walk_at"e";refine Zky rfl ?_;exact⟨u,_,_,by rw[show((i+1:Nat):Int)=(i:Int)+1 from by push_cast;rfl];rfl,D.trans (g.trans t),b.mono (by omega)⟩
  ·rintro σ m ⟨r,N,W,rfl,D,p⟩;rw[bx]at p;walk_at"e";refine⟨by decide,λT j=>?_⟩;generalize zz:upd m T _=H5;obtain⟨g,M⟩:=nwO j zz;have f:=p.same g;walk_at"e";refine⟨_,_,_,rfl,by decide,by decide,by decide,λw w0 w1=>?_⟩;walk_at"e";refine Qu (H0:=H) (hs:=hs) f.s M (by omega) (by omega) λl6 H6 A _ h=>?_;refine xQ (f.same A) (h.mono (N':=24) (by omega)) (by omega) λu R t _ b=>?_;exact q u R (k.trans (P.trans (D.trans (g.trans (A.trans t))))) (b.mono (by omega))
 walk_at"e";refine⟨a,0,rfl,ns,d.seq E,by decide,λc0=>?_⟩;walk_at"e";refine⟨_,_,_,rfl,by decide,by decide,by decide,λz z0 z1=>?_⟩;walk_at"e";refine uw (λ_=>?_) (λ_=>?_)
 ·walk_at"e";refine⟨a,0,rfl,ns,d.seq E,by decide,λc1=>?_⟩;walk_at"e";refine⟨a,2,rfl,ns,d.seq E,by decide,λc2=>?_⟩;walk_at"e";refine⟨_,_,_,rfl,hs,Y.same d,hb,λr o k rl2=>?_⟩;refine Zrw ?_;exact rest (d.trans k) (rl2.base d)
 ·refine uN ?_;exact rest d Z
end
def Gv(M:Wm):Prop:=M.sw.phase="walk"->M.sw.grey.Nodup/\∀x∈M.sw.grey,∃c,cellAt M x=some c/\c.tone=M.sw.sense
structure KW(M:Wm)(hs:LK)(k:Nat):Prop where
 hl:M.hands.length=hs.length
 hn:∀(i:Nat) m n,M.hands[i]? =some m->hs[i]? =some n->m.2.length=n.2.toNat
 cl:M.cells.length<=k
 nl:M.names.length<=k
 fl:∀c,some c∈M.cells->c.fl.length<=8
 gr:Gv M
 ph:M.sw.phase="rest"\/M.sw.phase="walk"\/M.sw.phase="give"\/M.sw.phase="lost"
 a0:0<=M.sw.at'
 tl:0<=M.tells/\M.tells<4
section
variable {M:Wm}{hs:LK}{k:Nat}
theorem Z2:∀(n:Nat) (l:List Int),l.Nodup->(∀x∈l,0<=x/\x<n)->l.length<=n
 | 0,l,_,h=>by
  cases l with
  | nil=>exact Nat.le_refl _
  | cons x l=>have:=h x (by simp);omega
 | n+1,l,nd,h=>by
  have h1:(l.erase (n:Int)).length<=n:=Z2 n _ (nd.erase _) λx hx=>by
   have h2:=h x (List.mem_of_mem_erase hx);have h3:x≠(n:Int):=((nd.mem_erase_iff).mp hx).1
   push_cast at h2
   omega
  have h4:=List.length_erase (a:=(n:Int)) (l:=l);split at h4<;>omega
theorem Vv{x:Int}{c:Ce}(h:cellAt M x=some c):0<=x/\x<M.cells.length:=by
 obtain⟨a,h1⟩:=bT.mp h;have:=(dX h1).1;omega
theorem KW.ok(p:KW M hs k)(hb:HsB hs)(hk:k<=900):Gq M:=by
 have b:=p.cl;have d:=p.nl;refine⟨by omega,λm hm=>?_,λc hc=>by have:=p.fl c hc;omega,by omega,λph=>?_,λph x hx=>?_,p.ph,p.a0⟩
 ·obtain⟨i,hi,e⟩:=List.getElem_of_mem hm;have a:i<hs.length:=by rw[<- p.hl];exact hi
  have h1:=p.hn i m _ (by rw[bL hi,e]) (bL a);have h2:=hb.sb _ (List.getElem_mem a);omega
 ·obtain⟨nd,h1⟩:=p.gr ph;refine Nat.le_trans (Z2 M.cells.length _ nd λx hx=>?_) (by omega);obtain⟨c,hc,_⟩:=h1 x hx;exact Vv hc
 ·obtain⟨c,hc,_⟩:=(p.gr ph).2 x hx;exact⟨c,hc⟩
theorem KW.An(p:KW M hs k){h s:Nat}(o:Qp hs h s):An M h s:=by
 obtain⟨m,hm,a⟩:=o;have hh:h<M.hands.length:=by rw[p.hl];exact(dX hm).1
 refine⟨_,bL hh,?_⟩;have:=p.hn h _ m (bL hh) hm;omega
theorem KW.okD(p:KW M hs k){d:nY}(o:okR hs d):okD M d:=by
 cases d with
 | make h s many bulk=>exact⟨p.An o.1,o.2.1,by have:=o.2.2.1;omega,o.2.2.2⟩
 | get h s t f=>exact⟨p.An o.1,p.An o.2⟩
 | put h t f s=>exact⟨p.An o.1,p.An o.2⟩
 | copy h s t=>exact⟨p.An o.1,p.An o.2⟩
 | drop h s=>exact p.An o
 | give h s g t=>exact⟨p.An o.1,p.An o.2⟩
 | write h t l=>exact p.An o
 | read h t=>exact p.An o
 | name h t z=>exact p.An o
 | seek h s z=>exact p.An o
theorem KW.mono{a:Nat}(p:KW M hs k)(h:k<=a):KW M hs a:=by
 obtain⟨d,g,j,l,f,e,i,b,c⟩:=p;exact⟨d,g,by omega,by omega,f,e,i,b,c⟩
theorem KW.slot(p:KW M hs k)(h s:Nat)(x:Option Int):KW (setSlot M h s x) hs k:=by
 obtain⟨j,e,q,r,t,l,o,g,f⟩:=p;refine⟨by show(M.hands.modify h _).length=_;rw[List.length_modify];exact j,λi m n a d=>?_,q,r,t,l,o,g,f⟩;have a:(M.hands.modify h λm=>(m.1,m.2.set s x))[i]? =some m:=a;rw[List.getElem?_modify]at a;cases c:M.hands[i]? with
 | none=>rw[c]at a;cases a
 | some b=>
  rw[c]at a
  by_cases z:h=i
  ·have e3:(b.1,b.2.set s x)=m:=by simpa[z]using a
   rw[<- e3];show(b.2.set s x).length=_;rw[List.length_set];exact e i b n c d
  ·have e3:b=m:=by simpa[z]using a
   rw[<- e3];exact e i b n c d
theorem di{i:Int}{c c':Ce}(h:cellAt M i=some c)(x:Int):cellAt (setCell M i c') x=if x=i then some c' else cellAt M x:=by
 obtain⟨b,h1⟩:=bT.mp h;unfold cellAt;show(if 0<=x then((M.cells.set i.toNat (some c'))[x.toNat]?).join else none)=_
 by_cases e:x=i
 ·subst e;rw[if_pos b,if_pos rfl,List.getElem?_set_self (dX h1).1];rfl
 ·rw[if_neg e]
  by_cases a:0<=x
  ·rw[if_pos a,if_pos a,List.getElem?_set_ne (by omega)]
  ·rw[if_neg a,if_neg a]
theorem KW.cell(p:KW M hs k){i:Int}{c c':Ce}(h:cellAt M i=some c)(r:c'.tone=c.tone)(s:c'.fl.length=c.fl.length):KW (setCell M i c') hs k:=by
 have h8:=p.fl c (nJ h);obtain⟨j,q,n,o,g,l,m,f,b⟩:=p;refine⟨j,q,by show(M.cells.set _ _).length<=_;rw[List.length_set];exact n,o,λd hd=>?_,λph=>?_,m,f,b⟩
 ·rcases List.mem_or_eq_of_mem_set (show some d∈M.cells.set _ _ from hd)with hd | hd
  ·exact g d hd
  ·cases hd;omega
 ·obtain⟨nd,h1⟩:=l ph;refine⟨nd,λx hx=>?_⟩;obtain⟨d,hd,a⟩:=h1 x hx;rw[di h]
  by_cases e:x=i
  ·subst e;rw[h]at hd;cases hd;exact⟨c',by rw[if_pos rfl],by rw[r];exact a⟩
  ·exact⟨d,by rw[if_neg e];exact hd,a⟩
theorem KW.note(p:KW M hs k)(x:Option Int):KW (bY M x).2 hs k:=by
 cases x with
 | none=>exact p
 | some i=>
  unfold bY;dsimp only;cases hc:cellAt M i with
  | none=>exact p
  | some c=>
   dsimp only;split
   ·rename_i z
    obtain⟨z1,o⟩:=z;have h8:=p.fl c (nJ hc);obtain⟨l,u,q,r,t,m,n,j,h⟩:=p;obtain⟨nd,h1⟩:=m z1;have f:i∉M.sw.grey:=λhi=>by
     obtain⟨d,hd,g⟩:=h1 i hi;rw[hc]at hd;cases hd;exact o g
    refine⟨l,u,by show(M.cells.set _ _).length<=_;rw[List.length_set];exact q,r,λd hd=>?_,λ_=>⟨?_,λx hx=>?_⟩,n,j,h⟩
    ·rcases List.mem_or_eq_of_mem_set (show some d∈M.cells.set _ _ from hd)with hd | hd
     ·exact t d hd
     ·cases hd;exact h8
    ·show(M.sw.grey++[i]).Nodup;rw[List.nodup_append];exact⟨nd,by simp,λa s b hb e=>f (by rw[List.mem_singleton.mp hb]at e;rw[<- e];exact s)⟩
    ·have e:=di (c':={ c with tone:=M.sw.sense }) hc x;show ∃d,cellAt (setCell M i { c with tone:=M.sw.sense }) x=some d/\d.tone=M.sw.sense;rw[e]
     by_cases ex:x=i
     ·exact⟨_,by rw[if_pos ex],rfl⟩
     ·rcases List.mem_append.mp (show x∈M.sw.grey++[i]from hx)with hx | hx
      ·obtain⟨d,hd,g⟩:=h1 x hx;exact⟨d,by rw[if_neg ex];exact hd,g⟩
      ·exact absurd (List.mem_singleton.mp hx) ex
   ·exact p
theorem KW.notes:∀{l:List (Option Int)}{M:Wm},KW M hs k->KW (aP M l).2 hs k
 | [],_,p=>p
 | x::l,_,p=>KW.notes (l:=l) (p.note x)
theorem KW.nh(a:Int):∀{l:List (Str×List (Option Int))}{j:Nat}{M:Wm},KW M hs k->KW (kh a l j M).2 hs k
 | [],_,_,p=>p
 | m::l,j,M,p=>by
  unfold kh;split
  ·exact KW.nh a (l:=l) (KW.notes p)
  ·exact KW.nh a (l:=l) p
theorem KW.put(p:KW M hs k){u b:Int}{c:Ce}(g:c.fl.length<=8):KW { M with used:=u,born:=b,cells:=mZ M.cells c } hs (k+1):=by
 obtain⟨h,m,n,o,f,i,j,e,a⟩:=p;refine⟨h,m,?_,by show M.names.length<=_;omega,λd hd=>?_,λph=>?_,j,e,a⟩
 ·have:=Zmz M.cells c;show(mZ M.cells c).length<=_;omega
 ·rcases Zjv hd with hd | hd
  ·exact f d hd
  ·cases hd;exact g
 ·obtain⟨nd,h1⟩:=i ph;refine⟨nd,λx hx=>?_⟩;obtain⟨d,hd,l⟩:=h1 x hx;exact⟨d,zY hd,l⟩
theorem Zg0{l:List (Str×(Int×Int))}{z:Str}{v:Int×Int}:(vq l z v).length<=l.length+1:=by
 unfold vq;split
 ·rw[bx];omega
 ·rw[List.length_append];simp
theorem KW.name(p:KW M hs k){z:Str}{v:Int×Int}:KW { M with names:=vq M.names z v } hs (k+1):=by
 obtain⟨c,f,h,i,e,d,g,a,b⟩:=p;refine⟨c,f,by show M.cells.length<=_;omega,?_,e,d,g,a,b⟩;have:=Zg0 (l:=M.names) (z:=z) (v:=v);show(vq M.names z v).length<=_;omega
theorem KW.deed(p:KW M hs k){d:nY}{e:Ev}{b:Wm}(o:okR hs d)(h:qN M d=.ok (e,b)):KW b hs (k+1):=by
 have a:k<=k+1:=by omega
 cases d with
 | make hh s many bulk=>
  simp only[qN]at h;split at h
  ·have h2:=(Except.ok.inj h);rw[<- (Prod.mk.inj h2).2];refine KW.slot (KW.put p ?_) _ _ _;show(List.replicate many.toNat none).length<=8;rw[List.length_replicate];have:=o.2.2.1;omega
  ·cases h
 | get hh s t f=>
  simp only[qN]at h;split at h
  ·cases h
  ·split at h
   ·cases h
   ·split at h
    ·cases h
    ·have h2:=(Except.ok.inj h);rw[<- (Prod.mk.inj h2).2];exact(p.slot _ _ _).mono a
 | put hh t f s=>
  simp only[qN]at h;split at h
  ·cases h
  ·split at h
   ·cases h
   ·rename_i c hc
    split at h
    ·cases h
    ·have h2:=(Except.ok.inj h);rw[<- (Prod.mk.inj h2).2];exact(KW.notes (p.cell (c':={ c with fl:=c.fl.set f (aR M hh s) }) hc rfl (by show(List.set _ _ _).length=_;rw[List.length_set]))).mono a
 | copy hh s t=>
  have h2:=(Except.ok.inj h);rw[<- (Prod.mk.inj h2).2];exact(p.slot _ _ _).mono a
 | drop hh s=>
  have h2:=(Except.ok.inj h);rw[<- (Prod.mk.inj h2).2];exact(p.slot _ _ _).mono a
 | give hh s g t=>
  have h2:=(Except.ok.inj h);rw[<- (Prod.mk.inj h2).2];exact(KW.notes (p.slot _ _ _)).mono a
 | write hh t l=>
  simp only[qN]at h;split at h
  ·cases h
  ·split at h
   ·cases h
   ·rename_i c hc
    have h2:=(Except.ok.inj h);rw[<- (Prod.mk.inj h2).2];exact(p.cell (c':={ c with load:=l }) hc rfl rfl).mono a
 | read hh t=>
  simp only[qN]at h;split at h
  ·cases h
  ·split at h
   ·cases h
   ·have h2:=(Except.ok.inj h);rw[<- (Prod.mk.inj h2).2];exact p.mono a
 | name hh t z=>
  simp only[qN]at h;split at h
  ·cases h
  ·split at h
   ·cases h
   ·have h2:=(Except.ok.inj h);rw[<- (Prod.mk.inj h2).2];exact p.name
 | seek hh s z=>
  simp only[qN]at h;split at h
  ·cases h
  ·split at h
   ·have h2:=(Except.ok.inj h);rw[<- (Prod.mk.inj h2).2];exact(p.slot _ _ _).mono a
   ·have h2:=(Except.ok.inj h);rw[<- (Prod.mk.inj h2).2];exact(KW.notes (p.slot _ _ _)).mono a
theorem KW.step(p:KW M hs k){lb:Int}{lw:List Int}{e:Ev}{u:Wm}(h:tW lb lw M e u):KW u hs k:=by
 cases h with
 | begin ph=>
  refine KW.nh _ ?_;obtain⟨f,m,j,l,b,r,o,n,a⟩:=p;exact⟨f,m,j,l,b,λ_=>⟨List.nodup_nil,λx hx=>(nomatch hx)⟩,.inr (.inl rfl),n,a⟩
 | walk x g c ph s hc=>
  refine KW.notes ?_;obtain⟨f,m,j,l,b,r,o,n,a⟩:=p;refine⟨f,m,j,l,b,λ_=>?_,o,n,a⟩;obtain⟨nd,h1⟩:=r ph;rw[s]at nd h1;exact⟨(List.nodup_cons.mp nd).2,λy hy=>h1 y (List.mem_cons_of_mem _ hy)⟩
 | look N ph s F w=>
  have D:KW N hs k:=by rw[w];exact KW.nh _ p
  obtain⟨f,m,j,l,b,r,o,n,a⟩:=D;exact⟨f,m,j,l,b,r,o,n,a⟩
 | cut q C ph s A B t=>
  obtain⟨f,m,j,l,b,r,o,n,a⟩:=p;exact⟨f,m,j,l,b,λz=>absurd z (show ¬ ("give":Str)="walk" by decide),.inr (.inr (.inl rfl)),Int.le_refl _,a⟩
 | lost q C i x c v ph s A B hx t hc E=>
  obtain⟨f,m,j,l,b,r,o,n,a⟩:=p;exact⟨f,m,j,l,b,λz=>absurd z (show ¬ ("lost":Str)="walk" by decide),.inr (.inr (.inr rfl)),Int.le_refl _,a⟩
 | pass ph lt hp=>
  obtain⟨f,m,j,l,b,r,o,n,a⟩:=p;exact⟨f,m,j,l,b,r,o,by show 0<=M.sw.at'+1;omega,a⟩
 | back c ph lt hc E=>
  obtain⟨f,m,j,l,b,r,o,n,a⟩:=p;refine⟨f,m,by show(M.cells.set _ _).length<=_;rw[List.length_set];exact j,l,λd hd=>?_,λz=>absurd (ph.symm.trans z) (by decide),o,by show 0<=M.sw.at'+1;omega,a⟩;rcases List.mem_or_eq_of_mem_set (show some d∈M.cells.set _ _ from hd)with hd | hd
  ·exact b d hd
  ·cases hd
 | fin ph lt=>
  obtain⟨f,m,j,l,b,r,o,n,a⟩:=p;exact⟨f,m,j,l,b,λz=>absurd z (show ¬ ("rest":Str)="walk" by decide),.inl rfl,n,a⟩
 | again ph=>exact p
theorem KW.new{room:Int}{w t:Int}(d:0<=t)(h1:t<4):KW (KH room hs w t) hs 0:=by
 refine⟨by show(hs.map _).length=_;rw[bx],λi m n a b=>?_,Nat.le_refl _,Nat.le_refl _,λc hc=>(nomatch hc),λz=>absurd z (show ¬ ("rest":Str)="walk" by decide),.inl rfl,Int.le_refl _,⟨d,h1⟩⟩;have a:(hs.map λm=>(m.1,List.replicate m.2.toNat (none:Option Int)))[i]? =some m:=a;rw[cA,b]at a;cases a;exact List.length_replicate
end
inductive Tr where
 | fl:V->Tr
 | ls:List Tr->Tr
 | tp:List Tr->Tr
structure Kp(H H':Hp)(T T':Tg):Prop where
 k:∀b o,H b=some o->(T b).1=0\/6<=(T b).1->H' b=some o
 tg:∀b o,H b=some o->T' b=T b
 al:∀b o,H b=some o->∃o',H' b=some o'
theorem Kp.same{H H':Hp}{T:Tg}(s:aU H H'):Kp H H' T T:=⟨λb o h _=>s _ _ h,λ_ _ _=>rfl,λb o h=>⟨o,s _ _ h⟩⟩
theorem Kp.stp{s:Nat}{H H':Hp}{T T':Tg}(st:jo s H H' T T')(n:s≠0/\s<6):Kp H H' T T':=⟨λb o h t=>st.kp b o h (by omega),st.tg,st.al⟩
theorem Kp.trans{H e d:Hp}{T f c:Tg}(a:Kp H e T f)(b:Kp e d f c):Kp H d T c:=
 ⟨λx o h t=>b.k x o (a.k x o h t) (by rw[a.tg x o h];exact t),λx o h=>by
  obtain⟨o1,h1⟩:=a.al x o h;exact(b.tg x o1 h1).trans (a.tg x o h),λx o h=>by
  obtain⟨o1,h1⟩:=a.al x o h;exact b.al x o1 h1⟩
section
variable {M:Wm}
structure NL(M N:Wm)(acc:List Int):Prop where
 sw:N.sw={ M.sw with grey:=M.sw.grey++acc }
 at_:∀i,cellAt N i=if i∈acc then(cellAt M i).map (λc=>{ c with tone:=M.sw.sense })else cellAt M i
 nt:NtR M N
def nhL(a:Int):List (Str×List (Option Int))->Nat->List (Option Int)
 | [],_=>[]
 | m::l,k=>if a / 2 ^ k % 2=1 then m.2++nhL a l (k+1)else nhL a l (k+1)
theorem Qt:∀(a b:List (Option Int)) (M:Wm),aP M (a++b)=((aP M a).1++(aP (aP M a).2 b).1,(aP (aP M a).2 b).2)
 | [],b,M=>rfl
 | x::a,b,M=>by
  show(ofN (bY M x).1++(aP (bY M x).2 (a++b)).1,(aP (bY M x).2 (a++b)).2)=((ofN (bY M x).1++(aP (bY M x).2 a).1)++(aP (aP (bY M x).2 a).2 b).1,(aP (aP (bY M x).2 a).2 b).2);rw[Qt a b,List.append_assoc]
theorem U4(a:Int):∀(l:List (Str×List (Option Int))) (k:Nat) (M:Wm),kh a l k M=aP M (nhL a l k)
 | [],_,_=>rfl
 | m::l,k,M=>by
  unfold kh nhL;split
  ·rw[Qt,U4 a l (k+1)]
  ·exact U4 a l (k+1) M
end
structure TB(w0:Int)(M:Wm):Prop where
 bu:∀i j c d,cellAt M i=some c->cellAt M j=some d->c.birth=d.birth->i=j
 bn:∀i c,cellAt M i=some c->1<=c.birth/\c.birth<=M.born
 b0:0<=M.born
 se:M.sw.sense=0\/M.sw.sense=1
 tn:∀i c,cellAt M i=some c->c.tone=0\/c.tone=1
 rs:M.sw.phase="rest"->∀i c,cellAt M i=some c->c.tone=M.sw.sense
 gv:M.sw.phase="give"->∀i c,cellAt M i=some c->c.tone≠M.sw.sense->M.sw.at'<=i/\i<M.sw.stop
 ww:M.w=w0
structure Sb(M M':Wm):Prop where
 ce:∀i,(cellAt M' i).map (·.birth)=(cellAt M i).map (·.birth)
 tn:∀i c c',cellAt M i=some c->cellAt M' i=some c'->c'.tone=c.tone\/(M.sw.phase="walk"/\c'.tone=M.sw.sense)
 bn:M'.born=M.born
 se:M'.sw.sense=M.sw.sense
 ph:M'.sw.phase=M.sw.phase
 at_:M'.sw.at'=M.sw.at'
 st:M'.sw.stop=M.sw.stop
 ww:M'.w=M.w
section
variable {M M':Wm}{w0:Int}
theorem Sb.get(h:Sb M M'){i:Int}{c':Ce}(e:cellAt M' i=some c'):∃c,cellAt M i=some c/\c'.birth=c.birth/\(c'.tone=c.tone\/(M.sw.phase="walk"/\c'.tone=M.sw.sense)):=by
 have h1:=h.ce i;rw[e]at h1;cases hc:cellAt M i with
 | none=>rw[hc]at h1;cases h1
 | some c=>
  rw[hc]at h1;exact⟨c,rfl,Option.some.inj h1,h.tn i c c' hc e⟩
theorem Sb.yf(h:M'.cells=M.cells)(bn:M'.born=M.born)(se:M'.sw.sense=M.sw.sense)(ph:M'.sw.phase=M.sw.phase)(at_:M'.sw.at'=M.sw.at')(st:M'.sw.stop=M.sw.stop)(ww:M'.w=M.w):Sb M M':=by
 have e:∀i,cellAt M' i=cellAt M i:=λi=>by unfold cellAt;rw[h]
 exact⟨λi=>by rw[e],λi c c' h1 h2=>by rw[e,h1]at h2;cases h2;exact .inl rfl,bn,se,ph,at_,st,ww⟩
theorem Sb.refl(M:Wm):Sb M M:=Sb.yf rfl rfl rfl rfl rfl rfl rfl
theorem Sb.trans{d:Wm}(a:Sb M M')(b:Sb M' d):Sb M d:=by
 refine⟨λi=>(b.ce i).trans (a.ce i),λi c f h1 h2=>?_,b.bn.trans a.bn,b.se.trans a.se,b.ph.trans a.ph,b.at_.trans a.at_,b.st.trans a.st,b.ww.trans a.ww⟩;obtain⟨e,h3,_,h4⟩:=b.get h2;have h5:=a.tn i c e h1 h3;rw[a.ph,a.se]at h4;rcases h4 with h4 | h4
 ·rcases h5 with h5 | h5
  ·exact .inl (h4.trans h5)
  ·exact .inr ⟨h5.1,h4.trans h5.2⟩
 ·exact .inr h4
theorem Sb.slot(M:Wm)(h s:Nat)(x:Option Int):Sb M (setSlot M h s x):=Sb.yf rfl rfl rfl rfl rfl rfl rfl
theorem Sb.cell{i:Int}{c c':Ce}(h:cellAt M i=some c)(hb:c'.birth=c.birth)(a:c'.tone=c.tone\/(M.sw.phase="walk"/\c'.tone=M.sw.sense)):Sb M (setCell M i c'):=by
 refine⟨λx=>?_,λx d d' h1 h2=>?_,rfl,rfl,rfl,rfl,rfl,rfl⟩
 ·rw[di h]
  by_cases e:x=i
  ·subst e;rw[if_pos rfl,h];exact congrArg some hb
  ·rw[if_neg e]
 ·rw[di h]at h2
  by_cases e:x=i
  ·subst e;rw[if_pos rfl]at h2;rw[h]at h1;cases h1;cases h2;exact a
  ·rw[if_neg e,h1]at h2;cases h2;exact .inl rfl
theorem Sb.note(M:Wm)(x:Option Int):Sb M (bY M x).2:=by
 cases x with
 | none=>exact Sb.refl M
 | some i=>
  unfold bY;dsimp only;cases hc:cellAt M i with
  | none=>exact Sb.refl M
  | some c=>
   dsimp only;split
   ·rename_i z
    exact(Sb.cell (c':={ c with tone:=M.sw.sense }) hc rfl (.inr ⟨z.1,rfl⟩)).trans (Sb.yf rfl rfl rfl rfl rfl rfl rfl)
   ·exact Sb.refl M
theorem Sb.notes:∀(l:List (Option Int)) (M:Wm),Sb M (aP M l).2
 | [],M=>Sb.refl M
 | x::l,M=>(Sb.note M x).trans (Sb.notes l _)
theorem Sb.nh(a:Int):∀(l:List (Str×List (Option Int))) (j:Nat) (M:Wm),Sb M (kh a l j M).2
 | [],_,M=>Sb.refl M
 | m::l,j,M=>by
  unfold kh;split
  ·exact(Sb.notes m.2 M).trans (Sb.nh a l (j+1) _)
  ·exact Sb.nh a l (j+1) M
theorem TB.sb(p:TB w0 M)(h:Sb M M'):TB w0 M':=by
 refine⟨λi j c d h1 h2 e=>?_,λi c h1=>?_,by rw[h.bn];exact p.b0,by rw[h.se];exact p.se,λi c h1=>?_,λph i c h1=>?_,λph i c h1 g=>?_,by rw[h.ww];exact p.ww⟩
 ·obtain⟨b,a,f,_⟩:=h.get h1;obtain⟨l,k,m,_⟩:=h.get h2;exact p.bu i j b l a k (by rw[<- f,<- m];exact e)
 ·obtain⟨b,a,f,_⟩:=h.get h1;rw[f,h.bn];exact p.bn i b a
 ·obtain⟨b,a,_,t1⟩:=h.get h1;rcases t1 with t1 | t1
  ·rw[t1];exact p.tn i b a
  ·rw[t1.2];exact p.se
 ·obtain⟨b,a,_,t1⟩:=h.get h1;rw[h.ph]at ph;rw[h.se];rcases t1 with t1 | t1
  ·rw[t1];exact p.rs ph i b a
  ·exact t1.2
 ·obtain⟨b,a,_,t1⟩:=h.get h1;rw[h.ph]at ph;rw[h.se]at g;rw[h.at_,h.st];rcases t1 with t1 | t1
  ·exact p.gv ph i b a (by rw[<- t1];exact g)
  ·exact absurd t1.2 g
theorem eY{x u b:Int}{c d:Ce}(h:cellAt { M with used:=u,born:=b,cells:=mZ M.cells c } x=some d):(x=lM M.cells/\d=c)\/cellAt M x=some d:=by
 obtain⟨g,h1⟩:=bT.mp h;have h1:(mZ M.cells c)[x.toNat]? =some (some d):=h1
 by_cases z:x.toNat=lM M.cells
 ·rw[z,Oa]at h1;cases h1;exact .inl ⟨by omega,rfl⟩
 ·refine .inr (bT.mpr ⟨g,?_⟩);unfold mZ at h1;split at h1
  ·rw[List.getElem?_set_ne (λe=>z e.symm)]at h1;exact h1
  ·rename_i y
   rw[List.getElem?_append]at h1;split at h1
   ·exact h1
   ·rename_i i
    have a:=(dX h1).1;have f:=XR M.cells;have:x.toNat - M.cells.length<1:=a;omega
theorem TB.put(p:TB w0 M){u:Int}{c:Ce}(hb:c.birth=M.born+1)(f:c.tone=M.sw.sense):TB w0 { M with used:=u,born:=M.born+1,cells:=mZ M.cells c }:=by
 have b0:=p.b0;refine⟨λi j d e h1 h2 b=>?_,λi d h1=>?_,by show 0<=M.born+1;omega,p.se,λi d h1=>?_,λph i d h1=>?_,λph i d h1 hp=>?_,p.ww⟩
 ·rcases eY h1 with ⟨z1,a⟩ | z1
  ·rcases eY h2 with ⟨y1,g⟩ | y1
   ·rw[z1,y1]
   ·have:=p.bn j e y1;rw[a,hb]at b;omega
  ·rcases eY h2 with ⟨y1,g⟩ | y1
   ·have:=p.bn i d z1;rw[g,hb]at b;omega
   ·exact p.bu i j d e z1 y1 b
 ·show 1<=d.birth/\d.birth<=M.born+1;rcases eY h1 with ⟨z1,a⟩ | z1
  ·rw[a,hb];omega
  ·have:=p.bn i d z1;omega
 ·rcases eY h1 with ⟨z1,a⟩ | z1
  ·rw[a,f];exact p.se
  ·exact p.tn i d z1
 ·rcases eY h1 with ⟨z1,a⟩ | z1
  ·rw[a];exact f
  ·exact p.rs ph i d z1
 ·rcases eY h1 with ⟨z1,a⟩ | z1
  ·rw[a]at hp;exact absurd f hp
  ·exact p.gv ph i d z1 hp
theorem TB.deed(p:TB w0 M){d:nY}{e:Ev}(h:qN M d=.ok (e,M')):TB w0 M':=by
 cases d with
 | make hh s many bulk=>
  simp only[qN]at h;split at h
  ·have h2:=(Except.ok.inj h);rw[<- (Prod.mk.inj h2).2];exact(TB.put p (c:=⟨M.born+1,bulk,M.sw.sense,0,List.replicate many.toNat none⟩) rfl rfl).sb (Sb.slot _ _ _ _)
  ·cases h
 | get hh s t f=>
  simp only[qN]at h;split at h
  ·cases h
  ·split at h
   ·cases h
   ·split at h
    ·cases h
    ·have h2:=(Except.ok.inj h);rw[<- (Prod.mk.inj h2).2];exact p.sb (Sb.slot _ _ _ _)
 | put hh t f s=>
  simp only[qN]at h;split at h
  ·cases h
  ·split at h
   ·cases h
   ·rename_i c hc
    split at h
    ·cases h
    ·have h2:=(Except.ok.inj h);rw[<- (Prod.mk.inj h2).2];exact p.sb ((Sb.cell (c':={ c with fl:=c.fl.set f (aR M hh s) }) hc rfl (.inl rfl)).trans (Sb.notes _ _))
 | copy hh s t=>
  have h2:=(Except.ok.inj h);rw[<- (Prod.mk.inj h2).2];exact p.sb (Sb.slot _ _ _ _)
 | drop hh s=>
  have h2:=(Except.ok.inj h);rw[<- (Prod.mk.inj h2).2];exact p.sb (Sb.slot _ _ _ _)
 | give hh s g t=>
  have h2:=(Except.ok.inj h);rw[<- (Prod.mk.inj h2).2];exact p.sb ((Sb.slot _ _ _ _).trans (Sb.notes _ _))
 | write hh t l=>
  simp only[qN]at h;split at h
  ·cases h
  ·split at h
   ·cases h
   ·rename_i c hc
    have h2:=(Except.ok.inj h);rw[<- (Prod.mk.inj h2).2];exact p.sb (Sb.cell (c':={ c with load:=l }) hc rfl (.inl rfl))
 | read hh t=>
  simp only[qN]at h;split at h
  ·cases h
  ·split at h
   ·cases h
   ·have h2:=(Except.ok.inj h);rw[<- (Prod.mk.inj h2).2];exact p
 | name hh t z=>
  simp only[qN]at h;split at h
  ·cases h
  ·split at h
   ·cases h
   ·have h2:=(Except.ok.inj h);rw[<- (Prod.mk.inj h2).2];exact p.sb (Sb.yf rfl rfl rfl rfl rfl rfl rfl)
 | seek hh s z=>
  simp only[qN]at h;split at h
  ·cases h
  ·split at h
   ·have h2:=(Except.ok.inj h);rw[<- (Prod.mk.inj h2).2];exact p.sb (Sb.slot _ _ _ _)
   ·have h2:=(Except.ok.inj h);rw[<- (Prod.mk.inj h2).2];exact p.sb ((Sb.slot _ _ _ _).trans (Sb.notes _ _))
theorem TB.step(p:TB w0 M){lb:Int}{lw:List Int}{e:Ev}(h:tW lb lw M e M'):TB w0 M':=by
 cases h with
 | begin ph=>
  refine TB.sb ?_ (Sb.nh _ _ _ _);obtain⟨f,m,k,n,l,r,o,b⟩:=p;exact⟨f,m,k,by show 1 - M.sw.sense=0\/1 - M.sw.sense=1;omega,l,λz=>absurd z (show ¬ ("walk":Str)="rest" by decide),λz=>absurd z (show ¬ ("walk":Str)="give" by decide),b⟩
 | walk x g c ph y hc=>
  have a:Sb M { M with sw:={ M.sw with grey:=g,walks:=M.sw.walks+1 } }:=Sb.yf rfl rfl rfl rfl rfl rfl rfl;exact p.sb (a.trans (Sb.notes c.fl _))
 | look N ph y H A=>
  subst A;exact p.sb ((Sb.nh _ _ _ _).trans (Sb.yf rfl rfl rfl rfl rfl rfl rfl))
 | cut q E ph y C D t=>
  obtain⟨f,m,k,n,l,r,o,b⟩:=p;exact⟨f,m,k,n,l,λz=>absurd z (show ¬ ("give":Str)="rest" by decide),λ_ i c hc _=>Vv (M:=M) hc,b⟩
 | lost q E i x c v ph y C D hx t hc s=>
  obtain⟨f,m,k,n,l,r,o,b⟩:=p;exact⟨f,m,k,n,l,λz=>absurd z (show ¬ ("lost":Str)="rest" by decide),λz=>absurd z (show ¬ ("lost":Str)="give" by decide),b⟩
 | pass ph lt hp=>
  obtain⟨f,m,k,n,l,r,o,b⟩:=p;refine⟨f,m,k,n,l,r,λ_ i c hc s=>?_,b⟩;have h1:=o ph i c hc s;have h2:i≠M.sw.at':=λz=>s (hp c (by rw[<- z];exact hc));show M.sw.at'+1<=i/\i<M.sw.stop;omega
 | back c ph lt hc s=>
  obtain⟨f,m,k,n,l,r,o,b⟩:=p;have gt:∀(u:Int) (w:Sw) (i:Int) (d:Ce),cellAt { M with used:=u,cells:=M.cells.set M.sw.at'.toNat none,sw:=w } i=some d->i≠M.sw.at'/\cellAt M i=some d:=λu w i d hd=>by
   obtain⟨F,h1⟩:=bT.mp hd;have h1:(M.cells.set M.sw.at'.toNat none)[i.toNat]? =some (some d):=h1;obtain⟨k0,k1⟩:=bT.mp hc
   by_cases z:M.sw.at'.toNat=i.toNat
   ·rw[z,List.getElem?_set_self (by rw[<- z];exact(dX k1).1)]at h1;cases h1
   ·rw[List.getElem?_set_ne z]at h1;exact⟨λe=>z (by rw[e]),bT.mpr ⟨F,h1⟩⟩
  refine⟨λi j d e h1 h2 B=>f i j d e (gt _ _ i d h1).2 (gt _ _ j e h2).2 B,λi d h1=>m i d (gt _ _ i d h1).2,k,n,λi d h1=>l i d (gt _ _ i d h1).2,λz=>absurd (ph.symm.trans z) (by decide),λ_ i d h1 hp=>?_,b⟩;obtain⟨n1,n2⟩:=gt _ _ i d h1;have h3:=o ph i d n2 hp;show M.sw.at'+1<=i/\i<M.sw.stop;omega
 | fin ph lt=>
  obtain⟨f,m,k,n,l,r,o,b⟩:=p;refine⟨f,m,k,n,l,λ_ i c hc=>?_,λz=>absurd z (show ¬ ("rest":Str)="give" by decide),b⟩;refine Decidable.byContradiction λs=>?_;have h1:=o ph i c hc s;omega
 | again ph=>exact p
theorem TB.new{room:Int}{hs:LK}{w t:Int}:TB w (KH room hs w t):=by
 have e:∀i c,cellAt (KH room hs w t) i=some c->False:=λi c h=>nomatch nJ h;exact⟨λi _ c _ h=>(e i c h).elim,λi c h=>(e i c h).elim,Int.le_refl _,.inl rfl,λi c h=>(e i c h).elim,λ_ i c h=>(e i c h).elim,λ_ i c h=>(e i c h).elim,rfl⟩
end
section
variable {M:Wm}
end
def Zff(K:aC):Sp:=λvs H Q E=>∃a,vs=[.ref a]/\∃ns:List Int,cV K H a (ns.map V.int)/\ns.length<=63/\∀H',Q (.bl true) H'
def Oz(X:Cs)(rf:Rf->Addr):Sp:=λvs H Q E=>∃wo dd,vs=[.ref wo,.ref dd]/\∃T s A M d,WT H T/\s≠0/\WJ X H T s A M/\A.wo=wo/\H dd=some (.tup (dV d))/\okD M d/\M.cells.length<=900/\(M.sw.phase="walk"->M.sw.grey.length<=10000)/\(0<=M.tells/\M.tells<4)/\M.names.length<=1000/\
 (∀r,qN M d=.error r->∀H',aU H H'->Q .non H')/\
 (∀e c,qN M d=.ok (e,c)->∀H' T' b a,jo s H H' T T'->WJ X H' T' s b c->b.wo=wo->EvN H H' a e->Q (.ref a) H')
section
theorem Yv{wo dd CE f g h:Addr}(y:rf .empty=CE)(o:rf .rR=f)(k:rf .full=g)(i:rf .Qv=h)(q:∃T s A M d,WT H T/\s≠0/\WJ X H T s A M/\A.wo=wo/\H dd=some (.tup (dV d))/\okD M d/\M.cells.length<=900/\(M.sw.phase="walk"->M.sw.grey.length<=10000)/\(0<=M.tells/\M.tells<4)/\M.names.length<=1000/\
 (∀r,qN M d=.error r->∀H',aU H H'->Q .non H')/\
 (∀e c,qN M d=.ok (e,c)->∀H' T' b a,jo s H H' T T'->WJ X H' T' s b c->b.wo=wo->EvN H H' a e->Q (.ref a) H')):
  zp CE g f h (ZCq X rf) ⟨n,Q,bk,ct⟩ [some (.ref wo),some (.ref dd),none] H:=by
 obtain⟨T,s,A,M,d,w,p,j,rfl,l,od,hc,v,tl,nm,h1,h2⟩:=q;unfold zp;walk_at"e";refine⟨_,dd,rfl,T,s,A,M,d,trivial,w,p,j,rfl,l,od,hc,v,tl,nm,λr m H' sm=>?_,λe c x H' T' b a st u z t=>?_⟩
 ·refine⟨?_,?_⟩
  ·cases r
   ·exact .inr (.inr (.inl (by rw[k])))
   ·exact .inl (by rw[y])
   ·exact .inr (.inl (by rw[o]))
   ·exact .inr (.inr (.inr (by rw[i])))
  ·walk_at"e";exact h1 r m H' sm
 ·walk_at"e";exact h2 e c x H' T' b a st u z t
end
def GF(H:Hp)(d:Addr)(f:Int->Option V)(k:Nat):Prop:=∃a:List (L2.Key×V),H d=some (.dK a)/\a.length<=k/\∀b:Int,m7 a (Sum.inl b)=f b
theorem GF.get{H:Hp}{d:Addr}{f:Int->Option V}{k:Nat}(h:GF H d f k){b:Int}{v:V}(e:f b=some v):Gx H d (.int b) (some v):=by
 obtain⟨a,h1,_,h2⟩:=h;have:=Gx.k (k:=Sum.inl b) h1;rw[h2 b,e]at this;exact this
theorem GF.put{H:Hp}{d:Addr}{f:Int->Option V}{k:Nat}(h:GF H d f k)(hk:k<=100000)(b:Int)(v:V):∃H',Uc H d (.int b) v H'/\GF H' d (λx=>if x=b then some v else f x) (k+1)/\∃o,H'=upd H d o:=by
 obtain⟨a,h1,h3,h2⟩:=h;refine⟨_,Uc.k (k:=Sum.inl b) (v:=v) h1 (Nat.lt_of_le_of_lt h3 (Nat.lt_of_le_of_lt hk (by decide))),⟨_,aq,?_,λx=>?_⟩,_,rfl⟩
 ·have:=CG a (Sum.inl b) v;omega
 ·rw[Zhw,h2 x];dsimp only
  by_cases e:x=b
  ·rw[if_pos e,if_pos (by rw[e])]
  ·rw[if_neg e,if_neg (λz=>e (Sum.inl.inj z))]
theorem GF.same{H H':Hp}{d:Addr}{f:Int->Option V}{k:Nat}(s:aU H H')(h:GF H d f k):GF H' d f k:=by
 obtain⟨a,h1,h3,h2⟩:=h;exact⟨a,s _ _ h1,h3,h2⟩
structure Tc where
 p:Int
 b:Int
 bulk:Int
 load:Int
 fs:List (Option Int)
 tone:Str
def Tc1(H:Hp)(r f:Addr)(x:Tc):Prop:=H r=some (.tup [.int x.p,.int x.b,.int x.bulk,.int x.load,.ref f,.str x.tone])/\H f=some (.lst (x.fs.map oV))
def CtO(H:Hp)(l:Addr)(a:List Tc):Prop:=∃ls:List Addr,H l=some (.lst (ls.map V.ref))/\ls.length=a.length/\∀(j:Nat) r x,ls[j]? =some r->a[j]? =some x->∃f,Tc1 H r f x
theorem CtO.same{H H':Hp}{l:Addr}{a:List Tc}(s:aU H H')(h:CtO H l a):CtO H' l a:=by
 obtain⟨ls,h1,h2,h3⟩:=h;refine⟨ls,s _ _ h1,h2,λj r x b d=>?_⟩;obtain⟨f,z1,c⟩:=h3 j r x b d;exact⟨f,s _ _ z1,s _ _ c⟩
def Zbd(M:Wm)(t:Int×Ce):Tc:=⟨t.1,t.2.birth,t.2.bulk,t.2.load,t.2.fl.map (sS M),uM M t.1 t.2⟩
def Gz(M:Wm):List Tc:=(lE M).map (Zbd M)
section
variable {M M':Wm}{w0:Int}
theorem sE{t:Int×Ce}(h:t∈lE M):cellAt M t.1=some t.2:=by
 obtain⟨k,hk,e⟩:=List.getElem_of_mem h;obtain⟨a,h1⟩:=Zek (M:=M) (j:=k) (t:=t) (by rw[bL hk,e]);exact bT.mpr ⟨a,h1⟩
theorem vU{i:Int}{c:Ce}(h:cellAt M i=some c):(i,c)∈lE M:=by
 obtain⟨a,h1⟩:=bT.mp h;unfold lE;refine List.mem_filterMap.mpr ⟨i.toNat,List.mem_range.mpr (dX h1).1,?_⟩;rw[h1];show some (((i.toNat:Nat):Int),c)=some (i,c);rw[show((i.toNat:Nat):Int)=i from by omega]
end
def lO(a:List Tc)(b:Int):Option V:=(a.reverse.find? λx=>decide (x.b=b)).map λx=>V.str x.tone
theorem Zbb(a:List Tc)(x:Tc)(b:Int):lO (a++[x]) b=if b=x.b then some (.str x.tone)else lO a b:=by
 unfold lO;rw[List.reverse_append,List.reverse_singleton,List.singleton_append,List.find?_cons]
 by_cases e:b=x.b
 ·rw[if_pos e,decide_eq_true e.symm];rfl
 ·rw[if_neg e,decide_eq_false (λz=>e z.symm)]
def Il(z:Str)(f:Int->Option V)(bs:List Int)(b:Int):Option V:=if b∈bs then some (.str z)else f b
theorem Zd8(z:Str)(f:Int->Option V)(bs:List Int)(b0 b:Int):Il z f (bs++[b0]) b=if b=b0 then some (.str z)else Il z f bs b:=by
 unfold Il
 by_cases e:b=b0
 ·rw[if_pos e,if_pos (by simp[e])]
 ·rw[if_neg e]
  by_cases a:b∈bs
  ·rw[if_pos a,if_pos (List.mem_append.mpr (.inl a))]
  ·rw[if_neg a,if_neg (λy=>?_)];rcases List.mem_append.mp y with y | y
   ·exact a y
   ·exact e (by simpa using y)
def zZ(K:aC):Sp:=λvs H Q E=>∃l m z,vs=[.ref l,.ref m,.str z]/\∃(b:List Tc) (bs:List Int),CtO H l b/\b.length<=1000/\H m=some (.lst (bs.map V.int))/\bs.length<=4000/\
 ∀a H',aU H H'->H a=none->GF H' a (Il z (lO b) bs) 5000->Q (.ref a) H'
section
theorem Yp{l m:Addr}{z:Str}(q:∃(e:List Tc) (bs:List Int),CtO H l e/\e.length<=1000/\H m=some (.lst (bs.map V.int))/\bs.length<=4000/\
 ∀a H',aU H H'->H a=none->GF H' a (Il z (lO e) bs) 5000->Q (.ref a) H'):yX K ⟨n,Q,bk,ct⟩ [some (.ref l),some (.ref m),some (.str z),none,none,none] H:=by
 obtain⟨e,bs,⟨ls,o1,hl,o2⟩,hb,om,J,q⟩:=q;unfold yX;walk_at"e";intro d nd;have A:=aL nd (.dK []);have F:GF (upd H d (.dK [])) d (lO []) 0:=⟨[],aq,Nat.le_refl _,λb=>rfl⟩;generalize upd H d (.dK [])=M at A F ⊢;walk_at"e";refine⟨l,rfl,⟨_,cV.of (A _ _ o1)⟩,forL (ls.map V.ref) (λi σ u=>∃v,σ=[some (.ref l),some (.ref m),some (.str z),some (.ref d),v,none]/\aU H u/\GF u d (lO (e.take i)) i) ⟨_,rfl,A,F⟩ (λ_ _ _ _ ⟨_,_,y,_⟩=>cV.of (y _ _ o1)) ?_ ?_⟩
 ·rintro i y σ u hy ⟨v,rfl,s,t⟩;rw[cA]at hy;obtain⟨r,hr,rfl⟩:=Option.map_eq_some_iff.mp hy;have hi:i<ls.length:=(dX hr).1;obtain⟨x,hx⟩:∃x,e[i]? =some x:=⟨_,bL (by omega)⟩;have j:e.take (i+1)=e.take i++[x]:=by rw[List.take_add_one,hx];rfl
  obtain⟨fa,g,_⟩:=o2 i r x hr hx;have g:=s _ _ g;walk_at"e";refine⟨r,_,5,_,rfl,rfl,je.of g,rfl,?_⟩;walk_at"e";refine⟨r,_,1,_,rfl,rfl,je.of g,rfl,?_⟩;obtain⟨w,E,⟨f,k1,k2,h⟩,o,D⟩:=t.put (by omega) x.b (.str x.tone);refine⟨d,w,rfl,E,_,rfl,λc I hc=>?_,f,k1,k2,λb=>?_⟩
  ·rw[D,aB (aD hc nd)];exact s _ _ hc
  ·rw[h b,j,Zbb]
 ·rintro σ u ⟨v,rfl,s,t⟩;rw[bx,List.take_of_length_le (by omega)]at t;walk_at"e";refine⟨m,rfl,⟨_,cV.of (s _ _ om)⟩,forL (bs.map V.int) (λi σ k=>∃B,σ=[some (.ref l),some (.ref m),some (.str z),some (.ref d),v,B]/\aU H k/\GF k d (Il z (lO e) (bs.take i)) (ls.length+i)) ⟨_,rfl,s,?_⟩ (λ_ _ _ _ ⟨_,_,y,_⟩=>cV.of (y _ _ om)) ?_ ?_⟩
  ·obtain⟨f,k1,k2,h⟩:=t;exact⟨f,k1,by omega,λb=>by rw[h b];unfold Il;rw[if_neg (by simp)]⟩
  ·rintro i y σ k hy ⟨B,rfl,C,L⟩;rw[cA]at hy;obtain⟨b0,p,rfl⟩:=Option.map_eq_some_iff.mp hy;have hi:i<bs.length:=(dX p).1;have j:bs.take (i+1)=bs.take i++[b0]:=by rw[List.take_add_one,p];rfl
   walk_at"e";obtain⟨w,E,⟨f,k1,k2,h⟩,o,D⟩:=L.put (by omega) b0 (.str z);refine⟨d,w,rfl,E,_,rfl,λc I hc=>?_,f,k1,k2,λb=>?_⟩
   ·rw[D,aB (aD hc nd)];exact C _ _ hc
   ·rw[h b,j,Zd8]
  ·rintro σ k ⟨B,rfl,C,f,k1,k2,h⟩;rw[bx,List.take_length]at h;rw[bx]at k2;walk_at"e";exact q d k C nd ⟨f,k1,by omega,h⟩
end
theorem Y9{M:Wm}:(lE M).length<=M.cells.length:=by
 unfold lE;exact Nat.le_trans (List.length_filterMap_le _ _) (by rw[List.length_range];exact Nat.le_refl _)
theorem VL{M:Wm}:(Gz M).length=(lE M).length:=by unfold Gz;rw[bx]
theorem Zi2{M:Wm}{i:Nat}{t:Int×Ce}(h:(lE M)[i]? =some t):(Gz M)[i]? =some (Zbd M t):=by unfold Gz;rw[cA,h];rfl
section
variable {M M':Wm}{w0:Int}
theorem K4(ph:M.sw.phase="walk")(i:Int)(c:Ce):uM M i c=if c.tone=M.sw.sense then(if i∈M.sw.grey then("grey":Str)else("dark":Str))else("pale":Str):=by
 unfold uM;rw[ph,if_neg (show ¬ ("walk":Str)="rest" by decide),if_neg (show ¬ ("walk":Str)="give" by decide)]
theorem U5(ph:M.sw.phase="walk"){i:Int}{c:Ce}:uM M i c=("pale":Str)↔c.tone≠M.sw.sense:=by
 rw[K4 ph]
 by_cases e:c.tone=M.sw.sense
 ·rw[if_pos e];constructor
  ·intro z;split at z
   ·exact absurd z (by decide)
   ·exact absurd z (by decide)
  ·exact λz=>absurd e z
 ·rw[if_neg e];exact⟨λ_=>e,λ_=>rfl⟩
theorem TB.Zm9(p:TB w0 M){t u:Int×Ce}(a:t∈lE M)(hu:u∈lE M)(e:t.2.birth=u.2.birth):t=u:=by
 have h1:=sE a;have h2:=sE hu;have h3:=p.bu t.1 u.1 t.2 u.2 h1 h2 e;rw[h3,h2]at h1;exact Prod.ext h3 (Option.some.inj h1).symm
theorem TB.Zq2(p:TB w0 M){t:Int×Ce}(c:t∈lE M):lO (Gz M) t.2.birth=some (.str (uM M t.1 t.2)):=by
 unfold lO;cases a:(Gz M).reverse.find? λ(x:Tc)=>decide (x.b=t.2.birth)with
 | none=>
  have:=List.find?_eq_none.mp a (Zbd M t) (List.mem_reverse.mpr (List.mem_map.mpr ⟨t,c,rfl⟩));exact absurd (decide_eq_true rfl) this
 | some x=>
  have h1:x.b=t.2.birth:=of_decide_eq_true (List.find?_some (p:=λ(x:Tc)=>decide (x.b=t.2.birth)) a);obtain⟨u,hu,rfl⟩:=List.mem_map.mp (List.mem_reverse.mp (List.mem_of_find?_eq_some a));rw[p.Zm9 hu c h1];rfl
end
def wh(M:Wm)(x:Option Int):Prop:=∃i c,x=some i/\cellAt M i=some c/\c.tone≠M.sw.sense
structure Wt(M N:Wm):Prop where
 ph:N.sw.phase=M.sw.phase
 se:N.sw.sense=M.sw.sense
 lk:N.sw.looked=M.sw.looked
 ww:N.w=M.w
 tl:N.tells=M.tells
 hd:N.hands=M.hands
 gr:∀i∈M.sw.grey,i∈N.sw.grey
 ce:∀i c',cellAt N i=some c'->∃c,cellAt M i=some c/\c'.fl=c.fl/\(c'.tone=c.tone\/(M.sw.phase="walk"/\c'.tone=M.sw.sense/\i∈N.sw.grey))
section
variable {M N:Wm}
theorem Wt.refl(M:Wm):Wt M M:=⟨rfl,rfl,rfl,rfl,rfl,rfl,λ_ h=>h,λi c h=>⟨c,h,rfl,.inl rfl⟩⟩
theorem Wt.trans{P:Wm}(a:Wt M N)(b:Wt N P):Wt M P:=by
 refine⟨b.ph.trans a.ph,b.se.trans a.se,b.lk.trans a.lk,b.ww.trans a.ww,b.tl.trans a.tl,b.hd.trans a.hd,λi h=>b.gr i (a.gr i h),λi f h=>?_⟩;obtain⟨g,h1,l,t1⟩:=b.ce i f h;obtain⟨c,m,k,d⟩:=a.ce i g h1;refine⟨c,m,l.trans k,?_⟩;rw[a.ph,a.se]at t1;rcases t1 with t1 | t1
 ·rcases d with d | ⟨e,d,j⟩
  ·exact .inl (t1.trans d)
  ·exact .inr ⟨e,t1.trans d,b.gr i j⟩
 ·exact .inr t1
theorem Wt.note(M:Wm)(x:Option Int):Wt M (bY M x).2:=by
 cases x with
 | none=>exact Wt.refl M
 | some i=>
  unfold bY;dsimp only;cases hc:cellAt M i with
  | none=>exact Wt.refl M
  | some c=>
   dsimp only;split
   ·rename_i z
    refine⟨rfl,rfl,rfl,rfl,rfl,rfl,λj hj=>List.mem_append.mpr (.inl hj),λj d hd=>?_⟩;have hd:cellAt (setCell M i { c with tone:=M.sw.sense }) j=some d:=hd;rw[di hc]at hd
    by_cases e:j=i
    ·rw[if_pos e]at hd;cases hd;subst e;exact⟨c,hc,rfl,.inr ⟨z.1,rfl,List.mem_append.mpr (.inr (by simp))⟩⟩
    ·rw[if_neg e]at hd;exact⟨d,hd,rfl,.inl rfl⟩
   ·exact Wt.refl M
theorem Wt.notes:∀(l:List (Option Int)) (M:Wm),Wt M (aP M l).2
 | [],M=>Wt.refl M
 | x::l,M=>(Wt.note M x).trans (Wt.notes l _)
theorem Wt.up(h:Wt M N){x:Option Int}(w:wh N x):wh M x:=by
 obtain⟨i,c',e,h1,h2⟩:=w;obtain⟨c,a,_,t⟩:=h.ce i c' h1;rw[h.se]at h2;rcases t with t | t
 ·exact⟨i,c,e,a,by rw[<- t];exact h2⟩
 ·exact absurd t.2.1 h2
theorem Zji(ph:M.sw.phase="walk")(x:Option Int):¬ wh (bY M x).2 x:=by
 rintro⟨i,c',rfl,h1,h2⟩;unfold bY at h1 h2;dsimp only at h1 h2;cases hc:cellAt M i with
 | none=>
  rw[hc]at h1;have h1:cellAt M i=some c':=h1;rw[hc]at h1;cases h1
 | some c=>
  rw[hc]at h1 h2;dsimp only at h1 h2
  by_cases z:c.tone≠M.sw.sense
  ·rw[if_pos ⟨ph,z⟩]at h1 h2;have h1:cellAt (setCell M i { c with tone:=M.sw.sense }) i=some c':=h1;rw[di hc,if_pos rfl]at h1;cases h1;exact h2 rfl
  ·rw[if_neg (λy=>z y.2)]at h1 h2;have h1:cellAt M i=some c':=h1;rw[hc]at h1;cases h1;exact z h2
theorem pR(l:List (Option Int)):∀(M:Wm),M.sw.phase="walk"->∀x∈l,¬ wh (aP M l).2 x:=by
 induction l with
 | nil=>intro M ph x hx;cases hx
 | cons y l ih=>
  intro M ph x hx w;have w:wh (aP (bY M y).2 l).2 x:=w;rcases List.mem_cons.mp hx with e | hx
  ·subst e;exact Zji ph x ((Wt.notes l _).up w)
  ·exact ih _ ((Wt.note M y).ph.trans ph) x hx w
theorem Z8{h s:Nat}{x y:Option Int}{m:Str×List (Option Int)}(hm:m∈(setSlot M h s x).hands)(hy:y∈m.2):y=x\/∃a∈M.hands,y∈a.2:=by
 obtain⟨i,hi,d⟩:=List.getElem_of_mem hm;have b:(M.hands.modify h λm=>(m.1,m.2.set s x))[i]? =some m:=by rw[<- d];exact bL hi
 rw[List.getElem?_modify]at b;cases c:M.hands[i]? with
 | none=>rw[c]at b;cases b
 | some a=>
  rw[c]at b
  by_cases z:h=i
  ·have e3:(a.1,a.2.set s x)=m:=by simpa[z]using b
   rw[<- e3]at hy;rcases List.mem_or_eq_of_mem_set (show y∈a.2.set s x from hy)with w | w
   ·exact .inr ⟨a,List.mem_of_getElem? c,w⟩
   ·exact .inl w
  ·have e3:a=m:=by simpa[z]using b
   exact .inr ⟨a,List.mem_of_getElem? c,by rw[e3];exact hy⟩
theorem Ia:¬ wh M none:=λ⟨_,_,e,_⟩=>nomatch e
theorem Zm6{i:Int}{c c':Ce}(h:cellAt M i=some c)(a:c'.tone=c.tone){y:Option Int}(w:wh (setCell M i c') y):wh M y:=by
 obtain⟨k,d,e,h1,h2⟩:=w;rw[di h]at h1
 by_cases z:k=i
 ·rw[if_pos z]at h1;cases h1;exact⟨k,c,e,by rw[z];exact h,by rw[<- a];exact h2⟩
 ·rw[if_neg z]at h1;exact⟨k,d,e,h1,h2⟩
end
section
variable {M M':Wm}{w0:Int}
theorem Zjd{n j:Nat}(h:j<n):((2:Int) ^ n - 1) / 2 ^ j % 2=1:=by
 have h1:=Nat.testBit_two_pow_sub_one n j;rw[Nat.testBit_eq_decide_div_mod_eq,decide_eq_true h]at h1;have h2:(2 ^ n - 1) / 2 ^ j % 2=1:=of_decide_eq_true h1;have h3:1<=2 ^ n:=Nat.one_le_two_pow;have e:((2:Int) ^ n - 1)=((2 ^ n - 1:Nat):Int):=by rw[Int.natCast_sub h3];simp
 rw[e];have:(((2 ^ n - 1) / 2 ^ j % 2:Nat):Int)=1:=by rw[h2];rfl
 rw[<- this];simp
theorem Zp7{F:KB.Fd}{R:KB.Rw}{P:Int->Prop}(d:∀row∈R,∀y,some y∈row->P y)(h1:∀y fl,P y->KB.Vu F y=some fl->∀z,some z∈fl->P z){q l:List (Int×List Int)}{k:Nat}(b:KB.O3 F R q k l):(∀x∈q,P x.1)/\∀x∈l,P x.1:=by
 induction b with
 | start=>
  refine⟨λx hx=>?_,λx hx=>nomatch hx⟩;obtain⟨⟨row,n⟩,hm,h⟩:=List.mem_flatMap.mp hx;obtain⟨k,hk,_,_⟩:=KB.Dp (q:=x.1) (v:=x.2) h;exact d row (List.mem_of_getElem? (List.mem_zipIdx_iff_getElem?.mp hm)) x.1 (List.mem_of_getElem? hk)
 | old _ _ _ ih=>exact ih
 | @new q k l y w fl b hq hn c ih=>
  have a:P y:=ih.1 _ (List.mem_of_getElem? hq);refine⟨λx hx=>?_,λx hx=>?_⟩
  ·rcases List.mem_append.mp hx with hx | hx
   ·exact ih.1 x hx
   ·obtain⟨k,hk,_,_⟩:=KB.Dp (q:=x.1) (v:=x.2) hx;exact h1 y fl a c x.1 (List.mem_of_getElem? hk)
  ·rcases List.mem_append.mp hx with hx | hx
   ·exact ih.2 x hx
   ·rw[List.mem_singleton.mp hx];exact a
end
inductive Gd(M:Wm):Int->Prop
 | grey {i j:Int}{c:Ce}:i∈M.sw.grey->cellAt M i=some c->some j∈c.fl->Gd M j
 | via {i j:Int}{c:Ce}:Gd M i->cellAt M i=some c->c.tone≠M.sw.sense->some j∈c.fl->Gd M j
structure Wu(M N:Wm):Prop where
 se:N.sw.sense=M.sw.sense
 gr:∀i∈M.sw.grey,i∈N.sw.grey
 ce:∀i c,cellAt M i=some c->∃c',cellAt N i=some c'/\c'.fl=c.fl/\(c'.tone=c.tone\/(c'.tone=M.sw.sense/\i∈N.sw.grey))
section
variable {M N:Wm}
theorem Wu.refl(M:Wm):Wu M M:=⟨rfl,λ_ h=>h,λi c h=>⟨c,h,rfl,.inl rfl⟩⟩
theorem Wu.trans{P:Wm}(a:Wu M N)(b:Wu N P):Wu M P:=by
 refine⟨b.se.trans a.se,λi h=>b.gr i (a.gr i h),λi c h=>?_⟩;obtain⟨e,h1,g,t1⟩:=a.ce i c h;obtain⟨d,h2,j,t2⟩:=b.ce i e h1;refine⟨d,h2,j.trans g,?_⟩;rw[a.se]at t2;rcases t2 with t2 | t2
 ·rcases t1 with t1 | ⟨t1,f⟩
  ·exact .inl (t2.trans t1)
  ·exact .inr ⟨t2.trans t1,b.gr i f⟩
 ·exact .inr t2
theorem Wu.note(M:Wm)(x:Option Int):Wu M (bY M x).2:=by
 cases x with
 | none=>exact Wu.refl M
 | some i=>
  unfold bY;dsimp only;cases hc:cellAt M i with
  | none=>exact Wu.refl M
  | some c=>
   dsimp only;split
   ·refine⟨rfl,λj hj=>List.mem_append.mpr (.inl hj),λj d hd=>?_⟩;show ∃c',cellAt (setCell M i { c with tone:=M.sw.sense }) j=some c'/\_;rw[di hc]
    by_cases e:j=i
    ·rw[if_pos e];rw[e,hc]at hd;cases hd;exact⟨_,rfl,rfl,.inr ⟨rfl,List.mem_append.mpr (.inr (by simp[e]))⟩⟩
    ·rw[if_neg e];exact⟨d,hd,rfl,.inl rfl⟩
   ·exact Wu.refl M
theorem Wu.notes:∀(l:List (Option Int)) (M:Wm),Wu M (aP M l).2
 | [],M=>Wu.refl M
 | x::l,M=>(Wu.note M x).trans (Wu.notes l _)
theorem Gd.wu(h:Wu M N){j:Int}(g:Gd M j):Gd N j:=by
 induction g with
 | grey hi hc hj=>
  obtain⟨c',h1,a,_⟩:=h.ce _ _ hc;exact .grey (h.gr _ hi) h1 (by rw[a];exact hj)
 | via g hc c hj ih=>
  obtain⟨c',h1,a,t1⟩:=h.ce _ _ hc;rcases t1 with t1 | ⟨_,b⟩
  ·exact .via ih h1 (by rw[t1,h.se];exact c) (by rw[a];exact hj)
  ·exact .grey b h1 (by rw[a];exact hj)
theorem Gd.walk{x:Int}{g:List Int}{c:Ce}(ph:M.sw.phase="walk")(m:M.sw.grey=x::g)(hc:cellAt M x=some c){j:Int}(f:Gd M j)(w:wh (aP { M with sw:={ M.sw with grey:=g,walks:=M.sw.walks+1 } } c.fl).2 (some j)):Gd (aP { M with sw:={ M.sw with grey:=g,walks:=M.sw.walks+1 } } c.fl).2 j:=by
 have U:=Wu.notes c.fl { M with sw:={ M.sw with grey:=g,walks:=M.sw.walks+1 } };have b:∀{j:Int},Gd M j->Gd (aP { M with sw:={ M.sw with grey:=g,walks:=M.sw.walks+1 } } c.fl).2 j\/some j∈c.fl:=λ{j} f=>by
  induction f with
  | @grey i j d hi hd hj=>
   obtain⟨d',h1,a,_⟩:=U.ce i d hd;rw[m]at hi;rcases List.mem_cons.mp hi with e | hi
   ·rw[e,hc]at hd;cases hd;exact .inr hj
   ·exact .inl (.grey (U.gr i hi) h1 (by rw[a];exact hj))
  | @via i j d n hd h hj ih=>
   obtain⟨d',h1,a,t1⟩:=U.ce i d hd;rcases t1 with t1 | ⟨_,l⟩
   ·rcases ih with ih | ih
    ·exact .inl (.via ih h1 (by rw[t1,U.se];exact h) (by rw[a];exact hj))
    ·exact absurd (show wh _ (some i)from⟨i,d',rfl,h1,by rw[t1,U.se];exact h⟩) (pR c.fl { M with sw:={ M.sw with grey:=g,walks:=M.sw.walks+1 } } ph (some i) ih)
   ·exact .inl (.grey l h1 (by rw[a];exact hj))
 rcases b f with k | k
 ·exact k
 ·exact absurd w (pR c.fl { M with sw:={ M.sw with grey:=g,walks:=M.sw.walks+1 } } ph (some j) k)
theorem Gd.none(a:M.sw.grey=[]){j:Int}(g:Gd M j):False:=by
 induction g with
 | grey hi _ _=>rw[a]at hi;cases hi
 | via _ _ _ _ ih=>exact ih
theorem Zd6{b:Type}{l:List b}{f:Nat}{a y:b}(h:a∈l):a∈l.set f y\/l[f]? =some a:=by
 obtain⟨n,hn,e⟩:=List.getElem_of_mem h
 by_cases z:f=n
 ·subst z;exact .inr (by rw[bL hn,e])
 ·refine .inl (List.mem_of_getElem? (i:=n) ?_);rw[List.getElem?_set_ne z,bL hn,e]
theorem Gd.put{i:Int}{c:Ce}{f:Nat}{v y:Option Int}{l:List (Option Int)}(ph:M.sw.phase="walk")(hc:cellAt M i=some c)(hv:c.fl[f]? =some v)(hl:v∈l){j:Int}(g:Gd M j)(w:wh (aP (setCell M i { c with fl:=c.fl.set f y }) l).2 (some j)):Gd (aP (setCell M i { c with fl:=c.fl.set f y }) l).2 j:=by
 have U:=Wu.notes l (setCell M i { c with fl:=c.fl.set f y });have p:¬ wh (aP (setCell M i { c with fl:=c.fl.set f y }) l).2 v:=pR l (setCell M i { c with fl:=c.fl.set f y }) ph v hl;have ce:∀(k:Int) (d:Ce),cellAt M k=some d->∃d',cellAt (aP (setCell M i { c with fl:=c.fl.set f y }) l).2 k=some d'/\(∀a∈d.fl,a∈d'.fl\/a=v)/\(d'.tone=d.tone\/k∈(aP (setCell M i { c with fl:=c.fl.set f y }) l).2.sw.grey):=λk d hd=>by
  have h1:=di (c':={ c with fl:=c.fl.set f y }) hc k
  by_cases e:k=i
  ·rw[if_pos e]at h1;rw[e,hc]at hd;cases hd;obtain⟨d',h2,h,t2⟩:=U.ce k _ h1;refine⟨d',h2,λa m=>?_,?_⟩
   ·rcases Zd6 (f:=f) (y:=y) m with z | z
    ·exact .inl (by rw[h];exact z)
    ·rw[hv]at z;exact .inr (Option.some.inj z).symm
   ·rcases t2 with t2 | t2
    ·exact .inl t2
    ·exact .inr t2.2
  ·rw[if_neg e]at h1;obtain⟨d',h2,h,t2⟩:=U.ce k d (h1.trans hd);refine⟨d',h2,λa m=>.inl (by rw[h];exact m),?_⟩;rcases t2 with t2 | t2
   ·exact .inl t2
   ·exact .inr t2.2
 have b:∀{j:Int},Gd M j->Gd (aP (setCell M i { c with fl:=c.fl.set f y }) l).2 j\/some j=v:=λ{j} g=>by
  induction g with
  | @grey k j d hk hd hj=>
   obtain⟨d',h1,n,_⟩:=ce k d hd;rcases n _ hj with z | z
   ·exact .inl (.grey (U.gr k hk) h1 z)
   ·exact .inr z
  | @via k j d r hd q hj ih=>
   obtain⟨d',h1,n,t1⟩:=ce k d hd;rcases n _ hj with z | z
   ·rcases t1 with t1 | t1
    ·have o:d'.tone≠(aP (setCell M i { c with fl:=c.fl.set f y }) l).2.sw.sense:=by rw[t1,U.se];exact q
     rcases ih with ih | ih
     ·exact .inl (.via ih h1 o z)
     ·exact absurd (show wh _ v from⟨k,d',ih.symm,h1,o⟩) p
    ·exact .inl (.grey t1 h1 z)
   ·exact .inr z
 rcases b g with k | k
 ·exact k
 ·rw[k]at w;exact absurd w p
end
structure vf(M:Wm):Prop where
 ph:M.sw.phase="rest"\/M.sw.phase="walk"\/M.sw.phase="give"
 od:M.tells % 2=1
 kd:M.w=0\/(M.w=1/\M.tells / 2 % 2=1)
 lz:0<=M.sw.looked
 lk:M.sw.phase="walk"->M.w=0->∀h m,M.hands[h]? =some m->bB M h=true
 gf:M.sw.phase="walk"->∀i c,cellAt M i=some c->c.tone=M.sw.sense->i∉M.sw.grey->∀j,some j∈c.fl->wh M (some j)->Gd M j
 gh:M.sw.phase="walk"->∀h m,M.hands[h]? =some m->bB M h=true->∀j,some j∈m.2->wh M (some j)->Gd M j
 fd:M.sw.phase="give"->∀i c,cellAt M i=some c->c.tone=M.sw.sense->∀x∈c.fl,¬ wh M x
 hd:M.sw.phase="give"->∀m∈M.hands,∀x∈m.2,¬ wh M x
section
variable {M N:Wm}
theorem vf.sl(p:vf M)(a:M.sw.phase="walk"){h k:Nat}(lo:bB M h=true){j:Int}(e:aR M h k=some j)(w:wh M (some j)):Gd M j:=by
 unfold aR at e;cases hm:M.hands[h]? with
 | none=>rw[hm]at e;cases e
 | some m=>
  rw[hm]at e;have e:(m.2[k]?).join=some j:=e;cases hk:m.2[k]? with
  | none=>rw[hk]at e;cases e
  | some x=>
   rw[hk]at e;have e:x=some j:=e;subst e;exact p.gh a h m hm lo j (List.mem_of_getElem? hk) w
theorem vf.wt(p:vf M)(h:Wt M N)(u:Wu M N):vf N:=by
 have b:∀k,bB N k=bB M k:=λk=>by unfold bB;rw[h.lk]
 refine⟨by rw[h.ph];exact p.ph,by rw[h.tl];exact p.od,by rw[h.ww,h.tl];exact p.kd,by rw[h.lk];exact p.lz,λz e k m hm=>?_,λz i c' h1 h2 h3 j hj w=>?_,λz k m hm lo j hj w=>?_,λz i c' h1 h2 x hx w=>?_,λz m hm x hx w=>?_⟩
 ·rw[h.hd]at hm;rw[b];exact p.lk (by rw[<- h.ph];exact z) (by rw[<- h.ww];exact e) k m hm
 ·obtain⟨c,f,d,a⟩:=h.ce i c' h1;rw[d]at hj;rw[h.se]at h2;have tc:c.tone=M.sw.sense:=by
   rcases a with a | ⟨_,_,g⟩
   ·rw[<- a];exact h2
   ·exact absurd g h3
  exact(p.gf (by rw[<- h.ph];exact z) i c f tc (λg=>h3 (h.gr i g)) j hj (h.up w)).wu u
 ·rw[h.hd]at hm;rw[b]at lo;exact(p.gh (by rw[<- h.ph];exact z) k m hm lo j hj (h.up w)).wu u
 ·obtain⟨c,f,d,a⟩:=h.ce i c' h1;rw[d]at hx;rw[h.se]at h2;rw[h.ph]at z;have tc:c.tone=M.sw.sense:=by
   rcases a with a | ⟨l,_,_⟩
   ·rw[<- a];exact h2
   ·exact absurd (z.symm.trans l) (by decide)
  exact p.fd z i c f tc x hx (h.up w)
 ·rw[h.hd]at hm;rw[h.ph]at z;exact p.hd z m hm x hx (h.up w)
end
section
variable {M N:Wm}
theorem vf.new(p:vf M){u:Int}{c:Ce}(l:c.tone=M.sw.sense)(a:∀y∈c.fl,y=none)(f:∀i d,cellAt M i=some d->cellAt { M with used:=u,born:=M.born+1,cells:=mZ M.cells c } i=some d):vf { M with used:=u,born:=M.born+1,cells:=mZ M.cells c }:=by
 have up:∀{y:Option Int},wh { M with used:=u,born:=M.born+1,cells:=mZ M.cells c } y->wh M y:=λ{y} w=>by
  obtain⟨i,d,e,h1,h2⟩:=w;rcases eY h1 with ⟨_,z⟩ | z
  ·rw[z]at h2;exact absurd l h2
  ·exact⟨i,d,e,z,h2⟩
 have b:∀{j:Int},Gd M j->Gd { M with used:=u,born:=M.born+1,cells:=mZ M.cells c } j:=λg=>Gd.wu (M:=M) (N:={ M with used:=u,born:=M.born+1,cells:=mZ M.cells c }) ⟨rfl,λ_ h=>h,λi d h=>⟨d,f i d h,rfl,.inl rfl⟩⟩ g;refine⟨p.ph,p.od,p.kd,p.lz,p.lk,λz i d h1 h2 h3 j hj w=>?_,λz k m hm lo j hj w=>b (p.gh z k m hm lo j hj (up w)),λz i d h1 h2 y hy w=>?_,λz m hm y hy w=>p.hd z m hm y hy (up w)⟩
 ·rcases eY h1 with ⟨_,e⟩ | e
  ·rw[e]at hj;exact nomatch a _ hj
  ·exact b (p.gf z i d e h2 h3 j hj (up w))
 ·rcases eY h1 with ⟨_,e⟩ | e
  ·rw[e]at hy;rw[a y hy]at w;exact Ia w
  ·exact p.fd z i d e h2 y hy (up w)
theorem vf.put(p:vf M){i:Int}{c:Ce}{f:Nat}{v y:Option Int}{l:List (Option Int)}(hc:cellAt M i=some c)(hv:c.fl[f]? =some v)(hl:M.sw.phase="walk"->v∈l)(A:M.sw.phase="give"->¬ wh M y)(hw:M.sw.phase="walk"->y∈l\/∀j,y=some j->wh M (some j)->Gd M j):vf (aP (setCell M i { c with fl:=c.fl.set f y }) l).2:=by
 have W:=Wt.notes l (setCell M i { c with fl:=c.fl.set f y });have up:∀{z:Option Int},wh (aP (setCell M i { c with fl:=c.fl.set f y }) l).2 z->wh M z:=λw=>Zm6 (c':={ c with fl:=c.fl.set f y }) hc rfl (W.up w);have n:∀k,bB (aP (setCell M i { c with fl:=c.fl.set f y }) l).2 k=bB M k:=λk=>by unfold bB;rw[W.lk];rfl
 have h:(aP (setCell M i { c with fl:=c.fl.set f y }) l).2.sw.phase=M.sw.phase:=W.ph;have ce:∀(k:Int) (d:Ce),cellAt (aP (setCell M i { c with fl:=c.fl.set f y }) l).2 k=some d->d.tone=M.sw.sense->(M.sw.phase="walk"->k∉(aP (setCell M i { c with fl:=c.fl.set f y }) l).2.sw.grey)->∃b,cellAt M k=some b/\b.tone=M.sw.sense/\∀a∈d.fl,a∈b.fl\/a=y:=λk d hd B hn=>by
  obtain⟨s,h1,u,t1⟩:=W.ce k d hd;have t:s.tone=M.sw.sense:=by
   rcases t1 with t1 | ⟨q,_,g⟩
   ·rw[<- t1];exact B
   ·exact absurd g (hn q)
  rw[di hc]at h1
  by_cases e:k=i
  ·rw[if_pos e]at h1;cases h1;refine⟨c,by rw[e];exact hc,t,λa o=>?_⟩;rw[u]at o;exact List.mem_or_eq_of_mem_set o
  ·rw[if_neg e]at h1;exact⟨s,h1,t,λa o=>.inl (by rw[<- u];exact o)⟩
 refine⟨by rw[h];exact p.ph,by rw[W.tl];exact p.od,by rw[W.ww,W.tl];exact p.kd,by rw[W.lk];exact p.lz,λz e k m hm=>?_,λz k d h1 h2 h3 j hj w=>?_,λz k m hm lo j hj w=>?_,λz k d h1 h2 x hx w=>?_,λz m hm x hx w=>?_⟩
 ·rw[W.hd]at hm;rw[n];exact p.lk (by rw[<- h];exact z) (by rw[W.ww]at e;exact e) k m hm
 ·rw[h]at z;rw[W.se]at h2;obtain⟨b,k0,r,a0⟩:=ce k d h1 h2 λ_=>h3;rcases a0 _ hj with h4 | h4
  ·exact(p.gf z k b k0 r (λg=>h3 (W.gr k g)) j h4 (up w)).put z hc hv (hl z) w
  ·rcases hw z with h5 | h5
   ·exact absurd w (by rw[h4];exact pR l (setCell M i { c with fl:=c.fl.set f y }) z y h5)
   ·exact(h5 j h4.symm (up w)).put z hc hv (hl z) w
 ·rw[h]at z;rw[W.hd]at hm;rw[n]at lo;exact(p.gh z k m hm lo j hj (up w)).put z hc hv (hl z) w
 ·rw[h]at z;rw[W.se]at h2;obtain⟨b,k0,r,a0⟩:=ce k d h1 h2 λq=>absurd (z.symm.trans q) (by decide);rcases a0 x hx with h4 | h4
  ·exact p.fd z k b k0 r x h4 (up w)
  ·rw[h4]at w;exact A z (up w)
 ·rw[h]at z;rw[W.hd]at hm;exact p.hd z m hm x hx (up w)
end
section
variable {M N:Wm}
theorem Wt.cell{i:Int}{c c':Ce}(h:cellAt M i=some c)(b:c'.tone=c.tone)(a:c'.fl=c.fl):Wt M (setCell M i c'):=by
 refine⟨rfl,rfl,rfl,rfl,rfl,rfl,λ_ h=>h,λk d hd=>?_⟩;rw[di h]at hd
 by_cases e:k=i
 ·rw[if_pos e]at hd;cases hd;exact⟨c,by rw[e];exact h,a,.inl b⟩
 ·rw[if_neg e]at hd;exact⟨d,hd,rfl,.inl rfl⟩
theorem Wu.cell{i:Int}{c c':Ce}(h:cellAt M i=some c)(b:c'.tone=c.tone)(a:c'.fl=c.fl):Wu M (setCell M i c'):=by
 refine⟨rfl,λ_ h=>h,λk d hd=>?_⟩;rw[di h]
 by_cases e:k=i
 ·rw[if_pos e];rw[e,h]at hd;cases hd;exact⟨c',rfl,a,.inl b⟩
 ·rw[if_neg e];exact⟨d,hd,rfl,.inl rfl⟩
theorem Za0{h s k:Nat}{x:Option Int}{m:Str×List (Option Int)}(hm:(setSlot M h s x).hands[k]? =some m):∃a,M.hands[k]? =some a/\∀y∈m.2,y∈a.2\/(k=h/\y=x):=by
 have b:(M.hands.modify h λm=>(m.1,m.2.set s x))[k]? =some m:=hm;rw[List.getElem?_modify]at b;cases c:M.hands[k]? with
 | none=>rw[c]at b;cases b
 | some a=>
  rw[c]at b;refine⟨a,rfl,λy hy=>?_⟩
  by_cases z:h=k
  ·have e3:(a.1,a.2.set s x)=m:=by simpa[z]using b
   rw[<- e3]at hy;rcases List.mem_or_eq_of_mem_set (show y∈a.2.set s x from hy)with w | w
   ·exact .inl w
   ·exact .inr ⟨z.symm,w⟩
  ·have e3:a=m:=by simpa[z]using b
   exact .inl (by rw[e3];exact hy)
theorem vf.slot(p:vf M){h s:Nat}{x:Option Int}(l:List (Option Int))(v:M.sw.phase="give"->¬ wh M x)(hw:M.sw.phase="walk"->bB M h=true->x∈l\/∀j,x=some j->wh M (some j)->Gd M j):vf (aP (setSlot M h s x) l).2:=by
 have W:=Wt.notes l (setSlot M h s x);have U:=Wu.notes l (setSlot M h s x);have o:∀{j:Int},Gd M j->Gd (aP (setSlot M h s x) l).2 j:=λg=>Gd.wu U (Gd.wu (M:=M) (N:=setSlot M h s x) ⟨rfl,λ_ h=>h,λi c h=>⟨c,h,rfl,.inl rfl⟩⟩ g);have up:∀{y:Option Int},wh (aP (setSlot M h s x) l).2 y->wh M y:=λw=>W.up w;have f:∀k,bB (aP (setSlot M h s x) l).2 k=bB M k:=λk=>by unfold bB;rw[W.lk];rfl
 have d:(aP (setSlot M h s x) l).2.sw.phase=M.sw.phase:=W.ph;refine⟨by rw[d];exact p.ph,by rw[W.tl];exact p.od,by rw[W.ww,W.tl];exact p.kd,by rw[W.lk];exact p.lz,λz e k m hm=>?_,λz i c' h1 h2 h3 j hj w=>o ?_,λz k m hm lo j hj w=>?_,λz i c' h1 h2 y hy w=>?_,λz m hm y hy w=>?_⟩
 ·rw[W.hd]at hm;obtain⟨n,a,_⟩:=Za0 hm;rw[f];exact p.lk (by rw[<- d];exact z) (by rw[W.ww]at e;exact e) k n a
 ·rw[d]at z;obtain⟨c,a,q,b⟩:=W.ce i c' h1;rw[q]at hj;rw[W.se]at h2;have tc:c.tone=M.sw.sense:=by
   rcases b with b | ⟨_,_,g⟩
   ·rw[<- b];exact h2
   ·exact absurd g h3
  exact p.gf z i c a tc (λg=>h3 (W.gr i g)) j hj (up w)
 ·rw[d]at z;rw[W.hd]at hm;rw[f]at lo;obtain⟨n,a,h1⟩:=Za0 hm;rcases h1 _ hj with h1 | ⟨t,r⟩
  ·exact o (p.gh z k n a lo j h1 (up w))
  ·rcases hw z (by rw[<- t];exact lo)with h5 | h5
   ·rw[r]at w;exact absurd w (pR l (setSlot M h s x) z x h5)
   ·exact o (h5 j r.symm (up w))
 ·rw[d]at z;obtain⟨c,a,q,b⟩:=W.ce i c' h1;rw[q]at hy;rw[W.se]at h2;have tc:c.tone=M.sw.sense:=by
   rcases b with b | ⟨u,_,_⟩
   ·rw[<- b];exact h2
   ·exact absurd (z.symm.trans u) (by decide)
  exact p.fd z i c a tc y hy (up w)
 ·rw[d]at z;rw[W.hd]at hm;rcases Z8 hm hy with e | ⟨n,a,h1⟩
  ·subst e;exact v z (up w)
  ·exact p.hd z n a y h1 (up w)
theorem slot_mem{h k:Nat}{j:Int}(e:aR M h k=some j):∃m,M.hands[h]? =some m/\some j∈m.2:=by
 unfold aR at e;cases hm:M.hands[h]? with
 | none=>rw[hm]at e;cases e
 | some m=>
  rw[hm]at e;have e:(m.2[k]?).join=some j:=e;cases hk:m.2[k]? with
  | none=>rw[hk]at e;cases e
  | some x=>
   rw[hk]at e;have e:x=some j:=e;subst e;exact⟨m,rfl,List.mem_of_getElem? hk⟩
theorem vf.nsl(p:vf M)(h k:Nat)(z:M.sw.phase="give"):¬ wh M (aR M h k):=by
 intro w;cases e:aR M h k with
 | none=>rw[e]at w;exact Ia w
 | some j=>
  rw[e]at w;obtain⟨m,hm,hj⟩:=slot_mem e;exact p.hd z m (List.mem_of_getElem? hm) _ hj w
theorem vf.told(p:vf M)(a:M.sw.phase="walk"){h k:Nat}:aR M h k∈(if (qu M && !bB M h)=true then [aR M h k]else [])\/∀j,aR M h k=some j->wh M (some j)->Gd M j:=by
 by_cases lo:bB M h=true
 ·exact .inr λj e w=>p.sl a lo e w
 ·rcases p.kd with z | z
  ·refine .inr λj e _=>?_;obtain⟨m,hm,_⟩:=slot_mem e;exact absurd (p.lk a z h m hm) lo
  ·have b:qu M=true:=decide_eq_true z.2;have c:bB M h=false:=Bool.eq_false_iff.mpr lo;rw[b,c];exact .inl (by rw[if_pos (show(true && !false)=true from rfl)];exact List.mem_singleton.mpr rfl)
theorem vf.got(p:vf M)(a:M.sw.phase="walk"){h k:Nat}(lo:bB M h=true){i j:Int}{c:Ce}(e:aR M h k=some i)(hc:cellAt M i=some c)(hj:some j∈c.fl)(w:wh M (some j)):Gd M j:=by
 by_cases tc:c.tone=M.sw.sense
 ·by_cases g:i∈M.sw.grey
  ·exact .grey g hc hj
  ·exact p.gf a i c hc tc g j hj w
 ·exact .via (p.sl a lo e ⟨i,c,rfl,hc,tc⟩) hc tc hj
theorem vf.deed(p:vf M){d:nY}{e:Ev}{m:Wm}(h:qN M d=.ok (e,m)):vf m:=by
 cases d with
 | make hh s many bulk=>
  simp only[qN]at h;split at h
  ·have h2:=(Except.ok.inj h);rw[<- (Prod.mk.inj h2).2];have q:=p.new (u:=M.used+(1+many+bulk)) (c:=⟨M.born+1,bulk,M.sw.sense,0,List.replicate many.toNat none⟩) rfl (λy hy=>List.eq_of_mem_replicate hy) (λi d hd=>zY hd);have a:∀j,(some ((lM M.cells:Nat):Int))=some j->¬ wh { M with used:=M.used+(1+many+bulk),born:=M.born+1,cells:=mZ M.cells ⟨M.born+1,bulk,M.sw.sense,0,List.replicate many.toNat none⟩ } (some j):=by
    rintro j e ⟨i,d,n,h1,h2⟩;cases e;cases n;rw[Gj]at h1;cases h1;exact h2 rfl
   exact q.slot [] (λ_=>a _ rfl) (λ_ _=>.inr λj e w=>absurd w (a j e))
  ·cases h
 | get hh s t f=>
  simp only[qN]at h;split at h
  ·cases h
  ·rename_i x hx
   split at h
   ·cases h
   ·rename_i c hc
    split at h
    ·cases h
    ·rename_i v hv
     have h2:=(Except.ok.inj h);rw[<- (Prod.mk.inj h2).2];refine p.slot [] (λz=>?_) (λz lo=>.inr λj e w=>p.got z lo hx hc (by rw[<- e];exact List.mem_of_getElem? hv) w);have a:=p.nsl hh t z;rw[hx]at a;exact p.fd z x c hc (Decidable.byContradiction λy=>a ⟨x,c,rfl,hc,y⟩) v (List.mem_of_getElem? hv)
 | put hh t f s=>
  simp only[qN]at h;split at h
  ·cases h
  ·split at h
   ·cases h
   ·rename_i c hc
    split at h
    ·cases h
    ·rename_i v hv
     have h2:=(Except.ok.inj h);rw[<- (Prod.mk.inj h2).2];have od:old? M=true:=decide_eq_true p.od;refine p.put (y:=aR M hh s) hc hv (λ_=>List.mem_append.mpr (.inl (by rw[if_pos od];exact List.mem_singleton.mpr rfl))) (p.nsl hh s) (λz=>?_);rcases p.told z (h:=hh) (k:=s)with y | y
     ·exact .inl (List.mem_append.mpr (.inr y))
     ·exact .inr y
 | copy hh s t=>
  have h2:=(Except.ok.inj h);rw[<- (Prod.mk.inj h2).2];exact p.slot [] (p.nsl hh t) λz lo=>.inr λj e w=>p.sl z lo e w
 | drop hh s=>
  have h2:=(Except.ok.inj h);rw[<- (Prod.mk.inj h2).2];exact p.slot [] (λ_=>Ia) λz lo=>.inr λj e w=>nomatch e
 | give hh s g t=>
  have h2:=(Except.ok.inj h);rw[<- (Prod.mk.inj h2).2];exact p.slot _ (p.nsl hh s) λz _=>p.told z
 | write hh t l=>
  simp only[qN]at h;split at h
  ·cases h
  ·split at h
   ·cases h
   ·rename_i c hc
    have h2:=(Except.ok.inj h);rw[<- (Prod.mk.inj h2).2];exact p.wt (Wt.cell hc rfl rfl) (Wu.cell hc rfl rfl)
 | read hh t=>
  simp only[qN]at h;split at h
  ·cases h
  ·split at h
   ·cases h
   ·have h2:=(Except.ok.inj h);rw[<- (Prod.mk.inj h2).2];exact p
 | name hh t z=>
  simp only[qN]at h;split at h
  ·cases h
  ·split at h
   ·cases h
   ·have h2:=(Except.ok.inj h);rw[<- (Prod.mk.inj h2).2];exact p.wt ⟨rfl,rfl,rfl,rfl,rfl,rfl,λ_ h=>h,λi c h=>⟨c,h,rfl,.inl rfl⟩⟩ ⟨rfl,λ_ h=>h,λi c h=>⟨c,h,rfl,.inl rfl⟩⟩
 | seek hh s z=>
  simp only[qN]at h;split at h
  ·cases h
  ·rename_i pl b _
   split at h
   ·have h2:=(Except.ok.inj h);rw[<- (Prod.mk.inj h2).2];exact p.slot [] (λ_=>Ia) λz lo=>.inr λj e w=>nomatch e
   ·rename_i o
    have h2:=(Except.ok.inj h);rw[<- (Prod.mk.inj h2).2];refine p.slot _ (λgv w=>?_) λ_ _=>.inl (List.mem_singleton.mpr rfl);obtain⟨i,c,e,h3,h4⟩:=w;cases e;refine o ?_;unfold pU;rw[h3];show(if c.birth=b then decide _ else true)=true;split
    ·exact decide_eq_true ⟨gv,h4⟩
    ·rfl
end
section
variable {M M':Wm}{w0:Int}
theorem Vw{x y:Int}(hx:0<=x)(hy:0<=y):Builtin.bitOr x y=((x.toNat ||| y.toNat:Nat):Int):=by
 have e:∀z:Int,Builtin.bitNot (Builtin.bitNot z)=z:=λz=>by unfold Builtin.bitNot;omega
 have n1:decide (0<=Builtin.bitNot x)=false:=decide_eq_false (by unfold Builtin.bitNot;omega);have n2:decide (0<=Builtin.bitNot y)=false:=decide_eq_false (by unfold Builtin.bitNot;omega);unfold Builtin.bitOr Builtin.bitAnd;rw[n1,n2];show Builtin.bitNot (Builtin.bitNot _)=_;rw[e,e,e]
theorem Yj(a h:Nat):(((a:Nat):Int) / 2 ^ h % 2=1)↔a.testBit h=true:=by
 rw[Nat.testBit_eq_decide_div_mod_eq,decide_eq_true_iff];have:((a:Nat):Int) / 2 ^ h % 2=((a / 2 ^ h % 2:Nat):Int):=by simp
 rw[this];omega
theorem Zsm{x y:Int}(hx:0<=x)(hy:0<=y)(h:Nat):(Builtin.bitOr x y / 2 ^ h % 2=1)↔(x / 2 ^ h % 2=1\/y / 2 ^ h % 2=1):=by
 rw[Vw hx hy,Yj,Nat.testBit_or,Bool.or_eq_true,<- Yj,<- Yj,Int.toNat_of_nonneg hx,Int.toNat_of_nonneg hy]
theorem K6(x:Int):∀(n i:Nat),(lsE x i n=0/\∀k,i<=k->k<i+n->x / 2 ^ k % 2≠0)\/∃k,i<=k/\k<i+n/\lsE x i n=2 ^ k
 | 0,i=>.inl ⟨rfl,λk h1 h2=>by omega⟩
 | n+1,i=>by
  unfold lsE
  by_cases z:x / 2 ^ i % 2=0
  ·rw[if_pos z];exact .inr ⟨i,Nat.le_refl _,by omega,rfl⟩
  ·rw[if_neg z];rcases K6 x n (i+1)with ⟨h1,h2⟩ | ⟨k,h1,h2,h3⟩
   ·refine .inl ⟨h1,λk a b=>?_⟩
    by_cases e:k=i
    ·rw[e];exact z
    ·exact h2 k (by omega) (by omega)
   ·exact .inr ⟨k,by omega,by omega,h3⟩
theorem Z9{b:Int}(l:List (Str×List (Option Int))):∀(k i:Nat) (m:Str×List (Option Int)) (x:Option Int),l[i]? =some m->x∈m.2->b / 2 ^ (k+i) % 2=1->x∈nhL b l k:=by
 induction l with
 | nil=>intro k i m x h;cases h
 | cons a l ih=>
  intro k i m x h hx hb;unfold nhL;cases i with
  | zero=>
   cases h;rw[Nat.add_zero]at hb;rw[if_pos hb];exact List.mem_append.mpr (.inl hx)
  | succ i=>
   have r:=ih (k+1) i m x h hx (by rw[show k+1+i=k+(i+1) by omega];exact hb);split
   ·exact List.mem_append.mpr (.inr r)
   ·exact r
theorem vf.hands(p:vf M)(ph:M.sw.phase="walk")(b:M.sw.grey=[])(a:uT M):∀m∈M.hands,∀x∈m.2,¬ wh M x:=by
 intro m hm x hx w;obtain⟨h,hh,rfl⟩:=List.getElem_of_mem hm;have hm:=bL hh;have lo:bB M h=true:=by
  rcases p.kd with z | ⟨z,_⟩
  ·exact p.lk ph z h _ hm
  ·rcases a with y | y
   ·unfold dj Ie at y;rw[z]at y;have y:lsE M.sw.looked 0 M.hands.length=0:=y;rcases K6 M.sw.looked M.hands.length 0 with ⟨_,h2⟩ | ⟨k,_,_,h3⟩
    ·have:=h2 h (by omega) (by omega);exact decide_eq_true (by have:=Int.emod_nonneg (M.sw.looked / 2 ^ h) (show(2:Int)≠0 by decide);have:=Int.emod_lt_of_pos (M.sw.looked / 2 ^ h) (show(0:Int)<2 by decide);omega)
    ·rw[y]at h3;have:(0:Int)<2 ^ k:=Int.pow_pos (by decide);omega
   ·rw[z]at y;exact absurd y.1 (by decide)
 obtain⟨j,c,rfl,h1,h2⟩:=w;exact(p.gh ph h _ hm lo j hx ⟨j,c,rfl,h1,h2⟩).none b
theorem vf.fields(p:vf M)(ph:M.sw.phase="walk")(a:M.sw.grey=[]){i:Int}{c:Ce}(hc:cellAt M i=some c)(b:c.tone=M.sw.sense):∀x∈c.fl,¬ wh M x:=by
 rintro x hx ⟨j,d,rfl,h1,h2⟩;exact(p.gf ph i c hc b (by rw[a];simp) j hx ⟨j,d,rfl,h1,h2⟩).none a
theorem vf.found(p:vf M)(ph:M.sw.phase="walk")(j:M.sw.grey=[])(o:uT M){q g:List (Int×List Int)}{k:Nat}(b:KB.O3 (fdOf M) (jj M) q k g){x:Int×List Int}(hx:x∈g){c:Ce}(hc:cellAt M x.1=some c):c.tone=M.sw.sense:=by
 have a:¬ wh M (some x.1):=by
  refine(Zp7 (P:=λy=>¬ wh M (some y)) (λrow hr y hy=>?_) (λy fl n f z hz=>?_) b).2 x hx
  ·rcases List.mem_append.mp hr with hr | hr
   ·obtain⟨m,hm,rfl⟩:=List.mem_map.mp hr;exact p.hands ph j o m hm _ hy
   ·rw[List.mem_singleton.mp hr]at hy;obtain⟨m,hm,e⟩:=List.mem_map.mp hy;unfold Mu at e;split at e
    ·cases e
    ·split at e
     ·cases e
     ·rename_i d hd
      split at e
      ·cases e
      ·rename_i z
       have e:=Option.some.inj e;rintro⟨i,d',l,h3,h4⟩;cases l;rw[<- e,hd]at h3;cases h3;exact z ⟨decide_eq_true (.inl ph),h4⟩
  ·rw[Zdy]at f;obtain⟨d,hd,rfl⟩:=Option.map_eq_some_iff.mp f;exact p.fields ph j hd (Decidable.byContradiction λh=>n ⟨y,d,rfl,hd,h⟩) _ hz
 exact Decidable.byContradiction λh=>a ⟨x.1,c,rfl,hc,h⟩
theorem Om{c:Ce}(hc:cellAt M M.sw.at'=some c){u:Int}{w:Sw}{i:Int}{d:Ce}(hd:cellAt { M with used:=u,cells:=M.cells.set M.sw.at'.toNat none,sw:=w } i=some d):i≠M.sw.at'/\cellAt M i=some d:=by
 obtain⟨a,h1⟩:=bT.mp hd;have h1:(M.cells.set M.sw.at'.toNat none)[i.toNat]? =some (some d):=h1;obtain⟨k0,k1⟩:=bT.mp hc
 by_cases z:M.sw.at'.toNat=i.toNat
 ·rw[z,List.getElem?_set_self (by rw[<- z];exact(dX k1).1)]at h1;cases h1
 ·rw[List.getElem?_set_ne z]at h1;exact⟨λe=>z (by rw[e]),bT.mpr ⟨a,h1⟩⟩
theorem vf.step(p:vf M)(K:TB w0 M){lb:Int}{lw:List Int}{e:Ev}(h:tW lb lw M e M'):vf M':=by
 have f:¬ ("give":Str)="walk":=by decide
 have t:¬ ("walk":Str)="give":=by decide
 have n:¬ ("rest":Str)="walk":=by decide
 have E:¬ ("rest":Str)="give":=by decide
 cases h with
 | begin ph=>
  rw[U4];have W:=Wt.notes (nhL (jm M.w M.hands.length) M.hands 0) (rN M);have o:(aP (rN M) (nhL (jm M.w M.hands.length) M.hands 0)).2.sw.phase="walk":=W.ph;have a:(aP (rN M) (nhL (jm M.w M.hands.length) M.hands 0)).2.sw.looked=jm M.w M.hands.length:=W.lk;have at0:M.w=0->jm M.w M.hands.length=2 ^ M.hands.length - 1:=λz=>by unfold jm;rw[if_pos z]
  have r:M.w=0->∀k m,M.hands[k]? =some m->jm M.w M.hands.length / 2 ^ k % 2=1:=λz k m hm=>by
   rw[at0 z];exact Zjd (dX hm).1
  refine⟨.inr (.inl o),by rw[W.tl];exact p.od,by rw[W.ww,W.tl];exact p.kd,?_,λ_ z k m hm=>?_,λ_ i c' h1 h2 h3=>?_,λ_ k m hm lo j hj w=>?_,λz=>absurd (o.symm.trans z) t,λz=>absurd (o.symm.trans z) t⟩
  ·rw[a];rcases p.kd with z | ⟨z,_⟩
   ·rw[at0 z];have:(0:Int)<2 ^ M.hands.length:=Int.pow_pos (by decide);omega
   ·unfold jm;rw[if_neg (by omega)];exact Int.le_refl _
  ·rw[W.ww]at z;rw[W.hd]at hm;unfold bB;rw[a];exact decide_eq_true (r z k m hm)
  ·obtain⟨c,S,_,I⟩:=W.ce i c' h1;have h4:=K.rs ph i c S;have h5:=K.se;have h6:c'.tone=1 - M.sw.sense:=h2.trans W.se;rcases I with I | ⟨_,_,g⟩
   ·omega
   ·exact absurd g h3
  ·rw[W.hd]at hm;have hm:M.hands[k]? =some m:=hm;rcases p.kd with z | ⟨z,_⟩
   ·exact absurd w (pR _ (rN M) rfl _ (Z9 M.hands 0 k m _ hm hj (by rw[Nat.zero_add];exact r z k m hm)))
   ·unfold bB at lo;rw[a]at lo;unfold jm at lo;rw[if_neg (by omega),Int.zero_ediv]at lo;exact absurd lo (by decide)
 | walk x g c ph l hc=>
  have W:=Wt.notes c.fl { M with sw:={ M.sw with grey:=g,walks:=M.sw.walks+1 } };have up:∀{y:Option Int},wh (aP { M with sw:={ M.sw with grey:=g,walks:=M.sw.walks+1 } } c.fl).2 y->wh M y:=λw=>W.up w;have o:(aP { M with sw:={ M.sw with grey:=g,walks:=M.sw.walks+1 } } c.fl).2.sw.phase="walk":=W.ph.trans ph;have a:∀k,bB (aP { M with sw:={ M.sw with grey:=g,walks:=M.sw.walks+1 } } c.fl).2 k=bB M k:=λk=>by unfold bB;rw[W.lk]
  refine⟨.inr (.inl o),by rw[W.tl];exact p.od,by rw[W.ww,W.tl];exact p.kd,by rw[W.lk];exact p.lz,λ_ z k m hm=>?_,λ_ i d h1 h2 h3 j hj w=>?_,λ_ k m hm lo j hj w=>?_,λz=>absurd (o.symm.trans z) t,λz=>absurd (o.symm.trans z) t⟩
  ·rw[W.ww]at z;rw[W.hd]at hm;rw[a];exact p.lk ph z k m hm
  ·rw[W.se]at h2;obtain⟨C,k1,Y,t1⟩:=W.ce i d h1;rw[Y]at hj;have R:C.tone=M.sw.sense:=by
    rcases t1 with t1 | ⟨_,_,gr⟩
    ·rw[<- t1];exact h2
    ·exact absurd gr h3
   have k1:cellAt M i=some C:=k1
   by_cases ex:i=x
   ·rw[ex,hc]at k1;cases k1;exact absurd w (pR c.fl { M with sw:={ M.sw with grey:=g,walks:=M.sw.walks+1 } } ph _ hj)
   ·refine(p.gf ph i C k1 R (λgr=>?_) j hj (up w)).walk ph l hc w;rw[l]at gr;rcases List.mem_cons.mp gr with gr | gr
    ·exact ex gr
    ·exact h3 (W.gr i gr)
  ·rw[W.hd]at hm;rw[a]at lo;exact(p.gh ph k m hm lo j hj (up w)).walk ph l hc w
 | look N ph l O V=>
  subst V;rw[U4];have P:M.w=1:=by
   rcases p.kd with z | ⟨z,_⟩
   ·exact absurd (show uT M from .inl (by unfold dj Ie;rw[z];rfl)) O
   ·exact z
  obtain⟨b,X⟩:∃b:Nat,dj M=2 ^ b:=by
   have L:dj M=lsE M.sw.looked 0 M.hands.length:=by unfold dj Ie;rw[P];rfl
   rcases K6 M.sw.looked M.hands.length 0 with ⟨h1,_⟩ | ⟨k,_,_,h3⟩
   ·exact absurd (show uT M from .inl (L.trans h1)) O
   ·exact⟨k,L.trans h3⟩
  have s:0<=dj M:=by rw[X];exact Int.le_of_lt (Int.pow_pos (by decide))
  have W:=Wt.notes (nhL (dj M) M.hands 0) M;have q:=p.wt W (Wu.notes (nhL (dj M) M.hands 0) M);have J:=pR (nhL (dj M) M.hands 0) M ph;generalize (aP M (nhL (dj M) M.hands 0)).2=N at W q J;rw[if_neg (show ¬ M.w=2 by omega)];have H:∀{j:Int}{u:Sw},u.sense=N.sw.sense->u.grey=N.sw.grey->Gd N j->Gd { N with sw:=u } j:=λ{j u} T U g=>Gd.wu (M:=N) (N:={ N with sw:=u }) ⟨T,λi h=>by show i∈u.grey;rw[U];exact h,λi c h=>⟨c,h,rfl,.inl rfl⟩⟩ g;refine⟨q.ph,q.od,q.kd,?_,λ_ z=>absurd (show N.w=0 from z) (by rw[W.ww];omega),λz i c h1 h2 h3 j hj w=>H rfl rfl (q.gf z i c h1 h2 h3 j hj w),λz k m hm lo j hj w=>?_,q.fd,q.hd⟩
  ·show 0<=Builtin.bitOr N.sw.looked (dj M);rw[Vw q.lz s];omega
  ·have lo:Builtin.bitOr N.sw.looked (dj M) / 2 ^ k % 2=1:=of_decide_eq_true lo;rcases(Zsm q.lz s k).mp lo with lo | lo
   ·exact H rfl rfl (q.gh z k m hm (decide_eq_true lo) j hj w)
   ·have hm:N.hands[k]? =some m:=hm;rw[W.hd]at hm;exact absurd w (J _ (Z9 M.hands 0 k m _ hm hj (by rw[Nat.zero_add];exact lo)))
 | cut q Q ph l D F B=>
  exact⟨.inr (.inr rfl),p.od,p.kd,p.lz,λz=>absurd z f,λz=>absurd z f,λz=>absurd z f,λ_ i c hc A=>p.fields ph l hc A,λ_=>p.hands ph l D⟩
 | lost q Q i x c v ph l D F hx B hc A=>exact absurd (p.found ph l D F (List.mem_of_getElem? hx) hc) A
 | pass ph lt hp=>exact⟨p.ph,p.od,p.kd,p.lz,λz=>absurd (ph.symm.trans z) f,λz=>absurd (ph.symm.trans z) f,λz=>absurd (ph.symm.trans z) f,p.fd,p.hd⟩
 | back c ph lt hc A=>
  have up:∀{y:Option Int},wh { M with used:=M.used - (1+c.fl.length+c.bulk),cells:=M.cells.set M.sw.at'.toNat none,sw:={ M.sw with at':=M.sw.at'+1,passes:=M.sw.passes+1 } } y->wh M y:=λ⟨i,d,e,h1,h2⟩=>⟨i,d,e,(Om hc h1).2,h2⟩;exact⟨p.ph,p.od,p.kd,p.lz,λz=>absurd (ph.symm.trans z) f,λz=>absurd (ph.symm.trans z) f,λz=>absurd (ph.symm.trans z) f,λz i d h1 h2 y hy w=>p.fd z i d (Om hc h1).2 h2 y hy (up w),λz m hm y hy w=>p.hd z m hm y hy (up w)⟩
 | fin ph lt=>exact⟨.inl rfl,p.od,p.kd,p.lz,λz=>absurd z n,λz=>absurd z n,λz=>absurd z n,λz=>absurd z E,λz=>absurd z E⟩
 | again ph=>
  rcases p.ph with z | z | z
  ·exact absurd (ph.symm.trans z) (by decide)
  ·exact absurd (ph.symm.trans z) (by decide)
  ·exact absurd (ph.symm.trans z) (by decide)
end
structure Nd(M:Wm):Prop where
 fl:∀i c,cellAt M i=some c->(M.sw.phase="give"->c.tone=M.sw.sense)->∀j,some j∈c.fl->∃d,cellAt M j=some d
 hd:∀m∈M.hands,∀j,some j∈m.2->∃d,cellAt M j=some d
section
variable {M N:Wm}{w0:Int}
theorem Nd.wt(n:Nd M)(h:Wt M N)(u:Wu M N):Nd N:=by
 have b:∀{j:Int},(∃d,cellAt M j=some d)->∃d,cellAt N j=some d:=λ⟨d,hd⟩=>by
  obtain⟨d',h1,_⟩:=u.ce _ d hd;exact⟨d',h1⟩
 refine⟨λi c' h1 h2 j hj=>?_,λm hm j hj=>?_⟩
 ·obtain⟨c,g,f,a⟩:=h.ce i c' h1;rw[f]at hj;refine b (n.fl i c g (λz=>?_) j hj);rw[h.ph,h.se]at h2;rcases a with a | ⟨e,_,_⟩
  ·rw[<- a];exact h2 z
  ·exact absurd (z.symm.trans e) (by decide)
 ·rw[h.hd]at hm;exact b (n.hd m hm j hj)
theorem Nd.slot(n:Nd M)(h s:Nat){x:Option Int}(hx:∀j,x=some j->∃d,cellAt M j=some d):Nd (setSlot M h s x):=
 ⟨n.fl,λm hm j hj=>by
  rcases Z8 hm hj with e | ⟨b,a,h1⟩
  ·exact hx j e.symm
  ·exact n.hd b a j h1⟩
theorem Nd.sl(n:Nd M){h k:Nat}{j:Int}(e:aR M h k=some j):∃d,cellAt M j=some d:=by
 obtain⟨m,hm,hj⟩:=slot_mem e;exact n.hd m (List.mem_of_getElem? hm) j hj
theorem Nd.deed(n:Nd M)(p:vf M){d:nY}{e:Ev}{q:Wm}(h:qN M d=.ok (e,q)):Nd q:=by
 cases d with
 | make hh s many bulk=>
  simp only[qN]at h;split at h
  ·have h2:=(Except.ok.inj h);rw[<- (Prod.mk.inj h2).2];refine Nd.slot ⟨λi c h1 h2 j hj=>?_,λm hm j hj=>?_⟩ hh s λj e=>?_
   ·rcases eY h1 with ⟨_,e⟩ | e
    ·rw[e]at hj;exact nomatch List.eq_of_mem_replicate hj
    ·obtain⟨d,hd⟩:=n.fl i c e h2 j hj;exact⟨d,zY hd⟩
   ·obtain⟨d,hd⟩:=n.hd m hm j hj;exact⟨d,zY hd⟩
   ·cases e;exact⟨_,Gj⟩
  ·cases h
 | get hh s t f=>
  simp only[qN]at h;split at h
  ·cases h
  ·rename_i x hx
   split at h
   ·cases h
   ·rename_i c hc
    split at h
    ·cases h
    ·rename_i v hv
     have h2:=(Except.ok.inj h);rw[<- (Prod.mk.inj h2).2];refine n.slot _ _ λj e=>n.fl x c hc (λz=>?_) j (by rw[<- e];exact List.mem_of_getElem? hv);have o:=p.nsl hh t z;rw[hx]at o;exact Decidable.byContradiction λy=>o ⟨x,c,rfl,hc,y⟩
 | put hh t f s=>
  simp only[qN]at h;split at h
  ·cases h
  ·rename_i a _
   split at h
   ·cases h
   ·rename_i c hc
    split at h
    ·cases h
    ·rename_i v hv
     have h2:=(Except.ok.inj h);rw[<- (Prod.mk.inj h2).2];have k:∀{j:Int},(∃d,cellAt M j=some d)->∃d,cellAt (setCell M a { c with fl:=c.fl.set f (aR M hh s) }) j=some d:=λ{j} ⟨d,hd⟩=>by
      rw[di hc];split
      ·exact⟨_,rfl⟩
      ·exact⟨d,hd⟩
     refine Nd.wt (M:=setCell M a { c with fl:=c.fl.set f (aR M hh s) }) ⟨λi d h1 h2 j hj=>k ?_,λm hm j hj=>k (n.hd m hm j hj)⟩ (Wt.notes _ _) (Wu.notes _ _);rw[di hc]at h1;split at h1
     ·cases h1;rcases List.mem_or_eq_of_mem_set hj with hj | hj
      ·exact n.fl a c hc h2 j hj
      ·exact n.sl hj.symm
     ·exact n.fl i d h1 h2 j hj
 | copy hh s t=>
  have h2:=(Except.ok.inj h);rw[<- (Prod.mk.inj h2).2];exact n.slot _ _ λj e=>n.sl e
 | drop hh s=>
  have h2:=(Except.ok.inj h);rw[<- (Prod.mk.inj h2).2];exact n.slot _ _ λj e=>nomatch e
 | give hh s g t=>
  have h2:=(Except.ok.inj h);rw[<- (Prod.mk.inj h2).2];exact(n.slot _ _ λj e=>n.sl e).wt (Wt.notes _ _) (Wu.notes _ _)
 | write hh t l=>
  simp only[qN]at h;split at h
  ·cases h
  ·split at h
   ·cases h
   ·rename_i c hc
    have h2:=(Except.ok.inj h);rw[<- (Prod.mk.inj h2).2];exact n.wt (Wt.cell hc rfl rfl) (Wu.cell hc rfl rfl)
 | read hh t=>
  simp only[qN]at h;split at h
  ·cases h
  ·split at h
   ·cases h
   ·have h2:=(Except.ok.inj h);rw[<- (Prod.mk.inj h2).2];exact n
 | name hh t z=>
  simp only[qN]at h;split at h
  ·cases h
  ·split at h
   ·cases h
   ·have h2:=(Except.ok.inj h);rw[<- (Prod.mk.inj h2).2];exact⟨n.fl,n.hd⟩
 | seek hh s z=>
  simp only[qN]at h;split at h
  ·cases h
  ·rename_i pl b _
   split at h
   ·have h2:=(Except.ok.inj h);rw[<- (Prod.mk.inj h2).2];exact n.slot _ _ λj e=>nomatch e
   ·rename_i r
    have h2:=(Except.ok.inj h);rw[<- (Prod.mk.inj h2).2];refine(n.slot _ _ λj e=>?_).wt (Wt.notes _ _) (Wu.notes _ _);cases e;cases hc:cellAt M pl with
    | none=>exact absurd (show pU M pl b=true by unfold pU;rw[hc]) r
    | some d=>exact⟨d,rfl⟩
theorem Nd.step(n:Nd M)(p:vf M)(w:TB w0 M){r:Wm}{lb:Int}{lw:List Int}{e:Ev}(h:tW lb lw M e r):Nd r:=by
 cases h with
 | begin ph=>
  rw[U4];exact Nd.wt (M:=rN M) ⟨λi c h1 _=>n.fl i c h1 λz=>absurd (ph.symm.trans z) (by decide),n.hd⟩ (Wt.notes _ _) (Wu.notes _ _)
 | walk x g c ph b hc=>exact Nd.wt (M:={ M with sw:={ M.sw with grey:=g,walks:=M.sw.walks+1 } }) ⟨n.fl,n.hd⟩ (Wt.notes _ _) (Wu.notes _ _)
 | look N ph b A s=>
  subst s;rw[U4];have q:=n.wt (Wt.notes (nhL (dj M) M.hands 0) M) (Wu.notes _ _);exact⟨q.fl,q.hd⟩
 | cut q t ph b l o f=>exact⟨λi c h1 _=>n.fl i c h1 λz=>absurd (ph.symm.trans z) (by decide),n.hd⟩
 | lost q t i x c v ph b l o hx f hc a=>exact absurd (p.found ph b l o (List.mem_of_getElem? hx) hc) a
 | pass ph lt hp=>exact⟨n.fl,n.hd⟩
 | back c ph lt hc a=>
  have k:∀{j:Int},¬ wh M (some j)->(∃d,cellAt M j=some d)->∃d,cellAt { M with used:=M.used - (1+c.fl.length+c.bulk),cells:=M.cells.set M.sw.at'.toNat none,sw:={ M.sw with at':=M.sw.at'+1,passes:=M.sw.passes+1 } } j=some d:=λ{j} u ⟨d,hd⟩=>by
   refine⟨d,?_⟩;have ne:j≠M.sw.at':=λe=>u ⟨j,c,rfl,by rw[e];exact hc,a⟩;obtain⟨y,h1⟩:=bT.mp hd;obtain⟨k0,k1⟩:=bT.mp hc;refine bT.mpr ⟨y,?_⟩;show(M.cells.set M.sw.at'.toNat none)[j.toNat]? =some (some d);rw[List.getElem?_set_ne (λe=>ne (by omega))];exact h1
  exact⟨λi d h1 h2 j hj=>k (p.fd ph i d (Om hc h1).2 (h2 ph) _ hj) (n.fl i d (Om hc h1).2 h2 j hj),λm hm j hj=>k (p.hd ph m hm _ hj) (n.hd m hm j hj)⟩
 | fin ph lt=>
  refine⟨λi c h1 _=>n.fl i c h1 λ_=>Decidable.byContradiction λa=>?_,n.hd⟩;have:=w.gv ph i c h1 a;omega
 | again ph=>exact n
end
def FdO(H:Hp)(d:Addr)(c:List Tc)(k:Nat):Prop:=∃f,GF H d f k/\∀x∈c,∃a,f x.b=some (.ref a)/\H a=some (.lst (x.fs.map oV))
theorem FdO.same{H H':Hp}{d:Addr}{b:List Tc}{k:Nat}(s:aU H H')(h:FdO H d b k):FdO H' d b k:=by
 obtain⟨f,h1,h2⟩:=h;refine⟨f,h1.same s,λx hx=>?_⟩;obtain⟨a,z1,c⟩:=h2 x hx;exact⟨a,z1,s _ _ c⟩
theorem GF.ask{H:Hp}{d:Addr}{f:Int->Option V}{k:Nat}(h:GF H d f k)(b:Int):Gx H d (.int b) (f b):=by
 obtain⟨a,h1,_,h2⟩:=h;have:=Gx.k (k:=Sum.inl b) h1;rw[h2 b]at this;exact this
theorem GF.ne{H:Hp}{d l:Addr}{f:Int->Option V}{k:Nat}{xs:List V}(h:GF H d f k)(e:H l=some (.lst xs)):l≠d:=by
 obtain⟨a,h1,_⟩:=h;exact qw e h1 (λz=>by cases z)
theorem GF.upd{H:Hp}{d l:Addr}{f:Int->Option V}{k:Nat}{o:HO}(h:GF H d f k)(n:l≠d):GF (upd H l o) d f k:=by
 obtain⟨a,h1,h2⟩:=h;exact⟨a,(aB n.symm).trans h1,h2⟩
def Uq(a:List Tc):Prop:=∀x∈a,∀y∈a,x.b=y.b->x.fs=y.fs
def Cl(a:List Tc):Prop:=∀x∈a,∀b,some b∈x.fs->∃y∈a,y.b=b
inductive GdT(rows:List Tc):Int->Prop
 | grey {x:Tc}{b:Int}:x∈rows->x.tone=("grey":Str)->some b∈x.fs->lO rows b=some (.str "pale")->GdT rows b
 | via {x:Tc}{b:Int}:GdT rows x.b->x∈rows->some b∈x.fs->lO rows b=some (.str "pale")->GdT rows b
theorem Zfl{a:List Tc}{b:Int}(h:∃y∈a,y.b=b):∃x∈a,x.b=b/\lO a b=some (.str x.tone):=by
 obtain⟨y,hy,e⟩:=h;unfold lO;cases c:a.reverse.find? λ(x:Tc)=>decide (x.b=b)with
 | none=>exact absurd (decide_eq_true e) (List.find?_eq_none.mp c y (List.mem_reverse.mpr hy))
 | some x=>exact⟨x,List.mem_reverse.mp (List.mem_of_find?_eq_some c),of_decide_eq_true (List.find?_some (p:=λ(x:Tc)=>decide (x.b=b)) c),rfl⟩
def flS(f:Int->Option V):List Tc->Nat
 | []=>0
 | x::l=>(if (f x.b).isSome=true then 0 else x.fs.length)+flS f l
theorem Zlg(f:Int->Option V){B:Nat}:∀(l:List Tc),(∀x∈l,x.fs.length<=B)->flS f l<=l.length * B
 | [],_=>Nat.zero_le _
 | x::l,h=>by
  have h1:=Zlg f l λy hy=>h y (List.mem_cons_of_mem _ hy);have h2:=h x (List.mem_cons_self ..);unfold flS;rw[List.length_cons,Nat.succ_mul];split<;>omega
theorem Zac(f:Int->Option V)(b:Int)(v:V):∀(l:List Tc),flS (λx=>if x=b then some v else f x) l<=flS f l
 | []=>Nat.le_refl _
 | x::l=>by
  have h1:=Zac f b v l;unfold flS
  by_cases e:x.b=b
  ·rw[if_pos (by rw[if_pos e];rfl)];split<;>omega
  ·rw[if_neg e];omega
theorem Zf5{f:Int->Option V}{y:Tc}(v:V)(hn:f y.b=none):∀(l:List Tc),y∈l->flS (λx=>if x=y.b then some v else f x) l+y.fs.length<=flS f l
 | [],h=>nomatch h
 | x::l,h=>by
  have h1:=Zac f y.b v l;unfold flS;rcases List.mem_cons.mp h with e | h
  ·subst e;rw[if_pos (by rw[if_pos rfl];rfl),if_neg (by rw[hn];exact Bool.false_ne_true)];omega
  ·have h2:=Zf5 v hn l h
   by_cases e:x.b=y.b
   ·rw[if_pos (by rw[if_pos e];rfl)];split<;>omega
   ·rw[if_neg e];omega
def PfC(a:List Tc)(f:Int->Option V)(c:List (Option Int)):Prop:=∀x∈a,x.tone=("grey":Str)\/f x.b≠none->∀b,some b∈x.fs->lO a b=some (.str "pale")->f b≠none\/some b∈c
theorem PfC.pop{a:List Tc}{f:Int->Option V}{c:List (Option Int)}{y:Option Int}(h:PfC a f (c++[y]))(hy:∀b,y=some b->lO a b=some (.str "pale")->f b≠none):PfC a f c:=by
 intro x hx d b hb hp;rcases h x hx d b hb hp with z | z
 ·exact .inl z
 ·rcases List.mem_append.mp z with z | z
  ·exact .inr z
  ·exact .inl (hy b (List.mem_singleton.mp z).symm hp)
theorem PfC.put{a:List Tc}{f:Int->Option V}{g:List (Option Int)}{r:Tc}{v:V}(uq:Uq a)(hr:r∈a)(h:PfC a f (g++[some r.b])):PfC a (λx=>if x=r.b then some v else f x) (g++r.fs):=by
 intro x hx c b hb hp
 by_cases e:b=r.b
 ·exact .inl (by show(if b=r.b then some v else f b)≠none;rw[if_pos e];exact λz=>nomatch z)
 show(if b=r.b then some v else f b)≠none\/_;rw[if_neg e]
 by_cases d:x.b=r.b
 ·exact .inr (List.mem_append.mpr (.inr (by rw[<- uq x hx r hr d];exact hb)))
 ·have c:x.tone=("grey":Str)\/f x.b≠none:=by
   rcases c with z | z
   ·exact .inl z
   ·have z:(if x.b=r.b then some v else f x.b)≠none:=z;rw[if_neg d]at z;exact .inr z
  rcases h x hx c b hb hp with z | z
  ·exact .inl z
  ·rcases List.mem_append.mp z with z | z
   ·exact .inr (List.mem_append.mpr (.inl z))
   ·exact absurd (Option.some.inj (List.mem_singleton.mp z)) e
theorem PfC.all{a:List Tc}{f:Int->Option V}(h:PfC a f []){b:Int}(g:GdT a b):f b≠none:=by
 induction g with
 | grey hx c hb hp=>
  rcases h _ hx (.inl c) _ hb hp with z | z
  ·exact z
  ·exact nomatch z
 | via g hx hb hp ih=>
  rcases h _ hx (.inr ih) _ hb hp with z | z
  ·exact z
  ·exact nomatch z
def PfI(H:Hp)(a:List Tc)(l m d i:Addr)(h:Nat)(σ:St)(e:Hp):Prop:=∃(g:Addr) (j n:Option V) (c:List (Option Int)) (f:Int->Option V) (k:Nat),σ=[some (.ref l),some (.ref m),some (.ref d),some (.ref i),some (.ref g),j,n]/\aU H e/\H g=none/\e g=some (.lst (c.map oV))/\GF e i f k/\h=c.length+flS f a/\k + h<=100000/\(∀b,some b∈c->∃y∈a,y.b=b)/\PfC a f c
def Du(K:aC):Sp:=λvs H Q E=>∃l,vs=[.ref l]/\∃b:List Tc,CtO H l b/\b.length<=1000/\Uq b/\∀a H',aU H H'->H a=none->FdO H' a b 1000->Q (.ref a) H'
def OJ(K:aC):Sp:=λvs H Q E=>∃l m d,vs=[.ref l,.ref m,.ref d]/\∃c:List Tc,CtO H l c/\c.length<=1000/\(∀x∈c,x.fs.length<=50)/\Uq c/\Cl c/\GF H m (lO c) 5000/\FdO H d c 1000/\
 ∀a H' f,aU H H'->H a=none->GF H' a f 100000->(∀b,GdT c b->f b≠none)->Q (.ref a) H'
section
theorem Zks{p q:Addr}{xs:List V}(h1:cV K H p xs)(h2:cV K H q [])(h:Q (.bl (decide (xs≠[]))) H):G.Zmw K true (.ref p) (.ref q) H Q:=by
 refine⟨p,q,_,_,rfl,rfl,h1,h2,λe=>?_,?_⟩
 ·have:xs=[]:=List.length_eq_zero_iff.mp e;subst this;exact⟨rfl,rfl⟩
 ·cases xs with
  | nil=>exact h
  | cons a l=>
   rw[decide_eq_true (show a::l≠[]from λz=>nomatch z)]at h;exact h
theorem Ro{l:Addr}(q:∃g:List Tc,CtO H l g/\g.length<=1000/\Uq g/\∀a H',aU H H'->H a=none->FdO H' a g 1000->Q (.ref a) H'):uJ K ⟨n,Q,bk,ct⟩ [some (.ref l),none,none] H:=by
 obtain⟨g,⟨ls,o1,hl,o2⟩,hb,uq,q⟩:=q;unfold uJ;walk_at"e";intro d nd;have t:=aL nd (.dK []);have B:FdO (upd H d (.dK [])) d [] 0:=⟨λ_=>none,⟨[],aq,Nat.le_refl _,λb=>rfl⟩,λx hx=>nomatch hx⟩;generalize upd H d (.dK [])=L at t B ⊢;walk_at"e";refine⟨l,rfl,⟨_,cV.of (t _ _ o1)⟩,forL (ls.map V.ref) (λi σ j=>∃u,σ=[some (.ref l),some (.ref d),u]/\aU H j/\FdO j d (g.take i) i) ⟨_,rfl,t,B⟩ (λ_ _ _ _ ⟨_,_,y,_⟩=>cV.of (y _ _ o1)) ?_ ?_⟩
 ·rintro i y σ j hy ⟨u,rfl,m,f,A,p⟩;rw[cA]at hy;obtain⟨r,hr,rfl⟩:=Option.map_eq_some_iff.mp hy;have hi:i<ls.length:=(dX hr).1;obtain⟨x,hx⟩:∃x,g[i]? =some x:=⟨_,bL (by omega)⟩;have w:g.take (i+1)=g.take i++[x]:=by rw[List.take_add_one,hx];rfl
  obtain⟨fa,h,k⟩:=o2 i r x hr hx;have h:=m _ _ h;walk_at"e";refine⟨r,_,4,_,rfl,rfl,je.of h,rfl,?_⟩;walk_at"e";refine⟨r,_,1,_,rfl,rfl,je.of h,rfl,?_⟩;obtain⟨z,F,E,o,D⟩:=A.put (by omega) x.b (.ref fa);have s:aU H z:=λc J hc=>by rw[D,aB (aD hc nd)];exact m _ _ hc
  refine⟨d,z,rfl,F,_,rfl,s,_,E,λy hy=>?_⟩;show ∃a,(if y.b=x.b then _ else _)=_/\_;rw[w]at hy;rcases List.mem_append.mp hy with hy | hy
  ·by_cases e:y.b=x.b
   ·refine⟨fa,if_pos e,?_⟩;rw[uq y (List.mem_of_mem_take hy) x (List.mem_of_getElem? hx) e];exact s _ _ k
   ·obtain⟨a,z1,C⟩:=p y hy;refine⟨a,(if_neg e).trans z1,?_⟩;rw[D,aB (A.ne C)];exact C
  ·rw[List.mem_singleton.mp hy];exact⟨fa,if_pos rfl,s _ _ k⟩
 ·rintro σ j ⟨u,rfl,m,f,⟨v,k1,k2,I⟩,p⟩;rw[bx]at k2;rw[bx,List.take_of_length_le (by omega)]at p;walk_at"e";exact q d j m nd ⟨f,⟨v,k1,by omega,I⟩,p⟩
theorem Jo{l m d:Addr}(q:∃j:List Tc,CtO H l j/\j.length<=1000/\(∀x∈j,x.fs.length<=50)/\Uq j/\Cl j/\GF H m (lO j) 5000/\FdO H d j 1000/\
 ∀a H' f,aU H H'->H a=none->GF H' a f 100000->(∀b,GdT j b->f b≠none)->Q (.ref a) H'):qd K ⟨n,Q,bk,ct⟩ [some (.ref l),some (.ref m),some (.ref d),none,none,none,none] H:=by
 obtain⟨j,⟨ls,o1,hl,o2⟩,hb,h50,uq,cl,om,od,q⟩:=q;unfold qd;walk_at"e";intro t O;have s1:=aL O (.dK []);have g1:GF (upd H t (.dK [])) t (λ_=>none) 0:=⟨[],aq,Nat.le_refl _,λb=>rfl⟩;generalize upd H t (.dK [])=H1 at s1 g1 ⊢;walk_at"e";refine⟨aX (by simp),λp s=>?_⟩;generalize zz:upd H1 p _=H2;obtain⟨s2,g2⟩:=nwO s zz;have g2:H2 p=some (.lst (([]:List (Option Int)).map oV)):=g2;have T:=s1.trans s2;walk_at"e";refine⟨l,rfl,⟨_,cV.of (T _ _ o1)⟩,forL (ls.map V.ref) (λi σ S=>∃p J A,σ=[some (.ref l),some (.ref m),some (.ref d),some (.ref t),some (.ref p),J,none]/\aU H S/\H p=none/\S p=some (.lst (A.map oV))/\GF S t (λ_=>none) 0/\A.length<=i * 50/\(∀b,some b∈A->∃y∈j,y.b=b)/\∀x∈j.take i,x.tone=("grey":Str)->∀b,some b∈x.fs->some b∈A) ⟨p,_,[],rfl,T,s1.free s,g2,g1.same s2,Nat.zero_le _,λb hb=>(nomatch hb),λx hx=>(nomatch hx)⟩ (λ_ _ _ _ ⟨_,_,_,_,y,_⟩=>cV.of (y _ _ o1)) ?_ ?_⟩
 ·rintro i y σ S hy ⟨p,J,A,rfl,C,s,I,gf,ly,hc,P⟩;rw[cA]at hy;obtain⟨r,hr,rfl⟩:=Option.map_eq_some_iff.mp hy;have hi:i<ls.length:=(dX hr).1;obtain⟨x,hx⟩:∃x,j[i]? =some x:=⟨_,bL (by omega)⟩;have U:j.take (i+1)=j.take i++[x]:=by rw[List.take_add_one,hx];rfl
  obtain⟨fa,F,N⟩:=o2 i r x hr hx;have F:=C _ _ F;have N:=C _ _ N;have W:=List.mem_of_getElem? hx;have h5:=h50 x W;walk_at"e";refine⟨r,_,5,_,rfl,rfl,je.of F,rfl,?_⟩;walk_at"e";refine uw (λz=>?_) (λz=>?_)
  ·walk_at"e";refine⟨r,_,4,_,rfl,rfl,je.of F,rfl,?_⟩;walk_at"e";refine⟨p,fa,_,_,rfl,rfl,I,N,aX (by rw[bx,bx];omega),λt2 u=>?_⟩;rw[<- List.map_append];generalize zz:upd S t2 _=X;obtain⟨L,R⟩:=nwO u zz;walk_at"e";refine⟨t2,_,A++x.fs,rfl,C.trans L,C.free u,R,gf.same L,by rw[List.length_append];omega,λb hb=>?_,λw hw tw b hb=>?_⟩
   ·rcases List.mem_append.mp hb with hb | hb
    ·exact hc b hb
    ·exact cl x W b hb
   ·rw[U]at hw;rcases List.mem_append.mp hw with hw | hw
    ·exact List.mem_append.mpr (.inl (P w hw tw b hb))
    ·rw[List.mem_singleton.mp hw]at hb;exact List.mem_append.mpr (.inr hb)
  ·walk_at"e";refine⟨p,_,A,rfl,C,s,I,gf,by omega,hc,λw hw tw b hb=>?_⟩;rw[U]at hw;rcases List.mem_append.mp hw with hw | hw
   ·exact P w hw tw b hb
   ·rw[List.mem_singleton.mp hw]at tw;exact absurd tw z
 ·rintro σ S ⟨p,J,A,rfl,C,s,I,gf,ly,hc,P⟩;rw[bx]at ly P;rw[List.take_of_length_le (by omega)]at P;have hS:=Zlg (λ_=>none) j h50;refine Jb ?_;refine⟨PfI H j l m d t,⟨_,p,J,none,A,λ_=>none,0,rfl,C,s,I,gf,rfl,by omega,hc,λx hx h b hb _=>.inr (P x hx (h.elim id λz=>absurd rfl z) b hb)⟩,?_⟩;clear P hc ly I s gf C;rintro μ σ Hy ⟨p,J,v6,A,f,k,rfl,C,s,I,gf,rfl,hk,hc,pf⟩;walk_at"e";refine⟨aX (by simp),λe0 ne0=>?_⟩;have L:=aL ne0 (.lst []);refine Zks (cV.of (L _ _ I)) (cV.of aq) ?_;generalize upd Hy e0 (.lst [])=X at L ⊢;have Y:=C.trans L;have R:=L _ _ I;have M:=gf.same L;rcases List.eq_nil_or_concat A with e | ⟨D,y,e⟩
  ·subst e;rw[decide_eq_false (λz=>z rfl)];walk_at"e";obtain⟨kvs,k1,k2,k3⟩:=M;exact q t X f Y O ⟨kvs,k1,by omega,k3⟩ λb g=>pf.all g
  ·rw[List.concat_eq_append]at e;subst e;rw[decide_eq_true (by simp)];walk_at"e";refine⟨_,λ_ _ h=>h,?_⟩;rw[List.map_append,List.map_singleton]at R;rw[List.length_append,List.length_singleton]at hk;walk_at"e";refine⟨.inl ⟨rfl,_,cV.of R⟩,?_⟩;refine⟨p,_,oV y,rfl,rfl,R,by simp,?_⟩;rw[List.dropLast_concat];have nt:=M.ne R;have g5:upd X p (.lst (D.map oV)) p=some (.lst (D.map oV)):=aq;have E:=M.upd (o:=.lst (D.map oV)) nt;have s5:aU H (upd X p (.lst (D.map oV))):=λc o B=>by rw[aB (aD B s)];exact Y _ _ B
   generalize upd X p (.lst (D.map oV))=H5 at g5 E s5 ⊢;have Z:∀b,some b∈D->∃y∈j,y.b=b:=λb hb=>hc b (List.mem_append.mpr (.inl hb));have skip:(∀b,y=some b->lO j b=some (.str "pale")->f b≠none)->∃m',m'<(D++[y]).length+flS f j/\PfI H j l m d t m' [some (.ref l),some (.ref m),some (.ref d),some (.ref t),some (.ref p),J,some (oV y)] H5:=λhy=>⟨_,by rw[List.length_append,List.length_singleton];omega,p,J,_,D,f,k,rfl,s5,s,g5,E,rfl,by omega,Z,pf.pop hy⟩;walk_at"e";cases y with
   | none=>
    rw[show oV none=V.non from rfl]at skip ⊢;walk_at"e";exact skip λb e=>nomatch e
   | some b=>
    rw[show oV (some b)=V.int b from rfl]at skip ⊢;obtain⟨r,hr,rfl,tr⟩:=Zfl (hc b (List.mem_append.mpr (.inr (List.mem_singleton.mpr rfl))));walk_at"e";refine⟨m,_,rfl,(om.same s5).get tr,?_⟩;walk_at"e";refine uw (λhp=>?_) (λhp=>?_)
    ·walk_at"e";refine⟨t,_,rfl,E.ask r.b,?_⟩;cases hf:f r.b with
     | some v=>
      walk_at"e";exact skip λb e _=>by cases e;rw[hf];exact λz=>nomatch z
     | none=>
      rw[show(!(none:Option V).isSome)=true from rfl];walk_at"e";obtain⟨H6,p1,mk,o,p3⟩:=E.put (by omega) r.b (.bl true);have g6:H6 p=some (.lst (D.map oV)):=by rw[p3,aB nt];exact g5
      have s6:aU H H6:=λc o' B=>by rw[p3,aB (aD B O)];exact s5 _ _ B
      refine⟨t,H6,rfl,p1,?_⟩;obtain⟨ff,fm,fx⟩:=od.same s6;obtain⟨fa,z1,z2⟩:=fx r hr;have h5:=h50 r hr;have fl:=Zf5 (.bl true) hf j hr;walk_at"e";refine⟨d,_,rfl,fm.get z1,?_⟩;walk_at"e";refine⟨p,fa,_,_,rfl,rfl,g6,z2,aX (by rw[bx,bx];omega),λt2 u=>?_⟩;rw[<- List.map_append];generalize zz:upd H6 t2 _=H7;obtain⟨s7,g7⟩:=nwO u zz;walk_at"e";refine⟨_,?_,t2,J,_,D++r.fs,_,k+1,rfl,s6.trans s7,s6.free u,g7,mk.same s7,rfl,?_,λb hb=>?_,pf.put uq hr⟩
      ·rw[List.length_append,List.length_append,List.length_singleton];omega
      ·rw[List.length_append];omega
      ·rcases List.mem_append.mp hb with hb | hb
       ·exact Z b hb
       ·exact cl r hr b hb
    ·walk_at"e";exact skip λb e hq=>by cases e;rw[tr]at hq;injection hq with hq;injection hq with hq;exact absurd hq hp
end
theorem U6(z:Str)(f:Int->Option V)(b:Int):Il z f [] b=f b:=by unfold Il;rw[if_neg (by simp)]
def RwP(P:Int->Prop)(y:V)(H:Hp):Prop:=∃r,y=.ref r/\∃fs:List (Option Int),H r=some (.lst (fs.map oV))/\∀b,some b∈fs->P b
theorem RwP.mono{P:Int->Prop}{y:V}{H H':Hp}(s:aU H H')(h:RwP P y H):RwP P y H':=by
 obtain⟨r,e,fs,o,g⟩:=h;exact⟨r,e,fs,s _ _ o,g⟩
section
variable {M:Wm}{w0:Int}
theorem Yl{y:Option Int}{b:Int}(h:sS M y=some b):∃i c,y=some i/\cellAt M i=some c/\c.birth=b:=by
 cases y with
 | none=>cases h
 | some i=>
  have h:(cellAt M i).map (·.birth)=some b:=h;obtain⟨c,hc,e⟩:=Option.map_eq_some_iff.mp h;exact⟨i,c,rfl,hc,e⟩
theorem Xw{i:Int}{c:Ce}(h:cellAt M i=some c):Zbd M (i,c)∈Gz M:=List.mem_map.mpr ⟨_,vU h,rfl⟩
theorem N6{x:Tc}(h:x∈Gz M):∃t:Int×Ce,x=Zbd M t/\cellAt M t.1=some t.2:=by
 obtain⟨t,a,e⟩:=List.mem_map.mp h;exact⟨t,e.symm,sE a⟩
theorem TB.uq(b:TB w0 M):Uq (Gz M):=by
 intro x hx y hy e;obtain⟨t,rfl,h1⟩:=N6 hx;obtain⟨u,rfl,h2⟩:=N6 hy;have a:=b.bu t.1 u.1 t.2 u.2 h1 h2 e;rw[a,h2]at h1;show t.2.fl.map (sS M)=u.2.fl.map (sS M);rw[Option.some.inj h1]
theorem Zq4:Cl (Gz M):=by
 intro x hx b hb;obtain⟨t,rfl,h1⟩:=N6 hx;obtain⟨y,_,e⟩:=List.mem_map.mp (show some b∈t.2.fl.map (sS M)from hb);obtain⟨i,c,_,hc,a⟩:=Yl e;exact⟨_,Xw hc,a⟩
theorem Gq.f50(ok:Gq M):∀x∈Gz M,x.fs.length<=50:=by
 intro x hx;obtain⟨t,rfl,h1⟩:=N6 hx;show(t.2.fl.map (sS M)).length<=50;rw[bx];exact ok.fl _ (nJ h1)
theorem TB.pale(a:TB w0 M)(ph:M.sw.phase="walk"){i:Int}{c:Ce}(h:cellAt M i=some c)(b:c.tone≠M.sw.sense):lO (Gz M) c.birth=some (.str "pale"):=by
 rw[a.Zq2 (t:=(i,c)) (vU h),(U5 ph).mpr b]
theorem Gd.told(f:TB w0 M)(ph:M.sw.phase="walk")(a:Gv M){j:Int}(g:Gd M j):∀c,cellAt M j=some c->c.tone≠M.sw.sense->GdT (Gz M) c.birth:=by
 have mem:∀{j:Int}{c d:Ce},cellAt M j=some c->some j∈d.fl->some c.birth∈d.fl.map (sS M):=λ{j c d} hc hj=>List.mem_map.mpr ⟨some j,hj,by show(cellAt M j).map _=_;rw[hc];rfl⟩
 induction g with
 | @grey i j d hi hd hj=>
  intro c hc e;have h:d.tone=M.sw.sense:=by
   obtain⟨c',h1,h2⟩:=(a ph).2 i hi;rw[hd]at h1;cases h1;exact h2
  exact .grey (x:=Zbd M (i,d)) (Xw hd) (by show uM M i d=_;rw[K4 ph,if_pos h,if_pos hi]) (mem hc hj) (f.pale ph hc e)
 | @via i j d k hd b hj ih=>
  intro c hc e;exact .via (x:=Zbd M (i,d)) (ih d hd b) (Xw hd) (mem hc hj) (f.pale ph hc e)
theorem TB.row(d:TB w0 M)(ph:M.sw.phase="walk")(a:Gv M){f:Int->Option V}(k:∀b,GdT (Gz M) b->f b≠none){l:List (Option Int)}(h:∀j,some j∈l->wh M (some j)->Gd M j):∀b,some b∈l.map (sS M)->∃z:Str,lO (Gz M) b=some (.str z)/\(z=("pale":Str)->f b≠none):=by
 intro b hb;obtain⟨y,hy,e⟩:=List.mem_map.mp hb;obtain⟨i,c,rfl,hc,rfl⟩:=Yl e;refine⟨_,d.Zq2 (t:=(i,c)) (vU hc),λz=>?_⟩;have g:=(U5 ph).mp z;exact k _ ((h i hy ⟨i,c,rfl,hc,g⟩).told d ph a c hc g)
theorem TB.kept(a:TB w0 M)(ph:M.sw.phase="rest"\/M.sw.phase="give"){l:List (Option Int)}(h:M.sw.phase="give"->∀y∈l,¬ wh M y):∀b,some b∈l.map (sS M)->lO (Gz M) b=some (.str "kept"):=by
 intro b hb;obtain⟨y,hy,e⟩:=List.mem_map.mp hb;obtain⟨i,c,rfl,hc,rfl⟩:=Yl e;rw[a.Zq2 (t:=(i,c)) (vU hc)];unfold uM;rcases ph with z | z
 ·rw[if_pos z]
 ·rw[if_neg (by rw[z];decide),if_pos z,if_pos (Decidable.byContradiction λd=>h z _ hy ⟨i,c,rfl,hc,d⟩)]
end
def Oo(X:Cs):Sp:=λvs H Q E=>∃wo lc,vs=[.ref wo,.ref lc]/\∃T s A M w0,WJ X H T s A M/\A.wo=wo/\Gq M/\TB w0 M/\vf M/\Gv M/\M.sw.phase="walk"/\CtO H lc (Gz M)/\∀H',aU H H'->Q (.bl true) H'
def OD(X:Cs):Sp:=λvs H Q E=>∃wo lc,vs=[.ref wo,.ref lc]/\∃T s A M w0,WJ X H T s A M/\A.wo=wo/\Gq M/\TB w0 M/\vf M/\Nd M/\(M.sw.phase="rest"\/M.sw.phase="give")/\CtO H lc (Gz M)/\∀H',aU H H'->Q (.bl true) H'
def Jr(X:Cs):Sp:=λvs H Q E=>∃wo,vs=[.ref wo]/\∃T s A M w0,WJ X H T s A M/\A.wo=wo/\Gq M/\TB w0 M/\vf M/\Nd M/\Gv M/\∀H',aU H H'->Q (.bl true) H'
section
theorem Gn{wo lc:Addr}(Tx:qI K X)(q:∃T s A M w0,WJ X H T s A M/\A.wo=wo/\Gq M/\TB w0 M/\vf M/\Gv M/\M.sw.phase="walk"/\CtO H lc (Gz M)/\∀H',aU H H'->Q (.bl true) H'):
  pD K (Du K) (OJ K) (zZ K) (uV X) (nM X) ⟨n,Q,bk,ct⟩ [some (.ref wo),some (.ref lc),none,none,none,none,none,none,none] H:=by
 obtain⟨T,s,A,M,w0,j,rfl,ok,W,gr,o,ph,oc,q⟩:=q;have hcl:=ok.cl;have l5:=j.jd.l5;have lh:=j.jd.lh;have ltl:=Y9 (M:=M);have ltc:=VL (M:=M);unfold pD;walk_at"e";refine⟨aX (by simp),λe0 ne0=>?_⟩;generalize zz:upd H e0 _=H2;obtain⟨s2,Z⟩:=nwO ne0 zz;have Z:H2 e0=some (.lst (([]:List Int).map V.int)):=Z;walk_at"e";refine⟨_,_,_,rfl,Gz M,[],oc.same s2,by omega,Z,by simp,λd H3 s3 nd od=>?_⟩;have od:GF H3 d (lO (Gz M)) 5000:=by
  obtain⟨kvs,k1,k2,k3⟩:=od;exact⟨kvs,k1,k2,λb=>by rw[k3 b,U6]⟩
 have D:=s2.trans s3;walk_at"e";refine⟨_,rfl,Gz M,oc.same D,by omega,W.uq,λfd H4 s4 nfd ofd=>?_⟩;have C:=D.trans s4;walk_at"e";refine⟨_,_,_,rfl,Gz M,oc.same C,by omega,ok.f50,W.uq,Zq4,od.same s4,ofd,λfo H5 f s5 nfo ofo gd=>?_⟩;have N:=C.trans s5;walk_at"e";refine⟨_,rfl,T,s,A,M,j.same N,rfl,by omega,λm hm=>by have:=ok.hl m hm;omega,λlr a H6 s6 o2 hl2 hr2 _=>?_⟩;have g:=N.trans s6;have lml:(rowsOf M).length=M.hands.length:=by unfold rowsOf;rw[bx]
 have od6:=(od.same s4).same (s5.trans s6);have of6:=ofo.same s6;walk_at"e";refine Em ?_;walk_at"e";refine lK (cV.of o2) ?_;rw[bx];walk_at"e";refine⟨_,rfl,by omega,by omega,?_⟩;refine QK (n:=a.length) (by simp) (p:=λi=>bB M i) (f:=λi=>((a.map V.ref)[i]?).getD .non) (by omega) ?_ ?_ ?_
 ·intro i hi k hk;walk_at"c";walk_at"e";refine⟨_,_,rfl,T,s,A,M,i,j.same g,rfl,rfl,?_⟩;walk_at"e";exact hk
 ·intro i hi _ k hk;walk_at"c";walk_at"e";refine jW (cV.of o2) (v:=((a.map V.ref)[i]?).getD .non) (jl (by rw[bL (by rw[bx];exact hi)];rfl)) ?_;exact hk
 intro la Y
 let P:Int->Prop:=λb=>∃z:Str,lO (Gz M) b=some (.str z)/\(z=("pale":Str)->f b≠none)
 have rwa:∀y∈((List.range a.length).filter λi=>bB M i).map λi=>((a.map V.ref)[i]?).getD .non,RwP P y H6:=λy hy=>by
  obtain⟨i,hi,rfl⟩:=List.mem_map.mp hy;obtain⟨hi,lo⟩:=List.mem_filter.mp hi;have hi:=List.mem_range.mp hi;have hh:i<M.hands.length:=by omega
  have I:(rowsOf M)[i]? =some (M.hands[i].2.map (sS M)):=by unfold rowsOf;rw[cA,bL hh];rfl
  refine⟨a[i],by rw[cA,bL hi];rfl,_,hr2 i _ _ (bL hi) I,?_⟩;exact W.row ph o gd λj hj w=>gr.gh ph i _ (bL hh) lo j hj w
 have lra:(((List.range a.length).filter λi=>bB M i).map λi=>((a.map V.ref)[i]?).getD .non).length<=a.length:=by
  rw[bx];refine Nat.le_trans (List.length_filter_le _ _) ?_;rw[List.length_range];exact Nat.le_refl _
 generalize (((List.range a.length).filter λi=>bB M i).map λi=>((a.map V.ref)[i]?).getD .non)=ra at rwa lra ⊢;generalize zz:upd H6 la _=H7;obtain⟨s7,g7⟩:=nwO Y zz;have s17:=g.trans s7;walk_at"e";obtain⟨cls,c1,c2,c3⟩:=oc.same s17;refine Em ?_;walk_at"e";refine⟨_,rfl,⟨_,cV.of c1⟩,?_⟩;refine Zra (cV.of c1) (by rw[bx];omega) (RwP P) (λy _ _ h s=>h.mono s) (λi x H8 hi U q' hq=>?_) λys H8 U ly hy l nl'=>?_
 ·rw[cA]at hi;obtain⟨r,u,rfl⟩:=Option.map_eq_some_iff.mp hi;have hlt:i<cls.length:=(dX u).1;obtain⟨t,ht⟩:∃t,(lE M)[i]? =some t:=⟨_,bL (by omega)⟩;obtain⟨fa,z1,z2⟩:=c3 i r _ u (Zi2 ht);have z1:=U _ _ z1;have z2:=U _ _ z2;walk_at"c";walk_at"e";refine⟨r,_,5,_,rfl,rfl,je.of z1,rfl,?_⟩;walk_at"e";refine hq _ _ (aU.refl _) λhb q2 hq2=>?_;walk_at"c";walk_at"e";refine⟨r,_,4,_,rfl,rfl,je.of z1,rfl,?_⟩;refine hq2 _ _ (aU.refl _) ⟨fa,rfl,t.2.fl.map (sS M),z2,?_⟩;have hm:uM M t.1 t.2=("dark":Str):=of_decide_eq_true hb;have hc:=sE (List.mem_of_getElem? ht);rw[K4 ph]at hm
  by_cases h1:t.2.tone=M.sw.sense
  ·rw[if_pos h1]at hm
   by_cases h2:t.1∈M.sw.grey
   ·rw[if_pos h2]at hm;exact absurd hm (by decide)
   ·exact W.row ph o gd λj hj w=>gr.gf ph t.1 t.2 hc h1 h2 j hj w
  ·rw[if_neg h1]at hm;exact absurd hm (by decide)
 generalize zz:upd H8 l _=H9;obtain⟨s9,g9⟩:=nwO nl' zz;have J:=U.trans s9;walk_at"e";rw[bx]at ly;refine⟨la,l,_,_,rfl,rfl,J _ _ g7,g9,aX (by omega),λR n3=>?_⟩;generalize zz:upd H9 R _=H10;obtain⟨F,B⟩:=nwO n3 zz;have c:=s7.trans (J.trans F);have O:∀y∈ra++ys,RwP P y H10:=λy h=>by
  rcases List.mem_append.mp h with h | h
  ·exact(rwa y h).mono c
  ·exact(hy y h).mono (s9.trans F)
 have Zv3:=od6.same c;have Zv1:=of6.same c;have qq:=q _ (g.trans c);clear hy rwa;walk_at"e";refine⟨R,rfl,⟨_,cV.of B⟩,forL (ra++ys) (λi σ S=>∃v7 E,σ=[some (.ref A.wo),some (.ref lc),some (.ref d),some (.ref fd),some (.ref fo),some (.ref lr),some (.ref R),v7,E]/\S=H10) ⟨_,_,rfl,rfl⟩ (λ_ _ _ _ ⟨_,_,_,e⟩=>by rw[e];exact cV.of B) ?_ ?_⟩
 ·rintro i y σ S hi ⟨v7,E,rfl,rfl⟩;obtain⟨r,rfl,fs,hr,hx⟩:=O y (List.mem_of_getElem? hi);walk_at"e";refine⟨r,rfl,⟨_,cV.of hr⟩,forL (fs.map oV) (λi σ Hy=>∃E,σ=[some (.ref A.wo),some (.ref lc),some (.ref d),some (.ref fd),some (.ref fo),some (.ref lr),some (.ref R),some (.ref r),E]/\Hy=S) ⟨_,rfl,rfl⟩ (λ_ _ _ _ ⟨_,_,e⟩=>by rw[e];exact cV.of hr) ?_ ?_⟩
  ·rintro i' y' σ Hy L ⟨v8',rfl,rfl⟩;rw[cA]at L;obtain⟨b,hb,rfl⟩:=Option.map_eq_some_iff.mp L;cases b with
   | none=>
    rw[show oV none=V.non from rfl];walk_at"e";exact⟨_,rfl,rfl⟩
   | some b=>
    obtain⟨z,hz,nz⟩:=hx b (List.mem_of_getElem? hb);rw[show oV (some b)=V.int b from rfl];walk_at"e";refine⟨d,_,rfl,Zv3.get hz,?_⟩;walk_at"e";refine uw (λe=>?_) (λ_=>?_)
    ·walk_at"e";refine⟨fo,_,rfl,Zv1.ask b,?_⟩;have nn:=nz e;cases hf:f b with
     | none=>exact absurd hf nn
     | some v=>
      walk_at"e";exact⟨_,rfl,rfl⟩
    ·walk_at"e";exact⟨_,rfl,rfl⟩
  ·rintro σ Hy ⟨v8',rfl,rfl⟩;exact⟨_,_,rfl,rfl⟩
 ·rintro σ S ⟨v7,E,rfl,rfl⟩;walk_at"e";exact qq
theorem Gp{wo lc:Addr}(I:qI K X)(q:∃T s A M w0,WJ X H T s A M/\A.wo=wo/\Gq M/\TB w0 M/\vf M/\Nd M/\(M.sw.phase="rest"\/M.sw.phase="give")/\CtO H lc (Gz M)/\∀H',aU H H'->Q (.bl true) H'):
  pG K (zZ K) (uV X) ⟨n,Q,bk,ct⟩ [some (.ref wo),some (.ref lc),none,none,none,none,none,none] H:=by
 obtain⟨T,s,A,M,w0,j,rfl,ok,tb,gr,nd0,ph,oc,q⟩:=q;have hcl:=ok.cl;have l5:=j.jd.l5;have lh:=j.jd.lh;have ltl:=Y9 (M:=M);have ltc:=VL (M:=M);unfold pG;walk_at"e";refine⟨aX (by simp),λe0 F=>?_⟩;generalize zz:upd H e0 _=H2;obtain⟨s2,g2⟩:=nwO F zz;have g2:H2 e0=some (.lst (([]:List Int).map V.int)):=g2;walk_at"e";refine⟨_,_,_,rfl,Gz M,[],oc.same s2,by omega,g2,by simp,λd H3 s3 nd od=>?_⟩;have od:GF H3 d (lO (Gz M)) 5000:=by
  obtain⟨kvs,k1,k2,k3⟩:=od;exact⟨kvs,k1,k2,λb=>by rw[k3 b,U6]⟩
 have B:=s2.trans s3;walk_at"e";refine⟨_,rfl,T,s,A,M,j.same B,rfl,by omega,λm hm=>by have:=ok.hl m hm;omega,λl rs2 H6 s6 o2 hl2 hr2 ⟨N,_,nml⟩=>?_⟩;have lml:(rowsOf M).length=M.hands.length:=by unfold rowsOf;rw[bx]
 let P:Int->Prop:=λb=>lO (Gz M) b=some (.str "kept")
 have rw0:∀y∈rs2.map V.ref,y≠.ref l/\RwP P y H6:=λy hy=>by
  obtain⟨r,u,rfl⟩:=List.mem_map.mp hy;obtain⟨i,hi,e⟩:=List.getElem_of_mem u;have hh:i<M.hands.length:=by omega
  have R:(rowsOf M)[i]? =some (M.hands[i].2.map (sS M)):=by unfold rowsOf;rw[cA,bL hh];rfl
  exact⟨λz=>nml (by cases z;exact u),r,rfl,_,hr2 i r _ (by rw[bL hi,e]) R,tb.kept ph λz=>gr.hd z _ (List.getElem_mem hh)⟩
 have j3:=j.same B;obtain⟨S,c1,c2,c3⟩:=oc.same B;walk_at"e";refine⟨lc,rfl,⟨_,cV.of (s6 _ _ c1)⟩,forL (S.map V.ref) (λi σ E=>∃v4 O w,σ=[some (.ref A.wo),some (.ref lc),some (.ref d),some (.ref l),v4,O,none,none]/\aU H3 E/\E l=some (.lst w)/\w.length<=M.hands.length+i/\∀y∈w,y≠.ref l/\RwP P y E) ⟨_,_,_,rfl,s6,o2,by rw[bx];omega,rw0⟩ (λ_ _ _ _ ⟨_,_,_,_,y,_⟩=>cV.of (y _ _ c1)) ?_ ?_⟩
 ·rintro i y σ E hi ⟨v4,O,w,rfl,D,L,ly,hy⟩;rw[cA]at hi;obtain⟨r,u,rfl⟩:=Option.map_eq_some_iff.mp hi;have hlt:i<S.length:=(dX u).1;obtain⟨t,ht⟩:∃t,(lE M)[i]? =some t:=⟨_,bL (by omega)⟩;obtain⟨fa,z1,Y⟩:=c3 i r _ u (Zi2 ht);have z1:=D _ _ z1;have z20:=Y;have Y:=D _ _ Y;have hc:=sE (List.mem_of_getElem? ht);obtain⟨h0,hce⟩:=bT.mp hc;have jx:=j3.same D;obtain⟨dw,ow⟩:=jx.jb.ow;obtain⟨_,_,⟨dh,oh⟩,occ⟩:=jx.jh;obtain⟨p,hp,ce⟩:=jx.jc.at hce;obtain⟨_,_,⟨dx,o1⟩,of⟩:=id ce;have hfl:=ok.fl _ (nJ hc);walk_at"e";refine⟨r,_,5,_,rfl,rfl,je.of z1,rfl,?_⟩;walk_at"e";refine uw (λJ=>?_) (λ_=>?_)
  ·have J:uM M t.1 t.2=("kept":Str):=J;have tk:M.sw.phase="give"->t.2.tone=M.sw.sense:=λz=>by
    unfold uM at J;rw[z,if_neg (show ¬ ("give":Str)="rest" by decide),if_pos rfl]at J;exact Decidable.byContradiction λh=>by rw[if_neg h]at J;exact absurd J (by decide)
   walk_at"e";refine aJ ow I.cW I.KJ bA ?_;refine aJ oh I.c.cG I.c.bM bQ ?_;walk_at"e";refine⟨r,_,0,_,rfl,rfl,je.of z1,rfl,?_⟩;walk_at"e";refine jW (cV.of occ) (pq (v:=.ref p.1) h0 (by show(A.cs.map pV)[t.1.toNat]? =_;rw[cA,hp];rfl)) ?_;walk_at"e";refine aJ o1 I.c.cT I.c.dY jr ?_;walk_at"e";refine Em ?_;walk_at"e";refine lK (cV.of of) ?_;rw[bx];walk_at"e";refine⟨_,rfl,by omega,by omega,?_⟩;refine QK (n:=t.2.fl.length) (by simp) (p:=λ_=>false) (f:=λ_=>.non) (by omega) ?_ (λ_ _ z=>nomatch z) ?_
   ·intro i hi k hk;walk_at"c";walk_at"e";refine jW (cV.of of) (v:=oV t.2.fl[i]) (jl (by rw[cA,bL hi];rfl)) ?_;cases hv:t.2.fl[i]with
    | none=>
     rw[show oV none=V.non from rfl];walk_at"e";exact hk
    | some x=>
     rw[show oV (some x)=V.int x from rfl];walk_at"e";refine⟨r,_,4,_,rfl,rfl,je.of z1,rfl,?_⟩;walk_at"e";obtain⟨e,he⟩:=nd0.fl t.1 t.2 hc tk x (by rw[<- hv];exact List.getElem_mem hi);have eb:sS M (some x)=some e.birth:=by show(cellAt M x).map _=_;rw[he];rfl
     refine jW (cV.of Y) (v:=.int e.birth) (jl (by show((t.2.fl.map (sS M)).map oV)[i]? =_;rw[cA,cA,bL hi,hv];show some (oV (sS M (some x)))=_;rw[eb];rfl)) ?_;walk_at"e";exact hk
   ·intro la nla;rw[show(((List.range t.2.fl.length).filter λ_=>false).map λ_=>V.non)=[]from by simp];generalize zz:upd E la _=H8;obtain⟨s8,g8⟩:=nwO nla zz;walk_at"e";refine⟨aX (by simp),λe0 F=>?_⟩;have s9:=aL F (.lst []);refine Zks (cV.of (s9 _ _ g8)) (cV.of aq) ?_;rw[decide_eq_false (λz=>z rfl)];generalize upd H8 e0 (.lst [])=H9 at s9 ⊢;have C:=s8.trans s9;have g9:=C _ _ L;have z1:=C _ _ z1;walk_at"e";refine⟨.inl ⟨rfl,_,cV.of g9⟩,?_⟩;walk_at"e";refine⟨r,_,4,_,rfl,rfl,je.of z1,rfl,?_⟩;walk_at"e";refine⟨l,_,_,rfl,rfl,g9,Nat.lt_of_le_of_lt (show _<=4000 by omega) (by decide),?_⟩;have s10:aU H3 (upd H9 l (.lst (w++[.ref fa]))):=λc o W=>by rw[aB (aD W N)];exact C _ _ (D _ _ W)
    have kp:∀{y:V},y≠.ref l/\RwP P y E->y≠.ref l/\RwP P y (upd H9 l (.lst (w++[.ref fa]))):=λ{y} ⟨ne,a,e,fs,o,g⟩=>⟨ne,a,e,fs,by rw[aB (λz=>ne (by rw[e,z]))];exact C _ _ o,g⟩;walk_at"e";refine⟨_,_,_,rfl,s10,aq,by rw[List.length_append,List.length_singleton];omega,λy hyy=>?_⟩;rcases List.mem_append.mp hyy with h | h
    ·exact kp (hy y h)
    ·rw[List.mem_singleton.mp h];exact kp ⟨λz=>aD z20 N (by cases z;rfl),fa,rfl,_,Y,tb.kept ph λz=>gr.fd z t.1 t.2 hc (tk z)⟩
  ·walk_at"e";exact⟨_,_,w,rfl,D,L,by omega,hy⟩
 ·rintro σ E ⟨v4,O,w,rfl,D,L,ly,hy⟩;have od7:=od.same D;have qq:=q _ (B.trans D);walk_at"e";refine⟨l,rfl,⟨_,cV.of L⟩,forL w (λi σ Hz=>∃v6 Z,σ=[some (.ref A.wo),some (.ref lc),some (.ref d),some (.ref l),v4,O,v6,Z]/\Hz=E) ⟨_,_,rfl,rfl⟩ (λ_ _ _ _ ⟨_,_,_,e⟩=>by rw[e];exact cV.of L) ?_ ?_⟩
  ·rintro i y σ Hz hi ⟨v6,Z,rfl,rfl⟩;obtain⟨_,r,rfl,fs,hr,hx⟩:=hy y (List.mem_of_getElem? hi);walk_at"e";refine⟨r,rfl,⟨_,cV.of hr⟩,forL (fs.map oV) (λi σ Hy=>∃Z,σ=[some (.ref A.wo),some (.ref lc),some (.ref d),some (.ref l),v4,O,some (.ref r),Z]/\Hy=Hz) ⟨_,rfl,rfl⟩ (λ_ _ _ _ ⟨_,_,e⟩=>by rw[e];exact cV.of hr) ?_ ?_⟩
   ·rintro i' y' σ Hy U ⟨v7',rfl,rfl⟩;rw[cA]at U;obtain⟨b,hb,rfl⟩:=Option.map_eq_some_iff.mp U;cases b with
    | none=>
     rw[show oV none=V.non from rfl];walk_at"e";exact⟨_,rfl,rfl⟩
    | some b=>
     have hz:=hx b (List.mem_of_getElem? hb);rw[show oV (some b)=V.int b from rfl];walk_at"e";refine⟨d,_,rfl,od7.get hz,?_⟩;walk_at"e";exact⟨_,rfl,rfl⟩
   ·rintro σ Hy ⟨v7',rfl,rfl⟩;exact⟨_,_,rfl,rfl⟩
  ·rintro σ Hz ⟨v6,Z,rfl,rfl⟩;walk_at"e";exact qq
theorem TV{wo:Addr}(b:qI K X)(q:∃T s A M w0,WJ X H T s A M/\A.wo=wo/\Gq M/\TB w0 M/\vf M/\Nd M/\Gv M/\∀H',aU H H'->Q (.bl true) H'):
  wU K (OD X) (Oo X) (YB X) ⟨n,Q,bk,ct⟩ [some (.ref wo),none] H:=by
 obtain⟨T,s,A,M,w0,j,rfl,ok,g,gr,nd,d,q⟩:=q;obtain⟨p,ow⟩:=j.jb.ow;obtain⟨ds,os⟩:=j.js.os;have l:=ok.cl;have nl:M.sw.phase≠"lost":=by
  rcases gr.ph with z | z | z<;>rw[z]<;>decide
 unfold wU;walk_at"e";refine⟨_,rfl,T,s,A,M,j,rfl,by omega,λc hc=>by have:=ok.fl c hc;omega,λlc rs m a o1 hl hr _=>?_⟩;have oc:CtO m lc (Gz M):=⟨rs,o1,by rw[hl];exact VL.symm,λi r x h e=>by
  unfold Gz at e;rw[cA]at e;obtain⟨t,o,rfl⟩:=Option.map_eq_some_iff.mp e;obtain⟨fa,z,_⟩:=hr i r t h o;exact⟨fa,z⟩⟩
 walk_at"e";refine aJ (a _ _ ow) b.cW b.Qz aZ ?_;walk_at"e";refine aJ (a _ _ os) b.cS b.n2 ie ?_;walk_at"e";refine uw (λk=>?_) (λf=>?_)
 ·walk_at"e";exact⟨_,_,rfl,T,s,A,M,w0,j.same a,rfl,ok,g,gr,d,k,oc,λH' s'=>q H' (a.trans s')⟩
 ·walk_at"e";refine aJ (a _ _ ow) b.cW b.Qz aZ ?_;walk_at"e";refine aJ (a _ _ os) b.cS b.n2 ie ?_;walk_at"e";rw[decide_eq_false nl];walk_at"e";refine⟨_,_,rfl,T,s,A,M,w0,j.same a,rfl,ok,g,gr,nd,?_,oc,λH' s'=>q H' (a.trans s')⟩;rcases gr.ph with z | z | z
  ·exact .inl z
  ·exact absurd z f
  ·exact .inr z
end
section
theorem Zjq{room w t:Int}{hs:LK}{i:Int}{c:Ce}(h:cellAt (KH room hs w t) i=some c):False:=nomatch nJ h
theorem vf.Zr3{room w t:Int}{hs:LK}(c:t % 2=1)(hw:w=0\/(w=1/\t / 2 % 2=1)):vf (KH room hs w t):=by
 have a:¬ ("rest":Str)="walk":=by decide
 have b:¬ ("rest":Str)="give":=by decide
 exact⟨.inl rfl,c,hw,Int.le_refl _,λz=>absurd z a,λz=>absurd z a,λz=>absurd z a,λz=>absurd z b,λz=>absurd z b⟩
theorem Nd.Zr3{room w t:Int}{hs:LK}:Nd (KH room hs w t):=by
 refine⟨λi c h=>(Zjq h).elim,λm hm j hj=>?_⟩;obtain⟨a,_,rfl⟩:=List.mem_map.mp hm;exact nomatch List.eq_of_mem_replicate hj
theorem Zrb{a:Addr}(Tx:qI K X)(q:∃ns:List Int,cV K H a (ns.map V.int)/\ns.length<=63/\∀H',Q (.bl true) H'):
  Zcf K X.W (ur X) (qK K) (Oz X rf) (Ox K) (Jr X) (Ow X) (YC K) (Oq K) (bW X Zja) ⟨n,Q,bk,ct⟩ [some (.ref a),none,none,none] H:=by
 obtain⟨B,hS,hlen,h⟩:=q;unfold Zcf;walk_at"e";refine⟨a,rfl,B,hS,λlh hs H1 s1 nlh ho hb=>?_⟩;walk_at"e";refine⟨a,rfl,B,s1.seq hS,λroom=>?_⟩;walk_at"e";refine⟨a,0,rfl,B,s1.seq hS,by decide,λz0=>?_⟩;walk_at"e";refine⟨_,rfl,λki lk w0 L H2 q0 q4 qo qk s2 nki nlk kd=>?_⟩;have s02:=s1.trans s2;have O:=ho.same s2;obtain⟨ts,olh,al⟩:=id O;have lts:=al.length;have n5:=hb.n5;walk_at"e";refine XH (cV.of olh) λS Zv9=>?_;generalize zz:upd H2 S _=I;obtain⟨s3,g3⟩:=nwO Zv9 zz;have C:=kd.same s3;have ho3:=O.same s3;have s03:=s02.trans s3;walk_at"e";intro wo dx u ndx ned;have J:aU I (upd (upd I dx (.own wo)) wo (.ins X.W dx [])):=λb o hb=>by rw[aB (aD hb u),aB (aD hb ndx)];exact hb
 have g7:upd (upd I dx (.own wo)) wo (.ins X.W dx []) wo=some (.ins X.W dx []):=aq;generalize upd (upd I dx (.own wo)) wo (.ins X.W dx [])=H7 at J g7 ⊢;have kd7:=C.same J;have nkw:ki≠wo:=by
  obtain⟨⟨_,e⟩,_⟩:=C;exact aD e u
 have nlw:lk≠wo:=by
  obtain⟨_,⟨_,⟨_,e⟩ | ⟨_,e⟩⟩⟩:=C
  ·exact aD e u
  ·exact aD e u
 refine⟨wo,_,ki,S,rfl,dx,λ_=>(0,0),1,lk,w0,L,ts,hs,g7,λ_ _=>rfl,by decide,kd7,rfl,rfl,nkw,nlw,J _ _ g3,Zly lts λi x m e1 e2=>?_,by omega,λH8 T8 A8 k8 t8 w8 aw8 j8=>⟨rfl,?_⟩⟩
 ·obtain⟨x',e3,z⟩:=al.get e2;rw[e1]at e3;cases e3;have:=hb.sb m (List.mem_of_getElem? e2);exact⟨J _ _ (s3 _ _ z),by omega,by omega⟩
 have P:aU I H8:=λb o hb=>k8 b o (J _ _ hb) (aD hb u);have s08:aU H H8:=s03.trans P;have ho8:=ho3.same P;have p0:KW (KH room hs w0 L) hs 0:=KW.new (by omega) (by omega);have Z:TB w0 (KH room hs w0 L):=TB.new;have gr0:vf (KH room hs w0 L):=vf.Zr3 qo qk;have R:Nd (KH room hs w0 L):=Nd.Zr3;generalize KH room hs w0 L=M at j8 p0 Z gr0 R;clear k8 t8 J g7 kd7 C;walk_at"e";refine⟨a,lh,rfl,B,hs,s08.seq hS,hlen,ho8,hb,λlr H9 s9 rl=>?_⟩;obtain⟨_,nlr,vs,olr,lvs,N⟩:=rl;have rk:∀v∈vs,v=.non\/∃t d,v=.ref t/\T8 t=(0,0)/\H9 t=some (.tup (dV d))/\okR hs d:=λv hv=>by
  rcases N v hv with z | ⟨t,d,e,f,o,k⟩
  ·exact .inl z
  ·exact .inr ⟨t,d,e,w8 _ f,o,k⟩
 refine⟨lr,rfl,⟨_,cV.of olr⟩,forL vs (λi σ D=>∃T A M v3,σ=[some (.ref a),some (.ref lh),some (.ref wo),v3]/\WT D T/\WJ X D T 1 A M/\A.wo=wo/\KW M hs i/\TB w0 M/\vf M/\Nd M/\D lr=some (.lst vs)/\T lr=(0,0)/\∀v∈vs,v=.non\/∃t d,v=.ref t/\T t=(0,0)/\D t=some (.tup (dV d))/\okR hs d) ⟨T8,A8,M,_,rfl,w8.same s9,j8.same s9,aw8,p0,Z,gr0,R,olr,w8 _ nlr,rk⟩ (λ_ _ _ _ ⟨_,_,_,_,_,_,_,_,_,_,_,_,z,_⟩=>cV.of z) ?_ ?_⟩
 ·rintro i x σ D hi ⟨T,A,M,v3,rfl,w,j,aw,p,F,gr,nd,ol,tl,rk⟩;have hil:=(dX hi).1;have kp:∀{H':Hp}{T':Tg},Kp D H' T T'->H' lr=some (.lst vs)/\T' lr=(0,0)/\∀v∈vs,v=.non\/∃t d,v=.ref t/\T' t=(0,0)/\H' t=some (.tup (dV d))/\okR hs d:=λ{H' T'} k=>by
   refine⟨k.k _ _ ol (.inl (by rw[tl])),(k.tg _ _ ol).trans tl,λv hv=>?_⟩;rcases rk v hv with z | ⟨t,d,e,f,o,kk⟩
   ·exact .inl z
   ·exact .inr ⟨t,d,e,(k.tg _ _ o).trans f,k.k _ _ o (.inl (by rw[f])),kk⟩
  have ok:=p.ok hb (by omega);have nlo:M.sw.phase≠"lost":=by
   rcases gr.ph with z | z | z<;>rw[z]<;>decide
  rcases rk x (List.mem_of_getElem? hi)with rfl | ⟨t,d,rfl,tt,ot,od⟩
  ·walk_at"e";refine⟨_,rfl,T,1,A,M,0,[],w,by decide,j,aw,ok,trivial,λz=>absurd z nlo,λe U r I T3 A3 ev st j3 aw3 evn lo=>?_⟩;have c:=(p.step r).mono (show i<=i+1 by omega);have s:=F.step r;have l:=gr.step F r;have g:=nd.step gr F r;walk_at"e";refine⟨_,rfl,T3,1,A3,U,w0,j3,aw3.1,c.ok hb (by omega),s,l,g,c.gr,λH5 y=>?_⟩;walk_at"e";obtain⟨k1,k2,k3⟩:=kp ((Kp.stp st ⟨by decide,by decide⟩).trans (Kp.same y));exact⟨T3,A3,U,_,rfl,st.wt.same y,j3.same y,aw3.1,c,s,l,g,k1,k2,k3⟩
  ·have hcl:=ok.cl;have hnl:=ok.nl;walk_at"e";refine⟨_,t,rfl,T,1,A,M,d,w,by decide,j,aw,ot,p.okD od,hcl,λz=>by have:=ok.gl z;omega,p.tl,by omega,λr er H' sm=>?_,λe U he H' T' A' av st j' Y ev=>?_⟩
   ·walk_at"e";refine⟨_,rfl,T,1,A,M,w0,j.same sm,aw,ok,F,gr,nd,p.gr,λH5 y=>?_⟩;have E:=sm.trans y;walk_at"e";obtain⟨k1,k2,k3⟩:=kp (Kp.same E);exact⟨T,A,M,_,rfl,w.same E,j.same E,aw,p.mono (by omega),F,gr,nd,k1,k2,k3⟩
   ·have c:=p.deed od he;have s:=F.deed he;have l:=gr.deed he;have g:=nd.deed gr he;walk_at"e";refine⟨_,rfl,T',1,A',U,w0,j',Y,c.ok hb (by omega),s,l,g,c.gr,λH5 y=>?_⟩;walk_at"e";obtain⟨k1,k2,k3⟩:=kp ((Kp.stp st ⟨by decide,by decide⟩).trans (Kp.same y));exact⟨T',A',U,_,rfl,st.wt.same y,j'.same y,Y,c,s,l,g,k1,k2,k3⟩
 ·rintro σ D ⟨T,A,M,v3,rfl,w,j,aw,p,F,gr,nd,ol,tl,rk⟩;walk_at"e";exact h _
end
def top(i:Nat):Stmt:=PySem.Challenge.pw_greywalk_k30_each_pale_one_guarded.main.body.getD i (.Pass ⟨0,0,0,0⟩)
abbrev tG:Stmt:=inClass (top 8) 0
abbrev yO:Stmt:=inClass (top 8) 1
abbrev qY:Stmt:=inClass (top 8) 2
abbrev tD:Stmt:=inClass (top 9) 0
abbrev vp:Stmt:=inClass (top 9) 1
abbrev Fg:Stmt:=inClass (top 9) 2
abbrev Bu:Stmt:=inClass (top 9) 3
abbrev Bt:Stmt:=inClass (top 9) 4
abbrev yN:Stmt:=inClass (top 9) 5
abbrev J3:Stmt:=top 10
abbrev Ff:Stmt:=top 11
abbrev JR:Stmt:=top 13
abbrev Py:Stmt:=top 14
abbrev tE:Stmt:=inClass (top 16) 0
abbrev pB:Stmt:=inClass (top 17) 0
abbrev qU:Stmt:=inClass (top 18) 0
abbrev Zca:Stmt:=top 19
abbrev wI:Stmt:=top 20
abbrev Bf:Stmt:=top 21
abbrev Bc:Stmt:=top 22
abbrev Bd:Stmt:=top 23
abbrev yH:Stmt:=top 24
abbrev JS:Stmt:=top 25
abbrev yD:Stmt:=top 26
abbrev Bb:Stmt:=top 27
abbrev WK:Stmt:=top 28
abbrev Zc9:Stmt:=top 29
abbrev EY:Stmt:=top 30
abbrev Zcb:Stmt:=top 31
abbrev Wz:Stmt:=top 32
abbrev JQ:Stmt:=top 33
abbrev yG:Stmt:=top 35
abbrev uC:Stmt:=top 36
abbrev uA:Stmt:=top 37
abbrev Zc7:Stmt:=top 38
abbrev wH:Stmt:=top 39
abbrev Zih:Stmt:=top 40
abbrev yI:Stmt:=top 41
abbrev Fb:Stmt:=top 42
abbrev yE:Stmt:=top 43
abbrev uB:Stmt:=top 44
abbrev yF:Stmt:=top 45
abbrev s_end:Stmt:=top 46
abbrev qR:Stmt:=top 47
abbrev Zc8:Stmt:=top 49
abbrev PK:Stmt:=top 53
abbrev pC:Stmt:=inClass (top 54) 2
abbrev oE:Stmt:=inClass (top 54) 3
abbrev sY:Stmt:=inClass (top 54) 4
abbrev qW:Stmt:=inClass (top 55) 2
abbrev qX:Stmt:=inClass (top 56) 2
abbrev sZ:Stmt:=inClass (top 57) 0
abbrev Ez:Stmt:=top 59
abbrev J2:Stmt:=top 60
abbrev Be:Stmt:=top 61
abbrev wD:Stmt:=top 62
abbrev wF:Stmt:=top 63
abbrev JX:Stmt:=top 64
abbrev PJ:Stmt:=top 65
abbrev PB:Stmt:=top 66
abbrev J1:Stmt:=top 67
abbrev J0:Stmt:=top 68
abbrev JZ:Stmt:=top 69
abbrev Fe:Stmt:=top 70
abbrev JV:Stmt:=top 71
abbrev JW:Stmt:=top 72
abbrev JT:Stmt:=top 73
abbrev wG:Stmt:=top 74
abbrev Zqh:Stmt:=top 76
abbrev Bs:Stmt:=top 78
abbrev Bq:Stmt:=top 79
abbrev Bg:Stmt:=top 80
abbrev yL:Stmt:=top 81
abbrev Bk:Stmt:=top 82
abbrev Bo:Stmt:=top 83
abbrev Bl:Stmt:=top 84
abbrev Bm:Stmt:=top 85
abbrev Br:Stmt:=top 86
abbrev yM:Stmt:=top 87
abbrev yJ:Stmt:=top 88
abbrev Bj:Stmt:=top 89
abbrev Bp:Stmt:=top 90
abbrev Bh:Stmt:=top 91
abbrev wJ:Stmt:=top 92
abbrev qT:Stmt:=top 93
abbrev p6:Stmt:=top 94
abbrev p7:Stmt:=top 95
abbrev yK:Stmt:=top 96
abbrev Pz:Stmt:=top 97
structure Hh(P:Program)(w:World)(K:aC)(mg:Str->Option Value)(base:Heap)(n:Nat)(f:Addr)(fd:FuncData)(ps:List Str)(sp:Sp):Prop where
 g:u6 P w K mg base (G.Rv P w) n f fd ps sp
 b:Binds K fd ps []
 k:W.keepIn K (.ref f)=true
theorem hh{P:Program}{w:World}{K:aC}{mg:Str->Option Value}{base:Heap}{n:Nat}{f:Addr}{fd:FuncData}{ps:List Str}{sp:Sp}(g:u6 P w K mg base (G.Rv P w) n f fd ps sp)(b:Binds K fd ps [])(k:W.keepIn K (.ref f)=true):Hh P w K mg base n f fd ps sp:=⟨g,b,k⟩
abbrev lg(P:Program)(w:World)(K:aC)(mg:Str->Option Value)(base:Heap)(n:Nat)(f:Addr)(fd:FuncData)(ps:List Str)(sp:Sp):Prop:=u6 P w K mg base (G.Rv P w) n f fd ps sp
theorem gF{X:Cx}{n k:Nat}{f:Addr}{fd:FuncData}{ps:List Str}{sp:Sp}{x:Str}{e:Expr}{a:List Expr}{t:TA}{p c:Pos}(i:Hh X.prog X.w X.K X.mg X.base n f fd ps sp)(hr:Room k X.A)(hm:X.mg x=some (.ref f))(m:PA X (e::a) t)(hn:n<=k:=by decide)(j:X.env.kindOf x=some .globalImplicit:=by rfl)(h:(x == ("__debug__":Str))=false:=by decide)(l:starEach (e::a) X.env=(false,eval e X.env)::starEach a X.env:=by rfl)(d:(backTo c (starEach a X.env)).any (·.1)=false:=by rfl):PE X (.Call (.Name x p) (e::a) [] c) (aW sp [] E0 t):=vA i.g (hr.mono hn) j hm i.k i.b .nil G.iB m h l d
theorem dg{N P:List Str}{h:Scope}(a:h.kind=.function:=by rfl)(b:h.isCoroutine=false:=by rfl)(c:h.isGenerator=false:=by rfl)(d:N.Nodup:=by decide +kernel)(e:N.take P.length=P:=by rfl)(f:∀x∈P,h.names.lookup x=some .local\/h.names.lookup x=some .cell:=by decide +kernel)(g:∀y∈h.names,y.2≠.free:=by decide +kernel):aQ N P h:=⟨a,b,c,d,e,f,g⟩
structure Txt(w:World)(K:aC)(mg:Str->Option Value)(bh aY lD bJ fB dz eZ jZ fO aK aV bR bw dG fY dJ dD iu jY iZ iY fX iC eX mU oU dF cH cZ xO fU ig iU d8 iI mV iG jC sr xN gJ uR rZ mR gH cP cM xK gB Ep iJ lC gG cN iH Eo bU xM oW cu bV cI dH dI dB eE jO iV gq fQ gQ jz jw gW gU gR fH gO gP gM gA TF gj d9 ir iQ jE jH jF jG jK iR iK jD jJ iW gD dZ dM dN iM:Addr):Prop where
 Uz:G.Tab K w mg "STEPS" [("rest",cP),("walk",cM),("give",cN),("lost",bU)]
 UG:G.Tab K w mg "DEEDS" [("make",gQ),("get",jz),("put",jw),("copy",gW),("drop",gU),("give",gR),("write",fH),("read",gO),("name",gP),("seek",gM)]
 cT:Gy K bh
 Zk7:mg "Cell"=some (.ref bh)
 Oi:Mk K bh dG
 dR:bK K bh "birth"
 lU:bK K bh "bulk"
 lR:bK K bh "tone"
 jB:bK K bh "load"
 dY:bK K bh "fields"
 Ol:G.EqD K bh
 cG:Gy K aY
 Zk3:mg "Heap"=some (.ref aY)
 Og:Mk K aY dD
 nF:bK K aY "room"
 bM:bK K aY "cells"
 iT:bK K aY "used"
 lQ:bK K aY "born"
 Zfd:Gy K lD
 Zk4:mg "Hand"=some (.ref lD)
 Oh:Mk K lD dF
 vK:bK K lD "name"
 uf:bK K lD "slots"
 Rh:Gy K bJ
 Va:mg "Sweeper"=some (.ref bJ)
 zR:Mk K bJ cH
 o7:bK K bJ "sense"
 o8:bK K bJ "phase"
 qC:bK K bJ "grey"
 nU:bK K bJ "looked"
 qx:bK K bJ "turn"
 ud:bK K bJ "at"
 qy:bK K bJ "stop"
 o5:bK K bJ "walks"
 o9:bK K bJ "looks"
 nT:bK K bJ "passes"
 qz:bK K bJ "loss"
 Zap:Gy K fB
 Zey:mg "World"=some (.ref fB)
 Ig:Mk K fB cZ
 uc:bK K fB "heap"
 t7:bK K fB "kind"
 rW:bK K fB "hands"
 rT:bK K fB "names"
 oZ:bK K fB "sweeper"
 CZ:Gy K dz
 Xy:mg "First"=some (.ref dz)
 KQ:G.Mk0 K dz
 Jl:Gy K eZ
 Zk6:mg "Each"=some (.ref eZ)
 Z5:G.Mk0 K eZ
 Zfc:Gy K jZ
 Xx:mg "Kind"=some (.ref jZ)
 Dn:Mk K jZ dB
 qD:bK K jZ "looking"
 ue:bK K jZ "tells"
 MT:mg "GreyError"=some (.ref fO)
 M5:mg "EmptySlot"=some (.ref aK)
 Vb:mg "NoField"=some (.ref aV)
 Zk5:mg "Full"=some (.ref bR)
 Za2:mg "NoName"=some (.ref bw)
 vg:G.Zm3 K aK
 VF:G.Zm3 K bR
 Dk:G.Zm3 K aV
 GJ:G.Zm3 K bw
 j6:W.exmOne K (.ref aK) (.ref fO)=some true
 lG:W.exmOne K (.ref aV) (.ref fO)=some true
 nW:W.exmOne K (.ref bR) (.ref fO)=some true
 mD:W.exmOne K (.ref bw) (.ref fO)=some true
 yh:Meth K eZ "at_begin" cu
 xq:Meth K eZ "stays" cI
 uL:Meth K dz "next_look" bV
 uK:Meth K dz "stays" cI
 K3:Meth K bh "__init__" dG
 rY:Meth K bh "units" fY
 vN:Meth K bh "has_field" dJ
 KZ:Meth K aY "__init__" dD
 Ii:Meth K aY "make" iu
 Mw:Meth K aY "lay" jY
 Ik:Meth K aY "back" iZ
 Ij:Meth K aY "free" iY
 xm:Meth K aY "there" fX
 rK:mg "cell_at"=some (.ref iC)
 mq:mg "birth_at"=some (.ref eX)
 U8:mg "reached"=some (.ref mU)
 QG:mg "onward"=some (.ref oU)
 K1:Meth K lD "__init__" dF
 DN:Meth K bJ "__init__" cH
 Ih:Meth K fB "__init__" cZ
 Zk0:mg "held"=some (.ref xO)
 xu:mg "births_held"=some (.ref fU)
 vO:mg "births_at"=some (.ref ig)
 Cw:mg "looked_at"=some (.ref iU)
 lV:mg "has_sense"=some (.ref d8)
 Ir:mg "is_walking"=some (.ref iI)
 U9:mg "mark_of"=some (.ref mV)
 Im:mg "told_cells"=some (.ref iG)
 Mx:mg "told_cell"=some (.ref jC)
 Zex:mg "begin"=some (.ref sr)
 Zjz:mg "note"=some (.ref xN)
 rJ:mg "note_all"=some (.ref gJ)
 Zdc:mg "gone"=some (.ref uR)
 Zew:mg "roots"=some (.ref rZ)
 U7:mg "root_of"=some (.ref mR)
 zU:mg "note_hands"=some (.ref gH)
 QF:mg "step_at_rest"=some (.ref cP)
 QC:mg "step_in_walk"=some (.ref cM)
 Zjx:mg "walk"=some (.ref xK)
 Ek:mg "look_or_cut"=some (.ref gB)
 Zpr:mg "cut"=some (.ref Ep)
 Iu:mg "first_loss"=some (.ref iJ)
 QH:mg "given_up"=some (.ref lC)
 zT:mg "told_again"=some (.ref gG)
 QD:mg "step_in_give"=some (.ref cN)
 Io:mg "pass_place"=some (.ref iH)
 Zpq:mg "end"=some (.ref Eo)
 K5:mg "step_when_lost"=some (.ref bU)
 Zjy:mg "step"=some (.ref xM)
 Za1:mg "all_of"=some (.ref oW)
 DP:Meth K eZ "at_begin" cu
 Cv:Meth K dz "next_look" bV
 KR:Meth K eZ "stays" cI
 vL:Meth K dz "at_begin" dH
 vM:Meth K eZ "next_look" dI
 KY:Meth K jZ "__init__" dB
 jV:mg "slots_of"=some (.ref eE)
 yj:mg "cell_in"=some (.ref jO)
 Cy:mg "fields_in"=some (.ref iV)
 Ei:mg "told_as_old"=some (.ref gq)
 xr:mg "told_as_new"=some (.ref fQ)
 Zgh:mg "do_make"=some (.ref gQ)
 Zk2:mg "do_get"=some (.ref jz)
 Zk1:mg "do_put"=some (.ref jw)
 Zgk:mg "do_copy"=some (.ref gW)
 Zgj:mg "do_drop"=some (.ref gU)
 Zgi:mg "do_give"=some (.ref gR)
 Zdd:mg "do_write"=some (.ref fH)
 Zgf:mg "do_read"=some (.ref gO)
 Zgg:mg "do_name"=some (.ref gP)
 Zge:mg "do_seek"=some (.ref gM)
 Ej:mg "place_named"=some (.ref gA)
 Ztm:mg "do"=some (.ref TF)
 lW:mg "_law_cell"=some (.ref gj)
 cU:mg "_law_draw"=some (.ref d9)
 vP:mg "_law_word"=some (.ref ir)
 Iz:mg "_law_hands"=some (.ref iQ)
 Mz:mg "_law_room"=some (.ref jE)
 MK:mg "_law_kind"=some (.ref jH)
 MF:mg "_law_made"=some (.ref jF)
 MJ:mg "_law_load"=some (.ref jG)
 MP:mg "_law_deed"=some (.ref jK)
 IK:mg "_law_deeds"=some (.ref iR)
 Iv:mg "_law_start"=some (.ref iK)
 My:mg "_law_rows"=some (.ref jD)
 MN:mg "_law_hand"=some (.ref jJ)
 Cz:mg "_law_with"=some (.ref iW)
 El:mg "_law_fields"=some (.ref gD)
 yl:mg "_law_pale_from"=some (.ref dZ)
 vQ:mg "_law_walk_holds"=some (.ref dM)
 vR:mg "_law_give_holds"=some (.ref dN)
 Iw:mg "_law_holds"=some (.ref iM)
 pN:mg "enumerate"=none
 m5:mg "len"=none
 Aq:mg "list"=none
 pX:mg "range"=none
 Zpv:G.GC mg "NEW" (.int 2)
 Zpu:G.GC mg "OLD" (.int 1)
abbrev tV:List Str:=["self","birth","many","bulk","tone"]
abbrev rG:List Str:=["self","field"]
abbrev tR:List Str:=["self","room"]
abbrev Cj:List Str:=["self","many","bulk","tone"]
abbrev FW:List Str:=["self","cell"]
abbrev Ck:List Str:=["self","place"]
abbrev pP:List Str:=["heap","place"]
abbrev lq:List Str:=["heap","place"]
abbrev Ke:List Str:=["heap","rows"]
abbrev Qd:List Str:=["heap","places","way"]
abbrev tU:List Str:=["self","name","many"]
abbrev rD:List Str:=["self","room","kind","hands"]
abbrev sH:List Str:=["heap","places"]
abbrev vC:List Str:=["world","hand"]
abbrev kJ:List Str:=["world","cell"]
abbrev Kf:List Str:=["world","place"]
abbrev BR:List Str:=["world","place"]
abbrev Zcn:List Str:=["world","place"]
abbrev pH:List Str:=["world","places"]
abbrev W5:List Str:=["world","place","birth"]
abbrev Kd:List Str:=["world","place","birth"]
abbrev tZ:List Str:=["world","hands"]
abbrev pI:List Str:=["self","hands"]
abbrev oM:List Str:=["self","looked","hands"]
abbrev rE:List Str:=["self","hands"]
abbrev rF:List Str:=["self","looked","hands"]
abbrev tQ:List Str:=["self","looking","tells"]
abbrev jU:List Str:=["world","hand"]
abbrev uv:List Str:=["world","hand","slot"]
abbrev vD:List Str:=["world","hand","slot","field"]
abbrev w6:List Str:=["world","place"]
abbrev rQ:List Str:=["world","hand","place"]
abbrev Km:List Str:=["world","deed"]
abbrev Qf:List Str:=["world","deed"]
abbrev Qe:List Str:=["world","deed"]
abbrev Kr:List Str:=["world","deed"]
abbrev Kq:List Str:=["world","deed"]
abbrev Ko:List Str:=["world","deed"]
abbrev FT:List Str:=["world","deed"]
abbrev Kh:List Str:=["world","deed"]
abbrev Kl:List Str:=["world","deed"]
abbrev Kg:List Str:=["world","deed"]
abbrev xg:List Str:=["world","word"]
abbrev Zqo:List Str:=["world","deed"]
abbrev pQ:List Str:=["_law_script","_law_k"]
abbrev kO:List Str:=["_law_cell_here","_law_prime","_law_many"]
abbrev sI:List Str:=["_law_cell_here","_law_w"]
abbrev zN:List Str:=["_law_script"]
abbrev BW:List Str:=["_law_script"]
abbrev Ca:List Str:=["_law_number"]
abbrev BX:List Str:=["_law_n","_law_h","_law_s"]
abbrev BZ:List Str:=["_law_n"]
abbrev Cg:List Str:=["_law_n","_law_hands_here","_law_seed"]
abbrev zO:List Str:=["_law_n","_law_hands_here","_law_seed"]
abbrev zL:List Str:=["_law_hands_here","_law_cell_here","_law_seed"]
abbrev BV:List Str:=["_law_script","_law_hands_here"]
abbrev Cd:List Str:=["_law_world","_law_deed_here"]
abbrev vG:List Str:=["_law_cells","_law_births","_law_mark"]
abbrev xj:List Str:=["_law_cells"]
abbrev rC:List Str:=["_law_cells","_law_marks","_law_fields_here"]
abbrev qp:List Str:=["_law_world","_law_cells"]
abbrev qt:List Str:=["_law_world","_law_cells"]
abbrev zM:List Str:=["_law_world"]
theorem JP:aQ ["self","birth","many","bulk","tone"] tV (aF tG):=dg
theorem R9:aQ ["self"] ["self"] (aF yO):=dg
theorem HB:aQ ["self","field"] rG (aF qY):=dg
theorem JM:aQ ["self","room"] tR (aF tD):=dg
theorem Ww:aQ ["self","many","bulk","tone","cell"] Cj (aF vp):=dg
theorem Zn:aQ ["self","cell","place"] FW (aF Fg):=dg
theorem Wy:aQ ["self","place","cell"] Ck (aF Bu):=dg
theorem Wx:aQ ["self"] ["self"] (aF Bt):=dg
theorem R8:aQ ["self"] ["self"] (aF yN):=dg
theorem Zc5:aQ ["heap","place"] pP (aF J3):=dg
theorem Zm:aQ ["heap","place","cell"] lq (aF Ff):=dg
theorem Zbv:aQ ["heap","rows","queue","number","row","listed","taken","place","way"] Ke (aF JR):=dg
theorem Zfu:aQ ["heap","places","way"] Qd (aF Py):=dg
theorem JN:aQ ["self","name","many"] tU (aF tE):=dg
theorem Dy:aQ ["self"] ["self"] (aF pB):=dg
theorem Hu:aQ ["self","room","kind","hands"] rD (aF qU):=dg
theorem Zml:aQ ["world"] ["world"] (aF Zca):=dg
theorem Pr:aQ ["world"] ["world"] (aF wI):=dg
theorem Wg:aQ ["heap","places"] sH (aF Bf):=dg
theorem Wd:aQ ["world","hand"] vC (aF Bc):=dg
theorem We:aQ ["world","cell"] kJ (aF Bd):=dg
theorem R1:aQ ["world"] ["world"] (aF yH):=dg
theorem Zbw:aQ ["world","place","sweeper","toned"] Kf (aF JS):=dg
theorem RW:aQ ["world"] ["world"] (aF yD):=dg
theorem Wc:aQ ["world","place","cell","fields"] BR (aF Bb):=dg
theorem Zie:aQ ["world","sweeper"] ["world"] (aF WK):=dg
theorem Zmk:aQ ["world","place","sweeper","cell"] Zcn (aF Zc9):=dg
theorem Zi:aQ ["world","places","births","place","birth"] pH (aF EY):=dg
theorem Zmm:aQ ["world","place","birth","cell"] W5 (aF Zcb):=dg
theorem Zid:aQ ["world"] ["world"] (aF Wz):=dg
theorem Zbu:aQ ["world","place","birth"] Kd (aF JQ):=dg
theorem R0:aQ ["world","hands","noted","number","hand"] tZ (aF yG):=dg
theorem Ny:aQ ["world","noted"] ["world"] (aF uC):=dg
theorem Nv:aQ ["world"] ["world"] (aF uA):=dg
theorem Zmi:aQ ["world","sweeper","cell"] ["world"] (aF Zc7):=dg
theorem Pq:aQ ["world","sweeper","looking","hands","noted"] ["world"] (aF wH):=dg
theorem Zqg:aQ ["world","sweeper","loss","births"] ["world"] (aF Zih):=dg
theorem R3:aQ ["world","place","way","cell"] ["world"] (aF yI):=dg
theorem Zj:aQ ["world","heap"] ["world"] (aF Fb):=dg
theorem RX:aQ ["event"] ["event"] (aF yE):=dg
theorem Nx:aQ ["world"] ["world"] (aF uB):=dg
theorem RZ:aQ ["world","sweeper","place","cell"] ["world"] (aF yF):=dg
theorem Zqf:aQ ["world","sweeper"] ["world"] (aF s_end):=dg
theorem Hs:aQ ["world"] ["world"] (aF qR):=dg
theorem Zmj:aQ ["world","act"] ["world"] (aF Zc8):=dg
theorem Zfx:aQ ["hands"] ["hands"] (aF PK):=dg
theorem Dz:aQ ["self","hands"] pI (aF pC):=dg
theorem Ba:aQ ["self","looked","hands"] oM (aF oE):=dg
theorem JK:aQ ["self"] ["self"] (aF sY):=dg
theorem Hv:aQ ["self","hands"] rE (aF qW):=dg
theorem Hw:aQ ["self","looked","hands","hand"] rF (aF qX):=dg
theorem JL:aQ ["self","looking","tells"] tQ (aF sZ):=dg
theorem Zh:aQ ["world","hand"] jU (aF Ez):=dg
theorem Zc4:aQ ["world","hand","slot","cell"] uv (aF J2):=dg
theorem Wf:aQ ["world","hand","slot","field","cell"] vD (aF Be):=dg
theorem Pj:aQ ["world","place"] w6 (aF wD):=dg
theorem Pk:aQ ["world","hand","place"] rQ (aF wF):=dg
theorem Zc0:aQ ["world","deed","slots","many","bulk","place"] Km (aF JX):=dg
theorem Zfw:aQ ["world","deed","hand","source","field","place"] Qf (aF PJ):=dg
theorem Zfv:aQ ["world","deed","hand","field","fields","old","new","noted"] Qe (aF PB):=dg
theorem Zc3:aQ ["world","deed","slots","place"] Kr (aF J1):=dg
theorem Zc2:aQ ["world","deed","slots","place"] Kq (aF J0):=dg
theorem Zc1:aQ ["world","deed","giver","taker","place","noted"] Ko (aF JZ):=dg
theorem Zk:aQ ["world","deed","cell","before"] FT (aF Fe):=dg
theorem Zby:aQ ["world","deed","cell"] Kh (aF JV):=dg
theorem Zbz:aQ ["world","deed","hand","slot","birth"] Kl (aF JW):=dg
theorem Zbx:aQ ["world","deed","place","noted"] Kg (aF JT):=dg
theorem Pn:aQ ["world","word","place","birth"] xg (aF wG):=dg
theorem Zt9:aQ ["world","deed","act"] Zqo (aF Zqh):=dg
theorem Wv:aQ ["_law_script","_law_k"] pQ (aF Bs):=dg
theorem Wr:aQ ["_law_cell_here","_law_prime","_law_many"] kO (aF Bq):=dg
theorem Wh:aQ ["_law_cell_here","_law_w","_law_letters","_law_size","_law_at","_law_rest","_law_sign"] sI (aF Bg):=dg
theorem R6:aQ ["_law_script","_law_cell_here","_law_hands_here","_law_h","_law_many"] zN (aF yL):=dg
theorem Wk:aQ ["_law_script","_law_cell_here"] BW (aF Bk):=dg
theorem Wo:aQ ["_law_number"] Ca (aF Bo):=dg
theorem Wl:aQ ["_law_n","_law_h","_law_s","_law_many","_law_bulk"] BX (aF Bl):=dg
theorem Wn:aQ ["_law_n","_law_load_here"] BZ (aF Bm):=dg
theorem Ws:aQ ["_law_n","_law_hands_here","_law_seed","_law_h","_law_s","_law_t","_law_f","_law_what","_law_g","_law_word_here"] Cg (aF Br):=dg
theorem R7:aQ ["_law_n","_law_hands_here","_law_seed","_law_deed_here"] zO (aF yM):=dg
theorem R4:aQ ["_law_hands_here","_law_cell_here","_law_seed","_law_rows_here","_law_h","_law_way"] zL (aF yJ):=dg
theorem Wj:aQ ["_law_script","_law_hands_here","_law_rows_here","_law_seed","_law_k","_law_cell_here","_law_n"] BV (aF Bj):=dg
theorem Wq:aQ ["_law_world","_law_deed_here","_law_event"] Cd (aF Bp):=dg
theorem Wi:aQ ["_law_cells","_law_births","_law_mark","_law_marks","_law_cell_here","_law_birth"] vG (aF Bh):=dg
theorem Pu:aQ ["_law_cells","_law_fields_here","_law_cell_here"] xj (aF wJ):=dg
theorem Ht:aQ ["_law_cells","_law_marks","_law_fields_here","_law_found","_law_todo","_law_cell_here","_law_birth"] rC (aF qT):=dg
theorem Ew:aQ ["_law_world","_law_cells","_law_marks","_law_fields_here","_law_found","_law_rows_here","_law_asked","_law_row","_law_birth"] qp (aF p6):=dg
theorem Ey:aQ ["_law_world","_law_cells","_law_marks","_law_rows_here","_law_cell_here","_law_places","_law_row","_law_birth"] qt (aF p7):=dg
theorem R5:aQ ["_law_world","_law_cells"] zM (aF yK):=dg
theorem Zqe:aQ ["_law_script","_law_hands_here","_law_world","_law_row"] ["_law_script"] (aF Pz):=dg
section
variable {X:Cx}
theorem jT{a b:Expr}{e d:TE}{c:Pos}{r:R2}(hr:IxR X r)(f:PE X a e)(hb:PE X b d)(hs:YH b:=by exact λ_ _=>rfl):PE X (.Subscript a b c) (bF r e d):=Zpp hr f hb hs
theorem pdg{o i:Expr}{b ty:TE}{a:Pos}{k:Nat}(hr:Room k X.A)(c:PE X o b)(hi:PE X i ty)(hs:Zpe i:=by exact λ_ _=>rfl):PE X (.Subscript o i a) (GR b ty):=Zng (uO hr) c hi hs
theorem oJ{a b:Expr}{f e:TE}{d:Pos}{c:CmpOp}{r:R2}(g:Ak X (compareOp c) r)(h:PE X a f)(hb:PE X b e)(hm:behindInMarks c b=false:=by exact Qw _):PT X (.Compare a [c] [b] d) (cj (bF r f e)):=Zn0 g h hb hm
theorem fW(i:Nat){x:Str}{e:Expr}{c:TE}{a b:Pos}(d:X.N.Nodup)(g:PE X e c)(hi:X.N[i]? =some x:=by rfl)(hx:Loc X.env.scope x:=by exact Or.inl rfl)(hs:swapsWith e (some (.Name x a)) b.line X.env=pure false:=by rfl)(f:X.fn x=true\/X.env.scope.names.lookup x=some .local:=by first | exact .inl rfl | exact .inr rfl | assumption):PS X (.Assign [.Name x a] e b) (bD c (aM i)):=Qa d hi hx g hs f
end
structure PAw(X:Cx)(es:List Expr)(t:TA):Prop where
 h:PA X es t
structure PSw(X:Cx)(st:List Stmt)(t:TS):Prop where
 h:Y6 X st t
structure PPw(X:Cx)(pos:Pos)(keys:List (Option Expr))(values:List Expr)(trs:List (TE×TE)):Prop where
 h:PPs X pos keys values trs
structure PEw(X:Cx)(e:Expr)(t:TE):Prop where
 h:PE X e t
section
variable {X:Cx}
theorem Znh:PAw X [] aG:=⟨au⟩
theorem ye{e es te t}(a:PE X e te)(hr:PAw X es t)(hs:starEach (e::es) X.env=(false,eval e X.env)::starEach es X.env:=by rfl):PAw X (e::es) (aj te t):=⟨aa a hr.h hs⟩
theorem P0{st rest t u}(h1:PS X st t)(h2:PSw X rest u):PSw X (st::rest) (aN t u):=⟨ao h1 h2.h⟩
theorem Zn1{st t}(h1:PS X st t):PSw X [st] t:=⟨aA h1⟩
theorem Zn2{i:Nat}{x:Str}{es t b tb p q pos' pos rest u}(a:X.N.Nodup)(hi:X.N[i]? =some x)(hx:Loc X.env.scope x)(h:PAw X es t)(hb:PE X b tb)(hp:YH b)(h2:PSw X rest u)(hs:swapsWith (.Subscript (.List es p) b q) (some (.Name x pos')) pos.line X.env=pure false:=by rfl)(c:X.fn x=true\/X.env.scope.names.lookup x=some .local:=by first | exact .inl rfl | exact .inr rfl | assumption):PSw X (.Assign [.Name x pos'] (.Subscript (.List es p) b q) pos::rest) (aN (bD (bF (nD X.K) (iy t) tb) (aM i)) u):=⟨ao (Qa a hi hx (Zpp dU (cY h.h) hb hp) hs c) h2.h⟩
end
open PySem.Spec PyProof.Rows in
theorem ZCk{P:Program}{w:World}{K:aC}{mg:Str->Option Value}{base:Heap}{x a:Str}{st:Stmt}{f:Addr}{fd:FuncData}{N ps:List Str}{sp:Sp}{k:Nat}(F:jA K x a st f fd)(S:aQ N ps (aF st))(len:∀vs H Q E,sp vs H Q E->vs.length=ps.length)
  (c:∀(b:Value) (A:Around) (outer:List Env) (s:Shared) (H:Hp) (vs:List V) (Q:VK) (E:XK),Room k (A.deeper (envOfC a (aF st) s.heap.objs.size f b))->sp vs H Q E->
   ∃t,PSw (Lx (Rv P w) P w K mg base N a (aF st) f b A outer s H E).nox (j7 st) t/\t { nx:=λ_ H'=>Q .non H',rt:=Q } (start N vs) H):u6 P w K mg base (Rv P w) (k+1) f fd ps sp:=
 G.fok F S len λb A outer s H vs Q E hr h=>let ⟨t,p,q⟩:=c b A outer s H vs Q E hr h;⟨t,p.h,q⟩
set_option hygiene false in
local macro_rules | `(tactic| walk_at "ok")=>`(tactic| (refine G.fok F sc (λvs H Q E h=>?_) (λcdv A outer s H vs Q E hr h=>?_);· (first | (obtain ⟨_,rfl,_⟩:=h;rfl) | (obtain ⟨_,_,rfl,_⟩:=h;rfl) | (obtain ⟨_,_,_,rfl,_⟩:=h;rfl) | (obtain ⟨_,_,_,_,rfl,_⟩:=h;rfl) | (obtain ⟨_,_,_,_,_,rfl,_⟩:=h;rfl) | (obtain ⟨_,_,_,_,_,_,rfl,_⟩:=h;rfl) | (obtain ⟨_,_,_,_,_,_,_,rfl,_⟩:=h;rfl))))
set_option hygiene false in
local macro_rules | `(tactic| walk_at "okw")=>`(tactic| (refine ZCk F sc (λvs H Q E h=>?_) (λcdv A outer s H vs Q E hr h=>?_);· (first | (obtain ⟨_,rfl,_⟩:=h;rfl) | (obtain ⟨_,_,rfl,_⟩:=h;rfl) | (obtain ⟨_,_,_,rfl,_⟩:=h;rfl) | (obtain ⟨_,_,_,_,rfl,_⟩:=h;rfl) | (obtain ⟨_,_,_,_,_,rfl,_⟩:=h;rfl) | (obtain ⟨_,_,_,_,_,_,rfl,_⟩:=h;rfl) | (obtain ⟨_,_,_,_,_,_,_,rfl,_⟩:=h;rfl))))
set_option hygiene false in
local macro_rules | `(tactic| walk_at "okX")=>`(tactic| (refine G.ZCl F sc (λvs H Q E h=>?_) (λcdv A outer s H vs Q E hr h=>?_);· (first | (obtain ⟨_,rfl,_⟩:=h;rfl) | (obtain ⟨_,_,rfl,_⟩:=h;rfl) | (obtain ⟨_,_,_,rfl,_⟩:=h;rfl) | (obtain ⟨_,_,_,_,rfl,_⟩:=h;rfl) | (obtain ⟨_,_,_,_,_,rfl,_⟩:=h;rfl) | (obtain ⟨_,_,_,_,_,_,rfl,_⟩:=h;rfl) | (obtain ⟨_,_,_,_,_,_,_,rfl,_⟩:=h;rfl))))
set_option hygiene false in
local macro_rules | `(tactic| walk_at "okDX")=>`(tactic| (refine G.Zui F sc (λvs H Q E h=>?_) (λcdv A outer s H vs Q E hr h=>?_);· (first | (obtain ⟨_,rfl,_⟩:=h;rfl) | (obtain ⟨_,_,rfl,_⟩:=h;rfl) | (obtain ⟨_,_,_,rfl,_⟩:=h;rfl) | (obtain ⟨_,_,_,_,rfl,_⟩:=h;rfl) | (obtain ⟨_,_,_,_,_,rfl,_⟩:=h;rfl) | (obtain ⟨_,_,_,_,_,_,rfl,_⟩:=h;rfl) | (obtain ⟨_,_,_,_,_,_,_,rfl,_⟩:=h;rfl))))
section
variable (P:Program){w:World}{K:aC}{mg:Str->Option Value}(base:Heap){fO aK aV bR bw dG fY dJ dD iu jY iZ iY fX iC eX mU oU dF cH cZ xO fU ig iU d8 iI mV iG jC sr xN gJ uR rZ mR gH cP cM xK gB Ep iJ lC gG cN iH Eo bU xM oW cu bV cI dH dI dB eE jO iV gq fQ gQ jz jw gW gU gR fH gO gP gM gA TF gj d9 ir iQ jE jH jF jG jK iR iK jD jJ iW gD dZ dM dN iM:Addr}(XQ:Cs)(T:Txt w K mg XQ.C XQ.H XQ.D XQ.S XQ.W XQ.F XQ.E XQ.K fO aK aV bR bw dG fY dJ dD iu jY iZ iY fX iC eX mU oU dF cH cZ xO fU ig iU d8 iI mV iG jC sr xN gJ uR rZ mR gH cP cM xK gB Ep iJ lC gG cN iH Eo bU xM oW cu bV cI dH dI dB eE jO iV gq fQ gQ jz jw gW gU gR fH gO gP gM gA TF gj d9 ir iQ jE jH jF jG jK iR iK jD jJ iW gD dZ dM dN iM)
include T
theorem oN:qI K XQ:=⟨⟨T.cT,T.dR,T.lU,T.lR,T.jB,T.dY,T.cG,T.nF,T.bM,T.iT,T.lQ,T.Ol⟩,T.Zap,T.uc,T.t7,T.rW,T.rT,T.oZ,T.Zfd,T.vK,T.uf,T.Zfc,T.qD,T.ue,T.Rh,T.o7,T.o8,T.qC,T.nU,T.qx,T.ud,T.qy,T.o5,T.o9,T.nT,T.qz⟩
theorem Kz{fd:FuncData}(F:jA K "__init__" "Cell.__init__" tG dG fd):lg P w K mg base 1 dG fd tV (wj XQ.C):=by
 have sc:=JP;have tx:=oN _ T;walk_at "ok"
 ·refine⟨rB K,(ao (cC (pv 0) (pv 1) rfl)
   (ao (cC (pv 0) (pv 3) rfl)
   (ao (cC (pv 0) (pv 4) rfl)
   (ao (cC (pv 0) (az) rfl)
   (aA (cC (pv 0) (bz Qg (cY (aa (eU) au)) (pv 2)) rfl)))))),?_⟩
  obtain⟨z0,z1,z2,z3,z4,rfl,q⟩:=h;exact Mm tx.c q
theorem SX{fd:FuncData}(F:jA K "units" "Cell.units" yO fY fd):lg P w K mg base 1 fY fd ["self"] (mH XQ.C):=by
 have sc:=R9;have tx:=oN _ T;walk_at "ok"
 ·refine⟨wY K,(aA (aO (bz lA (bz lA (az) (gb G.eG (by rfl) T.m5 G.boot_len (aa (aH (pv 0) rfl) au))) (aH (pv 0) rfl)))),?_⟩;obtain⟨z0,rfl,q⟩:=h;exact Ud tx.c q
theorem HY{fd:FuncData}(F:jA K "has_field" "Cell.has_field" qY dJ fd):lg P w K mg base 1 dJ fd rG (vW XQ):=by
 have sc:=HB;have tx:=oN _ T;walk_at "ok"
 ·refine⟨qj K,(aA (aO (Zj6 Ztg Eh (az) (pv 1) (gb G.eG (by rfl) T.m5 G.boot_len (aa (aH (pv 0) rfl) au))))),?_⟩;obtain⟨z0,z1,rfl,q⟩:=h;exact Jx tx q
theorem Kw{fd:FuncData}(F:jA K "__init__" "Heap.__init__" tD dD fd):lg P w K mg base 1 dD fd tR (vY XQ.H):=by
 have sc:=JM;have tx:=oN _ T;walk_at "ok"
 ·refine⟨rz K,(ao (cC (pv 0) (pv 1) rfl)
   (ao (cC (pv 0) (cY au) rfl)
   (ao (cC (pv 0) (az) rfl)
   (aA (cC (pv 0) (az) rfl))))),?_⟩
  obtain⟨z0,z1,rfl,q⟩:=h;exact LC tx.c q
theorem Xn{fd:FuncData}{Ls xJ Yg Zaf:FuncData}(F:G.Zt1 K "make" "Heap.make" vp iu fd)(Ah:Hh P w K mg base 1 dG Ls tV (wj XQ.C))(mK:Hh P w K mg base 1 fY xJ ["self"] (mH XQ.C))(Nb:Hh P w K mg base 1 iY Yg ["self"] (vZ XQ.H))(Rt:Hh P w K mg base 1 jY Zaf FW (z8 K XQ.H)):lg P w K mg base 3 iu fd Cj (vX K XQ.C XQ.H bR):=by
 have sc:=Ww;have tx:=oN _ T;walk_at "okDX"
 ·refine⟨zz K XQ.C bR XQ.H (wj XQ.C) (mH XQ.C) (vZ XQ.H) (z8 K XQ.H) E,(ao (fW 4 sc.nd (zK T.Oi Ah.g (hr.mono (by decide)) rfl T.Zk7 Ah.b .nil G.iB (aa (bz lA (aH (pv 0) rfl) (az)) (aa (pv 1) (aa (pv 2) (aa (pv 3) au))))))
   (ao (cX (oJ Zev (oR (pv 4) T.cT T.rY mK.g (hr.mono (by decide)) mK.b .nil G.iB) (oR (pv 0) T.cG T.Ij Nb.g (hr.mono (by decide)) Nb.b .nil G.iB)) (aA (G.HF rfl rfl T.Zk5 T.VF (aa (bG) au) (λ_ _ _ _ _ _ _ I hx hE=>G.WY I hx hE))) bH)
   (ao (cC (pv 0) (aH (pv 4) rfl) rfl)
   (ao (cC (pv 0) (bz lA (aH (pv 0) rfl) (oR (pv 4) T.cT T.rY mK.g (hr.mono (by decide)) mK.b .nil G.iB)) rfl)
   (aA (aO (vz (pv 0) T.cG T.Mw Rt.g (hr.mono (by decide)) Rt.b .nil G.iB (aa (pv 4) au)))))))),?_⟩
  obtain⟨z0,z1,z2,z3,rfl,q⟩:=h;exact YJ tx.c q
theorem ZQ{fd:FuncData}(F:jA K "lay" "Heap.lay" Fg jY fd):lg P w K mg base 1 jY fd FW (z8 K XQ.H):=by
 have sc:=Zn;have tx:=oN _ T;walk_at "ok"
 ·refine⟨BL K,(ao (cX (oJ (G.Zg4 (uO hr)) (eU) (aH (pv 0) rfl) (by with_unfolding_all rfl)) (ao (qm (Ef PySem.F.plainAttrs_list PySem.F.slot_list_append PySem.F.type_list_append rH (aH (pv 0) rfl) (aa (pv 1) au)))
   (aA (aO (bz Cm (gb G.eG (by rfl) T.m5 G.boot_len (aa (aH (pv 0) rfl) au)) (az))))) bH)
   (ao (fW 2 sc.nd (Ef PySem.F.plainAttrs_list PySem.F.slot_list_index PySem.F.type_list_index (G.Zgc (uO hr)) (aH (pv 0) rfl) (aa (eU) au)))
   (ao (zH (pv 1) (zJ (aH (pv 0) rfl) (pv 2) set_list))
   (aA (aO (pv 2)))))),?_⟩
  obtain⟨z0,z1,rfl,q⟩:=h;exact Zax tx.c q
theorem Xp{fd:FuncData}(F:jA K "back" "Heap.back" Bu iZ fd){xJ:FuncData}(mK:Hh P w K mg base 1 fY xJ ["self"] (mH XQ.C)):lg P w K mg base 2 iZ fd Ck (sV XQ.C XQ.H):=by
 have sc:=Wy;have tx:=oN _ T;walk_at "ok"
 ·refine⟨zB K XQ.C (mH XQ.C),(ao (fW 2 sc.nd (jT dU (aH (pv 0) rfl) (pv 1)))
   (ao (cC (pv 0) (bz Cm (aH (pv 0) rfl) (oR (pv 2) T.cT T.rY mK.g (hr.mono (by decide)) mK.b .nil G.iB)) rfl)
   (ao (zH (eU) (zJ (aH (pv 0) rfl) (pv 1) set_list))
   (aA (aO (aH (pv 2) rfl)))))),?_⟩
  obtain⟨z0,z1,rfl,q⟩:=h;exact YL tx.c q
theorem Xo{fd:FuncData}(F:jA K "free" "Heap.free" Bt iY fd):lg P w K mg base 1 iY fd ["self"] (vZ XQ.H):=by
 have sc:=Wx;have tx:=oN _ T;walk_at "ok"
 ·refine⟨zA K,(aA (aO (bz Cm (aH (pv 0) rfl) (aH (pv 0) rfl)))),?_⟩;obtain⟨z0,rfl,q⟩:=h;exact YK tx.c q
theorem SQ{fd:FuncData}(F:jA K "there" "Heap.there" yN fX fd):lg P w K mg base 1 fX fd ["self"] (mG XQ.H):=by
 have sc:=R8;have tx:=oN _ T;walk_at "ok"
 ·refine⟨wX K,(aA (aO (G.HH (cns:=["self"]) [0] (pO rfl T.pX (aa (gb G.eG (by rfl) T.m5 G.boot_len (aa (aH (pv 0) rfl) au)) au)) (λ_ _ _ _ _=>(G.J9 (oJ G.sJ (jT dU (aH (pv 1) rfl) (pv 0)) (eU)))) (λ_ _ _ _ _=>(pv 0)) rfl rfl (by repeat (first | exact trivial | refine⟨rfl,?_⟩)) (by repeat (first | exact trivial | refine⟨rfl,?_⟩)) rfl (by decide +kernel) rfl (by decide +kernel) (by decide +kernel) rfl (by decide +kernel)))),?_⟩;obtain⟨z0,rfl,q⟩:=h;exact T7 tx.c q
theorem Zd2{fd:FuncData}(F:jA K "cell_at" "cell_at" J3 iC fd):lg P w K mg base 1 iC fd pP (d7 XQ.H):=by
 have sc:=Zc5;have tx:=oN _ T;walk_at "ok"
 ·refine⟨FJ K,(ao (cX (PW.pt (HD (oJ G.vH (pv 1) (eU)) (HD (oJ Eh (pv 1) (az)) (FN (oJ Zth (pv 1) (gb G.eG (by rfl) T.m5 G.boot_len (aa (aH (pv 0) rfl) au))))))) (aA (aO (eU))) bH)
   (aA (aO (jT dU (aH (pv 0) rfl) (pv 1))))),?_⟩
  obtain⟨z0,z1,rfl,q⟩:=h;exact Zec tx q
theorem ZP{fd:FuncData}(F:jA K "birth_at" "birth_at" Ff eX fd){jX:FuncData}(lN:Hh P w K mg base 1 iC jX pP (d7 XQ.H)):lg P w K mg base 2 eX fd lq (cJ XQ):=by
 have sc:=Zm;have tx:=oN _ T;walk_at "ok"
 ·refine⟨BK K (d7 XQ.H),(ao (fW 2 sc.nd (gF lN hr T.rK (aa (pv 0) (aa (pv 1) au))))
   (ao (cX (oJ G.vH (pv 2) (eU)) (aA (aO (eU))) bH)
   (aA (aO (aH (pv 2) rfl))))),?_⟩
  obtain⟨z0,z1,rfl,q⟩:=h;exact Zar tx q
theorem Zcs{fd:FuncData}(F:jA K "reached" "reached" JR mU fd){Zhb:FuncData}(Zaz:Hh P w K mg base 2 oU Zhb Qd (Dd K XQ.C XQ.H)):lg P w K mg base 3 mU fd Ke (Ds K XQ.C XQ.H):=by
 have sc:=Zbv;have tx:=oN _ T;walk_at "ok"
 ·refine⟨yQ K (Dd K XQ.C XQ.H),(ao (fW 2 sc.nd (cY au))
   (ao (mj PassesOwn.never rfl (G.W2 rfl T.pN (aa (pv 1) au)) (W3 rfl (sG (fK (i:=3) sc.nd rfl (Or.inl rfl)) (sG (fK (i:=4) sc.nd rfl (Or.inl rfl)) Ob)))
   (aA (qm (Ef PySem.F.plainAttrs_list PySem.F.slot_list_extend PySem.F.type_list_extend KN (pv 2) (aa (gF Zaz hr T.QG (aa (pv 0) (aa (pv 4) (aa (cQ (aa (pv 3) au)) au)))) au)))))
   (ao (fW 5 sc.nd (BP))
   (ao (fW 6 sc.nd (az))
   (ao (Zv PassesOwn.never (oJ Eh (pv 6) (gb G.eG (by rfl) T.m5 G.boot_len (aa (pv 2) au))) (ao (fW 7 sc.nd (jT bO (jT dU (pv 2) (pv 6)) (az)))
   (ao (fW 8 sc.nd (jT bO (jT dU (pv 2) (pv 6)) (az)))
   (ao (fW 6 sc.nd (bz lA (pv 6) (az)))
   (aA (cX (W0 (G.Zcl (uO hr) (pv 7) (pv 5))) (ao (Dm (uO hr) (pv 5) (pv 7) (pv 8) rfl)
   (aA (qm (Ef PySem.F.plainAttrs_list PySem.F.slot_list_extend PySem.F.type_list_extend KN (pv 2) (aa (gF Zaz hr T.QG (aa (pv 0) (aa (aH (jT dU (aH (pv 0) rfl) (pv 7)) rfl) (aa (pv 8) au)))) au))))) bH))))))
   (aA (aO (yd (G.Zed rfl) (by rfl) T.Aq G.boot_list (aa (G.Zj5 (pv 5)) au))))))))),?_⟩
  obtain⟨z0,z1,z2,z3,z4,rfl,q⟩:=h;exact Zce tx q
theorem Zg6{fd:FuncData}(F:jA K "onward" "onward" Py oU fd){jX:FuncData}(lN:Hh P w K mg base 1 iC jX pP (d7 XQ.H)):lg P w K mg base 2 oU fd Qd (Dd K XQ.C XQ.H):=by
 have sc:=Zfu;walk_at "ok"
 ·refine⟨Dl K (d7 XQ.H),(aA (aO (G.Zck (cns:=["heap","way"]) [0,2] (G.W2 rfl T.pN (aa (pv 1) au)) (λ_ _ _ _ _=>(G.J9 (oJ G.sJ (gF lN hr T.rK (aa (pv 2) (aa (pv 1) au))) (eU)))) (λ_ _ _ _ _=>(cQ (aa (pv 1) (aa (bz Znj (pv 3) (cQ (aa (pv 0) au))) au)))) rfl rfl (by repeat (first | exact trivial | refine⟨rfl,?_⟩)) (by repeat (first | exact trivial | refine⟨rfl,?_⟩)) rfl (by decide +kernel) rfl (by decide +kernel) (by decide +kernel) rfl rfl (by decide +kernel)))),?_⟩;obtain⟨z0,z1,z2,z3,z4,z5,rfl,q⟩:=h;exact Zg5 q
theorem Ky{fd:FuncData}(F:jA K "__init__" "Hand.__init__" tE dF fd):lg P w K mg base 1 dF fd tU (v9 XQ.D):=by
 have sc:=JN;have tx:=oN _ T;walk_at "ok"
 ·refine⟨rA K,(ao (cC (pv 0) (pv 1) rfl)
   (aA (cC (pv 0) (bz Qg (cY (aa (eU) au)) (pv 2)) rfl))),?_⟩
  obtain⟨z0,z1,z2,rfl,q⟩:=h;exact LQ tx q
theorem DG{fd:FuncData}(F:jA K "__init__" "Sweeper.__init__" pB cH fd):lg P w K mg base 1 cH fd ["self"] (qL XQ.S):=by
 have sc:=Dy;have tx:=oN _ T;walk_at "ok"
 ·refine⟨oG K,(ao (cC (pv 0) (az) rfl)
   (ao (cC (pv 0) (bG) rfl)
   (ao (cC (pv 0) (cY au) rfl)
   (ao (cC (pv 0) (az) rfl)
   (ao (cC (pv 0) (az) rfl)
   (ao (cC (pv 0) (az) rfl)
   (ao (cC (pv 0) (az) rfl)
   (ao (cC (pv 0) (az) rfl)
   (ao (cC (pv 0) (az) rfl)
   (ao (cC (pv 0) (az) rfl)
   (aA (cC (pv 0) (eU) rfl)))))))))))),?_⟩
  obtain⟨z0,rfl,q⟩:=h;exact DY tx q
theorem HS{fd:FuncData}{Lr Lq DW:FuncData}(F:jA K "__init__" "World.__init__" qU cZ fd)(Ag:Hh P w K mg base 1 dF Lr tU (v9 XQ.D))(Af:Hh P w K mg base 1 dD Lq tR (vY XQ.H))(uZ:Hh P w K mg base 1 cH DW ["self"] (qL XQ.S)):lg P w K mg base 3 cZ fd rD (ur XQ):=by
 have sc:=Hu;have tx:=oN _ T;walk_at "ok"
 ·refine⟨qe K XQ.D XQ.H XQ.S (v9 XQ.D) (vY XQ.H) (qL XQ.S),(ao (cC (pv 0) (zK T.Og Af.g (hr.mono (by decide)) rfl T.Zk3 Af.b .nil G.iB (aa (pv 1) au)) rfl)
   (ao (cC (pv 0) (pv 2) rfl)
   (ao (cC (pv 0) (G.Zck (cns:=[]) [] (jk (pv 3)) (λ_ _ _ _ _=>G.FQ) (λ_ _ _ _ _=>(zK T.Oh Ag.g (hr.mono (by decide)) rfl T.Zk4 Ag.b .nil G.iB (aa (pv 0) (aa (pv 1) au)))) rfl rfl (by repeat (first | exact trivial | refine⟨rfl,?_⟩)) (by repeat (first | exact trivial | refine⟨rfl,?_⟩)) rfl (by decide +kernel) rfl (by decide +kernel) (by decide +kernel) rfl rfl (by decide +kernel)) rfl)
   (ao (cC (pv 0) (BP) rfl)
   (aA (cC (pv 0) (Zj3 T.zR uZ.g (hr.mono (by decide)) rfl T.Va uZ.b .nil G.iB) rfl)))))),?_⟩
  obtain⟨z0,z1,z2,z3,rfl,q⟩:=h;exact Jp tx q
theorem Znp{fd:FuncData}(F:jA K "held" "held" Zca xO fd):lg P w K mg base 1 xO fd ["world"] (YF XQ):=by
 have sc:=Zml;have tx:=oN _ T;walk_at "ok"
 ·refine⟨WW K,(aA (aO (G.HH (cns:=[]) [] (jk (aH (pv 0) rfl)) (λ_ _ _ _ _=>G.FQ) (λ_ _ _ _ _=>(yd G.Gk (by rfl) T.Aq G.boot_list (aa (aH (pv 0) rfl) au))) rfl rfl (by repeat (first | exact trivial | refine⟨rfl,?_⟩)) (by repeat (first | exact trivial | refine⟨rfl,?_⟩)) rfl (by decide +kernel) rfl (by decide +kernel) (by decide +kernel) rfl (by decide +kernel)))),?_⟩;obtain⟨z0,rfl,q⟩:=h;exact Zol tx q
theorem Qn{fd:FuncData}(F:jA K "births_held" "births_held" wI fU fd){qG:FuncData}(sW:Hh P w K mg base 3 ig qG sH (jL XQ)):lg P w K mg base 4 fU fd ["world"] (uV XQ):=by
 have sc:=Pr;have tx:=oN _ T;walk_at "ok"
 ·refine⟨uI K (jL XQ),(aA (aO (G.HH (cns:=["world"]) [0] (jk (aH (pv 0) rfl)) (λ_ _ _ _ _=>G.FQ) (λ_ _ _ _ _=>(gF sW hr T.vO (aa (aH (pv 1) rfl) (aa (aH (pv 0) rfl) au)))) rfl rfl (by repeat (first | exact trivial | refine⟨rfl,?_⟩)) (by repeat (first | exact trivial | refine⟨rfl,?_⟩)) rfl (by decide +kernel) rfl (by decide +kernel) (by decide +kernel) rfl (by decide +kernel)))),?_⟩;obtain⟨z0,rfl,q⟩:=h;exact Rn tx q
theorem Xb{fd:FuncData}(F:jA K "births_at" "births_at" Bf ig fd){eV:FuncData}(fZ:Hh P w K mg base 2 eX eV lq (cJ XQ)):lg P w K mg base 3 ig fd sH (jL XQ):=by
 have sc:=Wg;have tx:=oN _ T;walk_at "ok"
 ·refine⟨yV K (cJ XQ),(aA (aO (G.HH (cns:=["heap"]) [0] (jk (pv 1)) (λ_ _ _ _ _=>G.FQ) (λ_ _ _ _ _=>(gF fZ hr T.mq (aa (pv 1) (aa (pv 0) au)))) rfl rfl (by repeat (first | exact trivial | refine⟨rfl,?_⟩)) (by repeat (first | exact trivial | refine⟨rfl,?_⟩)) rfl (by decide +kernel) rfl (by decide +kernel) (by decide +kernel) rfl (by decide +kernel)))),?_⟩;obtain⟨z0,z1,rfl,q⟩:=h;exact Yk tx q
theorem W8{fd:FuncData}(F:jA K "looked_at" "looked_at" Bc iU fd):lg P w K mg base 1 iU fd vC (nM XQ):=by
 have sc:=Wd;have tx:=oN _ T;walk_at "ok"
 ·refine⟨yR K,(aA (aO (HJ ju (bz Qh (bz Zcp (aH (aH (pv 0) rfl) rfl) (pv 1)) (az)) (az) (Qw _)))),?_⟩;obtain⟨z0,z1,rfl,q⟩:=h;exact Xz tx q
theorem W9{fd:FuncData}(F:jA K "has_sense" "has_sense" Bd d8 fd):lg P w K mg base 1 d8 fd kJ (cL XQ):=by
 have sc:=We;have tx:=oN _ T;walk_at "ok"
 ·refine⟨yS K,(aA (aO (HJ ju (aH (pv 1) rfl) (aH (aH (pv 0) rfl) rfl) (Qw _)))),?_⟩;obtain⟨z0,z1,rfl,q⟩:=h;exact XN tx q
theorem Sv{fd:FuncData}(F:jA K "is_walking" "is_walking" yH iI fd):lg P w K mg base 1 iI fd ["world"] (um XQ):=by
 have sc:=R1;have tx:=oN _ T;walk_at "ok"
 ·refine⟨wO K,(aA (aO (HJ U0 (aH (aH (pv 0) rfl) rfl) (cQ (aa (bG) (aa (bG) au))) (by with_unfolding_all rfl)))),?_⟩;obtain⟨z0,rfl,q⟩:=h;exact S8 tx q
theorem Zct{fd:FuncData}(F:jA K "mark_of" "mark_of" JS mV fd){fj:FuncData}(gm:Hh P w K mg base 1 d8 fj kJ (cL XQ)):lg P w K mg base 2 mV fd Kf (Dt XQ):=by
 have sc:=Zbw;have tx:=oN _ T;walk_at "ok"
 ·refine⟨Fl K (cL XQ),(ao (fW 2 sc.nd (aH (pv 0) rfl))
   (ao (fW 3 sc.nd (gF gm hr T.lV (aa (pv 0) (aa (jT dU (aH (aH (pv 0) rfl) rfl) (pv 1)) au))))
   (ao (cX (oJ ju (aH (pv 2) rfl) (bG)) (aA (aO (bG))) bH)
   (ao (cX (oJ ju (aH (pv 2) rfl) (bG)) (aA (aO (Zx (oK (pv 3)) (bG) (bG)))) bH)
   (ao (cX (FP (oK (pv 3))) (aA (aO (bG))) bH)
   (aA (aO (Zx (oJ U0 (pv 1) (aH (pv 2) rfl) (by with_unfolding_all rfl)) (bG) (bG))))))))),?_⟩
  obtain⟨z0,z1,rfl,q⟩:=h;exact Zd7 tx q
theorem Sh{fd:FuncData}{xH X3:FuncData}(F:jA K "told_cells" "told_cells" yD iG fd)(qM:Hh P w K mg base 1 fX xH ["self"] (mG XQ.H))(Zay:Hh P w K mg base 4 jC X3 BR (vV XQ)):lg P w K mg base 5 iG fd ["world"] (YB XQ):=by
 have sc:=RW;have tx:=oN _ T;walk_at "ok"
 ·refine⟨wK K XQ.H (mG XQ.H) (vV XQ),(aA (aO (G.HH (cns:=["world"]) [0] (jk (oR (aH (pv 0) rfl) T.cG T.xm qM.g (hr.mono (by decide)) qM.b .nil G.iB)) (λ_ _ _ _ _=>G.FQ) (λ_ _ _ _ _=>(gF Zay hr T.Mx (aa (pv 1) (aa (pv 0) au)))) rfl rfl (by repeat (first | exact trivial | refine⟨rfl,?_⟩)) (by repeat (first | exact trivial | refine⟨rfl,?_⟩)) rfl (by decide +kernel) rfl (by decide +kernel) (by decide +kernel) rfl (by decide +kernel)))),?_⟩;obtain⟨z0,rfl,q⟩:=h;exact RC tx q
theorem W7{fd:FuncData}{qG Zdq:FuncData}(F:jA K "told_cell" "told_cell" Bb jC fd)(sW:Hh P w K mg base 3 ig qG sH (jL XQ))(Zhv:Hh P w K mg base 2 mV Zdq Kf (Dt XQ)):lg P w K mg base 4 jC fd BR (vV XQ):=by
 have sc:=Wc;have tx:=oN _ T;walk_at "ok"
 ·refine⟨yP K (jL XQ) (Dt XQ),(ao (fW 2 sc.nd (jT dU (aH (aH (pv 0) rfl) rfl) (pv 1)))
   (ao (fW 3 sc.nd (gF sW hr T.vO (aa (aH (pv 0) rfl) (aa (aH (pv 2) rfl) au))))
   (aA (aO (cQ (aa (pv 1) (aa (aH (pv 2) rfl) (aa (aH (pv 2) rfl) (aa (aH (pv 2) rfl) (aa (pv 3) (aa (gF Zhv hr T.U9 (aa (pv 0) (aa (pv 1) au))) au))))))))))),?_⟩
  obtain⟨z0,z1,rfl,q⟩:=h;exact VJ tx q
theorem Zjf{fd:FuncData}{Jh DX:FuncData}(F:jA K "begin" "begin" WK sr fd)(yq:Hh P w K mg base 2 dH Jh rE (nP 0))(u5:Hh P w K mg base 1 cu DX pI (nP 1)):lg P w K mg base 3 sr fd ["world"] (O2 XQ):=by
 have sc:=Zie;have tx:=oN _ T;walk_at "ok"
 ·refine⟨PX K XQ.E XQ.F (nP 0) (nP 1),(ao (fW 1 sc.nd (aH (pv 0) rfl))
   (ao (cC (pv 1) (bz Cm (az) (aH (pv 1) rfl)) rfl)
   (ao (cC (pv 1) (bz lA (aH (pv 1) rfl) (az)) rfl)
   (ao (cC (pv 1) (bG) rfl)
   (ao (cC (pv 1) (cY au) rfl)
   (ao (cC (pv 1) (G.Oc (vz (aH (aH (pv 0) rfl) rfl) T.CZ T.vL yq.g (hr.mono (by decide)) yq.b .nil G.iB (aa (gb G.eG (by rfl) T.m5 G.boot_len (aa (aH (pv 0) rfl) au)) au)) (vz (aH (aH (pv 0) rfl) rfl) T.Jl T.yh u5.g (hr.mono (by decide)) u5.b .nil G.iB (aa (gb G.eG (by rfl) T.m5 G.boot_len (aa (aH (pv 0) rfl) au)) au))) rfl)
   (ao (cC (pv 1) (az) rfl)
   (ao (cC (pv 1) (az) rfl)
   (aA (cC (pv 1) (az) rfl)))))))))),?_⟩
  obtain⟨z0,rfl,q⟩:=h;exact Zlx tx q
theorem Zno{fd:FuncData}{jX fj:FuncData}(F:jA K "note" "note" Zc9 xN fd)(lN:Hh P w K mg base 1 iC jX pP (d7 XQ.H))(gm:Hh P w K mg base 1 d8 fj kJ (cL XQ)):lg P w K mg base 2 xN fd Zcn (YD XQ):=by
 have sc:=Zmk;have tx:=oN _ T;walk_at "ok"
 ·refine⟨WR K (d7 XQ.H) (cL XQ),(ao (fW 2 sc.nd (aH (pv 0) rfl))
   (ao (fW 3 sc.nd (gF lN hr T.rK (aa (aH (pv 0) rfl) (aa (pv 1) au))))
   (ao (cX (PW.pt (HD (oJ Zeu (aH (pv 2) rfl) (bG)) (HD (oJ G.vH (pv 3) (eU)) (FN (oK (gF gm hr T.lV (aa (pv 0) (aa (pv 3) au)))))))) (aA (aO (eU))) bH)
   (ao (cC (pv 3) (aH (pv 2) rfl) rfl)
   (ao (qm (Ef PySem.F.plainAttrs_list PySem.F.slot_list_append PySem.F.type_list_append rH (aH (pv 2) rfl) (aa (pv 1) au)))
   (aA (aO (aH (pv 3) rfl)))))))),?_⟩
  obtain⟨z0,z1,rfl,q⟩:=h;exact Znt tx q
theorem ZK{fd:FuncData}(F:jA K "note_all" "note_all" EY gJ fd){Zp0:FuncData}(Zsy:Hh P w K mg base 2 xN Zp0 Zcn (YD XQ)):lg P w K mg base 3 gJ fd pH (fJ XQ):=by
 have sc:=Zi;have tx:=oN _ T;walk_at "ok"
 ·refine⟨Bx K (YD XQ),(ao (fW 2 sc.nd (cY au))
   (ao (mj PassesOwn.never rfl (jk (pv 1)) (fK (i:=3) sc.nd rfl (Or.inl rfl))
   (ao (fW 4 sc.nd (gF Zsy hr T.Zjz (aa (pv 0) (aa (pv 3) au))))
   (aA (cX (oJ G.sJ (pv 4) (eU)) (aA (qm (Ef PySem.F.plainAttrs_list PySem.F.slot_list_append PySem.F.type_list_append rH (pv 2) (aa (pv 4) au)))) bH))))
   (aA (aO (pv 2))))),?_⟩
  obtain⟨z0,z1,rfl,q⟩:=h;exact ZS tx q
theorem Znq{fd:FuncData}{jX fj:FuncData}(F:jA K "gone" "gone" Zcb uR fd)(lN:Hh P w K mg base 1 iC jX pP (d7 XQ.H))(gm:Hh P w K mg base 1 d8 fj kJ (cL XQ)):lg P w K mg base 2 uR fd W5 (Gs XQ):=by
 have sc:=Zmm;have tx:=oN _ T;walk_at "ok"
 ·refine⟨WX K (d7 XQ.H) (cL XQ),(ao (fW 3 sc.nd (gF lN hr T.rK (aa (aH (pv 0) rfl) (aa (pv 1) au))))
   (ao (cX (PW.pt (HD (oJ G.vH (pv 3) (eU)) (FN (oJ Zeu (aH (pv 3) rfl) (pv 2))))) (aA (aO (Eg))) bH)
   (aA (aO ((Zj8 (HJ ju (aH (aH (pv 0) rfl) rfl) (bG) (Qw _)) (Zj2 (Zqm (gF gm hr T.lV (aa (pv 0) (aa (pv 3) au))))))))))),?_⟩
  obtain⟨z0,z1,z2,rfl,q⟩:=h;exact Zou tx q
theorem Zje{fd:FuncData}{Zp1 Zdo:FuncData}(F:jA K "roots" "roots" Wz rZ fd)(Zsz:Hh P w K mg base 1 xO Zp1 ["world"] (YF XQ))(Zht:Hh P w K mg base 3 mR Zdo Kd (Dr XQ)):lg P w K mg base 4 rZ fd ["world"] (Ot XQ):=by
 have sc:=Zid;have tx:=oN _ T;walk_at "ok"
 ·refine⟨PN K (YF XQ) (Dr XQ) H,(aA (aO (bz pJ (gF Zsz hr T.Zk0 (aa (pv 0) au)) (cY (aa (G.Zne (G.Zck (cns:=["world"]) [0] (G.Zn8 (G.Zg3 (aH (pv 0) rfl))) (λ_ _ _ _ _=>G.FQ) (λ_ _ _ _ _=>(gF Zht hr T.U7 (aa (pv 2) (aa (pv 0) (aa (pv 1) au))))) rfl rfl (by repeat (first | exact trivial | refine⟨rfl,?_⟩)) (by repeat (first | exact trivial | refine⟨rfl,?_⟩)) rfl (by decide +kernel) rfl (by decide +kernel) (by decide +kernel) rfl rfl (by decide +kernel))) au))))),?_⟩;obtain⟨z0,rfl,q⟩:=h;exact Zii tx q
theorem Zcr{fd:FuncData}{X4 fj Tq:FuncData}(F:jA K "root_of" "root_of" JQ mR fd)(Zeh:Hh P w K mg base 2 uR X4 W5 (Gs XQ))(gm:Hh P w K mg base 1 d8 fj kJ (cL XQ))(YS:Hh P w K mg base 1 iI Tq ["world"] (um XQ)):lg P w K mg base 3 mR fd Kd (Dr XQ):=by
 have sc:=Zbu;have tx:=oN _ T;walk_at "ok"
 ·refine⟨Fj K (Gs XQ) (cL XQ) (um XQ),(ao (cX (oK (gF Zeh hr T.Zdc (aa (pv 0) (aa (pv 1) (aa (pv 2) au))))) (aA (aO (eU))) bH)
   (ao (cX (PW.pt (zG (oK (gF YS hr T.Ir (aa (pv 0) au))) (zF (FP (oK (gF gm hr T.lV (aa (pv 0) (aa (jT dU (aH (aH (pv 0) rfl) rfl) (pv 1)) au)))))))) (aA (aO (eU))) bH)
   (aA (aO (pv 1))))),?_⟩
  obtain⟨z0,z1,z2,rfl,q⟩:=h;exact Zcd tx q
theorem Su{fd:FuncData}(F:jA K "note_hands" "note_hands" yG gH fd){kW:FuncData}(mJ:Hh P w K mg base 3 gJ kW pH (fJ XQ)):lg P w K mg base 4 gH fd tZ (kY XQ):=by
 have sc:=R0;have tx:=oN _ T;walk_at "ok"
 ·refine⟨wN K (fJ XQ),(ao (fW 2 sc.nd (cY au))
   (ao (mj PassesOwn.never rfl (G.W2 rfl T.pN (aa (aH (pv 0) rfl) au)) (W3 rfl (sG (fK (i:=3) sc.nd rfl (Or.inl rfl)) (sG (fK (i:=4) sc.nd rfl (Or.inl rfl)) Ob)))
   (aA (cX (oJ ju (bz Qh (bz Zcp (pv 1) (pv 3)) (az)) (az)) (aA (qm (Ef PySem.F.plainAttrs_list PySem.F.slot_list_extend PySem.F.type_list_extend KN (pv 2) (aa (gF mJ hr T.rJ (aa (pv 0) (aa (aH (pv 4) rfl) au))) au)))) bH)))
   (aA (aO (pv 2))))),?_⟩
  obtain⟨z0,z1,rfl,q⟩:=h;exact S5 tx q
theorem NP{fd:FuncData}{Zli xG:FuncData}(F:jA K "step_at_rest" "step_at_rest" uC cP fd)(Zph:Hh P w K mg base 3 sr Zli ["world"] (O2 XQ))(Aa:Hh P w K mg base 4 gH xG tZ (kY XQ)):lg P w K mg base 5 cP fd ["world"] (bW XQ (Od "rest")):=by
 have sc:=Ny;have tx:=oN _ T;walk_at "ok"
 ·refine⟨tL K (O2 XQ) (kY XQ),(ao (qm (gF Zph hr T.Zex (aa (pv 0) au)))
   (ao (fW 1 sc.nd (gF Aa hr T.zU (aa (pv 0) (aa (aH (aH (pv 0) rfl) rfl) au))))
   (aA (aO (cQ (aa (bG) (aa (aH (aH (pv 0) rfl) rfl) (aa (pv 1) au)))))))),?_⟩
  obtain⟨z0,rfl,q⟩:=h;exact Nq tx q
theorem NB{fd:FuncData}{Q9 Zoy:FuncData}(F:jA K "step_in_walk" "step_in_walk" uA cM fd)(Ua:Hh P w K mg base 7 gB Q9 ["world"] (bW XQ ZD))(Zsw:Hh P w K mg base 4 xK Zoy ["world"] (bW XQ Zz)):lg P w K mg base 8 cM fd ["world"] (bW XQ (Od "walk")):=by
 have sc:=Nv;have tx:=oN _ T;walk_at "ok"
 ·refine⟨tH K (bW XQ ZD) (bW XQ Zz),(ao (cX (Zu (aH (aH (pv 0) rfl) rfl) (λ_=>rfl)) (aA (aO (gF Zsw hr T.Zjx (aa (pv 0) au)))) bH)
   (aA (aO (gF Ua hr T.Ek (aa (pv 0) au))))),?_⟩
  obtain⟨z0,rfl,q⟩:=h;exact Nm tx q
theorem Znm{fd:FuncData}(F:jA K "walk" "walk" Zc7 xK fd){kW:FuncData}(mJ:Hh P w K mg base 3 gJ kW pH (fJ XQ)):lg P w K mg base 4 xK fd ["world"] (bW XQ Zz):=by
 have sc:=Zmi;have tx:=oN _ T;walk_at "ok"
 ·refine⟨WM K (fJ XQ),(ao (fW 1 sc.nd (aH (pv 0) rfl))
   (ao (fW 2 sc.nd (jT dU (aH (aH (pv 0) rfl) rfl) (Ef PySem.F.plainAttrs_list PySem.F.slot_list_pop PySem.F.type_list_pop Zjt (aH (pv 1) rfl) (aa (az) au))))
   (ao (cC (pv 1) (bz lA (aH (pv 1) rfl) (az)) rfl)
   (aA (aO (cQ (aa (bG) (aa (aH (pv 2) rfl) (aa (gF mJ hr T.rJ (aa (pv 0) (aa (aH (pv 2) rfl) au))) au))))))))),?_⟩
  obtain⟨z0,rfl,q⟩:=h;exact Zm7 tx q
theorem Qm{fd:FuncData}{Ji CW Ln Zsd xG:FuncData}(F:jA K "look_or_cut" "look_or_cut" wH gB fd)(yr:Hh P w K mg base 1 dI Ji rF (lX 1))(tX:Hh P w K mg base 1 bV CW oM (lX 0))(iw:Hh P w K mg base 1 cI Ln ["self"] (Gr (.bl true)))(Zuv:Hh P w K mg base 6 Ep Zsd ["world"] (bW XQ Zco))(Aa:Hh P w K mg base 4 gH xG tZ (kY XQ)):lg P w K mg base 7 gB fd ["world"] (bW XQ ZD):=by
 have sc:=Pq;have tx:=oN _ T;walk_at "ok"
 ·refine⟨uH K XQ.E XQ.F (lX 1) (lX 0) (Gr (.bl true)) (bW XQ Zco) (kY XQ),(ao (fW 1 sc.nd (aH (pv 0) rfl))
   (ao (fW 2 sc.nd (aH (aH (pv 0) rfl) rfl))
   (ao (fW 3 sc.nd (G.Oc (vz (pv 2) T.CZ T.uL tX.g (hr.mono (by decide)) tX.b .nil G.iB (aa (aH (pv 1) rfl) (aa (gb G.eG (by rfl) T.m5 G.boot_len (aa (aH (pv 0) rfl) au)) au))) (vz (pv 2) T.Jl T.vM yr.g (hr.mono (by decide)) yr.b .nil G.iB (aa (aH (pv 1) rfl) (aa (gb G.eG (by rfl) T.m5 G.boot_len (aa (aH (pv 0) rfl) au)) au)))))
   (ao (fW 4 sc.nd (gF Aa hr T.zU (aa (pv 0) (aa (pv 3) au))))
   (ao (cX (PW.pt (HD (oJ ju (pv 3) (az)) (FN (FP (PW.pt (HD (oK (G.Oc (oR (pv 2) T.CZ T.uK iw.g (hr.mono (by decide)) iw.b .nil G.iB) (oR (pv 2) T.Jl T.xq iw.g (hr.mono (by decide)) iw.b .nil G.iB))) (FN (Zu (pv 4) (λ_=>rfl))))))))) (aA (aO (gF Zuv hr T.Zpr (aa (pv 0) au)))) bH)
   (ao (cC (pv 1) (bz lA (aH (pv 1) rfl) (az)) rfl)
   (ao (cX (oK (G.Oc (oR (pv 2) T.CZ T.uK iw.g (hr.mono (by decide)) iw.b .nil G.iB) (oR (pv 2) T.Jl T.xq iw.g (hr.mono (by decide)) iw.b .nil G.iB))) (aA (cC (pv 1) (bz Ztf (aH (pv 1) rfl) (pv 3)) rfl)) bH)
   (aA (aO (cQ (aa (bG) (aa (pv 3) (aa (pv 4) au))))))))))))),?_⟩
  obtain⟨z0,rfl,q⟩:=h;exact QJ tx q
theorem Zqv{fd:FuncData}{qG Tt Zad xF:FuncData}(F:jA K "cut" "cut" Zih Ep fd)(sW:Hh P w K mg base 3 ig qG sH (jL XQ))(YT:Hh P w K mg base 5 iJ Tt ["world"] (uo XQ))(Zei:Hh P w K mg base 2 lC Zad ["world"] (z7 XQ))(z9:Hh P w K mg base 1 gG xF ["event"] (mF K)):lg P w K mg base 6 Ep fd ["world"] (bW XQ Zco):=by
 have sc:=Zqg;have tx:=oN _ T;walk_at "ok"
 ·refine⟨Zch K (jL XQ) (uo XQ) (z7 XQ) (mF K),(ao (fW 1 sc.nd (aH (pv 0) rfl))
   (ao (cC (pv 1) (gb G.eG (by rfl) T.m5 G.boot_len (aa (aH (aH (pv 0) rfl) rfl) au)) rfl)
   (ao (cC (pv 1) (az) rfl)
   (ao (fW 2 sc.nd (gF YT hr T.Iu (aa (pv 0) au)))
   (ao (cX (oJ G.sJ (pv 2) (eU)) (ao (cC (pv 1) (bG) rfl)
   (ao (cC (pv 1) (pv 2) rfl)
   (aA (aO (gF z9 hr T.zT (aa (pv 2) au)))))) bH)
   (ao (cC (pv 1) (bG) rfl)
   (ao (fW 3 sc.nd (gF sW hr T.vO (aa (aH (pv 0) rfl) (aa (gF Zei hr T.QH (aa (pv 0) au)) au))))
   (aA (aO (cQ (aa (bG) (aa (gb G.eG (by rfl) T.m5 G.boot_len (aa (pv 3) au)) (aa (pv 3) au))))))))))))),?_⟩
  obtain⟨z0,rfl,q⟩:=h;exact Zsk tx q
theorem Sx{fd:FuncData}{fj Zdp Zlh:FuncData}(F:jA K "first_loss" "first_loss" yI iJ fd)(gm:Hh P w K mg base 1 d8 fj kJ (cL XQ))(Zhu:Hh P w K mg base 3 mU Zdp Ke (Ds K XQ.C XQ.H))(Zpg:Hh P w K mg base 4 rZ Zlh ["world"] (Ot XQ)):lg P w K mg base 5 iJ fd ["world"] (uo XQ):=by
 have sc:=R3;have tx:=oN _ T;walk_at "ok"
 ·refine⟨wQ K (cL XQ) (Ds K XQ.C XQ.H) (Ot XQ),(ao (mj PassesOwn.never rfl (jk (gF Zhu hr T.U8 (aa (aH (pv 0) rfl) (aa (gF Zpg hr T.Zew (aa (pv 0) au)) au)))) (W3 rfl (sG (fK (i:=1) sc.nd rfl (Or.inl rfl)) (sG (fK (i:=2) sc.nd rfl (Or.inl rfl)) Ob)))
   (ao (fW 3 sc.nd (jT dU (aH (aH (pv 0) rfl) rfl) (pv 1)))
   (aA (cX (FP (oK (gF gm hr T.lV (aa (pv 0) (aa (pv 3) au))))) (aA (aO (cQ (aa (bG) (aa (aH (pv 3) rfl) (aa (yd Jm (by rfl) T.Aq G.boot_list (aa (pv 2) au)) au)))))) bH))))
   (aA (aO (eU)))),?_⟩
  obtain⟨z0,rfl,q⟩:=h;exact Tj tx q
theorem ZL{fd:FuncData}{xH fj:FuncData}(F:jA K "given_up" "given_up" Fb lC fd)(qM:Hh P w K mg base 1 fX xH ["self"] (mG XQ.H))(gm:Hh P w K mg base 1 d8 fj kJ (cL XQ)):lg P w K mg base 2 lC fd ["world"] (z7 XQ):=by
 have sc:=Zj;have tx:=oN _ T;walk_at "ok"
 ·refine⟨By K XQ.H (mG XQ.H) (cL XQ),(ao (Qa (i:=1) sc.nd rfl (Or.inr rfl) (aH (pv 0) rfl))
   (aA (aO (G.HH (cns:=["world","heap"]) [0,1] (jk (oR (pv 1) T.cG T.xm qM.g (hr.mono (by decide)) qM.b .nil G.iB)) (λ_ _ _ _ _=>(G.J9 (FP (oK (gF gm hr T.lV (aa (pv 1) (aa (jT dU (aH (pv 2) rfl) (pv 0)) au))))))) (λ_ _ _ _ _=>(pv 0)) rfl rfl (by repeat (first | exact trivial | refine⟨rfl,?_⟩)) (by repeat (first | exact trivial | refine⟨rfl,?_⟩)) rfl (by decide +kernel) rfl (by decide +kernel) (by decide +kernel) rfl (by decide +kernel))))),?_⟩
  obtain⟨z0,rfl,q⟩:=h;exact Za9 tx q
theorem Sq{fd:FuncData}(F:jA K "told_again" "told_again" yE gG fd):lg P w K mg base 1 gG fd ["event"] (mF K):=by
 have sc:=RX;walk_at "ok"
 ·refine⟨wL K,(aA (aO (cQ (aa (jT bO (pv 0) (az)) (aa (jT bO (pv 0) (az)) (aa (yd G.Gk (by rfl) T.Aq G.boot_list (aa (jT bO (pv 0) (az)) au)) au)))))),?_⟩;obtain⟨z0,rfl,q⟩:=h;exact RD q
theorem NK{fd:FuncData}{Zsc Tp:FuncData}(F:jA K "step_in_give" "step_in_give" uB cN fd)(Zuu:Hh P w K mg base 1 Eo Zsc ["world"] (bW XQ pEnd))(YQ:Hh P w K mg base 3 iH Tp ["world"] (bW XQ ZC)):lg P w K mg base 4 cN fd ["world"] (bW XQ (Od "give")):=by
 have sc:=Nx;have tx:=oN _ T;walk_at "ok"
 ·refine⟨tK K (bW XQ pEnd) (bW XQ ZC),(ao (cX (oJ Eh (aH (aH (pv 0) rfl) rfl) (aH (aH (pv 0) rfl) rfl)) (aA (aO (gF YQ hr T.Io (aa (pv 0) au)))) bH)
   (aA (aO (gF Zuu hr T.Zpq (aa (pv 0) au))))),?_⟩
  obtain⟨z0,rfl,q⟩:=h;exact Np tx q
theorem Ss{fd:FuncData}{Yh jX fj:FuncData}(F:jA K "pass_place" "pass_place" yF iH fd)(Nf:Hh P w K mg base 2 iZ Yh Ck (sV XQ.C XQ.H))(lN:Hh P w K mg base 1 iC jX pP (d7 XQ.H))(gm:Hh P w K mg base 1 d8 fj kJ (cL XQ)):lg P w K mg base 3 iH fd ["world"] (bW XQ ZC):=by
 have sc:=RZ;have tx:=oN _ T;walk_at "ok"
 ·refine⟨wM K XQ.H (sV XQ.C XQ.H) (d7 XQ.H) (cL XQ),(ao (fW 1 sc.nd (aH (pv 0) rfl))
   (ao (fW 2 sc.nd (aH (pv 1) rfl))
   (ao (cC (pv 1) (bz lA (pv 2) (az)) rfl)
   (ao (cC (pv 1) (bz lA (aH (pv 1) rfl) (az)) rfl)
   (ao (fW 3 sc.nd (gF lN hr T.rK (aa (aH (pv 0) rfl) (aa (pv 2) au))))
   (ao (cX (PW.pt (HD (oJ G.vH (pv 3) (eU)) (FN (oK (gF gm hr T.lV (aa (pv 0) (aa (pv 3) au))))))) (aA (aO (cQ (aa (bG) (aa (pv 2) (aa (cY au) au)))))) bH)
   (aA (aO (cQ (aa (bG) (aa (vz (aH (pv 0) rfl) T.cG T.Ik Nf.g (hr.mono (by decide)) Nf.b .nil G.iB (aa (pv 2) au)) (aa (cY (aa (pv 2) au)) au)))))))))))),?_⟩
  obtain⟨z0,rfl,q⟩:=h;exact Sg tx q
theorem Zqs{fd:FuncData}(F:jA K "end" "end" s_end Eo fd):lg P w K mg base 1 Eo fd ["world"] (bW XQ pEnd):=by
 have sc:=Zqf;have tx:=oN _ T;walk_at "ok"
 ·refine⟨Zcg K,(ao (fW 1 sc.nd (aH (pv 0) rfl))
   (ao (cC (pv 1) (bG) rfl)
   (aA (aO (cQ (aa (bG) (aa (aH (pv 1) rfl) (aa (cY (aa (aH (pv 1) rfl) (aa (aH (pv 1) rfl) (aa (aH (pv 1) rfl) au)))) au)))))))),?_⟩
  obtain⟨z0,rfl,q⟩:=h;exact Zsg tx q
theorem HQ{fd:FuncData}(F:jA K "step_when_lost" "step_when_lost" qR bU fd){xF:FuncData}(z9:Hh P w K mg base 1 gG xF ["event"] (mF K)):lg P w K mg base 2 bU fd ["world"] (bW XQ (Od "lost")):=by
 have sc:=Hs;have tx:=oN _ T;walk_at "ok"
 ·refine⟨p8 K (mF K),(aA (aO (gF z9 hr T.zT (aa (aH (aH (pv 0) rfl) rfl) au)))),?_⟩;obtain⟨z0,rfl,q⟩:=h;exact Hg tx q
theorem Znn{fd:FuncData}{N5 NZ NT Je:FuncData}(F:jA K "step" "step" Zc8 xM fd)(uY:Hh P w K mg base 5 cP N5 ["world"] (bW XQ (Od "rest")))(uX:Hh P w K mg base 4 cN NZ ["world"] (bW XQ (Od "give")))(uW:Hh P w K mg base 8 cM NT ["world"] (bW XQ (Od "walk")))(rO:Hh P w K mg base 2 bU Je ["world"] (bW XQ (Od "lost"))):lg P w K mg base 9 xM fd ["world"] (bW XQ Zja):=by
 have sc:=Zmj;have tx:=oN _ T;walk_at "ok"
 ·refine⟨WQ K cP cN cM bU (bW XQ (Od "rest")) (bW XQ (Od "give")) (bW XQ (Od "walk")) (bW XQ (Od "lost")),(ao (fW 1 sc.nd (G.Zj0 T.Uz rfl (aH (aH (pv 0) rfl) rfl) (λ_ _=>rfl)))
   (aA (aO (G.Zy (k:=8) (G.Rz.cons (by decide) uY.g uY.b uY.k (G.Rz.cons (by decide) uW.g uW.b uW.k (G.Rz.cons (by decide) uX.g uX.b uX.k (G.Rz.cons (by decide) rO.g rO.b rO.k G.Rz.nil)))) (hr.mono (by decide)) rfl (Or.inl rfl) G.iB (aa (pv 0) au))))),?_⟩
  obtain⟨z0,rfl,q⟩:=h;exact Zmb tx q
theorem Zg9{fd:FuncData}(F:jA K "all_of" "all_of" PK oW fd):lg P w K mg base 1 oW fd ["hands"] (Js):=by
 have sc:=Zfx;walk_at "ok"
 ·refine⟨J8,(aA (aO (bz Cm (bz Zjb (az) (pv 0)) (az)))),?_⟩;obtain⟨z0,rfl,q⟩:=h;exact Zhp q
theorem DK{fd:FuncData}(F:jA K "at_begin" "Looking.at_begin" pC cu fd):lg P w K mg base 1 cu fd pI (nP 1):=by
 have sc:=Dz;walk_at "ok"
 ·refine⟨oH,(aA (aO (az))),?_⟩;obtain⟨z0,z1,rfl,q⟩:=h;exact Eb q
theorem Cp{fd:FuncData}(F:jA K "next_look" "Looking.next_look" oE bV fd):lg P w K mg base 1 bV fd oM (lX 0):=by
 have sc:=Ba;walk_at "ok"
 ·refine⟨nA,(aA (aO (az))),?_⟩;obtain⟨z0,z1,z2,rfl,q⟩:=h;exact Df q
theorem Ku{fd:FuncData}(F:jA K "stays" "Looking.stays" sY cI fd):lg P w K mg base 1 cI fd ["self"] (Gr (.bl true)):=by
 have sc:=JK;walk_at "ok"
 ·refine⟨qZ,(aA (aO (Eg))),?_⟩;obtain⟨z0,rfl,q⟩:=h;exact Ly q
theorem HW{fd:FuncData}(F:jA K "at_begin" "First.at_begin" qW dH fd){Zhe:FuncData}(Zm2:Hh P w K mg base 1 oW Zhe ["hands"] (Js)):lg P w K mg base 2 dH fd rE (nP 0):=by
 have sc:=Hv;walk_at "ok"
 ·refine⟨qg (Js),(aA (aO (gF Zm2 hr T.Za1 (aa (pv 1) au)))),?_⟩;obtain⟨z0,z1,rfl,q⟩:=h;exact Jv q
theorem HX{fd:FuncData}(F:jA K "next_look" "Each.next_look" qX dI fd):lg P w K mg base 1 dI fd rF (lX 1):=by
 have sc:=Hw;walk_at "ok"
 ·refine⟨qi,(ao (mj PassesOwn.never rfl (pO rfl T.pX (aa (pv 2) au)) (fK (i:=3) sc.nd rfl (Or.inl rfl))
   (aA (cX (oJ ju (bz Qh (bz Zcp (pv 1) (pv 3)) (az)) (az)) (aA (aO (bz Zjb (az) (pv 3)))) bH)))
   (aA (aO (az)))),?_⟩
  obtain⟨z0,z1,z2,rfl,q⟩:=h;exact Jw q
theorem Kv{fd:FuncData}(F:jA K "__init__" "Kind.__init__" sZ dB fd):lg P w K mg base 1 dB fd tQ (sU XQ.K):=by
 have sc:=JL;have tx:=oN _ T;walk_at "ok"
 ·refine⟨q8 K,(ao (cC (pv 0) (pv 1) rfl)
   (aA (cC (pv 0) (pv 2) rfl))),?_⟩
  obtain⟨z0,z1,z2,rfl,q⟩:=h;exact Lz tx q
theorem ZJ{fd:FuncData}(F:jA K "slots_of" "slots_of" Ez eE fd):lg P w K mg base 1 eE fd jU (cg XQ):=by
 have sc:=Zh;have tx:=oN _ T;walk_at "ok"
 ·refine⟨Bw K,(aA (aO (aH (jT dU (aH (pv 0) rfl) (pv 1)) rfl))),?_⟩;obtain⟨z0,z1,rfl,q⟩:=h;exact Zg tx q
theorem Zd1{fd:FuncData}{jX dO:FuncData}(F:jA K "cell_in" "cell_in" J2 jO fd)(lN:Hh P w K mg base 1 iC jX pP (d7 XQ.H))(eF:Hh P w K mg base 1 eE dO jU (cg XQ)):lg P w K mg base 2 jO fd uv (jP XQ aK):=by
 have sc:=Zc4;have tx:=oN _ T;walk_at "okX"
 ·refine⟨Fz K aK (d7 XQ.H) (cg XQ) E,(ao (fW 3 sc.nd (gF lN hr T.rK (aa (aH (pv 0) rfl) (aa (jT dU (gF eF hr T.jV (aa (pv 0) (aa (pv 1) au))) (pv 2)) au))))
   (ao (cX (oJ G.vH (pv 3) (eU)) (aA (G.HF rfl rfl T.M5 T.vg (aa (bG) au) (λ_ _ _ _ _ _ _ I hx hE=>G.WY I hx hE))) bH)
   (aA (aO (pv 3))))),?_⟩
  obtain⟨z0,z1,z2,rfl,q⟩:=h;exact Zeb tx q
theorem Xa{fd:FuncData}{Jj pK:FuncData}(F:jA K "fields_in" "fields_in" Be iV fd)(yt:Hh P w K mg base 1 dJ Jj rG (vW XQ))(iD:Hh P w K mg base 2 jO pK uv (jP XQ aK)):lg P w K mg base 3 iV fd vD (nO XQ aK aV):=by
 have sc:=Wf;have tx:=oN _ T;walk_at "okX"
 ·refine⟨yU K XQ.C aV (vW XQ) (jP XQ aK) E,(ao (fW 4 sc.nd (vA iD.g (hr.mono (by decide)) rfl T.yj iD.k iD.b .nil G.HN (aa (pv 0) (aa (pv 1) (aa (pv 2) au)))))
   (ao (cX (FP (oK (vz (pv 4) T.cT T.vN yt.g (hr.mono (by decide)) yt.b .nil G.iB (aa (pv 3) au)))) (aA (G.HF rfl rfl T.Vb T.Dk (aa (bG) au) (λ_ _ _ _ _ _ _ I hx hE=>G.WY I hx hE))) bH)
   (aA (aO (aH (pv 4) rfl))))),?_⟩
  obtain⟨z0,z1,z2,z3,rfl,q⟩:=h;exact XX tx q
theorem Qj{fd:FuncData}(F:jA K "told_as_old" "told_as_old" wD gq fd):lg P w K mg base 1 gq fd w6 (z6 XQ):=by
 have sc:=Pj;have tx:=oN _ T;walk_at "ok"
 ·refine⟨uE K,(ao (cX (oJ ju (bz Qh (aH (aH (pv 0) rfl) rfl) (T.Zpu.pe rfl)) (az)) (aA (aO (cY au))) bH)
   (aA (aO (cY (aa (pv 1) au))))),?_⟩
  obtain⟨z0,z1,rfl,q⟩:=h;exact O5 tx q
theorem Qk{fd:FuncData}(F:jA K "told_as_new" "told_as_new" wF fQ fd){zV:FuncData}(Dg:Hh P w K mg base 1 iU zV vC (nM XQ)):lg P w K mg base 2 fQ fd rQ (pM XQ):=by
 have sc:=Pk;have tx:=oN _ T;walk_at "ok"
 ·refine⟨uF K (nM XQ),(ao (cX (PW.pt (HD (oJ ju (bz Qh (aH (aH (pv 0) rfl) rfl) (T.Zpv.pe rfl)) (az)) (FN (oK (gF Dg hr T.Cw (aa (pv 0) (aa (pv 1) au))))))) (aA (aO (cY au))) bH)
   (aA (aO (cY (aa (pv 2) au))))),?_⟩
  obtain⟨z0,z1,z2,rfl,q⟩:=h;exact O6 tx q
theorem Zcx{fd:FuncData}{Ye eV dO:FuncData}(F:jA K "do_make" "do_make" JX gQ fd)(M9:Hh P w K mg base 3 iu Ye Cj (vX K XQ.C XQ.H bR))(fZ:Hh P w K mg base 2 eX eV lq (cJ XQ))(eF:Hh P w K mg base 1 eE dO jU (cg XQ)):lg P w K mg base 4 gQ fd Km (cz XQ (Am bR aK aV bw) Le):=by
 have sc:=Zc0;have tx:=oN _ T;walk_at "okX"
 ·refine⟨Fv K XQ.H (vX K XQ.C XQ.H bR) (cJ XQ) (cg XQ) E,(ao (fW 2 sc.nd (gF eF hr T.jV (aa (pv 0) (aa (jT bO (pv 1) (az)) au))))
   (ao (fW 3 sc.nd (jT bO (pv 1) (az)))
   (ao (fW 4 sc.nd (jT bO (pv 1) (az)))
   (ao (fW 5 sc.nd (vz (aH (pv 0) rfl) T.cG T.Ii M9.g (hr.mono (by decide)) M9.b .nil G.HN (aa (pv 3) (aa (pv 4) (aa (aH (aH (pv 0) rfl) rfl) au)))))
   (ao (zH (pv 5) (zJ (pv 2) (jT bO (pv 1) (az)) set_list))
   (aA (aO (cQ (aa (bG) (aa (gF fZ hr T.mq (aa (aH (pv 0) rfl) (aa (pv 5) au))) (aa (cY au) au))))))))))),?_⟩
  obtain⟨z0,z1,rfl,q⟩:=h;exact Ze4 tx rfl q
theorem Zg8{fd:FuncData}{eV zW dO:FuncData}(F:jA K "do_get" "do_get" PJ jz fd)(fZ:Hh P w K mg base 2 eX eV lq (cJ XQ))(nQ:Hh P w K mg base 3 iV zW vD (nO XQ aK aV))(eF:Hh P w K mg base 1 eE dO jU (cg XQ)):lg P w K mg base 4 jz fd Qf (cz XQ (Am bR aK aV bw) Vf):=by
 have sc:=Zfw;have tx:=oN _ T;walk_at "okX"
 ·refine⟨J7 K (cJ XQ) (nO XQ aK aV) (cg XQ) E,(ao (fW 2 sc.nd (jT bO (pv 1) (az)))
   (ao (fW 3 sc.nd (jT bO (pv 1) (az)))
   (ao (fW 4 sc.nd (jT bO (pv 1) (az)))
   (ao (fW 5 sc.nd (jT dU (vA nQ.g (hr.mono (by decide)) rfl T.Cy nQ.k nQ.b .nil G.HN (aa (pv 0) (aa (pv 2) (aa (pv 3) (aa (pv 4) au))))) (pv 4)))
   (ao (zH (pv 5) (zJ (gF eF hr T.jV (aa (pv 0) (aa (pv 2) au))) (jT bO (pv 1) (az)) set_list))
   (aA (aO (cQ (aa (bG) (aa (gF fZ hr T.mq (aa (aH (pv 0) rfl) (aa (pv 5) au))) (aa (cY au) au))))))))))),?_⟩
  obtain⟨z0,z1,rfl,q⟩:=h;exact Zhh tx rfl rfl q
theorem Zg7{fd:FuncData}{eV zW kW dO uP Q7:FuncData}(F:jA K "do_put" "do_put" PB jw fd)(fZ:Hh P w K mg base 2 eX eV lq (cJ XQ))(nQ:Hh P w K mg base 3 iV zW vD (nO XQ aK aV))(mJ:Hh P w K mg base 3 gJ kW pH (fJ XQ))(eF:Hh P w K mg base 1 eE dO jU (cg XQ))(xR:Hh P w K mg base 2 fQ uP rQ (pM XQ))(T9:Hh P w K mg base 1 gq Q7 w6 (z6 XQ)):lg P w K mg base 4 jw fd Qe (cz XQ (Am bR aK aV bw) Ve):=by
 have sc:=Zfv;have tx:=oN _ T;walk_at "okX"
 ·refine⟨J4 K (cJ XQ) (nO XQ aK aV) (fJ XQ) (cg XQ) (pM XQ) (z6 XQ) E,(ao (fW 2 sc.nd (jT bO (pv 1) (az)))
   (ao (fW 3 sc.nd (jT bO (pv 1) (az)))
   (ao (fW 4 sc.nd (vA nQ.g (hr.mono (by decide)) rfl T.Cy nQ.k nQ.b .nil G.HN (aa (pv 0) (aa (pv 2) (aa (jT bO (pv 1) (az)) (aa (pv 3) au))))))
   (ao (fW 5 sc.nd (jT dU (pv 4) (pv 3)))
   (ao (fW 6 sc.nd (jT dU (gF eF hr T.jV (aa (pv 0) (aa (pv 2) au))) (jT bO (pv 1) (az))))
   (ao (zH (pv 6) (zJ (pv 4) (pv 3) set_list))
   (ao (fW 7 sc.nd (gF mJ hr T.rJ (aa (pv 0) (aa (bz pJ (gF T9 hr T.Ei (aa (pv 0) (aa (pv 5) au))) (gF xR hr T.xr (aa (pv 0) (aa (pv 2) (aa (pv 6) au))))) au))))
   (aA (aO (cQ (aa (bG) (aa (gF fZ hr T.mq (aa (aH (pv 0) rfl) (aa (pv 5) au))) (aa (pv 7) au))))))))))))),?_⟩
  obtain⟨z0,z1,rfl,q⟩:=h;exact Zhg tx rfl rfl q
theorem Zd0{fd:FuncData}{eV dO:FuncData}(F:jA K "do_copy" "do_copy" J1 gW fd)(fZ:Hh P w K mg base 2 eX eV lq (cJ XQ))(eF:Hh P w K mg base 1 eE dO jU (cg XQ)):lg P w K mg base 3 gW fd Kr (cz XQ (Am bR aK aV bw) Lh):=by
 have sc:=Zc3;have tx:=oN _ T;walk_at "ok"
 ·refine⟨Fy K (cJ XQ) (cg XQ),(ao (fW 2 sc.nd (gF eF hr T.jV (aa (pv 0) (aa (jT bO (pv 1) (az)) au))))
   (ao (fW 3 sc.nd (jT dU (pv 2) (jT bO (pv 1) (az))))
   (ao (zH (pv 3) (zJ (pv 2) (jT bO (pv 1) (az)) set_list))
   (aA (aO (cQ (aa (bG) (aa (gF fZ hr T.mq (aa (aH (pv 0) rfl) (aa (pv 3) au))) (aa (cY au) au))))))))),?_⟩
  obtain⟨z0,z1,rfl,q⟩:=h;exact Ze7 tx q
theorem Zcz{fd:FuncData}{eV dO:FuncData}(F:jA K "do_drop" "do_drop" J0 gU fd)(fZ:Hh P w K mg base 2 eX eV lq (cJ XQ))(eF:Hh P w K mg base 1 eE dO jU (cg XQ)):lg P w K mg base 3 gU fd Kq (cz XQ (Am bR aK aV bw) Lg):=by
 have sc:=Zc2;have tx:=oN _ T;walk_at "ok"
 ·refine⟨Fx K (cJ XQ) (cg XQ),(ao (fW 2 sc.nd (gF eF hr T.jV (aa (pv 0) (aa (jT bO (pv 1) (az)) au))))
   (ao (fW 3 sc.nd (jT dU (pv 2) (jT bO (pv 1) (az))))
   (ao (zH (eU) (zJ (pv 2) (jT bO (pv 1) (az)) set_list))
   (aA (aO (cQ (aa (bG) (aa (gF fZ hr T.mq (aa (aH (pv 0) rfl) (aa (pv 3) au))) (aa (cY au) au))))))))),?_⟩
  obtain⟨z0,z1,rfl,q⟩:=h;exact Ze6 tx q
theorem Zcy{fd:FuncData}{eV kW dO uP:FuncData}(F:jA K "do_give" "do_give" JZ gR fd)(fZ:Hh P w K mg base 2 eX eV lq (cJ XQ))(mJ:Hh P w K mg base 3 gJ kW pH (fJ XQ))(eF:Hh P w K mg base 1 eE dO jU (cg XQ))(xR:Hh P w K mg base 2 fQ uP rQ (pM XQ)):lg P w K mg base 4 gR fd Ko (cz XQ (Am bR aK aV bw) Lf):=by
 have sc:=Zc1;have tx:=oN _ T;walk_at "ok"
 ·refine⟨Fw K (cJ XQ) (fJ XQ) (cg XQ) (pM XQ),(ao (fW 2 sc.nd (jT bO (pv 1) (az)))
   (ao (fW 3 sc.nd (jT bO (pv 1) (az)))
   (ao (fW 4 sc.nd (jT dU (gF eF hr T.jV (aa (pv 0) (aa (pv 2) au))) (jT bO (pv 1) (az))))
   (ao (zH (pv 4) (zJ (gF eF hr T.jV (aa (pv 0) (aa (pv 3) au))) (jT bO (pv 1) (az)) set_list))
   (ao (fW 5 sc.nd (gF mJ hr T.rJ (aa (pv 0) (aa (gF xR hr T.xr (aa (pv 0) (aa (pv 2) (aa (pv 4) au)))) au))))
   (aA (aO (cQ (aa (bG) (aa (gF fZ hr T.mq (aa (aH (pv 0) rfl) (aa (pv 4) au))) (aa (pv 5) au))))))))))),?_⟩
  obtain⟨z0,z1,rfl,q⟩:=h;exact Ze5 tx q
theorem ZM{fd:FuncData}(F:jA K "do_write" "do_write" Fe fH fd){pK:FuncData}(iD:Hh P w K mg base 2 jO pK uv (jP XQ aK)):lg P w K mg base 3 fH fd FT (cz XQ (Am bR aK aV bw) Dq):=by
 have sc:=Zk;have tx:=oN _ T;walk_at "okX"
 ·refine⟨BJ K (jP XQ aK) E,(ao (fW 2 sc.nd (vA iD.g (hr.mono (by decide)) rfl T.yj iD.k iD.b .nil G.HN (aa (pv 0) (aa (jT bO (pv 1) (az)) (aa (jT bO (pv 1) (az)) au)))))
   (ao (fW 3 sc.nd (aH (pv 2) rfl))
   (ao (cC (pv 2) (jT bO (pv 1) (az)) rfl)
   (aA (aO (cQ (aa (bG) (aa (pv 3) (aa (cY au) au))))))))),?_⟩
  obtain⟨z0,z1,rfl,q⟩:=h;exact Zak tx rfl q
theorem Zcv{fd:FuncData}(F:jA K "do_read" "do_read" JV gO fd){pK:FuncData}(iD:Hh P w K mg base 2 jO pK uv (jP XQ aK)):lg P w K mg base 3 gO fd Kh (cz XQ (Am bR aK aV bw) Ld):=by
 have sc:=Zby;have tx:=oN _ T;walk_at "okX"
 ·refine⟨Fq K (jP XQ aK) E,(ao (fW 2 sc.nd (vA iD.g (hr.mono (by decide)) rfl T.yj iD.k iD.b .nil G.HN (aa (pv 0) (aa (jT bO (pv 1) (az)) (aa (jT bO (pv 1) (az)) au)))))
   (aA (aO (cQ (aa (bG) (aa (aH (pv 2) rfl) (aa (cY au) au))))))),?_⟩
  obtain⟨z0,z1,rfl,q⟩:=h;exact Ze2 tx rfl q
theorem Zcw{fd:FuncData}{pK dO:FuncData}(F:jA K "do_name" "do_name" JW gP fd)(iD:Hh P w K mg base 2 jO pK uv (jP XQ aK))(eF:Hh P w K mg base 1 eE dO jU (cg XQ)):lg P w K mg base 3 gP fd Kl (cz XQ (Am bR aK aV bw) isName):=by
 have sc:=Zbz;have tx:=oN _ T;walk_at "okX"
 ·refine⟨Ft K (jP XQ aK) (cg XQ) E,(ao (fW 2 sc.nd (jT bO (pv 1) (az)))
   (ao (fW 3 sc.nd (jT bO (pv 1) (az)))
   (ao (fW 4 sc.nd (aH (vA iD.g (hr.mono (by decide)) rfl T.yj iD.k iD.b .nil G.HN (aa (pv 0) (aa (pv 2) (aa (pv 3) au)))) rfl))
   (ao (Dm (uO hr) (aH (pv 0) rfl) (jT bO (pv 1) (az)) (cQ (aa (jT dU (gF eF hr T.jV (aa (pv 0) (aa (pv 2) au))) (pv 3)) (aa (pv 4) au))) rfl)
   (aA (aO (cQ (aa (bG) (aa (pv 4) (aa (cY au) au)))))))))),?_⟩
  obtain⟨z0,z1,rfl,q⟩:=h;exact Ze3 tx rfl q
theorem Zcu{fd:FuncData}{eV kW Q8 dO:FuncData}(F:jA K "do_seek" "do_seek" JT gM fd)(fZ:Hh P w K mg base 2 eX eV lq (cJ XQ))(mJ:Hh P w K mg base 3 gJ kW pH (fJ XQ))(xT:Hh P w K mg base 3 gA Q8 xg (su XQ bw))(eF:Hh P w K mg base 1 eE dO jU (cg XQ)):lg P w K mg base 4 gM fd Kg (cz XQ (Am bR aK aV bw) Lb):=by
 have sc:=Zbx;have tx:=oN _ T;walk_at "okX"
 ·refine⟨Fp K (cJ XQ) (fJ XQ) (su XQ bw) (cg XQ) E,(ao (fW 2 sc.nd (vA xT.g (hr.mono (by decide)) rfl T.Ej xT.k xT.b .nil G.HN (aa (pv 0) (aa (jT bO (pv 1) (az)) au))))
   (ao (zH (pv 2) (zJ (gF eF hr T.jV (aa (pv 0) (aa (jT bO (pv 1) (az)) au))) (jT bO (pv 1) (az)) set_list))
   (ao (fW 3 sc.nd (gF mJ hr T.rJ (aa (pv 0) (aa (cY (aa (pv 2) au)) au))))
   (aA (aO (cQ (aa (bG) (aa (gF fZ hr T.mq (aa (aH (pv 0) rfl) (aa (pv 2) au))) (aa (pv 3) au))))))))),?_⟩
  obtain⟨z0,z1,rfl,q⟩:=h;exact Ze1 tx rfl q
theorem Ql{fd:FuncData}(F:jA K "place_named" "place_named" wG gA fd){X4:FuncData}(Zeh:Hh P w K mg base 2 uR X4 W5 (Gs XQ)):lg P w K mg base 3 gA fd xg (su XQ bw):=by
 have sc:=Pn;have tx:=oN _ T;walk_at "okX"
 ·refine⟨uG K bw (Gs XQ) E,(ao (cX (W0 (Kc (uO hr) (pv 1) (aH (pv 0) rfl))) (aA (G.HF rfl rfl T.Za2 T.GJ (aa (bG) au) (λ_ _ _ _ _ _ _ I hx hE=>G.WY I hx hE))) bH)
   (ao (fW 2 sc.nd (jT bO (pdg hr (aH (pv 0) rfl) (pv 1)) (az)))
   (ao (fW 3 sc.nd (jT bO (pdg hr (aH (pv 0) rfl) (pv 1)) (az)))
   (ao (cX (oK (gF Zeh hr T.Zdc (aa (pv 0) (aa (pv 2) (aa (pv 3) au))))) (aA (aO (eU))) bH)
   (aA (aO (pv 2))))))),?_⟩
  obtain⟨z0,z1,rfl,q⟩:=h;exact Qc tx q
theorem Zti{fd:FuncData}{Zdx Zdw Zhd Zdv Zdu Zdt Zhc Zds Zdr Zae:FuncData}(F:jA K "do" "do" Zqh TF fd)(Mj:Hh P w K mg base 3 gW Zdx Kr (cz XQ (Am bR aK aV bw) Lh))(Mi:Hh P w K mg base 3 gU Zdw Kq (cz XQ (Am bR aK aV bw) Lg))(Rr:Hh P w K mg base 4 jz Zhd Qf (cz XQ (Am bR aK aV bw) Vf))(Mh:Hh P w K mg base 4 gR Zdv Ko (cz XQ (Am bR aK aV bw) Lf))(Mg:Hh P w K mg base 4 gQ Zdu Km (cz XQ (Am bR aK aV bw) Le))(Mf:Hh P w K mg base 3 gP Zdt Kl (cz XQ (Am bR aK aV bw) isName))(Rq:Hh P w K mg base 4 jw Zhc Qe (cz XQ (Am bR aK aV bw) Ve))(Ma:Hh P w K mg base 3 gO Zds Kh (cz XQ (Am bR aK aV bw) Ld))(LR:Hh P w K mg base 4 gM Zdr Kg (cz XQ (Am bR aK aV bw) Lb))(Gw:Hh P w K mg base 3 fH Zae FT (cz XQ (Am bR aK aV bw) Dq)):lg P w K mg base 5 TF fd Zqo (cz XQ (Am bR aK aV bw) (λ_=>True)):=by
 have sc:=Zt9;have tx:=oN _ T;walk_at "okX"
 ·refine⟨Zij K gW gU jz gR gQ gP jw gO gM fH (cz XQ (Am bR aK aV bw) Lh) (cz XQ (Am bR aK aV bw) Lg) (cz XQ (Am bR aK aV bw) Vf) (cz XQ (Am bR aK aV bw) Lf) (cz XQ (Am bR aK aV bw) Le) (cz XQ (Am bR aK aV bw) isName) (cz XQ (Am bR aK aV bw) Ve) (cz XQ (Am bR aK aV bw) Ld) (cz XQ (Am bR aK aV bw) Lb) (cz XQ (Am bR aK aV bw) Dq) E,(ao (fW 2 sc.nd (G.Zj0 T.UG rfl (jT bO (pv 1) (az)) (λ_ _=>rfl)))
   (aA (aO (G.Zy (k:=4) (G.Rz.cons (by decide) Mg.g Mg.b Mg.k (G.Rz.cons (by decide) Rr.g Rr.b Rr.k (G.Rz.cons (by decide) Rq.g Rq.b Rq.k (G.Rz.cons (by decide) Mj.g Mj.b Mj.k (G.Rz.cons (by decide) Mi.g Mi.b Mi.k (G.Rz.cons (by decide) Mh.g Mh.b Mh.k (G.Rz.cons (by decide) Gw.g Gw.b Gw.k (G.Rz.cons (by decide) Ma.g Ma.b Ma.k (G.Rz.cons (by decide) Mf.g Mf.b Mf.k (G.Rz.cons (by decide) LR.g LR.b LR.k G.Rz.nil)))))))))) (hr.mono (by decide)) rfl (Or.inl rfl) G.HN (aa (pv 0) (aa (pv 1) au)))))),?_⟩
  obtain⟨z0,z1,rfl,q⟩:=h;exact Zum tx q
theorem Xm{fd:FuncData}(F:jA K "_law_cell" "_law_cell" Bs gj fd):lg P w K mg base 1 gj fd pQ (qK K):=by
 have sc:=Wv;walk_at "ok"
 ·refine⟨zy K,(ao (cX (oJ Eh (pv 1) (gb G.eG (by rfl) T.m5 G.boot_len (aa (pv 0) au))) (aA (aO (jT dU (pv 0) (pv 1)))) bH)
   (aA (aO (az)))),?_⟩
  obtain⟨z0,z1,rfl,q⟩:=h;exact Yy q
theorem Xk{fd:FuncData}(F:jA K "_law_draw" "_law_draw" Bq d9 fd):lg P w K mg base 1 d9 fd kO (jt):=by
 have sc:=Wr;walk_at "ok"
 ·refine⟨zq,(aA (aO (bz jq (bz jq (bz Ks (bz jq (pv 0) (pv 1)) (az)) (pv 1)) (pv 2)))),?_⟩;obtain⟨z0,z1,z2,rfl,q⟩:=h;exact Yw q
theorem Xc{fd:FuncData}(F:jA K "_law_word" "_law_word" Bg ir fd):lg P w K mg base 1 ir fd sI (qJ):=by
 have sc:=Wh;walk_at "ok"
 ·refine⟨yW,(ao (fW 2 sc.nd (bG))
   (ao (fW 3 sc.nd (bz lA (az) (bz jq (pv 0) (az))))
   (ao (fW 4 sc.nd (bz jq (bz vI (pv 0) (az)) (pv 3)))
   (ao (fW 5 sc.nd (jT Zkj (pv 2) (bz jq (bz vI (pv 0) (az)) (az))))
   (ao (fW 6 sc.nd (jT Zkj (pv 2) (bz jq (bz lA (bz vI (pv 0) (az)) (bz Ks (az) (pv 1))) (az))))
   (aA (aO (bz Qi (bz Qi (bz G.Zet (pv 5) (pv 4)) (pv 6)) (bz G.Zet (pv 5) (bz Cm (bz Cm (pv 3) (az)) (pv 4))))))))))),?_⟩
  obtain⟨z0,z1,rfl,q⟩:=h;exact Yo q
theorem SM{fd:FuncData}{mC fu qH:FuncData}(F:jA K "_law_hands" "_law_hands" yL iQ fd)(jM:Hh P w K mg base 1 gj mC pQ (qK K))(bZ:Hh P w K mg base 1 d9 fu kO (jt))(sX:Hh P w K mg base 1 ir qH sI (qJ)):lg P w K mg base 2 iQ fd zN (Ox K):=by
 have sc:=R6;walk_at "ok"
 ·refine⟨wV K (qK K) (jt) (qJ),(ao (fW 1 sc.nd (gF jM hr T.lW (aa (pv 0) (aa (az) au))))
   (ao (fW 2 sc.nd (cY au))
   (ao (mj PassesOwn.never rfl (pO rfl T.pX (aa (bz lA (az) (gF bZ hr T.cU (aa (pv 1) (aa (az) (aa (az) au))))) au)) (fK (i:=3) sc.nd rfl (Or.inl rfl))
   (ao (fW 4 sc.nd (az))
   (ao (cX (oJ ju (bz jq (pv 1) (az)) (az)) (aA (fW 4 sc.nd (bz lA (az) (gF bZ hr T.cU (aa (bz lA (pv 1) (bz Ks (bz Ks (az) (pv 3)) (pv 3))) (aa (az) (aa (az) au))))))) bH)
   (aA (qm (Ef PySem.F.plainAttrs_list PySem.F.slot_list_append PySem.F.type_list_append rH (pv 2) (aa (cQ (aa (gF sX hr T.vP (aa (pv 1) (aa (pv 3) au))) (aa (pv 4) au))) au)))))))
   (aA (aO (pv 2)))))),?_⟩
  obtain⟨z0,rfl,q⟩:=h;exact TX q
theorem Xf{fd:FuncData}{mC fu:FuncData}(F:jA K "_law_room" "_law_room" Bk jE fd)(jM:Hh P w K mg base 1 gj mC pQ (qK K))(bZ:Hh P w K mg base 1 d9 fu kO (jt)):lg P w K mg base 2 jE fd BW (YC K):=by
 have sc:=Wk;walk_at "ok"
 ·refine⟨za (qK K) (jt),(ao (fW 1 sc.nd (gF jM hr T.lW (aa (pv 0) (aa (az) au))))
   (ao (cX (oJ ju (gF bZ hr T.cU (aa (pv 1) (aa (az) (aa (az) au)))) (az)) (aA (aO (bz lA (az) (bz jq (bz vI (pv 1) (az)) (az))))) bH)
   (aA (aO (bz Cm (bz W6 (az) (az)) (bz jq (pv 1) (bz W6 (az) (az)))))))),?_⟩
  obtain⟨z0,rfl,q⟩:=h;exact Yr q
theorem Xi{fd:FuncData}(F:jA K "_law_kind" "_law_kind" Bo jH fd){Lp:FuncData}(kj:Hh P w K mg base 1 dB Lp tQ (sU XQ.K)):lg P w K mg base 3 jH fd Ca (Ow XQ):=by
 have sc:=Wo;walk_at "ok"
 ·refine⟨zm XQ.E XQ.F XQ.K (sU XQ.K),(ao (cX (oJ ju (bz jq (pv 0) (az)) (az)) (aA (aO (zK T.Dn kj.g (hr.mono (by decide)) rfl T.Xx kj.b .nil G.iB (aa (G.Ka T.KQ rfl T.Xy) (aa (az) au))))) bH)
   (ao (cX (oJ ju (bz jq (pv 0) (az)) (az)) (aA (aO (zK T.Dn kj.g (hr.mono (by decide)) rfl T.Xx kj.b .nil G.iB (aa (G.Ka T.KQ rfl T.Xy) (aa (az) au))))) bH)
   (aA (aO (zK T.Dn kj.g (hr.mono (by decide)) rfl T.Xx kj.b .nil G.iB (aa (G.Ka T.Z5 rfl T.Zk6) (aa (az) au))))))),?_⟩
  obtain⟨z0,rfl,q⟩:=h;exact Yu q
theorem Xg{fd:FuncData}(F:jA K "_law_made" "_law_made" Bl jF fd){fu:FuncData}(bZ:Hh P w K mg base 1 d9 fu kO (jt)):lg P w K mg base 2 jF fd BX (Ou):=by
 have sc:=Wl;walk_at "okw"
 ·refine⟨zb K (jt),(Zn2 (i:=3) sc.nd rfl (Or.inl rfl) (ye (az) (ye (az) (ye (az) (ye (az) (ye (az) (ye (az) Znh)))))) (gF bZ hr T.cU (aa (pv 0) (aa (az) (aa (az) au)))) (λ_ _=>rfl)
   (P0 (fW 4 sc.nd (az))
   (P0 (cX (oJ ju (bz jq (pv 0) (az)) (az)) (aA (fW 4 sc.nd (bz jq (pv 0) (az)))) bH)
   (P0 (cX (oJ ju (bz jq (pv 0) (az)) (az)) (aA (fW 4 sc.nd (bz jq (pv 0) (bz lA (bz W6 (az) (az)) (az))))) bH)
   (Zn1 (aO (cQ (aa (bG) (aa (pv 1) (aa (pv 2) (aa (pv 3) (aa (pv 4) au)))))))))))),?_⟩
  obtain⟨z0,z1,z2,rfl,q⟩:=h;exact Ys q
theorem Xh{fd:FuncData}(F:jA K "_law_load" "_law_load" Bm jG fd):lg P w K mg base 1 jG fd BZ (Ov):=by
 have sc:=Wn;walk_at "ok"
 ·refine⟨zj,(ao (fW 1 sc.nd (bz jq (pv 0) (bz W6 (az) (az))))
   (ao (cX (oJ ju (bz jq (bz vI (pv 0) (az)) (az)) (az)) (aA (aO (Zte Zpz (pv 1)))) bH)
   (aA (aO (pv 1))))),?_⟩
  obtain⟨z0,rfl,q⟩:=h;exact Yt q
theorem Xl{fd:FuncData}{fu X8 X7 qH:FuncData}(F:jA K "_law_deed" "_law_deed" Br jK fd)(bZ:Hh P w K mg base 1 d9 fu kO (jt))(Zb3:Hh P w K mg base 1 jG X8 BZ (Ov))(Zb2:Hh P w K mg base 2 jF X7 BX (Ou))(sX:Hh P w K mg base 1 ir qH sI (qJ)):lg P w K mg base 3 jK fd Cg (O1 K):=by
 have sc:=Ws;walk_at "ok"
 ·refine⟨zx K (jt) (Ov) (Ou) (qJ),(ao (fW 3 sc.nd (gF bZ hr T.cU (aa (pv 0) (aa (az) (aa (gb G.eG (by rfl) T.m5 G.boot_len (aa (pv 1) au)) au)))))
   (ao (fW 4 sc.nd (gF bZ hr T.cU (aa (pv 0) (aa (az) (aa (jT bO (jT dU (pv 1) (pv 3)) (az)) au)))))
   (ao (fW 5 sc.nd (gF bZ hr T.cU (aa (pv 0) (aa (az) (aa (jT bO (jT dU (pv 1) (pv 3)) (az)) au)))))
   (ao (fW 6 sc.nd (gF bZ hr T.cU (aa (pv 0) (aa (az) (aa (jT dU (cY (aa (az) (aa (az) au))) (bz vI (bz jq (pv 0) (az)) (az))) au)))))
   (ao (fW 7 sc.nd (gF bZ hr T.cU (aa (pv 0) (aa (az) (aa (az) au)))))
   (ao (cX (oJ Eh (pv 7) (az)) (aA (aO (gF Zb2 hr T.MF (aa (pv 0) (aa (pv 3) (aa (pv 4) au)))))) bH)
   (ao (cX (oJ Eh (pv 7) (az)) (aA (aO (cQ (aa (bG) (aa (pv 3) (aa (pv 4) (aa (pv 5) (aa (pv 6) au)))))))) bH)
   (ao (cX (oJ Eh (pv 7) (az)) (aA (aO (cQ (aa (bG) (aa (pv 3) (aa (pv 5) (aa (pv 6) (aa (pv 4) au)))))))) bH)
   (ao (cX (oJ ju (pv 7) (az)) (aA (aO (cQ (aa (bG) (aa (pv 3) (aa (pv 4) (aa (pv 5) au))))))) bH)
   (ao (cX (oJ ju (pv 7) (az)) (aA (aO (cQ (aa (bG) (aa (pv 3) (aa (pv 4) au)))))) bH)
   (ao (cX (oJ Eh (pv 7) (az)) (ao (fW 8 sc.nd (gF bZ hr T.cU (aa (pv 0) (aa (az) (aa (gb G.eG (by rfl) T.m5 G.boot_len (aa (pv 1) au)) au)))))
   (aA (aO (cQ (aa (bG) (aa (pv 3) (aa (pv 4) (aa (pv 8) (aa (gF bZ hr T.cU (aa (pv 0) (aa (az) (aa (jT bO (jT dU (pv 1) (pv 8)) (az)) au)))) au))))))))) bH)
   (ao (cX (oJ ju (pv 7) (az)) (aA (aO (cQ (aa (bG) (aa (pv 3) (aa (pv 5) (aa (gF Zb3 hr T.MJ (aa (pv 0) au)) au))))))) bH)
   (ao (fW 9 sc.nd (gF sX hr T.vP (aa (pv 2) (aa (gF bZ hr T.cU (aa (pv 0) (aa (az) (aa (az) au)))) au))))
   (ao (cX (oJ Eh (pv 7) (az)) (aA (aO (cQ (aa (bG) (aa (pv 3) (aa (pv 5) (aa (pv 9) au))))))) bH)
   (aA (aO (cQ (aa (bG) (aa (pv 3) (aa (pv 4) (aa (pv 9) au))))))))))))))))))))),?_⟩
  obtain⟨z0,z1,z2,rfl,q⟩:=h;exact Yx q
theorem SN{fd:FuncData}{Yd fu:FuncData}(F:jA K "_law_deeds" "_law_deeds" yM iR fd)(Zb6:Hh P w K mg base 3 jK Yd Cg (O1 K))(bZ:Hh P w K mg base 1 d9 fu kO (jt)):lg P w K mg base 4 iR fd zO (De K):=by
 have sc:=R7;walk_at "ok"
 ·refine⟨wW K (O1 K) (jt),(ao (fW 3 sc.nd (gF Zb6 hr T.MP (aa (pv 0) (aa (pv 1) (aa (pv 2) au)))))
   (ao (cX (PW.pt (zG (oJ ju (jT bO (pv 3) (az)) (bG)) (zF (oJ ju (bz jq (bz vI (pv 0) (az)) (az)) (az))))) (aA (aO (cY (aa (pv 3) (aa (cQ (aa (bG) (aa (jT bO (pv 3) (az)) (aa (jT bO (pv 3) (az)) au)))) au))))) bH)
   (ao (cX (PW.pt (zG (oJ ju (jT bO (pv 3) (az)) (bG)) (zF (oJ ju (bz jq (bz vI (pv 0) (az)) (az)) (az))))) (aA (aO (cY (aa (pv 3) (aa (cQ (aa (bG) (aa (jT bO (pv 3) (az)) (aa (jT bO (pv 3) (az)) (aa (jT bO (pv 3) (az)) (aa (gF bZ hr T.cU (aa (pv 0) (aa (az) (aa (az) au)))) au)))))) au))))) bH)
   (aA (aO (cY (aa (pv 3) au))))))),?_⟩
  obtain⟨z0,z1,z2,rfl,q⟩:=h;exact TY q
theorem Sy{fd:FuncData}{fu qH:FuncData}(F:jA K "_law_start" "_law_start" yJ iK fd)(bZ:Hh P w K mg base 1 d9 fu kO (jt))(sX:Hh P w K mg base 1 ir qH sI (qJ)):lg P w K mg base 2 iK fd zL (Jq K):=by
 have sc:=R4;walk_at "ok"
 ·refine⟨wR K (jt) (qJ),(ao (fW 3 sc.nd (cY au))
   (ao (mj PassesOwn.never rfl (pO rfl T.pX (aa (gb G.eG (by rfl) T.m5 G.boot_len (aa (pv 0) au)) au)) (fK (i:=4) sc.nd rfl (Or.inl rfl))
   (ao (fW 3 sc.nd (bz pJ (pv 3) (cY (aa (cQ (aa (bG) (aa (pv 4) (aa (az) (aa (az) (aa (az) au)))))) (aa (cQ (aa (bG) (aa (pv 4) (aa (az) (aa (az) (aa (az) au)))))) au)))))
   (aA (fW 3 sc.nd (bz pJ (pv 3) (cY (aa (cQ (aa (bG) (aa (pv 4) (aa (az) (aa (bz jq (pv 4) (az)) (aa (az) au)))))) (aa (cQ (aa (bG) (aa (pv 4) (aa (az) au)))) au))))))))
   (ao (fW 5 sc.nd (gF bZ hr T.cU (aa (pv 1) (aa (az) (aa (az) au)))))
   (ao (cX (oJ Zev (pv 5) (az)) (aA (fW 3 sc.nd (bz pJ (pv 3) (G.HH (cns:=[]) [] (pO rfl T.pX (aa (gb G.eG (by rfl) T.m5 G.boot_len (aa (pv 0) au)) au)) (λ_ _ _ _ _=>G.FQ) (λ_ _ _ _ _=>(cQ (aa (bG) (aa (pv 0) (aa (az) (aa (az) (aa (az) au))))))) rfl rfl (by repeat (first | exact trivial | refine⟨rfl,?_⟩)) (by repeat (first | exact trivial | refine⟨rfl,?_⟩)) rfl (by decide +kernel) rfl (by decide +kernel) (by decide +kernel) rfl (by decide +kernel))))) bH)
   (ao (fW 3 sc.nd (bz pJ (pv 3) (bz Qg (cY (aa (eU) au)) (bz lA (az) (gF bZ hr T.cU (aa (pv 1) (aa (az) (aa (az) au))))))))
   (ao (mj PassesOwn.never rfl (pO rfl T.pX (aa (gb G.eG (by rfl) T.m5 G.boot_len (aa (pv 0) au)) au)) (fK (i:=4) sc.nd rfl (Or.inl rfl))
   (ao (cX (oJ ju (pv 5) (az)) (aA (fW 3 sc.nd (bz pJ (pv 3) (cY (aa (cQ (aa (bG) (aa (pv 4) (aa (az) (aa (az) (aa (bz jq (pv 4) (az)) au)))))) (aa (cQ (aa (bG) (aa (pv 4) (aa (az) (aa (bz jq (pv 4) (az)) (aa (az) au)))))) au)))))) bH)
   (ao (cX (oJ Zev (pv 5) (az)) (aA (fW 3 sc.nd (bz pJ (pv 3) (cY (aa (cQ (aa (bG) (aa (pv 4) (aa (az) (aa (az) (aa (az) au)))))) (aa (cQ (aa (bG) (aa (pv 4) (aa (az) (aa (az) (aa (az) au)))))) (aa (cQ (aa (bG) (aa (pv 4) (aa (az) au)))) au))))))) bH)
   (aA (cX (oJ ju (pv 5) (az)) (aA (fW 3 sc.nd (bz pJ (pv 3) (cY (aa (cQ (aa (bG) (aa (pv 4) (aa (az) (aa (gF sX hr T.vP (aa (pv 2) (aa (bz jq (pv 4) (az)) au))) au))))) (aa (cQ (aa (bG) (aa (pv 4) (aa (az) au)))) au)))))) bH)))))
   (aA (aO (pv 3))))))))),?_⟩
  obtain⟨z0,z1,z2,rfl,q⟩:=h;exact TQ q
theorem Xe{fd:FuncData}{mC Tz fu Tu:FuncData}(F:jA K "_law_rows" "_law_rows" Bj jD fd)(jM:Hh P w K mg base 1 gj mC pQ (qK K))(Y0:Hh P w K mg base 4 iR Tz zO (De K))(bZ:Hh P w K mg base 1 d9 fu kO (jt))(YW:Hh P w K mg base 2 iK Tu zL (Jq K)):lg P w K mg base 5 jD fd BV (Oq K):=by
 have sc:=Wj;walk_at "ok"
 ·refine⟨yZ K (qK K) (De K) (jt) (Jq K),(ao (fW 2 sc.nd (cY au))
   (ao (cX (oJ Zev (gF bZ hr T.cU (aa (gF jM hr T.lW (aa (pv 0) (aa (az) au))) (aa (az) (aa (az) au)))) (az)) (aA (fW 2 sc.nd (gF YW hr T.Iv (aa (pv 1) (aa (gF jM hr T.lW (aa (pv 0) (aa (az) au))) (aa (gF jM hr T.lW (aa (pv 0) (aa (az) au))) au)))))) bH)
   (ao (fW 3 sc.nd (gF jM hr T.lW (aa (pv 0) (aa (az) au))))
   (ao (fW 4 sc.nd (az))
   (ao (mj PassesOwn.never rfl (jk (Zj1 Zmg (pv 0) (Zes (az)) (Zes (az)))) (fK (i:=5) sc.nd rfl (Or.inl rfl))
   (ao (fW 6 sc.nd (bz lA (pv 5) (bz Ks (bz Ks (pv 4) (pv 4)) (az))))
   (ao (cX (oJ ju (gF bZ hr T.cU (aa (pv 6) (aa (az) (aa (az) au)))) (az)) (aA (fW 2 sc.nd (bz pJ (pv 2) (bz Qg (cY (aa (eU) au)) (bz lA (az) (gF bZ hr T.cU (aa (pv 6) (aa (az) (aa (az) au))))))))) (aA (fW 2 sc.nd (bz pJ (pv 2) (gF Y0 hr T.IK (aa (pv 6) (aa (pv 1) (aa (pv 3) au))))))))
   (aA (Zql (i:=4) sc.nd rfl (Or.inl rfl) (az) Zri)))))
   (aA (aO (bz pJ (pv 2) (bz Qg (cY (aa (eU) au)) (bz lA (az) (gF bZ hr T.cU (aa (pv 3) (aa (az) (aa (az) au)))))))))))))),?_⟩
  obtain⟨z0,z1,rfl,q⟩:=h;exact Yq q
theorem Xj{fd:FuncData}(F:jA K "_law_hand" "_law_hand" Bp jJ fd){Zuj:FuncData}(Zt0:Hh P w K mg base 5 TF Zuj Zqo (cz XQ (Am bR aK aV bw) (λ_=>True))):lg P w K mg base 6 jJ fd Cd (Oz XQ (Am bR aK aV bw)):=by
 have sc:=Wq;walk_at "ok"
 ·refine⟨zp aK bR aV bw (cz XQ (Am bR aK aV bw) (λ_=>True)),(ao (fW 2 sc.nd (eU))
   (ao (G.Zqk ⟨rfl,rfl⟩ rfl T.MT (λcls h=>by rcases h with rfl | rfl | rfl | rfl<;>first | exact T.j6 | exact T.lG | exact T.nW | exact T.mD) (λEx pn xe hx=>(aA (fW 2 sc.nd (G.Zj7 Zt0.g (hr.mono (by decide)) rfl T.Ztm Zt0.k Zt0.b .nil hx (aa (pv 0) (aa (pv 1) au)))))) (λea pn=>(aA (fW 2 sc.nd (eU)))))
   (aA (aO (pv 2))))),?_⟩
  obtain⟨z0,z1,rfl,q⟩:=h;exact Yv rfl rfl rfl rfl q
theorem Xd{fd:FuncData}(F:jA K "_law_with" "_law_with" Bh iW fd):lg P w K mg base 1 iW fd vG (zZ K):=by
 have sc:=Wi;walk_at "ok"
 ·refine⟨yX K,(ao (fW 3 sc.nd (BP))
   (ao (mj PassesOwn.never rfl (jk (pv 0)) (fK (i:=4) sc.nd rfl (Or.inl rfl))
   (aA (Dm (uO hr) (pv 3) (jT bO (pv 4) (az)) (jT bO (pv 4) (az)) rfl)))
   (ao (mj PassesOwn.never rfl (jk (pv 1)) (fK (i:=5) sc.nd rfl (Or.inl rfl))
   (aA (Dm (uO hr) (pv 3) (pv 5) (pv 2) rfl)))
   (aA (aO (pv 3)))))),?_⟩
  obtain⟨z0,z1,z2,rfl,q⟩:=h;exact Yp q
theorem Qo{fd:FuncData}(F:jA K "_law_fields" "_law_fields" wJ gD fd):lg P w K mg base 1 gD fd xj (Du K):=by
 have sc:=Pu;walk_at "ok"
 ·refine⟨uJ K,(ao (fW 1 sc.nd (BP))
   (ao (mj PassesOwn.never rfl (jk (pv 0)) (fK (i:=2) sc.nd rfl (Or.inl rfl))
   (aA (Dm (uO hr) (pv 1) (jT bO (pv 2) (az)) (jT bO (pv 2) (az)) rfl)))
   (aA (aO (pv 1))))),?_⟩
  obtain⟨z0,rfl,q⟩:=h;exact Ro q
theorem HR{fd:FuncData}(F:jA K "_law_pale_from" "_law_pale_from" qT dZ fd):lg P w K mg base 1 dZ fd rC (OJ K):=by
 have sc:=Ht;walk_at "ok"
 ·refine⟨qd K,(ao (fW 3 sc.nd (BP))
   (ao (fW 4 sc.nd (cY au))
   (ao (mj PassesOwn.never rfl (jk (pv 0)) (fK (i:=5) sc.nd rfl (Or.inl rfl))
   (aA (cX (oJ ju (jT bO (pv 5) (az)) (bG)) (aA (fW 4 sc.nd (bz pJ (pv 4) (jT bO (pv 5) (az))))) bH)))
   (ao (Zv PassesOwn.never (oJ (G.Zjc (uO hr)) (pv 4) (cY au)) (ao (fW 6 sc.nd (Zqn PySem.F.plainAttrs_list PySem.F.slot_list_pop PySem.F.type_list_pop Zr5 (pv 4)))
   (aA (cX (PW.pt (zG (oJ G.sJ (pv 6) (eU)) (zG (oJ ju (pdg hr (pv 1) (pv 6)) (bG)) (zF (W0 (Kc (uO hr) (pv 6) (pv 3))))))) (ao (Dm (uO hr) (pv 3) (pv 6) (Eg) rfl)
   (aA (fW 4 sc.nd (bz pJ (pv 4) (pdg hr (pv 2) (pv 6)))))) bH))))
   (aA (aO (pv 3))))))),?_⟩
  obtain⟨z0,z1,z2,rfl,q⟩:=h;exact Jo q
theorem FZ{fd:FuncData}{Ra Jf zX uQ zV:FuncData}(F:jA K "_law_walk_holds" "_law_walk_holds" p6 dM fd)(Ub:Hh P w K mg base 1 gD Ra xj (Du K))(Ml:Hh P w K mg base 1 dZ Jf rC (OJ K))(Dh:Hh P w K mg base 1 iW zX vG (zZ K))(xU:Hh P w K mg base 4 fU uQ ["world"] (uV XQ))(Dg:Hh P w K mg base 1 iU zV vC (nM XQ)):lg P w K mg base 5 dM fd qp (Oo XQ):=by
 have sc:=Ew;have tx:=oN _ T;walk_at "ok"
 ·refine⟨pD K (Du K) (OJ K) (zZ K) (uV XQ) (nM XQ),(ao (fW 2 sc.nd (gF Dh hr T.Cz (aa (pv 1) (aa (cY au) (aa (bG) au)))))
   (ao (fW 3 sc.nd (gF Ub hr T.El (aa (pv 1) au)))
   (ao (fW 4 sc.nd (gF Ml hr T.yl (aa (pv 1) (aa (pv 2) (aa (pv 3) au)))))
   (ao (Qa (i:=5) sc.nd rfl (Or.inr rfl) (gF xU hr T.xu (aa (pv 0) au)))
   (ao (G.Zis (iz:=6) (cns:=["_law_world","_law_rows_here"]) [0,5] (pO rfl T.pX (aa (gb G.eG (by rfl) T.m5 G.boot_len (aa (pv 5) au)) au)) (λ_ _ _ _ _=>(G.J9 (oK (gF Dg hr T.Cw (aa (pv 1) (aa (pv 0) au)))))) (λ_ _ _ _ _=>(jT dU (pv 2) (pv 0))) rfl rfl (by repeat (first | exact trivial | refine⟨rfl,?_⟩)) (by repeat (first | exact trivial | refine⟨rfl,?_⟩)) rfl (by decide +kernel) rfl (by decide +kernel) (by decide +kernel) rfl (by decide +kernel) sc.nd rfl (Or.inl rfl) (Or.inr rfl) rfl)
   (ao (fW 6 sc.nd (bz pJ (pv 6) (G.HH (cns:=[]) [] (jk (pv 1)) (λ_ _ _ _ _=>(G.J9 (oJ ju (jT bO (pv 0) (az)) (bG)))) (λ_ _ _ _ _=>(jT bO (pv 0) (az))) rfl rfl (by repeat (first | exact trivial | refine⟨rfl,?_⟩)) (by repeat (first | exact trivial | refine⟨rfl,?_⟩)) rfl (by decide +kernel) rfl (by decide +kernel) (by decide +kernel) rfl (by decide +kernel))))
   (ao (mj PassesOwn.never rfl (jk (pv 6)) (fK (i:=7) sc.nd rfl (Or.inl rfl))
   (aA (mj PassesOwn.never rfl (jk (pv 7)) (fK (i:=8) sc.nd rfl (Or.inl rfl))
   (aA (cX (PW.pt (zG (oJ G.sJ (pv 8) (eU)) (zG (oJ ju (pdg hr (pv 2) (pv 8)) (bG)) (zF (W0 (Kc (uO hr) (pv 8) (pv 4))))))) (aA (aO (Eg))) bH)))))
   (aA (aO (Eg)))))))))),?_⟩
  obtain⟨z0,z1,rfl,q⟩:=h;exact Gn tx q
theorem Ga{fd:FuncData}{zX uQ:FuncData}(F:jA K "_law_give_holds" "_law_give_holds" p7 dN fd)(Dh:Hh P w K mg base 1 iW zX vG (zZ K))(xU:Hh P w K mg base 4 fU uQ ["world"] (uV XQ)):lg P w K mg base 5 dN fd qt (OD XQ):=by
 have sc:=Ey;have tx:=oN _ T;walk_at "ok"
 ·refine⟨pG K (zZ K) (uV XQ),(ao (fW 2 sc.nd (gF Dh hr T.Cz (aa (pv 1) (aa (cY au) (aa (bG) au)))))
   (ao (fW 3 sc.nd (gF xU hr T.xu (aa (pv 0) au)))
   (ao (mj PassesOwn.never rfl (jk (pv 1)) (fK (i:=4) sc.nd rfl (Or.inr rfl))
   (aA (cX (oJ ju (jT bO (pv 4) (az)) (bG)) (ao (Qa (i:=5) sc.nd rfl (Or.inr rfl) (aH (jT dU (aH (aH (pv 0) rfl) rfl) (jT bO (pv 4) (az))) rfl))
   (ao (cX (oJ (G.Zjc (uO hr)) (G.HH (cns:=["_law_cell_here","_law_places"]) [4,5] (pO rfl T.pX (aa (gb G.eG (by rfl) T.m5 G.boot_len (aa (pv 5) au)) au)) (λ_ _ _ _ _=>(G.J9 (PW.pt (zG (oJ G.sJ (jT dU (pv 2) (pv 0)) (eU)) (zF (oJ G.vH (jT dU (jT bO (pv 1) (az)) (pv 0)) (eU))))))) (λ_ _ _ _ _=>(pv 0)) rfl rfl (by repeat (first | exact trivial | refine⟨rfl,?_⟩)) (by repeat (first | exact trivial | refine⟨rfl,?_⟩)) rfl (by decide +kernel) rfl (by decide +kernel) (by decide +kernel) rfl (by decide +kernel)) (cY au)) (aA (aO (Eg))) bH)
   (aA (qm (Ef PySem.F.plainAttrs_list PySem.F.slot_list_append PySem.F.type_list_append rH (pv 3) (aa (jT bO (pv 4) (az)) au)))))) bH)))
   (ao (mj PassesOwn.never rfl (jk (pv 3)) (fK (i:=6) sc.nd rfl (Or.inl rfl))
   (aA (mj PassesOwn.never rfl (jk (pv 6)) (fK (i:=7) sc.nd rfl (Or.inl rfl))
   (aA (cX (PW.pt (zG (oJ G.sJ (pv 7) (eU)) (zF (oJ Zeu (pdg hr (pv 2) (pv 7)) (bG))))) (aA (aO (Eg))) bH)))))
   (aA (aO (Eg))))))),?_⟩
  obtain⟨z0,z1,rfl,q⟩:=h;exact Gp tx q
theorem SJ{fd:FuncData}{Gg Gf Tn:FuncData}(F:jA K "_law_holds" "_law_holds" yK iM fd)(Ju:Hh P w K mg base 5 dN Gg qt (OD XQ))(Jt:Hh P w K mg base 5 dM Gf qp (Oo XQ))(YM:Hh P w K mg base 5 iG Tn ["world"] (YB XQ)):lg P w K mg base 6 iM fd zM (Jr XQ):=by
 have sc:=R5;have tx:=oN _ T;walk_at "ok"
 ·refine⟨wU K (OD XQ) (Oo XQ) (YB XQ),(ao (fW 1 sc.nd (gF YM hr T.Im (aa (pv 0) au)))
   (ao (cX (oJ ju (aH (aH (pv 0) rfl) rfl) (bG)) (aA (aO (gF Jt hr T.vQ (aa (pv 0) (aa (pv 1) au))))) bH)
   (aA (aO ((Zj8 (HJ Zeu (aH (aH (pv 0) rfl) rfl) (bG) (Qw _)) (Zj2 (gF Ju hr T.vR (aa (pv 0) (aa (pv 1) au)))))))))),?_⟩
  obtain⟨z0,rfl,q⟩:=h;exact TV tx q
theorem Zqr{fl:Addr}{fd:FuncData}{Jg mC Yc Tw Tv Yb X6 X5 Zoz:FuncData}(F:jA K "law" "law" Pz fl fd)(yp:Hh P w K mg base 3 cZ Jg rD (ur XQ))(jM:Hh P w K mg base 1 gj mC pQ (qK K))(Zb5:Hh P w K mg base 6 jJ Yc Cd (Oz XQ (Am bR aK aV bw)))(YZ:Hh P w K mg base 2 iQ Tw zN (Ox K))(YX:Hh P w K mg base 6 iM Tv zM (Jr XQ))(Zb4:Hh P w K mg base 3 jH Yb Ca (Ow XQ))(Zb1:Hh P w K mg base 2 jE X6 BW (YC K))(Zb0:Hh P w K mg base 5 jD X5 BV (Oq K))(Zsx:Hh P w K mg base 9 xM Zoz ["world"] (bW XQ Zja)):lg P w K mg base 10 fl fd ["_law_script"] (Zff K):=by
 have sc:=Zqe;have tx:=oN _ T;walk_at "ok"
 ·refine⟨Zcf K XQ.W (ur XQ) (qK K) (Oz XQ (Am bR aK aV bw)) (Ox K) (Jr XQ) (Ow XQ) (YC K) (Oq K) (bW XQ Zja),(ao (fW 1 sc.nd (gF YZ hr T.Iz (aa (pv 0) au)))
   (ao (fW 2 sc.nd (zK T.Ig yp.g (hr.mono (by decide)) rfl T.Zey yp.b .nil G.iB (aa (gF Zb1 hr T.Mz (aa (pv 0) au)) (aa (gF Zb4 hr T.MK (aa (gF jM hr T.lW (aa (pv 0) (aa (az) au))) au)) (aa (yd G.Gk (by rfl) T.Aq G.boot_list (aa (pv 1) au)) au)))))
   (ao (mj PassesOwn.never rfl (jk (gF Zb0 hr T.My (aa (pv 0) (aa (pv 1) au)))) (fK (i:=3) sc.nd rfl (Or.inl rfl))
   (ao (cX (oJ G.vH (pv 3) (eU)) (aA (qm (gF Zsx hr T.Zjy (aa (pv 2) au)))) (aA (qm (gF Zb5 hr T.MN (aa (pv 2) (aa (pv 3) au))))))
   (aA (cX (FP (oK (gF YX hr T.Iw (aa (pv 2) au)))) (aA (aO (Eg))) bH))))
   (aA (aO (Eg)))))),?_⟩
  obtain⟨z0,rfl,q⟩:=h;exact Zrb tx q
end
abbrev Fi(K:aC)(c:Addr)(s:Str)(f:Addr):Prop:=W.findIn K (.ref c) s=some (some (.ref f))
abbrev Fo(K:aC)(c:Addr)(s:Str):Prop:=W.findIn K (.ref c) s=some none
abbrev Ns(K:aC)(s:Str)(f:Addr):Prop:=W.nsIn K mainGlobals s=some (some (.ref f))
abbrev Ki(K:aC)(f:Addr):Prop:=W.keepIn K (.ref f)=true
abbrev Ci(K:aC)(c:Value)(s:Str):Prop:=W.codeIn K c s=true
abbrev Lk(K:aC)(f:Addr)(a b:Str)(s:Stmt)(d:Value)(oc:Value)(od:Option Addr)(kV dc pm:Value)(an:Option Addr)(cd ct:Value)(sl:Array (Option Value)):Prop:=K.lookup f=some ⟨oc,od,.func (W.fnOf a b (mX s) (j7 s) (aF s) d kV dc pm an cd ct),sl⟩
def kZ(K:aC)(x q:Str)(s:Stmt)(f:Addr):Prop:=∃oc od kV c b d a ct sl,Lk K f x q s .none oc od kV c b d a ct sl/\Ci K a q/\Ki K f
theorem fgm{K:aC}{x q:Str}{s:Stmt}{f:Addr}{oc:Value}{od:Option Addr}{kV d b:Value}{e:Option Addr}{a ct:Value}{sl:Array (Option Value)}(l:Lk K f x q s .none oc od kV d b e a ct sl)(c:Ci K a q)(k:Ki K f):kZ K x q s f:=⟨oc,od,kV,d,b,e,a,ct,sl,l,c,k⟩
theorem fg{K:aC}{x q:Str}{s:Stmt}{f:Addr}(h:kZ K x q s f):∃fd,jA K x q s f fd/\Ki K f:=by
 obtain⟨oc,od,kV,e,d,a,b,ct,sl,l,c,k⟩:=h;exact⟨_,Zlc l c k,k⟩
theorem Gm{K:aC}{x a:Str}{st:Stmt}{f:Addr}{fd:FuncData}(F:jA K x a st f fd)(a0:Str)(h:∀(kV c g:Value) (e:Option Addr) (b ct d:Value),bindArgs (W.fnOf x a (mX st) (j7 st) (aF st) .none kV c g e b ct) ⟨[d],[]⟩=pure (([a0]:List Str).zip [d]):=by intros;rfl):Binds K fd [a0] []:=F.binds λkV c g e b ct us hl=>match us,hl with | [d],_=>h kV c g e b ct d
theorem Aj{K:aC}{x a:Str}{st:Stmt}{f:Addr}{fd:FuncData}(F:jA K x a st f fd)(a0 j:Str)(h:∀(kV c i:Value) (g:Option Addr) (b ct d e:Value),bindArgs (W.fnOf x a (mX st) (j7 st) (aF st) .none kV c i g b ct) ⟨[d,e],[]⟩=pure (([a0,j]:List Str).zip [d,e]):=by intros;rfl):Binds K fd [a0,j] []:=F.binds λkV c i g b ct us hl=>match us,hl with | [d,e],_=>h kV c i g b ct d e
theorem bd3{K:aC}{x a:Str}{st:Stmt}{f:Addr}{fd:FuncData}(F:jA K x a st f fd)(a0 k l:Str)(h:∀(kV c j:Value) (i:Option Addr) (b ct d e g:Value),bindArgs (W.fnOf x a (mX st) (j7 st) (aF st) .none kV c j i b ct) ⟨[d,e,g],[]⟩=pure (([a0,k,l]:List Str).zip [d,e,g]):=by intros;rfl):Binds K fd [a0,k,l] []:=F.binds λkV c j i b ct us hl=>match us,hl with | [d,e,g],_=>h kV c j i b ct d e g
theorem bd4{K:aC}{x a:Str}{st:Stmt}{f:Addr}{fd:FuncData}(F:jA K x a st f fd)(a0 l n m:Str)(h:∀(kV c k:Value) (j:Option Addr) (b ct d e i g:Value),bindArgs (W.fnOf x a (mX st) (j7 st) (aF st) .none kV c k j b ct) ⟨[d,e,i,g],[]⟩=pure (([a0,l,n,m]:List Str).zip [d,e,i,g]):=by intros;rfl):Binds K fd [a0,l,n,m] []:=F.binds λkV c k j b ct us hl=>match us,hl with | [d,e,i,g],_=>h kV c k j b ct d e i g
theorem bd5{K:aC}{x a:Str}{st:Stmt}{f:Addr}{fd:FuncData}(F:jA K x a st f fd)(a0 m p n o:Str)(h:∀(kV c l:Value) (k:Option Addr) (b ct d e i g j:Value),bindArgs (W.fnOf x a (mX st) (j7 st) (aF st) .none kV c l k b ct) ⟨[d,e,i,g,j],[]⟩=pure (([a0,m,p,n,o]:List Str).zip [d,e,i,g,j]):=by intros;rfl):Binds K fd [a0,m,p,n,o] []:=F.binds λkV c l k b ct us hl=>match us,hl with | [d,e,i,g,j],_=>h kV c l k b ct d e i g j
theorem all_mk{l:W.OpenLaw}{w:World}{K:aC}{h:Heap}{mg:Str->Option Value}{fa fl g d q c k o j r M aK aV bR bw dG fY dJ dD iu jY iZ iY fX iC eX mU oU dF cH cZ xO fU ig iU d8 iI mV iG jC sr xN gJ uR rZ mR gH cP cM xK gB Ep iJ lC gG cN iH Eo bU xM oW cu bV L dH dI dB eE jO iV gq fQ gQ jz jw gW gU gR fH gO gP gM gA TF gj d9 ir iQ jE jH jF jG jK iR iK jD jJ iW gD dZ dM dN iM:Addr}(u:K.In h)(x:h.Ns mainGlobals mg)(hfa:mg "law"=some (.ref fa))
  {od5 an5 to5 Zv2 Zus:Option Addr}
  {sl5 ts5 Zv0:Array (Option Value)}
  {oc5 kV5 dc5 pm5 cd5 ct5 tc5 C B Zv4 Ztq Zuo Ztd D Zup Zpl Zpk:Value}
  {P Rb Rc:Addr}
  {tn5 Zah Zai:Nat}
  {Vj Vi Vh Vg Vt Vs Vr Vq Vp Vo Vn Vm Vl Vk:Int}
  {Um Ul Uk Uj Uy Ux Uw Uv Uu Ut Us Ur Up Uo:Tok}
  (Zsu:Ns K "Cell" g)
  (Zsq:Ns K "Heap" d)
  (Zsr:Ns K "Hand" q)
  (Zhq:Ns K "Sweeper" c)
  (Zpb:Ns K "World" k)
  (Zpc:Ns K "First" o)
  (Zst:Ns K "Each" j)
  (Zsp:Ns K "Kind" r)
  (Zat:Ns K "GreyError" M)
  (Zau:Ns K "EmptySlot" aK)
  (Zhr:Ns K "NoField" aV)
  (Zss:Ns K "Full" bR)
  (Zlz:Ns K "NoName" bw)
  (a1:Fi K g "__init__" dG)
  (i1:W.isFn K (.ref dG)=true)
  (a2:Fi K g "units" fY)
  (i2:W.isFn K (.ref fY)=true)
  (a3:Fi K g "has_field" dJ)
  (i3:W.isFn K (.ref dJ)=true)
  (a4:Fi K d "__init__" dD)
  (i4:W.isFn K (.ref dD)=true)
  (a5:Fi K d "make" iu)
  (i5:W.isFn K (.ref iu)=true)
  (l5:Lk K iu "make" "Heap.make" vp (.ref P) oc5 od5 kV5 dc5 pm5 an5 cd5 ct5 sl5)
  (t5:K.lookup P=some ⟨tc5,to5,.seq #[C,B] tn5,ts5⟩)
  (ZCt:RelV (.int 0) C)
  (ZCs:RelV (.int 0) B)
  (c5:Ci K cd5 "Heap.make")
  (k5:Ki K iu)
  (a6:Fi K d "lay" jY)
  (i6:W.isFn K (.ref jY)=true)
  (a7:Fi K d "back" iZ)
  (i7:W.isFn K (.ref iZ)=true)
  (a8:Fi K d "free" iY)
  (i8:W.isFn K (.ref iY)=true)
  (a9:Fi K d "there" fX)
  (i9:W.isFn K (.ref fX)=true)
  (a10:Ns K "cell_at" iC)
  (a11:Ns K "birth_at" eX)
  (a12:Ns K "reached" mU)
  (a13:Ns K "onward" oU)
  (a14:Fi K q "__init__" dF)
  (i14:W.isFn K (.ref dF)=true)
  (a15:Fi K c "__init__" cH)
  (i15:W.isFn K (.ref cH)=true)
  (a16:Fi K k "__init__" cZ)
  (i16:W.isFn K (.ref cZ)=true)
  (a17:Ns K "held" xO)
  (a18:Ns K "births_held" fU)
  (a19:Ns K "births_at" ig)
  (a20:Ns K "looked_at" iU)
  (a21:Ns K "has_sense" d8)
  (a22:Ns K "is_walking" iI)
  (a23:Ns K "mark_of" mV)
  (a24:Ns K "told_cells" iG)
  (a25:Ns K "told_cell" jC)
  (a26:Ns K "begin" sr)
  (a27:Ns K "note" xN)
  (a28:Ns K "note_all" gJ)
  (a29:Ns K "gone" uR)
  (a30:Ns K "roots" rZ)
  (a31:Ns K "root_of" mR)
  (a32:Ns K "note_hands" gH)
  (a33:Ns K "step_at_rest" cP)
  (a34:Ns K "step_in_walk" cM)
  (a35:Ns K "walk" xK)
  (a36:Ns K "look_or_cut" gB)
  (a37:Ns K "cut" Ep)
  (a38:Ns K "first_loss" iJ)
  (a39:Ns K "given_up" lC)
  (a40:Ns K "told_again" gG)
  (a41:Ns K "step_in_give" cN)
  (a42:Ns K "pass_place" iH)
  (a43:Ns K "end" Eo)
  (a44:Ns K "step_when_lost" bU)
  (a45:Ns K "step" xM)
  (a46:Ns K "all_of" oW)
  (a47:Fi K j "at_begin" cu)
  (i47:W.isFn K (.ref cu)=true)
  (a48:Fi K o "next_look" bV)
  (i48:W.isFn K (.ref bV)=true)
  (a49:Fi K j "stays" L)
  (E:W.isFn K (.ref L)=true)
  (a50:Fi K o "at_begin" dH)
  (i50:W.isFn K (.ref dH)=true)
  (a51:Fi K j "next_look" dI)
  (i51:W.isFn K (.ref dI)=true)
  (a52:Fi K r "__init__" dB)
  (i52:W.isFn K (.ref dB)=true)
  (a53:Ns K "slots_of" eE)
  (a54:Ns K "cell_in" jO)
  (a55:Ns K "fields_in" iV)
  (a56:Ns K "told_as_old" gq)
  (a57:Ns K "told_as_new" fQ)
  (a58:Ns K "do_make" gQ)
  (a59:Ns K "do_get" jz)
  (a60:Ns K "do_put" jw)
  (a61:Ns K "do_copy" gW)
  (a62:Ns K "do_drop" gU)
  (a63:Ns K "do_give" gR)
  (a64:Ns K "do_write" fH)
  (a65:Ns K "do_read" gO)
  (a66:Ns K "do_name" gP)
  (a67:Ns K "do_seek" gM)
  (a68:Ns K "place_named" gA)
  (a69:Ns K "do" TF)
  (a70:Ns K "_law_cell" gj)
  (a71:Ns K "_law_draw" d9)
  (a72:Ns K "_law_word" ir)
  (a73:Ns K "_law_hands" iQ)
  (a74:Ns K "_law_room" jE)
  (a75:Ns K "_law_kind" jH)
  (a76:Ns K "_law_made" jF)
  (a77:Ns K "_law_load" jG)
  (a78:Ns K "_law_deed" jK)
  (a79:Ns K "_law_deeds" iR)
  (a80:Ns K "_law_start" iK)
  (a81:Ns K "_law_rows" jD)
  (a82:Ns K "_law_hand" jJ)
  (a83:Ns K "_law_with" iW)
  (a84:Ns K "_law_fields" gD)
  (a85:Ns K "_law_pale_from" dZ)
  (a86:Ns K "_law_walk_holds" dM)
  (a87:Ns K "_law_give_holds" dN)
  (a88:Ns K "_law_holds" iM)
  (a89:Ns K "law" fl)
  (l89:Lk K fl "law" "law" Pz .none Zv4 Zv2 Ztq Zuo Ztd Zus D Zup Zv0)
  (c89:Ci K D "law")
  (k89:Ki K fl)
  (Zjr:Ns K "STEPS" Rb)
  (Zkb:K.lookup Rb=some ⟨.type "dict",none,.dict #[⟨Vj,.str "rest" Um,.ref cP⟩,⟨Vi,.str "walk" Ul,.ref cM⟩,⟨Vh,.str "give" Uk,.ref cN⟩,⟨Vg,.str "lost" Uj,.ref bU⟩] Zah,#[]⟩)
  (Zgw:Vj=hashStr w "rest")
  (Zgv:Vi=hashStr w "walk")
  (Zgu:Vh=hashStr w "give")
  (Zgt:Vg=hashStr w "lost")
  (Zjs:Ns K "DEEDS" Rc)
  (Zkc:K.lookup Rc=some ⟨.type "dict",none,.dict #[⟨Vt,.str "make" Uy,.ref gQ⟩,⟨Vs,.str "get" Ux,.ref jz⟩,⟨Vr,.str "put" Uw,.ref jw⟩,⟨Vq,.str "copy" Uv,.ref gW⟩,⟨Vp,.str "drop" Uu,.ref gU⟩,⟨Vo,.str "give" Ut,.ref gR⟩,⟨Vn,.str "write" Us,.ref fH⟩,⟨Vm,.str "read" Ur,.ref gO⟩,⟨Vl,.str "name" Up,.ref gP⟩,⟨Vk,.str "seek" Uo,.ref gM⟩] Zai,#[]⟩)
  (Zh6:Vt=hashStr w "make")
  (Zh5:Vs=hashStr w "get")
  (Zh4:Vr=hashStr w "put")
  (Zh3:Vq=hashStr w "copy")
  (Zh2:Vp=hashStr w "drop")
  (Zh1:Vo=hashStr w "give")
  (Zh0:Vn=hashStr w "write")
  (Zgz:Vm=hashStr w "read")
  (Zgy:Vl=hashStr w "name")
  (Zgx:Vk=hashStr w "seek")
  (Znd:W.plainGet K g Str.empty=true)
  (Zoq:W.hasDictIn K g=true)
  (Zn7:W.plainOver K g=true)
  (Zmr:W.findIn K (.ref g) "__setattr__"=some (some (.builtin "object.__setattr__")))
  (Oi:W.makesIn K g=true)
  (Zo6:Ki K g)
  (dR:Fo K g "birth")
  (lU:Fo K g "bulk")
  (lR:Fo K g "tone")
  (jB:Fo K g "load")
  (dY:Fo K g "fields")
  (Zlm:W.findIn K (.ref g) "__eq__"=some (some (.builtin "object.__eq__")))
  (Zll:W.mroIn K g (.type "object")=some true)
  (Zna:W.plainGet K d Str.empty=true)
  (Zon:W.hasDictIn K d=true)
  (Zn4:W.plainOver K d=true)
  (Zmo:W.findIn K (.ref d) "__setattr__"=some (some (.builtin "object.__setattr__")))
  (Og:W.makesIn K d=true)
  (Zo3:Ki K d)
  (nF:Fo K d "room")
  (bM:Fo K d "cells")
  (iT:Fo K d "used")
  (lQ:Fo K d "born")
  (Znb:W.plainGet K q Str.empty=true)
  (Zoo:W.hasDictIn K q=true)
  (Zn5:W.plainOver K q=true)
  (Zmp:W.findIn K (.ref q) "__setattr__"=some (some (.builtin "object.__setattr__")))
  (Oh:W.makesIn K q=true)
  (Zo4:Ki K q)
  (vK:Fo K q "name")
  (uf:Fo K q "slots")
  (Zcj:W.plainGet K c Str.empty=true)
  (Zdk:W.hasDictIn K c=true)
  (Zci:W.plainOver K c=true)
  (Zc6:W.findIn K (.ref c) "__setattr__"=some (some (.builtin "object.__setattr__")))
  (zR:W.makesIn K c=true)
  (Zde:Ki K c)
  (o7:Fo K c "sense")
  (o8:Fo K c "phase")
  (qC:Fo K c "grey")
  (nU:Fo K c "looked")
  (qx:Fo K c "turn")
  (ud:Fo K c "at")
  (qy:Fo K c "stop")
  (o5:Fo K c "walks")
  (o9:Fo K c "looks")
  (nT:Fo K c "passes")
  (qz:Fo K c "loss")
  (Zix:W.plainGet K k Str.empty=true)
  (Zl4:W.hasDictIn K k=true)
  (Zit:W.plainOver K k=true)
  (Zif:W.findIn K (.ref k) "__setattr__"=some (some (.builtin "object.__setattr__")))
  (Ig:W.makesIn K k=true)
  (Zkh:Ki K k)
  (uc:Fo K k "heap")
  (t7:Fo K k "kind")
  (rW:Fo K k "hands")
  (rT:Fo K k "names")
  (oZ:Fo K k "sweeper")
  (Ziy:W.plainGet K o Str.empty=true)
  (Zl5:W.hasDictIn K o=true)
  (Ziu:W.plainOver K o=true)
  (Zig:W.findIn K (.ref o) "__setattr__"=some (some (.builtin "object.__setattr__")))
  (Zju:W.makesIn K o=true)
  (Zki:Ki K o)
  (Zjg:W.findIn K (.ref o) "__init__"=some (some (.builtin "object.__init__")))
  (Znc:W.plainGet K j Str.empty=true)
  (Zop:W.hasDictIn K j=true)
  (Zn6:W.plainOver K j=true)
  (Zmq:W.findIn K (.ref j) "__setattr__"=some (some (.builtin "object.__setattr__")))
  (Znx:W.makesIn K j=true)
  (Zo5:Ki K j)
  (Znr:W.findIn K (.ref j) "__init__"=some (some (.builtin "object.__init__")))
  (Zn9:W.plainGet K r Str.empty=true)
  (Zom:W.hasDictIn K r=true)
  (Zn3:W.plainOver K r=true)
  (Zmn:W.findIn K (.ref r) "__setattr__"=some (some (.builtin "object.__setattr__")))
  (Dn:W.makesIn K r=true)
  (Zo2:Ki K r)
  (qD:Fo K r "looking")
  (ue:Fo K r "tells")
  (vg:W.excIn K aK [.type "ValueError",.type "Exception",.type "BaseException",.type "object"] "ValueError.__new__"=true)
  (VF:W.excIn K bR [.type "ValueError",.type "Exception",.type "BaseException",.type "object"] "ValueError.__new__"=true)
  (Dk:W.excIn K aV [.type "ValueError",.type "Exception",.type "BaseException",.type "object"] "ValueError.__new__"=true)
  (GJ:W.excIn K bw [.type "ValueError",.type "Exception",.type "BaseException",.type "object"] "ValueError.__new__"=true)
  (j6:W.exmOne K (.ref aK) (.ref M)=some true)
  (lG:W.exmOne K (.ref aV) (.ref M)=some true)
  (nW:W.exmOne K (.ref bR) (.ref M)=some true)
  (mD:W.exmOne K (.ref bw) (.ref M)=some true)
  (Li:Fi K j "at_begin" cu)
  (S9:Fi K j "stays" L)
  (Gb:Fi K o "next_look" bV)
  (QX:Fi K o "stays" L)
  (pN:W.nsIn K mainGlobals "enumerate"=some none)
  (m5:W.nsIn K mainGlobals "len"=some none)
  (Aq:W.nsIn K mainGlobals "list"=some none)
  (pX:W.nsIn K mainGlobals "range"=some none)
  (Zsa:W.nsIn K mainGlobals "NEW"=some (some Zpl))
  (Zs8:RelV (.int 2) Zpl)
  (Zs9:W.nsIn K mainGlobals "OLD"=some (some Zpk))
  (Zs7:RelV (.int 1) Zpk)
  (g1:kZ K "__init__" "Cell.__init__" tG dG)
  (g2:kZ K "units" "Cell.units" yO fY)
  (g3:kZ K "has_field" "Cell.has_field" qY dJ)
  (g4:kZ K "__init__" "Heap.__init__" tD dD)
  (g6:kZ K "lay" "Heap.lay" Fg jY)
  (g7:kZ K "back" "Heap.back" Bu iZ)
  (g8:kZ K "free" "Heap.free" Bt iY)
  (g9:kZ K "there" "Heap.there" yN fX)
  (g10:kZ K "cell_at" "cell_at" J3 iC)
  (g11:kZ K "birth_at" "birth_at" Ff eX)
  (g12:kZ K "reached" "reached" JR mU)
  (g13:kZ K "onward" "onward" Py oU)
  (g14:kZ K "__init__" "Hand.__init__" tE dF)
  (g15:kZ K "__init__" "Sweeper.__init__" pB cH)
  (g16:kZ K "__init__" "World.__init__" qU cZ)
  (g17:kZ K "held" "held" Zca xO)
  (g18:kZ K "births_held" "births_held" wI fU)
  (g19:kZ K "births_at" "births_at" Bf ig)
  (g20:kZ K "looked_at" "looked_at" Bc iU)
  (g21:kZ K "has_sense" "has_sense" Bd d8)
  (g22:kZ K "is_walking" "is_walking" yH iI)
  (g23:kZ K "mark_of" "mark_of" JS mV)
  (g24:kZ K "told_cells" "told_cells" yD iG)
  (g25:kZ K "told_cell" "told_cell" Bb jC)
  (g26:kZ K "begin" "begin" WK sr)
  (g27:kZ K "note" "note" Zc9 xN)
  (g28:kZ K "note_all" "note_all" EY gJ)
  (g29:kZ K "gone" "gone" Zcb uR)
  (g30:kZ K "roots" "roots" Wz rZ)
  (g31:kZ K "root_of" "root_of" JQ mR)
  (g32:kZ K "note_hands" "note_hands" yG gH)
  (g33:kZ K "step_at_rest" "step_at_rest" uC cP)
  (g34:kZ K "step_in_walk" "step_in_walk" uA cM)
  (g35:kZ K "walk" "walk" Zc7 xK)
  (g36:kZ K "look_or_cut" "look_or_cut" wH gB)
  (g37:kZ K "cut" "cut" Zih Ep)
  (g38:kZ K "first_loss" "first_loss" yI iJ)
  (g39:kZ K "given_up" "given_up" Fb lC)
  (g40:kZ K "told_again" "told_again" yE gG)
  (g41:kZ K "step_in_give" "step_in_give" uB cN)
  (g42:kZ K "pass_place" "pass_place" yF iH)
  (g43:kZ K "end" "end" s_end Eo)
  (g44:kZ K "step_when_lost" "step_when_lost" qR bU)
  (g45:kZ K "step" "step" Zc8 xM)
  (g46:kZ K "all_of" "all_of" PK oW)
  (g47:kZ K "at_begin" "Looking.at_begin" pC cu)
  (g48:kZ K "next_look" "Looking.next_look" oE bV)
  (g49:kZ K "stays" "Looking.stays" sY L)
  (g50:kZ K "at_begin" "First.at_begin" qW dH)
  (g51:kZ K "next_look" "Each.next_look" qX dI)
  (g52:kZ K "__init__" "Kind.__init__" sZ dB)
  (g53:kZ K "slots_of" "slots_of" Ez eE)
  (g54:kZ K "cell_in" "cell_in" J2 jO)
  (g55:kZ K "fields_in" "fields_in" Be iV)
  (g56:kZ K "told_as_old" "told_as_old" wD gq)
  (g57:kZ K "told_as_new" "told_as_new" wF fQ)
  (g58:kZ K "do_make" "do_make" JX gQ)
  (g59:kZ K "do_get" "do_get" PJ jz)
  (g60:kZ K "do_put" "do_put" PB jw)
  (g61:kZ K "do_copy" "do_copy" J1 gW)
  (g62:kZ K "do_drop" "do_drop" J0 gU)
  (g63:kZ K "do_give" "do_give" JZ gR)
  (g64:kZ K "do_write" "do_write" Fe fH)
  (g65:kZ K "do_read" "do_read" JV gO)
  (g66:kZ K "do_name" "do_name" JW gP)
  (g67:kZ K "do_seek" "do_seek" JT gM)
  (g68:kZ K "place_named" "place_named" wG gA)
  (g69:kZ K "do" "do" Zqh TF)
  (g70:kZ K "_law_cell" "_law_cell" Bs gj)
  (g71:kZ K "_law_draw" "_law_draw" Bq d9)
  (g72:kZ K "_law_word" "_law_word" Bg ir)
  (g73:kZ K "_law_hands" "_law_hands" yL iQ)
  (g74:kZ K "_law_room" "_law_room" Bk jE)
  (g75:kZ K "_law_kind" "_law_kind" Bo jH)
  (g76:kZ K "_law_made" "_law_made" Bl jF)
  (g77:kZ K "_law_load" "_law_load" Bm jG)
  (g78:kZ K "_law_deed" "_law_deed" Br jK)
  (g79:kZ K "_law_deeds" "_law_deeds" yM iR)
  (g80:kZ K "_law_start" "_law_start" yJ iK)
  (g81:kZ K "_law_rows" "_law_rows" Bj jD)
  (g82:kZ K "_law_hand" "_law_hand" Bp jJ)
  (g83:kZ K "_law_with" "_law_with" Bh iW)
  (g84:kZ K "_law_fields" "_law_fields" wJ gD)
  (g85:kZ K "_law_pale_from" "_law_pale_from" qT dZ)
  (g86:kZ K "_law_walk_holds" "_law_walk_holds" p6 dM)
  (g87:kZ K "_law_give_holds" "_law_give_holds" p7 dN)
  (g88:kZ K "_law_holds" "_law_holds" yK iM)
  :∃fd:FuncData,(∀(s:Shared) (v:Value),BindsTo s fd ⟨[v],[]⟩ [("_law_script",v)])/\∀base:Heap,K.In base->base.Ns mainGlobals mg->u6 l.prog w K mg base (G.Rv l.prog w) 10 fa fd ["_law_script"] (Zff K):=by
 have e:=hfa.symm.trans (W.mg_of u x a89);cases e;have b:∀{s:Str}{v:Value},W.nsIn K mainGlobals s=some (some v)->mg s=some v:=λh=>W.mg_of u x h
 let a:Cs:=⟨k,d,g,r,q,c,o,j,j⟩
 obtain⟨_,F1,k1⟩:=fg g1;obtain⟨_,F2,k2⟩:=fg g2;obtain⟨_,F3,k3⟩:=fg g3;obtain⟨_,F4,k4⟩:=fg g4;obtain⟨_,F6,k6⟩:=fg g6;obtain⟨_,F7,k7⟩:=fg g7;obtain⟨_,F8,k8⟩:=fg g8;obtain⟨_,F9,k9⟩:=fg g9;obtain⟨_,F10,k10⟩:=fg g10;obtain⟨_,F11,k11⟩:=fg g11;obtain⟨_,F12,k12⟩:=fg g12;obtain⟨_,S,k13⟩:=fg g13;obtain⟨_,F14,k14⟩:=fg g14;obtain⟨_,F15,k15⟩:=fg g15;obtain⟨_,F16,k16⟩:=fg g16;obtain⟨_,F17,k17⟩:=fg g17;obtain⟨_,F18,k18⟩:=fg g18;obtain⟨_,F19,k19⟩:=fg g19;obtain⟨_,V,k20⟩:=fg g20;obtain⟨_,F21,k21⟩:=fg g21;obtain⟨_,F22,k22⟩:=fg g22;obtain⟨_,F23,DQ⟩:=fg g23;obtain⟨_,F24,k24⟩:=fg g24;obtain⟨_,F25,k25⟩:=fg g25;obtain⟨_,F26,k26⟩:=fg g26;obtain⟨_,F27,k27⟩:=fg g27;obtain⟨_,F28,k28⟩:=fg g28;obtain⟨_,F29,k29⟩:=fg g29;obtain⟨_,F30,k30⟩:=fg g30;obtain⟨_,F31,k31⟩:=fg g31;obtain⟨_,U,k32⟩:=fg g32;obtain⟨_,F33,k33⟩:=fg g33;obtain⟨_,F34,S7⟩:=fg g34;obtain⟨_,F35,k35⟩:=fg g35;obtain⟨_,F36,k36⟩:=fg g36;obtain⟨_,F37,k37⟩:=fg g37;obtain⟨_,F38,k38⟩:=fg g38;obtain⟨_,F39,k39⟩:=fg g39;obtain⟨_,F40,k40⟩:=fg g40;obtain⟨_,F41,k41⟩:=fg g41;obtain⟨_,F42,k42⟩:=fg g42;obtain⟨_,Y,k43⟩:=fg g43;obtain⟨_,F44,k44⟩:=fg g44;obtain⟨_,F45,k45⟩:=fg g45;obtain⟨_,Q,k46⟩:=fg g46;obtain⟨_,F47,J⟩:=fg g47;obtain⟨_,F48,F⟩:=fg g48;obtain⟨_,F49,z⟩:=fg g49;obtain⟨_,F50,k50⟩:=fg g50;obtain⟨_,F51,k51⟩:=fg g51;obtain⟨_,F52,k52⟩:=fg g52;obtain⟨_,F53,k53⟩:=fg g53;obtain⟨_,Z,k54⟩:=fg g54;obtain⟨_,F55,k55⟩:=fg g55;obtain⟨_,F56,k56⟩:=fg g56;obtain⟨_,F57,k57⟩:=fg g57;obtain⟨_,F58,k58⟩:=fg g58;obtain⟨_,F59,k59⟩:=fg g59;obtain⟨_,F60,k60⟩:=fg g60;obtain⟨_,F61,k61⟩:=fg g61;obtain⟨_,F62,k62⟩:=fg g62;obtain⟨_,F63,k63⟩:=fg g63;obtain⟨_,F64,k64⟩:=fg g64;obtain⟨_,F65,k65⟩:=fg g65;obtain⟨_,F66,k66⟩:=fg g66;obtain⟨_,N,k67⟩:=fg g67;obtain⟨_,F68,k68⟩:=fg g68;obtain⟨_,F69,k69⟩:=fg g69;obtain⟨_,F70,k70⟩:=fg g70;obtain⟨_,F71,k71⟩:=fg g71;obtain⟨_,X,k72⟩:=fg g72;obtain⟨_,O,k73⟩:=fg g73;obtain⟨_,F74,k74⟩:=fg g74;obtain⟨_,F75,k75⟩:=fg g75;obtain⟨_,F76,k76⟩:=fg g76;obtain⟨_,F77,k77⟩:=fg g77;obtain⟨_,F78,k78⟩:=fg g78;obtain⟨_,F79,k79⟩:=fg g79;obtain⟨_,R,k80⟩:=fg g80;obtain⟨_,F81,k81⟩:=fg g81;obtain⟨_,F82,k82⟩:=fg g82;obtain⟨_,F83,k83⟩:=fg g83;obtain⟨_,F84,k84⟩:=fg g84;obtain⟨_,F85,k85⟩:=fg g85;obtain⟨_,F86,k86⟩:=fg g86;obtain⟨_,F87,k87⟩:=fg g87;obtain⟨_,F88,k88⟩:=fg g88;have T:Txt w K mg g d q c k o j r M aK aV bR bw dG fY dJ dD iu jY iZ iY fX iC eX mU oU dF cH cZ xO fU ig iU d8 iI mV iG jC sr xN gJ uR rZ mR gH cP cM xK gB Ep iJ lC gG cN iH Eo bU xM oW cu bV L dH dI dB eE jO iV gq fQ gQ jz jw gW gU gR fH gO gP gM gA TF gj d9 ir iQ jE jH jF jG jK iR iK jD jJ iW gD dZ dM dN iM:={
  Uz:=⟨Rb,_,_,Zah,W.mg_of u x Zjr,Zkb,⟨rfl,rfl,rfl⟩,rfl,Zgw,⟨Um,rfl⟩,rfl,Zgv,⟨Ul,rfl⟩,rfl,Zgu,⟨Uk,rfl⟩,rfl,Zgt,⟨Uj,rfl⟩,rfl,trivial⟩
  UG:=⟨Rc,_,_,Zai,W.mg_of u x Zjs,Zkc,⟨rfl,rfl,rfl⟩,rfl,Zh6,⟨Uy,rfl⟩,rfl,Zh5,⟨Ux,rfl⟩,rfl,Zh4,⟨Uw,rfl⟩,rfl,Zh3,⟨Uv,rfl⟩,rfl,Zh2,⟨Uu,rfl⟩,rfl,Zh1,⟨Ut,rfl⟩,rfl,Zh0,⟨Us,rfl⟩,rfl,Zgz,⟨Ur,rfl⟩,rfl,Zgy,⟨Up,rfl⟩,rfl,Zgx,⟨Uo,rfl⟩,rfl,trivial⟩
  cT:=⟨Znd,Zoq,Zn7,Zmr⟩
  Zk7:=b Zsu
  Oi:=⟨Oi,a1,i1,Zo6⟩
  dR:=dR
  lU:=lU
  lR:=lR
  jB:=jB
  dY:=dY
  Ol:=⟨Zlm,Zll⟩
  cG:=⟨Zna,Zon,Zn4,Zmo⟩
  Zk3:=b Zsq
  Og:=⟨Og,a4,i4,Zo3⟩
  nF:=nF
  bM:=bM
  iT:=iT
  lQ:=lQ
  Zfd:=⟨Znb,Zoo,Zn5,Zmp⟩
  Zk4:=b Zsr
  Oh:=⟨Oh,a14,i14,Zo4⟩
  vK:=vK
  uf:=uf
  Rh:=⟨Zcj,Zdk,Zci,Zc6⟩
  Va:=b Zhq
  zR:=⟨zR,a15,i15,Zde⟩
  o7:=o7
  o8:=o8
  qC:=qC
  nU:=nU
  qx:=qx
  ud:=ud
  qy:=qy
  o5:=o5
  o9:=o9
  nT:=nT
  qz:=qz
  Zap:=⟨Zix,Zl4,Zit,Zif⟩
  Zey:=b Zpb
  Ig:=⟨Ig,a16,i16,Zkh⟩
  uc:=uc
  t7:=t7
  rW:=rW
  rT:=rT
  oZ:=oZ
  CZ:=⟨Ziy,Zl5,Ziu,Zig⟩
  Xy:=b Zpc
  KQ:=⟨Zju,Zjg,Zki⟩
  Jl:=⟨Znc,Zop,Zn6,Zmq⟩
  Zk6:=b Zst
  Z5:=⟨Znx,Znr,Zo5⟩
  Zfc:=⟨Zn9,Zom,Zn3,Zmn⟩
  Xx:=b Zsp
  Dn:=⟨Dn,a52,i52,Zo2⟩
  qD:=qD
  ue:=ue
  MT:=b Zat
  M5:=b Zau
  Vb:=b Zhr
  Zk5:=b Zss
  Za2:=b Zlz
  vg:=vg
  VF:=VF
  Dk:=Dk
  GJ:=GJ
  j6:=j6
  lG:=lG
  nW:=nW
  mD:=mD
  yh:=⟨Li,i47,J⟩
  xq:=⟨S9,E,z⟩
  uL:=⟨Gb,i48,F⟩
  uK:=⟨QX,E,z⟩
  K3:=⟨a1,i1,k1⟩
  rY:=⟨a2,i2,k2⟩
  vN:=⟨a3,i3,k3⟩
  KZ:=⟨a4,i4,k4⟩
  Ii:=⟨a5,i5,k5⟩
  Mw:=⟨a6,i6,k6⟩
  Ik:=⟨a7,i7,k7⟩
  Ij:=⟨a8,i8,k8⟩
  xm:=⟨a9,i9,k9⟩
  rK:=b a10
  mq:=b a11
  U8:=b a12
  QG:=b a13
  K1:=⟨a14,i14,k14⟩
  DN:=⟨a15,i15,k15⟩
  Ih:=⟨a16,i16,k16⟩
  Zk0:=b a17
  xu:=b a18
  vO:=b a19
  Cw:=b a20
  lV:=b a21
  Ir:=b a22
  U9:=b a23
  Im:=b a24
  Mx:=b a25
  Zex:=b a26
  Zjz:=b a27
  rJ:=b a28
  Zdc:=b a29
  Zew:=b a30
  U7:=b a31
  zU:=b a32
  QF:=b a33
  QC:=b a34
  Zjx:=b a35
  Ek:=b a36
  Zpr:=b a37
  Iu:=b a38
  QH:=b a39
  zT:=b a40
  QD:=b a41
  Io:=b a42
  Zpq:=b a43
  K5:=b a44
  Zjy:=b a45
  Za1:=b a46
  DP:=⟨a47,i47,J⟩
  Cv:=⟨a48,i48,F⟩
  KR:=⟨a49,E,z⟩
  vL:=⟨a50,i50,k50⟩
  vM:=⟨a51,i51,k51⟩
  KY:=⟨a52,i52,k52⟩
  jV:=b a53
  yj:=b a54
  Cy:=b a55
  Ei:=b a56
  xr:=b a57
  Zgh:=b a58
  Zk2:=b a59
  Zk1:=b a60
  Zgk:=b a61
  Zgj:=b a62
  Zgi:=b a63
  Zdd:=b a64
  Zgf:=b a65
  Zgg:=b a66
  Zge:=b a67
  Ej:=b a68
  Ztm:=b a69
  lW:=b a70
  cU:=b a71
  vP:=b a72
  Iz:=b a73
  Mz:=b a74
  MK:=b a75
  MF:=b a76
  MJ:=b a77
  MP:=b a78
  IK:=b a79
  Iv:=b a80
  My:=b a81
  MN:=b a82
  Cz:=b a83
  El:=b a84
  yl:=b a85
  vQ:=b a86
  vR:=b a87
  Iw:=b a88
  pN:=W.mg_none_of u x pN
  m5:=W.mg_none_of u x m5
  Aq:=W.mg_none_of u x Aq
  pX:=W.mg_none_of u x pX
  Zpv:=⟨_,W.mg_of u x Zsa,Zs8⟩
  Zpu:=⟨_,W.mg_of u x Zs9,Zs7⟩
 }
 have b1:=bd5 F1 "self" "birth" "many" "bulk" "tone";have b2:=Gm F2 "self";have b3:=Aj F3 "self" "field";have b4:=Aj F4 "self" "room";have F5:=G.Zov (st:=vp) l5 c5 k5;have b5:=G.Zef (ps:=["self","many","bulk","tone"]) (ds:=[]) l5 t5 λus hl=>match us,hl with | [_,_,_,_],_=>⟨_,rfl,rfl⟩
 have ZCv:=G.Zef (ps:=["self","many","bulk","tone"]) (ds:=[B]) l5 t5 λus hl=>match us,hl with | [_,_,_],_=>⟨_,rfl,rfl⟩
 have ZCu:=G.Zef (ps:=["self","many","bulk","tone"]) (ds:=[C,B]) l5 t5 λus hl=>match us,hl with | [_,_],_=>⟨_,rfl,rfl⟩
 have b6:=Aj F6 "self" "cell";have b7:=Aj F7 "self" "place";have b8:=Gm F8 "self";have b9:=Gm F9 "self";have b10:=Aj F10 "heap" "place";have b11:=Aj F11 "heap" "place";have b12:=Aj F12 "heap" "rows";have b13:=bd3 S "heap" "places" "way";have b14:=bd3 F14 "self" "name" "many";have b15:=Gm F15 "self";have b16:=bd4 F16 "self" "room" "kind" "hands";have b17:=Gm F17 "world";have b18:=Gm F18 "world";have b19:=Aj F19 "heap" "places";have b20:=Aj V "world" "hand";have b21:=Aj F21 "world" "cell";have b22:=Gm F22 "world";have b23:=Aj F23 "world" "place";have b24:=Gm F24 "world";have b25:=Aj F25 "world" "place";have b26:=Gm F26 "world";have b27:=Aj F27 "world" "place";have b28:=Aj F28 "world" "places";have b29:=bd3 F29 "world" "place" "birth";have b30:=Gm F30 "world";have b31:=bd3 F31 "world" "place" "birth";have b32:=Aj U "world" "hands";have b33:=Gm F33 "world";have b34:=Gm F34 "world";have b35:=Gm F35 "world";have b36:=Gm F36 "world";have b37:=Gm F37 "world";have b38:=Gm F38 "world";have b39:=Gm F39 "world";have b40:=Gm F40 "event";have b41:=Gm F41 "world";have b42:=Gm F42 "world";have b43:=Gm Y "world";have b44:=Gm F44 "world";have b45:=Gm F45 "world";have b46:=Gm Q "hands";have b47:=Aj F47 "self" "hands";have b48:=bd3 F48 "self" "looked" "hands";have b49:=Gm F49 "self";have b50:=Aj F50 "self" "hands";have b51:=bd3 F51 "self" "looked" "hands";have b52:=bd3 F52 "self" "looking" "tells";have b53:=Aj F53 "world" "hand";have b54:=bd3 Z "world" "hand" "slot";have b55:=bd4 F55 "world" "hand" "slot" "field";have b56:=Aj F56 "world" "place";have b57:=bd3 F57 "world" "hand" "place";have b58:=Aj F58 "world" "deed";have b59:=Aj F59 "world" "deed";have b60:=Aj F60 "world" "deed";have b61:=Aj F61 "world" "deed";have b62:=Aj F62 "world" "deed";have b63:=Aj F63 "world" "deed";have b64:=Aj F64 "world" "deed";have b65:=Aj F65 "world" "deed";have b66:=Aj F66 "world" "deed";have b67:=Aj N "world" "deed";have b68:=Aj F68 "world" "word";have b69:=Aj F69 "world" "deed";have b70:=Aj F70 "_law_script" "_law_k";have b71:=bd3 F71 "_law_cell_here" "_law_prime" "_law_many";have b72:=Aj X "_law_cell_here" "_law_w";have b73:=Gm O "_law_script";have b74:=Gm F74 "_law_script";have b75:=Gm F75 "_law_number";have b76:=bd3 F76 "_law_n" "_law_h" "_law_s";have b77:=Gm F77 "_law_n";have b78:=bd3 F78 "_law_n" "_law_hands_here" "_law_seed";have b79:=bd3 F79 "_law_n" "_law_hands_here" "_law_seed";have b80:=bd3 R "_law_hands_here" "_law_cell_here" "_law_seed";have b81:=Aj F81 "_law_script" "_law_hands_here";have b82:=Aj F82 "_law_world" "_law_deed_here";have b83:=bd3 F83 "_law_cells" "_law_births" "_law_mark";have b84:=Gm F84 "_law_cells";have b85:=bd3 F85 "_law_cells" "_law_marks" "_law_fields_here";have b86:=Aj F86 "_law_world" "_law_cells";have b87:=Aj F87 "_law_world" "_law_cells";have b88:=Gm F88 "_law_world";have F89:=Zlc (st:=Pz) l89 c89 k89;refine⟨W.fnOf "law" "law" (mX Pz) (j7 Pz) (aF Pz) .none Ztq Zuo Ztd Zus D Zup,λs v=>.of_eq rfl,λbase _ _=>?_⟩;have G1:=hh (w:=w) (Kz l.prog base a T F1 ) b1 k1;have G2:=hh (w:=w) (SX l.prog base a T F2 ) b2 k2;have G3:=hh (w:=w) (HY l.prog base a T F3 ) b3 k3;have G4:=hh (w:=w) (Kw l.prog base a T F4 ) b4 k4;have G6:=hh (w:=w) (ZQ l.prog base a T F6 ) b6 k6;have G8:=hh (w:=w) (Xo l.prog base a T F8 ) b8 k8;have G9:=hh (w:=w) (SQ l.prog base a T F9 ) b9 k9;have p:=hh (w:=w) (Zd2 l.prog base a T F10 ) b10 k10;have G14:=hh (w:=w) (Ky l.prog base a T F14 ) b14 k14;have G15:=hh (w:=w) (DG l.prog base a T F15 ) b15 k15;have G17:=hh (w:=w) (Znp l.prog base a T F17 ) b17 k17;have G20:=hh (w:=w) (W8 l.prog base a T V ) b20 k20;have n:=hh (w:=w) (W9 l.prog base a T F21 ) b21 k21;have G22:=hh (w:=w) (Sv l.prog base a T F22 ) b22 k22;have G40:=hh (w:=w) (Sq l.prog base a T F40 ) b40 k40
 have G43:=hh (w:=w) (Zqs l.prog base a T Y ) b43 k43;have G46:=hh (w:=w) (Zg9 l.prog base a T Q ) b46 k46;have G47:=hh (w:=w) (DK l.prog base a T F47 ) b47 J;have G48:=hh (w:=w) (Cp l.prog base a T F48 ) b48 F;have G49:=hh (w:=w) (Ku l.prog base a T F49 ) b49 z;have G51:=hh (w:=w) (HX l.prog base a T F51 ) b51 k51;have G52:=hh (w:=w) (Kv l.prog base a T F52 ) b52 k52;have f:=hh (w:=w) (ZJ l.prog base a T F53 ) b53 k53;have G56:=hh (w:=w) (Qj l.prog base a T F56 ) b56 k56;have y:=hh (w:=w) (Xm l.prog base a T F70 ) b70 k70;have m:=hh (w:=w) (Xk l.prog base a T F71 ) b71 k71;have I:=hh (w:=w) (Xc l.prog base a T X ) b72 k72;have G77:=hh (w:=w) (Xh l.prog base a T F77 ) b77 k77;have G83:=hh (w:=w) (Xd l.prog base a T F83 ) b83 k83;have G84:=hh (w:=w) (Qo l.prog base a T F84 ) b84 k84;have G85:=hh (w:=w) (HR l.prog base a T F85 ) b85 k85;have G7:=hh (w:=w) (Xp l.prog base a T F7 G2) b7 k7;have i:=hh (w:=w) (ZP l.prog base a T F11 p) b11 k11;have G13:=hh (w:=w) (Zg6 l.prog base a T S p) b13 k13;have G23:=hh (w:=w) (Zct l.prog base a T F23 n) b23 DQ;have G27:=hh (w:=w) (Zno l.prog base a T F27 p n) b27 k27;have G29:=hh (w:=w) (Znq l.prog base a T F29 p n) b29 k29;have G39:=hh (w:=w) (ZL l.prog base a T F39 G9 n) b39 k39;have G44:=hh (w:=w) (HQ l.prog base a T F44 G40) b44 k44;have G50:=hh (w:=w) (HW l.prog base a T F50 G46) b50 k50;have A:=hh (w:=w) (Zd1 l.prog base a T Z p f) b54 k54;have G57:=hh (w:=w) (Qk l.prog base a T F57 G20) b57 k57;have G73:=hh (w:=w) (SM l.prog base a T O y m I) b73 k73;have G74:=hh (w:=w) (Xf l.prog base a T F74 y m) b74 k74;have G76:=hh (w:=w) (Xg l.prog base a T F76 m) b76 k76;have G80:=hh (w:=w) (Sy l.prog base a T R m I) b80 k80;have G5:=hh (w:=w) (Xn l.prog base a T F5 G1 G2 G8 G6) b5 k5;have G12:=hh (w:=w) (Zcs l.prog base a T F12 G13) b12 k12;have G16:=hh (w:=w) (HS l.prog base a T F16 G14 G4 G15) b16 k16;have H:=hh (w:=w) (Xb l.prog base a T F19 i) b19 k19;have G26:=hh (w:=w) (Zjf l.prog base a T F26 G50 G47) b26 k26;have t:=hh (w:=w) (ZK l.prog base a T F28 G27) b28 k28;have G31:=hh (w:=w) (Zcr l.prog base a T F31 G29 n G22) b31 k31;have G42:=hh (w:=w) (Ss l.prog base a T F42 G7 p n) b42 k42;have G55:=hh (w:=w) (Xa l.prog base a T F55 G3 A) b55 k55;have G61:=hh (w:=w) (Zd0 l.prog base a T F61 i f) b61 k61;have G62:=hh (w:=w) (Zcz l.prog base a T F62 i f) b62 k62;have G64:=hh (w:=w) (ZM l.prog base a T F64 A) b64 k64;have G65:=hh (w:=w) (Zcv l.prog base a T F65 A) b65 k65;have G66:=hh (w:=w) (Zcw l.prog base a T F66 A f) b66 k66;have G68:=hh (w:=w) (Ql l.prog base a T F68 G29) b68 k68;have G75:=hh (w:=w) (Xi l.prog base a T F75 G52) b75 k75;have G78:=hh (w:=w) (Xl l.prog base a T F78 m G77 G76 I) b78 k78;have G18:=hh (w:=w) (Qn l.prog base a T F18 H) b18 k18;have G25:=hh (w:=w) (W7 l.prog base a T F25 H G23) b25 k25;have G30:=hh (w:=w) (Zje l.prog base a T F30 G17 G31) b30 k30;have G32:=hh (w:=w) (Su l.prog base a T U t) b32 k32;have G35:=hh (w:=w) (Znm l.prog base a T F35 t) b35 k35;have G41:=hh (w:=w) (NK l.prog base a T F41 G43 G42) b41 k41;have G58:=hh (w:=w) (Zcx l.prog base a T F58 G5 i f) b58 k58;have G59:=hh (w:=w) (Zg8 l.prog base a T F59 i G55 f) b59 k59;have G60:=hh (w:=w) (Zg7 l.prog base a T F60 i G55 t f G57 G56) b60 k60;have G63:=hh (w:=w) (Zcy l.prog base a T F63 i t f G57) b63 k63
 have G67:=hh (w:=w) (Zcu l.prog base a T N i t G68 f) b67 k67;have G79:=hh (w:=w) (SN l.prog base a T F79 G78 m) b79 k79;have G24:=hh (w:=w) (Sh l.prog base a T F24 G9 G25) b24 k24;have G33:=hh (w:=w) (NP l.prog base a T F33 G26 G32) b33 k33;have G38:=hh (w:=w) (Sx l.prog base a T F38 n G12 G30) b38 k38;have G69:=hh (w:=w) (Zti l.prog base a T F69 G61 G62 G59 G63 G58 G66 G60 G65 G67 G64) b69 k69;have G81:=hh (w:=w) (Xe l.prog base a T F81 y G79 m G80) b81 k81;have G86:=hh (w:=w) (FZ l.prog base a T F86 G84 G85 G83 G18 G20) b86 k86;have G87:=hh (w:=w) (Ga l.prog base a T F87 G83 G18) b87 k87;have G37:=hh (w:=w) (Zqv l.prog base a T F37 H G38 G39 G40) b37 k37;have G82:=hh (w:=w) (Xj l.prog base a T F82 G69) b82 k82;have G88:=hh (w:=w) (SJ l.prog base a T F88 G87 G86 G24) b88 k88;have G36:=hh (w:=w) (Qm l.prog base a T F36 G51 G48 G49 G37 G32) b36 k36;have G34:=hh (w:=w) (NB l.prog base a T F34 G36 G35) b34 S7;have G45:=hh (w:=w) (Znn l.prog base a T F45 G33 G41 G34 G44) b45 k45;exact Zqr _ _ a T F89 G16 y G82 G73 G88 G75 G74 G81 G45
theorem walk{l:W.OpenLaw}{q:Program}{b:List Str}{i:(Str->Option Value)->Heap->Prop}{e:World->Heap->Prop}{d:DefRec}{K:Params->aC}(hn:l.most=some 63)(c:d.params.defaults=[])
  (g:∀(w:World) (h:Heap),e w h->(K w.params).In h)
  (F:∀(w:World) (mg:Str->Option Value) (fa:Addr) (h:Heap),(K w.params).In h->h.Ns mainGlobals mg->mg d.name=some (.ref fa)->
   ∃fd:FuncData,(∀(s:Shared) (u:Value),BindsTo s fd ⟨[u],[]⟩ [("_law_script",u)])/\∀base:Heap,(K w.params).In base->base.Ns mainGlobals mg->u6 l.prog w (K w.params) mg base (G.Rv l.prog w) 10 fa fd ["_law_script"] (Zff (K w.params))):
  W.WalkO q b i e l.row.toRowW d [] (λf vs=>PySem.call f vs):=
 L2.Zm8 (n:=63) (k:=10) (x:="_law_script") (CX:=λw=>G.Rv l.prog w) (sp:=λw=>Zff (K w.params)) hn (by decide) c ⟨rfl,by decide,by decide⟩ g F (λ_ _ a ns hl _ j=>⟨a,rfl,ns,j,hl,λ_=>rfl⟩) λ_ _ _ _ _ z=>by
  obtain⟨_,_,_,_,_,_,_,_,_,_,_,_,z⟩:=z;exact z
end K30
namespace PySem.W.Fast
def tw14525755898745388320:=0
def tw3910592649889667073:=0
def tw11697864881852329409:=0
def tw13923709008579411393:=0
def tw5682975228467170658:=0
def tw9066046465860513442:=0
def tw1944209256421801666:=0
def tw356839139090802307:=0
def tw9853626449025290916:=0
def tw6512675900049653126:=0
def tw1651194355952922535:=0
def tw16489111725316652361:=0
def tw14152505963250012236:=0
def tw8923100014093618988:=0
def tw3063747392618837101:=0
def tw13645642109200827886:=0
def tw8897962978482168591:=0
def tw9102625847285206193:=0
def tw15469749649042926099:=0
def tw5305965206354395989:=0
def tw7169848997684259224:=0
def tw5386082812463469145:=0
def tw8825298509850223483:=0
def tw14312518792478438589:=0
def tw17013535604366715646:=0
def tw6307999096985470820:=0
def tw1178444693087265781:=0
def tw551058484476720244:=0
def tw7275468653776766258:=0
def tw14854839267129867036:=0
def tw12003555802247695049:=0
def tw14271829921922381736:=0
def tw12163038039751898340:=0
def tw62809677169434201:=0
def tw12822307849516990657:=0
def tw12829583211261625513:=0
def tw17862206216032448771:=0
def tw18068567761707235125:=0
def tw16704913217303306839:=0
def tw3757581072941965445:=0
def tw15303922943264183445:=0
def tw14119174256820622772:=0
def tw4774308855180706339:=0
def tw4558323149714785611:=0
def tw7847112019723510236:=0
def tw1615558796545147526:=0
def tw9665579955895972521:=0
def tw809691154313515982:=0
def tw8868696122006323013:=0
def tw15734398311384198528:=0
def tw4271990857909701805:=0
def tw11435992511717161674:=0
def tw1934812712568516559:=0
def tw16393769435108020936:=0
def tw9390329562339802508:=0
def tw3171896178645419749:=0
def tw9952729763793984735:=0
def tw2993766628888229821:=0
def tw1652931657877365259:=0
def tw14695289012931959819:=0
def tw12015961866110181549:=0
def tw1846965989606122171:=0
def tw9941943727297409558:=0
def tw14076601790438769631:=0
def tw404119663570097969:=0
def tw11146871800841863236:=0
def tw12486605859464549507:=0
def tw15299520113250924859:=0
def tw6494703809732466857:=0
def tw1944833609430931283:=0
def tw10812494755845852537:=0
def tw12957925068251279955:=0
def tw404418077680830581:=0
def tw9360607321108874654:=0
def tw2869695571386437353:=0
def tw17733896659044319339:=0
def tw7287812918069153204:=0
def tw9909468936450435394:=0
def tw1430035556633080941:=0
def tw14325216822636058474:=0
def tw6244112387532084410:=0
def tw10698517027435564792:=0
def tw1150935589263471498:=0
def tw4896710494055796037:=0
def tw5865979749961714585:=0
def tw5756838831049299870:=0
def tw16365970517906678812:=0
def tw5547333857376484223:=0
def tw2001583445266726804:=0
def tw2911997788926297642:=0
def tw4633240758705619024:=0
def tw10928066681599471697:=0
def tw13562784370768007657:=0
def tw7295206040689453380:=0
def tw2889321904035087685:=0
def tw4876358361452327120:=0
def tw2225063015480644603:=0
def tw16804969145331105244:=0
def tw6384130620888261728:=0
def tw2309393779680562119:=0
def tw3101845594354709995:=0
def tw12568983510729581460:=0
def tw3436270426657597272:=0
def tw16225230838702078455:=0
def tw4108063403963260096:=0
def tw11108736062209045709:=0
def tw4011436063102747864:=0
def tw15074801708789925389:=0
def tw10648273877675459750:=0
def tw18406738241433745115:=0
def tw4935971917508129275:=0
def tw13622605814620301289:=0
def tw21160601959430167:=0
def tw9715043238829493370:=0
def tw8894886374423970153:=0
def tw4323906707346861949:=0
def tw14935819502301308724:=0
def tw12077622506553430165:=0
def tw9360781327326973814:=0
def tw2613337212072418825:=0
def tw15131592196995887379:=0
def tw9963097989029462135:=0
def tw10664980396993858763:=0
def tw11886439444523877403:=0
def tw16900529388791789228:=0
def tw15220680588745788881:=0
def tw10801643509568407498:=0
def tw8366481024206732596:=0
def tw17396492010963638858:=0
def tw5833962498564315014:=0
def tw591558105727372730:=0
def tw11790062956202375810:=0
def tw2173172286991176006:=0
def tw4938533105392818055:=0
def tw16445139316470665369:=0
def tw16151577346488677413:=0
def tw1323066316621085035:=0
def tw2797970996801244046:=0
def tw844606208578172906:=0
def tw12600117607965101399:=0
def tw9529434712367719384:=0
def tw1498314755507901174:=0
def tw14687140613724995893:=0
def tw10389914771513044256:=0
def tw10977590023706359070:=0
def tw9966661992217049937:=0
def tw17169609955773516614:=0
def tw16818516277071809598:=0
def tw15726310940741520178:=0
def tw6428401901715131851:=0
def tw14908858651027869503:=0
def tw4612950898585127225:=0
def tw16863930537166599814:=0
def tw490236150592929440:=0
def tw8628774180442597332:=0
def tw12770922652580326068:=0
def tw5074349333366277002:=0
def tw2263966154280318294:=0
def tw16495834083547525585:=0
def tw16342653708170298603:=0
def tw8993164834297802238:=0
def tw10838667512969212791:=0
def tw9314167658839709098:=0
def tw4592428441194833214:=0
def tw15445888896780102853:=0
def tw7348163610297700195:=0
def tw3289969011638078236:=0
def tw12868733631176194092:=0
def tw17615230386093752017:=0
def tw395087040931628487:=0
def tw9707265592514154174:=0
def tw8052279818808214340:=0
def tw12009358177229396919:=0
def tw4622504076439891907:=0
def tw7615773294645238455:=0
def tw16936041350548860682:=0
def tw5700410576415732378:=0
def tw13994225933391827270:=0
def tw17881968500213152726:=0
def tw6736675778502287049:=0
def tw15793961631050105670:=0
def tw15502502933707479779:=0
def tw10289874928654871154:=0
def tw4497240890239569424:=0
def tw11717712383676342971:=0
def tw13186514059992671957:=0
def tw9930704502376553179:=0
def tw5827194162762561408:=0
def tw3215421078799836634:=0
def tw13698554630854051914:=0
def tw6941672527914974297:=0
def tw7843723364723756500:=0
def tw16686972059315055439:=0
def tw11309236639217938286:=0
def tw15210914042654136535:=0
def tw3635994274223563799:=0
def tw6461234187192550253:=0
def tw11884545322991865515:=0
def tw13965101785864330548:=0
def tw18110547960256802565:=0
def tw11783105439506779352:=0
def tw5649563454954971851:=0
def tw1158809227833459847:=0
def tw3914965484405077707:=0
def tw9831018837960801368:=0
def tw10067977444332049543:=0
def tw15038742779918311161:=0
def tw9981010681405248234:=0
def tw15588100973908665756:=0
def tw4205485615782288703:=0
def tw18378469338355728880:=0
def tw15614938058714643214:=0
def tw17653852531642617480:=0
def tw16086598741888599912:=0
def tw17523433141095060953:=0
def tw12262841097888250409:=0
def tw1328834542511190008:=0
def tw16932440389991877658:=0
def tw1905440815860283407:=0
def tw12663060786149210607:=0
def tw13712796857328269207:=0
def tw4174707522661416667:=0
def tw13426516999147003646:=0
def tw1957729165063626226:=0
def tw10054446137958079706:=0
def tw12829095066293364355:=0
def tw7003797023514823739:=0
def tw1289619015831047012:=0
def tw12699586625136819128:=0
def tw13365775988849789796:=0
def tw10745713019239363632:=0
def tw11419590713990035618:=0
def tw855931632597257268:=0
def tw8585377051272202002:=0
def tw10457145711201704827:=0
def tw13683633560195216390:=0
def tw7479686123219680436:=0
def tw13965862954632649415:=0
def tw9417240426869391970:=0
def tw12833587906935625791:=0
def tw15192875530976597038:=0
def tw10838525255644424718:=0
def tw7024500069449148103:=0
def tw8267208330690955074:=0
def tw2814903813358586575:=0
def tw959445936666327619:=0
def tw2484778864342672766:=0
def tw8162544890480340885:=0
def tw5520560074573827010:=0
def tw3670177504992739224:=0
def tw7007157274037761347:=0
def tw17577091919879156940:=0
def tw16073555716884356425:=0
def tw6464038577115271587:=0
def tw3885803493630629308:=0
def tw2581937691699083319:=0
def tw15400979994333899900:=0
def tw1416630340380760574:=0
def tw2623509729467078518:=0
def tw10083521209888386800:=0
def tw7809701419258928149:=0
def tw8985507639975188244:=0
def tw4529623322555925489:=0
def tw13665573140395874324:=0
def tw6144638313774992048:=0
def tw15414907921948118094:=0
def tw10163758370808497748:=0
def tw1524687363550441717:=0
def tw10566895670053093940:=0
def tw17526121862069998095:=0
def tw14590433685942615099:=0
def tw6364326583229199919:=0
def tw10153079448324076693:=0
def tw5926083955574686370:=0
def tw12760208095161810937:=0
def tw5353449574858245569:=0
def tw9103610019851392846:=0
def tw10387650278568122082:=0
def tw15169440300695695593:=0
def tw8409426284971926197:=0
def tw6185558474835812580:=0
def tw8085244950725071427:=0
def tw3596385945845786890:=0
def tw9183250801261609904:=0
def tw18384303701913256729:=0
def tw6646564437544973354:=0
def tw6219568854117946838:=0
def tw1875816384486864678:=0
def tw13386866795290244884:=0
def tw17822187679723971037:=0
def tw4944299979762124661:=0
def tw17627445617308015876:=0
def tw699209637469845226:=0
def tw12729740127564974353:=0
def tw7992757300432580429:=0
def tw6529327573866985517:=0
def tw2288902905556088241:=0
def tw10992161941226339902:=0
def tw4447885120334257248:=0
def tw13817626005984267379:=0
def tw13398996599833152248:=0
def tw7684718500242594523:=0
def tw10737793549630024834:=0
def tw15411932547069184289:=0
def tw9055637531955637635:=0
def tw6992379164188556290:=0
def tw16711344396358408492:=0
def tw11677093045708557000:=0
def tw8202714127149649149:=0
def tw8959441053474906997:=0
def tw5086061369983168721:=0
def tw10748315130286153588:=0
def tw7481715016150268524:=0
def tw15189234148593194610:=0
def tw906296948856093212:=0
end PySem.W.Fast
open PySem PySem.W PyProof.Rows
set_option maxRecDepth 100000 in
set_option maxHeartbeats 0 in
theorem PySem.Challenge.cw_greywalk_k30_each_pale_one_guarded_holds : PySem.Challenge.rw_greywalk_k30_each_pale_one_guarded.Holds := by
 w_on;o_law;k_head;(case hw=>w_witness2)
 k_fill
 refine K30.walk (l:=PySem.Challenge.rw_greywalk_k30_each_pale_one_guarded) rfl rfl (fun w h Y=>PySem.W.kIn_of Y) ?F
 case F=>
  intro w mg fa h KX G hmg
  refine' K30.all_mk KX G hmg ?h0 ?h1 ?h2 ?h3 ?h4 ?h5 ?h6 ?h7 ?h8 ?h9 ?h10 ?h11 ?h12 ?h13 ?h14 ?h15 ?h16 ?h17 ?h18 ?h19 ?h20 ?h21 ?h22 ?h23 ?h24 ?h25 ?h26 ?h27 ?h28 ?h29 ?h30 ?h31 ?h32 ?h33 ?h34 ?h35 ?h36 ?h37 ?h38 ?h39 ?h40 ?h41 ?h42 ?h43 ?h44 ?h45 ?h46 ?h47 ?h48 ?h49 ?h50 ?h51 ?h52 ?h53 ?h54 ?h55 ?h56 ?h57 ?h58 ?h59 ?h60 ?h61 ?h62 ?h63 ?h64 ?h65 ?h66 ?h67 ?h68 ?h69 ?h70 ?h71 ?h72 ?h73 ?h74 ?h75 ?h76 ?h77 ?h78 ?h79 ?h80 ?h81 ?h82 ?h83 ?h84 ?h85 ?h86 ?h87 ?h88 ?h89 ?h90 ?h91 ?h92 ?h93 ?h94 ?h95 ?h96 ?h97 ?h98 ?h99 ?h100 ?ZCj ?ZCi ?ZCh ?ZCg ?ZCf ?ZCe ?ZCd ?ZCc ?ZCb ?ZCa ?ZC9 ?ZC8 ?ZC7 ?ZC6 ?ZC5 ?ZC4 ?ZC3 ?ZC2 ?ZC1 ?ZC0 ?ZBz ?ZBy ?ZBx ?ZBw ?ZBv ?ZBu ?ZBt ?ZBs ?ZBr ?ZBq ?ZBp ?ZBo ?ZBn ?ZBm ?ZBl ?ZBk ?ZBj ?ZBi ?ZBh ?ZBg ?ZBf ?ZBe ?ZBd ?ZBc ?ZBb ?ZBa ?ZB9 ?ZB8 ?ZB7 ?ZB6 ?ZB5 ?ZB4 ?ZB3 ?ZB2 ?ZB1 ?ZB0 ?ZAz ?ZAy ?ZAx ?ZAw ?ZAv ?ZAu ?ZAt ?ZAs ?ZAr ?ZAq ?ZAp ?ZAo ?ZAn ?ZAm ?ZAl ?ZAk ?ZAj ?ZAi ?ZAh ?ZAg ?ZAf ?ZAe ?ZAd ?ZAc ?ZAb ?ZAa ?ZA9 ?ZA8 ?ZA6 ?ZA5 ?ZA4 ?ZA3 ?ZA2 ?ZA1 ?ZA0 ?Zzz ?Zzy ?Zzx ?Zzw ?Zzv ?Zzu ?Zzt ?Zzs ?Zzr ?Zzq ?Zzp ?Zzo ?Zzn ?Zzm ?Zzl ?Zzk ?Zzj ?Zzi ?Zzh ?Zzg ?Zzf ?Zze ?Zzd ?Zzc ?Zzb ?Zza ?Zz9 ?Zz8 ?Zz7 ?Zz6 ?Zz5 ?Zz4 ?Zz3 ?Zz2 ?Zz1 ?Zz0 ?Zyz ?Zyy ?Zyx ?Zyw ?Zyv ?Zyu ?Zyt ?Zys ?Zyr ?Zyq ?Zyp ?Zyo ?Zyn ?Zym ?Zyl ?Zyk ?Zyj ?Zyi ?Zyh ?Zyg ?Zyf ?Zye ?Zyd ?Zyc ?Zyb ?Zya ?Zy9 ?Zy8 ?Zy7 ?Zy6 ?Zy5 ?Zy4 ?Zy3 ?Zy2 ?Zy1 ?Zy0 ?Zxz ?Zxy ?Zxx ?Zxw ?Zxv ?Zxu ?Zxt ?Zxs ?Zxr ?Zxq ?Zxp ?Zxo ?Zxn ?Zxm ?Zxl ?Zxk ?Zxj ?Zxi ?Zxh ?Zxg ?Zxf ?Zxe ?Zxd ?Zxc ?Zxb ?Zxa ?Zx9 ?Zx8 ?Zx7 ?Zx6 ?Zx5 ?Zx4 ?Zx3 ?Zx2 ?Zx1 ?Zx0 ?Zwz ?Zwy ?Zwx ?Zww ?Zwv ?Zwu ?Zwt ?Zws ?Zwr ?Zwq ?Zwp ?Zwo ?Zwn ?Zwm ?Zwl ?Zwk ?Zwj ?Zwi ?Zwh ?Zwg ?Zwf ?Zwe ?Zwd ?Zwc ?Zwb ?Zwa ?Zw9 ?Zw8 ?Zw7 ?Zw6 ?Zw5 ?Zw4 ?Zw3 ?Zw2 ?Zw1
  case h0 | h1 | h2 | h3 | h4 | h5 | h6 | h7 | h8 | h9 | h10 | h11 | h12 | h13 | h14 | h15 | h16 | h17 | h18 | h19 | h20 | h21 | h22 | h23 | h24=>(show _=_;k_is)
  case h25 | h26=>first | exact rfl | exact ⟨_,rfl⟩
  case h27 | h28 | h29 | h30 | h31 | h32 | h33 | h34 | h35 | h36 | h37 | h38 | h39 | h40 | h41 | h42 | h43 | h44 | h45 | h46 | h47 | h48 | h49 | h50 | h51 | h52 | h53 | h54 | h55 | h56 | h57 | h58 | h59 | h60 | h61 | h62 | h63 | h64 | h65 | h66 | h67 | h68 | h69 | h70 | h71 | h72 | h73 | h74 | h75 | h76 | h77 | h78 | h79 | h80 | h81 | h82 | h83 | h84 | h85 | h86 | h87 | h88 | h89 | h90 | h91 | h92 | h93 | h94 | h95 | h96 | h97 | h98 | h99 | h100 | ZCj | ZCi | ZCh | ZCg | ZCf | ZCe | ZCd | ZCc | ZCb | ZCa | ZC9 | ZC8 | ZC7 | ZC6 | ZC5 | ZC4 | ZC3 | ZC2 | ZC1 | ZC0 | ZBz | ZBy | ZBx | ZBw | ZBv | ZBu | ZBt | ZBs | ZBr | ZBq=>(show _=_;k_is)
  case ZBp | ZBo | ZBn | ZBm=>exact rfl
  case ZBl | ZBk=>(show _=_;k_is)
  case ZBj | ZBi | ZBh | ZBg | ZBf | ZBe | ZBd | ZBc | ZBb | ZBa=>exact rfl
  case ZB9 | ZB8 | ZB7 | ZB6 | ZB5 | ZB4 | ZB3 | ZB2 | ZB1 | ZB0 | ZAz | ZAy | ZAx | ZAw | ZAv | ZAu | ZAt | ZAs | ZAr | ZAq | ZAp | ZAo | ZAn | ZAm | ZAl | ZAk | ZAj | ZAi | ZAh | ZAg | ZAf | ZAe | ZAd | ZAc | ZAb | ZAa | ZA9 | ZA8 | ZA6 | ZA5 | ZA4 | ZA3 | ZA2 | ZA1 | ZA0 | Zzz | Zzy | Zzx | Zzw | Zzv | Zzu | Zzt | Zzs | Zzr | Zzq | Zzp | Zzo | Zzn | Zzm | Zzl | Zzk | Zzj | Zzi | Zzh | Zzg | Zzf | Zze | Zzd | Zzc | Zzb | Zza | Zz9 | Zz8 | Zz7 | Zz6 | Zz5 | Zz4 | Zz3 | Zz2 | Zz1 | Zz0=>(show _=_;k_is)
  case Zyz | Zyy | Zyx | Zyw=>k_exc
  case Zyv | Zyu | Zyt | Zys=>kts_exm
  case Zyr | Zyq | Zyp | Zyo | Zyn | Zym | Zyl | Zyk | Zyj=>(show _=_;k_is)
  case Zyi=>first | exact rfl | exact ⟨_,rfl⟩
  case Zyh=>(show _=_;k_is)
  case Zyg=>first | exact rfl | exact ⟨_,rfl⟩
  case Zyf | Zye | Zyd | Zyc | Zyb | Zya | Zy9 | Zy8 | Zy7 | Zy6 | Zy5 | Zy4 | Zy3 | Zy2 | Zy1 | Zy0 | Zxz | Zxy | Zxx | Zxw | Zxv | Zxu | Zxt | Zxs | Zxr | Zxq | Zxp | Zxo | Zxn | Zxm | Zxl | Zxk | Zxj | Zxi | Zxh | Zxg | Zxf | Zxe | Zxd | Zxc | Zxb | Zxa | Zx9 | Zx8 | Zx7 | Zx6 | Zx5 | Zx4 | Zx3 | Zx2 | Zx1 | Zx0 | Zwz | Zwy | Zwx | Zww | Zwv | Zwu | Zwt | Zws | Zwr | Zwq | Zwp | Zwo | Zwn | Zwm | Zwl | Zwk | Zwj | Zwi | Zwh | Zwg | Zwf | Zwe | Zwd | Zwc | Zwb | Zwa | Zw9 | Zw8 | Zw7 | Zw6 | Zw5 | Zw4 | Zw3 | Zw2 | Zw1=>(refine' K30.fgm ?l ?c ?k;(case l=>show _=_;k_is);(case c=>show _=_;k_is);(case k=>show _=_;k_is))
#print axioms PySem.Challenge.cw_greywalk_k30_each_pale_one_guarded_holds
