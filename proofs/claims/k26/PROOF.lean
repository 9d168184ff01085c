import PyProof.Rows.All
import Wide.All
import OpenK.AllK
import Wide.FinOn
import Lean
import PyProof.EqAt
import PyProof.EqKinds
import PyProof.TupleCall
import KE.KItemsList
import KE.KDictList
import PySem.Challenge.RW_greywalk_k26_hands_looked_at
set_option Elab.async false
set_option linter.all false
set_option compiler.extract_closed false
set_option maxRecDepth 100000
abbrev Ap:=PySem.Value->PySem.Shared->Prop
abbrev As:=PySem.Str->Option PySem.Value
abbrev At:=List (PySem.Addr×PySem.Obj)
abbrev Au:=List (Option Int)
abbrev AA:=Option Int
abbrev AB:=Option PySem.Value
abbrev AC:=List PySem.Value
abbrev AD:=List Int
abbrev AE:=List PySem.Addr
abbrev AF:=List PySem.Expr
abbrev AG:=List PySem.Str
abbrev AH:=PySem.Addr
abbrev AI:=PySem.Value
abbrev AJ:=PySem.Shared
abbrev AK:=PySem.FuncData
abbrev AL:=PySem.Program
abbrev AM:=PySem.Expr
abbrev AN:=PySem.World
abbrev aB:=PySem.W.Frag
theorem bM{a:Type}{l:List a}{i:Nat}(h:i<l.length):l[i]? =some l[i]:=List.getElem?_eq_getElem h
theorem dY{b:Type}{l:List b}{i:Nat}{a:b}(h:l[i]? =some a):∃h:i<l.length,l[i]=a:=List.getElem?_eq_some_iff.mp h
theorem cF{a b:Type}{f:a->b}{l:List a}{i:Nat}:(l.map f)[i]? =l[i]?.map f:=List.getElem?_map
theorem aY{a b:Type}{l:List a}(f:a->b):(l.map f).length=l.length:=List.length_map f
namespace L2
open PySem PySem.Spec PyProof.Rows
abbrev Key:=Sum Int Str
def KN:Key->AI->Bool
 | .inl k,v=>Value.isInt k v
 | .inr x,v=>Value.isStrOf x v
def ZB0(w:AN):Key->Int
 | .inl k=>hashInt k
 | .inr x=>hashStr w x
theorem fM:∀{k:Key}{v:AI},KN k v=true->(∃i t,k=Sum.inl i/\v=Value.int i t)\/(∃x t,k=Sum.inr x/\v=Value.str x t)
 | .inl i,v,h=>by
  obtain⟨t,e⟩:=Value.isInt_shape (k:=i) (v:=v) h;exact .inl ⟨i,t,rfl,e⟩
 | .inr x,v,h=>by
  obtain⟨t,e⟩:=Value.isStrOf_shape (x:=x) (v:=v) h;exact .inr ⟨x,t,rfl,e⟩
theorem Znh(i:Int)(t:Tok):KN (.inl i) (.int i t)=true:=by simp[KN,Value.isInt]
theorem Zng(x:Str)(t:Tok):KN (.inr x) (.str x t)=true:=by simp[KN,Value.isStrOf]
theorem Zyh(a b:Int):decide ((Sum.inl a:Key)=Sum.inl b)=(a == b):=by
 by_cases e:a=b
 ·subst e;simp
 ·have h:¬ (Sum.inl a:Key)=Sum.inl b:=λq=>e (Sum.inl.inj q);rw[decide_eq_false h];exact(beq_eq_false_iff_ne.mpr e).symm
theorem Zye(a b:Str):decide ((Sum.inr a:Key)=Sum.inr b)=decide (a=b):=by
 by_cases e:a=b
 ·subst e;simp
 ·have h:¬ (Sum.inr a:Key)=Sum.inr b:=λq=>e (Sum.inr.inj q);rw[decide_eq_false h,decide_eq_false e]
theorem Zyg(a:Int)(b:Str):decide ((Sum.inl a:Key)=Sum.inr b)=false:=decide_eq_false (λq=>nomatch q)
theorem Zyf(a:Str)(b:Int):decide ((Sum.inr a:Key)=Sum.inl b)=false:=decide_eq_false (λq=>nomatch q)
def fL(prog:AL)(w:AN):PySem.KeyKind prog w Key where
  is:=KN
  hash:=ZB0 w
  inj:=λv a b d hb=>by
    rcases fM d with ⟨i,t,rfl,rfl⟩ | ⟨x,t,rfl,rfl⟩
    · rcases fM hb with ⟨j,u,rfl,e⟩ | ⟨y,u,rfl,e⟩
      · injection e with c _;rw[c]
      · exact nomatch e
    · rcases fM hb with ⟨j,u,rfl,e⟩ | ⟨y,u,rfl,e⟩
      · exact nomatch e
      · injection e with c _;rw[c]
  byValue:=λk v h=>by
    rcases fM h with ⟨i,t,rfl,rfl⟩ | ⟨x,t,rfl,rfl⟩<;>rfl
  pyHash:=λhv h=>by
    rcases fM hv with ⟨i,t,rfl,rfl⟩ | ⟨x,t,rfl,rfl⟩
    · exact wpAny_pyHash_int h
    · exact wpAny_pyHash_str h
  eqBool:=λhu hv h=>by
    rcases fM hu with ⟨i,t,rfl,rfl⟩ | ⟨x,t,rfl,rfl⟩
    · rcases fM hv with ⟨j,u,rfl,rfl⟩ | ⟨y,u,rfl,rfl⟩
      · rw[Zyh]at h;exact wpAny_eqBool_int h
      · rw[Zyg]at h;exact SeqAt.EqAt.int_str i t y u _ _ _ _ h
    · rcases fM hv with ⟨j,u,rfl,rfl⟩ | ⟨y,u,rfl,rfl⟩
      · rw[Zyf]at h;exact SeqAt.EqAt.str_int x t j u _ _ _ _ h
      · rw[Zye]at h;exact wpAny_eqBool_str h
  «strs»:=λk x t v h=>by
    rcases fM h with ⟨i,u,rfl,e⟩ | ⟨y,u,rfl,e⟩
    · exact nomatch e
    · injection e with c _
      subst c;cases v<;>rfl
theorem Zfg(prog:AL)(w:AN)(i:Int)(t:Tok):(fL prog w).is (.inl i) (.int i t)=true:=Znh i t
theorem Zff(prog:AL)(w:AN)(x:Str)(t:Tok):(fL prog w).is (.inr x) (.str x t)=true:=Zng x t
inductive V where
 | non | bl (b:Bool) | int (i:Int) | str (x:Str) | byt (b:Array UInt8) | flt (b:UInt64) | ref (a:AH) | ty (n:String)
 deriving DecidableEq
def RelV:V->AI->Prop
 | .non,u=>u=Value.none
 | .bl b,u=>u=Value.bool b
 | .int i,u=>∃t,u=Value.int i t
 | .str x,u=>∃t,u=Value.str x t
 | .byt b,u=>∃t,u=Value.bytes b t
 | .flt b,u=>∃t,u=Value.float b t
 | .ref a,u=>u=Value.ref a
 | .ty n,u=>u=Value.type n
abbrev Vals:List V->AC->Prop:=Paired RelV
theorem Vals.length{xs:List V}{us:AC}(r:Vals xs us):xs.length=us.length:=Paired.length r
theorem Vals.get:∀{xs:List V}{us:AC}{i:Nat}{x:V},Vals xs us->xs[i]? =some x->∃u,us[i]? =some u/\RelV x u
 | _,_,_,_,.nil,e=>by simp at e
 | _,_,0,_,.cons r _,e=>by simp at e;subst e;exact⟨_,rfl,r⟩
 | _,_,i+1,x,.cons _ t,e=>by
  obtain⟨u,h1,h2⟩:=Vals.get (i:=i) (x:=x) t (by simpa using e);exact⟨u,by simpa using h1,h2⟩
theorem Vals.set{x:V}{u:AI}(r:RelV x u):∀{xs:List V}{us:AC} (i:Nat),Vals xs us->Vals (xs.set i x) (us.set i u)
 | _,_,_,.nil=>.nil
 | _,_,0,.cons _ t=>.cons r t
 | _,_,i+1,.cons q t=>.cons q (Vals.set r i t)
theorem Vals.append:∀{xs a:List V}{us b:AC},Vals xs us->Vals a b->Vals (xs++a) (us++b)
 | _,_,_,_,.nil,s=>s
 | _,_,_,_,.cons r t,s=>.cons r (Vals.append t s)
theorem Vals.take:∀{xs:List V}{us:AC} (n:Nat),Vals xs us->Vals (xs.take n) (us.take n)
 | _,_,0,_=>.nil
 | _,_,_+1,.nil=>.nil
 | _,_,n+1,.cons r t=>.cons r (Vals.take n t)
theorem Vals.drop:∀{xs:List V}{us:AC} (n:Nat),Vals xs us->Vals (xs.drop n) (us.drop n)
 | _,_,0,r=>r
 | _,_,_+1,.nil=>.nil
 | _,_,n+1,.cons _ t=>Vals.drop n t
def HJ:Option V->AB->Prop
 | some v,some u=>RelV v u
 | none,none=>True
 | _,_=>False
def KV{a:Type}:List (a×V)->List (a×AI)->Prop:=Paired λ(p:a×V) (q:a×AI)=>p.1=q.1/\RelV p.2 q.2
def kV:Key->V
 | .inl i=>.int i
 | .inr x=>.str x
inductive HO where
  | lst (xs:List V)
  | tup (xs:List V)
  | dK (kvs:List (Key×V)) | dT (kvs:List (List Key×V))
  | set (S:Int->Bool) (n:Nat)
  | ins (C dx:AH) (fs:List (Str×V))
  | own (x:AH)
  | xd (fs:List (Str×V))
  | met (f x:AH)
  | rng (lo hi:Int)
  | Ac (o:Obj) (u:HO)
  | R3 (ps:Array AI)
  | ext (φ:Heap->Prop)
abbrev Hp:=AH->Option HO
def upd(H:Hp)(a:AH)(o:HO):Hp:=λb=>if b=a then some o else H b
theorem aq{H:Hp}{a:AH}{o:HO}:upd H a o a=some o:=by unfold upd;rw[if_pos rfl]
theorem aC{H:Hp}{a b:AH}{o:HO}(h:b≠a):upd H a o b=H b:=by unfold upd;rw[if_neg h]
theorem eV{H:Hp}{a:AH}{o u:HO}:upd (upd H a o) a u=upd H a u:=by
 funext b;unfold upd;split<;>rfl
theorem rC{H:Hp}{a b:AH}{o u:HO}(h:H a=some o)(h':H b=some u)(d:o≠u):a≠b:=by
 intro e;subst e;rw[h]at h';exact d (Option.some.inj h')
theorem aD{H:Hp}{a b:AH}{o:HO}(h:H a=some o)(h':H b=none):a≠b:=by
 intro e;subst e;rw[h]at h';cases h'
section
variable (P:AL)(w:AN)
def lM(H:Hp)(h:Heap)(a:AH):HO->Prop
 | .lst xs=>xs.length<=sizeLine/\∃(c:AC) (n:Nat),Vals xs c/\h.get? a=some { cls:=.type "list",data:=.seq c.toArray n }
 | .tup xs=>xs.length<=sizeLine/\∃c:AC,Vals xs c/\IsTup h a c.toArray
 | .dK b=>b.length<=sizeLine/\(a == sysModules)=false/\∃vs,KV b vs/\h.DictOf (fL P w) a vs
 | .dT b=>b.length<=sizeLine/\(a == sysModules)=false/\∃xs:List (List Key×AH×AI),
   Paired (λ(p:List Key×V) (q:List Key×AH×AI)=>p.1=q.1/\H q.2.1=some (.tup (p.1.map kV))/\RelV p.2 q.2.2) b xs/\
   ∃o g i,h.get? a=some o/\o.ExactDict/\o.data=.dict g i/\g.toList=xs.map (entryOfKey (tupleKind (fL P w)))/\(xs.map (·.1)).Nodup
 | .set S n=>h.SetOf (intKind P w) a S n
 | .ins C dx fs=>H dx=some (.own a)/\fs.length<=1000/\dx≠a/\h.get? a=some (W.instObj C dx)/\
   ∃d,h.Ns1 dx d/\(∀f,HJ (fs.lookup f) (d f))/\PySem.Within d (fs.map (·.1))
 | .own _=>∃o,h.get? a=some o
 | .xd fs=>∃d,h.Ns1 a d/\∀f,HJ (fs.lookup f) (d f)
 | .rng lo j=>∃t u v,h.get? a=some { cls:=.type "range",data:=.fields #[.int lo t,.int j u,.int 1 v] }
 | .Ac o u=>h.get? a=some o/\lM H h a u
 | .R3 ps=>h.get? a=some { cls:=.none,data:=.fields ps }
 | .met f x=>h.get? a=some (W.methodObj (.ref f) (.ref x))
 | .ext e=>e h/\(∃o,h.get? a=some o)/\∀h1 h2:Heap,e h1->(∀o,h1.get? a=some o->h2.get? a=some o)->e h2
def Dn(H:Hp)(h:Heap):Prop:=∀a o,H a=some o->lM P w H h a o
end
section
variable {P:AL}{w:AN}{H H':Hp}{h h':Heap}{a:AH}{o:HO}
theorem lM.lt(x:lM P w H h a o):a<h.objs.size:=by
 cases o with
 | lst c=>obtain⟨_,_,_,_,e⟩:=x;exact Heap.lt_size e
 | tup c=>obtain⟨_,_,_,p⟩:=x;exact p.lt
 | dK b=>obtain⟨_,_,_,_,o,_,_,e,_⟩:=x;exact Heap.lt_size e
 | dT b=>obtain⟨_,_,_,_,o,_,_,e,_⟩:=x;exact Heap.lt_size e
 | set S n=>obtain⟨o,_,_,_,e,_⟩:=x;exact Heap.lt_size e
 | ins C d fs=>obtain⟨_,_,_,e,_⟩:=x;exact Heap.lt_size e
 | own y=>obtain⟨_,e⟩:=x;exact Heap.lt_size e
 | xd fs=>obtain⟨_,⟨_,_,_,e,_⟩,_⟩:=x;exact Heap.lt_size e
 | rng lo g=>obtain⟨_,_,_,e⟩:=x;exact Heap.lt_size e
 | Ac ob u=>obtain⟨e,_⟩:=x;exact Heap.lt_size e
 | R3 j=>exact Heap.lt_size (show h.get? a=some _ from x)
 | met f y=>exact Heap.lt_size (show h.get? a=some _ from x)
 | ext i=>obtain⟨_,⟨_,e⟩,_⟩:=x;exact Heap.lt_size e
theorem Paired.Zy8{e g:Type}{F G:e->g->Prop}:∀{c:List e}{d:List g},Paired F c d->(∀a b,F a b->G a b)->Paired G c d
 | _,_,.nil,_=>.nil
 | _,_,.cons r t,f=>.cons (f _ _ r) (Paired.Zy8 t f)
theorem lM.stay(x:lM P w H h a o)(k:∀b u,(b=a\/H b=some (.own a))->h.get? b=some u->h'.get? b=some u)
  (B:∀b,H b=some (.own a)->H' b=some (.own a)) (F:∀b xs,H b=some (.tup xs)->H' b=some (.tup xs)):lM P w H' h' a o:=by
 induction o with
 | lst xs=>obtain⟨z,j,n,r,e⟩:=x;exact⟨z,j,n,r,k _ _ (.inl rfl) e⟩
 | tup xs=>obtain⟨z,j,r,ob,e,c⟩:=x;exact⟨z,j,r,ob,k _ _ (.inl rfl) e,c⟩
 | dK l=>obtain⟨z,y,E,r,ob,i,g,e,c⟩:=x;exact⟨z,y,E,r,ob,i,g,k _ _ (.inl rfl) e,c⟩
 | dT l=>
  obtain⟨z,y,xs,r,ob,i,g,e,c⟩:=x;exact⟨z,y,xs,Paired.Zy8 r λp q z=>⟨z.1,F _ _ z.2.1,z.2.2⟩,ob,i,g,k _ _ (.inl rfl) e,c⟩
 | set S n=>obtain⟨ob,i,g,t,e,c⟩:=x;exact⟨ob,i,g,t,k _ _ (.inl rfl) e,c⟩
 | ins C I fs=>
  obtain⟨d,z,ne,e,m,⟨od,i,g,A,c⟩,r⟩:=x;exact⟨B _ d,z,ne,k _ _ (.inl rfl) e,m,⟨od,i,g,k _ _ (.inr d) A,c⟩,r⟩
 | own y=>obtain⟨ob,e⟩:=x;exact⟨ob,k _ _ (.inl rfl) e⟩
 | xd fs=>obtain⟨m,⟨od,i,g,e,c⟩,r⟩:=x;exact⟨m,⟨od,i,g,k _ _ (.inl rfl) e,c⟩,r⟩
 | rng lo J=>obtain⟨t,u,v,e⟩:=x;exact⟨t,u,v,k _ _ (.inl rfl) e⟩
 | Ac ob u D=>obtain⟨e,q⟩:=x;exact⟨k _ _ (.inl rfl) e,D q⟩
 | R3 s=>
  have e:h.get? a=some { cls:=.none,data:=.fields s }:=x;show h'.get? a=some { cls:=.none,data:=.fields s };exact k a _ (.inl rfl) e
 | met f y=>
  have e:h.get? a=some (W.methodObj (.ref f) (.ref y)):=x;show h'.get? a=some (W.methodObj (.ref f) (.ref y));exact k a _ (.inl rfl) e
 | ext K=>obtain⟨p,⟨o,e⟩,st⟩:=x;exact⟨st _ _ p λo q=>k _ _ (.inl rfl) q,⟨o,k _ _ (.inl rfl) e⟩,st⟩
theorem Dn.lt(x:Dn P w H h)(e:H a=some o):a<h.objs.size:=(x a o e).lt
theorem Dn.fresh(x:Dn P w H h)(e:h.objs.size<=a):H a=none:=by
 cases q:H a with
 | none=>rfl
 | some u=>exact absurd (Nat.lt_of_lt_of_le (x.lt q) e) (Nat.lt_irrefl _)
theorem Dn.kept(x:Dn P w H h)(k:∀b u,h.get? b=some u->h'.get? b=some u):Dn P w H h':=λa o e=>
 (x a o e).stay (λb u _ q=>k b u q) (λ_ q=>q) λ_ _ q=>q
theorem Dn.laid(x:Dn P w H h)(k:∀b u,h.get? b=some u->h'.get? b=some u)(hp:h.objs.size<=a)(new:lM P w (upd H a o) h' a o):Dn P w (upd H a o) h':=λb u e=>by
 have hn:=x.fresh hp
 by_cases hb:b=a
 ·subst hb;rw[aq]at e;cases e;exact new
 ·rw[aC hb]at e;exact(x b u e).stay (λc v _ q=>k c v q) (λc q=>by rw[aC (aD q hn)];exact q) λc xs q=>by rw[aC (aD q hn)];exact q
end
def Rd(H:Hp)(a:AH)(u:HO):Prop:=H a=some u\/∃o,H a=some (.Ac o u)
theorem Rd.ok{P:AL}{w:AN}{H:Hp}{h:Heap}{a:AH}{u:HO}(r:Rd H a u)(x:Dn P w H h):lM P w H h a u:=by
 rcases r with r | ⟨o,r⟩
 ·exact x a u r
 ·obtain⟨_,q⟩:=x a _ r;exact q
def Mut:Option HO->Prop
 | some (.lst _)=>True
 | some (.dK _)=>True
 | some (.dT _)=>True
 | some (.set _ _)=>True
 | some (.ins _ _ _)=>True
 | some (.ext _)=>True
 | _=>False
section
variable {P:AL}{w:AN}{H:Hp}{h h':Heap}{x e:AH}{o':HO}
theorem Dn.write(ok:Dn P w H h)(g:Mut (H x))(l:e=x\/H e=some (.own x))(k:∀b u,b≠e->h.get? b=some u->h'.get? b=some u)(j:∃u,h'.get? e=some u)
  (new:lM P w (upd H x o') h' x o'):Dn P w (upd H x o') h':=λb u q=>by
 have d:∀c y,H c=some (.own y)->c≠x:=λc y r z=>by subst z;rw[r]at g;exact g
 have i:∀c f,H c=some (.tup f)->c≠x:=λc f r z=>by subst z;rw[r]at g;exact g
 by_cases hb:b=x
 ·subst hb;rw[aq]at q;cases q;exact new
 ·rw[aC hb]at q
  by_cases a:b=e
  ·have m:H b=some (.own x):=by
    rcases l with z | z
    ·exact absurd (a.trans z) hb
    ·rw[a];exact z
   rw[q]at m;cases m;obtain⟨v,hv⟩:=j;exact⟨v,by rw[a];exact hv⟩
  ·refine(ok b u q).stay (λc v hc r=>k c v ?_ r) (λc r=>by rw[aC (d c b r)];exact r) λc f r=>by rw[aC (i c f r)];exact r
   rcases hc with rfl | hc
   ·exact a
   ·rintro rfl;rcases l with z | z
    ·exact d c b hc z
    ·rw[hc]at z;cases z;exact hb rfl
end
structure Un(fs ex:AE)(H H':Hp)(h h':Heap):Prop where
 keep:∀b o,h.get? b=some o->H b=none->b∉fs->b∉ex->h'.get? b=some o
 slot:∀b o,h.get? b=some o->H b=none->b∈fs->b∉ex->∃sl,h'.get? b=some { o with slots:=sl }
 free:∀b o,h.get? b=some o->H b=none->b∉ex->H' b=none
 there:∀b o,h.get? b=some o->b∉ex->∃o',h'.get? b=some o'
 tups:∀b xs,H b=some (.tup xs)->H' b=some (.tup xs)
 Jt:∀b o u,H b=some (.Ac o u)->H' b=some (.Ac o u)
 JC:∀b ps,H b=some (.R3 ps)->∃more,H' b=some (.R3 (ps++more))
section
variable {fs fs' ex ex':AE}{H H1 H2:Hp}{h h1 h2 h':Heap}{a x e:AH}{o:HO}
theorem Un.any(u:Un fs ex H H1 h h1){b:AH}{ob:Obj}(q:h.get? b=some ob)(n:H b=none)(hx:b∉ex):∃sl,h1.get? b=some { ob with slots:=sl }:=by
 by_cases hb:b∈fs
 ·exact u.slot b ob q n hb hx
 ·exact⟨ob.slots,u.keep b ob q n hb hx⟩
theorem Un.kept(k:∀b u,h.get? b=some u->h'.get? b=some u):Un fs ex H H h h':=
 ⟨λb ob q _ _ _=>k b ob q,λb ob q _ _ _=>⟨ob.slots,k b ob q⟩,λ_ _ _ n _=>n,λb ob q _=>⟨ob,k b ob q⟩,λ_ _ q=>q,λ_ _ _ q=>q,λ_ ps q=>⟨#[],by rw[q];simp⟩⟩
theorem Un.refl:Un fs ex H H h h:=Un.kept λ_ _ q=>q
theorem Un.laid(k:∀b u,h.get? b=some u->h'.get? b=some u)(hp:h.objs.size<=a)(hn:H a=none):Un fs ex H (upd H a o) h h' where
 keep:=λb u q _ _ _=>k b u q
 slot:=λb u q _ _ _=>⟨u.slots,k b u q⟩
 free:=λb u q n _=>by rw[aC (Nat.ne_of_lt (Nat.lt_of_lt_of_le (Heap.lt_size q) hp))];exact n
 there:=λb u q _=>⟨u,k b u q⟩
 tups:=λb xs q=>by rw[aC (aD q hn)];exact q
 Jt:=λb u xs q=>by rw[aC (aD q hn)];exact q
 JC:=λb ps q=>⟨#[],by rw[aC (aD q hn),q];simp⟩
theorem Un.write(c:Mut (H x))(g:e=x\/H e=some (.own x))(k:∀b u,b≠e->h.get? b=some u->h'.get? b=some u)(d:∃u,h'.get? e=some u):Un fs ex H (upd H x o) h h':=by
 have hx:∀b,H b=none->b≠x:=λb n z=>by subst z;rw[n]at c;exact c
 have hb:∀b,H b=none->b≠e:=λb n z=>by
  subst z;rcases g with r | r
  ·exact hx b n r
  ·rw[n]at r;cases r
 have hm:∀b u,H b=some u->¬ Mut (some u)->b≠x:=λb u q nm z=>by subst z;rw[q]at c;exact nm c
 refine⟨λb u q n _ _=>k b u (hb b n) q,λb u q n _ _=>⟨u.slots,k b u (hb b n) q⟩,λb u q n _=>by rw[aC (hx b n)];exact n,λb u q _=>?_,
  λb f q=>by rw[aC (hm b _ q λz=>z)];exact q,λb u f q=>by rw[aC (hm b _ q λz=>z)];exact q,λb i q=>⟨#[],by rw[aC (hm b _ q λz=>z),q];simp⟩⟩
 by_cases a:b=e
 ·subst a;exact d
 ·exact⟨u,k b u a q⟩
end
def trk(h:Heap)(H:Hp):AE:=(List.range h.objs.size).filter λa=>(H a).isSome
def Zcf(h:Heap)(H:Hp):Heap:=W.hideAll h (trk h H)
theorem Zo0(h:Heap)(H:Hp):(Zcf h H).objs.size=h.objs.size:=W.hideAll_size _ _
theorem Zrs{h:Heap}{H:Hp}{b:AH}{o:Obj}(e:h.get? b=some o)(n:H b=none):(Zcf h H).get? b=some o:=
 W.hideAll_get _ e λhm=>by
  have q:(H b).isSome=true:=(List.mem_filter.mp hm).2;rw[n]at q;simp at q
theorem Zuk{h:Heap}{H:Hp}{b:AH}{o:Obj}(e:(Zcf h H).get? b=some o):h.get? b=some o/\H b=none:=by
 have a:h.get? b=some o:=W.of_hideAll (trk h H) e;refine⟨a,?_⟩;cases q:H b with
 | none=>rfl
 | some x=>
  have hm:b∈trk h H:=List.mem_filter.mpr ⟨List.mem_range.mpr (Heap.lt_size a),by simp[q]⟩;have z:(Zcf h H).get? b=none:=W.hideAll_none (trk h H) hm;rw[z]at e;cases e
def Zw6(g h:Heap)(L:AH):At:=(List.range h.objs.size).filterMap λa=>if a=L\/(g.get? a).isSome=true then none else(h.get? a).map λo=>(a,o)
def rest(g h:Heap)(L d:AH):At:=(Zw6 g h L).filter λp=>decide (p.1≠d)
structure Mod(K:aB)(mg:As)(base:Heap):Prop where
 kin:K.In base
 glob:base.Ns mainGlobals mg
 blt:∃mb,base.Ns builtinsNs mb/\∀x:Str,x≠"__name__"->mb x=bootBuiltins x
 nolimit:base.NoLimit
structure Cx where
 prog:AL
 w:AN
 K:aB
 mg:Str->AB
 base:Heap
 A:Around
 N:AG
 s₀:AJ
 H₀:Hp
 env:Env
 outer:List Env
 stack:List Env
 ex:AE
 fn:Str->Bool
 calm:Bool
 pn:At
 xe:AI->AJ->Prop
def frs(l:List Env):AE:=l.filterMap (·.frame)
abbrev Cx.fs(X:Cx):AE:=frs X.outer
def Vis(a:Scope)(x:Str):Prop:=a.names.lookup x=some .local\/a.names.lookup x=some .cell\/a.names.lookup x=some .free
def Loc(a:Scope)(x:Str):Prop:=a.names.lookup x=some .local\/a.names.lookup x=some .cell
def Look(env:Env)(h:Heap)(m:As)(x:Str)(u:AI):Prop:=
 (env.kindOf x=some .local/\m x=some u)\/((env.kindOf x=some .cell\/env.kindOf x=some .free)/\∃c,env.cells.lookup x=some c/\h.IsCell c (some u))
structure Cx.Ok(X:Cx):Prop where
 mod:Mod X.K X.mg X.base
 kind:X.env.scope.kind=.function
 glob:X.env.globals=mainGlobals
 blt:X.env.builtins=builtinsNs
 above:X.s₀.heap.objs.size<=X.env.locals
 inj:∀x y c,X.env.cells.lookup x=some c->X.env.cells.lookup y=some c->x=y
 has:∀x,(X.env.kindOf x=some .cell\/X.env.kindOf x=some .free)->∃c,X.env.cells.lookup x=some c
 cab:∀x c,X.fn x=true->X.env.cells.lookup x=some c->X.s₀.heap.objs.size<=c
 hd:X.calm=true->X.A.handled=none
 frames:X.A.frames=some X.stack
 stk:X.stack=X.outer\/(X.stack=X.env::X.outer/\X.env.frame=some X.env.locals)
 exf:∀b∈X.ex,b≠X.env.locals/\∀x c,X.env.cells.lookup x=some c->c≠b
 bs:∀b o,X.base.get? b=some o->X.s₀.heap.get? b=some o/\X.H₀ b=none
 bsz:X.base.objs.size<=X.s₀.heap.objs.size
 WQ:∀b o,X.base.get? b=some o->b∉X.ex
 Zg9:∀b∈X.ex,b∉X.fs
 zZ:X.s₀.heap.FunFrames X.base X.outer
 frf:∀b∈X.fs,X.H₀ b=none
structure Inv(X:Cx)(pins:At)(σ:List (Option V))(H:Hp)(s:AJ):Prop where
 ok:X.Ok
 os:s.os=X.s₀.os
 bare:AllBare s.gens
 base:Un X.fs X.ex X.H₀ H X.s₀.heap s.heap
 loc:∃m,s.heap.Ns X.env.locals m/\∀(i:Nat) (x:Str) (v:V),X.N[i]? =some x->σ[i]? =some (some v)->Vis X.env.scope x->∃u,RelV v u/\Look X.env s.heap m x u
 cell:∀x c,X.env.cells.lookup x=some c->∃v,s.heap.IsCell c v
 free:H X.env.locals=none
 uC:∀x c,X.env.cells.lookup x=some c->H c=none
 pin:∀p∈X.pn++pins,s.heap.get? p.1=some p.2/\H p.1=none/\p.1≠X.env.locals/\p.1∉X.fs/\∀v,p.2.data≠.cell v
 hok:Dn X.prog X.w H s.heap
 len:σ.length=X.N.length
section
variable {X:Cx}{pins:At}{σ:List (Option V)}{H H':Hp}{s:AJ}{h':Heap}
theorem Cx.Ok.ZCm(ok:X.Ok){b:AH}{o:Obj}(e:X.base.get? b=some o):b∉X.fs:=λhb=>by
 have:=(ok.zZ.mem hb).1;rw[e]at this;cases this
theorem Inv.bs(I:Inv X pins σ H s):∀b o,X.base.get? b=some o->s.heap.get? b=some o/\H b=none:=λb o e=>
 ⟨I.base.keep b o (I.ok.bs b o e).1 (I.ok.bs b o e).2 (I.ok.ZCm e) (I.ok.WQ b o e),I.base.free b o (I.ok.bs b o e).1 (I.ok.bs b o e).2 (I.ok.WQ b o e)⟩
theorem Inv.bk(I:Inv X pins σ H s):∀b o,X.base.get? b=some o->s.heap.get? b=some o:=λb o e=>(I.bs b o e).1
theorem Inv.mod(I:Inv X pins σ H s):Mod X.K X.mg X.base:=I.ok.mod
theorem Inv.Gi(I:Inv X pins σ H s):X.K.In s.heap:=I.ok.mod.kin.keeps I.bk
theorem Inv.lt(I:Inv X pins σ H s):X.env.locals<s.heap.objs.size:=let ⟨_,hn,_⟩:=I.loc;hn.lt
theorem Inv.sz(I:Inv X pins σ H s):X.s₀.heap.objs.size<=s.heap.objs.size:=Nat.le_trans I.ok.above (Nat.le_of_lt I.lt)
theorem Inv.ZCl(I:Inv X pins σ H s){a:AH}(h:s.heap.objs.size<=a):a∉X.fs:=λhb=>by
 obtain⟨_,o,b,_⟩:=I.ok.zZ.mem hb;exact absurd (Nat.lt_of_lt_of_le (Heap.lt_size b) (Nat.le_trans I.sz h)) (Nat.lt_irrefl _)
theorem Inv.cne(I:Inv X pins σ H s):∀x c,X.env.cells.lookup x=some c->c≠X.env.locals:=λx c e z=>by
 obtain⟨v,o,d,hd⟩:=I.cell x c e;obtain⟨m,⟨h,g,f,a,b,_⟩,_⟩:=I.loc;rw[z,a]at d;cases d;rw[b]at hd;cases hd
theorem Inv.zZ(I:Inv X pins σ H s):s.heap.FunFrames X.base X.outer:=by
 have all:∀(l:List Env),(∀b∈frs l,b∈X.fs)->X.s₀.heap.FunFrames X.base l->s.heap.FunFrames X.base l:=by
  intro l
  induction l with
  | nil=>intro _ _;trivial
  | cons env r f=>
   intro hs hl;obtain⟨hk,⟨L,o,c,hn,d,hd⟩,hr⟩:=hl;have a:L∈X.fs:=hs L (by unfold frs;rw[List.filterMap_cons,c];exact List.mem_cons_self);obtain⟨sl,e⟩:=I.base.slot L o d (I.ok.frf L a) a λz=>I.ok.Zg9 L z a;exact⟨hk,⟨L,_,c,hn,e,hd⟩,f (λb hb=>hs b (by unfold frs;rw[List.filterMap_cons,c];exact List.mem_cons_of_mem _ hb)) hr⟩
 exact all X.outer (λ_ hb=>hb) I.ok.zZ
theorem Inv.stack(I:Inv X pins σ H s):s.heap.FunFrames X.base X.stack:=by
 rcases I.ok.stk with e | ⟨e,a⟩
 ·rw[e];exact I.zZ
 ·rw[e];obtain⟨m,hn,_⟩:=I.loc;refine .cons (by rw[I.ok.kind];decide) a hn ?_ I.zZ;exact Heap.get?_none_of_le (Nat.le_trans I.ok.bsz I.ok.above)
theorem Inv.Du(I:Inv X pins σ H s):∀b∈frs X.stack,b∈X.env.locals::X.fs:=λb hb=>by
 rcases I.ok.stk with e | ⟨e,a⟩
 ·rw[e]at hb;exact List.mem_cons_of_mem _ hb
 ·rw[e]at hb;unfold frs at hb;rw[List.filterMap_cons,a]at hb;exact hb
theorem Inv.Rj(I:Inv X pins σ H s):∀b∈frs X.stack,H b=none:=λb hb=>by
 rcases List.mem_cons.mp (I.Du b hb)with e | hb
 ·rw[e];exact I.free
 ·obtain⟨_,o,a,_⟩:=I.ok.zZ.mem hb;exact I.base.free b o a (I.ok.frf b hb) λz=>I.ok.Zg9 b z hb
theorem Inv.step{g':Array GenState}{t':Nat}{d':Drawn}{ch:AE}(I:Inv X pins σ H s)
  (a:∀b∈ch,(b∈X.ex\/X.s₀.heap.objs.size<=b)/\b≠X.env.locals/\(∀x c,X.env.cells.lookup x=some c->c≠b)/\∀p∈X.pn++pins,p.1≠b)
  (keep:∀b o,b≠X.env.locals->b∉X.fs->b∉ch->s.heap.get? b=some o->H b=none->h'.get? b=some o)
  (slot:∀b o,b≠X.env.locals->b∈X.fs->b∉ch->s.heap.get? b=some o->H b=none->∃sl,h'.get? b=some { o with slots:=sl }) (free:∀b o,b∉ch->s.heap.get? b=some o->H b=none->H' b=none)
  (there:∀b o,b∉ch->s.heap.get? b=some o->∃C,h'.get? b=some C)
  (tups:∀b xs,H b=some (.tup xs)->H' b=some (.tup xs)) (Jt:∀b o u,H b=some (.Ac o u)->H' b=some (.Ac o u)) (JC:∀b ps,H b=some (.R3 ps)->∃A,H' b=some (.R3 (ps++A)))
  (ns:∀m,s.heap.Ns X.env.locals m->h'.Ns X.env.locals m) (hok:Dn X.prog X.w H' h') (F:AllBare g'):
  Inv X pins σ H' { s with heap:=h',gens:=g',drawn:=d',toks:=t' }:=by
 have B:∀b o,X.s₀.heap.get? b=some o->b≠X.env.locals:=λb o e=>Nat.ne_of_lt (Nat.lt_of_lt_of_le (Heap.lt_size e) I.ok.above);have h:∀b o,X.s₀.heap.get? b=some o->b∉X.ex->b∉ch:=λb o e hx hb=>by
  rcases(a b hb).1 with z | z
  ·exact hx z
  ·exact absurd (Nat.lt_of_lt_of_le (Heap.lt_size e) z) (Nat.lt_irrefl _)
 have g:∀x c,X.env.cells.lookup x=some c->∀v,s.heap.IsCell c v->h'.IsCell c v:=λx c e v ⟨o,t,hd⟩=>by
  have f:c∉ch:=λz=>(a c z).2.2.1 x c e rfl
  by_cases hc:c∈X.fs
  ·obtain⟨sl,q⟩:=slot c o (I.cne x c e) hc f t (I.uC x c e);exact⟨_,q,hd⟩
  ·exact⟨o,keep c o (I.cne x c e) hc f t (I.uC x c e),hd⟩
 refine⟨I.ok,I.os,F,⟨λb o e n hb hx=>?_,λb o e n hb hx=>?_,λb o e n hx=>?_,λb o e hx=>?_,λb xs e=>tups b xs (I.base.tups b xs e),λb o xs e=>Jt b o xs (I.base.Jt b o xs e),λb ps e=>?_⟩,?_,λx c e=>?_,?_,λx c e=>?_,λp hp=>?_,hok,I.len⟩
 ·exact keep b o (B b o e) hb (h b o e hx) (I.base.keep b o e n hb hx) (I.base.free b o e n hx)
 ·obtain⟨sl,j⟩:=I.base.slot b o e n hb hx;obtain⟨D,y⟩:=slot b _ (B b o e) hb (h b o e hx) j (I.base.free b o e n hx);exact⟨D,y⟩
 ·obtain⟨C,j⟩:=I.base.there b o e hx;exact free b C (h b o e hx) j (I.base.free b o e n hx)
 ·obtain⟨C,j⟩:=I.base.there b o e hx;exact there b C (h b o e hx) j
 ·obtain⟨J,j⟩:=I.base.JC b ps e;obtain⟨K,y⟩:=JC b _ j;exact⟨J++K,by rw[y,Array.append_assoc]⟩
 ·obtain⟨m,hn,hl⟩:=I.loc;refine⟨m,ns m hn,λi x v j y e3=>?_⟩;obtain⟨u,r,l⟩:=hl i x v j y e3;refine⟨u,r,?_⟩;rcases l with l | ⟨k,c,e,z⟩
  ·exact .inl l
  ·exact .inr ⟨k,c,e,g x c e _ z⟩
 ·obtain⟨v,z⟩:=I.cell x c e;exact⟨v,g x c e v z⟩
 ·obtain⟨m,⟨o,_,_,t,_⟩,_⟩:=I.loc;exact free _ o (λz=>(a _ z).2.1 rfl) t I.free
 ·obtain⟨v,o,t,hd⟩:=I.cell x c e;exact free c o (λz=>(a c z).2.2.1 x c e rfl) t (I.uC x c e)
 ·obtain⟨e,n,ne,E,d⟩:=I.pin p hp;have f:p.1∉ch:=λz=>(a p.1 z).2.2.2 p hp rfl;exact⟨keep p.1 p.2 ne E f e n,free p.1 p.2 f e n,ne,E,d⟩
theorem Inv.un{t':Nat}(I:Inv X pins σ H s)(u:Un X.fs [] H H' s.heap h')(hok:Dn X.prog X.w H' h'):Inv X pins σ H' { s with heap:=h',toks:=t' }:=by
 obtain⟨m,⟨o,j,i,f,r⟩,_⟩:=id I.loc;obtain⟨sl,g⟩:=u.any f I.free (by simp);exact I.step (g':=s.gens) (d':=s.drawn) (ch:=[]) (λ_ z=>nomatch z) (λb o _ hb _ e n=>u.keep b o e n hb (by simp)) (λb o _ hb _ e n=>u.slot b o e n hb (by simp)) (λb o _ e n=>u.free b o e n (by simp)) (λb o _ e=>u.there b o e (by simp)) u.tups u.Jt u.JC (λl hm=>by
  obtain⟨k,c,d,a,h⟩:=hm;rw[f]at a;cases a;exact⟨_,c,d,g,h⟩) hok I.bare
theorem Inv.call{g':Array GenState}{t':Nat}{d':Drawn}{ch:AE}(I:Inv X pins σ H s)(u:Un (frs X.stack) ch H H' s.heap h')(hok:Dn X.prog X.w H' h')(j:AllBare g')
  (a:∀b∈ch,(b∈X.ex\/X.s₀.heap.objs.size<=b)/\b≠X.env.locals/\(∀x c,X.env.cells.lookup x=some c->c≠b)/\∀p∈X.pn++pins,p.1≠b):
  Inv X pins σ H' { s with heap:=h',gens:=g',drawn:=d',toks:=t' }:=by
 obtain⟨m,⟨o,q,l,i,r⟩,_⟩:=id I.loc;obtain⟨sl,f⟩:=u.any i I.free λz=>(a _ z).2.1 rfl;exact I.step (ch:=ch) a (λb o f hb hc e n=>u.keep b o e n (λz=>(List.mem_cons.mp (I.Du b z)).elim f hb) hc) (λb o _ _ hc e n=>u.any e n hc) (λb o hc e n=>u.free b o e n hc) (λb o hc e=>u.there b o e hc) u.tups u.Jt u.JC (λv hm=>by
  obtain⟨t,g,h,d,k⟩:=hm;rw[i]at d;cases d;exact⟨_,g,h,f,k⟩) hok j
theorem Inv.turned{t':Nat}{a:AH}(I:Inv X pins σ H s)(k:∀b o,b≠a->s.heap.get? b=some o->h'.get? b=some o)(hn:H a=none)(f:a≠X.env.locals)
  (h1:a∈X.ex\/X.s₀.heap.objs.size<=a) (h2:∀x c,X.env.cells.lookup x=some c->c≠a) (h3:∀p∈X.pn++pins,p.1≠a):Inv X pins σ H { s with heap:=h',toks:=t' }:=by
 have d:∀b u,H b=some u->b≠a:=λb u e z=>by rw[z,hn]at e;cases e
 refine I.step (g':=s.gens) (d':=s.drawn) (ch:=[a]) (λb hb=>?_) (λb o _ _ hc e _=>k b o (λz=>hc (by simp[z])) e) (λb o _ _ hc e _=>⟨o.slots,k b o (λz=>hc (by simp[z])) e⟩) (λ_ _ _ _ n=>n)
  (λb o hc e=>⟨o,k b o (λz=>hc (by simp[z])) e⟩) (λ_ _ e=>e) (λ_ _ _ e=>e) (λb j e=>⟨#[],by rw[e];simp⟩) (λm hm=>?_) (λb u e=>?_) I.bare
 ·have e:b=a:=by simpa using hb
  subst e;exact⟨h1,f,h2,h3⟩
 ·obtain⟨o,i,g,h,r⟩:=hm;exact⟨o,i,g,k _ o (Ne.symm f) h,r⟩
 ·refine(I.hok b u e).stay (λc v hc q=>k c v ?_ q) (λ_ q=>q) λ_ _ q=>q;rcases hc with z | z
  ·rw[z];exact d b u e
  ·exact d c _ z
theorem Inv.tok(I:Inv X pins σ H s)(t:Nat):Inv X pins σ H { s with toks:=t }:=I.un (h':=s.heap) (t':=t) Un.refl I.hok
theorem Inv.kept{t':Nat}(I:Inv X pins σ H s)(k:∀b u,s.heap.get? b=some u->h'.get? b=some u):Inv X pins σ H { s with heap:=h',toks:=t' }:=I.un (Un.kept k) (I.hok.kept k)
theorem Inv.laid{a:AH}{o:HO}{t':Nat}(I:Inv X pins σ H s)(k:∀b u,s.heap.get? b=some u->h'.get? b=some u)(hp:s.heap.objs.size<=a)(new:lM X.prog X.w (upd H a o) h' a o):
  Inv X pins σ (upd H a o) { s with heap:=h',toks:=t' }:=I.un (Un.laid k hp (I.hok.fresh hp)) (I.hok.laid k hp new)
theorem Inv.write{x e:AH}{o:HO}{t':Nat}(I:Inv X pins σ H s)(c:Mut (H x))(d:e=x\/H e=some (.own x))(k:∀b u,b≠e->s.heap.get? b=some u->h'.get? b=some u)(a:∃u,h'.get? e=some u)
  (new:lM X.prog X.w (upd H x o) h' x o):Inv X pins σ (upd H x o) { s with heap:=h',toks:=t' }:=I.un (Un.write c d k a) (I.hok.write c d k a new)
theorem Inv.vd{a:At}(I:Inv X pins σ H s)(h:∀p∈a,s.heap.get? p.1=some p.2/\H p.1=none/\p.1≠X.env.locals/\p.1∉X.fs/\∀v,p.2.data≠.cell v):Inv X a σ H s:=
 ⟨I.ok,I.os,I.bare,I.base,I.loc,I.cell,I.free,I.uC,λp hp=>(List.mem_append.mp hp).elim (λz=>I.pin p (List.mem_append_left _ z)) (h p),I.hok,I.len⟩
theorem Zf9{N:AG}(e:N.Nodup){i j:Nat}{x:Str}(a:N[i]? =some x)(b:N[j]? =some x):i=j:=by
 obtain⟨h1,c⟩:=dY a;obtain⟨h2,d⟩:=dY b;exact(List.getElem_inj e).mp (c.trans d.symm)
theorem Zmg{M:Model}{A:Around}{E:Ap}{i:Nat}{x:Str}{v:V}{u:AI}{Q:Unit->AJ->Prop}(I:Inv X pins σ H s)(hN:X.N.Nodup)(K:X.N[i]? =some x)(hx:Loc X.env.scope x)(r:RelV v u)
  (h:∀s',Inv X pins (σ.set i (some v)) H s'->(∃a,Heap.SameBut a s.heap s'.heap/\(a=X.env.locals\/X.env.cells.lookup x=some a))->Q () s') (hf:X.fn x=true\/X.env.scope.names.lookup x=some .local:=by first | exact .inl rfl | exact .inr rfl | assumption):wpAny M A (storeName X.env x u) Q E s:=by
 obtain⟨m,hn,hl⟩:=id I.loc;have L:(X.env.scope.kind == .class || (X.env.scope.kind == .module && X.env.locals != X.env.globals))=false:=by rw[I.ok.kind];rfl
 have B:i < σ.length:=by rw[I.len];exact(dY K).1
 have cne:=I.cne;have f:∀{a:AH}{h':Heap},(∃o,s.heap.get? a=some o/\H a=none)->Heap.SameBut a s.heap h'->Dn X.prog X.w H h':=λ{a h'} ha hs b ob e=>by
  obtain⟨_,_,l⟩:=ha;refine(I.hok b ob e).stay (λc R hc q=>(hs.2 c ?_).trans q) (λ_ q=>q) λ_ _ q=>q;rintro rfl;rcases hc with rfl | hc
  ·rw[l]at e;cases e
  ·rw[l]at hc;cases hc
 rcases hx with hk | hk
 ·refine wpAny_storeName_local hk hn (λh' W hs=>?_) L;obtain⟨oL,_,_,S,_⟩:=id hn;refine h _ ⟨I.ok,I.os,I.bare,⟨λb o e n hb hx=>?_,λb o e n hb hx=>?_,I.base.free,λb o e hx=>?_,I.base.tups,I.base.Jt,I.base.JC⟩,⟨_,W,λj y U g t e3=>?_⟩,λy c e=>?_,I.free,I.uC,λp hp=>?_,f ⟨oL,S,I.free⟩ hs,by simpa using I.len⟩ ⟨_,hs,.inl rfl⟩
  ·exact(hs.2 b (Nat.ne_of_lt (Nat.lt_of_lt_of_le (Heap.lt_size e) I.ok.above))).trans (I.base.keep b o e n hb hx)
  ·obtain⟨sl,g⟩:=I.base.slot b o e n hb hx;exact⟨sl,(hs.2 b (Nat.ne_of_lt (Nat.lt_of_lt_of_le (Heap.lt_size e) I.ok.above))).trans g⟩
  ·obtain⟨Z,g⟩:=I.base.there b o e hx;exact⟨Z,(hs.2 b (Nat.ne_of_lt (Nat.lt_of_lt_of_le (Heap.lt_size e) I.ok.above))).trans g⟩
  ·by_cases D:j=i
   ·subst D;rw[K]at g;cases g;rw[List.getElem?_set_self B]at t;cases t;exact⟨u,r,.inl ⟨hk,by simp⟩⟩
   ·rw[List.getElem?_set_ne (Ne.symm D)]at t;obtain⟨u',Y,q⟩:=hl j y U g t e3;refine⟨u',Y,?_⟩;rcases q with ⟨k,e⟩ | ⟨k,c,e,z⟩
    ·refine .inl ⟨k,?_⟩;have:y≠x:=λe=>D (Zf9 hN g (e ▸ K));simp[this,e]
    ·exact .inr ⟨k,c,e,z.sameBut hs (cne y c e)⟩
  ·obtain⟨R,z⟩:=I.cell y c e;exact⟨R,z.sameBut hs (cne y c e)⟩
  ·obtain⟨e,n,ne,nf,d⟩:=I.pin p hp;exact⟨(hs.2 p.1 ne).trans e,n,ne,nf,d⟩
 ·have C:X.fn x=true:=by
   rcases hf with z | z
   ·exact z
   ·rw[z]at hk;cases hk
  obtain⟨c,hc⟩:=I.ok.has x (.inl hk);obtain⟨R,z⟩:=I.cell x c hc;refine wpAny_storeName_cell I.ok.kind hk hc z (λh' F hs=>?_);obtain⟨oc,J,T⟩:=id z;refine h { s with heap:=h' } ⟨I.ok,I.os,I.bare,⟨λb o e n hb hx=>?_,λb o e n hb hx=>?_,I.base.free,λb o e hx=>?_,I.base.tups,I.base.Jt,I.base.JC⟩,⟨m,hn.sameBut hs (Ne.symm (cne x c hc)),λj y U g t e3=>?_⟩,λy P e=>?_,I.free,I.uC,λp hp=>?_,f ⟨oc,J,I.uC x c hc⟩ hs,by simpa using I.len⟩ ⟨c,hs,.inr hc⟩
  ·exact(hs.2 b (Nat.ne_of_lt (Nat.lt_of_lt_of_le (Heap.lt_size e) (I.ok.cab x c C hc)))).trans (I.base.keep b o e n hb hx)
  ·obtain⟨sl,g⟩:=I.base.slot b o e n hb hx;exact⟨sl,(hs.2 b (Nat.ne_of_lt (Nat.lt_of_lt_of_le (Heap.lt_size e) (I.ok.cab x c C hc)))).trans g⟩
  ·obtain⟨Z,g⟩:=I.base.there b o e hx;exact⟨Z,(hs.2 b (Nat.ne_of_lt (Nat.lt_of_lt_of_le (Heap.lt_size e) (I.ok.cab x c C hc)))).trans g⟩
  ·by_cases D:j=i
   ·subst D;rw[K]at g;cases g;rw[List.getElem?_set_self B]at t;cases t;exact⟨u,r,.inr ⟨.inl hk,c,hc,F⟩⟩
   ·rw[List.getElem?_set_ne (Ne.symm D)]at t;obtain⟨u',Y,q⟩:=hl j y U g t e3;refine⟨u',Y,?_⟩;rcases q with q | ⟨k,P,e,z'⟩
    ·exact .inl q
    ·refine .inr ⟨k,P,e,z'.sameBut hs ?_⟩;rintro rfl;exact D (Zf9 hN g (I.ok.inj _ _ _ e hc ▸ K))
  ·by_cases O:P=c
   ·subst O;exact⟨_,F⟩
   ·obtain⟨w2,z2⟩:=I.cell y P e;exact⟨w2,z2.sameBut hs O⟩
  ·obtain⟨e,n,ne,nf,d⟩:=I.pin p hp;refine⟨(hs.2 p.1 ?_).trans e,n,ne,nf,d⟩;intro q;rw[q,J]at e;have q':oc=p.2:=Option.some.inj e;exact d R (by rw[<- q'];exact T)
theorem JF{M:Model}{A:Around}{E:Ap}{i:Nat}{x:Str}{v:V}{u:AI}{Q:Unit->AJ->Prop}(I:Inv X pins σ H s)(c:X.N.Nodup)(d:X.N[i]? =some x)(hx:Loc X.env.scope x)(r:RelV v u)
  (h:∀s',Inv X pins (σ.set i (some v)) H s'->Q () s') (a:X.fn x=true\/X.env.scope.names.lookup x=some .local:=by first | exact .inl rfl | exact .inr rfl | assumption):wpAny M A (storeName X.env x u) Q E s:=
 Zmg I c d hx r (λs' b _=>h s' b) a
theorem Inv.call'{s':AJ}{ch:AE}(I:Inv X pins σ H s)(f:s'.os=s.os)(u:Un (frs X.stack) ch H H' s.heap s'.heap)(hok:Dn X.prog X.w H' s'.heap)(d:AllBare s'.gens)
  (a:∀b∈ch,(b∈X.ex\/X.s₀.heap.objs.size<=b)/\b≠X.env.locals/\(∀x c,X.env.cells.lookup x=some c->c≠b)/\∀p∈X.pn++pins,p.1≠b):Inv X pins σ H' s':=by
 obtain⟨h',g',d',t',g⟩:=s';have e:g=s.os:=f;subst e;exact I.call (g':=g') (t':=t') (d':=d') u hok d a
end
abbrev XK:=AI->Option AH->Hp->Prop
abbrev St:=List (Option V)
abbrev VK:=V->Hp->Prop
abbrev TE:=St->Hp->VK->Prop
abbrev TT:=St->Hp->(Bool->Hp->Prop)->Prop
abbrev TA:=St->Hp->(List V->Hp->Prop)->Prop
structure Ends where
 nx:St->Hp->Prop
 rt:VK
 bk:St->Hp->Prop:=λ_ _=>False
 ct:St->Hp->Prop:=λ_ _=>False
abbrev TS:=Ends->St->Hp->Prop
def EP(X:Cx)(a:At)(σ:St)(Q:VK)(u:AI)(s':AJ):Prop:=∃v H',Inv X a σ H' s'/\RelV v u/\Q v H'
def TP(X:Cx)(a:At)(σ:St)(Q:Bool->Hp->Prop)(b:Bool)(s':AJ):Prop:=∃H',Inv X a σ H' s'/\Q b H'
def AP(X:Cx)(a:At)(σ:St)(Q:List V->Hp->Prop)(us:AC)(s':AJ):Prop:=∃vs H',Inv X a σ H' s'/\Vals vs us/\Q vs H'
def SP(X:Cx)(b:At)(D:Ends)(f:Flow)(s':AJ):Prop:=
 match f with
 | .next=>∃ a H',Inv X b a H' s'/\D.nx a H'
 | .brk=>∃ a H',Inv X b a H' s'/\D.bk a H'
 | .cont=>∃ a H',Inv X b a H' s'/\D.ct a H'
 | .ret u=>∃v a H',Inv X b a H' s'/\RelV v u/\D.rt v H'
def PE(X:Cx)(e:AM)(t:TE):Prop:=
 ∀(a:At) (s:AJ) (σ:St) (H:Hp) (Q:VK),Inv X a σ H s->t σ H Q->wpAny (model X.prog X.w) X.A (eval e X.env) (EP X a σ Q) X.xe s
def PT(X:Cx)(e:AM)(t:TT):Prop:=
 ∀(a:At) (s:AJ) (σ:St) (H:Hp) (Q:Bool->Hp->Prop),Inv X a σ H s->t σ H Q->wpAny (model X.prog X.w) X.A (isTrue e X.env (eval e X.env)) (TP X a σ Q) X.xe s
def PW(X:Cx)(e:AM)(t:TT):Prop:=
 ∀(b:Sem AI) (a:At) (s:AJ) (σ:St) (H:Hp) (Q:Bool->Hp->Prop),Inv X a σ H s->t σ H Q->wpAny (model X.prog X.w) X.A (isTrue e X.env b) (TP X a σ Q) X.xe s
theorem PW.pt{X:Cx}{e:AM}{t:TT}(h:PW X e t):PT X e t:=h _
def PA(X:Cx)(c:AF)(t:TA):Prop:=
 ∀(b:Pos) (a:At) (s:AJ) (σ:St) (H:Hp) (Q:List V->Hp->Prop),Inv X a σ H s->t σ H Q->wpAny (model X.prog X.w) X.A (spliced (backTo b (starEach c X.env))) (AP X a σ Q) X.xe s
def PS(X:Cx)(st:Stmt)(t:TS):Prop:=
 ∀(a:At) (s:AJ) (σ:St) (H:Hp) (D:Ends),Inv X a σ H s->t D σ H->wpAny (model X.prog X.w) X.A (exec st X.env) (SP X a D) X.xe s
def PSs(X:Cx)(st:List Stmt)(t:TS):Prop:=
 ∀(a:At) (s:AJ) (σ:St) (H:Hp) (D:Ends),Inv X a σ H s->t D σ H->wpAny (model X.prog X.w) X.A (execs st X.env) (SP X a D) X.xe s
theorem iW{b:Type}{t:Sem b}{Q c:b->AJ->Prop}{M:Model}{A:Around}{E:Ap}{s:AJ}(h:wpAny M A t Q E s)(d:∀a s,Q a s->c a s):wpAny M A t c E s:=wpAny_mono h d λ_ _ x=>x
section
variable {X:Cx}
def ak(i:Nat):TE:=λσ H Q=>∃v,σ[i]? =some (some v)/\Q v H
def tC(v:V):TE:=λ_ H Q=>Q v H
theorem Zpy{i:Nat}{x:Str}{d:Pos}(g:X.N[i]? =some x)(hv:Vis X.env.scope x)(hd:(x == ("__debug__":Str))=false:=by decide)(f:(x == ("__classdict__":Str))=false:=by decide):PE X (.Name x d) (ak i):=by
 intro b s j H Q I h;obtain⟨v,e,h⟩:=h;obtain⟨m,hn,hl⟩:=I.loc;obtain⟨u,r,l⟩:=hl i x v g e hv;have fin:EP X b j Q u s:=⟨v,H,I,r,h⟩;rcases l with ⟨hk,hm⟩ | ⟨hk,c,hc,a⟩
 ·exact wpAny_Name (wpAny_loadName_local I.ok.kind hk hn hm fin) hd
 ·rcases hk with hk | hk
  ·exact wpAny_Name (wpAny_loadName_cell I.ok.kind hk hc a fin) hd
  ·exact wpAny_Name (wpAny_loadName_free I.ok.kind hk hc a fin f) hd
theorem az{i j pos}:PE X (.Constant (.int i) j pos) (tC (.int i)):=λ_ _ _ H _ I h=>wpAny_Constant_int ⟨.int i,H,I.tok _,⟨_,rfl⟩,h⟩
theorem pL{b j pos}:PE X (.Constant (.bool b) j pos) (tC (.bl b)):=λ_ _ _ H _ I h=>Constant_bool ⟨.bl b,H,I,rfl,h⟩
theorem gj{j pos}:PE X (.Constant .none j pos) (tC .non):=λ_ _ _ H _ I h=>Constant_none ⟨.non,H,I,rfl,h⟩
theorem bI{x j pos}:PE X (.Constant (.str x) j pos) (tC (.str x)):=λ_ _ _ H _ I h=>Calls.Constant_str ⟨.str x,H,I.tok _,⟨_,rfl⟩,h⟩
def Gl(X:Cx)(x:Str):Prop:=X.env.kindOf x=some .globalImplicit
theorem vq{E:Ap}{a:At}{s:AJ}{σ:St}{H:Hp}{x:Str}{u:AI}{b:Pos}{Q:Ap}(I:Inv X a σ H s)(c:Gl X x)(hm:X.mg x=some u)(h:Q u s)
  (hd:(x == ("__debug__":Str))=false:=by decide):wpAny (model X.prog X.w) X.A (eval (.Name x b) X.env) Q E s:=
 Calls.Name_function_global I.ok.kind c (Calls.loadGlobal_global (by rw[I.ok.glob];exact I.mod.glob.keeps I.bk) hm h) hd
theorem Uu{E:Ap}{a:At}{s:AJ}{σ:St}{H:Hp}{x:Str}{u:AI}{b:Pos}{Q:Ap}(I:Inv X a σ H s)(c:Gl X x)(hm:X.mg x=none)(hv:bootBuiltins x=some u)(h:Q u s)
  (hn:x≠"__name__":=by decide) (hd:(x == ("__debug__":Str))=false:=by decide):wpAny (model X.prog X.w) X.A (eval (.Name x b) X.env) Q E s:=by
 obtain⟨d,h1,h2⟩:=I.mod.blt;exact Calls.Name_function_global I.ok.kind c (Calls.loadGlobal_builtin (by rw[I.ok.glob];exact I.mod.glob.keeps I.bk) hm (by rw[I.ok.blt];exact h1.keeps I.bk) ((h2 x hn).trans hv) h) hd
theorem Zu6{x:Str}{v:V}{u:AI}{a:Pos}(b:Gl X x)(hm:X.mg x=some u)(r:RelV v u)(hd:(x == ("__debug__":Str))=false:=by decide):PE X (.Name x a) (tC v):=
 λ_ _ _ H _ I h=>vq I b hm ⟨v,H,I,r,h⟩ hd
theorem xH{x:Str}{v:V}{u:AI}{a:Pos}(b:Gl X x)(hm:X.mg x=none)(hv:bootBuiltins x=some u)(r:RelV v u)(hn:x≠"__name__":=by decide)(hd:(x == ("__debug__":Str))=false:=by decide):PE X (.Name x a) (tC v):=
 λ_ _ _ H _ I h=>Uu I b hm hv ⟨v,H,I,r,h⟩ hn hd
variable {a b:AM}{ta tb:TE}{pos:Pos}
def PC(X:Cx)(f:CmpOp)(a b:AM)(t:TE):Prop:=
 ∀(c:At) (s:AJ) (σ:St) (H:Hp) (Q:VK),Inv X c σ H s->t σ H Q->
  wpAny (model X.prog X.w) X.A (eval a X.env) (λv e=>wpAny (model X.prog X.w) X.A (eval b X.env) (λu d=>wpAny (model X.prog X.w) X.A (compareOp f v u) (EP X c σ Q) X.xe d) X.xe e) X.xe s
theorem Zqg(b:AM){a:CmpOp}(h:a≠.In)(h2:a≠.NotIn):behindInMarks a b=false:=by
 have c:(a == CmpOp.In)=false:=by cases a<;>first | rfl | exact absurd rfl h
 have d:(a == CmpOp.NotIn)=false:=by cases a<;>first | rfl | exact absurd rfl h2
 cases b<;>simp[behindInMarks,c,d]
def tB(t:TE):TT:=λσ H Q=>t σ H λx a=>∃c,x=.bl c/\Q c a
theorem Zpo{f:CmpOp}{t:TE}(h:PC X f a b t)(h1:behindInMarks f b=false:=by first | exact Zqg _ (by decide) (by decide) | rfl):PT X (.Compare a [f] [b] pos) (tB t):=by
 intro e s i H Q I g;refine wpAny_isTrue_Compare1 (iW (h e s i H _ I g) λv k h1=>iW h1 λu j h2=>iW h2 λc l ⟨x,H1,I1,r1,q1⟩=>?_) h1;obtain⟨d,rfl,q⟩:=q1;cases r1;exact wpAny_truthy_bool ⟨H1,I1,q⟩
theorem jz{e:AM}{t:TE}(h:PE X e t)(f:∀a,isTrue e X.env a=(do let v <- a;standAt e.pos;holding [v] (truthy v)):=by intro _;rfl):PT X e (tB t):=by
 intro b s g H Q I c;refine isTrue_plain (iW (h b s g H _ I c) λv i ⟨x,H1,I1,r1,q1⟩=>?_) (f _);obtain⟨d,rfl,q⟩:=q1;cases r1;exact wpAny_truthy_bool ⟨H1,I1,q⟩
variable {tA tB':TT}{rest:AF}
def ZD(t u:TT):TT:=λσ H Q=>t σ H λc a=>if c=true then u σ a Q else Q false a
def VF(t u:TT):TT:=λσ H Q=>t σ H λc a=>if c=true then Q true a else u σ a Q
def zL(t:TT):TT:=λσ H Q=>t σ H λc a=>Q (!c) a
theorem JZ(d:PT X a tA):PW X (.BoolOp .And [a] pos) tA:=by
 intro g b s f H Q I h;refine isTrue_and (iW (d b s f H Q I h) λc i e=>?_);cases c with
 | true=>exact isTrue_and_nil e
 | false=>exact e
theorem pQ(d:PT X a tA):PW X (.BoolOp .Or [a] pos) tA:=by
 intro g b s f H Q I h;refine isTrue_or (iW (d b s f H Q I h) λc i e=>?_);cases c with
 | false=>exact isTrue_or_nil e
 | true=>exact e
theorem M6(g:PT X a tA)(hb:PW X (.BoolOp .And (b::rest) pos) tB'):PW X (.BoolOp .And (a::b::rest) pos) (ZD tA tB'):=by
 intro i d s f H Q I h;refine isTrue_and (iW (g d s f H _ I h) λc j ⟨e,I1,q1⟩=>?_);cases c with
 | true=>exact hb i d j f e Q I1 q1
 | false=>exact⟨e,I1,q1⟩
theorem q8(g:PT X a tA)(hb:PW X (.BoolOp .Or (b::rest) pos) tB'):PW X (.BoolOp .Or (a::b::rest) pos) (VF tA tB'):=by
 intro i d s f H Q I h;refine isTrue_or (iW (g d s f H _ I h) λc j ⟨e,I1,q1⟩=>?_);cases c with
 | true=>exact⟨e,I1,q1⟩
 | false=>exact hb i d j f e Q I1 q1
theorem oH(e:PT X a tA):PT X (.UnaryOp .Not a pos) (zL tA):=by
 intro b s f H Q I h;exact isTrue_not (e b s f H (λc d=>Q (!c) d) I h)
def PK(ta tb:TE):TE:=λσ H Q=>ta σ H λx a=>∃c,x=.bl c/\if c=true then tb σ a Q else Q (.bl false) a
def Zx4(ta tb:TE):TE:=λσ H Q=>ta σ H λx a=>∃c,x=.bl c/\if c=true then Q (.bl true) a else tb σ a Q
def Zl8(ta:TE):TE:=λσ H Q=>ta σ H λx a=>∃c,x=.bl c/\Q (.bl (!c)) a
theorem M8{op}{t:TE}(h:PE X a t):PE X (.BoolOp op [a] pos) t:=λb s σ H Q I c=>BoolOp_one (h b s σ H Q I c)
theorem Nb(g:PE X a ta)(hb:PE X (.BoolOp .And (b::rest) pos) tb):PE X (.BoolOp .And (a::b::rest) pos) (PK ta tb):=by
 intro d s f H Q I h;refine BoolOp_and (iW (g d s f H _ I h) λv i ⟨x,H1,I1,r1,e⟩=>?_);obtain⟨c,rfl,e⟩:=e;cases r1;refine wpAny_truthy_bool ?_;cases c with
 | true=>exact hb d i f H1 Q I1 e
 | false=>exact⟨.bl false,H1,I1,rfl,e⟩
theorem ZAp(g:PE X a ta)(hb:PE X (.BoolOp .Or (b::rest) pos) tb):PE X (.BoolOp .Or (a::b::rest) pos) (Zx4 ta tb):=by
 intro d s f H Q I h;refine BoolOp_or (iW (g d s f H _ I h) λv i ⟨x,H1,I1,r1,e⟩=>?_);obtain⟨c,rfl,e⟩:=e;cases r1;refine wpAny_truthy_bool ?_;cases c with
 | false=>exact hb d i f H1 Q I1 e
 | true=>exact⟨.bl true,H1,I1,rfl,e⟩
theorem Zq0(e:PE X a ta):PE X (.UnaryOp .Not a pos) (Zl8 ta):=by
 intro b s f H Q I h;refine UnaryOp_ (iW (e b s f H _ I h) λv g ⟨x,H1,I1,r1,d⟩=>?_);obtain⟨c,rfl,d⟩:=d;cases r1;exact not_of (wpAny_truthy_bool ⟨.bl (!c),H1,I1,rfl,d⟩)
def tIf(t:TT)(ta tb:TE):TE:=λσ H Q=>t σ H λc a=>if c=true then ta σ a Q else tb σ a Q
theorem Zej{c:AM}(hc:PT X c tA)(j:PE X a ta)(hb:PE X b tb):PE X (.IfExp c a b pos) (tIf tA ta tb):=by
 intro e s f H Q I h;refine wpAny_IfExp (iW (hc e s f H _ I h) λd i ⟨g,I1,q1⟩=>?_);cases d with
 | true=>exact j e i f g Q I1 q1
 | false=>exact hb e i f g Q I1 q1
end
def cB(K:aB)(H:Hp)(a:AH)(xs:List V):Prop:=
 Rd H a (.lst xs)\/
  ∃(o:Obj) (b:Array AI) (n:Nat),K.lookup a=some o/\o.cls=.type "list"/\o.dict=none/\o.data=.seq b n/\b.size<=sizeLine/\Vals xs b.toList
def gw(K:aB)(H:Hp)(a:AH)(xs:List V):Prop:=
 Rd H a (.tup xs)\/
  ∃(o:Obj) (b:Array AI) (n:Nat),K.lookup a=some o/\o.cls=.type "tuple"/\o.data=.seq b n/\b.size<=sizeLine/\Vals xs b.toList
def ZL4:AI->Option V
 | .none=>some .non
 | .bool b=>some (.bl b)
 | .int i _=>some (.int i)
 | .str x _=>some (.str x)
 | .bytes b _=>some (.byt b)
 | .float b _=>some (.flt b)
 | .ref a=>some (.ref a)
 | .type n=>some (.ty n)
 | _=>none
theorem RelV.abs{x:V}{u:AI}(r:RelV x u):ZL4 u=some x:=by
 cases x with
 | non=>cases r;rfl
 | bl _=>cases r;rfl
 | int _=>obtain⟨t,rfl⟩:=r;rfl
 | str _=>obtain⟨t,rfl⟩:=r;rfl
 | byt _=>obtain⟨t,rfl⟩:=r;rfl
 | flt _=>obtain⟨t,rfl⟩:=r;rfl
 | ref _=>cases r;rfl
 | ty _=>cases r;rfl
theorem RelV.inj{x y:V}{u:AI}(r:RelV x u)(q:RelV y u):x=y:=Option.some.inj (r.abs.symm.trans q.abs)
theorem Vals.inj:∀{xs a:List V}{us:AC},Vals xs us->Vals a us->xs=a
 | _,_,_,.nil,.nil=>rfl
 | _,_,_,.cons r t,.cons b t'=>by rw[r.inj b,Vals.inj t t']
section
variable {X:Cx}{pins:At}{σ:St}{H:Hp}{s:AJ}{a:AH}{xs ys:List V}
theorem cB.of{K:aB}(h:H a=some (.lst xs)):cB K H a xs:=.inl (.inl h)
theorem gw.of{K:aB}(h:H a=some (.tup xs)):gw K H a xs:=.inl (.inl h)
theorem Inv.list(I:Inv X pins σ H s)(h:cB X.K H a xs):∃b:AC,Vals xs b/\PlainL s.heap a b.toArray/\xs.length<=sizeLine:=by
 rcases h with h | ⟨o,b,n,hk,hc,hd,hs,hz,r⟩
 ·obtain⟨z,b,n,r,e⟩:=h.ok I.hok;exact⟨b,r,⟨_,n,e,rfl,rfl,rfl⟩,z⟩
 ·refine⟨b.toList,r,⟨o,n,I.Gi a o hk,hc,hd,by simpa using hs⟩,?_⟩;have e:=r.length;simp only[Array.length_toList]at e;omega
theorem Inv.tuple(I:Inv X pins σ H s)(h:gw X.K H a xs):∃b:AC,Vals xs b/\IsTup s.heap a b.toArray/\xs.length<=sizeLine:=by
 rcases h with h | ⟨o,b,n,hk,hc,hs,hz,r⟩
 ·obtain⟨z,b,r,p⟩:=h.ok I.hok;exact⟨b,r,p,z⟩
 ·refine⟨b.toList,r,⟨o,I.Gi a o hk,hc,n,by simpa using hs⟩,?_⟩;have e:=r.length;simp only[Array.length_toList]at e;omega
theorem Inv.Zfi(I:Inv X pins σ H s)(h:cB X.K H a xs)(h':cB X.K H a ys):xs=ys:=by
 obtain⟨c,r,⟨o,n,e,_,_,d⟩,_⟩:=I.list h;obtain⟨b,j,⟨l,k,f,_,_,g⟩,_⟩:=I.list h';rw[e]at f;cases f;rw[d]at g
 injection g with i _
 have:c=b:=by simpa using congrArg Array.toList i
 subst this;exact r.inj j
end
abbrev Cx.wish(X:Cx)(E:Ap):Cx:={ X with xe:=E }
abbrev Cx.nox(X:Cx):Cx:=X.wish λ_ _=>False
theorem Cx.Ok.wish{X:Cx}(ok:X.Ok)(E:Ap):(X.wish E).Ok:=
 ⟨ok.mod,ok.kind,ok.glob,ok.blt,ok.above,ok.inj,ok.has,ok.cab,ok.hd,ok.frames,ok.stk,ok.exf,ok.bs,ok.bsz,ok.WQ,ok.Zg9,ok.zZ,ok.frf⟩
theorem Cx.Ok.Ds{X:Cx}{E:Ap}(ok:(X.wish E).Ok):X.Ok:=
 ⟨ok.mod,ok.kind,ok.glob,ok.blt,ok.above,ok.inj,ok.has,ok.cab,ok.hd,ok.frames,ok.stk,ok.exf,ok.bs,ok.bsz,ok.WQ,ok.Zg9,ok.zZ,ok.frf⟩
section
variable {X:Cx}{pins:At}{σ:St}{H:Hp}{s:AJ}{E:Ap}
theorem Inv.wish(I:Inv X pins σ H s)(E:Ap):Inv (X.wish E) pins σ H s:=⟨I.ok.wish E,I.os,I.bare,I.base,I.loc,I.cell,I.free,I.uC,I.pin,I.hok,I.len⟩
theorem Inv.Ds(I:Inv (X.wish E) pins σ H s):Inv X pins σ H s:=⟨I.ok.Ds,I.os,I.bare,I.base,I.loc,I.cell,I.free,I.uC,I.pin,I.hok,I.len⟩
theorem SP.Ds{D:Ends}{f:Flow}{s':AJ}(h:SP (X.wish E) pins D f s'):SP X pins D f s':=by
 cases f with
 | next=>obtain⟨a,b,I,q⟩:=h;exact⟨a,b,I.Ds,q⟩
 | brk=>obtain⟨a,b,I,q⟩:=h;exact⟨a,b,I.Ds,q⟩
 | cont=>obtain⟨a,b,I,q⟩:=h;exact⟨a,b,I.Ds,q⟩
 | ret u=>obtain⟨v,a,b,I,r,q⟩:=h;exact⟨v,a,b,I.Ds,r,q⟩
theorem PSs.nox{st:List Stmt}{t:TS}(h:PSs X.nox st t):PSs X st t:=λpins s σ H D I a=>
 wpAny_mono (h pins s σ H D (I.wish _) a) (λ_ _ q=>q.Ds) λ_ _ z=>False.elim z
end
section
variable {X:Cx}{st:Stmt}{rest:List Stmt}{t u:TS}{e:AM}{te:TE}{pos:Pos}
def cg:TS:=λD σ H=>D.nx σ H
def aO(t u:TS):TS:=λD σ H=>t { D with nx:=u D } σ H
theorem bh:PSs X [] cg:=λ_ _ σ H _ I h=>wpAny_execs_nil ⟨σ,H,I,h⟩
theorem ao(h1:PS X st t)(h2:PSs X rest u):PSs X (st::rest) (aO t u):=by
 intro a s g H D I h;refine wpAny_execs_cons (iW (h1 a s g H { D with nx:=u D } I h) λf e q=>?_);cases f with
 | next=>
  obtain⟨b,c,d,q⟩:=q;exact h2 a e b c D d q
 | ret v=>exact q
 | brk=>exact q
 | cont=>exact q
theorem aA(h1:PS X st t):PSs X [st] t:=by
 intro a s b H D I h;refine wpAny_execs_cons (iW (h1 a s b H D I h) λf c q=>?_);cases f with
 | next=>exact wpAny_execs_nil q
 | ret v=>exact q
 | brk=>exact q
 | cont=>exact q
theorem Inv.quiet{a:At}{σ:St}{H:Hp}{s:AJ}(I:Inv X a σ H s):interactive X.env=false:=by simp[interactive,I.ok.kind]
def xg(te:TE):TS:=λD σ H=>te σ H λ_ a=>D.nx σ a
theorem rz(c:PE X e te)(hs:swapsWith e none pos.line X.env=pure false:=by rfl):PS X (.Expr e pos) (xg te):=by
 intro a s b H D I h;exact wpAny_Expr_any (iW (c a s b H _ I h) λv d ⟨x,H1,I1,r1,q1⟩=>⟨b,H1,I1,q1⟩) I.quiet hs
def bG(te:TE):TS:=λD σ H=>te σ H D.rt
theorem aM(c:PE X e te):PS X (.Return (some e) pos) (bG te):=by
 intro a s b H D I h;exact wpAny_Return_some (iW (c a s b H _ I h) λv d ⟨x,H1,I1,r1,q1⟩=>⟨x,b,H1,I1,r1,q1⟩)
def dR(c:TT)(t u:TS):TS:=λD σ H=>c σ H λb a=>if b=true then t D σ a else u D σ a
theorem cA{c:AM}{a b:List Stmt}{tc:TT}(hc:PT X c tc)(j:PSs X a t)(hb:PSs X b u):PS X (.If c a b pos) (dR tc t u):=by
 intro e s f H D I h;refine wpAny_If (iW (hc e s f H _ I h) λd i ⟨g,I1,q1⟩=>?_);cases d with
 | true=>exact j e i f g D I1 q1
 | false=>exact hb e i f g D I1 q1
end
abbrev TG:=V->St->Hp->(St->Hp->Prop)->Prop
abbrev TGs:=List V->St->Hp->(St->Hp->Prop)->Prop
def PG(X:Cx)(a:AM)(t:TG):Prop:=
 ∀(b:At) (s:AJ) (σ:St) (H:Hp) (v:V) (u:AI) (Q:St->Hp->Prop),Inv X b σ H s->RelV v u->t v σ H Q->
  wpAny (model X.prog X.w) X.A (assign a X.env u) (λ_ s'=>∃ c H',Inv X b c H' s'/\Q c H') X.xe s
def PGs(X:Cx)(ts:AF)(t:TGs):Prop:=
 ∀(a:At) (s:AJ) (σ:St) (H:Hp) (vs:List V) (us:AC) (Q:St->Hp->Prop),Inv X a σ H s->Vals vs us->t vs σ H Q->
  wpAny (model X.prog X.w) X.A (assignInOrder ((assignEach ts X.env).map (·.2)) us) (λ_ s'=>∃ b H',Inv X a b H' s'/\Q b H') X.xe s
abbrev Zol:=V->V->V->Hp->(Hp->Prop)->Prop
def ZA2(X:Cx)(t:Zol):Prop:=
 ∀(a:At) (s:AJ) (σ:St) (H:Hp) (o i v:V) (b c u:AI) (Q:Hp->Prop),Inv X a σ H s->RelV o b->RelV i c->RelV v u->t o i v H Q->
  wpAny (model X.prog X.w) X.A (setItem b c u) (λ_ s'=>∃H',Inv X a σ H' s'/\Q H') X.xe s
abbrev TIp:=V->V->Hp->VK->Prop
def PIp(X:Cx)(b:Operator)(t:TIp):Prop:=
 ∀(a:At) (s:AJ) (σ:St) (H:Hp) (x y:V) (v u:AI) (Q:VK),Inv X a σ H s->RelV x v->RelV y u->t x y H Q->
  wpAny (model X.prog X.w) X.A (inplaceOp b v u) (EP X a σ Q) X.xe s
section
variable {X:Cx}{pos:Pos}
def aN(i:Nat):TG:=λv σ H Q=>Q (σ.set i (some v)) H
theorem d8{i:Nat}{x:Str}(d:X.N.Nodup)(e:X.N[i]? =some x)(hx:Loc X.env.scope x)(b:X.fn x=true\/X.env.scope.names.lookup x=some .local:=by first | exact .inl rfl | exact .inr rfl | assumption):PG X (.Name x pos) (aN i):=by
 intro a s g H v u Q I r h;exact wpAny_assign_Name (JF I d e hx r (λf c=>⟨_,H,c,h⟩) b)
def Zo4:TGs:=λvs σ H Q=>vs=[]/\Q σ H
def Dg(t:TG)(u:TGs):TGs:=λvs σ H Q=>∃v r,vs=v::r/\t v σ H λa H'=>u r a H' Q
theorem J2:PGs X [] Zo4:=by
 intro a s b H c us Q I r h;obtain⟨e,h⟩:=h;subst e;cases r;exact assignInOrder_nil ⟨b,H,I,h⟩
theorem oR{e:AM}{b:AF}{t:TG}{u:TGs}(h1:PG X e t)(h2:PGs X b u)
  (hs:(assignEach (e::b) X.env).map (·.2)=assign e X.env::(assignEach b X.env).map (·.2):=by rfl):PGs X (e::b) (Dg t u):=by
 intro a s i H k us Q I r h;obtain⟨v,j,f,h⟩:=h;subst f;cases r with
 | cons r d=>
  rw[hs];refine assignInOrder_cons (iW (h1 a s i H _ _ _ I r h) λ_ g ⟨c,H1,I1,q1⟩=>?_);exact h2 a g c H1 _ _ Q I1 d q1
def Zo3(K:aB)(n:Nat)(t:TGs):TG:=λv σ H Q=>∃a xs,v=.ref a/\gw K H a xs/\xs.length=n/\t xs σ H Q
theorem Tn{d:AF}{k:Nat}{t:TGs}{n:Nat}(hc:X.calm=true)(h:PGs X d t)
  (hn:(assignEach d X.env).length=n:=by rfl) (g:(assignEach d X.env).findIdx? (·.1)=none:=by rfl):PG X (.Tuple d k pos) (Zo3 X.K n t):=by
 intro c s j H v u Q I r f;obtain⟨a,q,w,hq,hl,f⟩:=f;subst w;cases r;obtain⟨m,i,x,hz⟩:=I.tuple hq;refine assign_Tuple_tuple (I.ok.hd hc) x (by simp[hn,<- hl,i.length]) g λp hx=>?_;have l:Inv X c j H { s with heap:=p }:=I.kept (t':=s.toks) λb o e=>hx b o (Nat.ne_of_lt (Heap.lt_size e)) e;exact h c _ j H q _ Q l (by simpa using i) f
def Ra(to d:TE)(t:Zol):TG:=λv σ H Q=>to σ H λo a=>d σ a λi c=>t o i v c λb=>Q σ b
theorem yQ{o i:AM}{to e:TE}{t:Zol}(g:PE X o to)(f:PE X i e)(hs:ZA2 X t)
  (k:∀v,assign (.Subscript o i pos) X.env v=(do
   let b <- holding [v] (eval o X.env)
   let c <- holding [v,b] (eval i X.env)
   standAt pos
   holding [v,b,c] (setItem b c v)
   release [v,b,c] []):=by intro _;rfl):PG X (.Subscript o i pos) (Ra to e t):=by
 intro a s d H v u Q I r h;rw[k];refine wpAny_bind (wpAny_holding (iW (g a s d H _ I h) λb l ⟨x,H1,I1,r1,q1⟩=>?_));refine wpAny_bind (wpAny_holding (iW (f a l d H1 _ I1 q1) λc j ⟨y,H2,I2,r2,q2⟩=>?_));refine wpAny_bind (wpAny_standAt (wpAny_bind (wpAny_holding (iW (hs a j d H2 x y v b c u _ I2 r1 r2 r q2) λ_ n ⟨m,I3,q3⟩=>?_))));exact wpAny_release ⟨d,m,I3,q3⟩
def bH(b:TE)(g:TG):TS:=λD σ H=>b σ H λx a=>g x σ a D.nx
theorem vZ{tg e:AM}{b:TE}{g:TG}(i:PE X e b)(d:PG X tg g)(hs:swapsWithSole [tg] e pos.line X.env=pure false:=by rfl)(f:swappedStores [tg] e X.env=pure none:=by rfl)
  (h1:(assignEach [tg] X.env).map (·.2)=[assign tg X.env]:=by rfl):PS X (.Assign [tg] e pos) (bH b g):=by
 intro a s c H D I h;refine wpAny_Assign_stores (iW (i a s c H _ I h) λv j ⟨x,H1,I1,r1,q1⟩=>?_) hs f;rw[h1];exact iW (d a j c H1 x v _ I1 r1 q1) λ_ k q=>q
theorem Ti{i:Nat}{x:Str}{e:AM}{c:TE}{a:Pos}(j:X.N.Nodup)(f:X.N[i]? =some x)(hx:Loc X.env.scope x)(d:PE X e c)(hs:swapsWith e (some (.Name x a)) pos.line X.env=pure false:=by rfl)(g:X.fn x=true\/X.env.scope.names.lookup x=some .local:=by first | exact .inl rfl | exact .inr rfl | assumption):
  PS X (.Assign [.Name x a] e pos) (bH c (aN i)):=by
 intro b s l H D I h;refine wpAny_Assign_Name (iW (d b s l H _ I h) λv n ⟨y,H1,I1,r1,q1⟩=>?_) hs;exact JF I1 j f hx r1 (λm k=>⟨_,H1,k,q1⟩) g
def Zx5(i:Nat)(b:TE)(d:TIp):TS:=λD σ H=>∃x,σ[i]? =some (some x)/\b σ H λy a=>d x y a λz c=>D.nx (σ.set i (some z)) c
theorem Zxo{i:Nat}{x:Str}{e:AM}{p:TE}{j:Operator}{q:TIp}{g:Pos}(L:X.N.Nodup)(o:X.N[i]? =some x)(hx:Loc X.env.scope x)(C:PE X e p)(E:PIp X j q)(F:X.fn x=true\/X.env.scope.names.lookup x=some .local:=by first | exact .inl rfl | exact .inr rfl | assumption):
  PS X (.AugAssign (.Name x g) j e pos) (Zx5 i p q):=by
 intro a s t H D I h;obtain⟨v,J,h⟩:=h;obtain⟨m,hn,hl⟩:=I.loc;have n:Vis X.env.scope x:=by rcases hx with k | k;exact .inl k;exact .inr (.inl k)
 obtain⟨u,r,l⟩:=hl i x v o J n;refine wpAny_AugAssign_Name ?_;have go:wpAny (model X.prog X.w) X.A (eval e X.env) (λw d=>wpAny (model X.prog X.w) X.A (inplaceOp j u w) (λr f=>wpAny (model X.prog X.w) X.A (storeName X.env x r) (λ_=>SP X a D .next) X.xe f) X.xe d) X.xe s:=by
  refine iW (C a s t H _ I h) λw K ⟨y,H1,I1,r1,q1⟩=>?_;refine iW (E a K t H1 v y u w _ I1 r r1 q1) λz O ⟨M,H2,I2,r2,q2⟩=>?_;exact JF I2 L o hx r2 (λP B=>⟨_,H2,B,q2⟩) F
 rcases l with ⟨hk,hm⟩ | ⟨hk,c,hc,b⟩
 ·exact wpAny_loadName_local I.ok.kind hk hn hm go
 ·rcases hk with hk | hk
  ·exact wpAny_loadName_cell I.ok.kind hk hc b go
  ·rcases hx with k | k
   ·have:X.env.scope.names.lookup x=some .free:=hk;rw[k]at this;cases this
   ·have:X.env.scope.names.lookup x=some .free:=hk;rw[k]at this;cases this
def Zp3(to l f:TE)(a:V->V->Hp->VK->Prop)(c:TIp)(b:Zol):TS:=λD σ H=>to σ H λo e=>l σ e λi h=>a o i h λx k=>f σ k λy j=>c x y j λz g=>b o i z g λd=>D.nx σ d
def ZC9(X:Cx)(t:V->V->Hp->VK->Prop):Prop:=
 ∀(a:At) (s:AJ) (σ:St) (H:Hp) (o i:V) (b c:AI) (Q:VK),Inv X a σ H s->RelV o b->RelV i c->t o i H Q->
  wpAny (model X.prog X.w) X.A (getItem b c) (EP X a σ Q) X.xe s
theorem Ztr{o i e:AM}{to q m:TE}{f:V->V->Hp->VK->Prop}{k:TIp}{j:Zol}{n:Operator}{g:Pos}(z:PE X o to)(x:PE X i q)(r:ZC9 X f)(w:PE X e m)(hp:PIp X n k)(hs:ZA2 X j)
  (E:∀b c new,augStore i b c new=(do holding [new,b,c] (setItem b c new);release [new,b,c] [];pure .next):=by intros;rfl):PS X (.AugAssign (.Subscript o i g) n e pos) (Zp3 to q m f k j):=by
 intro a s d H D I h;refine wpAny_AugAssign_SubscriptAny (iW (z a s d H _ I h) λb J ⟨p,H1,I1,r1,q1⟩=>?_) E;refine iW (x a J d H1 _ I1 q1) λc C ⟨l,H2,I2,r2,q2⟩=>?_;refine iW (r a C d H2 p l b c _ I2 r1 r2 q2) λold K ⟨B,H3,I3,r3,q3⟩=>?_;refine iW (w a K d H3 _ I3 q3) λv y ⟨F,H4,I4,r4,q4⟩=>?_;refine iW (hp a y d H4 B F old v _ I4 r3 r4 q4) λnew t ⟨A,H5,I5,r5,q5⟩=>?_;exact iW (hs a t d H5 p l A b c new _ I5 r1 r2 r5 q5) λ_ L ⟨u,I6,q6⟩=>⟨d,u,I6,q6⟩
def ipI(f:Int->Int->Int):TIp:=λx y H Q=>∃i j,x=.int i/\y=.int j/\Q (.int (f i j)) H
theorem Zrg:PIp X .Add (ipI λi j=>i+j):=by
 intro a s g H x y v u Q I b e h;obtain⟨i,j,d,c,q⟩:=h;subst d;subst c;obtain⟨t,rfl⟩:=b;obtain⟨f,rfl⟩:=e;exact iadd_int ⟨.int _,H,I.tok _,⟨_,rfl⟩,q⟩
end
section
variable {X:Cx}{pos:Pos}
def Zox(c:TT)(f:TS):TS:=λD σ H=>∃W:Nat->St->Hp->Prop,(∃m,W m σ H)/\∀m σ H,W m σ H->
 c σ H λb d=>if b=true then ∃N:St->Hp->Prop,(∀ a H',N a H'->∃e,e<m/\W e a H')/\f { D with nx:=N,ct:=N,bk:=D.nx } σ d else D.nx σ d
theorem Zpp{c:AM}{g:List Stmt}{tc:TT}{p:TS}(hp:PassesOwn (model X.prog X.w) X.A X.env X.xe)(hc:PT X c tc)(hb:PSs X g p):PS X (.While c g [] pos) (Zox tc p):=by
 intro a s F H D I h;obtain⟨W,⟨E,w0⟩,turn⟩:=h;refine wpAny_While (codeAny_whileLoop (λn y=>∃ i q,Inv X a i q y/\W n i q) ?_ E ⟨F,H,I,w0⟩);rintro n B ⟨e,r,x,C⟩;refine wpAny_passesOwn hp (iW (hc a B e r _ x (turn n e r C)) λb z ⟨t,I2,k⟩=>?_);cases b with
 | true=>
  obtain⟨N,u,k⟩:=k;rw[if_pos rfl];refine wpAny_passesOwn hp (iW (hb a z e t _ I2 k) λf J l=>?_);cases f with
  | next=>
   obtain⟨d,j,m,n3⟩:=l;obtain⟨o,hm,w3⟩:=u d j n3;exact⟨o,hm,d,j,m,w3⟩
  | cont=>
   obtain⟨d,j,m,n3⟩:=l;obtain⟨o,hm,w3⟩:=u d j n3;exact⟨o,hm,d,j,m,w3⟩
  | brk=>exact l
  | ret v=>exact l
 | false=>
  rw[if_neg Bool.false_ne_true];exact wpAny_execs_nil ⟨e,t,I2,k⟩
end
structure It where
 go:Nat->Hp->Prop
 yld:Nat->Hp->V->Hp->Prop
 stop:Nat->Hp->Prop
def rY(X:Cx)(a:At)(H:Hp)(b:AH):Prop:=
 H b=none/\b≠X.env.locals/\b∉X.fs/\(b∈X.ex\/X.s₀.heap.objs.size<=b)/\(∀x c,X.env.cells.lookup x=some c->c≠b)/\∀p∈X.pn++a,p.1≠b
theorem Inv.Zg4{X:Cx}{a:At}{σ:St}{H H':Hp}{s:AJ}{b:AH}(I:Inv X a σ H s)(hb:s.heap.objs.size<=b)(hn:H' b=none):rY X a H' b:=by
 refine⟨hn,Nat.ne_of_gt (Nat.lt_of_lt_of_le I.lt hb),I.ZCl hb,.inr (Nat.le_trans I.sz hb),λx c e z=>?_,λp hp z=>?_⟩
 ·obtain⟨v,q⟩:=I.cell x c e;exact absurd (Nat.lt_of_lt_of_le q.lt (by rw[z];exact hb)) (Nat.lt_irrefl _)
 ·exact absurd (Nat.lt_of_lt_of_le (Heap.lt_size (I.pin p hp).1) (by rw[z];exact hb)) (Nat.lt_irrefl _)
structure Turn(P:AL)(w:AN)(K:aB)(tg:AM)(J:It)(fp:AE)(it:AH)(tn:Nat->Heap->Prop):Prop where
  mem:it∈fp
  obj:∀i h,tn i h->∀b∈fp,∃o,h.get? b=some o/\∀v,o.data≠.cell v
  keep:∀i h h',tn i h->(∀b∈fp,∀o,h.get? b=some o->h'.get? b=some o)->tn i h'
  item:∀(X:Cx),X.prog=P->X.w=w->X.K=K->X.calm=true->∀(i:Nat) (pins:At) (s:AJ) (σ:St) (H:Hp) (E:Ap),Inv X pins σ H s->(∀b∈fp,rY X pins H b)->tn i s.heap->J.go i H->
    wpAny (model P w) X.A (pyNext (.ref it)) (λr s1=>∃u,r=some u/\
      wpAny (model P w) X.A (letOwnedTupleGo tg (.ref it) u) (λ_ s2=>∃x H',Inv X pins σ H' s2/\RelV x u/\J.yld i H x H'/\tn (i+1) s2.heap/\∀b∈fp,H' b=none) E s1) E s
  done:∀(X:Cx),X.prog=P->X.w=w->X.K=K->X.calm=true->∀(i:Nat) (pins:At) (s:AJ) (σ:St) (H:Hp) (E:Ap),Inv X pins σ H s->(∀b∈fp,rY X pins H b)->tn i s.heap->J.stop i H->
    wpAny (model P w) X.A (pyNext (.ref it)) (λr s1=>r=none/\Inv X pins σ H s1) E s
  self:∀(A:Around) (i:Nat) (s:AJ) (Q:Ap) (E:Ap),tn i s.heap->Q (.ref it) s->wpAny (model P w) A (pyIter (.ref it)) Q E s
abbrev TI:=St->Hp->(It->Hp->Prop)->Prop
def PIE(X:Cx)(a:At)(σ:St)(tg:AM)(R:It->Hp->Prop)(c:AI)(e:AJ):Prop:=
 ∃(f:AH) (d:AE) (tn:Nat->Heap->Prop) (J:It) (H':Hp),c=.ref f/\Inv X a σ H' e/\Turn X.prog X.w X.K tg J d f tn/\tn 0 e.heap/\(∀b∈d,rY X a H' b)/\R J H'
def PI(X:Cx)(tg iter:AM)(c:TI):Prop:=
 ∀(a:At) (s:AJ) (σ:St) (H:Hp) (R:It->Hp->Prop),Inv X a σ H s->c σ H R->
  wpAny (model X.prog X.w) X.A (eval iter X.env) (λv b=>wpAny (model X.prog X.w) X.A (pyIter v) (PIE X a σ tg R) X.xe b) X.xe s
theorem Zrz{M:Model}{A:Around}{E:Ap}{s:AJ}{tg:AM}{b:AH}{u:AI}{o:Obj}{n:String}{vs:Array AI}{Q:Unit->AJ->Prop}(c:s.heap.get? b=some o)(hc:o.cls=.type n)(hd:o.data=.fields vs)
    (hn:["enumerate","zip","dict_itemiterator","dict_reverseitemiterator","odict_iterator","itertools.zip_longest","itertools.pairwise"].contains n=false) (a:Q () s):wpAny M A (letOwnedTupleGo tg (.ref b) u) Q E s:=by
  unfold letOwnedTupleGo;cases tg<;>first
    | exact wpAny_pure a
    | (cases u<;>first
        | exact wpAny_pure a
        | (refine wpAny_bind (wpAny_load c ?_)
           rw[hc,hd];show wpAny M A (if (["enumerate","zip","dict_itemiterator","dict_reverseitemiterator","odict_iterator","itertools.zip_longest","itertools.pairwise"].contains n && vs[0]? == some (rawInt _))=true then _ else _) Q E s;rw[if_neg (by intro h;rw[hn,Bool.false_and]at h;cases h)];exact wpAny_pure a))
def Itl(K:aB)(a:AH):It:=
 ⟨λi H=>∃xs x,cB K H a xs/\xs[i]? =some x,λi H x H'=>H'=H/\∀xs,cB K H a xs->xs[i]? =some x,λi H=>∃xs,cB K H a xs/\xs.length<=i⟩
def Itr(lo:Int)(n:Nat):It:=⟨λi _=>i<n,λi H x H'=>H'=H/\x=.int (lo+i),λi _=>n<=i⟩
theorem Zmc{P:AL}{w:AN}{K:aB}{tg:AM}(a g:AH):Turn P w K tg (Itl K a) [g] g (λi h=>h.IsListIter g a i) where
  mem:=by simp
  obj:=λi h st b hb=>by
    have e:b=g:=by simpa using hb
    subst e;obtain⟨o,e,c,d⟩:=st;exact⟨o,e,λv z=>by rw[d]at z;cases z⟩
  keep:=λi h m st k=>st.at λo e=>k g (by simp) o e
  item:=by
    intro X B r J hc i f s L H E I l st n;subst B r J;obtain⟨R,x,hq,hx⟩:=n;obtain⟨y,F,p,hz⟩:=I.list hq;obtain⟨u,hu,O⟩:=F.get hx;obtain⟨C,t,Q,D,A,q⟩:=l g (by simp);refine wpAny_pyNext_list_item st p.isList (x:=u) (by simpa using hu) λm j sb=>?_;have N:Inv X f L H { s with heap:=m }:=I.turned (t':=s.toks) (λb o hb e=>(sb.2 b hb).trans e) C t D A q;obtain⟨o,e,c,d⟩:=id j;exact⟨u,rfl,Zrz (s:={ s with heap:=m }) e c d (by decide) ⟨x,H,N,O,⟨rfl,λS hy=>by rw[I.Zfi hy hq];exact hx⟩,j,λb hb=>(l b hb).1⟩⟩
  done:=by
    intro X B r J hc i f s L H E I l st n;subst B r J;obtain⟨R,hq,hx⟩:=n;obtain⟨y,F,p,hz⟩:=I.list hq;obtain⟨C,t,Q,D,A,q⟩:=l g (by simp);have hl:=F.length;exact wpAny_pyNext_list_end (I.ok.hd hc) st p.isList (by simp;omega) λm M=>⟨rfl,I.turned (t':=s.toks) (λb o hb e=>M b o hb e) C t D A q⟩
  self:=λ_ _ _ _ _ st h=>wpAny_pyIter_listiter st h
theorem Zhc{P:AL}{w:AN}{K:aB}{tg:AM}(c:AH)(lo:Int)(n:Nat):Turn P w K tg (Itr lo n) [c] c (λi h=>IsRangeIter h c (lo+(i:Nat) * 1) ((n:Int) - (i:Nat)) 1) where
  mem:=by simp
  obj:=λi h st b hb=>by
    have e:b=c:=by simpa using hb
    subst e;exact⟨_,st,λv z=>by
      have D:Data.fields _=Data.cell v:=z;cases D⟩
  keep:=λi h g st k=>k c (by simp) _ st
  item:=by
    intro X r m y hc i a s A H E I f st j;subst r m y;obtain⟨u,p,F,x,q,l⟩:=f c (by simp);have W:=Walks.range (prog:=X.prog) (w:=X.w) (I.ok.hd hc) c lo 1 n;refine W.item i s _ _ j st λv g tk hv d kk=>?_;obtain⟨t,rfl⟩:=hv;have C:Inv X a A H { s with heap:=g,toks:=tk }:=I.turned (λb o hb e=>kk b o (by simpa using hb) e) u p x q l;refine⟨_,rfl,Zrz (s:={ s with heap:=g,toks:=tk }) (n:="range_iterator") d rfl rfl (by decide) ⟨.int (lo+i),H,C,⟨t,?_⟩,⟨rfl,rfl⟩,d,λb hb=>(f b hb).1⟩⟩;rw[Int.mul_one]
  done:=by
    intro X r m y hc i a s A H E I f st j;subst r m y;obtain⟨u,p,F,x,q,l⟩:=f c (by simp);exact wpAny_pyNext_range_end (I.ok.hd hc) st (by have:n<=i:=j;omega) λg B=>⟨rfl,I.turned (t':=s.toks) (λb o hb e=>B b o hb e) u p x q l⟩
  self:=λ_ _ _ _ _ st h=>wpAny_pyIter_rangeiter st h
section
variable {X:Cx}{tg:AM}
def pY(K:aB)(tl:TE):TI:=λσ H R=>tl σ H λx b=>∃a,x=.ref a/\(∃xs,cB K b a xs)/\R (Itl K a) b
theorem jR{l:AM}{tl:TE}(hl:PE X l tl):PI X tg l (pY X.K tl):=by
 intro c s g H R I h;refine iW (hl c s g H _ I h) λv d ⟨x,H1,I1,r1,q1⟩=>?_;obtain⟨a,e,⟨i,hq⟩,q⟩:=q1;subst e;cases r1;obtain⟨f,j,p,hz⟩:=I1.list hq;refine wpAny_pyIter_list p.isList ?_;refine⟨d.heap.objs.size,[d.heap.objs.size],_,_,H1,rfl,I1.kept (t':=d.toks) λb o e=>Heap.get?_push_of_some _ e,Zmc a _,⟨_,Heap.get?_push_size _ rfl,rfl,rfl⟩,λb hb=>?_,q⟩;have e:b=d.heap.objs.size:=by simpa using hb
 subst e;exact I1.Zg4 (Nat.le_refl _) (I1.hok.fresh (Nat.le_refl _))
theorem Zpg{c:At}{σ:St}{H:Hp}{s:AJ}{R:It->Hp->Prop}{E:Ap}{lo a:Int}{t u v:Tok}{tk:Nat}(I:Inv X c σ H s)(h1:-(2 ^ 62)<=lo)(h2:lo<2 ^ 62)(h3:-(2 ^ 62)<=a)(h4:a<2 ^ 62)
  (q:R (Itr lo (a - lo).toNat) H):wpAny (model X.prog X.w) X.A (pyIter (.ref s.heap.objs.size)) (PIE X c σ tg R) E { s with heap:=s.heap.push { cls:=.type "range",data:=.fields #[.int lo t,.int a u,.int 1 v] },toks:=tk }:=by
 refine wpAny_pyIter_range (IsRange.new ..) (small_one h1 h2 h3 h4) ?_;have d:Inv X c σ H { s with heap:=s.heap.push { cls:=.type "range",data:=.fields #[.int lo t,.int a u,.int 1 v] },toks:=tk }:=I.kept λb o e=>Heap.get?_push_of_some _ e;refine⟨(s.heap.push { cls:=.type "range",data:=.fields #[.int lo t,.int a u,.int 1 v] }).objs.size,[(s.heap.push { cls:=.type "range",data:=.fields #[.int lo t,.int a u,.int 1 v] }).objs.size],_,_,H,rfl,
  d.kept (t':=tk) λb o e=>Heap.get?_push_of_some _ e,Zhc _ lo (a - lo).toNat,?_,λb hb=>?_,q⟩
 ·have g:lo+((0:Nat):Int) * 1=lo:=by simp
  have f:(((a - lo).toNat:Nat):Int) - ((0:Nat):Int)=Builtin.Range.rangeSize lo a 1:=by rw[rangeSize_one];split<;>omega
  show IsRangeIter _ _ (lo+((0:Nat):Int) * 1) ((((a - lo).toNat:Nat):Int) - ((0:Nat):Int)) 1;rw[g,f];exact Heap.get?_push_size _ rfl
 ·have e:b=(s.heap.push { cls:=.type "range",data:=.fields #[.int lo t,.int a u,.int 1 v] }).objs.size:=by simpa using hb
  subst e;exact d.Zg4 (Nat.le_refl _) (d.hok.fresh (Nat.le_refl _))
def Df(b:TA):TI:=λσ H R=>b σ H λvs a=>∃j:Int,vs=[.int j]/\-(2 ^ 62)<=j/\j<2 ^ 62/\R (Itr 0 j.toNat) a
theorem oA{a:AM}{f:TA}{p b:Pos}(g:Gl X "range")(hm:X.mg "range"=none)(k:PA X [a] f)(hs:starEach [a] X.env=[(false,eval a X.env)]:=by rfl):PI X tg (.Call (.Name "range" p) [a] [] b) (Df f):=by
 intro c s m H R I h;refine Call_ (Uu I g hm boot_range (PyProof.Rows.callWith_type1 (iW (k b c s m H _ I h) λus o ⟨n,H1,I1,r1,d⟩=>?_) hs rfl));obtain⟨j,e,d,i,q⟩:=d;subst e;cases r1 with
 | cons r l=>
  cases l;obtain⟨t,rfl⟩:=r;exact call_range_1 (Zpg I1 (by omega) (by omega) d i (by simpa using q))
def wV(h:TI)(g:TG)(d:TS):TS:=λD σ H=>h σ H λJ e=>∃W:Nat->Nat->St->Hp->Prop,(∃m,W 0 m σ e)/\∀i m σ H,W i m σ H->
 (J.stop i H/\D.nx σ H)\/(J.go i H/\∃N:St->Hp->Prop,(∀ a H',N a H'->∃c,c<m/\W (i+1) c a H')/\∀x H',J.yld i H x H'->g x σ H' λb f=>d { D with nx:=N,ct:=N,bk:=D.nx } b f)
def yP(a:AE)(h:Heap):At:=a.filterMap λb=>(h.get? b).map λo=>(b,o)
theorem oW{a:AE}{h:Heap}{b:AH}{o:Obj}(hb:b∈a)(e:h.get? b=some o):(b,o)∈yP a h:=List.mem_filterMap.mpr ⟨b,hb,by rw[e];rfl⟩
theorem NK{a:AE}{h:Heap}{p:AH×Obj}(hp:p∈yP a h):p.1∈a/\h.get? p.1=some p.2:=by
 obtain⟨b,hb,e⟩:=List.mem_filterMap.mp hp;cases q:h.get? b with
 | none=>rw[q]at e;cases e
 | some o=>
  rw[q]at e;have c:(b,o)=p:=Option.some.inj e;subst c;exact⟨hb,q⟩
theorem Inv.pinned{a:At}{σ:St}{H:Hp}{s:AJ}{c:AE}(I:Inv X a σ H s)(i:∀b∈c,rY X a H b)(h:∀b∈c,∃o,s.heap.get? b=some o/\∀v,o.data≠.cell v):Inv X (a++yP c s.heap) σ H s:=
 I.vd λp hp=>(List.mem_append.mp hp).elim (λz=>I.pin p (List.mem_append_right _ z)) λz=>by
  obtain⟨hb,e⟩:=NK z;obtain⟨k,g,j,_⟩:=i p.1 hb;obtain⟨o,f,d⟩:=h p.1 hb;rw[e]at f;cases f;exact⟨e,k,g,j,d⟩
theorem Inv.JB{a pl:At}{σ:St}{H:Hp}{s:AJ}(I:Inv X (a++pl) σ H s):Inv X a σ H s:=I.vd λp hp=>I.pin p (List.mem_append_right _ (List.mem_append_left _ hp))
theorem mQ{iter:AM}{y:List Stmt}{Z:TI}{g:TG}{Q:TS}{O:Pos}(hp:PassesOwn (model X.prog X.w) X.A X.env X.xe)(hc:X.calm=true)(hi:PI X tg iter Z)(hg:PG X tg g)(hb:PSs X y Q)
  (hs:∀x,foldedSetIterable iter X.env x=pure x:=by intro _;rfl):PS X (.For tg iter y [] O) (wV Z g Q):=by
 intro c s V H D I h;refine wpAny_For (iW (hi c s V H _ I h) λv s1 h1=>iW h1 λitv s2 h2=>?_) hs;obtain⟨it,C,tn,J,H2,e,I2,T,L,R,W,⟨m0,w0⟩,turn⟩:=h2;subst e;have q:∀{t:Hp},(∀b∈C,t b=none)->∀b∈C,rY X c t b:=λhn b hb=>⟨hn b hb,(R b hb).2⟩;refine codeAny_forLoop_any (λn U=>∃i l t,Inv X c l t U/\tn i U.heap/\(∀b∈C,t b=none)/\W i n l t) ?_ m0 ⟨0,V,H2,I2,L,λb hb=>(R b hb).1,w0⟩;rintro n S ⟨i,p,F,I3,E,B,w3⟩;rcases turn i n p F w3 with ⟨stop,qn⟩ | ⟨go,N,hN,step⟩
 ·refine wpAny_passesOwn hp (iW (T.done X rfl rfl rfl hc i c S p F X.xe I3 (q B) E stop) λr s4 ⟨hr,I4⟩=>?_);subst hr;exact wpAny_execs_nil ⟨p,F,I4,qn⟩
 ·refine wpAny_passesOwn hp (iW (T.item X rfl rfl rfl hc i c S p F X.xe I3 (q B) E go) λr s4 ⟨u,hr,h4⟩=>?_);subst hr;refine wpAny_passesOwn hp (iW h4 λ_ Y ⟨x,H5,I5,r5,y5,st5,fr5⟩=>?_);have P:=I5.pinned (q fr5) (T.obj _ _ st5);refine wpAny_passesOwn hp (iW (hg _ Y p H5 x u _ P r5 (step x H5 y5)) λ_ s6 ⟨K,H6,I6,q6⟩=>?_);refine wpAny_passesOwn hp (iW (hb _ s6 K H6 _ I6 q6) λf M z=>?_);have again:∀{a:St}{k:Hp},Inv X (c++yP C Y.heap) a k M->N a k->∃m,m<n/\∃i l t,Inv X c l t M/\tn i M.heap/\(∀b∈C,t b=none)/\W i m l t:=λ{a k} j n7=>by
   obtain⟨m',hm,w7⟩:=hN a k n7;refine⟨m',hm,i+1,a,k,j.JB,T.keep _ _ _ st5 λb hb o e=>(j.pin (b,o) (List.mem_append_right _ (List.mem_append_right _ (oW hb e)))).1,λb hb=>?_,w7⟩;obtain⟨o,e,d⟩:=T.obj _ _ st5 b hb;exact(j.pin (b,o) (List.mem_append_right _ (List.mem_append_right _ (oW hb e)))).2.1
  cases f with
  | next=>obtain⟨a,k,j,n7⟩:=z;exact again j n7
  | cont=>obtain⟨a,k,j,n7⟩:=z;exact again j n7
  | brk=>obtain⟨a,k,j,z⟩:=z;exact⟨a,k,j.JB,z⟩
  | ret v=>obtain⟨x7,a,k,j,r7,z⟩:=z;exact⟨x7,a,k,j.JB,r7,z⟩
end
theorem Zs4{K:aB}{a:AH}{xs:List V}{g:TG}{h:TS}{D:Ends}{σ:St}{H:Hp}(Pv:Nat->St->Hp->Prop)(n:Pv 0 σ H)(hl:∀i σ H,i<=xs.length->Pv i σ H->cB K H a xs)
  (hs:∀i x σ H,xs[i]? =some x->Pv i σ H->g x σ H λb f=>h { D with nx:=Pv (i+1),ct:=Pv (i+1),bk:=D.nx } b f) (hd:∀ σ H,Pv xs.length σ H->D.nx σ H):
  ∃W:Nat->Nat->St->Hp->Prop,(∃m,W 0 m σ H)/\∀i m σ H,W i m σ H->
   ((Itl K a).stop i H/\D.nx σ H)\/((Itl K a).go i H/\∃N:St->Hp->Prop,(∀ c H',N c H'->∃j,j<m/\W (i+1) j c H')/\∀x H',(Itl K a).yld i H x H'->g x σ H' λb f=>h { D with nx:=N,ct:=N,bk:=D.nx } b f):=by
 refine⟨λi m σ H=>m=xs.length - i/\i<=xs.length/\Pv i σ H,⟨xs.length,by simp,Nat.zero_le _,n⟩,?_⟩;rintro i m σ H ⟨rfl,l,p⟩;have q:=hl i σ H l p
 by_cases d:i<xs.length
 ·refine .inr ⟨⟨xs,xs[i],q,by simp[d]⟩,Pv (i+1),λc H' k=>⟨xs.length - (i+1),by omega,rfl,d,k⟩,λx H' y=>?_⟩;obtain⟨e,y⟩:=y;subst e;exact hs i x σ _ (y xs q) p
 ·have e:i=xs.length:=by omega
  subst e;exact .inl ⟨⟨xs,q,Nat.le_refl _⟩,hd σ H p⟩
theorem Zo5{lo:Int}{n:Nat}{g:TG}{f:TS}{D:Ends}{σ:St}{H:Hp}(Pv:Nat->St->Hp->Prop)(k:Pv 0 σ H)
  (hs:∀i σ H,i<n->Pv i σ H->g (.int (lo+i)) σ H λa d=>f { D with nx:=Pv (i+1),ct:=Pv (i+1),bk:=D.nx } a d) (hd:∀ σ H,Pv n σ H->D.nx σ H):
  ∃W:Nat->Nat->St->Hp->Prop,(∃m,W 0 m σ H)/\∀i m σ H,W i m σ H->
   ((Itr lo n).stop i H/\D.nx σ H)\/((Itr lo n).go i H/\∃N:St->Hp->Prop,(∀ b H',N b H'->∃h,h<m/\W (i+1) h b H')/\∀x H',(Itr lo n).yld i H x H'->g x σ H' λa d=>f { D with nx:=N,ct:=N,bk:=D.nx } a d):=by
 refine⟨λi m σ H=>m=n - i/\i<=n/\Pv i σ H,⟨n,by simp,Nat.zero_le _,k⟩,?_⟩;rintro i m σ H ⟨rfl,l,p⟩
 by_cases c:i<n
 ·refine .inr ⟨c,Pv (i+1),λb H' j=>⟨n - (i+1),by omega,rfl,c,j⟩,λx H' y=>?_⟩;obtain⟨e,y⟩:=y;subst e y;exact hs i σ _ c p
 ·have e:i=n:=by omega
  subst e;exact .inl ⟨Nat.le_refl _,hd σ H p⟩
abbrev R2:=V->V->Hp->VK->Prop
def zK(X:Cx)(f:AI->AI->Sem AI)(r:R2):Prop:=
 ∀(a:At) (s:AJ) (σ:St) (H:Hp) (x y:V) (v u:AI) (Q:VK),Inv X a σ H s->RelV x v->RelV y u->r x y H Q->
  wpAny (model X.prog X.w) X.A (f v u) (EP X a σ Q) X.xe s
def UnR(X:Cx)(f:AI->Sem AI)(r:V->Hp->VK->Prop):Prop:=
 ∀(a:At) (s:AJ) (σ:St) (H:Hp) (x:V) (v:AI) (Q:VK),Inv X a σ H s->RelV x v->r x H Q->
  wpAny (model X.prog X.w) X.A (f v) (EP X a σ Q) X.xe s
def QF(X:Cx)(f:AI)(r:List V->Hp->VK->Prop):Prop:=
 ∀(a:At) (s:AJ) (σ:St) (H:Hp) (xs:List V) (us:AC) (Q:VK),Inv X a σ H s->Vals xs us->r xs H Q->
  wpAny (model X.prog X.w) X.A (call f us) (EP X a σ Q) X.xe s
def ZL5(X:Cx)(r:V->Hp->(Bool->Hp->Prop)->Prop):Prop:=
 ∀(a:At) (s:AJ) (σ:St) (H:Hp) (x:V) (v:AI) (Q:Bool->Hp->Prop),Inv X a σ H s->RelV x v->r x H Q->
  wpAny (model X.prog X.w) X.A (truthy v) (TP X a σ Q) X.xe s
def bA(r:R2)(b c:TE):TE:=λσ H Q=>b σ H λx a=>c σ a λy d=>r x y d Q
def tUn(r:V->Hp->VK->Prop)(b:TE):TE:=λσ H Q=>b σ H λx a=>r x a Q
def rI(C:Int->Int->Prop)(g:Int->Int->V):R2:=λx y H Q=>∃i j,x=.int i/\y=.int j/\C i j/\Q (g i j) H
def pD(g:Int->Int->V):R2:=λx y H Q=>∃i j,x=.int i/\y=.int j/\Q (g i j) H
def rU(g:Int->V):V->Hp->VK->Prop:=λx H Q=>∃i,x=.int i/\Q (g i) H
section
variable {X:Cx}{a b c:AM}{ta tb tc:TE}{pos:Pos}
theorem Zzu(l:PE X a ta)(hb:PE X b tb){c:At}{s:AJ}{σ:St}{H:Hp}{R:V->V->Hp->Prop}(I:Inv X c σ H s)
  (h:ta σ H λx j=>tb σ j λy d=>R x y d) {Q:Ap}{f:AI->AI->Sem AI}
  (k:∀v u i x y d,Inv X c σ d i->RelV x v->RelV y u->R x y d->wpAny (model X.prog X.w) X.A (f v u) Q X.xe i):
  wpAny (model X.prog X.w) X.A (eval a X.env) (λv g=>wpAny (model X.prog X.w) X.A (eval b X.env) (λu e=>wpAny (model X.prog X.w) X.A (f v u) Q X.xe e) X.xe g) X.xe s:=by
 refine iW (l c s σ H _ I h) λv m ⟨x,j,I1,r1,q1⟩=>?_;refine iW (hb c m σ j _ I1 q1) λu i ⟨y,d,I2,r2,q2⟩=>?_;exact k v u i x y d I2 r1 r2 q2
theorem aZ{d:Operator}{r:R2}(e:zK X (binaryOp d) r)(j:PE X a ta)(hb:PE X b tb):PE X (.BinOp a d b pos) (bA r ta tb):=by
 intro c s l H Q I h;exact wpAny_BinOp (Zzu j hb I h λv u g x y i k f m q=>e c g l i x y v u Q k f m q)
theorem ZAo{c:UnaryOp}{r:V->Hp->VK->Prop}(e:UnR X (unaryOp c) r)(f:PE X a ta):PE X (.UnaryOp c a pos) (tUn r ta):=by
 intro b s d H Q I h;exact UnaryOp_ (iW (f b s d H _ I h) λv g ⟨x,H1,I1,r1,q1⟩=>e b g d H1 x v Q I1 r1 q1)
theorem opI{f:AI->AI->Sem AI}{C:Int->Int->Prop}{g:Int->Int->Int}
  (rule:∀(i j:Int) (t u:Tok) (s:AJ) (Q:Ap) (E:Ap),C i j->Q (.int (g i j) s.toks) { s with toks:=s.toks+1 }->wpAny (model X.prog X.w) X.A (f (.int i t) (.int j u)) Q E s):
  zK X f (rI C λi j=>.int (g i j)):=by
 intro a s e H x y v u Q I b d h;obtain⟨i,j,rfl,rfl,hc,q⟩:=h;obtain⟨t,rfl⟩:=b;obtain⟨c,rfl⟩:=d;exact rule i j t c s _ _ hc ⟨.int (g i j),H,I.tok _,⟨_,rfl⟩,q⟩
theorem Zub{f:AI->AI->Sem AI}{g:Int->Int->Int}
  (rule:∀(i j:Int) (t u:Tok) (s:AJ) (Q:Ap) (E:Ap),Q (.int (g i j) s.toks) { s with toks:=s.toks+1 }->wpAny (model X.prog X.w) X.A (f (.int i t) (.int j u)) Q E s):
  zK X f (pD λi j=>.int (g i j)):=by
 intro a s e H x y v u Q I b d h;obtain⟨i,j,rfl,rfl,q⟩:=h;obtain⟨t,rfl⟩:=b;obtain⟨c,rfl⟩:=d;exact rule i j t c s _ _ ⟨.int (g i j),H,I.tok _,⟨_,rfl⟩,q⟩
theorem Zuc{f:AI->AI->Sem AI}{g:Int->Int->Bool}
  (rule:∀(i j:Int) (t u:Tok) (s:AJ) (Q:Ap) (E:Ap),Q (.bool (g i j)) s->wpAny (model X.prog X.w) X.A (f (.int i t) (.int j u)) Q E s):
  zK X f (pD λi j=>.bl (g i j)):=by
 intro a s e H x y v u Q I b d h;obtain⟨i,j,rfl,rfl,q⟩:=h;obtain⟨t,rfl⟩:=b;obtain⟨c,rfl⟩:=d;exact rule i j t c s _ _ ⟨.bl (g i j),H,I,rfl,q⟩
def Pz(i j:Int):Prop:=0<j/\j<1073741824
def Vv(i j:Int):Prop:=0<=j/\j<=1000000/\i.natAbs<2 ^ 64
def Vw(i j:Int):Prop:=(-(2 ^ 64)<i/\i<2 ^ 64)\/(-(2 ^ 64)<j/\j<2 ^ 64)
theorem Vw.ok{i j:Int}(h:Vw i j):IntMulOk i j:=by
 rcases h with ⟨h1,h2⟩ | ⟨h1,h2⟩
 ·exact .of_left (intBits_le_64 h1 h2)
 ·exact .of_right (intBits_le_64 h1 h2)
theorem Zhb(k:Nat):(0:Int)<=2 ^ k:=by
 rw[two_pow_cast];exact Int.natCast_nonneg _
theorem mC:zK X (binaryOp .Add) (pD λi j=>.int (i+j)):=Zub λ_ _ _ _ _ _ _ q=>add_int q
theorem Cd:zK X (binaryOp .Sub) (pD λi j=>.int (i - j)):=Zub λ_ _ _ _ _ _ _ q=>sub_int q
theorem Nu:zK X (binaryOp .Mult) (rI Vw λi j=>.int (i * j)):=opI λ_ _ _ _ _ _ _ hc q=>mul_int q hc.ok
theorem rA:zK X (binaryOp .FloorDiv) (rI Pz λi j=>.int (i / j)):=opI λi j _ _ _ _ _ hc q=>by
 have h1:(0:Int)<j:=hc.1;have h2:j<1073741824:=hc.2;exact floordiv_int (by omega) (by rw[Int.fdiv_eq_ediv_of_nonneg i (by omega)];exact q) (.inl (PyProof.noPylong_small (by omega)))
theorem gB:zK X (binaryOp .Mod) (rI (λ_ j=>0<j) λi j=>.int (i % j)):=opI λi j _ _ _ _ _ hc q=>by
 have h1:(0:Int)<j:=hc;exact mod_int' (by omega) (by rw[Int.fmod_eq_emod_of_nonneg i (by omega)];exact q)
theorem Zas:zK X (binaryOp .Pow) (rI Vv λi j=>.int (i ^ j.toNat)):=opI λ_ _ _ _ _ _ _ hc q=>pow_int_small hc.1 hc.2.1 hc.2.2 q
theorem Zar:zK X (binaryOp .LShift) (rI Vv λi j=>.int (i * 2 ^ j.toNat)):=opI λ_ _ _ _ _ _ _ hc q=>lshift_int_small hc.1 hc.2.1 hc.2.2 q
theorem Nt:zK X (binaryOp .RShift) (rI (λ_ j=>0<=j) λi j=>.int (i / 2 ^ j.toNat)):=opI λi j _ _ _ _ _ hc q=>
 rshift_int hc (by rw[Int.fdiv_eq_ediv_of_nonneg i (Zhb _)];exact q)
theorem FN:zK X (binaryOp .BitAnd) (pD λi j=>.int (Builtin.bitAnd i j)):=Zub λ_ _ _ _ _ _ _ q=>and_int q
theorem Zwl:zK X (binaryOp .BitOr) (pD λi j=>.int (Builtin.bitOr i j)):=Zub λ_ _ _ _ _ _ _ q=>or_int q
theorem unI{f:AI->Sem AI}{g:Int->Int}
  (rule:∀(i:Int) (t:Tok) (s:AJ) (Q:Ap) (E:Ap),Q (.int (g i) s.toks) { s with toks:=s.toks+1 }->wpAny (model X.prog X.w) X.A (f (.int i t)) Q E s):
  UnR X f (rU λi=>.int (g i)):=by
 intro a s c H x v Q I b h;obtain⟨i,rfl,q⟩:=h;obtain⟨t,rfl⟩:=b;exact rule i t s _ _ ⟨.int (g i),H,I.tok _,⟨_,rfl⟩,q⟩
theorem Zwv:UnR X (unaryOp .USub) (rU λi=>.int (-i)):=unI λ_ _ _ _ _ q=>neg_int q
end
def ZAi:V->V->Bool
 | .non,.non=>true | .non,.int _=>true | .int _,.non=>true | .non,.bl _=>true | .bl _,.non=>true | .non,.str _=>true | .str _,.non=>true
 | .int _,.int _=>true | .bl _,.bl _=>true | .str _,.str _=>true | .byt _,.byt _=>true
 | .int _,.str _=>true | .str _,.int _=>true | .bl _,.str _=>true | .str _,.bl _=>true
 | _,_=>false
def xr:R2:=λx y H Q=>ZAi x y=true/\Q (.bl (decide (x=y))) H
def rNe:R2:=λx y H Q=>ZAi x y=true/\Q (.bl (!decide (x=y))) H
theorem Zlx{i j:Int}:decide (V.int i=V.int j)=(i == j):=by
 rw[Bool.eq_iff_iff];simp
theorem Zsk{i j:Bool}:decide (V.bl i=V.bl j)=(i == j):=by
 rw[Bool.eq_iff_iff];simp
theorem Zlw{i j:Str}:decide (V.str i=V.str j)=(i == j):=by
 rw[Bool.eq_iff_iff];simp
theorem Zly{i j:Array UInt8}:decide (V.byt i=V.byt j)=(i.toList == j.toList):=by
 rw[Bool.eq_iff_iff];cases i;cases j;simp
section
variable {X:Cx}{a b c:AM}{ta tb tc:TE}{pos:Pos}
theorem eG{a:At}{σ:St}{H:Hp}{s:AJ}{Q:VK}{k b:Bool}(I:Inv X a σ H s)(q:Q (.bl k) H)(e:k=b):EP X a σ Q (.bool b) s:=by
 subst e;exact⟨.bl k,H,I,rfl,q⟩
theorem iU:zK X (compareOp .Eq) xr:=by
 intro d s e H x y v u Q I c a h;obtain⟨hs,q⟩:=h;cases x with
 | non=>
  cases c;cases y with
  | non=>cases a;exact PySem.EqNone.eq_none_none (eG I q (by simp))
  | bl j=>cases a;exact PySem.EqNone.eq_none_bool (eG I q (by simp))
  | int j=>obtain⟨b,rfl⟩:=a;exact PySem.EqNone.eq_none_int (eG I q (by simp))
  | str j=>obtain⟨b,rfl⟩:=a;exact PySem.EqNone.eq_none_str (eG I q (by simp))
  | _=>exact absurd (show false=true from hs) Bool.false_ne_true
 | bl i=>
  cases c;cases y with
  | non=>cases a;exact PySem.EqNone.eq_bool_none (eG I q (by simp))
  | bl j=>cases a;exact eq_bool (eG I q Zsk)
  | str j=>obtain⟨b,rfl⟩:=a;exact PySem.EqMixed.eq_bool_str (eG I q (by simp))
  | _=>exact absurd (show false=true from hs) Bool.false_ne_true
 | int i=>
  obtain⟨t,rfl⟩:=c;cases y with
  | non=>cases a;exact PySem.EqNone.eq_int_none (eG I q (by simp))
  | int j=>obtain⟨b,rfl⟩:=a;exact eq_int (eG I q Zlx)
  | str j=>obtain⟨b,rfl⟩:=a;exact PySem.EqMixed.eq_int_str (eG I q (by simp))
  | _=>exact absurd (show false=true from hs) Bool.false_ne_true
 | str i=>
  obtain⟨t,rfl⟩:=c;cases y with
  | non=>cases a;exact PySem.EqNone.eq_str_none (eG I q (by simp))
  | bl j=>cases a;exact PySem.EqMixed.eq_str_bool (eG I q (by simp))
  | int j=>obtain⟨b,rfl⟩:=a;exact PySem.EqMixed.eq_str_int (eG I q (by simp))
  | str j=>obtain⟨b,rfl⟩:=a;exact eq_str (eG I q Zlw)
  | _=>exact absurd (show false=true from hs) Bool.false_ne_true
 | byt i=>
  obtain⟨t,rfl⟩:=c;cases y with
  | byt j=>obtain⟨b,rfl⟩:=a;exact W.eq_bytes (eG I q Zly)
  | _=>exact absurd (show false=true from hs) Bool.false_ne_true
 | _=>cases y<;>exact absurd (show false=true from hs) Bool.false_ne_true
theorem HW:zK X (compareOp .NotEq) rNe:=by
 intro d s e H x y v u Q I c a h;obtain⟨hs,q⟩:=h;cases x with
 | non=>
  cases c;cases y with
  | non=>cases a;exact PySem.EqNone.ne_none_none (eG I q (by simp))
  | bl j=>cases a;exact PySem.EqNone.ne_none_bool (eG I q (by simp))
  | int j=>obtain⟨b,rfl⟩:=a;exact PySem.EqNone.ne_none_int (eG I q (by simp))
  | str j=>obtain⟨b,rfl⟩:=a;exact PySem.EqNone.ne_none_str (eG I q (by simp))
  | _=>exact absurd (show false=true from hs) Bool.false_ne_true
 | bl i=>
  cases c;cases y with
  | non=>cases a;exact PySem.EqNone.ne_bool_none (eG I q (by simp))
  | bl j=>cases a;exact ne_bool (eG I q (congrArg not Zsk))
  | str j=>obtain⟨b,rfl⟩:=a;exact PySem.EqMixed.ne_bool_str (eG I q (by simp))
  | _=>exact absurd (show false=true from hs) Bool.false_ne_true
 | int i=>
  obtain⟨t,rfl⟩:=c;cases y with
  | non=>cases a;exact PySem.EqNone.ne_int_none (eG I q (by simp))
  | int j=>obtain⟨b,rfl⟩:=a;exact ne_int (eG I q (congrArg not Zlx))
  | str j=>obtain⟨b,rfl⟩:=a;exact PySem.EqMixed.ne_int_str (eG I q (by simp))
  | _=>exact absurd (show false=true from hs) Bool.false_ne_true
 | str i=>
  obtain⟨t,rfl⟩:=c;cases y with
  | non=>cases a;exact PySem.EqNone.ne_str_none (eG I q (by simp))
  | bl j=>cases a;exact PySem.EqMixed.ne_str_bool (eG I q (by simp))
  | int j=>obtain⟨b,rfl⟩:=a;exact PySem.EqMixed.ne_str_int (eG I q (by simp))
  | str j=>obtain⟨b,rfl⟩:=a;exact ne_str (eG I q (congrArg not Zlw))
  | _=>exact absurd (show false=true from hs) Bool.false_ne_true
 | byt i=>
  obtain⟨t,rfl⟩:=c;cases y with
  | byt j=>obtain⟨b,rfl⟩:=a;exact W.ne_bytes (eG I q (congrArg not Zly))
  | _=>exact absurd (show false=true from hs) Bool.false_ne_true
 | _=>cases y<;>exact absurd (show false=true from hs) Bool.false_ne_true
theorem HX:zK X (compareOp .Lt) (pD λi j=>.bl (decide (i<j))):=Zuc λ_ _ _ _ _ _ _ q=>lt_int q
theorem ZAr:zK X (compareOp .LtE) (pD λi j=>.bl (decide (i<=j))):=Zuc λ_ _ _ _ _ _ _ q=>le_int q
theorem Zli:zK X (compareOp .Gt) (pD λi j=>.bl (decide (j<i))):=Zuc λ_ _ _ _ _ _ _ q=>gt_int q
theorem ZAs:zK X (compareOp .GtE) (pD λi j=>.bl (decide (j<=i))):=Zuc λ_ _ _ _ _ _ _ q=>ge_int q
theorem Zxr:zK X (compareOp .Is) (λx y H Q=>y=.non/\Q (.bl (decide (x=.non))) H):=by
 intro b s d H x y v u Q I a c h;obtain⟨rfl,q⟩:=h;cases c;refine is_none_gen (eG I q ?_);cases x<;>first
  | (cases a;rfl)
  | (obtain⟨t,rfl⟩:=a;rfl)
theorem Zu9:zK X (compareOp .IsNot) (λx y H Q=>y=.non/\Q (.bl (!decide (x=.non))) H):=by
 intro b s d H x y v u Q I a c h;obtain⟨rfl,q⟩:=h;cases c;refine isnot_none_gen (eG I q ?_);cases x<;>first
  | (cases a;rfl)
  | (obtain⟨t,rfl⟩:=a;rfl)
def isObj:HO->Bool
 | .lst _=>true
 | .ins _ _ _=>true
 | _=>false
theorem NP{c:At}{s:AJ}{σ:St}{H:Hp}{a:AH}{o:HO}(I:Inv X c σ H s)(h:H a=some o)(p:isObj o=true):∃ob,s.heap.get? a=some ob/\ob.cls≠.type "tuple":=by
 cases o with
 | lst d=>
  obtain⟨_,b,n,_,e⟩:d.length<=sizeLine/\∃(b:AC) (n:Nat),Vals d b/\s.heap.get? a=some { cls:=.type "list",data:=.seq b.toArray n }:=I.hok a _ h;exact⟨_,e,(by show Value.type "list"≠.type "tuple";decide +kernel)⟩
 | ins C f fs=>
  have x:=I.hok a _ h;obtain⟨_,_,_,e,_⟩:=x;exact⟨_,e,(by show Value.ref C≠.type "tuple";exact λz=>by cases z)⟩
 | _=>exact absurd (show false=true from p) Bool.false_ne_true
theorem wg(b:AM){a:CmpOp}(h:a≠.In:=by decide)(h2:a≠.NotIn:=by decide):behindInMarks a b=false:=by
 have c:(a == CmpOp.In)=false:=by cases a<;>first | rfl | exact absurd rfl h
 have d:(a == CmpOp.NotIn)=false:=by cases a<;>first | rfl | exact absurd rfl h2
 cases b<;>simp[behindInMarks,c,d]
theorem p8{d:CmpOp}{r:R2}(e:zK X (compareOp d) r)(j:PE X a ta)(hb:PE X b tb)(hm:behindInMarks d b=false):PE X (.Compare a [d] [b] pos) (bA r ta tb):=by
 intro c s l H Q I h;exact wpAny_Compare1 (Zzu j hb I h λv u g x y i k f m q=>e c g l i x y v u Q k f m q) hm
def bQ(t:TE):TT:=λσ H Q=>t σ H λx H'=>∃k,x=.bl k/\Q k H'
theorem Zto{f:CmpOp}{r:R2}(i:zK X (compareOp f) r)(l:PE X a ta)(hb:PE X b tb)(hm:behindInMarks f b=false):PT X (.Compare a [f] [b] pos) (bQ (bA r ta tb)):=by
 intro d s g H Q I h;refine wpAny_isTrue_Compare1 (iW (l d s g H _ I h) λv m ⟨x,H1,I1,r1,q1⟩=>iW (hb d m g H1 _ I1 q1) λu j ⟨y,H2,I2,r2,q2⟩=>
  iW (i d j g H2 x y v u _ I2 r1 r2 q2) λc n ⟨z,H3,I3,r3,k,e,q3⟩=>?_) hm
 subst e;cases r3;exact wpAny_truthy_bool ⟨H3,I3,q3⟩
def Zhi(r f:R2)(ta tb tc:TE):TE:=λσ H Q=>ta σ H λx b=>tb σ b λy d=>r x y d λz a=>∃k,z=.bl k/\
 (if k=true then tc σ a λc e=>f y c e Q else Q (.bl false) a)
theorem Zq4{l g:CmpOp}{r m:R2}(p:zK X (compareOp l) r)(j:zK X (compareOp g) m)(t:PE X a ta)(hb:PE X b tb)(hc:PE X c tc)
  (hm:lastMarks [l,g] [b,c]=false:=by with_unfolding_all rfl):PE X (.Compare a [l,g] [b,c] pos) (Zhi r m ta tb tc):=by
 intro f s i H Q I h;refine Compare_chain (iW (t f s i H _ I h) λv w ⟨x,H1,I1,r1,q1⟩=>chain_link (iW (hb f w i H1 _ I1 q1) λu q ⟨y,H2,I2,r2,q2⟩=>
  iW (p f q i H2 x y v u _ I2 r1 r2 q2) λd A ⟨z,H3,I3,r3,k,e,q3⟩=>?_)) hm
 subst e;cases r3;refine wpAny_truthy_bool ?_;cases k with
 | false=>exact ite_ff ⟨.bl false,H3,I3,rfl,q3⟩
 | true=>exact ite_tt (chain_last (iW (hc f A i H3 _ I3 q3) λB n ⟨o,H4,I4,r4,q4⟩=>j f n i H4 y o u B Q I4 r2 r4 q4))
def Zsp(K:aB)(x:V)(H:Hp)(k:Bool):Prop:=
 match x with
 | .non=>k=false
 | .bl b=>k=b
 | .int i=>k=(i != 0)
 | .str y=>y.length<=sizeLine/\k=((y.length:Int) != 0)
 | .byt y=>y.size<=sizeLine/\k=((y.size:Int) != 0)
 | .ref p=>(∃xs,cB K H p xs/\k=!xs.isEmpty)\/(∃xs,gw K H p xs/\k=!xs.isEmpty)\/∃a,H p=some (.dK a)/\k=!a.isEmpty
 | _=>False
theorem Zjt{b:Type}{a:List (b×V)}{vs:List (b×AI)}(r:KV a vs):(!vs.isEmpty)=!a.isEmpty:=by
 cases r<;>rfl
theorem U3{xs:List V}{a:AC}(r:Vals xs a):(!a.toArray.isEmpty)=!xs.isEmpty:=by
 cases r<;>simp
theorem Jq:(sizeLine:Nat)<2 ^ 63:=by rw[sizeLine_eq];decide
theorem Zwz:ZL5 X (λx H Q=>∃k,Zsp X.K x H k/\Q k H):=by
 intro o s z H x v Q I g h;obtain⟨k,e,q⟩:=h;have hl:=Jq;have hs:sizeLine=16777216:=sizeLine_eq;cases x with
 | non=>
  cases g;have a:k=false:=e;subst a;exact truthy_none ⟨H,I,q⟩
 | bl b=>
  cases g;have a:k=b:=e;subst a;exact wpAny_truthy_bool ⟨H,I,q⟩
 | int i=>
  obtain⟨t,rfl⟩:=g;have a:k=(i != 0):=e;subst a;exact PySem.P.truthy_int ⟨H,I,q⟩
 | str y=>
  obtain⟨t,rfl⟩:=g;obtain⟨hy,a⟩:y.length<=sizeLine/\k=((y.length:Int) != 0):=e;subst a;exact PySem.P.truthy_str (by omega) ⟨H,I.tok _,q⟩
 | byt y=>
  obtain⟨t,rfl⟩:=g;obtain⟨hy,a⟩:y.size<=sizeLine/\k=((y.size:Int) != 0):=e;subst a;exact W.truthy_bytes (by omega) ⟨H,I.tok _,q⟩
 | ref p=>
  cases g;have a:(∃f,cB X.K H p f/\k=!f.isEmpty)\/(∃f,gw X.K H p f/\k=!f.isEmpty)\/∃c,H p=some (.dK c)/\k=!c.isEmpty:=e;rcases a with ⟨f,hx,a⟩ | ⟨f,hx,a⟩ | ⟨c,hx,a⟩
  ·subst a;obtain⟨l,r,n,hz⟩:=I.list hx;have d:=r.length;exact wpAny_truthy_list n.isList (by simp only[List.size_toArray];omega) ⟨H,I.tok _,by rw[U3 r];exact q⟩
  ·subst a;obtain⟨l,r,n,hz⟩:=I.tuple hx;have d:=r.length;exact truthy_tuple n (by simp only[List.size_toArray];omega) ⟨H,I.tok _,by rw[U3 r];exact q⟩
  ·subst a;obtain⟨hz,u,j,r,m⟩:c.length<=sizeLine/\(p == sysModules)=false/\∃j,KV c j/\s.heap.DictOf (fL X.prog X.w) p j:=I.hok p _ hx;have d:c.length=j.length:=Paired.length r;exact wpAny_truthy_dict u m (by omega) ⟨H,I.tok _,by rw[Zjt r];exact q⟩
 | _=>exact(show False from e).elim
theorem Zei(d:PE X a ta)(f:∀b,isTrue a X.env b=(do let v <- b;standAt a.pos;holding [v] (truthy v))):
  PT X a (λσ H Q=>ta σ H λx H'=>∃k,Zsp X.K x H' k/\Q k H'):=by
 intro c s σ H Q I h;exact isTrue_plain (iW (d c s σ H _ I h) λv e ⟨x,H1,I1,r1,q1⟩=>Zwz c e σ H1 x v Q I1 r1 q1) (f _)
theorem Tz:zK X (binaryOp .Add) (λx y H Q=>∃i j,x=.str i/\y=.str j/\i.length+j.length<=sizeLine/\Q (.str (i++j)) H):=by
 intro a s e H x y v u Q I b d h;obtain⟨i,j,rfl,rfl,hz,q⟩:=h;obtain⟨t,rfl⟩:=b;obtain⟨c,rfl⟩:=d;exact add_str (λc tk=>⟨.str (i++j),H,I.tok _,⟨_,rfl⟩,q⟩) hz
theorem vals1{x:V}{us:AC}(r:Vals [x] us):∃u,us=[u]/\RelV x u:=by
 cases r with
 | cons b a=>cases a;exact⟨_,rfl,b⟩
theorem vals2{x y:V}{us:AC}(r:Vals [x,y] us):∃u a,us=[u,a]/\RelV x u/\RelV y a:=by
 cases r with
 | cons d b=>
  cases b with
  | cons c e=>cases e;exact⟨_,_,rfl,d,c⟩
end
structure Zkz(h:Heap)(x dx C:AH)(mA:As):Prop where
 obj:h.get? x=some (W.instObj C dx)
 ns:h.Ns1 dx mA
 ne:dx≠x
theorem Znf{h:Heap}{dx:AH}{c:As}(n:h.Ns1 dx c):∃od,h.get? dx=some od/\∀name,W.lookIn name od=some (c name):=by
 obtain⟨o,d,i,g,hd,hk,_,hm⟩:=n;refine⟨o,g,λname=>?_⟩;have e:=hm name;unfold nsFind findBy at e;rw[<- Array.find?_toList]at e;unfold W.lookIn;rw[hd];dsimp only;split
 ·rename_i y q
  rw[q]at e;exact congrArg some e
 ·rename_i q
  rw[q]at e;have a:d.toList.any (·.refKey)=false:=by
   rw[List.any_eq_false];intro y hy;obtain⟨z,t,b⟩:=hk y (Array.mem_toList_iff.mp hy);simp[DictEntry.refKey,b]
  have f:¬ d.toList.any (·.refKey)=true:=by rw[a];exact Bool.false_ne_true
  rw[if_neg f];exact congrArg some e
theorem Zkz.look{h:Heap}{x dx C:AH}{a:As}(I:Zkz h x dx C a):∃od,W.InstAt h x (W.instObj C dx) C (some od)/\∀name,W.lookIn name od=some (a name):=
 let ⟨od,ho,hl⟩:=Znf I.ns
 ⟨od,⟨I.obj,rfl,rfl,ho⟩,hl⟩
section
variable {prog:AL}{w:AN}{A:Around}{E:Ap}{s:AJ}{K:aB}{x dx C f:AH}{mA:As}{name:Str}{v:AI}
theorem get_map{a:Bool}{Q:Ap}(X:K.In s.heap)(I:Zkz s.heap x dx C mA)(c:W.plainGet K C name=true)(hh:W.hasDictIn K C=true)
  (d:W.findIn K (.ref C) name=some none) (hv:mA name=some v) (b:W.handedIn v=true) (h:Q v { s with toks:=s.toks+1 }):
  wpAny (model prog w) A (getAttr (.ref x) name a) Q E s:=by
 obtain⟨od,J,hl⟩:=I.look;exact W.get_value X J (W.plainGet_of c).1 (W.findObj_own hh d rfl (by rw[hl,hv])) b h
theorem Zs0{pl:Sem Bool}{Q:AI×AC->AJ->Prop}(X:K.In s.heap)(I:Zkz s.heap x dx C mA)(a:W.plainGet K C name=true)
  (b:W.findIn K (.ref C) name=some (some (.ref f))) (c:W.isFn K (.ref f)=true) (hv:mA name=none) (h:Q (.ref f,[.ref x]) s):
  wpAny (model prog w) A (getMethod (.ref x) name pl) Q E s:=by
 obtain⟨od,J,hl⟩:=I.look;exact W.method_fn X J (W.plainGet_of a).1 (W.plainGet_of a).2 b (beq_iff_eq.mp c) (by show(W.lookIn name od).map (·.isSome)=some false;rw[hl,hv];rfl) h
theorem Zt5{ns:AG}{Q:Unit->AJ->Prop}(X:K.In s.heap)(I:Zkz s.heap x dx C mA)
  (hs:W.findIn K (.ref C) "__setattr__"=some (some (.builtin "object.__setattr__"))) (hp:W.plainOver K C=true) (m:W.takerIn K C name=some none) (hh:W.hasDictIn K C=true)
  (j:PySem.Within mA ns) (hsz:ns.length<=sizeLine)
  (h:∀h',Zkz h' x dx C (λy=>if y=name then some v else mA y)->Heap.SameBut dx s.heap h'->Q () { s with heap:=h',toks:=s.toks+2 }):
  wpAny (model prog w) A (setAttr (.ref x) name v) Q E s:=by
 obtain⟨od,J,hl⟩:=I.look;refine W.set_plain X J hs (W.osa_open (s:={ s with toks:=s.toks+1 }) (r:=none) X J hp m λb=>?_);obtain⟨o,hc,i⟩:=W.any_some hh;have hx:s.heap.get? x=some ⟨.ref C,some dx,.plain,#[]⟩:=I.obj;refine wpAny_bind (wpAny_pure (wpAny_bind (wpAny_bind (wpAny_loadPart hx (wpAny_bind (W.Looks.here (s:={ s with toks:=s.toks+1 }) (W.looks_clsIn X hc) ?_))))));rw[i];refine wpAny_pure (a:=some dx) (wpAny_bind (wpAny_pure (wpAny_bind ?_)));refine wpAny_nsSet1 (s:={ s with toks:=s.toks+1 }) I.ns λh' c d=>?_;obtain⟨n,l,k,e,g,f⟩:=c.count (PySem.Within.cons name v j);refine wpAny_bind (wpAny_lookBehind e (by rw[g];exact pastItsLine_dict (Nat.le_trans f (by rw[List.length_cons];omega))) ?_);exact wpAny_pure (h _ ⟨(d.2 _ (Ne.symm I.ne)).trans I.obj,c,I.ne⟩ d)
theorem Zqq{R:Result->AJ->Prop}{vs:AC}{a:List (Str×AI)}(X:K.In s.heap)(hm:W.makesIn K C=true)
  (c:W.findIn K (.ref C) "__init__"=some (some (.ref f))) (b:W.typeIn K (.ref f)=some (.type "function"))
  (h:codeAny (model prog w) (A.under (.builtin "type.__call__" ⟨.ref C::vs,a⟩)) (.call (.ref f) ⟨.ref (s.heap.objs.size+1)::vs,a⟩) (W.InitBack (s.heap.objs.size+1) R)
   { s with heap:=(s.heap.push W.emptyDict).push (W.instObj C s.heap.objs.size) }):
  codeAny (model prog w) A (.call (.ref C) ⟨vs,a⟩) R s:=by
 obtain⟨hh,g,d,t,os⟩:=s;exact W.make_core (W.makes_of X hm) (W.looks_findIn X c) (λself=>W.bind_fn X self b) (.inl rfl) h
theorem Zn6{R:Result->AJ->Prop}(X:K.In s.heap)(hm:W.makesIn K C=true)
  (a:W.findIn K (.ref C) "__init__"=some (some (.builtin "object.__init__")))
  (hb:∀self,W.Looks (model prog w) s.heap (bindSpecial (.builtin "object.__init__") self) (.builtin "object.__init__",[self]))
  (h:codeAny (model prog w) (A.under (.builtin "type.__call__" ⟨[.ref C],[]⟩)) (.call (.builtin "object.__init__") ⟨[.ref (s.heap.objs.size+1)],[]⟩) (W.InitBack (s.heap.objs.size+1) R)
   { s with heap:=(s.heap.push W.emptyDict).push (W.instObj C s.heap.objs.size) }):
  codeAny (model prog w) A (.call (.ref C) ⟨[],[]⟩) R s:=by
 obtain⟨hh,g,d,t,os⟩:=s;exact W.make_core (W.makes_of X hm) (W.looks_findIn X a) hb (.inr ⟨rfl,rfl⟩) h
end
def cH(f:Str)(v:V):List (Str×V)->List (Str×V)
 | []=>[(f,v)]
 | (g,x)::r=>if g=f then(g,v)::r else(g,x)::cH f v r
theorem Qq(f g:Str)(v:V):∀fs:List (Str×V),(cH f v fs).lookup g=if g=f then some v else fs.lookup g
 | []=>by
  show List.lookup g [(f,v)]=_
  by_cases h:g=f
  ·have hb:(g == f)=true:=beq_iff_eq.mpr h;simp only[List.lookup,hb,if_pos h]
  ·have hb:(g == f)=false:=beq_eq_false_iff_ne.mpr h;simp only[List.lookup,hb,if_neg h]
 | (k,x)::r=>by
  have a:=Qq f g v r;rw[show cH f v ((k,x)::r)=(if k=f then(k,v)::r else(k,x)::cH f v r)from rfl]
  by_cases hk:k=f
  ·rw[if_pos hk]
   by_cases h:g=k
   ·have hb:(g == k)=true:=beq_iff_eq.mpr h;simp only[List.lookup,hb,if_pos (h.trans hk)]
   ·have hb:(g == k)=false:=beq_eq_false_iff_ne.mpr h;simp only[List.lookup,hb,if_neg (λe:g=f=>h (e.trans hk.symm))]
  ·rw[if_neg hk]
   by_cases h:g=k
   ·have hb:(g == k)=true:=beq_iff_eq.mpr h;simp only[List.lookup,hb,if_neg (λe:g=f=>hk (h.symm.trans e))]
   ·have hb:(g == k)=false:=beq_eq_false_iff_ne.mpr h;simp only[List.lookup,hb];exact a
theorem Oe(f:Str)(v:V):∀fs:List (Str×V),f∈(cH f v fs).map (·.1)/\∀g,g∈fs.map (·.1)->g∈(cH f v fs).map (·.1)
 | []=>⟨by simp[cH],λg h=>by simp at h⟩
 | (k,x)::r=>by
  obtain⟨b,a⟩:=Oe f v r;rw[show cH f v ((k,x)::r)=(if k=f then(k,v)::r else(k,x)::cH f v r)from rfl]
  by_cases hk:k=f
  ·rw[if_pos hk];subst hk;exact⟨by simp,λg h=>by simpa using h⟩
  ·rw[if_neg hk];refine⟨?_,λg h=>?_⟩
   ·rw[List.map_cons];exact List.mem_cons_of_mem _ b
   ·rw[List.map_cons]at h ⊢;rcases List.mem_cons.mp h with e | e
    ·exact List.mem_cons.mpr (.inl e)
    ·exact List.mem_cons_of_mem _ (a g e)
theorem Qt(f:Str)(v:V):∀fs:List (Str×V),(cH f v fs).length<=fs.length+1
 | []=>by simp[cH]
 | (k,x)::r=>by
  have a:=Qt f v r;rw[show cH f v ((k,x)::r)=(if k=f then(k,v)::r else(k,x)::cH f v r)from rfl]
  by_cases hk:k=f
  ·rw[if_pos hk,List.length_cons,List.length_cons];omega
  ·rw[if_neg hk,List.length_cons,List.length_cons];omega
theorem HJ.some_of{v:V}{o:AB}(r:HJ (some v) o):∃u,o=some u/\RelV v u:=by
 cases o with
 | none=>exact(show False from r).elim
 | some u=>exact⟨u,rfl,r⟩
theorem HJ.none_of{o:AB}(r:HJ none o):o=none:=by
 cases o with
 | none=>rfl
 | some u=>exact(show False from r).elim
theorem Zo2{v:V}{u:AI}(r:RelV v u):W.handedIn u=true:=by
 cases v with
 | non=>cases (show u=Value.none from r);rfl
 | bl b=>cases (show u=Value.bool b from r);rfl
 | int i=>obtain⟨t,e⟩:=(show ∃t,u=Value.int i t from r);cases e;rfl
 | str x=>obtain⟨t,e⟩:=(show ∃t,u=Value.str x t from r);cases e;rfl
 | byt b=>obtain⟨t,e⟩:=(show ∃t,u=Value.bytes b t from r);cases e;rfl
 | flt b=>obtain⟨t,e⟩:=(show ∃t,u=Value.float b t from r);cases e;rfl
 | ref a=>cases (show u=Value.ref a from r);rfl
 | ty n=>cases (show u=Value.type n from r);rfl
section
variable {P:AL}{w:AN}{H H':Hp}{h h':Heap}{a C dx:AH}{fs fs':List (Str×V)}
theorem Ry(hok:Dn P w H h)(e:H a=some (.ins C dx fs)):∃b,Zkz h a dx C b/\(∀f,HJ (fs.lookup f) (b f))/\PySem.Within b (fs.map (·.1))/\fs.length<=1000/\H dx=some (.own a):=by
 obtain⟨d,z,ne,ob,b,n,r,q⟩:=(show lM P w H h a (.ins C dx fs)from hok a _ e);exact⟨b,⟨ob,n,ne⟩,r,q,z,d⟩
end
structure Im(K:aB)(C:AH):Prop where
 pg:W.plainGet K C Str.empty=true
 hd:W.hasDictIn K C=true
 po:W.plainOver K C=true
 sa:W.findIn K (.ref C) "__setattr__"=some (some (.builtin "object.__setattr__"))
theorem Im.get{K:aB}{C:AH}(c:Im K C)(f:Str):W.plainGet K C f=true:=c.pg
def bL(K:aB)(C:AH)(f:Str):Prop:=W.findIn K (.ref C) f=some none
theorem bL.taker{K:aB}{C:AH}{f:Str}(n:bL K C f):W.takerIn K C f=some none:=by
 unfold W.takerIn;rw[show W.findIn K (.ref C) f=some none from n];rfl
structure Con(K:aB)(C:AH)(f:Str)(v:V)(u:AI):Prop where
 at_:W.findIn K (.ref C) f=some (some u)
 rel:RelV v u
 get:W.specialIn K u "__get__"=some none
 cp:W.copiedNames.contains f=false
structure Meth(K:aB)(C:AH)(m:Str)(f:AH):Prop where
 at_:W.findIn K (.ref C) m=some (some (.ref f))
 fn:W.isFn K (.ref f)=true
 kp:W.keepIn K (.ref f)=true
section
variable {X:Cx}{pins:At}{σ:St}{H:Hp}{s:AJ}{a C dx:AH}{fs:List (Str×V)}{f:Str}{v:V}{A:Around}{E:Ap}
theorem Zk3{b:Bool}{Q:Ap}(I:Inv X pins σ H s)(e:H a=some (.ins C dx fs))(c:Im X.K C)(n:bL X.K C f)(l:fs.lookup f=some v)
  (h:∀u s',Inv X pins σ H s'->RelV v u->Q u s'):wpAny (model X.prog X.w) A (getAttr (.ref a) f b) Q E s:=by
 obtain⟨g,O,r,_,_,_⟩:=Ry I.hok e;obtain⟨u,hu,d⟩:=HJ.some_of (v:=v) (o:=g f) (by rw[<- l];exact r f);exact get_map I.Gi O (c.get f) c.hd n hu (Zo2 d) (h u _ (I.tok _) d)
theorem U8{m:Str}{g:AH}{pl:Sem Bool}{Q:AI×AC->AJ->Prop}(I:Inv X pins σ H s)(e:H a=some (.ins C dx fs))(c:Im X.K C)(k:Meth X.K C m g)(l:fs.lookup m=none)
  (h:Q (.ref g,[.ref a]) s):wpAny (model X.prog X.w) A (getMethod (.ref a) m pl) Q E s:=by
 obtain⟨b,O,r,_,_,_⟩:=Ry I.hok e;have hn:b m=none:=HJ.none_of (by rw[<- l];exact r m);exact Zs0 I.Gi O (c.get m) k.at_ k.fn hn h
theorem Zhv{y:V}{u:AI}{Q:Unit->AJ->Prop}(I:Inv X pins σ H s)(e:H a=some (.ins C dx fs))(c:Im X.K C)(n:bL X.K C f)(hl:fs.length<1000)(p:RelV y u)
  (h:∀s',Inv X pins σ (upd H a (.ins C dx (cH f y fs))) s'->Q () s'):wpAny (model X.prog X.w) A (setAttr (.ref a) f u) Q E s:=by
 obtain⟨i,O,r,k,_,j⟩:=Ry I.hok e;have hz:(fs.map (·.1)).length<=sizeLine:=by rw[aY,sizeLine_eq];omega
 refine Zt5 I.Gi O c.sa c.po n.taker c.hd k hz λm d sb=>h _ ?_;have hd:∃o,m.get? dx=some o:=let ⟨o,_,_,e',_⟩:=d.ns;⟨o,e'⟩
 refine I.write (x:=a) (e:=dx) (by rw[e];exact True.intro) (.inr j) (λb q hb z=>(sb.2 b hb).trans z) hd ?_;refine⟨by rw[aC O.ne];exact j,?_,O.ne,d.obj,_,d.ns,λg=>?_,λg l=>?_⟩
 ·have:=Qt f y fs;omega
 ·show HJ ((cH f y fs).lookup g) (if g=f then some u else i g);rw[Qq]
  by_cases q:g=f
  ·rw[if_pos q,if_pos q];exact p
  ·rw[if_neg q,if_neg q];exact r g
 ·by_cases q:g=f
  ·rw[q];exact(Oe f y fs).1
  ·refine(Oe f y fs).2 g (k g λz=>l ?_);show(if g=f then some u else i g)=none;rw[if_neg q];exact z
theorem Inv.made(I:Inv X pins σ H s):Inv X pins σ (upd (upd H s.heap.objs.size (.own (s.heap.objs.size+1))) (s.heap.objs.size+1) (.ins C s.heap.objs.size []))
  { s with heap:=(s.heap.push W.emptyDict).push (W.instObj C s.heap.objs.size) }:=by
 have c:(s.heap.push W.emptyDict).get? s.heap.objs.size=some W.emptyDict:=Heap.get?_push_size s.heap rfl;have f:((s.heap.push W.emptyDict).push (W.instObj C s.heap.objs.size)).get? (s.heap.objs.size+1)=some (W.instObj C s.heap.objs.size):=by
  have:=Heap.get?_push_size (s.heap.push W.emptyDict) (o:=W.instObj C s.heap.objs.size) rfl
  rwa [Heap.size_push]at this
 have e3:(s.heap.push W.emptyDict).Ns s.heap.objs.size (λ_=>none):=⟨W.emptyDict,#[],_,c,rfl,(λe g=>absurd g (by simp)),λ_=>rfl⟩;have d:=I.laid (a:=s.heap.objs.size) (o:=.own (s.heap.objs.size+1)) (h':=s.heap.push W.emptyDict) (t':=s.toks) (λb u q=>Heap.get?_push_of_some _ q) (Nat.le_refl _) ⟨_,c⟩;refine d.laid (a:=s.heap.objs.size+1) (o:=.ins C s.heap.objs.size []) (t':=s.toks) (λb u q=>Heap.get?_push_of_some _ q) (Nat.le_of_eq (Heap.size_push _ _)) ?_;have ne:s.heap.objs.size≠s.heap.objs.size+1:=Nat.ne_of_lt (Nat.lt_succ_self _);refine⟨by rw[aC ne,aq],Nat.zero_le _,ne,f,λ_=>none,(Heap.Ns1.of_empty e3).at λo q=>Heap.get?_push_of_some _ q,λ_=>True.intro,λy hy=>absurd rfl hy⟩
theorem Zw4{prog:AL}{w:AN}{env:Env}{e:AM}{f:Str}{b:Pos}{s:AJ}{Q:Ap}(hb:attributeBase e f env (eval e env)=eval e env)
  (h:wpAny (model prog w) A (eval e env) (λo a=>wpAny (model prog w) A (getAttr o f true) Q E a) E s):wpAny (model prog w) A (eval (.Attribute e f b) env) Q E s:=
 Attribute_any_ h (by rw[arm_eval_Attribute,hb])
end
def bz(K:aB)(c:TE)(f:Str):TE:=λσ H Q=>c σ H λx b=>∃a C dx fs v,x=.ref a/\b a=some (.ins C dx fs)/\Im K C/\bL K C f/\fs.lookup f=some v/\Q v b
def iJ(K:aB)(d e:TE)(f:Str):TS:=λD σ H=>e σ H λy c=>d σ c λx b=>∃a C dx fs,x=.ref a/\b a=some (.ins C dx fs)/\Im K C/\bL K C f/\fs.length<1000/\
 D.nx σ (upd b a (.ins C dx (cH f y fs)))
section
variable {X:Cx}{o e value:AM}{f:Str}{pos pos' tpos:Pos}{ta tv:TE}
theorem aJ(g:PE X e ta)(hb:attributeBase e f X.env (eval e X.env)=eval e X.env):PE X (.Attribute e f pos) (bz X.K ta f):=by
 intro b s i H Q I h;refine Zw4 hb (iW (g b s i H _ I h) λu o ⟨x,H1,I1,rx,a,C,dx,fs,v,ex,ea,c,n,l,q⟩=>?_);subst ex;obtain rfl:u=Value.ref a:=rx;exact Zk3 I1 ea c n l λm k j d=>⟨v,H1,j,d,q⟩
theorem cI(i:PE X o ta)(hv:PE X value tv)(hs:swapsWith value (some (.Attribute o f pos')) pos.line X.env=pure false):PS X (.Assign [.Attribute o f pos'] value pos) (iJ X.K ta tv f):=by
 intro b s d H D I h;refine plainObj_wpAny_Assign_Attribute (iW (hv b s d H _ I h) λu j ⟨y,H1,I1,ry,q⟩=>iW (i b j d H1 _ I1 q) λe k ⟨x,H2,I2,rx,a,C,dx,fs,ex,ea,c,n,l,q2⟩=>?_) hs;subst ex;obtain rfl:e=Value.ref a:=rx;exact Zhv I2 ea c n l ry λm g=>⟨d,_,g,q2⟩
end
section
variable {X:Cx}{pins:At}{σ:St}{H:Hp}{s:AJ}{A:Around}{E:Ap}{Q:Ap}{c:AI}{b:Bool}
inductive O7(K:aB)(H:Hp):V->AI->Prop where
 | non:O7 K H .non (.type "NoneType")
 | bl (x:Bool):O7 K H (.bl x) (.type "bool")
 | int (i:Int):O7 K H (.int i) (.type "int")
 | str (x:Str):O7 K H (.str x) (.type "str")
 | flt (x:UInt64):O7 K H (.flt x) (.type "float")
 | lst {a:AH}{xs:List V} (e:H a=some (.lst xs)):O7 K H (.ref a) (.type "list")
 | Ac {a:AH}{o:Obj}{xs:List V} (e:H a=some (.Ac o (.lst xs))):O7 K H (.ref a) (.type "list")
 | tup {a:AH}{xs:List V} (e:H a=some (.tup xs)):O7 K H (.ref a) (.type "tuple")
 | dK {a:AH}{kvs:List (Key×V)} (e:H a=some (.dK kvs)):O7 K H (.ref a) (.type "dict")
 | dT {a:AH}{kvs:List (List Key×V)} (e:H a=some (.dT kvs)):O7 K H (.ref a) (.type "dict")
 | ins {a C dx:AH}{fs:List (Str×V)} (e:H a=some (.ins C dx fs)) (cl:Im K C) (ha:W.findIn K (.ref C) "__class__"=some (some (.builtin "object.__class__")))
   (hn:W.specialIn K (.builtin "object.__class__") "__get__"=some (some (.builtin "getset_descriptor.__get__"))) (htk:W.takesIn K (.builtin "object.__class__")=some true)
   (hm:W.mroIn K C (.type "object")=some true):O7 K H (.ref a) (.ref C)
theorem Zni{x:V}{u t:AI}(I:Inv X pins σ H s)(d:RelV x u)(ty:O7 X.K H x t)(e:W.kitOne X.K t c=some b)(h:∀tk,Q (.bool b) { s with toks:=tk }):
  wpAny (model X.prog X.w) A (call (.builtin "isinstance") [u,c]) Q E s:=by
 cases ty with
 | non=>cases (show u=Value.none from d);exact W.kia_one W.kitx_none I.Gi True.intro e (λz=>nomatch z) h
 | bl y=>cases (show u=Value.bool y from d);exact W.kia_one W.kitx_bool I.Gi True.intro e (λz=>nomatch z) h
 | int i=>obtain⟨t,q⟩:=(show ∃t,u=Value.int i t from d);cases q;exact W.kia_one W.kitx_int I.Gi True.intro e (λz=>nomatch z) h
 | str y=>obtain⟨t,q⟩:=(show ∃t,u=Value.str y t from d);cases q;exact W.kia_one W.kitx_str I.Gi True.intro e (λz=>nomatch z) h
 | flt y=>obtain⟨t,q⟩:=(show ∃t,u=Value.float y t from d);cases q;exact W.kia_one W.kitx_float I.Gi True.intro e (λz=>nomatch z) h
 | @lst a j f=>
  cases (show u=Value.ref a from d);obtain⟨_,_,n,_,h1⟩:=(show lM X.prog X.w H s.heap a (.lst j)from I.hok a _ f);exact W.kia_one W.kitx_list I.Gi ⟨_,h1,rfl⟩ e (λz=>nomatch z) h
 | @Ac a ob j f=>
  cases (show u=Value.ref a from d);obtain⟨_,_,_,n,_,h1⟩:=(show lM X.prog X.w H s.heap a (.Ac ob (.lst j))from I.hok a _ f);exact W.kia_one W.kitx_list I.Gi ⟨_,h1,rfl⟩ e (λz=>nomatch z) h
 | @tup a j f=>
  cases (show u=Value.ref a from d);obtain⟨_,_,_,p⟩:=(show lM X.prog X.w H s.heap a (.tup j)from I.hok a _ f);obtain⟨o,h1,h2,_⟩:=p;exact W.kia_one W.kitx_tuple I.Gi ⟨o,h1,h2⟩ e (λz=>nomatch z) h
 | @dK a g f=>
  cases (show u=Value.ref a from d);obtain⟨_,_,D,_,p⟩:=(show lM X.prog X.w H s.heap a (.dK g)from I.hok a _ f);obtain⟨o,r,l,h1,h2,_⟩:=p;exact W.kia_one W.kitx_dict I.Gi ⟨o,h1,h2.1⟩ e (λz=>nomatch z) h
 | @dT a g f=>
  cases (show u=Value.ref a from d);obtain⟨_,_,j,_,o,r,l,h1,h2,_⟩:=(show lM X.prog X.w H s.heap a (.dT g)from I.hok a _ f);exact W.kia_one W.kitx_dict I.Gi ⟨o,h1,h2.1⟩ e (λz=>nomatch z) h
 | @ins a C B fs f cl m hn k hm=>
  cases (show u=Value.ref a from d);obtain⟨v,O,_⟩:=Ry I.hok f;obtain⟨od,J,_⟩:=O.look;exact W.kia_one (W.kitx_own (cl.get _) cl.hd m hn k hm) I.Gi J e (λz=>nomatch z) h
end
structure Room(k:Nat)(A:Around):Prop where
 hd:A.handled=none
 dp:A.depth+3 * k+5<recursionLimit
 un:A.units+16 * k+200<cLine
theorem Room.mono{j k:Nat}{A:Around}(r:Room k A)(h:j<=k):Room j A:=⟨r.hd,by have:=r.dp;omega,by have:=r.un;omega⟩
theorem Room.deeper{k:Nat}{A:Around}(r:Room (k+1) A)(env:Env):Room k (A.deeper env):=
 ⟨r.hd,by have:=r.dp;show A.depth+1+3 * k+5<_;omega,by have:=r.un;show A.units+3+16 * k+200<_;omega⟩
theorem Zjg{A:Around}{C:AH}{us:AC}{a:List (Str×AI)}:(A.under (.builtin "type.__call__" ⟨.ref C::us,a⟩)).depth=A.depth+1:=by
 first | rfl | simp[Around.under,Code.weight,Code.isCreation,Code.isGuard,Code.isCaller,Code.frames,Code.isFrame,guardIds]
theorem Zjf{A:Around}{C:AH}{us:AC}{a:List (Str×AI)}:(A.under (.builtin "type.__call__" ⟨.ref C::us,a⟩)).units=A.units+1:=by
 first | rfl | simp[Around.under,Code.cUnits,Code.frames,Code.isFrame]
theorem Room.make{k:Nat}{A:Around}(r:Room (k+1) A)(C:AH)(us:AC)(a:List (Str×AI)):Room k (A.under (.builtin "type.__call__" ⟨.ref C::us,a⟩)):=
 ⟨r.hd,by have:=r.dp;rw[Zjg];omega,by have:=r.un;rw[Zjf];omega⟩
theorem Room.depth{k:Nat}{A:Around}(r:Room k A):A.depth<recursionLimit:=by have:=r.dp;omega
theorem Room.units{k:Nat}{A:Around}(r:Room k A):A.units+64<cLine:=by have:=r.un;omega
def aF:TA:=λ_ H Q=>Q [] H
def aj(b:TE)(c:TA):TA:=λσ H Q=>b σ H λx a=>c σ a λxs d=>Q (x::xs) d
section
variable {X:Cx}{e:AM}{es:AF}{te:TE}{t:TA}{pos:Pos}
theorem au:PA X [] aF:=λ_ _ _ _ H Q I h=>Calls.spliced_nil ⟨[],H,I,.nil,h⟩
theorem aa(d:PE X e te)(hr:PA X es t)(hs:starEach (e::es) X.env=(false,eval e X.env)::starEach es X.env:=by rfl):PA X (e::es) (aj te t):=by
 intro pos a s b H Q I h;rw[hs];show wpAny _ _ (spliced ((false,eval e X.env)::backTo pos (starEach es X.env))) _ _ s;refine Calls.spliced_cons (iW (d a s b H _ I h) λu f ⟨x,H1,I1,r1,q1⟩=>?_);exact iW (hr pos a f b H1 _ I1 q1) λus g ⟨c,H2,I2,r2,q2⟩=>⟨x::c,H2,I2,.cons r1 r2,q2⟩
def fW(t:TA):TE:=λσ H Q=>t σ H λxs a=>xs.length<=sizeLine/\∀p,a p=none->Q (.ref p) (upd a p (.tup xs))
def gQ(t:TA):TE:=λσ H Q=>t σ H λxs a=>xs.length<=sizeLine/\∀p,a p=none->Q (.ref p) (upd a p (.lst xs))
theorem cJ{x1}(h:PA X es t):PE X (.Tuple es x1 pos) (fW t):=by
 intro a s g H Q I hq;refine wpAny_Tuple_spliced (iW (h pos a s g H _ I hq) λus c ⟨d,H1,I1,r,z,q⟩=>⟨by rw[<- r.length];exact z,?_⟩);have f:H1 c.heap.objs.size=none:=I1.hok.fresh (Nat.le_refl _);refine⟨.ref c.heap.objs.size,upd H1 c.heap.objs.size (.tup d),I1.laid (t':=c.toks) (λb u e=>Heap.get?_push_of_some _ e) (Nat.le_refl _) ?_,rfl,q _ f⟩;exact⟨z,us,r,⟨_,Heap.get?_push_size _ rfl,rfl,_,rfl⟩⟩
theorem cY(h:PA X es t):PE X (.List es pos) (gQ t):=by
 intro a s g H Q I hq;refine wpAny_List_spliced (iW (h pos a s g H _ I hq) λus c ⟨d,H1,I1,r,z,q⟩=>⟨by rw[<- r.length];exact z,?_⟩);have f:H1 c.heap.objs.size=none:=I1.hok.fresh (Nat.le_refl _);refine⟨.ref c.heap.objs.size,upd H1 c.heap.objs.size (.lst d),I1.laid (t':=c.toks) (λb u e=>Heap.get?_push_of_some _ e) (Nat.le_refl _) ?_,rfl,q _ f⟩;exact⟨z,us,0,r,Heap.get?_push_size _ rfl⟩
end
abbrev Sp:=List V->Hp->VK->XK->Prop
abbrev CXT:=List Env->Hp->AJ->XK->AI->AJ->Prop
structure Zl3(P:AL)(w:AN)(K:aB)(mg:As)(base:Heap)(A:Around)(outer:List Env)(s:AJ)(H:Hp):Prop where
 frames:A.frames=some outer
 mod:Mod K mg base
 bs:∀b o,base.get? b=some o->s.heap.get? b=some o/\H b=none
 bsz:base.objs.size<=s.heap.objs.size
 zZ:s.heap.FunFrames base outer
 frf:∀b∈frs outer,H b=none
 hok:Dn P w H s.heap
 bare:AllBare s.gens
def CE(outer:List Env)(P:AL)(w:AN)(H:Hp)(s:AJ)(Q:VK)(u:AI)(s':AJ):Prop:=
 ∃v H',s'.os=s.os/\AllBare s'.gens/\Un (frs outer) [] H H' s.heap s'.heap/\Dn P w H' s'.heap/\RelV v u/\Q v H'
def CR(CX:CXT)(outer:List Env)(P:AL)(w:AN)(H:Hp)(s:AJ)(Q:VK)(E:XK)(r:Result)(s':AJ):Prop:=
 match r with
 | .ok (.ret u)=>CE outer P w H s Q u s'
 | .ok _=>False
 | .error e=>CX outer H s E e s'
structure wO(P:AL)(w:AN)(K:aB)(mg:As)(base:Heap)(CX:CXT)(k:Nat)(f:AH)(fd:AK)(ps:AG)(sp:Sp):Prop where
 len:∀vs H Q E,sp vs H Q E->vs.length=ps.length
 run:∀(A:Around) (outer:List Env) (s:AJ) (H:Hp) (args:Args) (us:AC) (vs:List V) (Q:VK) (E:XK),Room k A->Zl3 P w K mg base A outer s H->BindsTo s fd args (ps.zip us)->Vals vs us->sp vs H Q E->
  codeAny (model P w) A (.call (.ref f) args) (CR CX outer P w H s Q E) s
theorem Zl3.make{P:AL}{w:AN}{K:aB}{mg:As}{base:Heap}{A:Around}{outer:List Env}{s:AJ}{H:Hp}(e:Zl3 P w K mg base A outer s H)(C:AH)(us:AC)(a:List (Str×AI)):
  Zl3 P w K mg base (A.under (.builtin "type.__call__" ⟨.ref C::us,a⟩)) outer s H:=⟨by first | exact e.frames | (simpa[Around.under,Code.envs,Code.isFrame,pushEnvs]using e.frames),e.mod,e.bs,e.bsz,e.zZ,e.frf,e.hok,e.bare⟩
section
variable {X:Cx}{pins:At}{σ:St}{H:Hp}{s s':AJ}
theorem Inv.env0(I:Inv X pins σ H s):Zl3 X.prog X.w X.K X.mg X.base X.A X.stack s H:=
 ⟨I.ok.frames,I.ok.mod,I.bs,Nat.le_trans I.ok.bsz I.sz,I.stack,I.Rj,I.hok,I.bare⟩
theorem Inv.after{Q:VK}{u:AI}(I:Inv X pins σ H s)(h:CE X.stack X.prog X.w H s Q u s'):EP X pins σ Q u s':=by
 obtain⟨v,c,os,bare,un,hok,r,q⟩:=h;obtain⟨hh,g,d,t,a⟩:=s';obtain rfl:a=s.os:=os;exact⟨v,c,I.call (h':=hh) (g':=g) (d':=d) (t':=t) (ch:=[]) un hok bare (λb z=>absurd z (by simp)),r,q⟩
end
def aQ(sp:Sp)(wU:List V)(E:XK)(t:TA):TE:=λσ H Q=>t σ H λvs a=>sp (vs++wU) a Q E
def mJ(C:AH)(m:Str)(sp:Sp)(wU:List V)(E:XK)(c:TE)(t:TA):TE:=λσ H Q=>c σ H λx b=>∃a dx fs,x=.ref a/\b a=some (.ins C dx fs)/\fs.lookup m=none/\
 t σ b λvs d=>sp (x::(vs++wU)) d Q E
def Dc(C:AH)(sp:Sp)(wU:List V)(E:XK)(t:TA):TE:=λσ H Q=>t σ H λvs a=>∀x dx,a x=none->a dx=none->dx≠x->
 sp (.ref x::(vs++wU)) (upd (upd a dx (.own x)) x (.ins C dx [])) (λv b=>v=.non/\Q (.ref x) b) E
def Binds(K:aB)(fd:AK)(ps:AG)(ds:AC):Prop:=
 ∀(s:AJ) (us:AC),K.In s.heap->(us++ds).length=ps.length->BindsTo s fd ⟨us,[]⟩ (ps.zip (us++ds))
theorem Binds.all{K:aB}{fd:AK}{ps:AG}(h:∀us:AC,us.length=ps.length->bindArgs fd ⟨us,[]⟩=pure (ps.zip us)):Binds K fd ps []:=λs us _ hl=>by
 rw[List.append_nil]at hl ⊢;exact .of_eq (h us hl)
def Passes(CX:CXT)(X:Cx)(E:XK):Prop:=∀(a:At) (σ:St) (H:Hp) (s:AJ) (e:AI) (s':AJ),Inv X a σ H s->CX X.stack H s E e s'->X.xe e s'
section
variable {X:Cx}{CX:CXT}{k:Nat}{f C:AH}{fd:AK}{ps:AG}{sp:Sp}{wU:List V}{ds:AC}{E:XK}{x m:Str}{p pos apos:Pos}{e o:AM}{es:AF}{ta:TE}{t:TA}
theorem Zah{a:At}{σ:St}{H:Hp}{s:AJ}{Q:VK}{us:AC}{vs:List V}(F:wO X.prog X.w X.K X.mg X.base CX k f fd ps sp)(hr:Room k X.A)(hb:Binds X.K fd ps ds)(hd:Vals wU ds)(hx:Passes CX X E)
  (I:Inv X a σ H s) (r:Vals vs us) (h:sp (vs++wU) H Q E):wpAny (model X.prog X.w) X.A (call (.ref f) us) (EP X a σ Q) X.xe s:=by
 have b:Vals (vs++wU) (us++ds):=r.append hd;have hl:(us++ds).length=ps.length:=by rw[<- b.length];exact F.len _ _ _ _ h
 refine wpAny_call (codeAny_mono (F.run X.A X.stack s H ⟨us,[]⟩ (us++ds) (vs++wU) Q E hr I.env0 (hb s us I.Gi hl) b h) λr c hq=>?_);cases r with
 | error e=>exact hx a σ H s e c I hq
 | ok fl=>
  cases fl with
  | ret u=>exact I.after hq
  | next=>exact False.elim hq
  | brk=>exact False.elim hq
  | cont=>exact False.elim hq
theorem xG(F:wO X.prog X.w X.K X.mg X.base CX k f fd ps sp)(hr:Room k X.A)(d:Gl X x)(hm:X.mg x=some (.ref f))(hk:W.keepIn X.K (.ref f)=true)(hb:Binds X.K fd ps ds)(hd:Vals wU ds)(hx:Passes CX X E)
  (i:PA X (e::es) t) (c:(x == ("__debug__":Str))=false:=by decide) (g:starEach (e::es) X.env=(false,eval e X.env)::starEach es X.env:=by rfl) (b:(backTo pos (starEach es X.env)).any (·.1)=false:=by rfl):
  PE X (.Call (.Name x p) (e::es) [] pos) (aQ sp wU E t):=by
 intro a s j H Q I h;refine wpAny_Call_Name_kw (vq I d hm ?_ c);refine W.callWith_K (h₀:=X.base) I.ok.mod.kin hk (iW (i pos a s j H _ I h) λus m ⟨l,H1,I1,r,q⟩=>⟨I1.Gi,?_⟩) g b;exact Zah F hr hb hd hx I1 r q
theorem tZ{pl:Sem Bool}(j:PE X o ta)(c:Im X.K C)(hm:Meth X.K C m f)(F:wO X.prog X.w X.K X.mg X.base CX k f fd ps sp)(hr:Room k X.A)(hb:Binds X.K fd ps ds)(hd:Vals wU ds)(hx:Passes CX X E)(n:PA X (e::es) t)
  (g:starEach (e::es) X.env=(false,eval e X.env)::starEach es X.env:=by rfl) (d:(backTo pos (starEach es X.env)).any (·.1)=false:=by rfl)
  (p:eval (.Call (.Attribute o m apos) (e::es) [] pos) X.env=(do
   let ov <- eval o X.env
   standAt apos.atName
   let (f,first) <- holding [ov] (getMethod ov m pl)
   callWith pos f first (backTo pos (starEach (e::es) X.env)) (backToKw pos (keywordEach [] X.env))):=by rfl):
  PE X (.Call (.Attribute o m apos) (e::es) [] pos) (mJ C m sp wU E ta t):=by
 intro b s i H Q I h;refine W.methodCall_KW (pl:=pl) (iW (j b s i H _ I h) λu v ⟨x,H1,I1,rx,a,dx,fs,ex,ea,l,q⟩=>?_) p;subst ex;obtain rfl:u=Value.ref a:=rx;refine U8 I1 ea c hm l ?_;refine W.callWith_K (first:=[.ref a]) (h₀:=X.base) I.ok.mod.kin hm.kp (iW (n pos b v i H1 _ I1 q) λus y ⟨vs,H2,I2,r,q2⟩=>⟨I2.Gi,?_⟩) g d;exact Zah (us:=.ref a::us) (vs:=.ref a::vs) F hr hb hd hx I2 (.cons rfl r) q2
theorem nY{pl:Sem Bool}(d:PE X o ta)(c:Im X.K C)(hm:Meth X.K C m f)(F:wO X.prog X.w X.K X.mg X.base CX k f fd ps sp)(hr:Room k X.A)(hb:Binds X.K fd ps ds)(hd:Vals wU ds)(hx:Passes CX X E)
  (e:eval (.Call (.Attribute o m apos) [] [] pos) X.env=(do
   let ov <- eval o X.env
   standAt apos.atName
   let (f,first) <- holding [ov] (getMethod ov m pl)
   callWith pos f first (backTo pos (starEach [] X.env)) (backToKw pos (keywordEach [] X.env))):=by rfl):
  PE X (.Call (.Attribute o m apos) [] [] pos) (mJ C m sp wU E ta aF):=by
 intro b s g H Q I h;refine W.methodCall_KW (pl:=pl) (iW (d b s g H _ I h) λu i ⟨x,H1,I1,rx,a,dx,fs,ex,ea,l,q⟩=>?_) e;subst ex;obtain rfl:u=Value.ref a:=rx;refine U8 I1 ea c hm l ?_;exact W.callWith_K0 (first:=[.ref a]) I1.Gi hm.kp (Zah (us:=[.ref a]) (vs:=[.ref a]) F hr hb hd hx I1 (.cons rfl .nil) q)
structure Mk(K:aB)(C f:AH):Prop where
 makes:W.makesIn K C=true
 init:W.findIn K (.ref C) "__init__"=some (some (.ref f))
 fn:W.isFn K (.ref f)=true
 kp:W.keepIn K (.ref C)=true
theorem Zee{a:At}{σ:St}{H:Hp}{s:AJ}{Q:VK}{us:AC}{vs:List V}(M:Mk X.K C f)(F:wO X.prog X.w X.K X.mg X.base CX k f fd ps sp)(hr:Room (k+1) X.A)(hb:Binds X.K fd ps ds)(hd:Vals wU ds)
  (hx:Passes CX X E) (I:Inv X a σ H s) (r:Vals vs us)
  (h:∀x dx,H x=none->H dx=none->dx≠x->sp (.ref x::(vs++wU)) (upd (upd H dx (.own x)) x (.ins C dx [])) (λv l=>v=.non/\Q (.ref x) l) E):
  wpAny (model X.prog X.w) X.A (call (.ref C) us) (EP X a σ Q) X.xe s:=by
 have hq:=h (s.heap.objs.size+1) s.heap.objs.size (I.hok.fresh (Nat.le_succ _)) (I.hok.fresh (Nat.le_refl _)) (Nat.ne_of_lt (Nat.lt_succ_self _));have c:=Inv.made (C:=C) I;have d:Vals (V.ref (s.heap.objs.size+1)::(vs++wU)) (Value.ref (s.heap.objs.size+1)::(us++ds)):=.cons rfl (r.append hd);have hl:(Value.ref (s.heap.objs.size+1)::us++ds).length=ps.length:=by
  have e:=d.length;rw[F.len _ _ _ _ hq]at e;exact e.symm
 refine wpAny_call (Zqq (f:=f) I.Gi M.makes M.init (beq_iff_eq.mp M.fn) (codeAny_mono (F.run _ X.stack _ _ ⟨Value.ref (s.heap.objs.size+1)::us,[]⟩ (Value.ref (s.heap.objs.size+1)::(us++ds)) _ _ E (hr.make C us [])
  (c.env0.make C us []) (hb _ (Value.ref (s.heap.objs.size+1)::us) c.Gi hl) d hq) λr i b=>?_))
 cases r with
 | error e=>exact hx a σ _ _ e i c b
 | ok fl=>
  cases fl with
  | ret u=>
   obtain⟨v,j,g,o,m,n⟩:=c.after b;subst m;exact⟨o,⟨V.ref (s.heap.objs.size+1),j,g,rfl,n⟩⟩
  | next=>exact False.elim b
  | brk=>exact False.elim b
  | cont=>exact False.elim b
theorem BP(M:Mk X.K C f)(F:wO X.prog X.w X.K X.mg X.base CX k f fd ps sp)(hr:Room (k+1) X.A)(d:Gl X x)(hm:X.mg x=some (.ref C))(hb:Binds X.K fd ps ds)(hd:Vals wU ds)(hx:Passes CX X E)
  (i:PA X (e::es) t) (c:(x == ("__debug__":Str))=false:=by decide) (g:starEach (e::es) X.env=(false,eval e X.env)::starEach es X.env:=by rfl) (b:(backTo pos (starEach es X.env)).any (·.1)=false:=by rfl):
  PE X (.Call (.Name x p) (e::es) [] pos) (Dc C sp wU E t):=by
 intro a s j H Q I h;refine wpAny_Call_Name_kw (vq I d hm ?_ c);refine W.callWith_K (h₀:=X.base) I.ok.mod.kin M.kp (iW (i pos a s j H _ I h) λus m ⟨l,H1,I1,r,q⟩=>⟨I1.Gi,?_⟩) g b;exact Zee M F hr hb hd hx I1 r q
theorem Zq1(M:Mk X.K C f)(F:wO X.prog X.w X.K X.mg X.base CX k f fd ps sp)(hr:Room (k+1) X.A)(c:Gl X x)(hm:X.mg x=some (.ref C))(hb:Binds X.K fd ps ds)(hd:Vals wU ds)(hx:Passes CX X E)
  (a:(x == ("__debug__":Str))=false:=by decide):PE X (.Call (.Name x p) [] [] pos) (Dc C sp wU E aF):=by
 intro b s d H Q I h;refine wpAny_Call_Name_kw (vq I c hm ?_ a);exact W.callWith_K0 I.Gi M.kp (Zee (us:=[]) M F hr hb hd hx I .nil h)
end
section
variable {X:Cx}{CX:CXT}{k:Nat}{f C:AH}{fd:AK}{ps ks:AG}{sp:Sp}{E:XK}{x m:Str}{p pos apos kpos:Pos}{e o:AM}{es:AF}{kws:List Keyword}{te ta:TE}{t tk:TA}{nm:Option Str}
structure ZL7(K:aB)(fd:AK)(ps ks:AG)(g:AC->AC->AC)(gV:List V->List V->List V):Prop where
 to:∀(s:AJ) (us ws:AC),K.In s.heap->(g us ws).length=ps.length->BindsTo s fd ⟨us,ks.zip ws⟩ (ps.zip (g us ws))
 rel:∀{vs:List V}{us:AC}{zs:List V}{ws:AC},Vals vs us->Vals zs ws->Vals (gV vs zs) (g us ws)
variable {g:AC->AC->AC}{gV:List V->List V->List V}
end
structure aP(N P:AG)(sc:Scope):Prop where
 kind:sc.kind=.function
 co:sc.isCoroutine=false
 gen:sc.isGenerator=false
 nd:N.Nodup
 pre:N.take P.length=P
 par:∀x∈P,sc.names.lookup x=some .local\/sc.names.lookup x=some .cell
 Zy1:∀y∈sc.names,y.2≠.free
theorem Zm{kindOf:Str->Option NameKind}{x:Str}:∀{binds:List (Str×AI)}{m:As},(∀v,(x,v)∉binds)->bindL kindOf binds m x=m x
 | [],_,_=>rfl
 | (n,v)::r,m,h=>by
  unfold bindL;rw[Zm λw a=>h w (List.mem_cons_of_mem _ a)];split
  ·have:x≠n:=by rintro rfl;exact h v List.mem_cons_self
   simp[this]
  ·rfl
theorem Zo{kindOf:Str->Option NameKind}{x:Str}:∀{binds:List (Str×AI)}{m:As},(∀v,(x,v)∉binds)->bindC kindOf binds m x=m x
 | [],_,_=>rfl
 | (n,v)::r,m,h=>by
  unfold bindC;rw[Zo λw a=>h w (List.mem_cons_of_mem _ a)];split
  ·rfl
  ·have:x≠n:=by rintro rfl;exact h v List.mem_cons_self
   simp[this]
theorem Zn{kindOf:Str->Option NameKind}{x:Str}{v:AI}:∀{P:AG}{vs:AC}{i:Nat}{m:As},P.Nodup->P[i]? =some x->vs[i]? =some v->kindOf x=some .local->
  bindL kindOf (P.zip vs) m x=some v
 | [],_,_,_,_,h,_,_=>by simp at h
 | _::_,[],_,_,_,_,h,_=>by simp at h
 | p::P,w::vs,0,m,nd,h1,h2,hk=>by
  simp at h1 h2;subst h1;subst h2;show bindL kindOf ((p,w)::P.zip vs) m p=_;unfold bindL;rw[Zm λv hv=>(List.nodup_cons.mp nd).1 (List.of_mem_zip hv).1,if_pos hk];simp
 | p::P,w::vs,i+1,m,nd,h1,h2,hk=>by
  show bindL kindOf ((p,w)::P.zip vs) m x=_;unfold bindL;exact Zn (i:=i) (List.nodup_cons.mp nd).2 (by simpa using h1) (by simpa using h2) hk
theorem Zq{kindOf:Str->Option NameKind}{x:Str}{v:AI}:∀{P:AG}{vs:AC}{i:Nat}{m:As},P.Nodup->P[i]? =some x->vs[i]? =some v->kindOf x≠some .local->
  bindC kindOf (P.zip vs) m x=some v
 | [],_,_,_,_,h,_,_=>by simp at h
 | _::_,[],_,_,_,_,h,_=>by simp at h
 | p::P,w::vs,0,m,nd,h1,h2,hk=>by
  simp at h1 h2;subst h1;subst h2;show bindC kindOf ((p,w)::P.zip vs) m p=_;unfold bindC;rw[Zo λv hv=>(List.nodup_cons.mp nd).1 (List.of_mem_zip hv).1,if_neg hk];simp
 | p::P,w::vs,i+1,m,nd,h1,h2,hk=>by
  show bindC kindOf ((p,w)::P.zip vs) m x=_;unfold bindC;exact Zq (i:=i) (List.nodup_cons.mp nd).2 (by simpa using h1) (by simpa using h2) hk
def start(N:AG)(vs:List V):St:=vs.map some++List.replicate (N.length - vs.length) none
def O5(CX:CXT)(P:AL)(w:AN)(K:aB)(mg:As)(base:Heap)(N:AG)(b:Str)(a:Scope)(f:AH)(d:AI)(A:Around)(outer:List Env)(s:AJ)(H:Hp)(E:XK):Cx where
 prog:=P
 w:=w
 K:=K
 mg:=mg
 base:=base
 A:=A.deeper (envOfC b a s.heap.objs.size f d)
 N:=N
 s₀:=s
 H₀:=H
 env:=envOfC b a s.heap.objs.size f d
 outer:=outer
 stack:=envOfC b a s.heap.objs.size f d::outer
 ex:=[]
 calm:=true
 fn:=λ_=>true
 pn:=[]
 xe:=λe s'=>wpAny (model P w) (A.deeper (envOfC b a s.heap.objs.size f d)) (leaving (envOfC b a s.heap.objs.size f d) e) (λ_ c=>CX outer H s E e c) (λg c=>CX outer H s E g c) s'
theorem Zgm{a:Scope}{n:Nat}{x:Str}(h:a.names.lookup x=some .cell):∃c,(cellsFrom n a.names []).lookup x=some c:=by
 have q:=W.cellsFrom_some a.names n [] (.inl h);exact Option.isSome_iff_exists.mp q
theorem Znl{CX:CXT}{P:AL}{w:AN}{K:aB}{mg:As}{base:Heap}{N ps:AG}{g:Str}{d:Scope}{f:AH}{t:AI}{A:Around}{outer:List Env}{s B:AJ}{H:Hp}{E:XK}{us:AC}{vs:List V}
  (S:aP N ps d) (hd:A.handled=none) (j:Zl3 P w K mg base A outer s H) (hl:vs.length=ps.length) (r:Vals vs us)
  (x:InCallC s s.heap.objs.size (bindL (envOfC g d s.heap.objs.size f t).kindOf (ps.zip us) λ_=>none) (cellsFrom (s.heap.objs.size+1) d.names []) (bindC (envOfC g d s.heap.objs.size f t).kindOf (ps.zip us) λ_=>none) B):
  Inv (O5 CX P w K mg base N g d f t A outer s H E) [] (start N vs) H B:=by
 have D:ps.length<=N.length:=by have:=congrArg List.length S.pre;rw[List.length_take]at this;omega
 obtain⟨h1,tk,rfl,hk⟩:=x.done;have l:∀b:AH,b∉(O5 CX P w K mg base N g d f t A outer s H E).ex:=λb z=>absurd (show b∈([]:AE)from z) (by simp);refine⟨⟨j.mod,S.kind,rfl,rfl,Nat.le_refl _,λy z c h1 h2=>?_,λy hy=>?_,λy c _ h=>?_,λ_=>hd,Around.frames_deeper j.frames,.inr ⟨rfl,rfl⟩,λb z=>absurd z (l b),j.bs,j.bsz,λb _ _=>l b,λb z=>absurd z (l b),j.zZ,j.frf⟩,
  rfl,j.bare,Un.kept hk,⟨_,x.toInCall.ns,λi y v h1 h2 h3=>?_⟩,λy c h=>⟨_,x.cell y c h⟩,j.hok.fresh (Nat.le_refl _),λy c h=>?_,λp hp=>absurd (show p∈([]:At)from hp) (by simp),j.hok.kept hk,?_⟩
 ·exact name_of_addr x.apart (PySem.mem_of_lookup h1) (PySem.mem_of_lookup h2)
 ·have hy:d.names.lookup y=some .cell\/d.names.lookup y=some .free:=hy;rcases hy with hy | hy
  ·exact Zgm hy
  ·exact absurd rfl (S.Zy1 _ (PySem.mem_of_lookup hy))
 ·exact Nat.le_of_lt (x.above y c (PySem.mem_of_lookup h))
 ·have o:i<vs.length:=by
   unfold start at h2
   by_cases o:i<vs.length
   ·exact o
   ·rw[List.getElem?_append_right (by simpa using o)]at h2;rw[List.getElem?_replicate]at h2;split at h2<;>cases h2
  have C:vs[i]? =some v:=by
   unfold start at h2;rw[List.getElem?_append_left (by simpa using o),cF]at h2;cases e:vs[i]? with
   | none=>rw[e]at h2;cases h2
   | some a=>rw[e]at h2;cases h2;rfl
  obtain⟨u,hu,F⟩:=r.get C;have hp:ps[i]? =some y:=by
   rw[<- S.pre,List.getElem?_take_of_lt (by omega)];exact h1
  have m:ps.Nodup:=by rw[<- S.pre];exact S.nd.sublist (List.take_sublist _ _)
  refine⟨u,F,?_⟩;rcases S.par y (List.mem_of_getElem? hp)with k | k
  ·exact .inl ⟨k,Zn m hp hu k⟩
  ·obtain⟨c,e⟩:=Zgm (n:=s.heap.objs.size+1) k;refine .inr ⟨.inl k,c,e,?_⟩;have q:=x.cell y c e;rw[Zq m hp hu (by show d.names.lookup y≠_;rw[k];decide)]at q;exact q
 ·exact j.hok.fresh (Nat.le_of_lt (x.above y c (PySem.mem_of_lookup h)))
 ·unfold start;show _=N.length;rw[List.length_append,aY,List.length_replicate];omega
theorem Zs5{CX:CXT}{P:AL}{w:AN}{K:aB}{mg:As}{base:Heap}{k:Nat}{f:AH}{name c:Str}{g:Arguments}{h:List Stmt}{a:Scope}{dV kV m M d ct oc:AI}{R od:Option AH}
  {C:Array AB}{N ps:AG}{sp:Sp} (lk:K.lookup f=some ⟨oc,od,.func (W.fnOf name c g h a dV kV m M R d ct),C⟩) (B:W.codeIn K d c=true) (S:aP N ps a)
  (len:∀vs H Q E,sp vs H Q E->vs.length=ps.length)
  (j:∀(A:Around) (outer:List Env) (s:AJ) (H:Hp) (vs:List V) (Q:VK) (E:XK),Room k (A.deeper (envOfC c a s.heap.objs.size f d))->sp vs H Q E->
   ∃t,PSs (O5 CX P w K mg base N c a f d A outer s H E) h t/\t { nx:=λ_ H'=>Q .non H',rt:=Q } (start N vs) H):
  wO P w K mg base CX (k+1) f (W.fnOf name c g h a dV kV m M R d ct) ps sp:=by
 refine⟨len,λA outer s H O us vs Q E hr z hb r p=>?_⟩;have hl:=len _ _ _ _ p;have U:K.In s.heap:=z.mod.kin.keeps λb o e=>(z.bs b o e).1;have F:s.heap.NoLimit:=z.mod.nolimit.keeps λb o e=>(z.bs b o e).1;have l:∀y∈ps.zip us,a.names.lookup y.1=some .local\/(a.names.lookup y.1=some .cell/\((cellsFrom (s.heap.objs.size+1) a.names []).lookup y.1).isSome=true):=λ⟨n,v⟩ hy=>by
  rcases S.par n (List.of_mem_zip hy).1 with q | q
  ·exact .inl q
  ·exact .inr ⟨q,W.cellsFrom_some _ _ _ (.inl q)⟩
 refine codeAny_call_function hr.depth (U _ _ lk) rfl S.co S.gen rfl (W.codeRec_of U B) (hb _ _ _ _ ?_);refine wpAny_newFunctionEnv_cells S.kind l λenv Y T x=>?_;subst Y;refine⟨F.keeps x.toInCall.keep,codeAny_func ?_⟩;obtain⟨t,X,hq⟩:=j A outer s H vs Q E (hr.deeper _) p;have I:Inv (O5 CX P w K mg base N c a f d A outer s H E) [] (start N vs) H T:=Znl S hr.hd z hl r x;refine wpAny_mono (X [] T (start N vs) H _ I hq) (λfl D hs=>?_) λe D hs=>hs;have fin:∀{i:St}{H':Hp}{v:V}{u:AI},Inv (O5 CX P w K mg base N c a f d A outer s H E) [] i H' D->RelV v u->Q v H'->CE outer P w H s Q u D:=
  λ{i H' v u} J L q=>⟨v,H',J.os,J.bare,J.base,J.hok,L,q⟩
 cases fl with
 | ret u=>
  obtain⟨v,i,H',J,L,q⟩:=hs;exact fin J L q
 | next=>
  obtain⟨i,H',J,q⟩:=hs;exact fin (v:=V.non) (u:=Value.none) J rfl q
 | brk=>
  obtain⟨_,_,_,q⟩:=hs;exact False.elim q
 | cont=>
  obtain⟨_,_,_,q⟩:=hs;exact False.elim q
section
variable {X:Cx}{x:Str}{p pos:Pos}{e:AM}{es:AF}{t:TA}{id T:String}{r:List V->Hp->VK->Prop}
def wQ(r:List V->Hp->VK->Prop)(t:TA):TE:=λσ H Q=>t σ H λvs a=>r vs a Q
theorem cz(hc:QF X (.builtin id) r)(f:Gl X x)(hm:X.mg x=none)(hv:bootBuiltins x=some (.builtin id))(i:PA X (e::es) t)(hn:x≠"__name__":=by decide)(c:(x == ("__debug__":Str))=false:=by decide)
  (g:starEach (e::es) X.env=(false,eval e X.env)::starEach es X.env:=by rfl) (b:(backTo pos (starEach es X.env)).any (·.1)=false:=by rfl):PE X (.Call (.Name x p) (e::es) [] pos) (wQ r t):=by
 intro a s d H Q I h;refine wpAny_Call_Name_kw (Uu I f hm hv ?_ hn c);exact PyProof.Rows.callWith_builtin1 (iW (i pos a s d H _ I h) λus k ⟨j,H1,I1,r1,q1⟩=>hc a k d H1 j us Q I1 r1 q1) g b
theorem vH(hc:QF X (.type T) r)(f:Gl X x)(hm:X.mg x=none)(hv:bootBuiltins x=some (.type T))(i:PA X (e::es) t)(hn:x≠"__name__":=by decide)(c:(x == ("__debug__":Str))=false:=by decide)
  (g:starEach (e::es) X.env=(false,eval e X.env)::starEach es X.env:=by rfl) (b:(backTo pos (starEach es X.env)).any (·.1)=false:=by rfl):PE X (.Call (.Name x p) (e::es) [] pos) (wQ r t):=by
 intro a s d H Q I h;refine wpAny_Call_Name_kw (Uu I f hm hv ?_ hn c);exact PyProof.Rows.callWith_type1 (iW (i pos a s d H _ I h) λus k ⟨j,H1,I1,r1,q1⟩=>hc a k d H1 j us Q I1 r1 q1) g b
end
end L2
namespace HT
open PySem PyProof.Rows
section
open PySem.SeqAt
open PySem.AutoSeq1 (wpAny_loadPart')
open PySem.MeetsSeq PySem.MeetsSeq2 PySem.MeetsSeq3
end
section
variable {prog:AL}{w:AN}{A:Around}{E:Ap}{s:AJ}
theorem Zw3{t b:AH}{vs a:AC}{Q:Ap}(p:IsTup s.heap t vs.toArray)(hb:IsTup s.heap b a.toArray)(hv:vs≠[])
  (h1:a=[]->Q (.ref t) s) (h2:a≠[]->Q (.ref s.heap.objs.size) { s with heap:=s.heap.push { cls:=.type "tuple",data:=.seq (vs++a).toArray } })
  (hsz:vs.length+a.length<=sizeLine):wpAny (model prog w) A (binaryOp .Add (.ref t) (.ref b)) Q E s:=by
 obtain⟨⟨o,m,k,sl⟩,j,hc,n,hd⟩:=id p;obtain⟨⟨l,f,data2,d⟩,c,g,n2,h⟩:=id hb;simp only at hc hd g h;subst hc hd g h;have e:vs.toArray++a.toArray=(vs++a).toArray:=by simp
 by_cases i:a=[]
 ·exact concat_meets ⟨_,j,rfl⟩ ⟨_,c,rfl⟩ noFill_tuple_add seq_tuple_add PySem.F.slot_tuple_add PySem.F.entry_tuple_add (PySem.F.args_tuple_add_2 _ _)
   (tuple_addW1 t b vs.toArray a.toArray n n2 m f sl d (by simpa using hv) (by simp[i])) ⟨j,c,h1 i⟩
 ·refine concat_meets ⟨_,j,rfl⟩ ⟨_,c,rfl⟩ noFill_tuple_add seq_tuple_add PySem.F.slot_tuple_add PySem.F.entry_tuple_add (PySem.F.args_tuple_add_2 _ _)
   (tuple_addW2 t b vs.toArray a.toArray n n2 m f sl d (by simpa using hv) (by simpa using i) (by rw[List.size_toArray,List.size_toArray];exact hsz)) ⟨j,c,?_⟩
  rw[e];exact h2 i
def rW(n d:Nat):AA->Nat
 | none=>d
 | some v=>if v<0 then(v+(n:Int)).toNat else min v.toNat n
theorem Zxj(n d:Nat)(hd:d<=n)(o:AA):rW n d o<=n:=by
 cases o with
 | none=>exact hd
 | some v=>
  show(if v<0 then(v+(n:Int)).toNat else min v.toNat n)<=n
  by_cases hv:v<0
  ·rw[if_pos hv];omega
  ·rw[if_neg hv];exact Nat.min_le_right _ _
theorem Zm2(v:Int)(n d:Nat):(if v<0 then max (v+(n:Int)) 0 else min v (n:Int))=((rW n d (some v):Nat):Int):=by
 show(if v<0 then max (v+(n:Int)) 0 else min v (n:Int))=(((if v<0 then(v+(n:Int)).toNat else min v.toNat n):Nat):Int)
 by_cases hv:v<0
 ·simp only[if_pos hv];omega
 ·simp only[if_neg hv];omega
theorem Zky(lo a:AA)(n:Nat):Builtin.Slice.sliceAdjust lo a 1 (n:Int)=(((rW n 0 lo:Nat):Int),((rW n n a:Nat):Int)):=by
 have h1:¬ ((1:Int)<0):=by omega
 unfold Builtin.Slice.sliceAdjust;simp only[h1,if_false];refine Prod.ext ?_ ?_
 ·cases lo with
  | none=>rfl
  | some v=>exact Zm2 v n 0
 ·cases a with
  | none=>rfl
  | some v=>exact Zm2 v n n
theorem Zil(i j:Nat):Builtin.Slice.slicePlaces (i:Int) (j:Int) 1=j - i:=by
 unfold Builtin.Slice.slicePlaces;have h1:(1:Int) > 0:=by omega
 simp only[h1,if_true,Int.ediv_one];split<;>omega
theorem Sh{v:AI}{o:AA}{Q:AA->AJ->Prop}(p:IsPart v o)(h:Q o s):wpAny (model prog w) A (Builtin.Slice.slicePartIndex v) Q E s:=by
 cases p with
 | none=>exact slicePart_none h
 | int i t=>exact slicePart_int h
theorem Mi{sl:AH}{e d:AI}{lo c:AA}{n:Nat}{Q:Int×Int×Nat->AJ->Prop}(hs:s.heap.IsSliceOf sl e d .none)(pl:IsPart e lo)(f:IsPart d c)
  (h:Q (((rW n 0 lo:Nat):Int),1,rW n n c - rW n 0 lo) s):wpAny (model prog w) A (Builtin.Slice.sliceApplied (.ref sl) (pure (n:Int))) Q E s:=by
 obtain⟨os,a,g,b⟩:=id hs;unfold Builtin.Slice.sliceApplied Builtin.Slice.sliceFields;refine wpAny_bind (wpAny_bind (wpAny_field a b (x:=e) rfl (wpAny_bind (wpAny_field a b (x:=d) rfl (wpAny_bind (wpAny_field a b (x:=.none) rfl (wpAny_pure ?_)))))));refine wpAny_bind (slicePart_none ?_);show wpAny _ _ (if ((1:Int) == 0)=true then _ else _) _ _ s;rw[if_neg (by decide)];refine wpAny_bind (Sh pl (wpAny_bind (Sh f (wpAny_bind (wpAny_pure ?_)))));show wpAny _ _ (match Builtin.Slice.sliceAdjust lo c 1 (n:Int)with | (lo,c)=>pure (lo,(1:Int),Builtin.Slice.slicePlaces lo c 1)) _ _ s;rw[Zky lo c n];show wpAny _ _ (pure (((rW n 0 lo:Nat):Int),(1:Int),Builtin.Slice.slicePlaces ((rW n 0 lo:Nat):Int) ((rW n n c:Nat):Int) 1)) _ _ s;rw[Zil];exact wpAny_pure h
theorem Zpv(xs:Array AI)(i k:Nat):((List.range k).filterMap λ(m:Nat)=>xs[((i:Int)+(m:Int) * 1).toNat]?).toArray=((xs.toList.drop i).take k).toArray:=by
 have e:(λ(m:Nat)=>xs[((i:Int)+(m:Int) * 1).toNat]?)=λm=>xs[i+m]? :=by
  funext m
  have:((i:Int)+(m:Int) * 1).toNat=i+m:=by omega
  rw[this]
 rw[e];have:=pick_run xs i k;rw[List.filterMap_map]at this;have a:((λx=>xs[x]?) ∘ λx=>i+x)=λm=>xs[i+m]? :=rfl;rw[a]at this;rw[this]
theorem K4{t sl:AH}{a:Array AI}{j k:AI}{lo b:AA}{Q:Ap}(d:IsTup s.heap t a)(hs:s.heap.IsSliceOf sl j k .none)(pl:IsPart j lo)(o:IsPart k b)
  (l:¬ (rW a.size 0 lo=0/\rW a.size a.size b=a.size))
  (h:Q (.ref s.heap.objs.size) { s with heap:=s.heap.push { cls:=.type "tuple",data:=.seq ((a.toList.drop (rW a.size 0 lo)).take (rW a.size a.size b - rW a.size 0 lo)).toArray } })
  (hsz:a.size<=sizeLine):wpAny (model prog w) A (getItem (.ref t) (.ref sl)) Q E s:=by
 have c:sizeOk (.seq ((a.toList.drop (rW a.size 0 lo)).take (rW a.size a.size b - rW a.size 0 lo)).toArray):=by
  show((a.toList.drop (rW a.size 0 lo)).take (rW a.size a.size b - rW a.size 0 lo)).toArray.size<=sizeLine;rw[List.size_toArray,List.length_take,List.length_drop,Array.length_toList];omega
 have r:rW a.size a.size b<=a.size:=Zxj _ _ (Nat.le_refl _) b;obtain⟨os,e,i,n⟩:=id hs;have f:s.TypeIs (.ref sl) "slice":=⟨os,e,i⟩;unfold getItem
 try with_reducible refine wpAny_holding ?_
 first | refine wpAny_bind (wpAny_pure ?_) | skip
 refine wpAny_bind (wpAny_sequenceKey d.typeIs (by decide) ?_);refine wpAny_bind (wpAny_callSpecial?_slot (name:=Str.ofString "__getitem__") d.typeIs PyProof.Rows.slot_tuple_getitem
  (wpAny_call_entry PyProof.Rows.slot_tuple_getitem d.typeIs entry_tuple_getitem ?_ (args_tuple_getitem _ _)))
 show wpAny _ _ (Builtin.Tuple.tupleItemsOf (.ref t) >>= _) _ _ s;refine wpAny_bind (tupleItemsOf_ d ?_);refine wpAny_bind (wpAny_typeOf f ?_);rw[if_pos (by decide)];refine wpAny_bind (Mi hs pl o ?_);have g:¬ ((((rW a.size 0 lo:Nat):Int) == 0 && (1:Int) == 1 && (rW a.size a.size b - rW a.size 0 lo) == a.size)=true):=by
  intro q;rw[Bool.and_eq_true,Bool.and_eq_true]at q;have u:((rW a.size 0 lo:Nat):Int)=0:=eq_of_beq q.1.1;have p:rW a.size a.size b - rW a.size 0 lo=a.size:=eq_of_beq q.2;exact l ⟨by omega,by omega⟩
 show wpAny _ _ (if (((rW a.size 0 lo:Nat):Int) == 0 && (1:Int) == 1 && (rW a.size a.size b - rW a.size 0 lo) == a.size)=true then _ else _) _ _ s;rw[if_neg g,Zpv]
 first
  | exact wpAny_bind (m:=Builtin.Tuple.tupleExact _) (wpAny_newObj_type (wpAny_pure ⟨_,rfl,wpAny_pure h⟩) c)
  | exact wpAny_bind (m:=Builtin.Tuple.tupleExact _) (wpAny_newObj_type (wpAny_bind (wpAny_pure (wpAny_pure ⟨_,rfl,wpAny_pure h⟩))) c)
  | exact wpAny_bind (wpAny_bind (m:=Builtin.Tuple.tupleExact _) (wpAny_newObj_type (wpAny_pure (wpAny_pure ⟨_,rfl,wpAny_pure h⟩)) c))
  | exact wpAny_bind (wpAny_bind (m:=Builtin.Tuple.tupleExact _) (wpAny_newObj_type (wpAny_pure ⟨_,rfl,wpAny_pure h⟩) c))
end
end HT
namespace L2
open PySem PySem.Spec PyProof.Rows
abbrev TO:=St->Hp->(AA->Hp->Prop)->Prop
def PO(X:Cx)(e:Option AM)(t:TO):Prop:=
 ∀(a:At) (s:AJ) (σ:St) (H:Hp) (Q:AA->Hp->Prop),Inv X a σ H s->t σ H Q->
  wpAny (model X.prog X.w) X.A (evalPart e X.env) (λu s'=>∃o H',Inv X a σ H' s'/\IsPart u o/\Q o H') X.xe s
def Ri:TO:=λ_ H Q=>Q none H
def Yz(t:TE):TO:=λσ H Q=>t σ H λx a=>∃i,x=.int i/\Q (some i) a
section
variable {X:Cx}{e:AM}{te:TE}{lo hi:Option AM}{tl th:TO}{pos p2:Pos}
theorem Zlf:PO X none Ri:=by
 intro a s b H Q I h;rw[evalPart_none];exact wpAny_pure ⟨none,H,I,.none,h⟩
theorem Rn(h:PE X e te):PO X (some e) (Yz te):=by
 intro a s c H Q I b;rw[evalPart_some];refine iW (h a s c H _ I b) λu d ⟨x,H1,I1,r1,q1⟩=>?_;obtain⟨i,rfl,q⟩:=q1;obtain⟨t,rfl⟩:=r1;exact⟨some i,H1,I1,.int i t,q⟩
def SlR(X:Cx)(r:V->AA->AA->Hp->VK->Prop):Prop:=
 ∀(a:At) (s:AJ) (σ:St) (H:Hp) (x:V) (v b c:AI) (lo hi:AA) (sl:AH) (Q:VK),Inv X a σ H s->RelV x v->s.heap.IsSliceOf sl b c .none->IsPart b lo->IsPart c hi->r x lo hi H Q->
  ∃T id,typeLookup (.type T) "__getitem__"=pure (some (.builtin id))/\s.TypeIs v T/\wpAny (model X.prog X.w) X.A (getItem v (.ref sl)) (EP X a σ Q) X.xe s
def tSl(r:V->AA->AA->Hp->VK->Prop)(te:TE)(tl th:TO):TE:=λσ H Q=>te σ H λx a=>tl σ a λl c=>th σ c λu b=>r x l u b Q
theorem Tq{r:V->AA->AA->Hp->VK->Prop}(hr:SlR X r)(j:PE X e te)(hl:PO X lo tl)(hu:PO X hi th):PE X (.Subscript e (.Slice lo hi none p2) pos) (tSl r te tl th):=by
 intro a s d H Q I h;refine Subscript_ (iW (j a s d H _ I h) λv o ⟨x,H1,I1,r1,q1⟩=>?_);refine wpAny_Slice (iW (hl a o d H1 _ I1 q1) λf k ⟨l,H2,I2,pl,q2⟩=>iW (hu a k d H2 _ I2 q2) λg c ⟨u,H3,I3,pu,q3⟩=>?_);rw[evalPart_none];refine wpAny_pure ?_;have m:Inv X a d H3 { c with heap:=c.heap.push { cls:=.type "slice",data:=.fields #[f,g,.none] } }:=I3.kept (t':=c.toks) λb ob q=>Heap.get?_push_of_some _ q;obtain⟨T,id,p,n,i⟩:=hr a { c with heap:=c.heap.push { cls:=.type "slice",data:=.fields #[f,g,.none] } } d H3 x v f g l u c.heap.objs.size Q m r1 (Heap.IsSliceOf.new ..) pl pu q3;show wpAny (model X.prog X.w) X.A (subscriptTail e (.Slice lo hi none p2) v (.ref c.heap.objs.size)) (EP X a d Q) X.xe { c with heap:=c.heap.push { cls:=.type "slice",data:=.fields #[f,g,.none] } };exact tail_any (ops:=[.ref c.heap.objs.size,v]) n p i (by with_unfolding_all rfl)
def XH(xs:List V)(lo hi:AA):List V:=(xs.drop (HT.rW xs.length 0 lo)).take (HT.rW xs.length xs.length hi - HT.rW xs.length 0 lo)
theorem Qx(xs:List V)(lo hi:AA):(XH xs lo hi).length<=xs.length:=by
 unfold XH;rw[List.length_take,List.length_drop];omega
def Zxk(K:aB):V->AA->AA->Hp->VK->Prop:=λx lo hi H Q=>∃a xs,x=.ref a/\gw K H a xs/\
 ¬ (HT.rW xs.length 0 lo=0/\HT.rW xs.length xs.length hi=xs.length)/\∀p,H p=none->Q (.ref p) (upd H p (.tup (XH xs lo hi)))
theorem Zp8:SlR X (Zxk X.K):=by
 intro f s n H x v m p lo hi sl Q I j hs k l h;obtain⟨a,d,rfl,hx,i,q⟩:=h;cases j;obtain⟨e,r,g,hz⟩:=I.tuple hx;have c:e.toArray.size=d.length:=by rw[List.size_toArray];exact r.length.symm
 refine⟨"tuple",_,PyProof.Rows.slot_tuple_getitem.lookup,g.typeIs,?_⟩;refine HT.K4 g hs k l (by rw[c];exact i) ?_ (by rw[c];exact hz);rw[c];refine⟨.ref s.heap.objs.size,_,I.laid (t':=s.toks) (o:=.tup (XH d lo hi)) (λb ob q=>Heap.get?_push_of_some _ q) (Nat.le_refl _) ?_,rfl,q _ (I.hok.fresh (Nat.le_refl _))⟩;exact⟨Nat.le_trans (Qx d lo hi) hz,_,(r.drop (HT.rW d.length 0 lo)).take (HT.rW d.length d.length hi - HT.rW d.length 0 lo),IsTup.new _ _⟩
def Zwi(K:aB):R2:=λx y H Q=>∃a b xs c,x=.ref a/\y=.ref b/\gw K H a xs/\gw K H b c/\xs≠[]/\xs.length+c.length<=sizeLine/\
 (c=[]->Q (.ref a) H)/\(c≠[]->∀p,H p=none->Q (.ref p) (upd H p (.tup (xs++c))))
theorem Vals.Zbj{xs:List V}{us:AC}(r:Vals xs us):us=[]↔xs=[]:=by
 cases r with
 | nil=>simp
 | cons _ _=>simp
theorem Zua:zK X (binaryOp .Add) (Zwi X.K):=by
 intro e s t H x y v u Q I i r h;obtain⟨a,b,n,m,rfl,rfl,k,hb,hx,hz,p,g⟩:=h;cases i;cases r;obtain⟨j,d,l,_⟩:=I.tuple k;obtain⟨f,c,p2,_⟩:=I.tuple hb;refine HT.Zw3 l p2 (λz=>hx (d.Zbj.mp z)) (λz=>⟨.ref a,H,I,rfl,p (c.Zbj.mp z)⟩) (λz=>?_) (by rw[<- d.length,<- c.length];exact hz);refine⟨.ref s.heap.objs.size,_,I.laid (t':=s.toks) (o:=.tup (n++m)) (λb ob q=>Heap.get?_push_of_some _ q) (Nat.le_refl _) ?_,rfl,g (λw=>z (c.Zbj.mpr w)) _ (I.hok.fresh (Nat.le_refl _))⟩;exact⟨by rw[List.length_append];exact hz,_,d.append c,IsTup.new _ _⟩
end
def ixN(n:Nat)(i:Int):Option Nat:=if 0<=i then(if i<n then some i.toNat else none)else if -(n:Int)<=i then some (i+n).toNat else none
def XM{a:Type}(xs:List a)(i:Int):Option a:=(ixN xs.length i).bind λj=>xs[j]?
theorem Zlp{n:Nat}{i:Int}{j:Nat}(h:ixN n i=some j):seqIndex? i n=some j/\j<n/\-(n:Int)<=i/\i<n:=by
 unfold ixN at h
 by_cases a:0<=i
 ·rw[if_pos a]at h
  by_cases h1:i<n
  ·rw[if_pos h1]at h;have e:i.toNat=j:=Option.some.inj h;exact⟨by rw[seqIndex_of a h1,e],by omega,by omega,h1⟩
  ·rw[if_neg h1]at h;cases h
 ·rw[if_neg a]at h
  by_cases h1:-(n:Int)<=i
  ·rw[if_pos h1]at h;have e:(i+n).toNat=j:=Option.some.inj h;exact⟨by rw[seqIndex_neg (by omega) h1,e],by omega,h1,by omega⟩
  ·rw[if_neg h1]at h;cases h
theorem RC{a:Type}{xs:List a}{i:Int}{v:a}(h:XM xs i=some v):∃j,seqIndex? i xs.length=some j/\xs[j]? =some v/\j<xs.length/\-(xs.length:Int)<=i/\i<xs.length:=by
 unfold XM at h;cases e:ixN xs.length i with
 | none=>rw[e]at h;cases h
 | some j=>
  rw[e]at h;obtain⟨h1,h2,h3,h4⟩:=Zlp e;exact⟨j,h1,h,h2,h3,h4⟩
theorem iu{a:Type}{xs:List a}{j:Nat}{v:a}(h:xs[j]? =some v):XM xs (j:Int)=some v:=by
 have b:j<xs.length:=(dY h).1;have e:ixN xs.length (j:Int)=some j:=by
  unfold ixN;rw[if_pos (by omega),if_pos (by omega)];simp
 unfold XM;rw[e];exact h
def Zdn(b:AM):Prop:=∀o i,subscripted b false o i=operate [o,i] (getItem o i)
def IxR(X:Cx)(r:R2):Prop:=
 ∀(c a:AM) (b:At) (s:AJ) (σ:St) (H:Hp) (x y:V) (v u:AI) (Q:VK),Inv X b σ H s->RelV x v->RelV y u->r x y H Q->
  subscripted a false v u=operate [v,u] (getItem v u)->wpAny (model X.prog X.w) X.A (subscriptTail c a v u) (EP X b σ Q) X.xe s
def MtR(X:Cx)(id:String)(r:V->List V->Hp->VK->Prop):Prop:=
 ∀(a:At) (s:AJ) (σ:St) (H:Hp) (x:V) (xs:List V) (v:AI) (us:AC) (Q:VK),Inv X a σ H s->RelV x v->Vals xs us->r x xs H Q->
  wpAny (model X.prog X.w) X.A (call (.builtin id) (v::us)) (EP X a σ Q) X.xe s
section
variable {X:Cx}{a b:AM}{ta tb:TE}{pos:Pos}
theorem Zwk{r:R2}(hr:IxR X r)(g:PE X a ta)(hb:PE X b tb)(hs:Zdn b):PE X (.Subscript a b pos) (bA r ta tb):=by
 intro c s j H Q I h;exact Subscript_ (Zzu g hb I h λv u e x y f i d k q=>hr a b c e j f x y v u Q i d k q (hs _ _))
def mU(K:aB):R2:=λx y H Q=>∃p xs i v,x=.ref p/\y=.int i/\cB K H p xs/\XM xs i=some v/\Q v H
def fu(K:aB):R2:=λx y H Q=>∃p xs i v,x=.ref p/\y=.int i/\gw K H p xs/\XM xs i=some v/\Q v H
def Zpi:R2:=λx y H Q=>∃z i c,x=.str z/\y=.int i/\z.length<=sizeLine/\XM z.cps.toList i=some c/\Q (.str ⟨#[c]⟩) H
theorem dg:IxR X (mU X.K):=by
 intro g b a s m H x y v u Q I A B h hs;obtain⟨p,C,i,z,rfl,rfl,hq,o,q⟩:=h;cases A;obtain⟨t,rfl⟩:=B;obtain⟨c,r,d,hz⟩:=I.list hq;obtain⟨j,h1,h2,h3,h4,h5⟩:=RC o;obtain⟨w,k,e⟩:=r.get h2;have hl:=r.length;have hn:=Jq;have fin:EP X a m Q w s:=⟨z,H,I,e,q⟩
 by_cases l:0<=i
 ·have f:i.toNat=j:=by
   rw[seqIndex_of l h5]at h1;exact Option.some.inj h1
  exact item_listR d.isList l (by omega) (by rw[f];simpa using k) fin hs
 ·have f:(i+(c.toArray.size:Int)).toNat=j:=by
   rw[seqIndex_neg (by omega) h4]at h1;rw[List.size_toArray,<- hl];exact Option.some.inj h1
  exact subscriptTail_builtinR (x:=w) d.isList.typeIs slot_list_getitem.lookup
   (wpAny_getItem_list_neg (Q:=λr n=>r=w/\EP X a m Q r n) d.isList (by omega) (by rw[List.size_toArray]<;>omega) (by omega) (by rw[f];simpa using k) ⟨rfl,fin⟩) hs
theorem bO:IxR X (fu X.K):=by
 intro d b a s f H x y v u Q I m o h hs;obtain⟨p,A,i,z,rfl,rfl,hq,k,q⟩:=h;cases m;obtain⟨t,rfl⟩:=o;obtain⟨n,r,e,hz⟩:=I.tuple hq;obtain⟨j,h1,h2,h3,h4,h5⟩:=RC k;obtain⟨w,l,c⟩:=r.get h2;have hl:=r.length;have hn:=Jq;have fin:EP X a f Q w s:=⟨z,H,I,c,q⟩;exact subscriptTail_builtinR (x:=w) e.typeIs slot_tuple_getitem.lookup
  (getItem_tuple (j:=j) (Q:=λr g=>r=w/\EP X a f Q r g) e (by omega) (by omega) (by rw[List.size_toArray,<- hl];exact h1) (by simpa using l) ⟨rfl,fin⟩) hs
theorem Zre:IxR X Zpi:=by
 intro b a d s n H x y v u Q I g l h hs;obtain⟨z,i,c,rfl,rfl,hz,f,q⟩:=h;obtain⟨t,rfl⟩:=g;obtain⟨m,rfl⟩:=l;obtain⟨j,h1,h2,h3,h4,h5⟩:=RC f;have hl:z.cps.toList.length=z.length:=by simp[Str.length]
 rw[hl]at h1 h4 h5;have hn:=Jq;exact tail_any (typeIs_str s z t) slot_str_getitem.lookup (getItem_str (c:=c) (by
  have k:decide (i < -(2 ^ 63:Int))=false:=decide_eq_false (by omega);have e:decide (i≥2 ^ 63)=false:=decide_eq_false (by omega);rw[k,e,Bool.or_false]) (by rw[h1];simpa using h2) ⟨.str ⟨#[c]⟩,H,I.tok _,⟨_,rfl⟩,q⟩) hs
theorem Zje(a:AC)(n j:Nat)(u:AI):Obj.mapSeq (·.setIfInBounds j u) { cls:=.type "list",data:=.seq a.toArray n }={ cls:=.type "list",data:=.seq (a.set j u).toArray n }:=by
 simp[Obj.mapSeq]
theorem Inv.lst{b:At}{σ:St}{H:Hp}{s:AJ}{p:AH}{xs:List V}(I:Inv X b σ H s)(h:H p=some (.lst xs)):
  ∃(a:AC) (n:Nat),Vals xs a/\s.heap.get? p=some { cls:=.type "list",data:=.seq a.toArray n }/\xs.length<=sizeLine:=by
 obtain⟨z,a,n,r,e⟩:=I.hok p _ h;exact⟨a,n,r,e,z⟩
theorem Inv.Zy9{a:At}{σ:St}{H:Hp}{s:AJ}{p:AH}{xs g:List V}{c its':AC}{n d:Nat}{f:Obj->Obj}(I:Inv X a σ H s)(h:H p=some (.lst xs))
  (j:s.heap.get? p=some { cls:=.type "list",data:=.seq c.toArray n }) (i:f { cls:=.type "list",data:=.seq c.toArray n }={ cls:=.type "list",data:=.seq its'.toArray d }) (r:Vals g its') (hz:g.length<=sizeLine) (t:Nat):
  Inv X a σ (upd H p (.lst g)) { s with heap:=s.heap.update p f,toks:=t }:=by
 have e:(s.heap.update p f).get? p=some { cls:=.type "list",data:=.seq its'.toArray d }:=by
  rw[Heap.get?_update_self f j (by rw[i]<;>rfl),i]
 refine I.write (x:=p) (e:=p) (by rw[h];trivial) (.inl rfl) (λb u hb q=>(Heap.get?_update_other _ _ (Ne.symm hb)).trans q) ⟨_,e⟩ ?_;exact⟨hz,its',d,r,e⟩
def zN:V->V->V->Hp->(Hp->Prop)->Prop:=λo i v H Q=>∃p xs k j,o=.ref p/\i=.int k/\H p=some (.lst xs)/\ixN xs.length k=some j/\Q (upd H p (.lst (xs.set j v)))
theorem set_list:ZA2 X zN:=by
 intro b s x H o i v y z u Q I g f m h;obtain⟨p,l,k,j,rfl,rfl,hp,w,q⟩:=h;cases g;obtain⟨t,rfl⟩:=f;obtain⟨a,n,r,c,hz⟩:=I.lst hp;obtain⟨h1,h2,h3,h4⟩:=Zlp w;have hl:=r.length;have hn:=Jq;have d:Inv X b x (upd H p (.lst (l.set j v))) { s with heap:=s.heap.update p (Obj.mapSeq (·.setIfInBounds j u)) }:=
  I.Zy9 hp c (Zje a n j u) (r.set m j) (by rw[List.length_set];exact hz) s.toks
 by_cases e:0<=k
 ·have hk:k.toNat=j:=by
   rw[seqIndex_of e h4]at h1;exact Option.some.inj h1
  exact W.ki_setAt c e (by omega) (by rw[List.size_toArray,<- hl];exact h4) (by rw[hk];exact⟨_,d,q⟩)
 ·have hk:(k+(a.toArray.size:Int)).toNat=j:=by
   rw[seqIndex_neg (by omega) h3]at h1;rw[List.size_toArray,<- hl];exact Option.some.inj h1
  exact W.ki_setBack c (by omega) (by rw[List.size_toArray,<- hl];exact h3) (by omega) (by rw[hk];exact⟨_,d,q⟩)
theorem Z1(lo a:AA)(n:Nat):(sliceBounds lo a none n).1=((HT.rW n 0 lo:Nat):Int)/\(sliceBounds lo a none n).2.1=((HT.rW n n a:Nat):Int)/\(sliceBounds lo a none n).2.2=1:=by
 refine⟨?_,?_,rfl⟩
 ·cases lo with
  | none=>simp[sliceBounds,HT.rW]
  | some i=>
   simp only[sliceBounds,HT.rW,Option.getD_none,show(1:Int) > 0 by decide,if_true]
   by_cases h:i<0
   ·simp only[h,if_true]<;>omega
   ·simp only[h,if_false]<;>omega
 ·cases a with
  | none=>simp[sliceBounds,HT.rW]
  | some i=>
   simp only[sliceBounds,HT.rW,Option.getD_none,show(1:Int) > 0 by decide,if_true]
   by_cases h:i<0
   ·simp only[h,if_true]<;>omega
   ·simp only[h,if_false]<;>omega
theorem VP(a:AC)(lo b:AA):slicePick a.toArray lo b none=((a.drop (HT.rW a.length 0 lo)).take (HT.rW a.length a.length b - HT.rW a.length 0 lo)).toArray:=by
 obtain⟨h1,h2,h3⟩:=Z1 lo b a.toArray.size;unfold slicePick;rw[h1,h2,h3];simp only[sliceRange_one,pick_run,List.size_toArray]<;>rfl
def ZAl(K:aB):V->AA->AA->Hp->VK->Prop:=λx lo b H Q=>∃a xs,x=.ref a/\cB K H a xs/\∀p,H p=none->Q (.ref p) (upd H p (.lst (XH xs lo b)))
theorem Zt4:SlR X (ZAl X.K):=by
 intro f s n H x v m p lo e sl Q I i hs k l h;obtain⟨a,c,rfl,hx,q⟩:=h;cases i;obtain⟨j,r,g,hz⟩:=I.list hx;have d:=r.length;refine⟨"list",_,slot_list_getitem.lookup,g.isList.typeIs,?_⟩;refine wpAny_getItem_list_slice g.isList hs k l .none (by simp) ?_ (by rw[List.size_toArray]<;>omega);rw[VP,<- d];refine⟨.ref s.heap.objs.size,_,I.laid (t':=s.toks) (o:=.lst (XH c lo e)) (λb ob q=>Heap.get?_push_of_some _ q) (Nat.le_refl _) ?_,rfl,q _ (I.hok.fresh (Nat.le_refl _))⟩;exact⟨Nat.le_trans (Qx c lo e) hz,_,0,(r.drop (HT.rW c.length 0 lo)).take (HT.rW c.length c.length e - HT.rW c.length 0 lo),Heap.get?_push_size _ rfl⟩
def qJ:V->Bool
 | .non=>true
 | .bl _=>true
 | .int _=>true
 | .str _=>true
 | _=>false
def Zi:V->V->Bool
 | .non,.non=>true
 | .bl a,.bl b=>a == b
 | .bl a,.int b=>(if a then 1 else 0) == b
 | .int a,.bl b=>a == (if b then 1 else 0)
 | .int a,.int b=>a == b
 | .str a,.str b=>a == b
 | _,_=>false
theorem Cz{A:Around}{s:AJ}{y x:V}{u v:AI}(f:RelV y u)(c:RelV x v)(g:qJ y=true)(e:qJ x=true):SeqAt.EqAt A s u v (Zi y x):=by
 cases y with
 | non=>
  cases f;cases x with
  | non=>cases c;exact SeqAt.EqAt.same _
  | bl b=>cases c;exact SeqAt.EqAt.none_bool b
  | int b=>obtain⟨t,rfl⟩:=c;exact SeqAt.EqAt.none_int b t
  | str b=>obtain⟨t,rfl⟩:=c;exact SeqAt.EqAt.none_str b t
  | _=>exact absurd (show false=true from e) Bool.false_ne_true
 | bl a=>
  cases f;cases x with
  | non=>cases c;exact SeqAt.EqAt.bool_none a
  | bl b=>cases c;exact SeqAt.EqAt.bool_bool a b
  | int b=>obtain⟨t,rfl⟩:=c;exact SeqAt.EqAt.bool_int a b t
  | str b=>obtain⟨t,rfl⟩:=c;exact SeqAt.EqAt.bool_str a b t
  | _=>exact absurd (show false=true from e) Bool.false_ne_true
 | int a=>
  obtain⟨d,rfl⟩:=f;cases x with
  | non=>cases c;exact SeqAt.EqAt.int_none a d
  | bl b=>cases c;exact SeqAt.EqAt.int_bool a d b
  | int b=>obtain⟨t,rfl⟩:=c;exact SeqAt.EqAt.int_int a d b t
  | str b=>obtain⟨t,rfl⟩:=c;exact SeqAt.EqAt.int_str a d b t
  | _=>exact absurd (show false=true from e) Bool.false_ne_true
 | str a=>
  obtain⟨d,rfl⟩:=f;cases x with
  | non=>cases c;exact SeqAt.EqAt.str_none a d
  | bl b=>cases c;exact SeqAt.EqAt.str_bool a d b
  | int b=>obtain⟨t,rfl⟩:=c;exact SeqAt.EqAt.str_int a d b t
  | str b=>obtain⟨t,rfl⟩:=c;exact SeqAt.EqAt.str_str a d b t
  | _=>exact absurd (show false=true from e) Bool.false_ne_true
 | _=>exact absurd (show false=true from g) Bool.false_ne_true
def eqU(x:V)(u:AI):Bool:=match u with
 | .none=>Zi .non x
 | .bool b=>Zi (.bl b) x
 | .int i _=>Zi (.int i) x
 | .str z _=>Zi (.str z) x
 | _=>false
theorem Zsa{x y:V}{u:AI}(r:RelV y u)(f:qJ y=true):eqU x u=Zi y x:=by
 cases y with
 | non=>cases r;rfl
 | bl b=>cases r;rfl
 | int i=>obtain⟨t,rfl⟩:=r;rfl
 | str z=>obtain⟨t,rfl⟩:=r;rfl
 | _=>exact absurd (show false=true from f) Bool.false_ne_true
theorem Lj{x:V}:∀{xs:List V}{us:AC},Vals xs us->xs.all qJ=true->us.any (eqU x)=xs.any λy=>Zi y x
 | _,_,.nil,_=>rfl
 | y::xs,u::us,.cons r t,f=>by
  rw[List.all_cons,Bool.and_eq_true]at f;rw[List.any_cons,List.any_cons,Zsa r f.1,Lj t f.2]
theorem Ga{A:Around}{s:AJ}{x:V}{v:AI}(a:RelV x v)(b:qJ x=true):∀{xs:List V}{us:AC},Vals xs us->xs.all qJ=true->∀u∈us,SeqAt.EqAt A s u v (eqU x u)
 | _,_,.nil,_=>λu hu=>by cases hu
 | y::xs,u::us,.cons r t,f=>λc hu=>by
  rw[List.all_cons,Bool.and_eq_true]at f;rcases List.mem_cons.mp hu with rfl | hu
  ·rw[Zsa r f.1];exact Cz r a f.1 b
  ·exact Ga a b t f.2 c hu
def inV(x:V)(xs:List V):Bool:=xs.any λy=>Zi y x
def rIn(K:aB)(a:Bool):R2:=λx y H Q=>∃p xs,y=.ref p/\(cB K H p xs\/gw K H p xs)/\qJ x=true/\xs.all qJ=true/\Q (.bl (if a then !inV x xs else inV x xs)) H
theorem GP:zK X (compareOp .In) (rIn X.K false):=by
 intro e s j H x y v u Q I d g h;obtain⟨p,i,rfl,hq,f,fs,q⟩:=h;cases g;rcases hq with hq | hq
 ·obtain⟨a,r,c,hz⟩:=I.list hq;refine SeqAt.in_listAt (eqU x) c.isList (λw b=>Ga d f r fs w (by simpa using b)) ⟨.bl _,H,I,rfl,?_⟩;rw[show a.toArray.any (eqU x)=a.any (eqU x) by simp,Lj r fs];exact q
 ·obtain⟨a,r,c,hz⟩:=I.tuple hq;refine SeqAt.in_tupleAt (eqU x) c (λw b=>Ga d f r fs w (by simpa using b)) ⟨.bl _,H,I,rfl,?_⟩;rw[show a.toArray.any (eqU x)=a.any (eqU x) by simp,Lj r fs];exact q
theorem Zat:zK X (compareOp .NotIn) (rIn X.K true):=by
 intro e s j H x y v u Q I d g h;obtain⟨p,i,rfl,hq,f,fs,q⟩:=h;cases g;rcases hq with hq | hq
 ·obtain⟨a,r,c,hz⟩:=I.list hq;refine SeqAt.notIn_listAt (eqU x) c.isList (λw b=>Ga d f r fs w (by simpa using b)) ⟨.bl _,H,I,rfl,?_⟩;rw[show a.toArray.any (eqU x)=a.any (eqU x) by simp,Lj r fs];exact q
 ·obtain⟨a,r,c,hz⟩:=I.tuple hq;refine SeqAt.notIn_tupleAt (eqU x) c (λw b=>Ga d f r fs w (by simpa using b)) ⟨.bl _,H,I,rfl,?_⟩;rw[show a.toArray.any (eqU x)=a.any (eqU x) by simp,Lj r fs];exact q
theorem Zd2:QF X (.builtin "len") (λxs H Q=>∃p b,xs=[.ref p]/\(cB X.K H p b\/gw X.K H p b)/\Q (.int b.length) H):=by
 intro f s i H xs us Q I r h;obtain⟨p,b,rfl,hq,q⟩:=h;obtain⟨u,rfl,g⟩:=vals1 r;cases g;have hn:=Jq;rcases hq with hq | hq
 ·obtain⟨c,e,d,hz⟩:=I.list hq;have a:=e.length;exact Calls.call_len_list d.isList (by simp only[List.size_toArray]<;>omega) ⟨.int b.length,H,I.tok _,⟨s.toks+1,by rw[List.size_toArray,a]⟩,q⟩
 ·obtain⟨c,e,d,hz⟩:=I.tuple hq;have a:=e.length;exact len_tuple d (by simp only[List.size_toArray]<;>omega) ⟨.int b.length,H,I.tok _,⟨s.toks+1,by rw[List.size_toArray,a]⟩,q⟩
theorem Lh:QF X (.type "list") (λxs H Q=>∃p g,xs=[.ref p]/\(cB X.K H p g\/gw X.K H p g)/\∀l,H l=none->Q (.ref l) (upd H l (.lst g))):=by
 intro i s x H xs us Q I r h;obtain⟨p,g,rfl,hq,q⟩:=h;obtain⟨u,rfl,v⟩:=vals1 r;cases v;have fin:∀(a:AC),Vals g a->g.length<=sizeLine->∀(c:Heap) (d:Nat),(∀b t,s.heap.get? b=some t->c.get? b=some t)->
   c.get? s.heap.objs.size=some { cls:=.type "list",dict:=none,data:=.seq a.toArray d,slots:=#[] }->EP X i x Q (.ref s.heap.objs.size) { s with heap:=c }:=λa f hz c d kp e=>
  ⟨.ref s.heap.objs.size,_,I.laid (t':=s.toks) kp (Nat.le_refl _) (show lM X.prog X.w _ c _ (.lst g)from⟨hz,a,d,f,e⟩),rfl,q _ (I.hok.fresh (Nat.le_refl _))⟩
 rcases hq with hq | hq
 ·obtain⟨a,f,m,hz⟩:=I.list hq;have j:=f.length;obtain⟨o,k,hc,n,hd⟩:=m.isList;exact call_list_seq p (.inl rfl) k hc hd (λc d kp e=>fin a f hz c d kp e) (by simp only[List.size_toArray]<;>omega)
 ·obtain⟨a,f,m,hz⟩:=I.tuple hq;have j:=f.length;obtain⟨o,k,hc,n,hd⟩:=m;exact call_list_seq p (.inr rfl) k hc hd (λc d kp e=>fin a f hz c d kp e) (by simp only[List.size_toArray]<;>omega)
def tyV(K:aB)(T:String)(x:V)(H:Hp):Prop:=match x with
 | .str _=>T="str"
 | .int _=>T="int"
 | .ref p=>(T="list"/\∃xs,cB K H p xs)\/(T="tuple"/\∃o,K.lookup p=some o/\o.cls=.type "tuple"/\o.dict=none)\/
   (T="dict"/\((∃a,H p=some (.dK a))\/∃a,H p=some (.dT a)))\/(T="set"/\∃S n,H p=some (.set S n))
 | _=>False
theorem Zww{b:At}{σ:St}{H:Hp}{s:AJ}{T:String}{x:V}{v:AI}(I:Inv X b σ H s)(r:RelV x v)(ty:tyV X.K T x H):
  s.TypeIs v T/\∀a,v=.ref a->∃ob,s.heap.get? a=some ob/\ob.dict=none:=by
 cases x with
 | str z=>
  obtain⟨t,rfl⟩:=r;cases (show T="str" from ty);exact⟨typeIs_str s z t,λ_ e=>nomatch e⟩
 | int i=>
  obtain⟨t,rfl⟩:=r;cases (show T="int" from ty);exact⟨typeIs_int s i t,λ_ e=>nomatch e⟩
 | ref p=>
  cases r;rcases ty with ⟨rfl,j,hq⟩ | ⟨rfl,o,hk,hc,hd⟩ | ⟨rfl,hk⟩ | ⟨rfl,S,n,hk⟩
  ·obtain⟨h,_,g,_⟩:=I.list hq;refine⟨g.isList.typeIs,λa e=>?_⟩;cases e;obtain⟨o,n,e,c,hd,_⟩:=g;exact⟨o,e,hd⟩
  ·refine⟨⟨o,I.Gi p o hk,hc⟩,λa e=>?_⟩;cases e;exact⟨o,I.Gi _ o hk,hd⟩
  ·have z:∃o,s.heap.get? p=some o/\o.ExactDict:=by
    rcases hk with ⟨d,hk⟩ | ⟨d,hk⟩
    ·obtain⟨_,_,_,_,o,_,_,e,ex,_⟩:=I.hok p _ hk;exact⟨o,e,ex⟩
    ·obtain⟨_,_,_,_,o,_,_,e,ex,_⟩:=I.hok p _ hk;exact⟨o,e,ex⟩
   obtain⟨o,e,ex⟩:=z;refine⟨⟨o,e,ex.1⟩,λa f=>?_⟩;cases f;exact⟨o,e,ex.2.1⟩
  ·obtain⟨o,_,_,_,e,ex,_⟩:=I.hok p _ hk;refine⟨⟨o,e,ex.1⟩,λa f=>?_⟩;cases f;exact⟨o,e,ex.2.1⟩
 | _=>exact False.elim ty
def tBM(K:aB)(T:String)(r:V->List V->Hp->VK->Prop)(to:TE)(t:TA):TE:=λσ H Q=>to σ H λx a=>tyV K T x a/\t σ a λxs b=>r x xs b Q
variable {o e:AM}{es:AF}{to:TE}{t:TA}{name:Str}{apos cpos:Pos}{T id:String}{r:V->List V->Hp->VK->Prop}
theorem HS(z:PlainAttrs T)(slot:Slot T name id)(g:typeOf (.builtin id)=pure (.type "method_descriptor"))(hm:MtR X id r)(l:PE X o to)(p:PA X (e::es) t)
  (d:attributeBase o name X.env (eval o X.env)=eval o X.env:=by rfl)
  (f:((backTo cpos (starEach (e::es) X.env)).all (λx=>!x.1) && (backToKw cpos (keywordEach [] X.env)).all (λx=>x.1.isSome)
   && decide ((e::es).length+([]:List Keyword).length+(if ([]:List Keyword).isEmpty then 0 else 1)<30))=true:=by rfl)
  (c:(apos.endLine == cpos.line)=true:=by rfl) (hs:starEach (e::es) X.env=(false,eval e X.env)::starEach es X.env:=by rfl) (b:(backTo cpos (starEach es X.env)).any (·.1)=false:=by rfl):
  PE X (.Call (.Attribute o name apos) (e::es) [] cpos) (tBM X.K T r to t):=by
 intro a s i H Q I h;refine wpAny_Call_method_late d f c rfl (iW (l a s i H _ I h) λv u ⟨x,H1,I1,r1,ty,q1⟩=>?_);obtain⟨h1,h2⟩:=Zww I1 r1 ty;refine⟨T,id,z,slot,g,h1,h2,?_⟩;have j:=p cpos a u i H1 _ I1 q1;rw[hs]at j ⊢;refine Calls.callWith_builtin (by show(false || (backTo cpos (starEach es X.env)).any (·.1))=false;rw[b]<;>rfl) (Calls.evalArgs_plain ?_);exact iW j λus m ⟨q,n,w,y,k⟩=>hm a m i n x q v us Q w r1 y k
end
def MtM(X:Cx)(id:String)(r:V->List V->Hp->VK->Prop):Prop:=
 ∀(a:At) (s:AJ) (σ:St) (H:Hp) (x:V) (xs:List V) (v:AI) (us:AC) (Q:VK),Inv X a σ H s->RelV x v->Vals xs us->r x xs H Q->
  wpAny (model X.prog X.w) X.A (call (.builtin id) (v::us)) (EP X a σ Q) X.xe s
theorem Vals.one:∀{x:V}{us:AC},Vals [x] us->∃u,us=[u]/\RelV x u
 | _,_,.cons r .nil=>⟨_,rfl,r⟩
theorem Vals.eraseIdx:∀{xs:List V}{us:AC} (i:Nat),Vals xs us->Vals (xs.eraseIdx i) (us.eraseIdx i)
 | _,_,_,.nil=>.nil
 | _,_,0,.cons _ t=>t
 | _,_,i+1,.cons r t=>.cons r (Vals.eraseIdx i t)
theorem Vals.rep{xs:List V}{us:AC}(h:Vals xs us):∀k:Nat,Vals (List.replicate k xs).flatten (List.replicate k us).flatten
 | 0=>.nil
 | k+1=>by
  rw[List.replicate_succ,List.replicate_succ,List.flatten_cons,List.flatten_cons];exact Vals.append h (Vals.rep h k)
theorem YT{a:Type}:∀(l:List a) (i:Nat),(l.eraseIdx i).length<=l.length
 | [],_=>Nat.le_refl _
 | _::_,0=>Nat.le_succ _
 | _::r,i+1=>Nat.succ_le_succ (YT r i)
theorem foldl_rep(a:AC):∀(k:Nat) (acc:AC),
  List.foldl (λb c=>b++c) acc.toArray (List.replicate k a.toArray)=(acc++(List.replicate k a).flatten).toArray
 | 0,acc=>by simp
 | k+1,acc=>by
  have e:acc.toArray++a.toArray=(acc++a).toArray:=by simp
  have d:(acc++a)++(List.replicate k a).flatten=acc++(List.replicate (k+1) a).flatten:=by
   rw[List.replicate_succ,List.flatten_cons,List.append_assoc]
  rw[<- d,<- foldl_rep a k (acc++a),<- e,List.replicate_succ,List.foldl_cons]
section
variable {X:Cx}{pins:At}{σ:St}{H:Hp}{s:AJ}{l b:AH}{xs ys zs:List V}
theorem Inv.Zya{a its':AC}{n:Nat}{f:Array AI->Array AI}{t':Nat}(I:Inv X pins σ H s)(c:H l=some (.lst xs))
  (e:s.heap.get? l=some { cls:=.type "list",data:=.seq a.toArray n }) (b:f a.toArray=its'.toArray) (hv:Vals ys its') (hz:ys.length<=sizeLine):
  Inv X pins σ (upd H l (.lst ys)) { s with heap:=s.heap.update l (Obj.mapSeq f),toks:=t' }:=by
 have q:=PySem.IsL.update e f;rw[b]at q;refine I.write (x:=l) (e:=l) (by rw[c];exact trivial) (.inl rfl) (λd u hb hu=>(Heap.get?_update_other s.heap (Obj.mapSeq f) (Ne.symm hb)).trans hu) ⟨_,q⟩ ?_;exact⟨hz,its',_,hv,q⟩
theorem Inv.ZAy{a:AC}{t':Nat}(I:Inv X pins σ H s)(hv:Vals ys a)(hz:ys.length<=sizeLine):
  Inv X pins σ (upd H s.heap.objs.size (.lst ys)) { s with heap:=s.heap.push { cls:=.type "list",data:=.seq a.toArray },toks:=t' }:=
 I.laid (λ_ _ q=>Heap.get?_push_of_some _ q) (Nat.le_refl _) ⟨hz,a,0,hv,Heap.get?_push_size _ rfl⟩
theorem Inv.fresh(I:Inv X pins σ H s):H s.heap.objs.size=none:=I.hok.fresh (Nat.le_refl _)
theorem Inv.Zjk(I:Inv X pins σ H s)(b:H l=some (.lst xs)):xs.length<=sizeLine/\∃(a:AC) (n:Nat),Vals xs a/\xs.length=a.length/\s.heap.get? l=some { cls:=.type "list",data:=.seq a.toArray n }:=by
 obtain⟨z,a,n,r,e⟩:=I.hok l _ b;exact⟨z,a,n,r,r.length,e⟩
theorem Zf2{n:Nat}(h:n<=sizeLine):Builtin.List.listTooLong n=false:=by
 unfold Builtin.List.listTooLong;exact decide_eq_false (by omega)
end
section
variable {X:Cx}
def BL:V->List V->Hp->VK->Prop:=λx vs H Q=>∃l xs y,x=.ref l/\vs=[y]/\H l=some (.lst xs)/\xs.length<sizeLine/\Q .non (upd H l (.lst (xs++[y])))
theorem tM:MtM X "list.append" BL:=by
 intro b s k H x i v us Q I f g h;obtain⟨l,j,y,rfl,rfl,c,hz,q⟩:=h;cases f;obtain⟨u,rfl,d⟩:=g.one;obtain⟨z,a,n,r,hl,e⟩:=I.Zjk c;refine call_meets F.slot_list_append ⟨_,e,rfl⟩ F.entry_list_append (F.args_list_append_2 _ _) (PySem.list_append l a.toArray n u (by rw[List.size_toArray];omega)) ⟨e,?_⟩;refine⟨.non,_,I.Zya (its':=a++[u]) c e (by simp) (r.append (.cons d .nil)) ?_,rfl,q⟩;rw[List.length_append,List.length_singleton];omega
def Rk:V->List V->Hp->VK->Prop:=λx vs H Q=>∃l b xs a,x=.ref l/\vs=[.ref b]/\H l=some (.lst xs)/\H b=some (.lst a)/\xs.length+a.length<=sizeLine/\Q .non (upd H l (.lst (xs++a)))
theorem NQ:MtM X "list.extend" Rk:=by
 intro g s C H x A v us Q I m w h;obtain⟨l,b,B,D,rfl,rfl,i,o,hz,q⟩:=h;cases m;obtain⟨u,rfl,k⟩:=w.one;cases k;obtain⟨z,c,n,r,hl,e⟩:=I.Zjk i;obtain⟨y,a,n2,t,p,j⟩:=I.Zjk o;have f:c.toArray.size+a.toArray.size<=sizeLine:=by rw[List.size_toArray,List.size_toArray];omega
 have d:¬ (!c.toArray.isEmpty && Builtin.List.listTooLong (c.toArray.size+a.toArray.size))=true:=by
  rw[Zf2 f,Bool.and_false];exact Bool.false_ne_true
 refine call_meets F.slot_list_extend ⟨_,e,rfl⟩ F.entry_list_extend (F.args_list_extend_2 _ _)
  (AutoSeq1.list_extend_list_list_0 l c.toArray n b a.toArray n2 d (by rw[List.size_toArray];omega) (by omega)) ⟨e,j,?_⟩
 refine⟨.non,_,I.Zya (its':=c++a) i e (by simp) (r.append t) ?_,rfl,q⟩;rw[List.length_append];omega
def Zph:V->List V->Hp->VK->Prop:=λx vs H Q=>∃l xs i k y,x=.ref l/\vs=[.int i]/\H l=some (.lst xs)/\-(2 ^ 63)<=i/\i<2 ^ 63/\seqIndex? i xs.length=some k/\xs[k]? =some y/\Q y (upd H l (.lst (xs.eraseIdx k)))
theorem Zqn:MtM X "list.pop" Zph:=by
 intro c s A H x p v us Q I j o h;obtain⟨l,m,i,k,y,rfl,rfl,d,h1,h2,hk,hy,q⟩:=h;cases j;obtain⟨u,rfl,g⟩:=o.one;obtain⟨t,rfl⟩:=g;obtain⟨z,a,n,r,hl,e⟩:=I.Zjk d;obtain⟨w,f,b⟩:=r.get hy;refine call_meets F.slot_list_pop ⟨_,e,rfl⟩ F.entry_list_pop (F.args_list_pop_2 _ _)
  (MeetsSeq.list_pop_at l a.toArray n i t k w (fitsIndex_both h1 h2) (by rw[List.size_toArray,<- hl];exact hk) (by rw[<- Array.getElem?_toList];exact f) (by rw[List.size_toArray];omega)) ⟨e,?_⟩
 refine⟨y,_,I.Zya (its':=a.eraseIdx k) d e ?_ (r.eraseIdx k) ?_,b,q⟩
 ·show a.toArray.eraseIdxIfInBounds k=(a.eraseIdx k).toArray;rw[List.eraseIdxIfInBounds_toArray]
 ·have:=YT m k;omega
def yO:R2:=λx y H Q=>∃l b xs a,x=.ref l/\y=.ref b/\H l=some (.lst xs)/\H b=some (.lst a)/\xs.length+a.length<=sizeLine/\∀p,H p=none->Q (.ref p) (upd H p (.lst (xs++a)))
theorem rB:zK X (binaryOp .Add) yO:=by
 intro d s A H x y v u Q I g p h;obtain⟨l,b,w,B,rfl,rfl,o,i,hz,q⟩:=h;cases g;cases p;obtain⟨z,c,n,r,hl,e⟩:=I.Zjk o;obtain⟨t,a,n2,m,k,f⟩:=I.Zjk i;refine PySem.P.add_list e f ?_ (by rw[List.size_toArray,List.size_toArray];omega);have j:c.toArray++a.toArray=(c++a).toArray:=by simp
 rw[j];exact⟨.ref _,_,I.ZAy (t':=s.toks) (r.append m) (by rw[List.length_append];omega),rfl,q _ I.fresh⟩
def Zeh:R2:=λx y H Q=>∃l k xs,x=.ref l/\y=.int k/\H l=some (.lst xs)/\-(2 ^ 63)<=k/\k<2 ^ 63/\xs.length * k.toNat<=sizeLine/\
 ∀p,H p=none->Q (.ref p) (upd H p (.lst (List.replicate k.toNat xs).flatten))
theorem len_rep{a:Type}(xs:List a)(k:Nat):(List.replicate k xs).flatten.length=k * xs.length:=by
 induction k with
 | zero=>simp
 | succ k b=>rw[List.replicate_succ,List.flatten_cons,List.length_append,b,Nat.succ_mul,Nat.add_comm]
theorem Tw:zK X (binaryOp .Mult) Zeh:=by
 intro p s K H x y v u Q I A D h;obtain⟨l,k,J,rfl,rfl,C,h1,h2,hz,q⟩:=h;cases A;obtain⟨t,rfl⟩:=D;obtain⟨z,b,n,r,hl,e⟩:=I.Zjk C;have g:b.toArray.size * k.toNat<=sizeLine:=by rw[List.size_toArray,<- hl];exact hz
 have d:¬ b.toArray.size * k.toNat > (2 ^ 63 - 1) / 8:=by
  have:(sizeLine:Nat)<=(2 ^ 63 - 1) / 8:=by decide
  omega
 have c:¬ (!Builtin.List.listFitsIndex k)=true:=by
  rw[fitsIndex_both h1 h2];exact Bool.false_ne_true
 have i:¬ Builtin.List.listTooLong (b.toArray.size * k.toNat)=true:=by
  rw[Zf2 g];exact Bool.false_ne_true
 have f:List.foldl (λo j=>o++j) #[] (List.replicate (if b.toArray.isEmpty=true then 0 else k.toNat) b.toArray)=(List.replicate k.toNat b).flatten.toArray:=by
  have B:∀m:Nat,List.foldl (λo j=>o++j) #[] (List.replicate m b.toArray)=(List.replicate m b).flatten.toArray:=λm=>by
   have:=foldl_rep b m [];rw[List.nil_append]at this;exact this
  rw[B];cases b with
  | nil=>simp
  | cons a E=>rw[if_neg (by simp)]
 refine wpAny_binaryOp_repeat_ref (T:="list") (U:="int") (by decide) ⟨_,e,rfl⟩ (λw=>typeIs_int w k t) noFill_list_mul F.fills_int_mul F.slot_int_rmul repeat_list F.slot_int_index.lookup
  (call_meets F.slot_int_rmul (typeIs_int s k t) F.entry_int_rmul (F.args_int_rmul_2 _ _) (int___rmul___int_list k t l b.toArray n)
   ⟨e,rfl,⟨_,e,rfl⟩,call_meets F.slot_list_mul ⟨_,e,rfl⟩ F.entry_list_mul (F.args_list_mul_2 _ _) (AutoListH.list___mul___list_int_3 l b.toArray n k t c d i) ⟨e,?_⟩⟩)
 rw[f];exact⟨.ref _,_,I.ZAy (t':=s.toks) (r.rep k.toNat) (by rw[len_rep,Nat.mul_comm];exact hz),rfl,q _ I.fresh⟩
end
section
variable {prog:AL}{w:AN}{A:Around}{E:Ap}{s:AJ}
end
section
variable {X:Cx}
end
end L2
namespace Att
open PySem PySem.W PySem.Calls PyProof.Rows
theorem Q9{P:Params}{h:Heap}:∀(ns:AD) (vs:AC),WellAll P h vs (ns.map WData.int)->IntsAre vs ns:=by
 intro ns
 induction ns with
 | nil=>
  intro vs w;rw[List.map_nil]at w;cases w;exact .nil
 | cons n ns c=>
  intro vs w;rw[List.map_cons]at w;cases w with
  | cons a b=>
   cases a;exact .cons _ _ (c _ b)
theorem Zmk{l:OpenLaw}{n:Nat}(hn:l.most=some n){P:Params}{h:Heap}{b:List WData}{e:AC}
  (c:l.row.toRowW.claim.pre b=true) (i:WellAll P h e b):
  ∃a vs ns,e=[Value.ref a]/\b=[WData.list (ns.map WData.int)]/\h.get? a=some { cls:=.type "list",data:=.seq vs.toArray }/\IntsAre vs ns/\ns.length<=n:=by
 have j:WShape.hasAll [] b [.list .int]=true:=(pre_splitW c).1;have hc:l.pre.holds [] { args:=b }=true:=(pre_splitW c).2;obtain⟨d,r,rfl,h1,h2⟩:=hasAllW_cons j;obtain rfl:=hasAllW_nil h2;obtain⟨s,rfl,h3⟩:=hasW_list h1;obtain⟨ns,rfl⟩:=items_int h3;have g:ns.length<=n:=by
  unfold OpenLaw.pre at hc;have h4:(WTm.not (.lt (.lit (.int (n:Int))) (.len (.arg 0)))).holds [] { args:=[.list (ns.map .int)] }=true:=by
   have h4:=(holds_andW hc).1;rw[hn]at h4;exact h4
  have h5:=condW_of h4 (w_not (w_lt w_lit (w_len_list (w_arg rfl))));rw[aY]at h5;refine Nat.le_of_not_lt λq=>?_;have p:(n:Int)<((ns.length:Nat):Int):=by omega
  first
   | (rw[decide_eq_true p]at h5;exact absurd h5 (by decide))
   | (simp at h5;omega)
 cases i with
 | cons o k=>
  cases k;cases o with
  | list m f=>exact⟨_,_,ns,rfl,rfl,m,Q9 ns _ f,g⟩
theorem Zmt(l:OpenLaw)(a:List WData):l.row.toRowW.claim.post a (.bool true) a=true:=
 postW_of (r:=l.row.toRowW) (X:=(true == true))
  (show WShape.has [] (.bool true) .bool=true by first | rfl | decide | simp[WShape.has,WShape.arms,WShape.armsAll])
  (show(WTm.eq .res (.lit (.bool true))).value [] { args:=a,res:=some (.bool true),after:=a }=some (.bool (true == true))from w_eq_bool (w_res rfl) w_lit) rfl
theorem Zgo{l:OpenLaw}{n:Nat}{q:AL}{c:AG}{z:(As)->Heap->Prop}{C:AN->Heap->Prop}{d:DefRec}
  (hn:l.most=some n) (s:d.params.defaults=[])
  (call:∀(w:AN) (s₀ b:AJ) (mg u:As) (fa:AH) (o:Obj) (v k g:AI) (a:AH) (vs:AC) (ns:AD),
   Ground q c [] z w s₀ mg u b.heap->C w b.heap->
   b.heap.get? fa=some o->o.data=.func (docDef d.name d.params d.body d.scope v k g)->b.heap.CodeRec k d.name->mg d.name=some (.ref fa)->
   b.heap.get? a=some { cls:=.type "list",data:=.seq vs.toArray }->IntsAre vs ns->ns.length<=n->b.gens=#[]->
   codeAny (model l.prog w) callerA (.call (.ref fa) ⟨[.ref a],[]⟩) (λr s'=>r=.ok (.ret (.bool true))/\OldK b.heap s'.heap/\s'.os=b.os/\AllBare s'.gens) b):
  WalkO q c z C l.row.toRowW d [] (λf vs=>PySem.call f vs):=by
 intro w s₀ b mg u G Y fa o v k g dV kV E hd m y t D x A I h B F p H;obtain rfl:dV=.none:=Dflts.none y s;obtain rfl:kV=.none:=Dflts.noKw y;obtain⟨a,vs,ns,rfl,rfl,i,e,j⟩:=Zmk hn h p;refine enter_call (codeAny_mono (call w s₀ b mg u fa o v k g a vs ns G Y E (fd_plain hd) m t i e j D) λr s' hq=>?_);obtain⟨rfl,h2,h3,h4⟩:=hq;exact⟨.inl ⟨.bool true,.bool true,[],rfl,λ_=>rfl,.bool true,Zmt l _,λ_=>⟨List.Pairwise.nil,λ_ hm=>(nomatch hm)⟩⟩,h2,h3,h4⟩
section
variable {prog:AL}{w:AN}{A:Around}{E:Ap}{s:AJ}{K:Frag}
end
end Att
namespace L2
open PySem PySem.Spec PyProof.Rows
theorem Yh:∀{vs:AC}{ns:AD},IntsAre vs ns->Vals (ns.map V.int) vs
 | _,_,.nil=>.nil
 | _,_,.cons n t h=>.cons ⟨t,rfl⟩ (Yh h)
def Only(H:Hp):Prop:=∀b,H b=none\/∃o xs,H b=some (.Ac o (.lst xs))
theorem Zra{P:AL}{w:AN}{K:aB}{mg J:As}{CX:CXT}{k:Nat}{fa a:AH}{fd:AK}{x:Str}{sp:Sp}{c:AJ}{vs:AC}{ns:AD}
  (T:K.In c.heap) (C:c.heap.Ns mainGlobals mg) (hb:c.heap.Ns builtinsNs J) (I:∀x:Str,x≠"__name__"->J x=bootBuiltins x) (p:c.heap.NoLimit) (hg:c.gens=#[])
  (E:c.heap.get? a=some { cls:=.type "list",data:=.seq vs.toArray }) (R:IntsAre vs ns) (hl:ns.length<=sizeLine) (hr:Room k callerA)
  (F:∀base:Heap,K.In base->base.Ns mainGlobals mg->wO P w K mg base CX k fa fd [x] sp) (i:∀(s:AJ) (u:AI),BindsTo s fd ⟨[u],[]⟩ [(x,u)])
  (L:∀H:Hp,Only H->cB K H a (ns.map V.int)->sp [.ref a] H (λv _=>v=.bl true) λ_ _ _=>False)
  (M:∀H e s',CX [] H c (λ_ _ _=>False) e s'->False):
  codeAny (model P w) callerA (.call (.ref fa) ⟨[.ref a],[]⟩) (λr s'=>r=.ok (.ret (.bool true))/\OldK c.heap s'.heap/\s'.os=c.os/\AllBare s'.gens) c:=by
 have W:=Yh R;have y:=R.length;have g:∀H:Hp,Only H->cB K H a (ns.map V.int)->Dn P w H c.heap->(∀b,H b≠none->b=a)->(H a≠none->K.lookup a=none)->
   codeAny (model P w) callerA (.call (.ref fa) ⟨[.ref a],[]⟩) (λr s'=>r=.ok (.ret (.bool true))/\OldK c.heap s'.heap/\s'.os=c.os/\AllBare s'.gens) c:=by
  intro H Q hS hok U hK;have B:∀{b:AH}{o:Obj},c.heap.get? b=some o->H b=none->(Zcf c.heap H).get? b=some o:=λe n=>Zrs e n;have N:∀{b:AH}{o:Obj}{A:Array DictEntry}{t:Nat},c.heap.get? b=some o->o.data=.dict A t->H b=none:=λ{b o A t} e d=>by
   cases q:H b with
   | none=>rfl
   | some u=>
    have O:b=a:=U b (by rw[q];simp);subst O;rw[E]at e;cases e;have d':Data.seq vs.toArray _=Data.dict A t:=d;cases d'
  have f:∀{b:AH}{m:As},c.heap.Ns b m->(Zcf c.heap H).Ns b m:=λ{b m} ⟨o,A,t,e,d,r⟩=>⟨o,A,t,B e (N e d),d,r⟩;have D:K.In (Zcf c.heap H):=λb o e=>B (T b o e) (by
   cases q:H b with
   | none=>rfl
   | some u=>
    have O:b=a:=U b (by rw[q];simp);subst O;rw[hK (by rw[q];simp)]at e;cases e)
  have hM:Mod K mg (Zcf c.heap H):=⟨D,f C,⟨J,f hb,I⟩,let ⟨mc,h1,h2⟩:=p;⟨mc,f h1,h2⟩⟩;have e0:Zl3 P w K mg (Zcf c.heap H) callerA [] c H:=⟨rfl,hM,λb o e=>Zuk e,Nat.le_of_eq (Zo0 _ _),trivial,λb hb=>absurd (show b∈([]:AE)from hb) (by simp),hok,.of_eq hg⟩;refine codeAny_mono ((F _ D (f C)).run callerA [] c H ⟨[.ref a],[]⟩ [.ref a] [.ref a] _ _ hr e0 (i c (.ref a)) (.cons rfl .nil) (L H Q hS)) λr s' h=>?_;cases r with
  | error e=>exact(M H e s' h).elim
  | ok fl=>
   cases fl with
   | next=>exact False.elim h
   | brk=>exact False.elim h
   | cont=>exact False.elim h
   | ret u=>
    obtain⟨v,H',os,bare,un,l,Y,q⟩:=h;have q':v=.bl true:=q;subst q';obtain rfl:u=Value.bool true:=Y;refine⟨rfl,OldK.of_keep λb o e=>?_,os,bare⟩;cases q:H b with
    | none=>exact un.keep b o e q (by intro z;exact absurd (show b∈([]:AE)from z) (by simp)) (by simp)
    | some u=>
     rcases Q b with z | ⟨ob,xs,z⟩
     ·rw[q]at z;cases z
     ·have Z:=un.Jt b ob _ z;obtain⟨S,_⟩:=hok b _ z;obtain⟨X,_⟩:=l b _ Z;rw[e]at S;cases S;exact X
 cases hk:K.lookup a with
 | some o=>
  have e:=T a o hk;rw[E]at e;cases e;refine g (λ_=>none) (λ_=>.inl rfl) (.inr ⟨_,vs.toArray,_,hk,rfl,rfl,rfl,by rw[List.size_toArray,y];exact hl,by simpa using W⟩) (λb u z=>by have j:(none:Option HO)=some u:=z;cases j) (λb z=>absurd rfl z) λz=>absurd rfl z
 | none=>
  refine g (λb=>if b=a then some (.Ac { cls:=.type "list",data:=.seq vs.toArray } (.lst (ns.map V.int)))else none) (λb=>?_) (.inl (.inr ⟨{ cls:=.type "list",data:=.seq vs.toArray },if_pos rfl⟩)) (λb u z=>?_) (λb z=>?_) λ_=>hk
  ·by_cases hb:b=a
   ·exact .inr ⟨_,_,if_pos hb⟩
   ·exact .inl (if_neg hb)
  ·by_cases hb:b=a
   ·have j:=(if_pos hb).symm.trans z;cases j;subst hb;exact⟨E,by rw[aY];exact hl,vs,_,W,E⟩
   ·have j:=(if_neg hb).symm.trans z;cases j
  ·by_cases hb:b=a
   ·exact hb
   ·exact absurd (if_neg hb) z
theorem Zsw{l:W.OpenLaw}{n k:Nat}{q:AL}{j:AG}{J:(As)->Heap->Prop}{C:AN->Heap->Prop}{d:DefRec}{K:Params->aB}{CX:AN->CXT}{sp:AN->Sp}{x:Str}
  (hn:l.most=some n) (z:n<=sizeLine) (r:d.params.defaults=[]) (hr:Room k callerA)
  (O:∀(w:AN) (h:Heap),C w h->(K w.params).In h)
  (F:∀(w:AN) (mg:As) (fa:AH) (h:Heap),(K w.params).In h->h.Ns mainGlobals mg->mg d.name=some (.ref fa)->
   ∃fd:AK,(∀(s:AJ) (u:AI),BindsTo s fd ⟨[u],[]⟩ [(x,u)])/\
    ∀base:Heap,(K w.params).In base->base.Ns mainGlobals mg->wO l.prog w (K w.params) mg base (CX w) k fa fd [x] (sp w))
  (A:∀(w:AN) (H:Hp) (a:AH) (ns:AD),ns.length<=n->Only H->cB (K w.params) H a (ns.map V.int)->sp w [.ref a] H (λv _=>v=.bl true) λ_ _ _=>False)
  (t:∀(w:AN) (H:Hp) (s:AJ) (e:AI) (s':AJ),CX w [] H s (λ_ _ _=>False) e s'->False):
  W.WalkO q j J C l.row.toRowW d [] (λf vs=>PySem.call f vs):=by
 refine Att.Zgo hn r λw s₀ m mg R fa o S Q L a vs ns G Y P hd I y p i c D=>?_;have B:=O w _ Y;obtain⟨fd,hb,N⟩:=F w mg fa _ B G.T.g y;exact Zra B G.T.g G.T.b G.T.builtins G.T.nolimit D p i (Nat.le_trans c z) hr N hb (λH M E=>A w H a ns c M E) λH e s'=>t w H m e s'
def inClass(s:Stmt)(j:Nat):Stmt:=match s with
 | .ClassDef _ _ _ a _ _ _ _ _ _ _=>a.getD j (.Pass ⟨0,0,0,0⟩)
 | _=>.Pass ⟨0,0,0,0⟩
def oK(s:Stmt):Arguments:=match s with
 | .FunctionDef _ a _ _ _ _ _ _ _ _=>a
 | _=>{ posonlyargs:=[],args:=[],vararg:=none,kwonlyargs:=[],kw_defaults:=[],kwarg:=none,defaults:=[] }
def lQ(s:Stmt):List Stmt:=match s with
 | .FunctionDef _ _ b _ _ _ _ _ _ _=>b
 | _=>[]
def aG(s:Stmt):Scope:=match s with
 | .FunctionDef _ _ _ _ _ _ a _ _ _=>a
 | _=>{ kind:=.function,names:=[],isGenerator:=false,isCoroutine:=false }
abbrev E0:XK:=λ_ _ _=>False
structure jx(K:aB)(x qual:Str)(st:Stmt)(f:AH)(fd:AK):Prop where
 ex:∃(oc:AI) (od:Option AH) (kV doc pm:AI) (an:Option AH) (cdv ct:AI) (osl:Array AB),
  fd=W.fnOf x qual (oK st) (lQ st) (aG st) .none kV doc pm an cdv ct/\K.lookup f=some ⟨oc,od,.func fd,osl⟩/\W.codeIn K cdv qual=true
 kp:W.keepIn K (.ref f)=true
section
variable {P:AL}{w:AN}{K:aB}{mg:As}{base:Heap}
theorem jx.binds{x a:Str}{st:Stmt}{f:AH}{fd:AK}{ps:AG}(F:jx K x a st f fd)
  (h:∀(kV b e:AI) (d:Option AH) (c ct:AI) (us:AC),us.length=ps.length->bindArgs (W.fnOf x a (oK st) (lQ st) (aG st) .none kV b e d c ct) ⟨us,[]⟩=pure (ps.zip us)):Binds K fd ps []:=by
 obtain⟨oc,od,kV,b,e,d,c,ct,i,rfl,lk,g⟩:=F.ex;exact .all (h kV b e d c ct)
theorem Zs2{x a:Str}{st:Stmt}{f:AH}{oc:AI}{od h:Option AH}{e:Array AB}{kV d g b ct:AI}(l:K.lookup f=some ⟨oc,od,.func (W.fnOf x a (oK st) (lQ st) (aG st) .none kV d g h b ct),e⟩)
  (c:W.codeIn K b a=true) (k:W.keepIn K (.ref f)=true):jx K x a st f (W.fnOf x a (oK st) (lQ st) (aG st) .none kV d g h b ct):=⟨⟨oc,od,kV,d,g,h,b,ct,e,rfl,l,c⟩,k⟩
end
theorem wA{A:Around}{k:Nat}(hr:Room k A):A.units+1<cLine:=Nat.lt_of_le_of_lt (Nat.add_le_add_left (by decide:1<=64) _) hr.units
section
variable {X:Cx}
theorem pv(i:Nat){x:Str}{a:Pos}(c:X.N[i]? =some x:=by rfl)(hv:Vis X.env.scope x:=by first | exact Or.inl rfl | exact Or.inr (Or.inl rfl) | exact Or.inr (Or.inr rfl))(hd:(x == ("__debug__":Str))=false:=by decide)
  (b:(x == ("__classdict__":Str))=false:=by decide):PE X (.Name x a) (ak i):=Zpy c hv hd b
end
theorem Zv2{A B:Prop}(h:B):if false=true then A else B:=by
 rw[if_neg Bool.false_ne_true];exact h
theorem Zjs{A B:Prop}(h:A):if true=true then A else B:=by
 rw[if_pos rfl];exact h
theorem Zyj{c A B:Prop} [Decidable c](h1:c->A)(h2:¬ c->B):if c then A else B:=by
 by_cases h:c
 ·rw[if_pos h];exact h1 h
 ·rw[if_neg h];exact h2 h
def aW(H H':Hp):Prop:=∀b o,H b=some o->H' b=some o
theorem aW.refl(H:Hp):aW H H:=λ_ _ h=>h
theorem aW.trans{H d e:Hp}(a:aW H d)(b:aW d e):aW H e:=λc o h=>b c o (a c o h)
theorem aW.free{H H':Hp}(e:aW H H'){l:AH}(h:H' l=Option.none):H l=Option.none:=by
 cases q:H l with
 | none=>rfl
 | some o=>
  rw[e l o q]at h;cases h
theorem aW.seq{K:aB}{H H':Hp}{a:AH}{xs:List V}(e:aW H H')(h:cB K H a xs):cB K H' a xs:=by
 rcases h with (h | ⟨o,h⟩) | h
 ·exact .inl (.inl (e _ _ h))
 ·exact .inl (.inr ⟨o,e _ _ h⟩)
 ·exact .inr h
section
variable {X:Cx}{pins:At}{σ:List (Option V)}{H H':Hp}{s:AJ}{h':Heap}
end
section
variable {X:Cx}
variable {a b:AM}{ta tb:TE}{pos:Pos}
variable {tA tB':TT}{rest:AF}
end
section
variable {X:Cx}{a b c:AM}{ta tb tc:TE}{pos:Pos}
end
section
variable {prog:AL}{w:AN}{A:Around}{E:Ap}{s:AJ}{K:aB}{x dx C f:AH}{mA:As}{name:Str}{v:AI}
end
section
variable {X:Cx}{pins:At}{σ:St}{H:Hp}{s:AJ}{a C dx:AH}{fs:List (Str×V)}{f:Str}{v:V}{A:Around}{E:Ap}
end
section
variable {X:Cx}{CX:CXT}{k:Nat}{f C:AH}{fd:AK}{ps:AG}{sp:Sp}{wU:List V}{ds:AC}{E:XK}{x m:Str}{p pos apos:Pos}{e o:AM}{es:AF}{ta:TE}{t:TA}
end
section
variable {X:Cx}{x:Str}{p pos:Pos}{e:AM}{es:AF}{t:TA}{id T:String}{r:List V->Hp->VK->Prop}
end
section
variable {κ:Type} [DecidableEq κ]
def oN(a:List (κ×V))(k:κ):Option V:=(a.find? λkv=>decide (kv.1=k)).map (·.2)
def putK(a:List (κ×V))(k:κ)(v:V):List (κ×V):=
 if (a.any λkv=>decide (kv.1=k))=true then a.map (λkv=>if kv.1=k then(kv.1,v)else kv)else a++[(k,v)]
theorem nR{p:κ×V}{r:List (κ×V)}{k:κ}(e:p.1=k):oN (p::r) k=some p.2:=by simp[oN,List.find?_cons,e]
theorem nT{p:κ×V}{r:List (κ×V)}{k:κ}(e:¬ p.1=k):oN (p::r) k=oN r k:=by simp[oN,List.find?_cons,e]
theorem Dr(k:κ):∀a:List (κ×V),(a.any λkv=>decide (kv.1=k))=(oN a k).isSome
 | []=>rfl
 | p::r=>by
  rw[List.any_cons]
  by_cases e:p.1=k
  ·simp only[nR e,decide_eq_true e,Bool.true_or,Option.isSome_some]
  ·rw[nT e,decide_eq_false e,Bool.false_or];exact Dr k r
theorem Zdz(k j:κ)(y:V):∀a:List (κ×V),oN (a.map λkv=>if kv.1=k then(kv.1,y)else kv) j=(oN a j).map λx=>if j=k then y else x
 | []=>rfl
 | p::r=>by
  have b:=Zdz k j y r;rw[List.map_cons]
  by_cases h:p.1=k
  ·rw[if_pos h]
   by_cases e:p.1=j
   ·rw[nR (p:=(p.1,y)) e,nR e,Option.map_some,if_pos (e.symm.trans h)]
   ·rw[nT (p:=(p.1,y)) e,nT e,b]
  ·rw[if_neg h]
   by_cases e:p.1=j
   ·rw[nR (p:=p) e,nR e,Option.map_some,if_neg (λz=>h (e.trans z))]
   ·rw[nT (p:=p) e,nT e,b]
theorem Yi(k j:κ)(y:V):∀a:List (κ×V),oN a k=none->oN (a++[(k,y)]) j=if j=k then some y else oN a j
 | [],_=>by
  by_cases e:k=j
  ·rw[if_pos e.symm];exact nR (p:=(k,y)) e
  ·rw[if_neg (λz=>e z.symm)];exact nT (p:=(k,y)) e
 | p::r,hn=>by
  rw[List.cons_append];have hk:¬ p.1=k:=λz=>by rw[nR z]at hn;cases hn
  rw[nT hk]at hn;have b:=Yi k j y r hn
  by_cases e:p.1=j
  ·rw[nR e,nR e,if_neg (λz=>hk (e.trans z))]
  ·rw[nT e,nT e,b]
theorem Zoq(b:List (κ×V))(k j:κ)(y:V):oN (putK b k y) j=if j=k then some y else oN b j:=by
 unfold putK
 by_cases a:(b.any λc=>decide (c.1=k))=true
 ·rw[if_pos a,Zdz];rw[Dr]at a
  by_cases e:j=k
  ·obtain⟨x,hx⟩:=Option.isSome_iff_exists.mp a;rw[if_pos e,e,hx,Option.map_some,if_pos rfl]
  ·rw[if_neg e];cases oN b j with
   | none=>rfl
   | some x=>rw[Option.map_some,if_neg e]
 ·rw[if_neg a];refine Yi k j y b ?_;rw[Dr]at a;cases q:oN b k with
  | none=>rfl
  | some x=>rw[q]at a;exact(a rfl).elim
theorem Gf(a:List (κ×V))(k:κ)(v:V):(putK a k v).length<=a.length+1:=by
 unfold putK;split
 ·rw[aY];omega
 ·rw[List.length_append,List.length_cons,List.length_nil];omega
theorem Zpn{a:List (κ×V)}{k:κ}(v:V)(h:oN a k=none):putK a k v=a++[(k,v)]:=by
 unfold putK;rw[Dr,h];exact if_neg (by decide)
theorem HJ.Oh{o:Option V}{u:AB}(r:HJ o u):o.isSome=u.isSome:=by
 cases o with
 | none=>cases u with
  | none=>rfl
  | some _=>exact(show False from r).elim
 | some _=>cases u with
  | none=>exact(show False from r).elim
  | some _=>rfl
theorem KV.val{a:List (κ×V)}{vs:List (κ×AI)}(r:KV a vs)(k:κ):HJ (oN a k) (valueAt vs k):=by
 unfold KV at r
 induction r with
 | nil=>exact True.intro
 | @cons p q g c h t f=>
  obtain⟨h1,h2⟩:=h
  by_cases e:p.1=k
  ·have d:q.1=k:=h1.symm.trans e;have b:valueAt (q::c) k=some q.2:=by simp[valueAt,List.find?_cons,d]
   rw[nR e,b];exact h2
  ·have d:¬ q.1=k:=λz=>e (h1.trans z);have b:valueAt (q::c) k=valueAt c k:=by simp[valueAt,List.find?_cons,d]
   rw[nT e,b];exact f
theorem KV.any{a:List (κ×V)}{vs:List (κ×AI)}(r:KV a vs)(k:κ):(a.any λkv=>decide (kv.1=k))=vs.any λkv=>decide (kv.1=k):=by
 unfold KV at r
 induction r with
 | nil=>rfl
 | cons h t b=>rw[List.any_cons,List.any_cons,b,h.1]
theorem KV.repl{a:List (κ×V)}{vs:List (κ×AI)}(r:KV a vs)(k:κ){y:V}{u:AI}(c:RelV y u):
  KV (a.map λkv=>if kv.1=k then(kv.1,y)else kv) (vs.map λkv=>if kv.1=k then(kv.1,u)else kv):=by
 unfold KV at r ⊢
 induction r with
 | nil=>exact .nil
 | @cons p q f d h t b=>
  rw[List.map_cons,List.map_cons];refine .cons ?_ b;obtain⟨h1,h2⟩:=h
  by_cases e:p.1=k
  ·rw[if_pos e,if_pos (h1.symm.trans e)];exact⟨h1,c⟩
  ·rw[if_neg e,if_neg (λz=>e (h1.trans z))];exact⟨h1,h2⟩
theorem KV.put{a:List (κ×V)}{vs:List (κ×AI)}(r:KV a vs)(k:κ){y:V}{u:AI}(b:RelV y u):KV (putK a k y) (stored vs k u):=by
 unfold putK stored;rw[r.any k]
 by_cases e:(vs.any λc=>decide (c.1=k))=true
 ·rw[if_pos e,if_pos e];exact r.repl k b
 ·rw[if_neg e,if_neg e];exact Paired.snoc r ⟨rfl,b⟩
theorem KV.length{a:List (κ×V)}{vs:List (κ×AI)}(r:KV a vs):a.length=vs.length:=Paired.length r
end
theorem Zlo{P:AL}{w:AN}{k:Key}{u:AI}(r:RelV (kV k) u):(fL P w).is k u=true:=by
 cases k with
 | inl i=>obtain⟨t,e⟩:=(show ∃t,u=Value.int i t from r);subst e;exact Zfg P w i t
 | inr x=>obtain⟨t,e⟩:=(show ∃t,u=Value.str x t from r);subst e;exact Zff P w x t
theorem YW{P:AL}{w:AN}:∀{a:List Key}{us:AC},Vals (a.map kV) us->ItemsAre (fL P w) a us
 | [],_,r=>by rw[List.map_nil]at r;cases r;exact .nil
 | k::a,_,r=>by
  rw[List.map_cons]at r;cases r with
  | cons h t=>exact .cons (Zlo h) (YW t)
abbrev KT(H:Hp):List (List Key×V)->List (List Key×AH×AI)->Prop:=Paired λp q=>p.1=q.1/\H q.2.1=some (.tup (p.1.map kV))/\RelV p.2 q.2.2
theorem KT.val{H:Hp}{a:List (List Key×V)}{xs:List (List Key×AH×AI)}(r:KT H a xs)(k:List Key):HJ (oN a k) ((atKey xs k).map (·.2)):=by
 induction r with
 | nil=>exact True.intro
 | @cons p q g c h t f=>
  obtain⟨h1,_,h2⟩:=h
  by_cases e:p.1=k
  ·have d:q.1=k:=h1.symm.trans e;have b:atKey (q::c) k=some q.2:=by simp[atKey,List.find?_cons,d]
   rw[nR e,b];exact h2
  ·have d:¬ q.1=k:=λz=>e (h1.trans z);have b:atKey (q::c) k=atKey c k:=by simp[atKey,List.find?_cons,d]
   rw[nT e,b];exact f
theorem KT.repl{H:Hp}{a:List (List Key×V)}{xs:List (List Key×AH×AI)}(r:KT H a xs)(k:List Key){y:V}{u:AI}(c:RelV y u):
  KT H (a.map λkv=>if kv.1=k then(kv.1,y)else kv) (xs.map (putAt k u)):=by
 induction r with
 | nil=>exact .nil
 | @cons p q f d h t b=>
  rw[List.map_cons,List.map_cons];refine .cons ?_ b;obtain⟨h1,h2,h3⟩:=h;unfold putAt
  by_cases e:p.1=k
  ·rw[if_pos e,if_pos (h1.symm.trans e)];exact⟨h1,h2,c⟩
  ·rw[if_neg e,if_neg (λz=>e (h1.trans z))];exact⟨h1,h2,h3⟩
theorem KT.put{H:Hp}{a:List (List Key×V)}{xs:List (List Key×AH×AI)}(r:KT H a xs)(k:List Key){b:AH}{y:V}{u:AI}(hb:H b=some (.tup (k.map kV)))(c:RelV y u):
  KT H (putK a k y) (storedH xs k b u):=by
 have e:(a.any λd=>decide (d.1=k))=(atKey xs k).isSome:=by
  rw[Dr,(r.val k).Oh,Option.isSome_map]
 unfold putK storedH;rw[e]
 by_cases q:(atKey xs k).isSome=true
 ·rw[if_pos q,if_pos q];exact r.repl k c
 ·rw[if_neg q,if_neg q];exact Paired.snoc r ⟨rfl,hb,c⟩
theorem KT.keeps{H H':Hp}{a:List (List Key×V)}{xs:List (List Key×AH×AI)}(r:KT H a xs)(d:∀b c,H b=some (.tup c)->H' b=some (.tup c)):KT H' a xs:=
 Paired.Zy8 r λ_ _ z=>⟨z.1,d _ _ z.2.1,z.2.2⟩
section
variable {P:AL}{w:AN}{H:Hp}{h:Heap}{a:AH}
theorem Zwh{u:HO}(ok:Dn P w H h)(e:Rd H a u):lM P w H h a u:=e.ok ok
theorem Le{b:List (Key×V)}(ok:Dn P w H h)(e:Rd H a (.dK b)):b.length<=sizeLine/\(a == sysModules)=false/\∃vs,KV b vs/\h.DictOf (fL P w) a vs:=
 show lM P w H h a (.dK b)from Zwh ok e
theorem Zwu{b:List (Key×V)}(ok:Dn P w H h)(e:H a=some (.dK b)):b.length<=sizeLine/\(a == sysModules)=false/\∃vs,KV b vs/\h.DictOf (fL P w) a vs:=Le ok (.inl e)
theorem Zc1{c:List Key}(ok:Dn P w H h)(e:H a=some (.tup (c.map kV))):(tupleKind (fL P w)).is h c a:=by
 obtain⟨_,b,r,o,h1,h2,n,h3⟩:=(show lM P w H h a (.tup (c.map kV))from ok a _ e);exact⟨o,b.toArray,n,h1,h2,h3,by simpa using YW r⟩
theorem Zge{b:List (List Key×V)}(ok:Dn P w H h)(e:Rd H a (.dT b)):b.length<=sizeLine/\(a == sysModules)=false/\
  ∃xs,KT H b xs/\h.DictOfH (tupleKind (fL P w)) a xs:=by
 obtain⟨z,y,xs,r,o,f,c,h1,h2,h3,h4,h5⟩:=(show lM P w H h a (.dT b)from Zwh ok e);refine⟨z,y,xs,r,o,f,c,h1,h2,h3,h4,λx hx=>?_,h5⟩;have all:∀{l:List (List Key×V)}{m:List (List Key×AH×AI)},KT H l m->∀x∈m,(tupleKind (fL P w)).is h x.1 x.2.1:=by
  intro l m q
  induction q with
  | nil=>intro x hx;exact nomatch hx
  | @cons p q i g hq t d=>
   intro x hx;rcases List.mem_cons.mp hx with e | hx
   ·subst e;exact Zc1 ok (by rw[<- hq.1];exact hq.2.1)
   ·exact d x hx
 exact all r x hx
theorem ZBy{b:List (List Key×V)}(ok:Dn P w H h)(e:H a=some (.dT b)):b.length<=sizeLine/\(a == sysModules)=false/\
  ∃xs,KT H b xs/\h.DictOfH (tupleKind (fL P w)) a xs:=Zge ok (.inl e)
end
def Px(H:Hp)(a:AH)(y:V)(r:Option V):Prop:=
 (∃c k,Rd H a (.dK c)/\y=kV k/\r=oN c k)\/∃c k b,Rd H a (.dT c)/\y=.ref b/\H b=some (.tup (k.map kV))/\r=oN c k
def Yd(H:Hp)(a:AH)(y v:V)(H':Hp):Prop:=
 (∃c k,H a=some (.dK c)/\y=kV k/\c.length<sizeLine/\H'=upd H a (.dK (putK c k v)))\/
 ∃c k b,H a=some (.dT c)/\y=.ref b/\H b=some (.tup (k.map kV))/\c.length<sizeLine/\H'=upd H a (.dT (putK c k v))
theorem Px.k{H:Hp}{a:AH}{b:List (Key×V)}{k:Key}(e:H a=some (.dK b)):Px H a (kV k) (oN b k):=.inl ⟨b,k,.inl e,rfl,rfl⟩
theorem Yd.k{H:Hp}{a:AH}{b:List (Key×V)}{k:Key}{v:V}(e:H a=some (.dK b))(hl:b.length<sizeLine):Yd H a (kV k) v (upd H a (.dK (putK b k v))):=.inl ⟨b,k,e,rfl,hl,rfl⟩
section
variable {X:Cx}{pins:At}{σ:St}{H:Hp}{s:AJ}{a:AH}{y v:V}{u r:AI}{o:Option V}{A:Around}{E:Ap}
theorem Inv.big(I:Inv X pins σ H s):sysModules<s.heap.objs.size:=by
 have h:mainGlobals<s.heap.objs.size:=(I.mod.glob.keeps I.bk).lt;exact Nat.lt_trans (by decide) h
theorem Zog{Q:Ap}(hu:A.units+1<cLine)(I:Inv X pins σ H s)(g:Px H a y (some v))(q:RelV y u)(h:∀d s',Inv X pins σ H s'->RelV v d->Q d s'):
  wpAny (model X.prog X.w) A (getItem (.ref a) u) Q E s:=by
 rcases g with ⟨f,k,e,j,l⟩ | ⟨f,k,b,e,j,r,l⟩
 ·subst j;obtain⟨z,hd,t,rel,n⟩:=Le I.hok e;obtain⟨d,i,c⟩:=HJ.some_of (v:=v) (o:=valueAt t k) (by rw[l];exact rel.val k);exact wpAny_getItem_of (Zlo q) n.mapOf i (h d _ (I.tok _) c)
 ·subst j;cases (show u=Value.ref b from q);obtain⟨z,hd,x,rel,n⟩:=Zge I.hok e;obtain⟨d,i,c⟩:=HJ.some_of (v:=v) (o:=(atKey x k).map (·.2)) (by rw[l];exact rel.val k);obtain⟨p,hp,m⟩:=Option.map_eq_some_iff.mp i;refine wpAny_getItem_heap (tupleKind_room_in1 hu) (Zc1 I.hok r) n hp ?_;rw[m];exact h d _ (I.tok _) c
theorem Zm0{Q:Ap}(hu:A.units+1<cLine)(I:Inv X pins σ H s)(g:Px H a y o)(i:RelV y u)(h:∀s',Inv X pins σ H s'->Q (.bool (!o.isSome)) s'):
  wpAny (model X.prog X.w) A (compareOp .NotIn u (.ref a)) Q E s:=by
 rcases g with ⟨c,k,e,d,l⟩ | ⟨c,k,b,e,d,j,l⟩
 ·subst d;obtain⟨z,hd,m,rel,f⟩:=Le I.hok e;refine wpAny_notIn_of (Zlo i) hd f.mapOf ?_;rw[<- (rel.val k).Oh,<- l];exact h _ (I.tok _)
 ·subst d;cases (show u=Value.ref b from i);obtain⟨z,hd,n,rel,f⟩:=Zge I.hok e;refine wpAny_notIn_heap (tupleKind_room_in1 hu) (Zc1 I.hok j) hd f ?_;have q:=(rel.val k).Oh;rw[Option.isSome_map]at q;rw[<- q,<- l];exact h _ (I.tok _)
theorem Zlz{h':Heap}{t':Nat}{ob:HO}(I:Inv X pins σ H s)(c:Mut (H a))(hs:Heap.SameBut a s.heap h')(d:∃q,h'.get? a=some q)(new:lM X.prog X.w (upd H a ob) h' a ob):
  Inv X pins σ (upd H a ob) { s with heap:=h',toks:=t' }:=
 I.write (x:=a) (e:=a) c (.inl rfl) (λb q hb z=>(hs.2 b hb).trans z) d new
theorem Zzo{P:AL}{w:AN}{H':Hp}{h':Heap}{b:List (Key×V)}{vs:List (Key×AI)}(z:b.length<=sizeLine)(hd:(a == sysModules)=false)(rel:KV b vs)(dd:h'.DictOf (fL P w) a vs):
  lM P w H' h' a (.dK b):=⟨z,hd,vs,rel,dd⟩
theorem Zof{H':Hp}{Q:Unit->AJ->Prop}(hu:A.units+1<cLine)(I:Inv X pins σ H s)(g:Yd H a y v H')(x:RelV y u)(t:RelV v r)(h:∀s',Inv X pins σ H' s'->Q () s'):
  wpAny (model X.prog X.w) A (setItem (.ref a) u r) Q E s:=by
 rcases g with ⟨d,k,e,j,l,i⟩ | ⟨d,k,b,e,j,n,l,i⟩
 ·subst j i;obtain⟨z,hd,D,rel,m⟩:=Zwu I.hok e;have hz:D.length<=sizeLine:=by rw[<- rel.length];exact z
  have hl:(putK d k v).length<=sizeLine:=by have:=Gf d k v;omega
  refine wpAny_setItem_pairs (hsz:=hz) (Zlo x) m λp f hs=>h _ ?_;have C:∃q,p.get? a=some q:=let ⟨q,_,_,hq,_⟩:=f;⟨q,hq⟩
  exact Zlz I (by rw[e];exact True.intro) hs C (Zzo hl hd (rel.put k t) f)
 ·subst j i;cases (show u=Value.ref b from x);obtain⟨z,hd,F,rel,m⟩:=ZBy I.hok e;have hz:F.length<=sizeLine:=by rw[<- Paired.length rel];exact z
  have hl:(putK d k v).length<=sizeLine:=by have:=Gf d k v;omega
  refine wpAny_setItem_heap (hsz:=hz) (tupleKind_room_in1 hu) (Zc1 I.hok n) m λp f hs=>h _ ?_;obtain⟨q,J,B,hq,h2,h3,h4,_,h5⟩:=f;refine Zlz I (by rw[e];exact True.intro) hs ⟨q,hq⟩ ⟨hl,hd,_,(rel.put k n t).keeps λc K o=>?_,q,J,B,hq,h2,h3,h4,h5⟩;rw[aC (rC o e (λz=>nomatch z))];exact o
end
section
variable {X:Cx}{pins:At}{σ:St}{H:Hp}{s:AJ}{a:AH}{kvs:List (Key×V)}{k:Key}{u:AI}{A:Around}{E:Ap}
end
def Zw9(i:AM):Prop:=∀b a,subscripted i false b a=operate [b,a] (getItem b a)
theorem Zl9{prog:AL}{w:AN}{A:Around}{E:Ap}{s:AJ}{env:Env}{b a:AM}{k:Pos}{T id:String}{Q:Ap}
  (hl:typeLookup (.type T) "__getitem__"=pure (some (.builtin id))) (hs:Zw9 a)
  (h:wpAny (model prog w) A (eval b env) (λo f=>wpAny (model prog w) A (eval a env) (λi c=>c.TypeIs o T/\wpAny (model prog w) A (getItem o i) Q E c) E f) E s):
  wpAny (model prog w) A (eval (.Subscript b a k) env) Q E s:=by
 refine Subscript_ (wpAny_mono h (λo f g=>wpAny_mono g (λi c d=>?_) λ_ _ x=>x) λ_ _ x=>x);obtain⟨l,d⟩:=d;unfold subscriptTail;refine wpAny_bind ?_;rw[getitemInPython_of_ne l.not_modules];refine wpAny_bind (wpAny_specialOf l hl ?_);have fin:wpAny (model prog w) A (subscripted a false o i) (λr e=>wpAny (model prog w) A (letTemporaryGo b o r >>= λ_=>pure r) Q E e) E c:=by
  rw[hs o i];exact wpAny_operating (wpAny_mono d (λr e j=>wpAny_bind (wpAny_letTemporaryGo (wpAny_pure j))) λ_ _ x=>x)
 first
  | exact wpAny_pure (wpAny_bind fin)
  | exact wpAny_bind (wpAny_pure (wpAny_bind fin))
  | exact wpAny_bind fin
theorem Zgi{X:Cx}{c:At}{σ:St}{H:Hp}{s:AJ}{a:AH}{y:V}{o:Option V}(I:Inv X c σ H s)(g:Px H a y o):s.TypeIs (.ref a) "dict":=by
 rcases g with ⟨d,k,e,_,_⟩ | ⟨d,k,b,e,_,_,_⟩
 ·obtain⟨_,_,i,_,f⟩:=Le I.hok e;exact f.typeIs
 ·obtain⟨_,_,h,_,f⟩:=Zge I.hok e;exact f.typeIs
def R5(d ty:TE):TE:=λσ H Q=>d σ H λx c=>ty σ c λy b=>∃a v,x=.ref a/\Px b a y (some v)/\Q v b
def Zz(ty d:TE):TE:=λσ H Q=>ty σ H λy c=>d σ c λx b=>∃a o,x=.ref a/\Px b a y o/\Q (.bl (!o.isSome)) b
def S8(e ty g:TE):TS:=λD σ H=>g σ H λv c=>e σ c λx f=>ty σ f λy d=>∃a b,x=.ref a/\Yd d a y v b/\D.nx σ b
section
variable {X:Cx}{o i e value:AM}{pos pos' tpos:Pos}{td ty tv:TE}
theorem Zu7(hu:X.A.units+1<cLine)(j:PE X o td)(f:PE X i ty)(hs:Zw9 i):PE X (.Subscript o i pos) (R5 td ty):=by
 intro b s d H Q I h;refine Zl9 PySem.F.slot_dict_getitem.lookup hs (iW (j b s d H _ I h) λu k ⟨x,H1,I1,rx,q1⟩=>iW (f b k d H1 _ I1 q1) λp l ⟨y,H2,I2,ry,a,v,ex,g,q2⟩=>?_);subst ex;obtain rfl:u=Value.ref a:=rx;exact⟨Zgi I2 g,Zog hu I2 g ry λn m e c=>⟨v,H2,e,c,q2⟩⟩
theorem Zmw(hu:X.A.units+1<cLine)(e:PE X i ty)(f:PE X o td):PC X .NotIn i o (Zz ty td):=by
 intro b s c H Q I h;refine iW (e b s c H _ I h) λm j ⟨y,H1,I1,ry,q1⟩=>iW (f b j c H1 _ I1 q1) λu k ⟨x,H2,I2,rx,a,ov,ex,g,q2⟩=>?_;subst ex;obtain rfl:u=Value.ref a:=rx;exact Zm0 hu I2 g ry λl d=>⟨.bl (!ov.isSome),H2,d,rfl,q2⟩
theorem J1(hu:X.A.units+1<cLine)(e:PE X o td)(d:PE X i ty)(hv:PE X value tv)(hs:swapsWith value (some (.Subscript o i pos')) pos.line X.env=pure false):
  PS X (.Assign [.Subscript o i pos'] value pos) (S8 td ty tv):=by
 intro b s c H D I h;refine wpAny_Assign_Subscript (iW (hv b s c H _ I h) λr k ⟨v,H1,I1,rv,q1⟩=>iW (e b k c H1 _ I1 q1) λu f ⟨x,H2,I2,rx,q2⟩=>iW (d b f c H2 _ I2 q2) λn m ⟨y,H3,I3,ry,a,H4,ex,g,q3⟩=>?_) hs;subst ex;obtain rfl:u=Value.ref a:=rx;exact Zof hu I3 g ry rv λl j=>⟨c,H4,j,q3⟩
end
theorem Zsi{P:AL}{w:AN}{H:Hp}(h:Heap)(hb:sysModules<h.objs.size):lM P w H (h.push { cls:=.type "dict",data:=.dict #[] }) h.objs.size (.dK []):=
 ⟨Nat.zero_le _,beq_eq_false_iff_ne.mpr (Ne.symm (Nat.ne_of_lt hb)),[],.nil,Heap.DictOf.new h⟩
def R4:TE:=λ_ H Q=>∀p,H p=none->Q (.ref p) (upd H p (.dK []))
section
variable {X:Cx}{pos:Pos}
theorem J4:PE X (.Dict [] [] pos) R4:=λb s σ H Q I h=>
 wpAny_Dict_empty ⟨.ref s.heap.objs.size,_,I.laid (a:=s.heap.objs.size) (o:=.dK []) (t':=s.toks) (λ_ _ q=>Heap.get?_push_of_some _ q) (Nat.le_refl _) (Zsi s.heap I.big),rfl,h _ (I.hok.fresh (Nat.le_refl _))⟩
end
def Zp0:List (TE×TE)->St->Hp->(List (V×V)->Hp->Prop)->Prop
 | [],_,H,Q=>Q [] H
 | (tk,d)::r,σ,H,Q=>tk σ H λx a=>d σ a λy c=>Zp0 r σ c λps b=>Q ((x,y)::ps) b
abbrev VV:List (V×V)->List (AI×AI)->Prop:=Paired λp q=>RelV p.1 q.1/\RelV p.2 q.2
def PPs(X:Cx)(c:Pos)(keys:List (Option AM))(a:AF)(d:List (TE×TE)):Prop:=
 ∀(b:At) (s:AJ) (σ:St) (H:Hp) (Q:List (V×V)->Hp->Prop),Inv X b σ H s->Zp0 d σ H Q->
  wpAny (model X.prog X.w) X.A (evalPairs (pairTrees keys a X.env c)) (λvs s'=>∃ps H',Inv X b σ H' s'/\VV ps vs/\Q ps H') X.xe s
structure M1(X:Cx)(o:AM)(m:Str)(apos:Pos)(e:AM)(cpos:Pos):Prop where
 base:attributeBase o m X.env (eval o X.env)=eval o X.env
 few:((backTo cpos (starEach [e] X.env)).all (λx=>!x.1) && (backToKw cpos (keywordEach [] X.env)).all (λx=>x.1.isSome)
  && decide (([e]:AF).length+([]:List Keyword).length+(if ([]:List Keyword).isEmpty then 0 else 1)<30))=true
 line:(apos.endLine == cpos.line)=true
 trees:backTo cpos (starEach [e] X.env)=[(false,eval e X.env)]
structure M2(X:Cx)(o:AM)(m:Str)(apos:Pos)(e f:AM)(cpos:Pos):Prop where
 base:attributeBase o m X.env (eval o X.env)=eval o X.env
 few:((backTo cpos (starEach [e,f] X.env)).all (λx=>!x.1) && (backToKw cpos (keywordEach [] X.env)).all (λx=>x.1.isSome)
  && decide (([e,f]:AF).length+([]:List Keyword).length+(if ([]:List Keyword).isEmpty then 0 else 1)<30))=true
 line:(apos.endLine == cpos.line)=true
 trees:backTo cpos (starEach [e,f] X.env)=[(false,eval e X.env),(false,eval f X.env)]
def IsD(H:Hp)(a:AH):Prop:=(∃b,Rd H a (.dK b))\/∃b,Rd H a (.dT b)
theorem Zrf{X:Cx}{c:At}{σ:St}{H:Hp}{s:AJ}{a:AH}(I:Inv X c σ H s)(d:IsD H a):
  s.TypeIs (.ref a) "dict"/\(∀b,Value.ref a=.ref b->∃ob,s.heap.get? b=some ob/\ob.dict=none)/\(a == sysModules)=false:=by
 rcases d with ⟨g,e⟩ | ⟨g,e⟩
 ·obtain⟨_,hd,h,_,f⟩:=Le I.hok e;refine⟨f.typeIs,λb q=>?_,hd⟩;cases q;obtain⟨ob,_,_,h1,h2,_⟩:=f;exact⟨ob,h1,h2.2.1⟩
 ·obtain⟨_,hd,i,_,f⟩:=Zge I.hok e;refine⟨f.typeIs,λb q=>?_,hd⟩;cases q;obtain⟨ob,_,_,h1,h2,_⟩:=f;exact⟨ob,h1,h2.2.1⟩
section
variable {X:Cx}{pins:At}{σ:St}{H:Hp}{s:AJ}{a:AH}{y d:V}{u r:AI}{o:Option V}{A:Around}{E:Ap}
end
section
variable {X:Cx}{o e f:AM}{apos cpos:Pos}{td ty tx:TE}
end
section
variable {X:Cx}{pins:At}{σ:St}{H:Hp}{s:AJ}{a:AH}{kvs:List (Key×V)}{A:Around}{E:Ap}
end
section
variable {X:Cx}{pins:At}{σ:St}{H:Hp}{s:AJ}{a:AH}{y:V}{u:AI}{A:Around}{E:Ap}
end
end L2
namespace Att
open PySem PySem.W PySem.Calls PyProof.Rows
section
variable {prog:AL}{w:AN}{A:Around}{E:Ap}{s:AJ}{K:Frag}
end
end Att
namespace L2
open PySem PySem.Spec PyProof.Rows
section
variable {X:Cx}
end
section
variable {κ:Type} [DecidableEq κ]
end
end L2
set_option maxHeartbeats 40000000
namespace G
open PySem L2
section
variable {D:Ends}{σ:St}{H H1:Hp}{Q:VK}{t u:TS}{ta tb tc te:TE}{n:St->Hp->Prop}{r:VK}{b c:St->Hp->Prop}
theorem K1(h:t ⟨u ⟨n,r,b,c⟩,r,b,c⟩ σ H):aO t u ⟨n,r,b,c⟩ σ H:=h
theorem wz(h:n σ H):cg ⟨n,r,b,c⟩ σ H:=h
theorem Zz3(h:te σ H λ_ H1=>n σ H1):xg te ⟨n,r,b,c⟩ σ H:=h
theorem Zlr(h:te σ H r):bG te ⟨n,r,b,c⟩ σ H:=h
theorem Zyy{c':TT}(h:c' σ H λk H1=>if k=true then t ⟨n,r,b,c⟩ σ H1 else u ⟨n,r,b,c⟩ σ H1):dR c' t u ⟨n,r,b,c⟩ σ H:=h
theorem U6{g:TG}(h:te σ H λx H1=>g x σ H1 n):bH te g ⟨n,r,b,c⟩ σ H:=h
theorem i_C{v:V}(h:Q v H):tC v σ H Q:=h
theorem Zjv{f:R2}(h:ta σ H λx H1=>tb σ H1 λy a=>f x y a Q):bA f ta tb σ H Q:=h
theorem ZCy{f:V->Hp->VK->Prop}(h:ta σ H λx H1=>f x H1 Q):tUn f ta σ H Q:=h
def kB(q:Bool->Hp->Prop):VK:=λx H'=>∃k,x=.bl k/\q k H'
theorem i_B{k:Bool}{q:Bool->Hp->Prop}(h:q k H):kB q (.bl k) H:=⟨k,rfl,h⟩
theorem Zyn{q:Bool->Hp->Prop}(h:te σ H (kB q)):bQ te σ H q:=h
theorem ZB8{q:Bool->Hp->Prop}(h:te σ H (kB q)):tB te σ H q:=h
theorem ZBn{t u:TT}{q:Bool->Hp->Prop}(h:t σ H λk H1=>if k=true then u σ H1 q else q false H1):ZD t u σ H q:=h
theorem ZBa{t u:TT}{q:Bool->Hp->Prop}(h:t σ H λk H1=>if k=true then q true H1 else u σ H1 q):VF t u σ H q:=h
theorem Zwp{t:TT}{q:Bool->Hp->Prop}(h:t σ H λk H1=>q (!k) H1):zL t σ H q:=h
theorem Zza(h:ta σ H (kB λk H1=>if k=true then tb σ H1 Q else Q (.bl false) H1)):PK ta tb σ H Q:=h
theorem ZB9(h:ta σ H (kB λk H1=>if k=true then Q (.bl true) H1 else tb σ H1 Q)):Zx4 ta tb σ H Q:=h
theorem Zyq(h:ta σ H (kB λk H1=>Q (.bl (!k)) H1)):Zl8 ta σ H Q:=h
theorem ZBh{t:TT}(h:t σ H λk H1=>if k=true then ta σ H1 Q else tb σ H1 Q):tIf t ta tb σ H Q:=h
theorem ZBo{g:Int->Int->V}{i j:Int}(h:Q (g i j) H):pD g (.int i) (.int j) H Q:=⟨i,j,rfl,rfl,h⟩
theorem i_I{C:Int->Int->Prop}{g:Int->Int->V}{i j:Int}(hc:C i j)(h:Q (g i j) H):rI C g (.int i) (.int j) H Q:=⟨i,j,rfl,rfl,hc,h⟩
theorem i_U{g:Int->V}{i:Int}(h:Q (g i) H):rU g (.int i) H Q:=⟨i,rfl,h⟩
theorem ZBm{i j:Int}(h:Q (.bl (decide (i=j))) H):xr (.int i) (.int j) H Q:=⟨rfl,by rw[show decide (V.int i=V.int j)=decide (i=j)from decide_eq_decide.mpr ⟨λe=>V.int.inj e,λe=>by rw[e]⟩];exact h⟩
theorem ZBl{i j:Str}(h:Q (.bl (decide (i=j))) H):xr (.str i) (.str j) H Q:=⟨rfl,by rw[show decide (V.str i=V.str j)=decide (i=j)from decide_eq_decide.mpr ⟨λe=>V.str.inj e,λe=>by rw[e]⟩];exact h⟩
theorem ZBd{i j:Int}(h:Q (.bl (!decide (i=j))) H):rNe (.int i) (.int j) H Q:=⟨rfl,by rw[show decide (V.int i=V.int j)=decide (i=j)from decide_eq_decide.mpr ⟨λe=>V.int.inj e,λe=>by rw[e]⟩];exact h⟩
theorem ZBc{i j:Str}(h:Q (.bl (!decide (i=j))) H):rNe (.str i) (.str j) H Q:=⟨rfl,by rw[show decide (V.str i=V.str j)=decide (i=j)from decide_eq_decide.mpr ⟨λe=>V.str.inj e,λe=>by rw[e]⟩];exact h⟩
theorem ZBe{i j:Bool}(h:Q (.bl (!decide (i=j))) H):rNe (.bl i) (.bl j) H Q:=⟨rfl,by rw[show decide (V.bl i=V.bl j)=decide (i=j)from decide_eq_decide.mpr ⟨λe=>V.bl.inj e,λe=>by rw[e]⟩];exact h⟩
def Wi:R2:=λx y H Q=>y=.non/\Q (.bl (decide (x=.non))) H
def Ey:R2:=λx y H Q=>y=.non/\Q (.bl (!decide (x=.non))) H
theorem Zyx(h:Q (.bl true) H):Wi .non .non H Q:=⟨rfl,h⟩
theorem Zyw{i:Int}(h:Q (.bl false) H):Wi (.int i) .non H Q:=⟨rfl,h⟩
theorem Zyv{i:AH}(h:Q (.bl false) H):Wi (.ref i) .non H Q:=⟨rfl,h⟩
theorem Zv6(h:Q (.bl false) H):Ey .non .non H Q:=⟨rfl,h⟩
theorem Zv5{i:Int}(h:Q (.bl true) H):Ey (.int i) .non H Q:=⟨rfl,h⟩
theorem Zv4{i:AH}(h:Q (.bl true) H):Ey (.ref i) .non H Q:=⟨rfl,h⟩
theorem Zjy{A B:Prop}(h:A):if true=true then A else B:=Zjs h
theorem Zce{A B:Prop}(h:B):if false=true then A else B:=Zv2 h
theorem Zvb{A B:Prop}(h:B):if (!true)=true then A else B:=Zv2 h
theorem Zvc{A B:Prop}(h:A):if (!false)=true then A else B:=Zjs h
theorem uY{p A B:Prop} [Decidable p](h1:p->A)(h2:¬ p->B):if decide p=true then A else B:=Zyj (λe=>h1 (of_decide_eq_true e)) (λe=>h2 (λq=>e (decide_eq_true q)))
theorem zX{p A B:Prop} [Decidable p](h1:¬ p->A)(h2:p->B):if (!decide p)=true then A else B:=Zyj (λe=>h1 (by simpa using e)) (λe=>h2 (by simpa using e))
theorem ZBb{q:List V->Hp->Prop}(h:q [] H):aF σ H q:=h
theorem Zz7{q:List V->Hp->Prop}{t:TA}(h:ta σ H λx H1=>t σ H1 λxs a=>q (x::xs) a):aj ta t σ H q:=h
theorem ZBf{t:TA}(h:t σ H λxs H1=>xs.length<=sizeLine/\∀p,H1 p=none->Q (.ref p) (upd H1 p (.lst xs))):gQ t σ H Q:=h
theorem ZB5{t:TA}(h:t σ H λxs H1=>xs.length<=sizeLine/\∀p,H1 p=none->Q (.ref p) (upd H1 p (.tup xs))):fW t σ H Q:=h
theorem Zz8{t:TA}{sp:Sp}{wU:List V}{E:XK}(h:t σ H λvs H1=>sp (vs++wU) H1 Q E):aQ sp wU E t σ H Q:=h
theorem ZDc{t:TA}{f:List V->Hp->VK->Prop}(h:t σ H λvs H1=>f vs H1 Q):wQ f t σ H Q:=h
theorem Zyt{t:TA}{sp:Sp}{wU:List V}{E:XK}{C:AH}(h:t σ H λvs H1=>∀x dx,H1 x=none->H1 dx=none->dx≠x->sp (.ref x::(vs++wU)) (upd (upd H1 dx (.own x)) x (.ins C dx [])) (λv a=>v=.non/\Q (.ref x) a) E):Dc C sp wU E t σ H Q:=h
def ZB3(K:aB)(f:Str)(Q:VK):VK:=λx H1=>∃a C dx fs v,x=.ref a/\H1 a=some (.ins C dx fs)/\Im K C/\bL K C f/\fs.lookup f=some v/\Q v H1
theorem ZBk{K:aB}{f:Str}(h:ta σ H (ZB3 K f Q)):bz K ta f σ H Q:=h
theorem aH{K:aB}{f:Str}{a C dx:AH}{fs:List (Str×V)}{v:V}(h:H a=some (.ins C dx fs))(hc:Im K C)(hn:bL K C f)(hl:fs.lookup f=some v)(q:Q v H):ZB3 K f Q (.ref a) H:=⟨a,C,dx,fs,v,rfl,h,hc,hn,hl,q⟩
theorem Zyo{K:aB}{f:Str}{e:TE}(h:e σ H λy H1=>ta σ H1 λx d=>∃a C dx fs,x=.ref a/\d a=some (.ins C dx fs)/\Im K C/\bL K C f/\fs.length<1000/\n σ (upd d a (.ins C dx (cH f y fs)))):iJ K ta e f ⟨n,r,b,c⟩ σ H:=h
theorem Zys{C:AH}{m:Str}{sp:Sp}{wU:List V}{E:XK}{t:TA}(h:ta σ H λx H1=>∃a dx fs,x=.ref a/\H1 a=some (.ins C dx fs)/\fs.lookup m=none/\t σ H1 λvs b=>sp (x::(vs++wU)) b Q E):mJ C m sp wU E ta t σ H Q:=h
theorem Zrk{q:AA->Hp->Prop}(h:q none H):Ri σ H q:=h
def kI(q:Int->Hp->Prop):VK:=λx H1=>∃i,x=.int i/\q i H1
theorem Zyp{q:AA->Hp->Prop}(h:te σ H (kI λi=>q (some i))):Yz te σ H q:=h
theorem ZD0{i:Int}{q:Int->Hp->Prop}(h:q i H):kI q (.int i) H:=⟨i,rfl,h⟩
theorem ZCz{f:V->AA->AA->Hp->VK->Prop}{tl th:TO}(h:te σ H λx H1=>tl σ H1 λl b=>th σ b λu a=>f x l u a Q):tSl f te tl th σ H Q:=h
theorem ZDb{K:aB}{T:String}{f:V->List V->Hp->VK->Prop}{to:TE}{t:TA}(h:to σ H λx H1=>tyV K T x H1/\t σ H1 λxs a=>f x xs a Q):tBM K T f to t σ H Q:=h
theorem ZBj{e:TI}{g:TG}{tb:TS}(h:e σ H λJ H1=>∃W:Nat->Nat->St->Hp->Prop,(∃m,W 0 m σ H1)/\∀i m σ H,W i m σ H->
 (J.stop i H/\n σ H)\/(J.go i H/\∃N:St->Hp->Prop,(∀ a H',N a H'->∃f,f<m/\W (i+1) f a H')/\∀x H',J.yld i H x H'->g x σ H' λd j=>tb ⟨N,r,n,N⟩ d j)):wV e g tb ⟨n,r,b,c⟩ σ H:=h
theorem ZD3{K:aB}{R:It->Hp->Prop}(h:te σ H λx H1=>∃a,x=.ref a/\(∃xs,cB K H1 a xs)/\R (Itl K a) H1):pY K te σ H R:=h
theorem ZD2{ta:TA}{R:It->Hp->Prop}(h:ta σ H λvs H1=>∃j:Int,vs=[.int j]/\-(2 ^ 62)<=j/\j<2 ^ 62/\R (Itr 0 j.toNat) H1):Df ta σ H R:=h
end
theorem ZCx{v:V}{l:St}{H:Hp}{Q:VK}(h:Q v H):ak 0 (some v::l) H Q:=⟨v,rfl,h⟩
theorem ZCw{a:Option V}{v:V}{l:St}{H:Hp}{Q:VK}(h:Q v H):ak 1 (a::some v::l) H Q:=⟨v,rfl,h⟩
theorem ZDa{a:Option V}{y:Option V}{v:V}{l:St}{H:Hp}{Q:St->Hp->Prop}(h:Q (a::some v::l) H):aN 1 v (a::y::l) H Q:=h
theorem ZCv{b a:Option V}{v:V}{l:St}{H:Hp}{Q:VK}(h:Q v H):ak 2 (b::a::some v::l) H Q:=⟨v,rfl,h⟩
theorem Zz0{b a:Option V}{y:Option V}{v:V}{l:St}{H:Hp}{Q:St->Hp->Prop}(h:Q (b::a::some v::l) H):aN 2 v (b::a::y::l) H Q:=h
theorem Zju{c a b:Option V}{v:V}{l:St}{H:Hp}{Q:VK}(h:Q v H):ak 3 (c::a::b::some v::l) H Q:=⟨v,rfl,h⟩
theorem Zfz{c a b:Option V}{y:Option V}{v:V}{l:St}{H:Hp}{Q:St->Hp->Prop}(h:Q (c::a::b::some v::l) H):aN 3 v (c::a::b::y::l) H Q:=h
theorem ZCu{d a c b:Option V}{v:V}{l:St}{H:Hp}{Q:VK}(h:Q v H):ak 4 (d::a::c::b::some v::l) H Q:=⟨v,rfl,h⟩
theorem Zvd{d a c b:Option V}{y:Option V}{v:V}{l:St}{H:Hp}{Q:St->Hp->Prop}(h:Q (d::a::c::b::some v::l) H):aN 4 v (d::a::c::b::y::l) H Q:=h
theorem ZCt{e a d c b:Option V}{v:V}{l:St}{H:Hp}{Q:VK}(h:Q v H):ak 5 (e::a::d::c::b::some v::l) H Q:=⟨v,rfl,h⟩
theorem ZD9{e a d c b:Option V}{y:Option V}{v:V}{l:St}{H:Hp}{Q:St->Hp->Prop}(h:Q (e::a::d::c::b::some v::l) H):aN 5 v (e::a::d::c::b::y::l) H Q:=h
theorem ZCs{f a e c b d:Option V}{v:V}{l:St}{H:Hp}{Q:VK}(h:Q v H):ak 6 (f::a::e::c::b::d::some v::l) H Q:=⟨v,rfl,h⟩
theorem ZD8{f a e c b d:Option V}{y:Option V}{v:V}{l:St}{H:Hp}{Q:St->Hp->Prop}(h:Q (f::a::e::c::b::d::some v::l) H):aN 6 v (f::a::e::c::b::d::y::l) H Q:=h
theorem ZCr{g a f d c e b:Option V}{v:V}{l:St}{H:Hp}{Q:VK}(h:Q v H):ak 7 (g::a::f::d::c::e::b::some v::l) H Q:=⟨v,rfl,h⟩
theorem ZD7{g a f d c e b:Option V}{y:Option V}{v:V}{l:St}{H:Hp}{Q:St->Hp->Prop}(h:Q (g::a::f::d::c::e::b::some v::l) H):aN 7 v (g::a::f::d::c::e::b::y::l) H Q:=h
theorem ZCq{i a g d c e b f:Option V}{v:V}{l:St}{H:Hp}{Q:VK}(h:Q v H):ak 8 (i::a::g::d::c::e::b::f::some v::l) H Q:=⟨v,rfl,h⟩
theorem ZD6{i a g d c e b f:Option V}{y:Option V}{v:V}{l:St}{H:Hp}{Q:St->Hp->Prop}(h:Q (i::a::g::d::c::e::b::f::some v::l) H):aN 8 v (i::a::g::d::c::e::b::f::y::l) H Q:=h
theorem ZCp{j a g d c e b f i:Option V}{v:V}{l:St}{H:Hp}{Q:VK}(h:Q v H):ak 9 (j::a::g::d::c::e::b::f::i::some v::l) H Q:=⟨v,rfl,h⟩
theorem ZD5{j a g d c e b f i:Option V}{y:Option V}{v:V}{l:St}{H:Hp}{Q:St->Hp->Prop}(h:Q (j::a::g::d::c::e::b::f::i::some v::l) H):aN 9 v (j::a::g::d::c::e::b::f::i::y::l) H Q:=h
theorem ZB4{k a i d c e b g j f:Option V}{v:V}{l:St}{H:Hp}{Q:VK}(h:Q v H):ak 10 (k::a::i::d::c::e::b::g::j::f::some v::l) H Q:=⟨v,rfl,h⟩
theorem ZBi{k a i d c e b g j f:Option V}{y:Option V}{v:V}{l:St}{H:Hp}{Q:St->Hp->Prop}(h:Q (k::a::i::d::c::e::b::g::j::f::some v::l) H):aN 10 v (k::a::i::d::c::e::b::g::j::f::y::l) H Q:=h
theorem aK{H:Hp}{p:AH}(h:H p=none)(o:HO):aW H (upd H p o):=λb u q=>by rw[aC (aD q h)];exact q
theorem nwO{H b:Hp}{a:AH}{o:HO}(n:H a=none)(h:upd H a o=b):aW H b/\b a=some o:=by
 subst h;exact⟨aK n o,aq⟩
def tyN(H:Hp):V->Option String
 | .non=>some "NoneType"
 | .bl _=>some "bool"
 | .int _=>some "int"
 | .str _=>some "str"
 | .ref a=>match H a with
  | some (.lst _)=>some "list"
  | some (.Ac _ (.lst _))=>some "list"
  | some (.tup _)=>some "tuple"
  | some (.dK _)=>some "dict"
  | some (.dT _)=>some "dict"
  | _=>none
 | _=>none
def wR(t n:String):Option Bool:=if ["int","bool","str","list","tuple","dict"].contains n then some (t == n || (t == "bool" && n == "int"))else none
def Li:List V->Hp->VK->Prop:=λxs H Q=>∃x n t k,xs=[x,.ty n]/\tyN H x=some t/\wR t n=some k/\Q (.bl k) H
theorem Qv:wR "int" "int"=some true:=by decide +kernel
theorem KQ:wR "int" "bool"=some false:=by decide +kernel
theorem Zfw:wR "int" "str"=some false:=by decide +kernel
theorem Zc7:wR "int" "list"=some false:=by decide +kernel
theorem Xb:wR "int" "tuple"=some false:=by decide +kernel
theorem Zc8:wR "int" "dict"=some false:=by decide +kernel
theorem Zcc:wR "bool" "int"=some true:=by decide +kernel
theorem Xh:wR "bool" "bool"=some true:=by decide +kernel
theorem Zcb:wR "bool" "str"=some false:=by decide +kernel
theorem Xf:wR "bool" "list"=some false:=by decide +kernel
theorem U0:wR "bool" "tuple"=some false:=by decide +kernel
theorem Xg:wR "bool" "dict"=some false:=by decide +kernel
theorem Zfv:wR "str" "int"=some false:=by decide +kernel
theorem Zc4:wR "str" "bool"=some false:=by decide +kernel
theorem Qu:wR "str" "str"=some true:=by decide +kernel
theorem Zc2:wR "str" "list"=some false:=by decide +kernel
theorem W8:wR "str" "tuple"=some false:=by decide +kernel
theorem Zc3:wR "str" "dict"=some false:=by decide +kernel
theorem Oo:wR "NoneType" "int"=some false:=by decide +kernel
theorem KZ:wR "NoneType" "bool"=some false:=by decide +kernel
theorem Om:wR "NoneType" "str"=some false:=by decide +kernel
theorem KR:wR "NoneType" "list"=some false:=by decide +kernel
theorem Jr:wR "NoneType" "tuple"=some false:=by decide +kernel
theorem KY:wR "NoneType" "dict"=some false:=by decide +kernel
theorem Zc6:wR "list" "int"=some false:=by decide +kernel
theorem Xa:wR "list" "bool"=some false:=by decide +kernel
theorem Zc5:wR "list" "str"=some false:=by decide +kernel
theorem Ih:wR "list" "list"=some true:=by decide +kernel
theorem UT:wR "list" "tuple"=some false:=by decide +kernel
theorem W9:wR "list" "dict"=some false:=by decide +kernel
theorem W7:wR "tuple" "int"=some false:=by decide +kernel
theorem UL:wR "tuple" "bool"=some false:=by decide +kernel
theorem W6:wR "tuple" "str"=some false:=by decide +kernel
theorem UG:wR "tuple" "list"=some false:=by decide +kernel
theorem De:wR "tuple" "tuple"=some true:=by decide +kernel
theorem UJ:wR "tuple" "dict"=some false:=by decide +kernel
theorem Zca:wR "dict" "int"=some false:=by decide +kernel
theorem Xe:wR "dict" "bool"=some false:=by decide +kernel
theorem Zc9:wR "dict" "str"=some false:=by decide +kernel
theorem Xc:wR "dict" "list"=some false:=by decide +kernel
theorem UW:wR "dict" "tuple"=some false:=by decide +kernel
theorem Xd:wR "dict" "dict"=some true:=by decide +kernel
theorem Zk0{i:Int}{H:Hp}{Q:VK}(h:Q (.bl true) H):Li [.int i,.ty "int"] H Q:=⟨_,_,_,_,rfl,rfl,Qv,h⟩
theorem Zfy{i:Int}{H:Hp}{Q:VK}(h:Q (.bl false) H):Li [.int i,.ty "bool"] H Q:=⟨_,_,_,_,rfl,rfl,KQ,h⟩
theorem Zjz{i:Str}{H:Hp}{Q:VK}(h:Q (.bl true) H):Li [.str i,.ty "str"] H Q:=⟨_,_,_,_,rfl,rfl,Qu,h⟩
theorem Qw{a:AH}{H:Hp}{Q:VK}{xs:List V}(hp:H a=some (.lst xs))(h:Q (.bl true) H):Li [.ref a,.ty "list"] H Q:=⟨_,_,_,_,rfl,(by show(match H a with | some (.lst _)=>some "list" | some (.Ac _ (.lst _))=>some "list" | some (.tup _)=>some "tuple" | some (.dK _)=>some "dict" | some (.dT _)=>some "dict" | _=>none)=some "list";rw[hp]),Ih,h⟩
theorem Cv{a:AH}{H:Hp}{Q:VK}{xs:List V}(hp:H a=some (.tup xs))(h:Q (.bl true) H):Li [.ref a,.ty "tuple"] H Q:=⟨_,_,_,_,rfl,(by show(match H a with | some (.lst _)=>some "list" | some (.Ac _ (.lst _))=>some "list" | some (.tup _)=>some "tuple" | some (.dK _)=>some "dict" | some (.dT _)=>some "dict" | _=>none)=some "tuple";rw[hp]),De,h⟩
def lK(K:aB):List V->Hp->VK->Prop:=λxs H Q=>∃p a,xs=[.ref p]/\(cB K H p a\/gw K H p a)/\Q (.int a.length) H
theorem jC{K:aB}{a:AH}{H:Hp}{Q:VK}{xs:List V}(hp:cB K H a xs)(h:Q (.int xs.length) H):lK K [.ref a] H Q:=⟨a,xs,rfl,.inl hp,h⟩
theorem je{K:aB}{a:AH}{H:Hp}{Q:VK}{xs:List V}{i:Int}{v:V}(hp:cB K H a xs)(b:XM xs i=some v)(h:Q v H):mU K (.ref a) (.int i) H Q:=⟨a,xs,i,v,rfl,rfl,hp,b,h⟩
section
variable {K:aB}{a:AH}{xs:List V}{g:TG}{tb:TS}{σ:St}{H:Hp}{n:St->Hp->Prop}{r:VK}
theorem forL(xs:List V)(Pv:Nat->St->Hp->Prop)(f:Pv 0 σ H)(hl:∀i σ H,i<=xs.length->Pv i σ H->cB K H a xs)
  (hs:∀i x σ H,xs[i]? =some x->Pv i σ H->g x σ H λb d=>tb ⟨Pv (i+1),r,n,Pv (i+1)⟩ b d) (hd:∀ σ H,Pv xs.length σ H->n σ H):
  ∃W:Nat->Nat->St->Hp->Prop,(∃m,W 0 m σ H)/\∀i m σ H,W i m σ H->
   ((Itl K a).stop i H/\n σ H)\/((Itl K a).go i H/\∃N:St->Hp->Prop,(∀ c H',N c H'->∃e,e<m/\W (i+1) e c H')/\∀x H',(Itl K a).yld i H x H'->g x σ H' λb d=>tb ⟨N,r,n,N⟩ b d):=
 Zs4 (D:=⟨n,r,λ_ _=>False,λ_ _=>False⟩) Pv f hl hs hd
theorem forR{lo:Int}{k:Nat}(Pv:Nat->St->Hp->Prop)(e:Pv 0 σ H)
  (hs:∀i σ H,i<k->Pv i σ H->g (.int (lo+i)) σ H λa c=>tb ⟨Pv (i+1),r,n,Pv (i+1)⟩ a c) (hd:∀ σ H,Pv k σ H->n σ H):
  ∃W:Nat->Nat->St->Hp->Prop,(∃m,W 0 m σ H)/\∀i m σ H,W i m σ H->
   ((Itr lo k).stop i H/\n σ H)\/((Itr lo k).go i H/\∃N:St->Hp->Prop,(∀ b H',N b H'->∃d,d<m/\W (i+1) d b H')/\∀x H',(Itr lo k).yld i H x H'->g x σ H' λa c=>tb ⟨N,r,n,N⟩ a c):=
 Zo5 (D:=⟨n,r,λ_ _=>False,λ_ _=>False⟩) Pv e hs hd
end
theorem aR{n:Nat}(h:n<=1000000):n<=sizeLine:=Nat.le_trans h (by decide)
def Zpk:R2:=λx y H Q=>∃i j,x=.str i/\y=.str j/\i.length+j.length<=sizeLine/\Q (.str (i++j)) H
theorem Zro{i j:Str}{H:Hp}{Q:VK}(hz:i.length+j.length<=sizeLine)(h:Q (.str (i++j)) H):Zpk (.str i) (.str j) H Q:=⟨i,j,rfl,rfl,hz,h⟩
theorem ZBg{z:Str}{i:Int}{c:Nat}{H:Hp}{Q:VK}(hz:z.length<=sizeLine)(a:XM z.cps.toList i=some c)(h:Q (.str ⟨#[c]⟩) H):Zpi (.str z) (.int i) H Q:=⟨z,i,c,rfl,rfl,hz,a,h⟩
theorem Zrl{z:Str}{i:Int}{H:Hp}{Q:VK}(hz:z.length<=sizeLine)(b:0<=i)(h1:i<z.length)(h:∀c:Nat,Q (.str ⟨#[c]⟩) H):Zpi (.str z) (.int i) H Q:=by
 have hk:i.toNat<z.cps.toList.length:=by rw[Array.length_toList];exact(Int.toNat_lt b).mpr h1
 have a:i=((i.toNat:Nat):Int):=by omega
 have q:XM z.cps.toList ((i.toNat:Nat):Int)=some z.cps.toList[i.toNat]:=iu (bM hk);rw[<- a]at q;exact ZBg hz q (h _)
theorem str_len(z:Str):z.cps.toList.length=z.length:=Array.length_toList
def pick(σ:St)(j:Nat):Option V:=match σ[j]? with
 | some v=>v
 | none=>none
def tLC(g:TI)(a:List Nat)(tc:TT)(f:TE):TE:=λσ H Q=>g σ H λJ e=>∃W:Nat->Nat->List V->Hp->Prop,(∃m,W 0 m [] e)/\∀i m b H,W i m b H->
 (J.stop i H/\∀p,H p=none->Q (.ref p) (upd H p (.lst b)))\/
 (J.go i H/\b.length<sizeLine/\∀x H',J.yld i H x H'->tc (some x::a.map (pick σ)) H' λk d=>if k=true then f (some x::a.map (pick σ)) d (λy h=>∃c,c<m/\W (i+1) c (b++[y]) h)else ∃c,c<m/\W (i+1) c b d)
def w6:TT:=λ_ H Q=>Q true H
theorem Cu{σ:St}{H:Hp}{Q:Bool->Hp->Prop}(h:Q true H):w6 σ H Q:=h
theorem Zve{r d:R2}{a c tc:TE}{σ:St}{H:Hp}{Q:VK}(h:a σ H λx e=>c σ e λy f=>r x y f (kB λk b=>if k=true then tc σ b (λw g=>d y w g Q)else Q (.bl false) b)):Zhi r d a c tc σ H Q:=h
def Zmp(z:Str)(n:Int):Str:=⟨(List.replicate n.toNat z.cps.toList).flatten.toArray⟩
def Zlb:R2:=λx y H Q=>∃z k,x=.str z/\y=.int k/\0<=k/\k<=1000/\z.length<=1000/\∀t:Str,t.length<=1000000->t=Zmp z k->Q (.str t) H
theorem Zri{z:Str}{k:Int}{H:Hp}{Q:VK}(a:0<=k)(h1:k<=1000)(h2:z.length<=1000)(h:∀t:Str,t.length<=1000000->t=Zmp z k->Q (.str t) H):Zlb (.str z) (.int k) H Q:=⟨z,k,rfl,rfl,a,h1,h2,h⟩
structure EqD(K:aB)(C:AH):Prop where
 eq:W.findIn K (.ref C) "__eq__"=some (some (.builtin "object.__eq__"))
 ob:W.mroIn K C (.type "object")=some true
def LC(C:AH)(E:XK)(b:TA):TS:=λ_ σ H=>b σ H λvs a=>vs.length<=100/\E (.ref C) none a
def Zhj(sp:Sp)(wU:List V)(E:St->XK)(t:TA):TE:=λσ H Q=>t σ H λvs a=>sp (vs++wU) a Q (E σ)
def Zx2(d:AI->Prop)(c:(St->XK)->TS)(th:TS):TS:=λD σ H=>c (λb a _ H'=>d a/\th D b H') D σ H
section
variable {σ:St}{H:Hp}{Q:VK}{n:St->Hp->Prop}{r:VK}{b c:St->Hp->Prop}{te:TE}{t:TA}
theorem Zv3{C:AH}{E:XK}(h:t σ H λvs a=>vs.length<=100/\E (.ref C) none a):LC C E t ⟨n,r,b,c⟩ σ H:=h
theorem Zvf{sp:Sp}{wU:List V}{E:St->XK}(h:t σ H λvs a=>sp (vs++wU) a Q (E σ)):Zhj sp wU E t σ H Q:=h
theorem ZB6{f:AI->Prop}{e:(St->XK)->TS}{th:TS}(h:e (λd a _ H'=>f a/\th ⟨n,r,b,c⟩ d H') ⟨n,r,b,c⟩ σ H):Zx2 f e th ⟨n,r,b,c⟩ σ H:=h
end
theorem Zyz{to a:TE}{ts:Zol}{x:V}{σ:St}{H:Hp}{Q:St->Hp->Prop}(h:to σ H λo b=>a σ b λi d=>ts o i x d λc=>Q σ c):Ra to a ts x σ H Q:=h
def O6(K:aB):List V->Hp->VK->Prop:=λxs H Q=>∃(p:AH) (a:List V),xs=[.ref p]/\cB K H p a/\∀l,H l=none->Q (.ref l) (upd H l (.lst a))
theorem Rz{K:aB}{H:Hp}{Q:VK}{p:AH}{a:List V}(h1:cB K H p a)(h:∀l,H l=none->Q (.ref l) (upd H l (.lst a))):O6 K [.ref p] H Q:=⟨p,a,rfl,h1,h⟩
def OkN(K:aB)(H:Hp)(xs:List V):Prop:=∀y∈xs,y=.non\/∃a C dx fs,y=.ref a/\H a=some (.ins C dx fs)/\Im K C/\EqD K C
def Zxl(K:aB)(a:Bool):R2:=λx y H Q=>∃p xs,x=.non/\y=.ref p/\cB K H p xs/\OkN K H xs/\Q (.bl (if a then !decide (V.non∈xs)else decide (V.non∈xs))) H
theorem Zrj{K:aB}{H:Hp}{Q:VK}{p:AH}{xs:List V}(h1:cB K H p xs)(h2:OkN K H xs)(h:Q (.bl (!decide (V.non∈xs))) H):Zxl K true .non (.ref p) H Q:=⟨p,xs,rfl,rfl,h1,h2,h⟩
def Zld(K:aB):V->List V->Hp->VK->Prop:=λx vs H Q=>∃p xs,x=.ref p/\vs=[.non]/\cB K H p xs/\OkN K H xs/\V.non∈xs/\Q (.int (xs.idxOf V.non)) H
def eqL(xs a:List V):Bool:=xs.length == a.length && (xs.zip a).all λp=>Zi p.1 p.2
def Wj(K:aB)(b:Bool):R2:=λx y H Q=>∃p q xs a,x=.ref p/\y=.ref q/\cB K H p xs/\cB K H q a/\(xs.length=a.length->xs.all qJ=true/\a.all qJ=true)/\Q (.bl (if b then !eqL xs a else eqL xs a)) H
theorem tR(ns:AD):(ns.map V.int).all qJ=true:=by
 rw[List.all_eq_true];intro x hx;obtain⟨i,_,rfl⟩:=List.mem_map.mp hx;rfl
theorem Zgb(ns:AD):∀ms:AD,eqL (ns.map V.int) (ms.map V.int)=decide (ns=ms):=by
 induction ns with
 | nil=>
  intro ms;cases ms with
  | nil=>rfl
  | cons m ms=>rfl
 | cons n ns g=>
  intro ms;cases ms with
  | nil=>rfl
  | cons m ms=>
   have:=g ms;unfold eqL at this ⊢;rw[List.map_cons,List.map_cons,List.zip_cons_cons,List.all_cons,List.length_cons,List.length_cons];have d:Zi (V.int n) (V.int m)=(n == m):=rfl;have f:((ns.map V.int).length+1 == (ms.map V.int).length+1)=((ns.map V.int).length == (ms.map V.int).length):=by
    rw[Bool.eq_iff_iff,beq_iff_eq,beq_iff_eq];omega
   dsimp only;rw[d,f];rw[Bool.eq_iff_iff]at this ⊢;simp only[Bool.and_eq_true,beq_iff_eq,decide_eq_true_eq]at this ⊢;constructor
   ·rintro⟨a,b,c⟩;rw[b,this.mp ⟨a,c⟩]
   ·intro e
    injection e with d f
    obtain⟨a,c⟩:=this.mpr f;exact⟨a,d,c⟩
theorem Zz1{K:aB}{H:Hp}{Q:VK}{p q:AH}{ns ms:AD}(h1:cB K H p (ns.map V.int))(h2:cB K H q (ms.map V.int))(h:Q (.bl (decide (ns=ms))) H):Wj K false (.ref p) (.ref q) H Q:=by
 refine⟨p,q,_,_,rfl,rfl,h1,h2,λ_=>⟨tR _,tR _⟩,?_⟩;rw[Zgb];exact h
theorem Zjx{K:aB}{H:Hp}{Q:VK}{p q:AH}{ns ms:AD}(h1:cB K H p (ns.map V.int))(h2:cB K H q (ms.map V.int))(h:Q (.bl (!decide (ns=ms))) H):Wj K true (.ref p) (.ref q) H Q:=by
 refine⟨p,q,_,_,rfl,rfl,h1,h2,λ_=>⟨tR _,tR _⟩,?_⟩;rw[Zgb];exact h
theorem Zz2{K:aB}{H:Hp}{Q:VK}{p q:AH}{xs:List V}(h1:cB K H p xs)(h2:cB K H q [])(h:Q (.bl (decide (xs=[]))) H):Wj K false (.ref p) (.ref q) H Q:=by
 refine⟨p,q,_,_,rfl,rfl,h1,h2,λe=>?_,?_⟩
 ·have:xs=[]:=List.length_eq_zero_iff.mp e;subst this;exact⟨rfl,rfl⟩
 ·have e:eqL xs []=decide (xs=[]):=by cases xs<;>rfl
  show Q (.bl (eqL xs [])) H;rw[e];exact h
def Fm(S:AE)(H H':Hp):Prop:=∀b o,H b=some o->b∉S->H' b=some o
theorem Fm.same{H H':Hp}(a:Fm [] H H'):aW H H':=λc o h=>a c o h (λz=>nomatch z)
def fz(S:AE)(H:Hp):Hp:=λb=>if b∈S then none else H b
theorem Zjw{x:V}{H:Hp}{Q:VK}(h:Q (.bl (!decide (x=.non))) H):Ey x .non H Q:=⟨rfl,h⟩
def LCg(J:It)(a:List Nat)(tc:TT)(e:TE)(σ:St)(H:Hp)(Q:VK):Prop:=∃W:Nat->Nat->List V->Hp->Prop,(∃m,W 0 m [] H)/\∀i m b H,W i m b H->
 (J.stop i H/\∀p,H p=none->Q (.ref p) (upd H p (.lst b)))\/
 (J.go i H/\b.length<sizeLine/\∀x H',J.yld i H x H'->tc (some x::a.map (pick σ)) H' λk d=>if k=true then e (some x::a.map (pick σ)) d (λy f=>∃c,c<m/\W (i+1) c (b++[y]) f)else ∃c,c<m/\W (i+1) c b d)
theorem Ii{c:TI}{a:List Nat}{tc:TT}{b:TE}{σ:St}{H:Hp}{Q:VK}(h:c σ H λJ d=>LCg J a tc b σ d Q):tLC c a tc b σ H Q:=h
theorem Zr7{J:It}{a:List Nat}{tc:TT}{h:TE}{σ:St}{H:Hp}{Q:VK}(k:Nat)(hz:k<=1000000)(g:Nat->Option V)
  (b:J.stop k H) (f:∀i,i<k->J.go i H) (hy:∀i x H',i<k->J.yld i H x H'->H'=H/\(∀q:Bool->Hp->Prop,q (g i).isSome H->tc (some x::a.map (pick σ)) H q)/\∀(y:V) (q:VK),g i=some y->q y H->h (some x::a.map (pick σ)) H q)
  (q:∀p,H p=none->Q (.ref p) (upd H p (.lst ((List.range k).filterMap g)))):
  LCg J a tc h σ H Q:=by
 refine⟨λi m j H'=>H'=H/\i<=k/\m=k - i/\j=(List.range i).filterMap g,⟨k,rfl,Nat.zero_le _,rfl,rfl⟩,?_⟩;rintro i m j _ ⟨rfl,l,rfl,rfl⟩
 by_cases hk:i=k
 ·subst hk;exact .inl ⟨b,q⟩
 ·have c:i<k:=by omega
  refine .inr ⟨f i c,?_,λx H' y=>?_⟩
  ·refine Nat.lt_of_le_of_lt (Nat.le_trans (List.length_filterMap_le _ _) ?_) (show 1000000<sizeLine by decide);rw[List.length_range];omega
  ·obtain⟨rfl,h1,h2⟩:=hy i x H' c y;refine h1 _ ?_;have d:List.filterMap g (List.range (i+1))=List.filterMap g (List.range i)++(match g i with | some y=>[y] | none=>[]):=by
    rw[List.range_succ,List.filterMap_append];cases e:g i with
    | none=>rw[List.filterMap_cons_none e];rfl
    | some y=>rw[List.filterMap_cons_some e];rfl
   cases e:g i with
   | none=>
    rw[e]at d;dsimp only[Option.isSome];refine Zv2 ⟨k - (i+1),by omega,rfl,by omega,rfl,?_⟩;rw[d,List.append_nil]
   | some y=>
    rw[e]at d;dsimp only[Option.isSome];refine Zjs (h2 y _ e ⟨k - (i+1),by omega,rfl,by omega,rfl,?_⟩);rw[d]
theorem Zcj(l:List Nat)(p:Nat->Bool)(f:Nat->V):l.filterMap (λi=>if p i=true then some (f i)else none)=(l.filter p).map f:=by
 induction l with
 | nil=>rfl
 | cons a l b=>
  by_cases h:p a=true
  ·rw[List.filterMap_cons_some (by rw[if_pos h]),List.filter_cons_of_pos h,List.map_cons,b]
  ·rw[List.filterMap_cons_none (by rw[if_neg h]),List.filter_cons_of_neg h,b]
theorem Zr8{a:List Nat}{tc:TT}{g:TE}{σ:St}{H:Hp}{Q:VK}{n:Nat}{z:Int}(j:z.toNat=n)(p:Nat->Bool)(f:Nat->V)(hz:n<=1000000)
  (d:∀i,i<n->∀q:Bool->Hp->Prop,q (p i) H->tc (some (.int i)::a.map (pick σ)) H q)
  (c:∀i,i<n->p i=true->∀q:VK,q (f i) H->g (some (.int i)::a.map (pick σ)) H q)
  (q:∀l,H l=none->Q (.ref l) (upd H l (.lst (((List.range n).filter p).map f)))):
  LCg (Itr 0 z.toNat) a tc g σ H Q:=by
 subst j;refine Zr7 z.toNat hz (λi=>if p i=true then some (f i)else none) (Nat.le_refl _) (λi b=>b) (λi x o b y=>?_) ?_
 ·obtain⟨m,h⟩:=y;have ex:x=.int i:=by rw[h];simp
  refine⟨m,λq hq=>?_,λy q hy hq=>?_⟩
  ·rw[ex];refine d i b q ?_;cases e:p i with
   | true=>rw[e]at hq;exact hq
   | false=>rw[e]at hq;exact hq
  ·rw[ex];cases e:p i with
   | true=>
    rw[e]at hy;have k:f i=y:=by simpa using hy
    exact c i b e q (by rw[k];exact hq)
   | false=>rw[e]at hy;simp at hy
 ·rw[Zcj];exact q
theorem KD{K:aB}{a:AH}{xs:List V}{b:List Nat}{tc:TT}{d:TE}{σ:St}{H:Hp}{Q:VK}(hs:cB K H a xs)(g:Nat->Option V)(hz:xs.length<=1000000)
  (hy:∀i x,xs[i]? =some x->(∀q:Bool->Hp->Prop,q (g i).isSome H->tc (some x::b.map (pick σ)) H q)/\∀(y:V) (q:VK),g i=some y->q y H->d (some x::b.map (pick σ)) H q)
  (q:∀p,H p=none->Q (.ref p) (upd H p (.lst ((List.range xs.length).filterMap g)))):
  LCg (Itl K a) b tc d σ H Q:=by
 refine Zr7 xs.length hz g ⟨xs,hs,Nat.le_refl _⟩ (λi c=>⟨xs,xs[i],hs,bM c⟩) (λi x h c y=>?_) q;obtain⟨f,e⟩:=y;exact⟨f,hy i x (e xs hs)⟩
theorem uo{n i:Nat}(h:i<n):ixN n (i:Int)=some i:=by
 unfold ixN;rw[if_pos (by omega),if_pos (by omega)];simp
theorem Zv1{n:Nat}{i:Int}(a:0<=i)(h:i.toNat<n):ixN n i=some i.toNat:=by
 have e:i=((i.toNat:Nat):Int):=by omega
 have:=uo h;rw[<- e]at this;exact this
theorem rN{a:Type}{xs:List a}{i:Int}{v:a}(b:0<=i)(h:xs[i.toNat]? =some v):XM xs i=some v:=by
 have e:i=((i.toNat:Nat):Int):=by omega
 have:=iu h;rw[<- e]at this;exact this
inductive Al{α β:Type}(P:α->β->Prop):List α->List β->Prop
 | nil:Al P [] []
 | cons {x:α}{y:β}{xs:List α}{ys:List β}:P x y->Al P xs ys->Al P (x::xs) (y::ys)
section
variable {α β:Type}{P P':α->β->Prop}{xs:List α}{ys:List β}
theorem Al.length(h:Al P xs ys):xs.length=ys.length:=by
 induction h with
 | nil=>rfl
 | cons _ _ a=>rw[List.length_cons,List.length_cons,a]
theorem Al.mono(h:Al P xs ys)(f:∀x y,P x y->P' x y):Al P' xs ys:=by
 induction h with
 | nil=>exact .nil
 | cons p _ a=>exact .cons (f _ _ p) a
theorem Al.get(h:Al P xs ys):∀{i:Nat}{y:β},ys[i]? =some y->∃x,xs[i]? =some x/\P x y:=by
 induction h with
 | nil=>intro i y e;simp at e
 | cons p _ b=>
  intro i y e;cases i with
  | zero=>simp at e;subst e;exact⟨_,rfl,p⟩
  | succ i=>
   obtain⟨x,a,c⟩:=b (i:=i) (y:=y) (by simpa using e);exact⟨x,by simpa using a,c⟩
end
theorem uZ{c g:Type}(f:c->Option g):∀l:List c,(List.range l.length).filterMap (λi=>l[i]?.bind f)=l.filterMap f:=by
 intro l
 induction l with
 | nil=>rfl
 | cons a l d=>
  rw[List.length_cons,List.range_succ_eq_map];have e:List.filterMap (λi=>(a::l)[i]?.bind f) (List.map Nat.succ (List.range l.length))=l.filterMap f:=by
   rw[List.filterMap_map,<- d];congr 1
  cases h:f a with
  | none=>rw[List.filterMap_cons_none (by simpa using h),List.filterMap_cons_none h,e]
  | some b=>rw[List.filterMap_cons_some (b:=b) (by simpa using h),List.filterMap_cons_some h,e]
abbrev Tg:=AH->Nat×Nat
def WT(H:Hp)(T:Tg):Prop:=∀b,H b=none->T b=(0,0)
structure jf(s:Nat)(H H':Hp)(T T':Tg):Prop where
 kp:∀b o,H b=some o->(T b).1≠s->H' b=some o
 al:∀b o,H b=some o->∃o',H' b=some o'
 tg:∀b o,H b=some o->T' b=T b
 wt:WT H' T'
def ji(T:Tg)(a:AH)(v:Nat×Nat):Tg:=λx=>if x=a then v else T x
theorem iw{T:Tg}{a:AH}{v:Nat×Nat}:ji T a v a=v:=by unfold ji;rw[if_pos rfl]
theorem jg{T:Tg}{a b:AH}{v:Nat×Nat}(h:b≠a):ji T a v b=T b:=by unfold ji;rw[if_neg h]
theorem WT.same{H H':Hp}{T:Tg}(w:WT H T)(s:aW H H'):WT H' T:=λb h=>w b (s.free h)
theorem jf.refl{s:Nat}{H:Hp}{T:Tg}(w:WT H T):jf s H H T T:=⟨λ_ _ h _=>h,λ_ o h=>⟨o,h⟩,λ_ _ _=>rfl,w⟩
theorem jf.same{s:Nat}{H H':Hp}{T:Tg}(w:WT H T)(e:aW H H'):jf s H H' T T:=⟨λb o h _=>e b o h,λb o h=>⟨o,e b o h⟩,λ_ _ _=>rfl,w.same e⟩
theorem jf.trans{s:Nat}{H c e:Hp}{T f d:Tg}(a:jf s H c T f)(b:jf s c e f d):jf s H e T d where
 kp:=λx o h n=>b.kp x o (a.kp x o h n) (by rw[a.tg x o h];exact n)
 al:=λx o h=>by
  obtain⟨o1,h1⟩:=a.al x o h;exact b.al x o1 h1
 tg:=λx o h=>by
  obtain⟨o1,h1⟩:=a.al x o h;rw[b.tg x o1 h1,a.tg x o h]
 wt:=b.wt
theorem jf.upd{s:Nat}{H:Hp}{T:Tg}{a:AH}{o c:HO}(w:WT H T)(f:H a=some o)(d:(T a).1=s):jf s H (L2.upd H a c) T T where
 kp:=λx u h n=>by
  have:x≠a:=λe=>n (by rw[e];exact d);rw[aC this];exact h
 al:=λx u h=>by
  by_cases e:x=a
  ·exact⟨c,by rw[e,aq]⟩
  ·exact⟨u,by rw[aC e];exact h⟩
 tg:=λ_ _ _=>rfl
 wt:=λb h=>w b (by
  by_cases e:b=a
  ·rw[e,aq]at h;cases h
  ·rw[aC e]at h;exact h)
theorem Uk{T:Tg}{a b:AH}{x y:Nat×Nat}(c:T a=x)(hb:T b=y)(h:x≠y):a≠b:=λe=>h (by rw[<- c,<- hb,e])
theorem Zr9{J:It}{c:List Nat}{tc:TT}{o:TE}{σ:St}{H:Hp}{Q:VK}(k:Nat)(hz:k<=1000000)(R:Nat->V->Hp->Prop)(mono:∀i y a f,R i y a->aW a f->R i y f)
  (d:∀H',aW H H'->J.stop k H') (n:∀i H',i<k->aW H H'->J.go i H')
  (hy:∀i x a H',i<k->aW H a->J.yld i a x H'->H'=a/\(∀q:Bool->Hp->Prop,q true a->tc (some x::c.map (pick σ)) a q)/\∀q:VK,(∀y f,aW a f->R i y f->q y f)->o (some x::c.map (pick σ)) a q)
  (q:∀b H',aW H H'->b.length=k->(∀(i:Nat) y,b[i]? =some y->R i y H')->∀p,H' p=none->Q (.ref p) (upd H' p (.lst b))):
  LCg J c tc o σ H Q:=by
 refine⟨λi m b H'=>aW H H'/\i<=k/\m=k - i/\b.length=i/\∀(j:Nat) y,b[j]? =some y->R j y H',⟨k,aW.refl _,Nat.zero_le _,rfl,rfl,λj y e=>by simp at e⟩,?_⟩;rintro i m b a ⟨h,v,rfl,hl,hr⟩
 by_cases hk:i=k
 ·subst hk;exact .inl ⟨d a h,q b a h hl hr⟩
 ·have g:i<k:=by omega
  refine .inr ⟨n i a g h,Nat.lt_of_le_of_lt (show b.length<=1000000 by omega) (show 1000000<sizeLine by decide),λx H' y=>?_⟩;obtain⟨rfl,h1,h2⟩:=hy i x a H' g h y;refine h1 _ (Zjs (h2 _ λy f s r=>⟨k - (i+1),by omega,h.trans s,by omega,rfl,by rw[List.length_append,hl];rfl,λj z e=>?_⟩))
  by_cases u:j<b.length
  ·rw[List.getElem?_append_left u]at e;exact mono j z _ _ (hr j z e) s
  ·have l:=(dY e).1;rw[List.length_append,List.length_singleton]at l;have t:j=b.length:=by omega
   subst t;rw[List.getElem?_append_right (Nat.le_refl _),Nat.sub_self]at e;cases e;rw[hl];exact r
theorem Zus{b:List Nat}{tc:TT}{h:TE}{σ:St}{H:Hp}{Q:VK}{n:Nat}{z:Int}(k:z.toNat=n)(hz:n<=1000000)(R:Nat->V->Hp->Prop)(mono:∀i y a c,R i y a->aW a c->R i y c)
  (g:∀i a,∀q:Bool->Hp->Prop,q true a->tc (some (.int i)::b.map (pick σ)) a q)
  (e:∀(i:Nat) a,i<n->aW H a->∀q:VK,(∀y c,aW a c->R i y c->q y c)->h (some (.int i)::b.map (pick σ)) a q)
  (q:∀f H',aW H H'->f.length=n->(∀(i:Nat) y,f[i]? =some y->R i y H')->∀p,H' p=none->Q (.ref p) (upd H' p (.lst f))):LCg (Itr 0 z.toNat) b tc h σ H Q:=by
 subst k;refine Zr9 z.toNat hz R mono (λ_ _=>Nat.le_refl _) (λi _ d _=>d) (λi x a H' d m y=>?_) q;obtain⟨l,j⟩:=y;have ex:x=.int i:=by rw[j];simp
 subst ex;exact⟨l,g i a,λq hq=>e i a d m q hq⟩
theorem Zut{J:It}{d:List Nat}{tc:TT}{w:TE}{σ:St}{H:Hp}{Q:VK}(k:Nat)(hz:k<=1000000)(R:Nat->AH->Hp->Prop)(mono:∀i y c g,R i y c->aW c g->R i y g)(al:∀i y c,R i y c->∃o,c y=some o)
  (f:∀H',aW H H'->J.stop k H') (s:∀i H',i<k->aW H H'->J.go i H')
  (hy:∀i x c H',i<k->aW H c->J.yld i c x H'->H'=c/\(∀q:Bool->Hp->Prop,q true c->tc (some x::d.map (pick σ)) c q)/\∀q:VK,(∀r g,aW c g->c r=none->R i r g->q (.ref r) g)->w (some x::d.map (pick σ)) c q)
  (q:∀(rs:AE) H',aW H H'->rs.length=k->rs.Nodup->(∀r∈rs,H r=none)->(∀(i:Nat) r,rs[i]? =some r->R i r H')->∀p,H' p=none->Q (.ref p) (upd H' p (.lst (rs.map V.ref)))):
  LCg J d tc w σ H Q:=by
 refine⟨λi m E H'=>∃rs:AE,E=rs.map V.ref/\aW H H'/\i<=k/\m=k - i/\rs.length=i/\rs.Nodup/\(∀r∈rs,H r=none)/\∀(j:Nat) r,rs[j]? =some r->R j r H',⟨k,[],rfl,aW.refl _,Nat.zero_le _,rfl,rfl,List.nodup_nil,λr hr=>(nomatch hr),λj y e=>by simp at e⟩,?_⟩;rintro i m _ c ⟨rs,rfl,h,I,rfl,hl,nd,C,hr⟩
 by_cases hk:i=k
 ·subst hk;exact .inl ⟨f c h,q rs c h hl nd C hr⟩
 ·have l:i<k:=by omega
  refine .inr ⟨s i c l h,Nat.lt_of_le_of_lt (show(rs.map V.ref).length<=1000000 by rw[aY];omega) (show 1000000<sizeLine by decide),λx H' y=>?_⟩;obtain⟨rfl,h1,h2⟩:=hy i x c H' l h y;refine h1 _ (Zjs (h2 _ λr g A B F=>⟨k - (i+1),by omega,rs++[r],by rw[List.map_append];rfl,h.trans A,by omega,rfl,by rw[List.length_append,hl];rfl,?_,λz hz=>?_,λj z e=>?_⟩))
  ·rw[List.nodup_append];refine⟨nd,by simp,λa D b hb e=>?_⟩;rw[List.mem_singleton.mp hb]at e;subst e;obtain⟨j,u,t⟩:=List.getElem_of_mem D;obtain⟨o,v⟩:=al j a _ (hr j a (by rw[bM u,t]));rw[B]at v;cases v
  ·rcases List.mem_append.mp hz with hz | hz
   ·exact C z hz
   ·rw[List.mem_singleton.mp hz];exact h.free B
  ·by_cases u:j<rs.length
   ·rw[List.getElem?_append_left u]at e;exact mono j z _ _ (hr j z e) A
   ·have n:=(dY e).1;rw[List.length_append,List.length_singleton]at n;have t:j=rs.length:=by omega
    subst t;rw[List.getElem?_append_right (Nat.le_refl _),Nat.sub_self]at e;cases e;rw[hl];exact F
theorem Uv{K:aB}{a:AH}{xs:List V}{c:List Nat}{tc:TT}{h:TE}{σ:St}{H:Hp}{Q:VK}(hs:cB K H a xs)(hz:xs.length<=1000000)(R:Nat->AH->Hp->Prop)(mono:∀i y b d,R i y b->aW b d->R i y d)(al:∀i y b,R i y b->∃o,b y=some o)
  (f:∀x b,∀q:Bool->Hp->Prop,q true b->tc (some x::c.map (pick σ)) b q)
  (e:∀(i:Nat) x b,xs[i]? =some x->aW H b->∀q:VK,(∀r d,aW b d->b r=none->R i r d->q (.ref r) d)->h (some x::c.map (pick σ)) b q)
  (q:∀(rs:AE) H',aW H H'->rs.length=xs.length->rs.Nodup->(∀r∈rs,H r=none)->(∀(i:Nat) r,rs[i]? =some r->R i r H')->∀p,H' p=none->Q (.ref p) (upd H' p (.lst (rs.map V.ref)))):LCg (Itl K a) c tc h σ H Q:=by
 refine Zut xs.length hz R mono al (λH' s=>⟨xs,s.seq hs,Nat.le_refl _⟩) (λi H' g s=>⟨xs,xs[i],s.seq hs,bM g⟩) (λi x b H' g j y=>?_) q;obtain⟨l,k⟩:=y;exact⟨l,f x b,λq hq=>e i x b (k xs (j.seq hs)) j q hq⟩
end G
namespace G
open PySem L2 PySem.Spec PyProof.Rows
theorem boot_isinstance:bootBuiltins "isinstance"=some (.builtin "isinstance"):=by decide +kernel
theorem boot_len:bootBuiltins "len"=some (.builtin "len"):=by decide +kernel
theorem boot_int:bootBuiltins "int"=some (.type "int"):=by decide +kernel
theorem boot_str:bootBuiltins "str"=some (.type "str"):=by decide +kernel
theorem boot_bool:bootBuiltins "bool"=some (.type "bool"):=by decide +kernel
theorem boot_list:bootBuiltins "list"=some (.type "list"):=by decide +kernel
theorem boot_tuple:bootBuiltins "tuple"=some (.type "tuple"):=by decide +kernel
structure ZAa(K:aB)(x qual:Str)(st:Stmt)(f:AH)(fd:AK):Prop where
 ex:∃(oc:AI) (od:Option AH) (dV kV doc pm:AI) (an:Option AH) (cdv ct:AI) (osl:Array AB),
  fd=W.fnOf x qual (oK st) (lQ st) (aG st) dV kV doc pm an cdv ct/\K.lookup f=some ⟨oc,od,.func fd,osl⟩/\W.codeIn K cdv qual=true
 kp:W.keepIn K (.ref f)=true
section
variable {P:AL}{w:AN}{K:aB}{mg:As}{base:Heap}
theorem Zvr{x a:Str}{st:Stmt}{f:AH}{oc dV:AI}{od h:Option AH}{e:Array AB}{kV d g b ct:AI}(l:K.lookup f=some ⟨oc,od,.func (W.fnOf x a (oK st) (lQ st) (aG st) dV kV d g h b ct),e⟩)
  (c:W.codeIn K b a=true) (k:W.keepIn K (.ref f)=true):ZAa K x a st f (W.fnOf x a (oK st) (lQ st) (aG st) dV kV d g h b ct):=⟨⟨oc,od,dV,kV,d,g,h,b,ct,e,rfl,l,c⟩,k⟩
theorem Zkx{f d:AH}{oc tc:AI}{od b:Option AH}{c ts:Array AB}{fd:AK}{a:Array AI}{tn:Nat}{ps:AG}{ds:AC}(_:K.lookup f=some ⟨oc,od,.func fd,c⟩)(t:K.lookup d=some ⟨tc,b,.seq a tn,ts⟩)
  (h:∀us:AC,us.length+ds.length=ps.length->∃k,bindArgs fd ⟨us,[]⟩=seqItems? (.ref d) >>= k/\k (some a)=pure (ps.zip (us++ds))) (hd:fd.defaults=.ref d:=by rfl):Binds K fd ps ds:=by
 intro s us e hl;obtain⟨k,h1,h2⟩:=h us (by rw[List.length_append]at hl;exact hl);exact BindsTo.of_defaults hd (e _ _ t) rfl (by rw[h1,hd]) h2
end
section
variable {X:Cx}
theorem GK:zK X (compareOp .Is) Wi:=Zxr
theorem zQ:zK X (compareOp .IsNot) Ey:=Zu9
theorem cL:QF X (.builtin "len") (lK X.K):=Zd2
def kk(t n:String):Option Bool:=if (Value.type t == Value.type n)=true then some true else if W.kitMeta n=true then(fastBuiltinMro t).map (·.contains (.type n))else none
theorem Zyd(K:aB)(t n:String):W.kitOne K (.type t) (.type n)=kk t n:=rfl
theorem Zjq:kk "int" "int"=some true:=by decide +kernel
theorem Zfq:kk "int" "bool"=some false:=by decide +kernel
theorem Zjp:kk "int" "str"=some false:=by decide +kernel
theorem Zfo:kk "int" "list"=some false:=by decide +kernel
theorem Zbu:kk "int" "tuple"=some false:=by decide +kernel
theorem Zfp:kk "int" "dict"=some false:=by decide +kernel
theorem Zfu:kk "bool" "int"=some true:=by decide +kernel
theorem Zc0:kk "bool" "bool"=some true:=by decide +kernel
theorem Zft:kk "bool" "str"=some false:=by decide +kernel
theorem Zby:kk "bool" "list"=some false:=by decide +kernel
theorem W3:kk "bool" "tuple"=some false:=by decide +kernel
theorem Zbz:kk "bool" "dict"=some false:=by decide +kernel
theorem Zjo:kk "str" "int"=some false:=by decide +kernel
theorem Zfl:kk "str" "bool"=some false:=by decide +kernel
theorem Zjn:kk "str" "str"=some true:=by decide +kernel
theorem Zfj:kk "str" "list"=some false:=by decide +kernel
theorem Zbq:kk "str" "tuple"=some false:=by decide +kernel
theorem Zfk:kk "str" "dict"=some false:=by decide +kernel
theorem Q8:kk "NoneType" "int"=some false:=by decide +kernel
theorem Od:kk "NoneType" "bool"=some false:=by decide +kernel
theorem Q7:kk "NoneType" "str"=some false:=by decide +kernel
theorem Ob:kk "NoneType" "list"=some false:=by decide +kernel
theorem KH:kk "NoneType" "tuple"=some false:=by decide +kernel
theorem Oc:kk "NoneType" "dict"=some false:=by decide +kernel
theorem Zfn:kk "list" "int"=some false:=by decide +kernel
theorem Zbt:kk "list" "bool"=some false:=by decide +kernel
theorem Zfm:kk "list" "str"=some false:=by decide +kernel
theorem Zbr:kk "list" "list"=some true:=by decide +kernel
theorem W0:kk "list" "tuple"=some false:=by decide +kernel
theorem Zbs:kk "list" "dict"=some false:=by decide +kernel
theorem Zbp:kk "tuple" "int"=some false:=by decide +kernel
theorem WY:kk "tuple" "bool"=some false:=by decide +kernel
theorem Zbo:kk "tuple" "str"=some false:=by decide +kernel
theorem WW:kk "tuple" "list"=some false:=by decide +kernel
theorem Uw:kk "tuple" "tuple"=some true:=by decide +kernel
theorem WX:kk "tuple" "dict"=some false:=by decide +kernel
theorem Zfs:kk "dict" "int"=some false:=by decide +kernel
theorem Zbx:kk "dict" "bool"=some false:=by decide +kernel
theorem Zfr:kk "dict" "str"=some false:=by decide +kernel
theorem Zbv:kk "dict" "list"=some false:=by decide +kernel
theorem W2:kk "dict" "tuple"=some false:=by decide +kernel
theorem Zbw:kk "dict" "dict"=some true:=by decide +kernel
theorem Zwx{H:Hp}{x:V}{t:String}(e:tyN H x=some t):t="int"\/t="bool"\/t="str"\/t="NoneType"\/t="list"\/t="tuple"\/t="dict":=by
 unfold tyN at e;split at e<;>(first | (cases e;simp) | (split at e<;>(first | (cases e;simp) | cases e)) | cases e)
theorem Zyk{t n:String}{k:Bool}(e:wR t n=some k):n="int"\/n="bool"\/n="str"\/n="list"\/n="tuple"\/n="dict":=by
 unfold wR at e
 by_cases h:(["int","bool","str","list","tuple","dict"].contains n)=true
 ·simpa using h
 ·rw[if_neg h]at e;cases e
theorem ZAz{H:Hp}{x:V}{t n:String}{k:Bool}(a:tyN H x=some t)(e:wR t n=some k):kk t n=some k:=by
 rcases Zwx a with rfl | rfl | rfl | rfl | rfl | rfl | rfl<;>rcases Zyk e with rfl | rfl | rfl | rfl | rfl | rfl
 ·rw[Qv]at e;rw[Zjq];exact e
 ·rw[KQ]at e;rw[Zfq];exact e
 ·rw[Zfw]at e;rw[Zjp];exact e
 ·rw[Zc7]at e;rw[Zfo];exact e
 ·rw[Xb]at e;rw[Zbu];exact e
 ·rw[Zc8]at e;rw[Zfp];exact e
 ·rw[Zcc]at e;rw[Zfu];exact e
 ·rw[Xh]at e;rw[Zc0];exact e
 ·rw[Zcb]at e;rw[Zft];exact e
 ·rw[Xf]at e;rw[Zby];exact e
 ·rw[U0]at e;rw[W3];exact e
 ·rw[Xg]at e;rw[Zbz];exact e
 ·rw[Zfv]at e;rw[Zjo];exact e
 ·rw[Zc4]at e;rw[Zfl];exact e
 ·rw[Qu]at e;rw[Zjn];exact e
 ·rw[Zc2]at e;rw[Zfj];exact e
 ·rw[W8]at e;rw[Zbq];exact e
 ·rw[Zc3]at e;rw[Zfk];exact e
 ·rw[Oo]at e;rw[Q8];exact e
 ·rw[KZ]at e;rw[Od];exact e
 ·rw[Om]at e;rw[Q7];exact e
 ·rw[KR]at e;rw[Ob];exact e
 ·rw[Jr]at e;rw[KH];exact e
 ·rw[KY]at e;rw[Oc];exact e
 ·rw[Zc6]at e;rw[Zfn];exact e
 ·rw[Xa]at e;rw[Zbt];exact e
 ·rw[Zc5]at e;rw[Zfm];exact e
 ·rw[Ih]at e;rw[Zbr];exact e
 ·rw[UT]at e;rw[W0];exact e
 ·rw[W9]at e;rw[Zbs];exact e
 ·rw[W7]at e;rw[Zbp];exact e
 ·rw[UL]at e;rw[WY];exact e
 ·rw[W6]at e;rw[Zbo];exact e
 ·rw[UG]at e;rw[WW];exact e
 ·rw[De]at e;rw[Uw];exact e
 ·rw[UJ]at e;rw[WX];exact e
 ·rw[Zca]at e;rw[Zfs];exact e
 ·rw[Xe]at e;rw[Zbx];exact e
 ·rw[Zc9]at e;rw[Zfr];exact e
 ·rw[Xc]at e;rw[Zbv];exact e
 ·rw[UW]at e;rw[W2];exact e
 ·rw[Xd]at e;rw[Zbw];exact e
theorem tyOf{K:aB}{H:Hp}{x:V}{t:String}(e:tyN H x=some t):O7 K H x (.type t):=by
 cases x with
 | non=>cases e;exact .non
 | bl y=>cases e;exact .bl y
 | int y=>cases e;exact .int y
 | str y=>cases e;exact .str y
 | byt y=>cases e
 | flt y=>cases e
 | ty y=>cases e
 | ref a=>
  have b:(match H a with | some (.lst _)=>some "list" | some (.Ac _ (.lst _))=>some "list" | some (.tup _)=>some "tuple" | some (.dK _)=>some "dict" | some (.dT _)=>some "dict" | _=>none)=some t:=e;split at b
  ·rename_i h;cases b;exact .lst h
  ·rename_i h;cases b;exact .Ac h
  ·rename_i h;cases b;exact .tup h
  ·rename_i h;cases b;exact .dK h
  ·rename_i h;cases b;exact .dT h
  ·cases b
theorem uD:QF X (.builtin "isinstance") Li:=by
 intro c s j H i us Q I r h;obtain⟨x,n,t,k,rfl,d,hk,q⟩:=h;obtain⟨u,g,rfl,f,e⟩:=vals2 r;have a:g=Value.type n:=e;subst a;exact Zni (t:=.type t) (b:=k) I f (tyOf d) ((Zyd _ _ _).trans (ZAz d hk)) λtk=>⟨.bl k,H,I.tok _,rfl,q⟩
end
section
variable {X:Cx}
def GC(mg:As)(x:Str)(v:V):Prop:=∃u,mg x=some u/\RelV v u
theorem GC.pe{x:Str}{v:V}{a:Pos}(h:GC X.mg x v)(b:Gl X x)(hd:(x == ("__debug__":Str))=false:=by decide):PE X (.Name x a) (tC v):=by
 obtain⟨u,hm,r⟩:=h;exact Zu6 b hm r hd
end
section
variable {X:Cx}
theorem Zuo(z:Str)(k:Int):Txt.mul z k=Zmp z k:=by
 unfold Txt.mul Zmp;have fl:∀(n:Nat) (a:List Nat),List.foldl (λb d=>b++d) a.toArray (List.replicate n z.cps)=(a++(List.replicate n z.cps.toList).flatten).toArray:=by
  intro n
  induction n with
  | zero=>intro a;simp
  | succ n c=>
   intro a;rw[List.replicate_succ,List.replicate_succ,List.foldl_cons,List.flatten_cons];have e:a.toArray++z.cps=(a++z.cps.toList).toArray:=by simp
   rw[e,c,List.append_assoc]
 split
 ·rename_i h
  have e:k.toNat=0:=by omega
  rw[e];rfl
 ·rename_i h
  split
  ·rename_i h2
   rw[Bool.or_eq_true]at h2;rcases h2 with h2 | h2
   ·have e:k.toNat=1:=by have:=beq_iff_eq.mp h2;omega
    rw[e];simp
   ·have e:z.cps=#[]:=Array.eq_empty_of_size_eq_zero (beq_iff_eq.mp h2);obtain⟨f⟩:=z;dsimp only at e;subst e;have:∀n:Nat,(List.replicate n ([]:List Nat)).flatten=[]:=λn=>by
     induction n with
     | zero=>rfl
     | succ n c=>rw[List.replicate_succ,List.flatten_cons,c];rfl
    simp[this]
  ·have:=fl k.toNat [];simp only[List.nil_append]at this;show(⟨List.foldl (λb d=>b++d) #[] (List.replicate k.toNat z.cps)⟩:Str)=_;rw[this]
theorem Td(z:Str)(k:Int):(Zmp z k).length=k.toNat * z.length:=by
 show(List.toArray _).size=_;rw[List.size_toArray];have:∀n:Nat,(List.replicate n z.cps.toList).flatten.length=n * z.length:=λn=>by
  induction n with
  | zero=>simp
  | succ n a=>rw[List.replicate_succ,List.flatten_cons,List.length_append,a,str_len,Nat.succ_mul,Nat.add_comm]
 exact this _
theorem Zlg:zK X (binaryOp .Mult) Zlb:=by
 intro a s i H x y v u Q I b d h;obtain⟨z,k,rfl,rfl,g,h1,h2,q⟩:=h;obtain⟨t,rfl⟩:=b;obtain⟨f,rfl⟩:=d;have hb:k.toNat * z.length<=1000000:=Nat.le_trans (Nat.mul_le_mul (show k.toNat<=1000 by omega) h2) (by decide);refine SB.mul ⟨?_,λh3 _=>?_,λh3 _=>?_⟩ λc kk=>?_
 ·simp;omega
 ·intro z1;have:(z.length:Int)<=1000:=by omega
  have e:(1000:Int)<(2 ^ 63 - 1) / k:=by
   have hk:0<k:=by omega
   rw[Int.lt_iff_add_one_le,Int.le_ediv_iff_mul_le hk];omega
  omega
 ·unfold Builtin.Str.tooLong;have:z.length * k.toNat<=1000000:=by rw[Nat.mul_comm];exact hb
  simp;exact Nat.le_trans this (by decide)
 ·rw[Zuo];exact⟨.str (Zmp z k),H,I.tok _,⟨_,rfl⟩,q _ (by rw[Td];exact hb) rfl⟩
end
end G
namespace G
open PySem L2
end G
namespace G
open PySem L2 PySem.Spec PyProof.Rows
section
variable {X:Cx}{pins:At}{σ:L2.St}{H:Hp}{s:AJ}{acc:AH}{ys:List V}{its:AC}{n:Nat}
theorem adopt(I:Inv X pins σ H s)(h:rY X pins H acc)(f:s.heap.get? acc=some { cls:=.type "list",data:=.seq its.toArray n })(hv:Vals ys its)(hz:ys.length<=sizeLine):Inv X pins σ (upd H acc (.lst ys)) s:=by
 obtain⟨j,d,p,k,g,a⟩:=h;have ne:∀b u,H b=some u->b≠acc:=λb u e=>aD e j;refine I.step (h':=s.heap) (g':=s.gens) (t':=s.toks) (d':=s.drawn) (ch:=[acc]) (λb hb=>?_) (λ_ _ _ _ _ e _=>e) (λb o _ _ _ e _=>⟨o.slots,e⟩) (λb o hb e l=>?_) (λb o _ e=>⟨o,e⟩)
  (λb i e=>by rw[aC (ne b _ e)];exact e) (λb o u e=>by rw[aC (ne b _ e)];exact e) (λb r e=>⟨#[],by rw[aC (ne b _ e),e];simp⟩) (λm hm=>hm) (λb u e=>?_) I.bare
 ·have e:b=acc:=by simpa using hb
  subst e;exact⟨k,d,g,a⟩
 ·have e:b≠acc:=by simpa using hb
  rw[aC e];exact l
 ·by_cases hb:b=acc
  ·subst hb;rw[aq]at e;cases e;exact⟨hz,its,n,hv,f⟩
  ·rw[aC hb]at e;exact(I.hok b u e).stay (λ_ _ _ q=>q) (λc q=>by rw[aC (ne c _ q)];exact q) λc i q=>by rw[aC (ne c _ q)];exact q
theorem disown(I:Inv X pins σ (upd H acc (.lst ys)) s)(i:rY X pins H acc):Inv X pins σ H s:=by
 obtain⟨k,g,p,l,h,f⟩:=i;have back:∀b u,upd H acc (.lst ys) b=some u->u≠.lst ys->H b=some u:=λb u e a=>by
  by_cases hb:b=acc
  ·subst hb;rw[aq]at e;cases e;exact absurd rfl a
  ·rw[aC hb]at e;exact e
 refine I.step (h':=s.heap) (g':=s.gens) (t':=s.toks) (d':=s.drawn) (ch:=[acc]) (λb hb=>?_) (λ_ _ _ _ _ e _=>e) (λb o _ _ _ e _=>⟨o.slots,e⟩) (λb o hb e d=>?_) (λb o _ e=>⟨o,e⟩)
  (λb j e=>back b _ e (λz=>nomatch z)) (λb o u e=>back b _ e (λz=>nomatch z)) (λb r e=>⟨#[],by rw[back b _ e (λz=>nomatch z)];simp⟩) (λm hm=>hm) (λb u e=>?_) I.bare
 ·have e:b=acc:=by simpa using hb
  subst e;exact⟨l,g,h,f⟩
 ·have e:b≠acc:=by simpa using hb
  rw[aC e]at d;exact d
 ·have hb:b≠acc:=aD e k;have n:upd H acc (.lst ys) b=some u:=by rw[aC hb];exact e
  exact(I.hok b u n).stay (λ_ _ _ q=>q) (λc q=>back c _ q (λz=>nomatch z)) λc j q=>back c _ q (λz=>nomatch z)
end
def PF(X:Cx)(b:AF)(t:TT):Prop:=
 ∀(a:At) (s:AJ) (σ:L2.St) (H:Hp) (Q:Bool->Hp->Prop),Inv X a σ H s->t σ H Q->
  wpAny (model X.prog X.w) X.A (forIn b true λc r=>if r=true then do let ok <- isTrue c X.env (eval c X.env);pure (ForInStep.yield ok)else pure (ForInStep.yield r)) (TP X a σ Q) X.xe s
theorem EY{X:Cx}:PF X [] w6:=λ_ _ _ H _ I h=>wpAny_tests_nil ⟨H,I,h⟩
theorem Tp{X:Cx}{c:AM}{t:TT}(h:PT X c t):PF X [c] t:=λa s σ H Q I q=>wpAny_tests_one (h a s σ H Q I q)
def Vg(X:Cx)(a:Scope)(cl:List (Str×AH))(N:AG)(C:AH)(s:AJ)(H:Hp)(ex:AE)(pn:At):Cx:=
 { X with N:=N,s₀:=s,H₀:=H,env:=compEnvC a cl C X.env,outer:=X.stack,ex:=ex,fn:=λ_=>false,pn:=pn,xe:=λ_ _=>False }
def AllIn(cells:List (Str×AH)):List (Str×AH)->Prop
 | []=>True
 | p::r=>cells.lookup p.1=some p.2/\AllIn cells r
theorem AllIn.get{cells:List (Str×AH)}:∀{cl:List (Str×AH)},AllIn cells cl->∀{x:Str}{c:AH},cl.lookup x=some c->cells.lookup x=some c
 | [],_,x,c,h=>by cases h
 | (y,d)::r,a,x,c,h=>by
  cases e:(x == y)with
  | true=>
   rw[List.lookup_cons,e]at h;have b:x=y:=beq_iff_eq.mp e;subst b;cases h;exact a.1
  | false=>
   rw[List.lookup_cons,e]at h;exact AllIn.get a.2 h
def Gy(X:Cx):AG->List Nat->Prop
 | [],[]=>True
 | y::r,j::js=>X.N[j]? =some y/\X.env.kindOf y=some .cell/\Gy X r js
 | _,_=>False
theorem Gy.len{X:Cx}:∀{ns:AG}{js:List Nat},Gy X ns js->ns.length=js.length
 | [],[],_=>rfl
 | [],_::_,h=>h.elim
 | _::_,[],h=>h.elim
 | _::r,_::js,h=>by rw[List.length_cons,List.length_cons,Gy.len h.2.2]
theorem Gy.get{X:Cx}{σ:L2.St}:∀{ns:AG}{js:List Nat},Gy X ns js->∀{i:Nat}{x:Str}{v:V},ns[i]? =some x->(js.map (pick σ))[i]? =some (some v)->∃j:Nat,X.N[j]? =some x/\X.env.kindOf x=some .cell/\σ[j]? =some (some v)
 | [],_,_,i,x,v,h,_=>by simp at h
 | _::_,[],h,_,_,_,_,_=>h.elim
 | y::r,j::js,h,0,x,v,h1,h2=>by
  simp at h1 h2;subst h1;refine⟨j,h.1,h.2.1,?_⟩;unfold pick at h2;split at h2
  ·rename_i e;rw[e,h2]
  ·cases h2
 | y::r,j::js,h,i+1,x,v,h1,h2=>Gy.get (i:=i) h.2.2 (by simpa using h1) (by simpa using h2)
theorem Zr3{x n:Str}{k:NameKind}{r:List (Str×NameKind)}(h:(x == n)=false):List.lookup x ((n,k)::r)=List.lookup x r:=by rw[List.lookup_cons,h]
theorem Zr4{x n:Str}{k:NameKind}{r:List (Str×NameKind)}(h:(x == n)=true):List.lookup x ((n,k)::r)=some k:=by rw[List.lookup_cons,h]
def En(env:Env)(x:Str)(k:NameKind):NameKind:=if (k == NameKind.free && env.scope.kind == .function && env.kindOf x == some .cell)=true then .cell else k
theorem oX{env:Env}{x:Str}:∀{names:List (Str×NameKind)},
  (names.map λ(n,k)=>if (k == NameKind.free && env.scope.kind == .function && env.kindOf n == some .cell)then(n,NameKind.cell)else(n,k)).lookup x=(names.lookup x).map (En env x)
 | []=>rfl
 | (n,a)::r=>by
  have b:=@oX env x r;show List.lookup x ((if (a == NameKind.free && env.scope.kind == .function && env.kindOf n == some .cell)=true then(n,NameKind.cell)else(n,a))::r.map λ(n,k)=>if (k == NameKind.free && env.scope.kind == .function && env.kindOf n == some .cell)then(n,NameKind.cell)else(n,k))=_;cases hx:x == n with
  | true=>
   have e:=beq_iff_eq.mp hx;subst e;rw[Zr4 (k:=a) hx]
   by_cases hc:(a == NameKind.free && env.scope.kind == .function && env.kindOf x == some .cell)=true
   ·rw[if_pos hc,Zr4 hx];show some NameKind.cell=some (En env x a);unfold En;rw[if_pos hc]
   ·rw[if_neg hc,Zr4 hx];show some a=some (En env x a);unfold En;rw[if_neg hc]
  | false=>
   rw[Zr3 (k:=a) (r:=r) hx]
   by_cases hc:(a == NameKind.free && env.scope.kind == .function && env.kindOf n == some .cell)=true
   ·rw[if_pos hc,Zr3 hx];exact b
   ·rw[if_neg hc,Zr3 hx];exact b
theorem lookup_all{names:List (Str×NameKind)}{p:Str×NameKind->Bool}:∀{x:Str}{k:NameKind},names.all p=true->names.lookup x=some k->p (x,k)=true:=by
 induction names with
 | nil=>intro x k _ h;simp at h
 | cons y r d=>
  intro x k a h;obtain⟨n,c⟩:=y;rw[List.all_cons,Bool.and_eq_true]at a;cases hx:x == n with
  | true=>
   rw[List.lookup_cons,hx]at h;have e:x=n:=beq_iff_eq.mp hx;have b:c=k:=Option.some.inj h;rw[e,<- b];exact a.1
  | false=>
   rw[List.lookup_cons,hx]at h;exact d a.2 h
theorem Qy{prog:AL}{w:AN}{A:Around}{R:Result->AJ->Prop}{s:AJ}{t a iter:AM}{p:AF}{b:Scope}{u:Pos}{C acc:AI}{env:Env}(I:Nat->AJ->Prop)
  (turn:∀n s,I n s->wpAny (model prog w) A (pyNext C) (λr g=>match r with
   | none=>R (.ok .next) g
   | some v=>wpAny (model prog w) A (letOwnedTupleGo a C v) (λ_ e=>wpAny (model prog w) A (assign a env v) (λ_ k=>
     wpAny (model prog w) A (forIn p true λc r=>if r=true then do let ok <- isTrue c env (eval c env);pure (ForInStep.yield ok)else pure (ForInStep.yield r)) (λok f=>
      if ok=true then wpAny (model prog w) A (eval t env) (λx l=>
       wpAny (model prog w) A (call (.builtin "list.append") [acc,x]) (λ_ i=>∃m,m<n/\I m i) (λ_ _=>False) l) (λ_ _=>False) f
      else ∃m,m<n/\I m f) (λ_ _=>False) k) (λ_ _=>False) e) (λ_ _=>False) g) (λ_ _=>False) s)
  (n:Nat) (h:I n s):
  codeAny (model prog w) A (.compLoop (.ListComp t [⟨a,iter,p,0⟩] b u) 0 C acc env) R s:=by
 refine codeAny_loop rfl I (λn s D=>?_) n h;show wpAny _ A ((compTurn (.ListComp t [⟨a,iter,p,0⟩] b u) 0 C acc env).onRaise (λx=>do noteFrame x env;theTreesLotGoes x)) _ _ s;refine wpAny_noted ?_;rw[compTurn_list];refine wpAny_bind (wpAny_standAt (wpAny_bind (wpAny_mono (turn n s D) (λr g j=>?_) λ_ _ d=>d.elim)));cases r with
 | none=>exact wpAny_pure j
 | some v=>
  refine wpAny_bind (wpAny_mono j (λ_ e q=>?_) λ_ _ d=>d.elim);refine wpAny_bind (wpAny_mono q (λ_ k y=>wpAny_bind (wpAny_mono y (λok f o=>?_) λ_ _ d=>d.elim)) λ_ _ d=>d.elim);cases ok with
  | false=>exact wpAny_pure ⟨rfl,o⟩
  | true=>
   exact wpAny_bind (wpAny_bind (wpAny_mono o (λx l z=>wpAny_bind (wpAny_mono z (λ_ i B=>wpAny_pure (wpAny_pure ⟨rfl,B⟩)) λ_ _ d=>d.elim)) λ_ _ d=>d.elim))
section
variable{X:Cx}{elt iter tg:AM}{pos:Pos}{ifs:AF}{f:Scope}{cl:List (Str×AH)}{wi:TI}{tc:TT}{te:TE}{cns:AG}{ns:AG}{gt:TG}{R:It->L2.St->Hp->VK->Prop}(t:List Nat)
  (hR:∀J σ H Q,R J σ H Q->∃W:Nat->Nat->List V->Hp->Prop,(∃m,W 0 m [] H)/\∀i m K H,W i m K H->
   (J.stop i H/\∀p,H p=none->Q (.ref p) (upd H p (.lst K)))\/
   (J.go i H/\K.length<sizeLine/\∀x H',J.yld i H x H'->∀vs:L2.St,vs.length=ns.length->∃us:L2.St,us.length=ns.length/\gt x (vs++t.map (pick σ)) H' (λσ2 H2=>σ2=us++t.map (pick σ)/\H2=H')/\tc (us++t.map (pick σ)) H' λk H2=>if k=true then te (us++t.map (pick σ)) H2 (λy H3=>∃m',m'<m/\W (i+1) m' (K++[y]) H3)else ∃m',m'<m/\W (i+1) m' K H2))
  (hi:PI X tg iter wi) (hg:∀C s H ex pn,PG (Vg X f cl (ns++cns) C s H ex pn) tg gt)
  (hf:∀C s H ex pn,PF (Vg X f cl (ns++cns) C s H ex pn) ifs tc) (he:∀C s H ex pn,PE (Vg X f cl (ns++cns) C s H ex pn) elt te) (hc:X.calm=true)
  (hclos:closureFor f X.env=pure cl) (hcl:AllIn X.env.cells cl) (hcap:Gy X cns t)
  (U:f.kind=.function) (hcell:(f.names.all λp=>p.2 != .cell)=true) (hfree:(f.names.all λp=>p.2 != .free || (cl.lookup p.1).isSome)=true)
  (hcf:(cns.all λy=>f.names.lookup y == some .free)=true) (hnames:∀y∈f.names,y.2=.local->f.names.lookup y.1=some .local)
  (hs:∀v,foldedSetIterable iter X.env v=pure v)
include hR hi hg hf he hc hclos hcl hcap U hcell hfree hcf hnames hs
theorem Zlcc{use:Option (AI->Sem Unit)}{Q0:Ap}{D:At}{s:AJ}{σ:L2.St}{H:Hp}{Q:VK}(I:Inv X D σ H s)(h:wi σ H λJ H1=>R J σ H1 Q)
  (hend:∀(acc C:AH) (s6:AJ) (m:As) r0,s6.heap.Ns C m->(∀{Hf:Hp},Hf C=none->rY X D Hf C)->(∀h',Heap.SameBut C s6.heap h'->EP X D σ (λv Hf=>Q v Hf/\Hf C=none) (.ref acc) { s6 with heap:=h' })->compPost (model X.prog X.w) X.A X.xe use Q0 (.ref acc) C (.ok r0) s6):
  wpAny (model X.prog X.w) X.A (comprehension (.ListComp elt [⟨tg,iter,ifs,0⟩] f pos) f X.env (firstIterPos [⟨tg,iter,ifs,0⟩] pos) (newList []) (firstAsync [⟨tg,iter,ifs,0⟩]) (firstIter [⟨tg,iter,ifs,0⟩] X.env) use) Q0 X.xe s:=by
 refine wpAny_comprehension_free rfl hs hclos U hnames (iW (hi D s σ H _ I h) λxv s1 h1=>iW h1 λitv s2 h2=>?_);obtain⟨it,S,tn,J,H2,rfl,E,T,st2,f2,hr⟩:=h2;obtain⟨W,⟨m0,w0⟩,turn⟩:=hR _ _ _ _ hr;have hne:∀y∈f.names,y.2≠.cell:=λy hy e=>by
  have:=List.all_eq_true.mp hcell y hy;rw[e]at this;simp at this
 refine wpAny_newObj_type (wpAny_newFunctionEnv hne (by intro y hy;simp at hy) (λh₁ L N=>?_) U);dsimp only at L N ⊢;generalize F:s2.heap.objs.size=acc;generalize hH3:s2.heap.push { cls:=.type "list",dict:=none,data:=.seq ([]:AC).toArray }=h3 at L N ⊢;have hC:h3.objs.size=acc+1:=by rw[<- hH3,Heap.size_push,F]
 have P:∀b o,s2.heap.get? b=some o->h3.get? b=some o:=λb o e=>hH3 ▸ Heap.get?_push_of_some _ e;have W4:∀b o,h3.get? b=some o->h₁.get? b=some o:=λb o e=>N.extBut b o (Nat.ne_of_lt (Heap.lt_size e)) (Heap.get?_push_of_some _ e);have Zxz:h3.get? acc=some { cls:=.type "list",dict:=none,data:=.seq ([]:AC).toArray }:=by
  rw[<- hH3,<- F];exact Heap.get?_push_size _ rfl
 have I3:Inv X D σ H2 { s2 with heap:=h3 }:=E.kept (t':=s2.toks) P;have Zkf:rY X D H2 acc:=E.Zg4 (Nat.le_of_eq F) (E.hok.fresh (Nat.le_of_eq F));have fpl:∀b∈S,b<acc:=λb hb=>by
  obtain⟨o,e,_⟩:=T.obj _ _ st2 b hb;rw[<- F];exact Heap.lt_size e
 have O4:∀b∈acc::S,rY X D H2 b:=λb hb=>(List.mem_cons.mp hb).elim (λe=>e ▸ Zkf) (f2 b);have exC:∀b∈acc::S,b≠h3.objs.size:=λb hb=>by
  rcases List.mem_cons.mp hb with e | hb
  ·rw[hC,e];exact Nat.ne_of_lt (Nat.lt_succ_self _)
  ·rw[hC];exact Nat.ne_of_lt (Nat.lt_succ_of_lt (fpl b hb))
 have Io:∀b∈acc::S,b∉frs X.stack:=λb hb hm=>by
  obtain⟨_,g1,g2,_⟩:=O4 b hb;exact(List.mem_cons.mp (E.Du b hm)).elim g1 g2
 let Y:Cx:=Vg X f cl (ns++cns) h3.objs.size { s2 with heap:=h3 } H2 (acc::S) (X.pn++D)
 have g:∀y c,cl.lookup y=some c->X.env.cells.lookup y=some c:=λy c e=>hcl.get e;have KJ:∀y k,Y.env.kindOf y=some k->(k=.cell\/k=.free)->∃c,cl.lookup y=some c:=λy k e hk=>by
  have e0:(f.names.lookup y).map (En X.env y)=some k:=oX.symm.trans e;obtain⟨k0,e1,Z⟩:=Option.map_eq_some_iff.mp e0;have e3:=lookup_all hfree e1;have e4:=lookup_all hcell e1
  by_cases hf:k0=.free
  ·subst hf;rw[Bool.or_eq_true]at e3;rcases e3 with e3 | e3
   ·exact absurd rfl (bne_iff_ne.mp e3)
   ·exact Option.isSome_iff_exists.mp e3
  ·exfalso
   have e5:En X.env y k0=k0:=by
    unfold En;rw[if_neg];intro z;rw[Bool.and_eq_true,Bool.and_eq_true]at z;exact hf (beq_iff_eq.mp z.1.1)
   rw[e5]at Z;subst Z;rcases hk with rfl | rfl
   ·simp at e4
   ·exact hf rfl
 have okY:Y.Ok:={
  mod:=E.ok.mod
  kind:=U
  glob:=E.ok.glob
  blt:=E.ok.blt
  above:=Nat.le_refl _
  inj:=λa b c e1 Z=>E.ok.inj a b c (g _ _ e1) (g _ _ Z)
  has:=λy hy=>hy.elim (λe=>KJ y _ e (.inl rfl)) (λe=>KJ y _ e (.inr rfl))
  cab:=λy c e=>nomatch e
  hd:=E.ok.hd
  frames:=E.ok.frames
  stk:=.inl rfl
  exf:=λb hb=>⟨exC b hb,λy c e=>(O4 b hb).2.2.2.2.1 y c (g _ _ e)⟩
  bs:=λb o e=>⟨P b o (E.bs b o e).1,(E.bs b o e).2⟩
  bsz:=by
   show X.base.objs.size<=h3.objs.size;rw[hC,<- F];exact Nat.le_succ_of_le (Nat.le_trans E.ok.bsz E.sz)
  WQ:=λb o e hb=>by
   rcases(O4 b hb).2.2.2.1 with z | z
   ·exact E.ok.WQ b o e z
   ·exact absurd (Nat.lt_of_lt_of_le (Heap.lt_size e) (Nat.le_trans E.ok.bsz z)) (Nat.lt_irrefl _)
  Zg9:=Io
  zZ:=I3.stack
  frf:=I3.Rj }
 have Zyb:(List.replicate ns.length none++t.map (pick σ):L2.St).length=(ns++cns).length:=by rw[List.length_append,List.length_append,List.length_replicate,aY,hcap.len]
 have I4:Inv Y [] (List.replicate ns.length none++t.map (pick σ)) H2 { s2 with heap:=h₁,toks:=s2.toks+([]:List (Str×AI)).length }:={
  ok:=okY
  os:=rfl
  bare:=E.bare
  base:=Un.kept W4
  loc:=by
   refine⟨_,L,λi y v e1 Z e3=>?_⟩
   by_cases hlt:i<ns.length
   ·have Z:(List.replicate ns.length none++t.map (pick σ):L2.St)[i]? =some (some v):=Z;rw[List.getElem?_append_left (by rw[List.length_replicate];exact hlt),List.getElem?_replicate,if_pos hlt]at Z;cases Z
   ·have e1':cns[i - ns.length]? =some y:=by
     have e1':(ns++cns)[i]? =some y:=e1;rw[List.getElem?_append_right (by omega)]at e1';exact e1'
    have e2':(t.map (pick σ):L2.St)[i - ns.length]? =some (some v):=by
     have Z:(List.replicate ns.length none++t.map (pick σ):L2.St)[i]? =some (some v):=Z;rw[List.getElem?_append_right (by rw[List.length_replicate];omega),List.length_replicate]at Z;exact Z
    obtain⟨j,j1,j2,j3⟩:=hcap.get (σ:=σ) (i:=i - ns.length) (x:=y) (v:=v) e1' e2';obtain⟨m,hn,hl⟩:=E.loc;obtain⟨u,r,l⟩:=hl j y v j1 j3 (.inr (.inl j2));rcases l with ⟨l,_⟩ | ⟨_,c,l1,l2⟩
    ·rw[j2]at l;cases l
    ·refine⟨u,r,.inr ?_⟩;rcases e3 with e3 | e3 | e3
     ·exfalso
      have hm:y∈cns:=List.mem_of_getElem? e1';have hl:f.names.lookup y=some .free:=beq_iff_eq.mp (List.all_eq_true.mp hcf y hm);have e0:(f.names.lookup y).map (En X.env y)=some .local:=oX.symm.trans e3;rw[hl]at e0;have e5:En X.env y .free=.local:=Option.some.inj e0;unfold En at e5;split at e5<;>cases e5
     ·obtain⟨c',hc'⟩:=KJ y _ e3 (.inl rfl);have:=g _ _ hc';rw[l1]at this;cases this;exact⟨.inl e3,c,hc',l2.keeps λb o e=>W4 _ _ (P _ _ e)⟩
     ·obtain⟨c',hc'⟩:=KJ y _ e3 (.inr rfl);have:=g _ _ hc';rw[l1]at this;cases this;exact⟨.inr e3,c,hc',l2.keeps λb o e=>W4 _ _ (P _ _ e)⟩
  cell:=λy c e=>by
   obtain⟨v,z⟩:=E.cell y c (g _ _ e);exact⟨v,z.keeps λb o e=>W4 _ _ (P _ _ e)⟩
  free:=E.hok.fresh (by rw[F];show acc<=h3.objs.size;rw[hC];exact Nat.le_succ _)
  uC:=λy c e=>E.uC y c (g _ _ e)
  pin:=λp hp=>by
   have hp2:p∈(X.pn++D)++[]:=hp;have hp':p∈X.pn++D:=by rw[List.append_nil]at hp2;exact hp2
   obtain⟨p1,p2,p3,p4,p5⟩:=E.pin p hp';refine⟨W4 _ _ (P _ _ p1),p2,?_,λhm=>(List.mem_cons.mp (E.Du _ hm)).elim p3 p4,p5⟩;exact Nat.ne_of_lt (by show p.1<h3.objs.size;exact Heap.lt_size (P _ _ p1))
  hok:=E.hok.kept λb u e=>W4 _ _ (P _ _ e)
  len:=Zyb }
 have fpY:∀{H':Hp}{pl:At}{b:AH},b∈acc::S->H' b=none->(∀p∈pl,p.1≠b)->rY Y pl H' b:=λ{H' pl b} hb hn hp=>
  ⟨hn,exC b hb,Io b hb,.inl hb,λy c e=>(O4 b hb).2.2.2.2.1 y c (g _ _ e),λp hm=>(List.mem_append.mp hm).elim (λz=>(O4 b hb).2.2.2.2.2 p z) (hp p)⟩
 have fin:∀{O:L2.St}{H':Hp}{M:AJ}{K:List V}{B:AC}{kk:Nat}{pl:At},Inv Y pl O H' M->H' acc=none->Vals K B->K.length<=sizeLine->
   M.heap.get? acc=some { cls:=.type "list",data:=.seq B.toArray kk }->(∀p,H' p=none->Q (.ref p) (upd H' p (.lst K)))->
   ∀h',Heap.SameBut h3.objs.size M.heap h'->EP X D σ (λv Hf=>Q v Hf/\Hf h3.objs.size=none) (.ref acc) { M with heap:=h' }:=λ{O H' M K B kk pl} J ha hv hz ho hq h' hs'=>by
  have Zvo:acc≠h3.objs.size:=exC acc (List.mem_cons_self);have Gh:∀b o,b≠h3.objs.size->M.heap.get? b=some o->h'.get? b=some o:=λb o hb e=>hs'.extBut b o hb e;have ltC:∀b o,s2.heap.get? b=some o->b≠h3.objs.size:=λb o e=>Nat.ne_of_lt (Heap.lt_size (P b o e));have Ox:H' h3.objs.size=none:=J.free;have un:Un (frs X.stack) (acc::S) H2 H' s2.heap h':={
   keep:=λb o e n hb hx=>Gh b o (ltC b o e) (J.base.keep b o (P b o e) n hb hx)
   slot:=λb o e n hb hx=>by
    obtain⟨sl,q⟩:=J.base.slot b o (P b o e) n hb hx;exact⟨sl,Gh b _ (ltC b o e) q⟩
   free:=λb o e n hx=>J.base.free b o (P b o e) n hx
   there:=λb o e hx=>by
    obtain⟨o',q⟩:=J.base.there b o (P b o e) hx;exact⟨o',Gh b o' (ltC b o e) q⟩
   tups:=J.base.tups
   Jt:=J.base.Jt
   JC:=J.base.JC }
  have hok:Dn X.prog X.w H' h':=λb u e=>by
   refine(J.hok b u e).stay (λc v hc q=>Gh c v ?_ q) (λ_ q=>q) λ_ _ q=>q;rintro rfl;rcases hc with rfl | hc
   ·rw[Ox]at e;cases e
   ·rw[Ox]at hc;cases hc
  have I5:Inv X D σ H' { M with heap:=h' }:=E.call' (ch:=acc::S) J.os un hok J.bare λb hb=>by
   obtain⟨g0,g1,g2,g3,g4,g5⟩:=O4 b hb;exact⟨g3,g1,g4,g5⟩
  refine⟨.ref acc,_,adopt (acc:=acc) I5 ?_ (Gh _ _ Zvo ho) hv hz,rfl,hq acc ha,by rw[aC Zvo.symm];exact Ox⟩;obtain⟨g0,g1,g2,g3,g4,g5⟩:=Zkf;exact⟨ha,g1,g2,g3,g4,g5⟩
 have loop:codeAny (model X.prog X.w) X.A (.compLoop (.ListComp elt [⟨tg,iter,ifs,0⟩] f pos) 0 (.ref it) (.ref acc) Y.env) (compPost (model X.prog X.w) X.A X.xe use Q0 (.ref acc) h3.objs.size)
   { s2 with heap:=h₁,toks:=s2.toks+([]:List (Str×AI)).length }:=by
  refine Qy (λn M=>∃(i:Nat) (v:L2.St) (K:List V) (B:AC) (kk:Nat) (H':Hp),v.length=ns.length/\Inv Y [] (v++t.map (pick σ)) H' M/\tn i M.heap/\(∀b∈S,H' b=none)/\H' acc=none/\Vals K B/\K.length<=sizeLine/\
   M.heap.get? acc=some { cls:=.type "list",data:=.seq B.toArray kk }/\W i n K H') ?_ m0 ⟨0,List.replicate ns.length none,[],[],0,H2,List.length_replicate,I4,T.keep _ _ _ st2 (λb _ o e=>W4 _ _ (P _ _ e)),λb hb=>(f2 b hb).1,Zkf.1,.nil,Nat.zero_le _,W4 _ _ Zxz,w0⟩
  rintro n s5 ⟨i,v,K,B,kk,H5,lv,I5,st5,fr5,ha5,hv5,hz5,ho5,w5⟩;have Zpu:Inv Y [(acc,{ cls:=.type "list",data:=.seq B.toArray kk })] (v++t.map (pick σ)) H5 s5:=I5.vd λp hp=>by
   have e:p=(acc,{ cls:=.type "list",data:=.seq B.toArray kk }):=by simpa using hp
   subst e;exact⟨ho5,ha5,exC acc List.mem_cons_self,Io acc List.mem_cons_self,λv=>by intro z;cases z⟩
  have fpA:∀{H':Hp},(∀b∈S,H' b=none)->∀b∈S,rY Y [(acc,{ cls:=.type "list",data:=.seq B.toArray kk })] H' b:=λhn b hb=>fpY (List.mem_cons_of_mem _ hb) (hn b hb) λp hp=>by
   have e:p=(acc,{ cls:=.type "list",data:=.seq B.toArray kk }):=by simpa using hp
   subst e;exact(Nat.ne_of_lt (fpl b hb)).symm
  rcases turn i n K H5 w5 with ⟨stop,qn⟩ | ⟨go,hlt,step⟩
  ·refine iW (T.done Y rfl rfl rfl hc i _ s5 _ H5 (λ_ _=>False) Zpu (fpA fr5) st5 stop) λr s6 ⟨hr,I6⟩=>?_;subst hr;obtain⟨m,hm,_⟩:=I6.loc;have ho6:=(I6.pin (acc,{ cls:=.type "list",data:=.seq B.toArray kk }) (List.mem_append_right _ List.mem_cons_self)).1;exact hend acc h3.objs.size s6 m _ hm (λh=>E.Zg4 (by rw[hC,F];exact Nat.le_succ _) h) (fin I6 ha5 hv5 hz5 ho6 qn)
  ·refine iW (T.item Y rfl rfl rfl hc i _ s5 _ H5 (λ_ _=>False) Zpu (fpA fr5) st5 go) λr s6 ⟨u,hr,h6⟩=>?_;subst hr;refine iW h6 λ_ s7 ⟨z,H7,I7,r7,y7,st7,fr7⟩=>?_;have I7':=I7.pinned (fpA fr7) (T.obj _ _ st7);obtain⟨us,lu,hgt,step⟩:=step z H7 y7 v lv;have pg:PG Y tg gt:=hg _ _ _ _ _;refine iW (pg _ s7 _ H7 z u (λσ2 H2'=>σ2=us++t.map (pick σ)/\H2'=H7) I7' r7 hgt) λ_ s8 ⟨σ8,H8,I8,e8,e8'⟩=>?_;subst e8 e8';refine iW (hf _ _ _ _ _ _ s8 _ H8 _ I8 step) λok s9 ⟨H9,I9,q9⟩=>?_;have stat:∀{H':Hp}{M:AJ}{O:L2.St},Inv Y ([(acc,{ cls:=.type "list",data:=.seq B.toArray kk })]++yP S s7.heap) O H' M->tn (i+1) M.heap/\(∀b∈S,H' b=none)/\H' acc=none/\M.heap.get? acc=some { cls:=.type "list",data:=.seq B.toArray kk }:=λ{H' M O} J=>by
    have pa:=J.pin (acc,{ cls:=.type "list",data:=.seq B.toArray kk }) (List.mem_append_right _ (List.mem_append_left _ List.mem_cons_self));refine⟨T.keep _ _ _ st7 λb hb o e=>(J.pin (b,o) (List.mem_append_right _ (List.mem_append_right _ (oW hb e)))).1,λb hb=>?_,pa.2.1,pa.1⟩;obtain⟨o,e,d⟩:=T.obj _ _ st7 b hb;exact(J.pin (b,o) (List.mem_append_right _ (List.mem_append_right _ (oW hb e)))).2.1
   have Zf3:∀{H':Hp}{M:AJ}{O:L2.St}{pl:At},Inv Y pl O H' M->Inv Y [] O H' M:=λJ=>J.vd λp hp=>nomatch hp;cases ok with
   | false=>
    obtain⟨m',hm,w9⟩:=q9;obtain⟨t1,t2,t3,t4⟩:=stat I9;exact⟨m',hm,i+1,us,K,B,kk,H9,lu,Zf3 I9,t1,t2,t3,hv5,hz5,t4,w9⟩
   | true=>
    show wpAny _ _ (eval elt Y.env) _ _ s9;refine iW (he _ _ _ _ _ _ s9 _ H9 _ I9 q9) λy s10 ⟨yv,H10,I10,r10,m',hm,w10⟩=>?_;obtain⟨t1,t2,t3,t4⟩:=stat I10;have ZA3:Inv Y (yP S s7.heap) (us++t.map (pick σ)) H10 s10:=I10.vd λp hp=>I10.pin p (List.mem_append_right _ (List.mem_append_right _ hp));have fA:rY Y (yP S s7.heap) H10 acc:=fpY List.mem_cons_self t3 λp hp=>Nat.ne_of_lt (fpl _ (NK hp).1);have Ja:=adopt ZA3 fA t4 hv5 hz5;refine iW (tM (X:=Y) _ s10 _ _ (.ref acc) [yv] (.ref acc) [y] (λ_ H'=>H'=upd (upd H10 acc (.lst K)) acc (.lst (K++[yv]))) Ja rfl (.cons r10 .nil) ⟨acc,K,yv,rfl,rfl,aq,hlt,rfl⟩) λ_ s11 ⟨_,H11,I11,_,e11⟩=>?_;rw[eV]at e11;subst e11;obtain⟨Zzb,its',kk',Zzc,Zzd⟩:=I11.hok acc _ aq;have Jd:=disown I11 fA;have Zxa:tn (i+1) s11.heap:=T.keep _ _ _ st7 λb hb o e=>(Jd.pin (b,o) (List.mem_append_right _ (oW hb e))).1;exact⟨m',hm,i+1,us,K++[yv],its',kk',H10,lu,Zf3 Jd,Zxa,t2,t3,Zzc,Zzb,Zzd,w10⟩
 exact codeAny_compStart_list loop (T.self X.A 0 _ _ _ (T.keep _ _ _ st2 (λb _ o e=>W4 _ _ (P _ _ e))) loop)
theorem Zq2:PE X (.ListComp elt [⟨tg,iter,ifs,0⟩] f pos) (λσ H Q=>wi σ H λJ H1=>R J σ H1 Q):=by
 intro D s σ H Q I h;rw[eval_ListComp];refine Zlcc t hR hi hg hf he hc hclos hcl hcap U hcell hfree hcf hnames hs I h λacc C s6 m r0 hm fC fin=>⟨m,hm,λh' hs'=>?_⟩;obtain⟨v,Hf,If,rf,qf,_⟩:=fin h' hs';exact⟨v,Hf,If,rf,qf⟩
end
theorem J3{X:Cx}{o iter:AM}{x:Str}{w q:Pos}{n:AF}{a:Scope}{cl:List (Str×AH)}{B:TI}{tc:TT}{A:TE}{cns:AG}(b:List Nat)
  (I:PI X (.Name x w) iter B)
  (K:∀C s H ex pn,PF (Vg X a cl (x::cns) C s H ex pn) n tc) (F:∀C s H ex pn,PE (Vg X a cl (x::cns) C s H ex pn) o A) (hc:X.calm=true)
  (j:closureFor a X.env=pure cl) (r:AllIn X.env.cells cl) (k:Gy X cns b)
  (d:a.kind=.function) (e:(a.names.all λp=>p.2 != .cell)=true) (f:(a.names.all λp=>p.2 != .free || (cl.lookup p.1).isSome)=true)
  (t:(cns.all λy=>a.names.lookup y == some .free)=true) (c:∀y∈a.names,y.2=.local->a.names.lookup y.1=some .local) (hx:a.names.lookup x=some .local) (u:(x::cns).Nodup)
  (hs:∀v,foldedSetIterable iter X.env v=pure v:=by intro _;rfl):
  PE X (.ListComp o [⟨.Name x w,iter,n,0⟩] a q) (tLC B b tc A):=by
 refine Zq2 (ns:=[x]) (gt:=aN 0) b (λJ N H Q h=>?_) I (λC s H ex pn=>d8 u rfl (.inl (lookup_relabel_local hx)) (.inr (lookup_relabel_local hx))) K F hc j r k d e f t c hs;obtain⟨W,w0,turn⟩:=h;refine⟨W,w0,λi m M H D=>(turn i m M H D).imp id λ⟨g,l,st⟩=>⟨g,l,λz E y L hv=>?_⟩⟩
 match L,hv with
 | [v],_=>exact⟨[some z],rfl,⟨rfl,rfl⟩,st z E y⟩
theorem NP{P:AL}{w:AN}{H:Hp}{h:Heap}{a:AH}{o:HO}(x:lM P w H h a o):∃ob,h.get? a=some ob:=by
 induction o with
 | lst c=>obtain⟨_,_,_,_,e⟩:=x;exact⟨_,e⟩
 | tup c=>obtain⟨_,_,_,ob,e,_⟩:=x;exact⟨ob,e⟩
 | dK b=>obtain⟨_,_,_,_,ob,_,_,e,_⟩:=x;exact⟨ob,e⟩
 | dT b=>obtain⟨_,_,_,_,ob,_,_,e,_⟩:=x;exact⟨ob,e⟩
 | set S n=>obtain⟨ob,_,_,_,e,_⟩:=x;exact⟨ob,e⟩
 | ins C d fs=>obtain⟨_,_,_,e,_⟩:=x;exact⟨_,e⟩
 | own y=>exact x
 | xd fs=>obtain⟨_,⟨ob,_,_,e,_⟩,_⟩:=x;exact⟨ob,e⟩
 | rng lo g=>obtain⟨_,_,_,e⟩:=x;exact⟨_,e⟩
 | Ac ob u j=>exact⟨_,x.1⟩
 | R3 k=>exact⟨_,x⟩
 | met f y=>exact⟨_,x⟩
 | ext i=>obtain⟨_,e,_⟩:=x;exact e
theorem Zv{P:AL}{w:AN}{fs:AE}{H0 c:Hp}{g h1 h2:Heap}(u:Un fs [] H0 c g h1)(ok:Dn P w c h1)(k:∀b∈fs,c b=none)
  (kp:∀b o,h1.get? b=some o->((∃v,g.get? b=some v)\/∃v,c b=some v)->b∉fs->h2.get? b=some o) (sl:∀b o,h1.get? b=some o->b∈fs->∃z,h2.get? b=some { o with slots:=z }):
  Un fs [] H0 c g h2/\Dn P w c h2:=by
 refine⟨⟨λb o e n hb hx=>kp b o (u.keep b o e n hb hx) (.inl ⟨o,e⟩) hb,λb o e n hb hx=>?_,u.free,λb o e hx=>?_,u.tups,u.Jt,u.JC⟩,λa o e=>?_⟩
 ·obtain⟨z,d⟩:=u.slot b o e n hb hx;obtain⟨j,f⟩:=sl b _ d hb;exact⟨j,f⟩
 ·obtain⟨h,d⟩:=u.there b o e hx
  by_cases hb:b∈fs
  ·obtain⟨z,f⟩:=sl b _ d hb;exact⟨_,f⟩
  ·exact⟨h,kp b h d (.inl ⟨o,e⟩) hb⟩
 ·refine(ok a o e).stay (λb v hb q=>?_) (λ_ q=>q) λ_ _ q=>q;have hs:∃v,c b=some v:=by
   rcases hb with z | z
   ·exact⟨o,by rw[z];exact e⟩
   ·exact⟨_,z⟩
  refine kp b v q (.inr hs) λz=>?_;obtain⟨l,i⟩:=hs;rw[k b z]at i;cases i
def Vu(P:AL)(w:AN):CXT:=λouter H s E e s'=>
 ∃(c:AH) (a a0:AI) (B:Heap) (H':Hp),e=.ref c/\s'.os=s.os/\AllBare s'.gens/\Un (frs outer) [] H H' s.heap s'.heap/\Dn P w H' s'.heap/\Heap.FlyingW B outer c a a0 s'.heap/\
  (∀b o,s'.heap.get? b=some o->((∃v,s.heap.get? b=some v)\/∃v,H' b=some v)->b∉frs outer->B.get? b=some o)/\E a none H'
theorem gk{P:AL}{w:AN}{X:Cx}:Passes (Vu P w) X E0:=λ_ _ _ _ _ _ _ h=>by
 obtain⟨_,_,_,_,_,_,_,_,_,_,_,_,z⟩:=h;exact z.elim
section
variable {P:AL}{w:AN}{K:aB}{mg:As}{base:Heap}{N:AG}{qual:Str}{scope:Scope}{f:AH}{cd:AI}{A:Around}{outer:List Env}{s:AJ}{H:Hp}{E:XK}
theorem J7:Passes (Vu P w) (O5 (Vu P w) P w K mg base N qual scope f cd A outer s H E) E:=by
 intro g F L C e j I h;obtain⟨y,k,a0,B,c,rfl,os,bare,un,ok,fl,r,x⟩:=h;have J:Inv (O5 (Vu P w) P w K mg base N qual scope f cd A outer s H E) g F c j:=I.call' os un ok bare (λb z=>nomatch z);have D:∀b o,s.heap.get? b=some o->b≠(envOfC qual scope s.heap.objs.size f cd).locals:=λb o e=>Nat.ne_of_lt (Nat.lt_of_lt_of_le (Heap.lt_size e) I.ok.above);have l:∀b,((∃v,s.heap.get? b=some v)\/∃v,c b=some v)->b∉frs outer->b∉frs (envOfC qual scope s.heap.objs.size f cd::outer):=λb hb hn hm=>by
  rcases List.mem_cons.mp (J.Du b hm)with z | z
  ·rcases hb with ⟨v,e⟩ | ⟨v,e⟩
   ·exact D b v e z
   ·rw[z]at e;have:=J.free;rw[e]at this;cases this
  ·exact hn z
 have n:∀b,((∃v,s.heap.get? b=some v)\/∃v,c b=some v)->(∃v,C.heap.get? b=some v)\/∃v,c b=some v:=λb hb=>by
  rcases hb with ⟨v,e⟩ | hb
  ·exact .inl (I.base.there b v e (λz=>nomatch z))
  ·exact .inr hb
 refine wpAny_leaves_onW I.ok.frames rfl fl λu a sm=>?_;have m:∀b o,j.heap.get? b=some o->b∈frs outer->∀t,o.data≠.fields t:=λb o e hb=>by
  obtain⟨_,M,d,hd⟩:=J.zZ.mem hb;rw[e]at d;cases d;exact hd
 have i:∀b o,j.heap.get? b=some o->((∃v,s.heap.get? b=some v)\/∃v,c b=some v)->b∉frs outer->B.get? b=some o:=λb o e hb hn=>r b o e (n b hb) (l b hb hn);have U:=Zv (P:=P) (w:=w) (h2:=u) J.base J.hok (λb hb=>by
   obtain⟨_,o,p,_⟩:=J.ok.zZ.mem hb;exact J.base.free b o p (J.ok.frf b hb) (λz=>nomatch z)) (λb o e hb hn=>a.1 _ _ (i b o e hb hn)) λb o e hb=>sm b o e (m b o e hb)
 refine⟨y,k,a0,B,c,rfl,J.os,J.bare,U.1,U.2,a,λb o e hb hn=>?_,x⟩;have there:∃v,j.heap.get? b=some v:=by
  rcases hb with ⟨v,z⟩ | ⟨v,z⟩
  ·exact J.base.there b v z (λz=>nomatch z)
  ·exact NP (J.hok b v z)
 obtain⟨v,z⟩:=there;have q:=i b v z hb hn;have:=a.1 _ _ q;rw[e]at this;cases this;exact q
theorem Zan{g:At}{σ:L2.St}{d:Hp}{a:AJ}{C e:AH}{vs:AC}{h1:Heap}(I:Inv (O5 (Vu P w) P w K mg base N qual scope f cd A outer s H E) g σ d a)
  (hx:Heap.MadeExcOf a.heap h1 e (.ref C) vs) (p:E (.ref C) none d):(O5 (Vu P w) P w K mg base N qual scope f cd A outer s H E).xe (.ref e) { a with heap:=h1 }:=by
 have r:∀b o,s.heap.get? b=some o->b≠(envOfC qual scope s.heap.objs.size f cd).locals:=λb o e=>Nat.ne_of_lt (Nat.lt_of_lt_of_le (Heap.lt_size e) I.ok.above);have i:∀b,((∃v,s.heap.get? b=some v)\/∃v,d b=some v)->b∉frs outer->b∉frs (envOfC qual scope s.heap.objs.size f cd::outer):=λb hb hn hm=>by
  rcases List.mem_cons.mp (I.Du b hm)with z | z
  ·rcases hb with ⟨v,e⟩ | ⟨v,e⟩
   ·exact r b v e z
   ·rw[z]at e;have:=I.free;rw[e]at this;cases this
  ·exact hn z
 have u:a.heap.FunFrames (W.hideAll a.heap (frs (envOfC qual scope s.heap.objs.size f cd::outer))) (envOfC qual scope s.heap.objs.size f cd::outer):=
  W.funFrames_hide I.stack λenv l b hb=>List.mem_filterMap.mpr ⟨env,l,hb⟩
 refine wpAny_leaves_madeW (s:={ a with heap:=h1 }) I.ok.frames rfl (λb o q=>W.of_hideAll _ q) u hx λn t fl _ _ sm=>?_;have h:∀b o,a.heap.get? b=some o->((∃v,s.heap.get? b=some v)\/∃v,d b=some v)->b∉frs outer->(W.hideAll a.heap (frs (envOfC qual scope s.heap.objs.size f cd::outer))).get? b=some o:=
  λb o e hb hn=>W.hideAll_get _ e (i b hb hn)
 have j:∀b o,a.heap.get? b=some o->b∈frs outer->∀vs,o.data≠.fields vs:=λb o e hb=>by
  obtain⟨_,x,c,hd⟩:=I.zZ.mem hb;rw[e]at c;cases c;exact hd
 have U:=Zv (P:=P) (w:=w) (h2:=n) I.base I.hok (λb hb=>by
   obtain⟨_,o,m,_⟩:=I.ok.zZ.mem hb;exact I.base.free b o m (I.ok.frf b hb) (λz=>nomatch z)) (λb o e hb hn=>fl.1 _ _ (h b o e hb hn)) λb o e hb=>sm b o (hx.keeps b o e) (j b o e hb)
 refine⟨e,.ref C,.ref t,_,d,rfl,I.os,I.bare,U.1,U.2,fl,λb o q hb hn=>?_,p⟩;have there:∃v,a.heap.get? b=some v:=by
  rcases hb with ⟨v,z⟩ | ⟨v,z⟩
  ·exact I.base.there b v z (λz=>nomatch z)
  ·exact NP (I.hok b v z)
 obtain⟨v,z⟩:=there;have k:=h b v z hb hn;have:=fl.1 _ _ k;rw[q]at this;cases this;exact k
end
abbrev Zss(K:aB)(C:AH):Prop:=W.excIn K C [.type "ValueError",.type "Exception",.type "BaseException",.type "object"] "ValueError.__new__"=true
theorem Zvz{K:aB}{h:Heap}{C:AH}{ms:AC}{o:String}(X:K.In h)(q:W.excIn K C ms o=true):
  ∃tl N nm E bs hd sn sub ab col dd c b e f d mN,h.get? C=some (excClassObj nm E C N bs tl hd sn sub ab col dd c b e f d o)/\h.Ns N mN/\mN "__init__"=none/\OwnTail h ms tl:=by
 unfold W.excIn at q;split at q
 ·rename_i dd g a k
  split at q
  ·rename_i F tl c b e f n2 d r p
   simp only[Bool.and_eq_true,beq_iff_eq,Bool.not_eq_true']at q;obtain⟨⟨⟨⟨⟨z,v⟩,e3⟩,D⟩,l⟩,n⟩:=q;subst z v;obtain⟨w,B,H,m,x,A,t,s,u,i,y⟩:=g;dsimp only at r e3 l n;subst r e3;have j:a=#[c,b,e,f,some (.builtin n2),d]:=by
    obtain⟨ls⟩:=a;simp only at p;rw[p]
   subst j;refine⟨tl,m,w,x,B,A,t,s,u,i,dd,c,b,e,f,d,h.nsMap m,X _ _ k,?_,W.nsMap_none_of_in X l n,W.tail_of_in X D⟩;exact .of_isNs (W.isNs_of_in X l)
  ·cases q
 ·cases q
section
variable {X:Cx}{x:Str}{C:AH}{np cpos pos:Pos}{e:AM}{es:AF}{ta:TA}{E:XK}
theorem J0(hc:X.calm=true)(i:Gl X x)(hm:X.mg x=some (.ref C))(hx:Zss X.K C)(j:PA X (e::es) ta)
  (k:∀(a:At) (σ:L2.St) (H:Hp) (s:AJ) (c:AH) (vs:AC) (h1:Heap),Inv X a σ H s->Heap.MadeExcOf s.heap h1 c (.ref C) vs->E (.ref C) none H->X.xe (.ref c) { s with heap:=h1 })
  (hs:starEach (e::es) X.env=(false,eval e X.env)::starEach es X.env:=by rfl) (d:(backTo cpos (starEach es X.env)).any (·.1)=false:=by rfl) (hd:(x == ("__debug__":Str))=false:=by decide):
  PS X (.Raise (some (.Call (.Name x np) (e::es) [] cpos)) none pos) (LC C E ta):=by
 intro a s σ H D I h;obtain⟨tl,N,nm,v,bs,f,sn,sub,ab,col,dd,m,l,t,u,p,mN,w,o,g,T⟩:=Zvz I.ok.mod.kin hx;refine wpAny_Raise_call_subT (C:=C) (nm:=nm) (q:=v) (N:=N) (bs:=bs) (bm:=tl) (hdct:=f) (sn:=sn) (sub:=sub) (ab:=ab) (col:=col) (dd:=dd) (k0:=m) (k1:=l) (k2:=t) (k3:=u) (k5:=p) PySem.F.excBase_ValueError (mN:=mN)
  (T.hasType PySem.F.excBase_ValueError.hasBase) (I.ok.hd hc) ?_ g (vq I i hm ⟨rfl,?_⟩ hd)
 ·rw[hs];show(false || (backTo cpos (starEach es X.env)).any (·.1))=false;rw[d];rfl
 ·have q:=j cpos a s σ H _ I h;rw[hs]at q ⊢;refine Calls.evalArgs_plain (iW q λus n ⟨vs,H1,I1,r,l1,hE1⟩=>⟨rfl,?_,I1.bk _ _ w,o.keeps I1.bk,T.keeps I1.bk,λh1 c b=>k a σ H1 n c _ h1 I1 b hE1⟩);rw[<- r.length];exact Nat.le_trans l1 (by decide)
end
def Zm9(CX:CXT)(X:Cx)(E:L2.St->XK):Prop:=∀(a:At) (σ:L2.St) (H:Hp) (s:AJ) (e:AI) (s':AJ),Inv X a σ H s->CX X.stack H s (E σ) e s'->X.xe e s'
section
variable {X:Cx}{CX:CXT}{k:Nat}{f C:AH}{fd:AK}{ps:AG}{sp:Sp}{wU:List V}{ds:AC}{E:L2.St->XK}{x m:Str}{p pos apos:Pos}{e o:AM}{es:AF}{ta:TE}{t:TA}
theorem Zth{a:At}{σ:L2.St}{H:Hp}{s:AJ}{Q:VK}{us:AC}{vs:List V}(F:wO X.prog X.w X.K X.mg X.base CX k f fd ps sp)(hr:Room k X.A)(hb:Binds X.K fd ps ds)(hd:Vals wU ds)(hx:Zm9 CX X E)
  (I:Inv X a σ H s) (r:Vals vs us) (h:sp (vs++wU) H Q (E σ)):wpAny (model X.prog X.w) X.A (call (.ref f) us) (EP X a σ Q) X.xe s:=by
 have b:Vals (vs++wU) (us++ds):=r.append hd;have hl:(us++ds).length=ps.length:=by rw[<- b.length];exact F.len _ _ _ _ h
 refine wpAny_call (codeAny_mono (F.run X.A X.stack s H ⟨us,[]⟩ (us++ds) (vs++wU) Q (E σ) hr I.env0 (hb s us I.Gi hl) b h) λr c hq=>?_);cases r with
 | error e=>exact hx a σ H s e c I hq
 | ok fl=>
  cases fl with
  | ret u=>exact I.after hq
  | next=>exact False.elim hq
  | brk=>exact False.elim hq
  | cont=>exact False.elim hq
theorem Zq5(F:wO X.prog X.w X.K X.mg X.base CX k f fd ps sp)(hr:Room k X.A)(d:Gl X x)(hm:X.mg x=some (.ref f))(hk:W.keepIn X.K (.ref f)=true)(hb:Binds X.K fd ps ds)(hd:Vals wU ds)(hx:Zm9 CX X E)
  (i:PA X (e::es) t) (c:(x == ("__debug__":Str))=false:=by decide) (g:starEach (e::es) X.env=(false,eval e X.env)::starEach es X.env:=by rfl) (b:(backTo pos (starEach es X.env)).any (·.1)=false:=by rfl):
  PE X (.Call (.Name x p) (e::es) [] pos) (Zhj sp wU E t):=by
 intro a s j H Q I h;refine wpAny_Call_Name_kw (vq I d hm ?_ c);refine W.callWith_K (h₀:=X.base) I.ok.mod.kin hk (iW (i pos a s j H _ I h) λus m ⟨l,H1,I1,r,q⟩=>⟨I1.Gi,?_⟩) g b;exact Zth F hr hb hd hx I1 r q
end
abbrev cxB(X:Cx)(pn:At)(xe:Ap):Cx:={ X with pn:=pn,xe:=xe }
abbrev cxH(X:Cx)(ea:AI)(pn:At):Cx:={ X with A:=X.A.mark (some ea),calm:=false,pn:=pn,xe:=λ_ _=>False }
section
variable {X:Cx}{pins:At}{σ:L2.St}{H:Hp}{s:AJ}
theorem Zxx(ok:X.Ok)(pn:At)(xe:Ap):(cxB X pn xe).Ok:=
 ⟨ok.mod,ok.kind,ok.glob,ok.blt,ok.above,ok.inj,ok.has,ok.cab,ok.hd,ok.frames,ok.stk,ok.exf,ok.bs,ok.bsz,ok.WQ,ok.Zg9,ok.zZ,ok.frf⟩
theorem Zxw(ok:X.Ok)(a:AI)(pn:At):(cxH X a pn).Ok:=
 ⟨ok.mod,ok.kind,ok.glob,ok.blt,ok.above,ok.inj,ok.has,ok.cab,λz=>(nomatch z),ok.frames,ok.stk,ok.exf,ok.bs,ok.bsz,ok.WQ,ok.Zg9,ok.zZ,ok.frf⟩
theorem Zx0(I:Inv X pins σ H s)(xe:Ap):Inv (cxB X (X.pn++pins) xe) [] σ H s:=
 ⟨Zxx I.ok _ _,I.os,I.bare,I.base,I.loc,I.cell,I.free,I.uC,λp hp=>I.pin p (by simpa using hp),I.hok,I.len⟩
theorem Ub{xe:Ap}{pl:At}(ok:X.Ok)(I:Inv (cxB X (X.pn++pins) xe) pl σ H s):Inv X pins σ H s:=
 ⟨ok,I.os,I.bare,I.base,I.loc,I.cell,I.free,I.uC,λp hp=>I.pin p (List.mem_append_left _ hp),I.hok,I.len⟩
theorem Zov(I:Inv X pins σ H s)(a:AI):Inv (cxH X a (X.pn++pins)) [] σ H s:=
 ⟨Zxw I.ok _ _,I.os,I.bare,I.base,I.loc,I.cell,I.free,I.uC,λp hp=>I.pin p (by simpa using hp),I.hok,I.len⟩
theorem Zbh{a:AI}{pl:At}(ok:X.Ok)(I:Inv (cxH X a (X.pn++pins)) pl σ H s):Inv X pins σ H s:=
 ⟨ok,I.os,I.bare,I.base,I.loc,I.cell,I.free,I.uC,λp hp=>I.pin p (List.mem_append_left _ hp),I.hok,I.len⟩
theorem Zxd{xe:Ap}{D:Ends}{f:Flow}(ok:X.Ok)(h:SP (cxB X (X.pn++pins) xe) [] D f s):SP X pins D f s:=by
 cases f with
 | next=>obtain⟨a,b,I,q⟩:=h;exact⟨a,b,Ub ok I,q⟩
 | brk=>obtain⟨a,b,I,q⟩:=h;exact⟨a,b,Ub ok I,q⟩
 | cont=>obtain⟨a,b,I,q⟩:=h;exact⟨a,b,Ub ok I,q⟩
 | ret u=>obtain⟨v,a,b,I,r,q⟩:=h;exact⟨v,a,b,Ub ok I,r,q⟩
theorem Zxc{c:AI}{D:Ends}{f:Flow}(ok:X.Ok)(h:SP (cxH X c (X.pn++pins)) [] D f s):SP X pins D f s:=by
 cases f with
 | next=>obtain⟨a,b,I,q⟩:=h;exact⟨a,b,Zbh ok I,q⟩
 | brk=>obtain⟨a,b,I,q⟩:=h;exact⟨a,b,Zbh ok I,q⟩
 | cont=>obtain⟨a,b,I,q⟩:=h;exact⟨a,b,Zbh ok I,q⟩
 | ret u=>obtain⟨v,a,b,I,r,q⟩:=h;exact⟨v,a,b,Zbh ok I,r,q⟩
theorem flown{i:AH}{f a0:AI}{B:Heap}{d:Hp}{a:AJ}{h3:Heap}(I:Inv X pins σ H s)(os:a.os=s.os)(bare:AllBare a.gens)(un:Un (frs X.stack) [] H d s.heap a.heap)(ok:Dn X.prog X.w d a.heap)
  (fl:Heap.FlyingW B X.stack i f a0 a.heap) (h:∀b o,a.heap.get? b=some o->((∃v,s.heap.get? b=some v)\/∃v,d b=some v)->b∉frs X.stack->B.get? b=some o)
  (st:B.StaysIn h3) (sm:a.heap.UpToSlots h3):Inv X pins σ d { a with heap:=h3 }:=by
 have j:∀b∈frs X.stack,d b=none:=λb hb=>by
  obtain⟨_,o,g,_⟩:=I.stack.mem hb;exact un.free b o g (I.Rj b hb) (λz=>nomatch z)
 have U:=Zv (P:=X.prog) (w:=X.w) (h2:=h3) un ok j (λb o e hb hn=>st _ _ (h b o e hb hn)) λb o e hb=>by
  obtain⟨_,k,c,hd⟩:=fl.2.2.1.mem hb;rw[e]at c;cases c;exact sm b o e hd
 exact I.call' (s':={ a with heap:=h3 }) (ch:=[]) os U.1 U.2 bare (λb z=>nomatch z)
end
section
variable {X:Cx}{x:Str}{C:AH}{np pos hpos:Pos}{body suite:List Stmt}{b₀:Stmt}{Mt:AI->Prop}{tb:(L2.St->XK)->TS}{th:TS}
theorem Zxn(i:X.stack=X.env::X.outer/\X.env.frame=some X.env.locals)(R:Gl X x)(hm:X.mg x=some (.ref C))(p:∀c,Mt c->W.exmOne X.K c (.ref C)=some true)
  (hb:∀(E:L2.St->XK) (pn:At) (xe:Ap),Zm9 (Vu X.prog X.w) (cxB X pn xe) E->PSs (cxB X pn xe) body (tb E))
  (hs:∀(d:AI) (pn:At),PSs (cxH X d pn) (b₀::suite) th) (hd:(x == ("__debug__":Str))=false:=by decide):
  PS X (.Try body [.ExceptHandler (some (.Name x np)) none (b₀::suite) hpos] [] [] pos) (Zx2 Mt tb th):=by
 intro a s j H D I h;refine wpAny_Try_except ?_;have hx:Zm9 (Vu X.prog X.w) (cxB X (X.pn++a) λe N=>∃ j H s,Inv X a j H s/\Vu X.prog X.w X.stack H s (λb _ r=>Mt b/\th D j r) e N) (λu b _ r=>Mt b/\th D u r):=
  λY j H s e N J z=>⟨j,H,s,Ub I.ok J,z⟩
 refine wpAny_mono (hb _ _ _ hx [] s j H D (Zx0 I _) h) (λf Q q=>?_) λe Q q=>?_
 ·have q:=Zxd I.ok q;cases f with
  | next=>exact wpAny_execs_nil q
  | ret v=>exact q
  | brk=>exact q
  | cont=>exact q
 ·obtain⟨F,V,s0,J,d,b,a0,B,T,rfl,os,bare,un,ok,fl,O,U,L⟩:=q;have k:=fl;rw[i.1]at k;refine wpAny_looks_onW (i.1 ▸ J.ok.frames) i.2 k λh4 A o=>?_;refine wpAny_landsW A λh5 g m=>?_;have l:Q.heap.UpToSlots h5:=o.trans m;have P:=flown J os bare un ok fl O g.1 l;refine wpAny_handleBy_cons (codeAny_handlers_test (vq (X:=cxH X (.ref d) (X.pn++a)) (Zov P (.ref d)) R hm ?_ hd)) (by intro z;cases z);obtain⟨ob,M,n⟩:=g.there;have LT:W.Looks (model X.prog X.w) h5 (typeOf (.ref d)) b:=n ▸ (W.Looks.ld M).andThen .now;refine(W.exm_one P.Gi LT (p b U)).here ?_;refine codeAny_handlers_suite ?_;refine lands_againW g λh6 y t=>?_;have S:=flown J os bare un ok fl O y.1 (l.trans t);refine wpAny_mono (hs (.ref d) (X.pn++a) [] _ F T D (Zov S (.ref d)) L) (λf Z q=>Zxc I.ok q) λ_ _ z=>z.elim
end
section
variable {P:AL}{w:AN}{K:aB}{mg:As}{base:Heap}{x qual:Str}{st:Stmt}{f:AH}{fd:AK}{N ps:AG}{k:Nat}{sp:Sp}
theorem fok(F:jx K x qual st f fd)(S:aP N ps (aG st))(len:∀vs H Q E,sp vs H Q E->vs.length=ps.length)
  (b:∀(a:AI) (A:Around) (outer:List Env) (s:AJ) (H:Hp) (vs:List V) (Q:VK) (E:XK),Room k (A.deeper (envOfC qual (aG st) s.heap.objs.size f a))->sp vs H Q E->
   ∃t,PSs (O5 (Vu P w) P w K mg base N qual (aG st) f a A outer s H E).nox (lQ st) t/\t { nx:=λ_ H'=>Q .non H',rt:=Q } (start N vs) H):wO P w K mg base (Vu P w) (k+1) f fd ps sp:=by
 obtain⟨oc,od,kV,g,j,i,a,ct,e,rfl,lk,c⟩:=F.ex;refine Zs5 lk c S len λA outer s H vs Q E hr d=>?_;obtain⟨t,h,q⟩:=b a A outer s H vs Q E hr d;exact⟨t,h.nox,q⟩
theorem ZL0(F:jx K x qual st f fd)(S:aP N ps (aG st))(len:∀vs H Q E,sp vs H Q E->vs.length=ps.length)
  (b:∀(a:AI) (A:Around) (outer:List Env) (s:AJ) (H:Hp) (vs:List V) (Q:VK) (E:XK),Room k (A.deeper (envOfC qual (aG st) s.heap.objs.size f a))->sp vs H Q E->
   ∃t,PSs (O5 (Vu P w) P w K mg base N qual (aG st) f a A outer s H E) (lQ st) t/\t { nx:=λ_ H'=>Q .non H',rt:=Q } (start N vs) H):wO P w K mg base (Vu P w) (k+1) f fd ps sp:=by
 obtain⟨oc,od,kV,g,i,h,a,ct,e,rfl,lk,c⟩:=F.ex;exact Zs5 lk c S len λA outer s H vs Q E hr d=>b a A outer s H vs Q E hr d
theorem ZBw(F:ZAa K x qual st f fd)(S:aP N ps (aG st))(len:∀vs H Q E,sp vs H Q E->vs.length=ps.length)
  (b:∀(a:AI) (A:Around) (outer:List Env) (s:AJ) (H:Hp) (vs:List V) (Q:VK) (E:XK),Room k (A.deeper (envOfC qual (aG st) s.heap.objs.size f a))->sp vs H Q E->
   ∃t,PSs (O5 (Vu P w) P w K mg base N qual (aG st) f a A outer s H E) (lQ st) t/\t { nx:=λ_ H'=>Q .non H',rt:=Q } (start N vs) H):wO P w K mg base (Vu P w) (k+1) f fd ps sp:=by
 obtain⟨oc,od,dV,kV,g,i,h,a,ct,e,rfl,lk,c⟩:=F.ex;exact Zs5 lk c S len λA outer s H vs Q E hr d=>b a A outer s H vs Q E hr d
end
structure ZLm(K:aB)(C:AH):Prop where
 ga:W.findIn K (.ref C) "__getattribute__"=some (some (.builtin "BaseException.__getattribute__"))
 no:W.findIn K (.ref C) "__getattr__"=some none
 cl:W.findIn K (.ref C) "__class__"=some (some (.builtin "object.__class__"))
 so:W.mroIn K C (.type "object")=some true
 sb:W.mroIn K C (.type "BaseException")=some true
 is:W.hasDictIn K C=true
section
variable {prog:AL}{w:AN}{A:Around}{E:Ap}{h:Heap}{g:Array GenState}{d:Drawn}{t:Nat}{os:OsState}{a:AH}{o:Obj}{C:AH}{K:aB}
end
section
variable {X:Cx}
theorem CG:QF X (.type "list") (O6 X.K):=by
 intro a s c H d us Q I r h;obtain⟨p,b,rfl,hs,q⟩:=h;exact Lh a s c H [.ref p] us Q I r ⟨p,b,rfl,.inl hs,q⟩
theorem Zj{xs c:List V}{us g:AC}(f:Vals xs us)(n:Vals c g)(q:xs.all qJ=true)(r:c.all qJ=true)(hl:xs.length=c.length):
  (∀(A:Around) (s:AJ) (j:Nat) (h1:j<us.toArray.size) (h2:j<g.toArray.size),SeqAt.EqAt A s us.toArray[j] g.toArray[j] (match xs[j]?,c[j]? with | some a,some b=>Zi a b | _,_=>false))/\
  (List.range us.toArray.size).all (λj=>match xs[j]?,c[j]? with | some a,some b=>Zi a b | _,_=>false)=eqL xs c:=by
 refine⟨λA s j h1 h2=>?_,?_⟩
 ·rw[List.size_toArray]at h1 h2;have v:=f.length;have w:=n.length;have l:xs[j]? =some xs[j]:=bM (by omega);have i:c[j]? =some c[j]:=bM (by omega);obtain⟨u,m,o⟩:=f.get l;obtain⟨x,k,t⟩:=n.get i;rw[bM h1]at m;rw[bM h2]at k;cases m;cases k;rw[l,i];exact Cz o t (List.all_eq_true.mp q _ (List.getElem_mem (by omega))) (List.all_eq_true.mp r _ (List.getElem_mem (by omega)))
 ·rw[List.size_toArray,<- f.length];unfold eqL;rw[beq_iff_eq.mpr hl,Bool.true_and,Bool.eq_iff_iff,List.all_eq_true,List.all_eq_true];constructor
  ·intro h p hp;obtain⟨j,d,e⟩:=List.getElem_of_mem hp;rw[List.length_zip]at d;have:=h j (List.mem_range.mpr (by omega));rw[bM (show j<xs.length by omega),bM (show j<c.length by omega)]at this;rw[List.getElem_zip]at e;rw[<- e];exact this
  ·intro h j d;have d:=List.mem_range.mp d;rw[bM (show j<xs.length by omega),bM (show j<c.length by omega)];have hz:j<(xs.zip c).length:=by rw[List.length_zip];omega
   have:=h _ (List.getElem_mem hz);rw[List.getElem_zip]at this;exact this
theorem Zlu{xs a:List V}(h:xs.length≠a.length):eqL xs a=false:=by
 unfold eqL;rw[show(xs.length == a.length)=false by simpa using h,Bool.false_and]
theorem Zq8(hu:X.A.units+1<cLine):zK X (compareOp .Eq) (Wj X.K false):=by
 intro f s t H x y v u Q I k o h;obtain⟨p,w,m,l,rfl,rfl,hx,hy,g,q⟩:=h;cases k;cases o;obtain⟨us,d,c,_⟩:=I.list hx;obtain⟨r,e,a,_⟩:=I.list hy;have b:X.A.units<cLine:=by omega
 by_cases hl:m.length=l.length
 ·obtain⟨n,i⟩:=Zj d e (g hl).1 (g hl).2 hl;refine SeqAt.eq_listAt c.isList a.isList (by rw[List.size_toArray,List.size_toArray,<- d.length,<- e.length];exact hl) b (λj h1 h2=>n _ _ j h1 h2) ?_;rw[i];exact⟨.bl _,H,I,rfl,q⟩
 ·refine SeqAt.eq_list_lengthsAt c.isList a.isList ?_ b ?_
  ·rw[List.size_toArray,List.size_toArray,<- d.length,<- e.length];simpa using hl
  ·refine⟨.bl _,H,I,rfl,?_⟩;have:=q;rw[Zlu hl]at this;exact this
end
theorem Zqd:fastBuiltinMro "NoneType"=some [.type "NoneType",.type "object"]:=by decide +kernel
section
variable {K:aB}{A:Around}{a C:AH}{o:Obj}
theorem Zzm{M:Model}{E:Ap}{s:AJ}{Q:Unit->AJ->Prop}(e:W.Looks M s.heap (isInstance (.ref a) (.type "object")) true)(hq:Q () s):wpAny M A (checkBuiltinCall "object.__eq__" ⟨[.ref a,.none],[]⟩) Q E s:=by
 have d:=PySem.F.cmpArgs_eq (.ref a) .none;simp only[checkBuiltinCall,PySem.F.cmpKind_eq,PySem.F.cmpSplit_eq];refine wpAny_bind (e.here ?_);simp only[Bool.not_true,Bool.false_eq_true,if_false];cases b:Manifest.signature? "object.__eq__" with
 | none=>exact wpAny_pure hq
 | some c=>
  simp only[argsOk,b]at d;have h2:Bind.checkArgs "object.__eq__" c ⟨[.ref a,.none],[]⟩=pure ():=d;show wpAny M A (Bind.checkArgs "object.__eq__" c ⟨[.ref a,.none],[]⟩) Q E _;rw[h2];exact wpAny_pure hq
theorem Zw1{prog:AL}{w:AN}{E:Ap}{s:AJ}{Q:Ap}(b:W.Looks (model prog w) s.heap (isInstance (.ref a) (.type "object")) true)(hq:Q .notImplemented s):
  wpAny (model prog w) A (call (.builtin "object.__eq__") [.ref a,.none]) Q E s:=by
 refine wpAny_call (codeAny_call_builtin PySem.F.cmp_object.eq.plain PySem.F.cmpEntry_eq (Zzm b ?_));obtain⟨h,g,d,t,os⟩:=s;unfold Builtin.«object.__eq__»
 repeat (first | with_reducible refine wpAny_bind (m:=isSame (.ref a) .none) (wpAny_pure ?_) | wp_step)
 exact hq
theorem Zwy{prog:AL}{w:AN}{E:Ap}{s:AJ}{Q:AB->AJ->Prop}(X:K.In s.heap)(hx:s.heap.get? a=some o)(hc:o.cls=.ref C)(b:EqD K C)(hq:Q none s):
  wpAny (model prog w) A (tryCompare (.ref a) "__eq__" .none) Q E s:=by
 have LT:W.Looks (model prog w) s.heap (typeOf (.ref a)) (.ref C):=hc ▸ (W.Looks.ld hx).andThen .now;have e:W.Looks (model prog w) s.heap (isInstance (.ref a) (.type "object")) true:=LT.andThen (W.looks_mroIn X b.ob);have d:W.Looks (model prog w) s.heap (specialOf (.ref a) "__eq__") (some (.builtin "object.__eq__")):=LT.andThen (W.looks_findIn X b.eq);simp only[tryCompare];refine wpAny_bind ?_;simp only[callSpecialIfBound?,bindSpecialIfBound?];refine wpAny_holding (wpAny_bind (wpAny_bind (d.here ?_)));simp only[PySem.F.cmp_object.eq.bind];have fin:wpAny (model prog w) A (call (.builtin "object.__eq__") ([.ref a]++[.none]) >>= λv=>pure (some v)) (λr c=>wpAny (model prog w) A (match r with | some .notImplemented | none=>pure none | some v=>pure (some v)) Q E c) E s:=
  wpAny_bind (Zw1 e (wpAny_pure (wpAny_pure hq)))
 refine wpAny_bind (wpAny_askSetting (wpAny_ite ?_));split
 ·exact wpAny_bind (wpAny_pure (wpAny_pure fin))
 ·exact wpAny_tryCatch (wpAny_bind (wpAny_pure (wpAny_pure fin)))
theorem Ztk{s:AJ}(X:K.In s.heap)(hx:s.heap.get? a=some o)(hc:o.cls=.ref C)(d:EqD K C)(hu:A.units<cLine):SeqAt.RcAt A s (.ref a) .none false:=λprog w E Q h=>by
 have LT:W.Looks (model prog w) s.heap (typeOf (.ref a)) (.ref C):=hc ▸ (W.Looks.ld hx).andThen .now;have e:cmpInfo CmpOp.Eq=("==",("__eq__":Str),("__eq__":Str)):=rfl;have c:oneThing? .Eq (.ref a) .none=none:=rfl;simp only[richCompare,e,c]
 try with_reducible refine wpAny_holding ?_
 refine wpAny_bind (wpAny_cRoomFor_or (.inr hu) ?_);refine wpAny_bind (LT.here (wpAny_bind (m:=typeOf .none) (wpAny_pure ?_)));have b:(Value.ref C != Value.type "NoneType")=true:=by simp
 simp only[b,if_true];have hs:isSubtype (.type "NoneType") (.ref C)=pure false:=by
  rw[isSubtype_type,Zqd];rfl
 refine wpAny_bind (wpAny_of_eq hs ?_);simp only[Bool.false_eq_true,if_false,Bool.not_false,if_true];refine wpAny_bind (m:=tryCompare (.ref a) _ .none) (Zwy X hx hc d ?_);refine wpAny_bind (m:=tryCompare .none _ (.ref a)) (wpAny_tryCompare_declines (T:="NoneType") rfl PySem.F.slot_NoneType_eq_refl (call_gives PySem.F.slot_NoneType_eq_refl rfl PySem.F.entry_NoneType_eq (PySem.F.args_NoneType_eq_2 _ _) (SeqAt.NoneType___eq___none_ref_0 a) ⟨rfl,?_⟩));exact wpAny_bind (wpAny_rule (wpAny_bind (wpAny_of_eq (rfl:isSame (.ref a) .none=pure false) (wpAny_pure h))))
theorem Zw0{s:AJ}(X:K.In s.heap)(hx:s.heap.get? a=some o)(hc:o.cls=.ref C)(c:EqD K C)(hu:A.units<cLine):SeqAt.EqAt A s (.ref a) .none false:=λprog w E Q h=>by
 unfold eqBool;refine wpAny_holding ?_;refine wpAny_ite_split (λb=>absurd (eq_of_beq b) nofun) (λ_=>?_);exact wpAny_bind (Ztk X hx hc c hu prog w E _ (wpAny_truthy_bool h))
end
section
variable {X:Cx}
def FT(u:AI):Bool:=match u with
 | .none=>true
 | _=>false
theorem Zf7{H:Hp}{y:V}{u:AI}(r:RelV y u)(h:y=.non\/∃a C dx fs,y=.ref a/\H a=some (.ins C dx fs)/\Im X.K C/\EqD X.K C):FT u=decide (y=.non):=by
 rcases h with rfl | ⟨a,_,_,_,rfl,_⟩
 ·obtain rfl:u=Value.none:=r;rfl
 ·obtain rfl:u=Value.ref a:=r;rfl
theorem Zqf{b:At}{σ:L2.St}{H:Hp}{s:AJ}{A:Around}{y:V}{u:AI}(I:Inv X b σ H s)(hu:A.units<cLine)(r:RelV y u)(h:y=.non\/∃a C dx fs,y=.ref a/\H a=some (.ins C dx fs)/\Im X.K C/\EqD X.K C):SeqAt.EqAt A s u .none (FT u):=by
 rcases h with rfl | ⟨a,C,dx,fs,rfl,d,hc,c⟩
 ·obtain rfl:u=Value.none:=r;exact SeqAt.EqAt.same .none
 ·obtain rfl:u=Value.ref a:=r;obtain⟨_,_,_,e,_⟩:=(show lM X.prog X.w H s.heap a (.ins C dx fs)from I.hok a _ d);exact Zw0 I.Gi e rfl c hu
theorem Zf6{H:Hp}:∀{xs:List V}{us:AC},Vals xs us->OkN X.K H xs->us.any FT=decide (V.non∈xs)
 | _,_,.nil,_=>rfl
 | y::xs,u::us,.cons r t,h=>by
  rw[List.any_cons,Zf6 t λz hz=>h z (List.mem_cons_of_mem _ hz),Zf7 r (h y List.mem_cons_self),Bool.eq_iff_iff];simp only[Bool.or_eq_true,decide_eq_true_eq,List.mem_cons];constructor
  ·rintro(z | z)
   ·exact .inl z.symm
   ·exact .inr z
  ·rintro(z | z)
   ·exact .inl z.symm
   ·exact .inr z
theorem Zf4{H:Hp}{a:At}{σ:L2.St}{s:AJ}{A:Around}{xs:List V}{us:AC}(I:Inv X a σ H s)(hu:A.units<cLine)(r:Vals xs us)(h:OkN X.K H xs):∀u∈us,SeqAt.EqAt A s u .none (FT u):=by
 intro u hm;obtain⟨i,c,rfl⟩:=List.getElem_of_mem hm;have hl:=r.length;have hx:xs[i]? =some xs[i]:=bM (by omega);obtain⟨d,e,b⟩:=r.get hx;rw[bM c]at e;cases e;exact Zqf I hu b (h _ (List.getElem_mem (by omega)))
theorem Zmx(hu:X.A.units+1<cLine):zK X (compareOp .NotIn) (Zxl X.K true):=by
 intro a s g H x y v u Q I c e h;obtain⟨p,f,rfl,rfl,hs,hk,q⟩:=h;obtain rfl:v=Value.none:=c;cases e;obtain⟨us,r,d,_⟩:=I.list hs;refine SeqAt.notIn_listAt FT d.isList (λw b=>Zf4 I (by show X.A.units+1<cLine;exact hu) r hk w (by simpa using b)) ⟨.bl _,H,I,rfl,?_⟩;rw[show us.toArray.any FT=us.any FT by simp,Zf6 r hk];exact q
theorem Zf5{H:Hp}{xs:List V}{us:AC}(r:Vals xs us)(h:OkN X.K H xs)(j:Nat)(b:j<us.length)(a:j<xs.length):FT us[j]=decide (xs[j]=V.non):=by
 obtain⟨d,e,c⟩:=r.get (bM a);rw[bM b]at e;cases e;exact Zf7 c (h _ (List.getElem_mem a))
theorem Zn5(hu:X.A.units+1<cLine):MtR X "list.index" (Zld X.K):=by
 intro k s B H x xs v us Q I o rs h;obtain⟨p,a,rfl,rfl,hs,hk,hn,q⟩:=h;obtain rfl:v=Value.ref p:=o;obtain⟨u,rfl,m⟩:=Vals.one rs;obtain rfl:u=Value.none:=m;obtain⟨d,r,t,hz⟩:=I.list hs;obtain⟨⟨w,z,g,sl⟩,i,hc,n,hd⟩:=t.isList;simp only at hc hd;subst hc hd;have hl:=r.length;have f:a.idxOf V.non<a.length:=List.idxOf_lt_length_iff.mpr hn;have l:a.length<2 ^ 62:=Nat.lt_of_le_of_lt hz (by decide);refine call_meets PySem.F.slot_list_index ⟨_,i,rfl⟩ PySem.F.entry_list_index (PySem.F.args_list_index_2 _ _)
  (SeqAt.list_indexAt p d.toArray n z sl .none FT (a.idxOf V.non) (by simpa[hl]using f) (by omega) ?_ ?_) ⟨i,λy hy=>Zf4 I (by show X.A.units+1<cLine;exact hu) r hk y (by simpa using hy),⟨.int _,H,I.tok _,⟨_,rfl⟩,q⟩⟩
 ·show FT d[a.idxOf V.non]=true;rw[Zf5 r hk _ (by omega) f,decide_eq_true_eq];exact List.getElem_idxOf f
 ·intro j c b;show FT d[j]=false;rw[Zf5 r hk j (by simpa using c) (by omega),decide_eq_false_iff_not];intro e;have:=List.not_of_lt_findIdx (p:=(· == V.non)) (xs:=a) b;simp[e]at this
theorem Ziv(hu:X.A.units+1<cLine):zK X (compareOp .NotEq) (Wj X.K true):=by
 intro f s t H x y v u Q I k o h;obtain⟨p,z,m,l,rfl,rfl,hx,hy,g,q⟩:=h;cases k;cases o;obtain⟨us,d,c,_⟩:=I.list hx;obtain⟨r,e,a,_⟩:=I.list hy;have b:X.A.units<cLine:=by omega
 by_cases hl:m.length=l.length
 ·obtain⟨n,i⟩:=Zj d e (g hl).1 (g hl).2 hl;refine SeqAt.RcNeAt.lists c.isList a.isList (by rw[List.size_toArray,List.size_toArray,<- d.length,<- e.length];exact hl) b (λj h1 h2=>n _ _ j h1 h2) X.prog X.w X.xe _ ?_;rw[i];exact⟨.bl _,H,I,rfl,q⟩
 ·refine SeqAt.RcNeAt.lists_lengths c.isList a.isList ?_ b X.prog X.w X.xe _ ?_
  ·rw[List.size_toArray,List.size_toArray,<- d.length,<- e.length];simpa using hl
  ·refine⟨.bl _,H,I,rfl,?_⟩;have:=q;rw[Zlu hl]at this;exact this
end
end G
namespace G
open PySem L2
def Zlc:R2:=λx y H Q=>∃b,y=.bl b/\Q (.bl (!decide (x=.bl b))) H
theorem Zyr{x:V}{b:Bool}{H:Hp}{Q:VK}(h:Q (.bl (!decide (x=.bl b))) H):Zlc x (.bl b) H Q:=⟨b,rfl,h⟩
def LQ(C:AH):TE:=λ_ H Q=>∀x dx,H x=none->H dx=none->dx≠x->Q (.ref x) (upd (upd H dx (.own x)) x (.ins C dx []))
theorem Zv7{C:AH}{σ:St}{H:Hp}{Q:VK}(h:∀x dx,H x=none->H dx=none->dx≠x->Q (.ref x) (upd (upd H dx (.own x)) x (.ins C dx []))):LQ C σ H Q:=h
def LK(t u:TE):TE:=λσ H Q=>t σ H Q\/u σ H Q
theorem Y0{t u:TE}{σ:St}{H:Hp}{Q:VK}(h:t σ H Q):LK t u σ H Q:=.inl h
theorem K3{t u:TE}{σ:St}{H:Hp}{Q:VK}(h:u σ H Q):LK t u σ H Q:=.inr h
end G
namespace G
open PySem L2 PySem.Spec PyProof.Rows
section
variable {X:Cx}
theorem Zlh:zK X (compareOp .IsNot) Zlc:=by
 intro e s g H x y v u Q I d f h;obtain⟨b,rfl,q⟩:=h;cases f;cases x with
 | bl c=>
  cases d;refine wpAny_isNot_plain rfl (eG I q ?_);cases b<;>cases c<;>rfl
 | non=>cases d;exact wpAny_isNot_plain rfl (eG I q rfl)
 | ref a=>cases d;exact wpAny_isNot_plain rfl (eG I q rfl)
 | ty a=>cases d;exact wpAny_isNot_plain rfl (eG I q rfl)
 | _=>obtain⟨t,rfl⟩:=d;exact wpAny_isNot_plain rfl (eG I q rfl)
theorem xF{e:AM}{t u:TE}(h1:PE X e t)(h2:PE X e u):PE X e (LK t u):=by
 intro a s b H Q I h;rcases h with h | h
 ·exact h1 a s b H Q I h
 ·exact h2 a s b H Q I h
structure Mk0(K:aB)(C:AH):Prop where
 makes:W.makesIn K C=true
 init:W.findIn K (.ref C) "__init__"=some (some (.builtin "object.__init__"))
 kp:W.keepIn K (.ref C)=true
theorem Zie{C:AH}{a:At}{σ:L2.St}{H:Hp}{s:AJ}{Q:VK}(M:Mk0 X.K C)(I:Inv X a σ H s)
  (h:∀x dx,H x=none->H dx=none->dx≠x->Q (.ref x) (upd (upd H dx (.own x)) x (.ins C dx []))):wpAny (model X.prog X.w) X.A (call (.ref C) []) (EP X a σ Q) X.xe s:=by
 have hq:=h (s.heap.objs.size+1) s.heap.objs.size (I.hok.fresh (Nat.le_succ _)) (I.hok.fresh (Nat.le_refl _)) (Nat.ne_of_lt (Nat.lt_succ_self _));have d:=Inv.made (C:=C) I;have Y:=W.makes_of (M:=model X.prog X.w) I.Gi M.makes;refine wpAny_call (Zn6 I.Gi M.makes M.init (λself=>W.Looks.of_pure (W.oi_bind self)) ?_);have c:((s.heap.push W.emptyDict).push (W.instObj C s.heap.objs.size)).get? (s.heap.objs.size+1)=some (W.instObj C s.heap.objs.size):=by
  have:=Heap.get?_push_size (s.heap.push W.emptyDict) (o:=W.instObj C s.heap.objs.size) rfl;rw[Heap.size_push]at this;exact this
 have t1:W.Looks (model X.prog X.w) ((s.heap.push W.emptyDict).push (W.instObj C s.heap.objs.size)) (typeOf (.ref (s.heap.objs.size+1))) (.ref C):=(W.Looks.ld c).andThen .now;have t2:W.Looks (model X.prog X.w) ((s.heap.push W.emptyDict).push (W.instObj C s.heap.objs.size)) (isInstance (.ref (s.heap.objs.size+1)) (.type "object")) true:=t1.andThen (Y.top.keeps λb o e=>Heap.get?_push_of_some _ (Heap.get?_push_of_some _ e));refine codeAny_call_builtin W.oi_plain W.entry_oi (@W.check_slot (model X.prog X.w) _ _ _ "object.__init__" "object" "__init__" (.ref (s.heap.objs.size+1)) [] [] _ W.oi_kind W.oi_split t2 (W.oi_args (.ref (s.heap.objs.size+1))) ?_);rw[W.oi_run];exact wpAny_pure (And.intro rfl ⟨V.ref (s.heap.objs.size+1),_,d,rfl,hq⟩)
theorem M9{C:AH}{x:Str}{p a:Pos}(M:Mk0 X.K C)(d:Gl X x)(hm:X.mg x=some (.ref C))(b:(x == ("__debug__":Str))=false:=by decide):PE X (.Call (.Name x p) [] [] a) (LQ C):=by
 intro c s e H Q I h;refine wpAny_Call_Name_kw (vq I d hm ?_ b);exact W.callWith_K0 I.Gi M.kp (Zie M I h)
structure ZLl(K:aB)(C:AH):Prop where
 pg:W.plainGet K C "__class__"=true
 hd:W.hasDictIn K C=true
 cl:W.findIn K (.ref C) "__class__"=some (some (.builtin "object.__class__"))
 sp:W.specialIn K (.builtin "object.__class__") "__get__"=some (some (.builtin "getset_descriptor.__get__"))
 tk:W.takesIn K (.builtin "object.__class__")=some true
 so:W.mroIn K C (.type "object")=some true
end
end G
namespace G
open PySem L2
end G
namespace G
open PySem L2 PySem.Spec PyProof.Rows
def Zgs(w:AN):List DictEntry->List (Str×AH)->Prop
 | [],[]=>True
 | e::a,p::t=>e.hash=hashStr w p.1/\(∃tk,e.key=.str p.1 tk)/\e.val=.ref p.2/\Zgs w a t
 | _,_=>False
def Tab(K:aB)(w:AN)(mg:As)(nm:Str)(R3:List (Str×AH)):Prop:=
 ∃dd o a b,mg nm=some (.ref dd)/\K.lookup dd=some o/\o.ExactDict/\o.data=.dict a b/\Zgs w a.toList R3
theorem Zgs.keys{prog:AL}{w:AN}:∀{a:List DictEntry}{R3:List (Str×AH)},Zgs w a R3->∀e∈a,∃k,(strKind prog w).is k e.key=true/\e.hash=(strKind prog w).hash k
 | [],_,_=>λe b=>absurd b List.not_mem_nil
 | e::a,[],h=>h.elim
 | e::a,p::t,h=>λx hx=>by
  obtain⟨h1,⟨tk,h2⟩,_,h4⟩:=h;rcases List.mem_cons.mp hx with rfl | hx
  ·refine⟨p.1,?_,h1⟩;rw[h2];show Value.isStrOf p.1 (.str p.1 tk)=true;simp[Value.isStrOf]
  ·exact Zgs.keys h4 x hx
theorem Zgs.find{w:AN}:∀{g:List DictEntry}{R3:List (Str×AH)}{k:Str}{f:AH},Zgs w g R3->R3.lookup k=some f->(g.find? λe=>Value.isStrOf k e.key).map (·.val)=some (.ref f)
 | [],[],_,_,_,h=>by cases h
 | [],_::_,_,_,h,_=>h.elim
 | _::_,[],_,_,h,_=>h.elim
 | e::g,p::t,k,f,h,hl=>by
  obtain⟨_,⟨tk,h2⟩,h3,h4⟩:=h;rw[List.find?_cons,h2]
  by_cases hk:k=p.1
  ·subst hk;have d:Value.isStrOf p.1 (.str p.1 tk)=true:=by simp[Value.isStrOf]
   rw[d];have c:List.lookup p.1 (p::t)=some p.2:=by
    obtain⟨a,b⟩:=p;simp[List.lookup]
   rw[c]at hl;cases hl;show some e.val=_;rw[h3]
  ·have d:Value.isStrOf k (.str p.1 tk)=false:=by
    simp only[Value.isStrOf,beq_eq_false_iff_ne,ne_eq];exact λz=>hk z.symm
   rw[d];have c:List.lookup k (p::t)=List.lookup k t:=by
    obtain⟨a,b⟩:=p;simp only[List.lookup];rw[beq_eq_false_iff_ne.mpr hk]
   rw[c]at hl;exact Zgs.find h4 hl
def Zsz(R3:List (Str×AH))(b:TE):TE:=λσ H Q=>b σ H λy a=>∃k f,y=.str k/\R3.lookup k=some f/\Q (.ref f) a
theorem ZB7{R3:List (Str×AH)}{a:TE}{σ:L2.St}{H:Hp}{Q:VK}(h:a σ H λy b=>∃k f,y=.str k/\R3.lookup k=some f/\Q (.ref f) b):Zsz R3 a σ H Q:=h
theorem Zpz{X:Cx}{nm:Str}{R3:List (Str×AH)}{i:AM}{m:TE}{p b:Pos}(T:Tab X.K X.w X.mg nm R3)(q:Gl X nm)(t:PE X i m)(hs:Zw9 i)(hd:(nm == ("__debug__":Str))=false:=by decide):
  PE X (.Subscript (.Name nm p) i b) (Zsz R3 m):=by
 intro a s A H Q I h;obtain⟨z,o,c,n,hm,hk,g,d,j⟩:=T;refine Zl9 PySem.F.slot_dict_getitem.lookup hs (vq I q hm ?_ hd);refine iW (t a s A H _ I h) λu B ⟨y,H2,I2,ry,k,f,ey,l,q2⟩=>?_;subst ey;have hh:=I2.Gi z o hk;refine⟨⟨o,hh,g.1⟩,?_⟩;obtain⟨tk,rfl⟩:∃tk,u=.str k tk:=ry;refine wpAny_getItem_of (knd:=strKind X.prog X.w) (k:=k) (f:=λk=>findBy Value.isStrOf c k) (by show Value.isStrOf k (.str k tk)=true;simp[Value.isStrOf]) ⟨o,c,n,hh,g,d,λe r=>j.keys e (by simpa using r),λ_=>rfl⟩ (v:=.ref f) ?_ ⟨.ref f,H2,I2.tok _,rfl,q2⟩;show Option.map (λx=>x.val) (Array.find? (λe=>Value.isStrOf k e.key) c)=_;rw[<- Array.find?_toList];exact j.find l
def Vy(P:AL)(w:AN)(K:aB)(mg:As)(base:Heap)(CX:CXT)(k:Nat)(ps:AG)(L:List (AH×Sp)):Prop:=
 ∀f sp,(f,sp)∈L->∃a fd,a<=k/\wO P w K mg base CX a f fd ps sp/\W.keepIn K (.ref f)=true/\L2.Binds K fd ps []
theorem Vy.nil{P:AL}{w:AN}{K:aB}{mg:As}{base:Heap}{CX:CXT}{k:Nat}{ps:AG}:Vy P w K mg base CX k ps []:=λ_ _ h=>absurd h List.not_mem_nil
theorem Vy.cons{P:AL}{w:AN}{K:aB}{mg:As}{base:Heap}{CX:CXT}{k a:Nat}{ps:AG}{L:List (AH×Sp)}{f:AH}{fd:AK}{sp:Sp}(hk:a<=k)(F:wO P w K mg base CX a f fd ps sp)(hb:L2.Binds K fd ps [])(hp:W.keepIn K (.ref f)=true)(t:Vy P w K mg base CX k ps L):Vy P w K mg base CX k ps ((f,sp)::L):=λg b h=>by
 rcases List.mem_cons.mp h with e | h
 ·cases e;exact⟨a,fd,hk,F,hp,hb⟩
 ·exact t g b h
def ZC(i:Nat)(L:List (AH×Sp))(E:XK)(t:TA):TE:=λσ H Q=>∃f sp,σ[i]? =some (some (.ref f))/\(f,sp)∈L/\t σ H λvs a=>sp vs a Q E
theorem oJ{i:Nat}{L:List (AH×Sp)}{E:XK}{t:TA}{σ:L2.St}{H:Hp}{Q:VK}{f:AH}(sp:Sp)(b:σ[i]? =some (some (.ref f)))(hm:(f,sp)∈L)(h:t σ H λvs a=>sp vs a Q E):ZC i L E t σ H Q:=⟨f,sp,b,hm,h⟩
theorem Zek{X:Cx}{CX:CXT}{k i:Nat}{ps:AG}{L:List (AH×Sp)}{x:Str}{E:XK}{e:AM}{c:AF}{t:TA}{p b:Pos}(F:Vy X.prog X.w X.K X.mg X.base CX k ps L)(hr:Room k X.A)(y:X.N[i]? =some x)(hv:Vis X.env.scope x)(hx:Passes CX X E)
  (o:PA X (e::c) t) (hd:(x == ("__debug__":Str))=false:=by decide) (d:(x == ("__classdict__":Str))=false:=by decide) (m:starEach (e::c) X.env=(false,eval e X.env)::starEach c X.env:=by rfl) (g:(backTo b (starEach c X.env)).any (·.1)=false:=by rfl):
  PE X (.Call (.Name x p) (e::c) [] b) (ZC i L E t):=by
 intro a s j H Q I h;obtain⟨f,sp,n,hm,h⟩:=h;obtain⟨B,fd,hk,z,hp,hb⟩:=F f sp hm;refine wpAny_Call_Name_kw (iW (Zpy y hv hd d a s j H (λv l=>v=.ref f/\l=H) I ⟨_,n,rfl,rfl⟩) λu q ⟨v,H1,I1,r,e1,e2⟩=>?_);subst e1 e2;obtain rfl:u=Value.ref f:=r;refine W.callWith_K (h₀:=X.base) I1.ok.mod.kin hp (iW (o b a q j H1 _ I1 h) λus C ⟨D,H2,I2,r2,q2⟩=>⟨I2.Gi,?_⟩) m g;refine Zah (wU:=[]) z (hr.mono hk) hb .nil hx I2 r2 ?_;rw[List.append_nil];exact q2
section
variable {σ:L2.St}{H:Hp}{Q:VK}{td ty tv:TE}{n bk ct:L2.St->Hp->Prop}{r:VK}
theorem Zz6(h:td σ H λx c=>ty σ c λy b=>∃a v,x=.ref a/\Px b a y (some v)/\Q v b):R5 td ty σ H Q:=h
theorem Zrn(h:ty σ H λy c=>td σ c λx b=>∃a o,x=.ref a/\Px b a y o/\Q (.bl (!o.isSome)) b):Zz ty td σ H Q:=h
theorem Zz4(h:tv σ H λv c=>td σ c λx e=>ty σ e λy d=>∃a b,x=.ref a/\Yd d a y v b/\n σ b):S8 td ty tv ⟨n,r,bk,ct⟩ σ H:=h
theorem Zsj{a:AH}{b:List (L2.Key×V)}{z:Str}(e:H a=some (.dK b)):Px H a (.str z) (oN b (Sum.inr z)):=Px.k (k:=Sum.inr z) e
theorem ZC0{a:AH}{b:List (L2.Key×V)}{z:Str}{v:V}(e:H a=some (.dK b))(hl:b.length<sizeLine):Yd H a (.str z) v (upd H a (.dK (putK b (Sum.inr z) v))):=Yd.k (k:=Sum.inr z) e hl
end
def Zwa(K:aB)(J:It)(b:List Nat)(tc:TT)(g:TE)(σ:L2.St)(f:Hp)(Q:VK):Prop:=∃W:Nat->Nat->List V->Hp->Prop,(∃m,W 0 m [] f)/\∀i m c H,W i m c H->
 (J.stop i H/\∀p,H p=none->Q (.ref p) (upd H p (.lst c)))\/
 (J.go i H/\c.length<sizeLine/\∀x H',J.yld i H x H'->∃a u v,x=.ref a/\gw K H' a [u,v]/\tc (some u::some v::b.map (pick σ)) H' λk e=>if k=true then g (some u::some v::b.map (pick σ)) e (λy h=>∃d,d<m/\W (i+1) d (c++[y]) h)else ∃d,d<m/\W (i+1) d c e)
def Zp1(K:aB)(d:TI)(a:List Nat)(tc:TT)(c:TE):TE:=λσ H Q=>d σ H λJ b=>Zwa K J a tc c σ b Q
theorem Zyu{K:aB}{c:TI}{a:List Nat}{tc:TT}{b:TE}{σ:L2.St}{H:Hp}{Q:VK}(h:c σ H λJ d=>Zwa K J a tc b σ d Q):Zp1 K c a tc b σ H Q:=h
def ZCg(K:aB)(b:TE):TE:=λσ H Q=>∃a u v r,σ=some (.ref a)::r/\gw K H a [u,v]/\b (some u::some v::r) H Q
theorem Zln{K:aB}{J:It}{b:List Nat}{c:TE}{σ:L2.St}{H:Hp}{Q:VK}(h:LCg J b w6 (ZCg K c) σ H Q):Zwa K J b w6 c σ H Q:=by
 obtain⟨W,w0,step⟩:=h;refine⟨W,w0,λi m j H d=>?_⟩;rcases step i m j H d with z | ⟨g,l,st⟩
 ·exact .inl z
 ·refine .inr ⟨g,l,λx f y=>?_⟩;have h1:=st x f y;simp only[w6,↓reduceIte]at h1;obtain⟨a,u,v,r,e,hs,q⟩:=h1;cases e;refine⟨a,u,v,rfl,hs,?_⟩;simp only[w6,↓reduceIte];exact q
theorem Zio{X:Cx}{o iter:AM}{x y:Str}{B A pt r:Pos}{E:Nat}{n:AF}{a:Scope}{cl:List (Str×AH)}{F:TI}{tc:TT}{D:TE}{cns:AG}(b:List Nat)
  (N:PI X (.Tuple [.Name x B,.Name y A] E pt) iter F)
  (R:∀C s H ex pn,PF (Vg X a cl (x::y::cns) C s H ex pn) n tc) (P:∀C s H ex pn,PE (Vg X a cl (x::y::cns) C s H ex pn) o D) (hc:X.calm=true)
  (j:closureFor a X.env=pure cl) (t:AllIn X.env.cells cl) (k:Gy X cns b)
  (d:a.kind=.function) (e:(a.names.all λp=>p.2 != .cell)=true) (f:(a.names.all λp=>p.2 != .free || (cl.lookup p.1).isSome)=true)
  (u:(cns.all λy=>a.names.lookup y == some .free)=true) (c:∀y∈a.names,y.2=.local->a.names.lookup y.1=some .local) (hx:a.names.lookup x=some .local) (hy:a.names.lookup y=some .local) (q:(x::y::cns).Nodup)
  (hs:∀v,foldedSetIterable iter X.env v=pure v:=by intro _;rfl):
  PE X (.ListComp o [⟨.Tuple [.Name x B,.Name y A] E pt,iter,n,0⟩] a r) (Zp1 X.K F b tc D):=by
 refine Zq2 (ns:=[x,y]) (gt:=Zo3 X.K 2 (Dg (aN 0) (Dg (aN 1) Zo4))) b (λJ Z H Q h=>?_) N (λC s H ex pn=>Tn hc (oR (d8 q rfl (.inl (lookup_relabel_local hx)) (.inr (lookup_relabel_local hx))) (oR (d8 q rfl (.inl (lookup_relabel_local hy)) (.inr (lookup_relabel_local hy))) J2))) R P hc j t k d e f u c hs;obtain⟨W,w0,turn⟩:=h;refine⟨W,w0,λi m T H I=>(turn i m T H I).imp id λ⟨g,l,st⟩=>⟨g,l,λz L y S hv=>?_⟩⟩;obtain⟨U,V,O,M,w,st⟩:=st z L y
 match S,hv with
 | [v,Y],_=>exact⟨[some V,some O],rfl,⟨U,_,M,w,rfl,_,_,rfl,_,_,rfl,rfl,rfl,rfl⟩,st⟩
theorem Zpq{X:Cx}{iz:Nat}{z:Str}{pz ZAm:Pos}{elt iter:AM}{x:Str}{px pos:Pos}{R:AF}{f:Scope}{cl:List (Str×AH)}{wi:TI}{tc:TT}{te:TE}{cns:AG}(F:List Nat)
  (hi:PI X (.Name x px) iter wi)
  (hf:∀C s H ex pn,PF (Vg X f cl (x::cns) C s H ex pn) R tc) (he:∀C s H ex pn,PE (Vg X f cl (x::cns) C s H ex pn) elt te) (hc:X.calm=true)
  (hclos:closureFor f X.env=pure cl) (hcl:AllIn X.env.cells cl) (hcap:Gy X cns F)
  (hkind:f.kind=.function) (hcell:(f.names.all λp=>p.2 != .cell)=true) (hfree:(f.names.all λp=>p.2 != .free || (cl.lookup p.1).isSome)=true)
  (hcf:(cns.all λy=>f.names.lookup y == some .free)=true) (hnames:∀y∈f.names,y.2=.local->f.names.lookup y.1=some .local) (hx:f.names.lookup x=some .local) (hnd:(x::cns).Nodup)
  (hN:X.N.Nodup) (hiz:X.N[iz]? =some z) (hz:Loc X.env.scope z) (hfz:X.fn z=true\/X.env.scope.names.lookup z=some .local)
  (hsw:swapsWithSole [.Name z pz] (.ListComp elt [⟨.Name x px,iter,R,0⟩] f pos) ZAm.line X.env=pure true) (hs:∀v,foldedSetIterable iter X.env v=pure v:=by intro _;rfl):
  PS X (.Assign [.Name z pz] (.ListComp elt [⟨.Name x px,iter,R,0⟩] f pos) ZAm) (bH (tLC wi F tc te) (aN iz)):=by
 intro t s σ H D I h;generalize hQ:(λv H1=>aN iz v σ H1 D.nx)=Q;have h:tLC wi F tc te σ H Q:=hQ ▸ h;rw[exec_Assign_arm];refine wpAny_bind (wpAny_standAt ?_);rw[hsw];refine wpAny_bind (wpAny_pure ?_);rw[if_pos rfl];refine wpAny_bind ?_;rw[evalThenUse]
 suffices key:wpAny (model X.prog X.w) X.A (comprehension (.ListComp elt [⟨.Name x px,iter,R,0⟩] f pos) f X.env (firstIterPos [⟨.Name x px,iter,R,0⟩] pos) (newList []) (firstAsync [⟨.Name x px,iter,R,0⟩]) (firstIter [⟨.Name x px,iter,R,0⟩] X.env) (some λv=>assignAll v ((assignEach [.Name z pz] X.env).map (·.2)))) (λ_ M=>SP X t D .next M) X.xe s from
  wpAny_bind (wpAny_mono key (λ_ M h=>wpAny_pure (wpAny_pure h)) λ_ _ h=>h)
 refine Zlcc (ns:=[x]) (gt:=aN 0) (Q:=Q) (R:=λJ=>LCg J F tc te) F (λJ N H Q h=>?_) hi (λC s H ex pn=>d8 hnd rfl (.inl (lookup_relabel_local hx)) (.inr (lookup_relabel_local hx))) hf he hc hclos hcl hcap hkind hcell hfree hcf hnames hs I h λacc C s6 m r0 hm fCC fin=>?_
 ·obtain⟨W,w0,turn⟩:=h;refine⟨W,w0,λi m M H D=>(turn i m M H D).imp id λ⟨g,l,st⟩=>⟨g,l,λz E y L hv=>?_⟩⟩
  match L,hv with
  | [v],_=>exact⟨[some z],rfl,⟨rfl,rfl⟩,st z E y⟩
 obtain⟨v,Hf,If,rf,qf,hfC⟩:=fin s6.heap (Heap.SameBut.refl _ _);have fC:rY X t Hf C:=fCC hfC;obtain⟨oC,esC,epC,gC,dC,kC,nC⟩:=hm;have Ip:Inv X (t++[(C,oC)]) σ Hf s6:=Inv.vd If λp hp=>by
  rcases List.mem_append.mp hp with hp | hp
  ·exact If.pin p (List.mem_append_right _ hp)
  ·rw[List.mem_singleton.mp hp];exact⟨gC,fC.1,fC.2.1,fC.2.2.1,λv z=>by rw[dC]at z;cases z⟩
 show wpAny _ _ (assign (.Name z pz) X.env (.ref acc)) _ _ _;refine wpAny_assign_Name (JF Ip hN hiz hz rf (λs7 I7=>?_) hfz);have g7:=(I7.pin (C,oC) (List.mem_append_right _ (List.mem_append_right _ List.mem_cons_self))).1;refine⟨m,⟨oC,esC,epC,g7,dC,kC,nC⟩,λh' hs'=>?_⟩;have I8:=I7.JB;have qf:D.nx (σ.set iz (some v)) Hf:=by rw[<- hQ]at qf;exact qf
 have kb:∀b o,b≠C->s7.heap.get? b=some o->h'.get? b=some o:=λb o hb e=>hs'.extBut b o hb e;refine⟨_,Hf,I8.step (ch:=[C]) (λb hb=>?_) (λb o _ _ hb e _=>kb b o (λz=>hb (by rw[z];exact List.mem_cons_self)) e) (λb o _ _ hb e _=>⟨o.slots,kb b o (λz=>hb (by rw[z];exact List.mem_cons_self)) e⟩) (λ_ _ _ _ h=>h) (λb o hb e=>⟨o,kb b o (λz=>hb (by rw[z];exact List.mem_cons_self)) e⟩) (λ_ _ h=>h) (λ_ _ _ h=>h) (λ_ ps h=>⟨#[],by simpa using h⟩) (λm' hm'=>?_) (λb u e=>?_) I8.bare,qf⟩
 ·rw[List.mem_singleton.mp hb];exact⟨fC.2.2.2.1,fC.2.1,fC.2.2.2.2.1,fC.2.2.2.2.2⟩
 ·obtain⟨o',e1,e2,e3,e4,e5⟩:=hm';exact⟨o',e1,e2,kb _ _ fC.2.1.symm e3,e4,e5⟩
 ·refine(I8.hok b u e).stay (λc w' hc q=>kb c w' ?_ q) (λ_ q=>q) λ_ _ q=>q;rintro rfl;rcases hc with rfl | hc
  ·rw[hfC]at e;cases e
  ·rw[hfC]at hc;cases hc
end G
namespace G
open PySem L2
def Ite(K:aB)(a:AH):It:=
 ⟨λi H=>∃xs x,cB K H a xs/\xs[i]? =some x,λi H x H'=>∃t v,x=.ref t/\H t=none/\H'=upd H t (.tup [.int i,v])/\∀xs,cB K H a xs->xs[i]? =some v,λi H=>∃xs,cB K H a xs/\xs.length<=i⟩
def Zg0(K:aB)(c:TA):TI:=λσ H R=>c σ H λvs b=>∃a,vs=[.ref a]/\(∃xs,cB K b a xs)/\R (Ite K a) b
theorem ZD4{K:aB}{c:TA}{σ:L2.St}{H:Hp}{R:It->Hp->Prop}(h:c σ H λvs b=>∃a,vs=[.ref a]/\(∃xs,cB K b a xs)/\R (Ite K a) b):Zg0 K c σ H R:=h
def Og(v d:AH):HO:=.ext λh=>h.IsItemsView v d
def Zhh(d:TE):TE:=λσ H Q=>d σ H λx c=>∃a b,x=.ref a/\Rd c a (.dK b)/\∀v,c v=none->Q (.ref v) (upd c v (Og v a))
theorem Zva{d:TE}{σ:L2.St}{H:Hp}{Q:VK}(h:d σ H λx c=>∃a b,x=.ref a/\Rd c a (.dK b)/\∀v,c v=none->Q (.ref v) (upd c v (Og v a))):Zhh d σ H Q:=h
def Zgt(H:Hp):AE->List (Key×V)->Prop
 | [],[]=>True
 | t::ts,kv::a=>H t=some (.tup [kV kv.1,kv.2])/\Zgt H ts a
 | _,_=>False
def Zkv:List V->Hp->VK->Prop:=λxs H Q=>∃v a b,xs=[.ref v]/\H v=some (Og v a)/\Rd H a (.dK b)/\∀l ts H',H l=none->aW H H'->H' l=some (.lst (ts.map V.ref))->Zgt H' ts b->Q (.ref l) H'
theorem Zv9{H:Hp}{Q:VK}{v a:AH}{b:List (Key×V)}(h1:H v=some (Og v a))(h2:Rd H a (.dK b))(h:∀l ts H',H l=none->aW H H'->H' l=some (.lst (ts.map V.ref))->Zgt H' ts b->Q (.ref l) H'):Zkv [.ref v] H Q:=⟨v,a,b,rfl,h1,h2,h⟩
def Zvn(a:List (Key×V)):V->Option Bool
 | .int i=>some (oN a (.inl i)).isSome
 | .str x=>some (oN a (.inr x)).isSome
 | .non=>some false
 | _=>none
def Zp2(d:Bool)(ty g:TE):TE:=λσ H Q=>ty σ H λy f=>g σ f λx e=>∃a c b,x=.ref a/\Rd e a (.dK c)/\Zvn c y=some b/\Q (.bl (if d then !b else b)) e
theorem Zz5{d:Bool}{ty e:TE}{σ:L2.St}{H:Hp}{Q:VK}(h:ty σ H λy g=>e σ g λx f=>∃a c b,x=.ref a/\Rd f a (.dK c)/\Zvn c y=some b/\Q (.bl (if d then !b else b)) f):Zp2 d ty e σ H Q:=h
section
variable {K:aB}{a:AH}{g:TG}{tb:TS}{σ:L2.St}{H:Hp}{n:L2.St->Hp->Prop}{r:VK}
theorem ZBv(xs:List V)(Pv:Nat->L2.St->Hp->Prop)(l:Pv 0 σ H)(hl:∀i σ H,i<=xs.length->Pv i σ H->cB K H a xs)
  (hs:∀i x t σ H,xs[i]? =some x->Pv i σ H->H t=none->g (.ref t) σ (upd H t (.tup [.int i,x])) λb d=>tb ⟨Pv (i+1),r,n,Pv (i+1)⟩ b d) (hd:∀ σ H,Pv xs.length σ H->n σ H):
  ∃W:Nat->Nat->L2.St->Hp->Prop,(∃m,W 0 m σ H)/\∀i m σ H,W i m σ H->
   ((Ite K a).stop i H/\n σ H)\/((Ite K a).go i H/\∃N:L2.St->Hp->Prop,(∀ c H',N c H'->∃f,f<m/\W (i+1) f c H')/\∀x H',(Ite K a).yld i H x H'->g x σ H' λb d=>tb ⟨N,r,n,N⟩ b d):=by
 refine⟨λi m σ H=>i<=xs.length/\m=xs.length - i/\Pv i σ H,⟨xs.length,Nat.zero_le _,rfl,l⟩,?_⟩;rintro i m σ H ⟨j,rfl,p⟩;have hq:=hl i σ H j p
 by_cases hk:i=xs.length
 ·subst hk;exact .inl ⟨⟨xs,hq,Nat.le_refl _⟩,hd σ H p⟩
 ·have e:i<xs.length:=by omega
  have hx:xs[i]? =some xs[i]:=bM e;refine .inr ⟨⟨xs,_,hq,hx⟩,Pv (i+1),λc H' h=>⟨xs.length - (i+1),by omega,by omega,rfl,h⟩,?_⟩;rintro x H' ⟨t,v,rfl,k,rfl,hv⟩;exact hs i v t σ H (hv xs hq) p k
theorem Zuu{d:List Nat}{tc:TT}{j:TE}{Q:VK}{xs:List V}(hs:cB K H a xs)(hz:xs.length<=1000000)(W:Nat->List V->Hp->Prop)(s:W 0 [] H)(h:∀i c b,W i c b->aW H b/\c.length<=i)
  (step:∀i x c b t (C:List V->Hp->Prop),(∀f e,W (i+1) f e->C f e)->xs[i]? =some x->W i c b->b t=none->tc (some (.int i)::some x::d.map (pick σ)) (upd b t (.tup [.int i,x])) λk l=>if k=true then j (some (.int i)::some x::d.map (pick σ)) l (λy e=>C (c++[y]) e)else C c l)
  (q:∀c b,W xs.length c b->∀p,b p=none->Q (.ref p) (upd b p (.lst c))):Zwa K (Ite K a) d tc j σ H Q:=by
 refine⟨λi m c b=>i<=xs.length/\m=xs.length - i/\W i c b,⟨xs.length,Nat.zero_le _,rfl,s⟩,?_⟩;rintro i m c b ⟨z,rfl,w⟩;obtain⟨sm,hl⟩:=h i c b w;have hq:cB K b a xs:=sm.seq hs
 by_cases hk:i=xs.length
 ·subst hk;exact .inl ⟨⟨xs,hq,Nat.le_refl _⟩,q c b w⟩
 ·have g:i<xs.length:=by omega
  refine .inr ⟨⟨xs,_,hq,bM g⟩,Nat.lt_of_le_of_lt (show c.length<=1000000 by omega) (show 1000000<sizeLine by decide),?_⟩;rintro x u ⟨t,v,rfl,o,rfl,hv⟩;exact⟨t,_,_,rfl,gw.of aq,step i v c b t (λf e=>∃n,n<xs.length - i/\i+1<=xs.length/\n=xs.length - (i+1)/\W (i+1) f e) (λf e r=>⟨xs.length - (i+1),by omega,by omega,rfl,r⟩) (hv xs hq) w o⟩
end
end G
namespace G
open PySem L2 PySem.Spec PyProof.Rows
theorem Znj{X:Cx}{a:At}{σ:L2.St}{H:Hp}{s:AJ}{h':Heap}{t':Nat}{e d:AH}(I:Inv X a σ H s)(k:∀b u,b≠e->b≠d->s.heap.get? b=some u->h'.get? b=some u)(f:rY X a H e)(g:rY X a H d):
  Inv X a σ H { s with heap:=h',toks:=t' }:=by
 have ne:∀b u,H b=some u->b≠e:=λb u q z=>by rw[z,f.1]at q;cases q
 have h:∀b u,H b=some u->b≠d:=λb u q z=>by rw[z,g.1]at q;cases q
 have nm:∀b,b∉[e,d]->b≠e/\b≠d:=λb hb=>⟨λz=>hb (by simp[z]),λz=>hb (by simp[z])⟩;refine I.step (g':=s.gens) (d':=s.drawn) (ch:=[e,d]) (λb hb=>?_) (λb o _ _ hc q _=>k b o (nm b hc).1 (nm b hc).2 q) (λb o _ _ hc q _=>⟨o.slots,k b o (nm b hc).1 (nm b hc).2 q⟩) (λ_ _ _ _ n=>n)
  (λb o hc q=>⟨o,k b o (nm b hc).1 (nm b hc).2 q⟩) (λ_ _ q=>q) (λ_ _ _ q=>q) (λb t q=>⟨#[],by rw[q];simp⟩) (λm hm=>?_) (λb u q=>?_) I.bare
 ·rcases List.mem_cons.mp hb with z | z
  ·rw[z];exact⟨f.2.2.2.1,f.2.1,f.2.2.2.2.1,f.2.2.2.2.2⟩
  ·have l:b=d:=by simpa using z
   rw[l];exact⟨g.2.2.2.1,g.2.1,g.2.2.2.2.1,g.2.2.2.2.2⟩
 ·obtain⟨o,p,i,j,r⟩:=hm;exact⟨o,p,i,k _ o (Ne.symm f.2.1) (Ne.symm g.2.1) j,r⟩
 ·refine(I.hok b u q).stay (λc v hc z=>?_) (λ_ z=>z) λ_ _ z=>z;rcases hc with y | y
  ·rw[y]at z ⊢;exact k b v (ne b u q) (h b u q) z
  ·exact k c v (ne c _ y) (h c _ y) z
theorem U4{X:Cx}{d:At}{σ:L2.St}{H:Hp}{s:AJ}{h':Heap}{t':Nat}{e f a:AH}{o:HO}(I:Inv X d σ H s)(k:∀b u,b≠e->b≠f->s.heap.get? b=some u->h'.get? b=some u)(g:rY X d H e)(h:rY X d H f)
  (i:s.heap.objs.size<=a) (new:lM X.prog X.w (upd H a o) h' a o):Inv X d σ (upd H a o) { s with heap:=h',toks:=t' }:=by
 have hn:=I.hok.fresh i;have ne:∀b u,H b=some u->b≠e:=λb u q z=>by rw[z,g.1]at q;cases q
 have j:∀b u,H b=some u->b≠f:=λb u q z=>by rw[z,h.1]at q;cases q
 have nm:∀b,b∉[e,f]->b≠e/\b≠f:=λb hb=>⟨λz=>hb (by simp[z]),λz=>hb (by simp[z])⟩;have B:∀b u,s.heap.get? b=some u->b≠a:=λb u q=>Nat.ne_of_lt (Nat.lt_of_lt_of_le (Heap.lt_size q) i);refine I.step (g':=s.gens) (d':=s.drawn) (ch:=[e,f]) (λb hb=>?_) (λb o _ _ hc q _=>k b o (nm b hc).1 (nm b hc).2 q) (λb o _ _ hc q _=>⟨o.slots,k b o (nm b hc).1 (nm b hc).2 q⟩) (λb u _ q n=>(aC (B b u q)).trans n)
  (λb o hc q=>⟨o,k b o (nm b hc).1 (nm b hc).2 q⟩) (λb l q=>(aC (aD q hn)).trans q) (λb o l q=>(aC (aD q hn)).trans q) (λb C q=>⟨#[],by rw[aC (aD q hn),q];simp⟩) (λm hm=>?_) (λb u q=>?_) I.bare
 ·rcases List.mem_cons.mp hb with z | z
  ·rw[z];exact⟨g.2.2.2.1,g.2.1,g.2.2.2.2.1,g.2.2.2.2.2⟩
  ·have x:b=f:=by simpa using z
   rw[x];exact⟨h.2.2.2.1,h.2.1,h.2.2.2.2.1,h.2.2.2.2.2⟩
 ·obtain⟨o,A,p,t,r⟩:=hm;exact⟨o,A,p,k _ o (Ne.symm g.2.1) (Ne.symm h.2.1) t,r⟩
 ·by_cases hb:b=a
  ·subst hb;rw[aq]at q;cases q;exact new
  ·rw[aC hb]at q;refine(I.hok b u q).stay (λc v hc z=>?_) (λc z=>by rw[aC (aD z hn)];exact z) λc l z=>by rw[aC (aD z hn)];exact z
   rcases hc with y | y
   ·rw[y]at z ⊢;exact k b v (ne b u q) (j b u q) z
   ·exact k c v (ne c _ y) (j c _ y) z
theorem Zmd{P:AL}{w:AN}{K:aB}{B:AF}{x1:Nat}{pt:Pos}(a e f:AH)(C:e≠f):
    Turn P w K (.Tuple B x1 pt) (Ite K a) [e,f] e (λi h=>(∃old,IsEnum h e f ((i:Nat):Int) old)/\h.IsListIter f a i) where
  mem:=by simp
  obj:=λi h st b hb=>by
    obtain⟨⟨old,j⟩,o,ho,c,d⟩:=st;rcases List.mem_cons.mp hb with z | z
    · rw[z];exact⟨_,j,λv z=>by cases z⟩
    · have J:b=f:=by simpa using z
      rw[J];exact⟨o,ho,λv z=>by rw[d]at z;cases z⟩
  keep:=λi h h' st k=>⟨let ⟨old,j⟩:=st.1;⟨old,k e (by simp) _ j⟩,st.2.at λo q=>k f (by simp) o q⟩
  item:=by
    intro X N F V hc i m s σ H E I y st D;subst N F V;obtain⟨xs,x,hq,hx⟩:=D;obtain⟨L,T,p,hz⟩:=I.list hq;obtain⟨u,hu,ru⟩:=T.get hx;obtain⟨⟨old,j⟩,l⟩:=st;have Y:=y e (by simp);have Z:=y f (by simp);have r:e<s.heap.objs.size:=Heap.lt_size j;have R:f<s.heap.objs.size:=by obtain⟨o,q,_⟩:=l;exact Heap.lt_size q
    refine wpAny_pyNext_enum_item j l p.isList (x:=u) (by simpa using hu) C λh1 W t M hz1 O=>?_;refine⟨_,rfl,wpAny_letOwnedTupleGo_enum (s:={ s with heap:=h1,toks:=s.toks+1 }) W λh2 U g=>?_⟩
    replace g:Heap.SameBut e h1 h2:=g
    have hn:H s.heap.objs.size=none:=I.hok.fresh (Nat.le_refl _);have I2:Inv X m σ (upd H s.heap.objs.size (.tup [.int ((i:Nat):Int),x])) { s with heap:=h2,toks:=s.toks+1 }:=by
      refine U4 I (λb v hb n q=>g.extBut b v hb (O b v hb n q)) Y Z (Nat.le_refl _) ?_;refine⟨by show 2<=sizeLine;decide,[.int ((i:Nat):Int) s.toks,u],.cons ⟨_,rfl⟩ (.cons ru .nil),⟨_,g.extBut _ _ (Nat.ne_of_gt r) M,rfl,_,rfl⟩⟩
    refine⟨.ref s.heap.objs.size,_,I2,rfl,⟨_,x,rfl,hn,rfl,λys hy=>by rw[I.Zfi hy hq];exact hx⟩,⟨⟨u,?_⟩,t.extBut g.extBut (Ne.symm C)⟩,λb hb=>?_⟩
    · have e1:(((i+1:Nat)):Int)=(i:Int)+1:=by omega
      show IsEnum h2 e f (((i+1:Nat)):Int) u;rw[e1];exact U
    · rcases List.mem_cons.mp hb with z | z
      · rw[z,aC (Nat.ne_of_lt r)];exact Y.1
      · have J:b=f:=by simpa using z
        rw[J,aC (Nat.ne_of_lt R)];exact Z.1
  done:=by
    intro X N F V hc i m s σ H E I y st D;subst N F V;obtain⟨xs,hq,hx⟩:=D;obtain⟨L,T,p,hz⟩:=I.list hq;obtain⟨⟨old,j⟩,l⟩:=st;have hl:=T.length;exact wpAny_pyNext_enum_end (I.ok.hd hc) j l p.isList (by simp;omega) λh' S=>⟨rfl,Znj (t':=s.toks) I (λb o _ n q=>S b o n q) (y e (by simp)) (y f (by simp))⟩
  self:=λA i s Q E st h=>let ⟨_,j⟩:=st.1;wpAny_pyIter_enum j h
theorem Zao{X:Cx}{g:AF}{B:Nat}{pt:Pos}{l:AM}{n:TA}{p f:Pos}(t:Gl X "enumerate")(hm:X.mg "enumerate"=none)(y:PA X [l] n)(hs:starEach [l] X.env=[(false,eval l X.env)]:=by rfl):
  PI X (.Tuple g B pt) (.Call (.Name "enumerate" p) [l] [] f) (Zg0 X.K n):=by
 intro c s o H R I h;refine Call_ (Uu I t hm boot_enumerate (PyProof.Rows.callWith_type1 (iW (y f c s o H _ I h) λus d ⟨D,H1,I1,r1,q1⟩=>?_) hs rfl));obtain⟨a,e,⟨E,hq⟩,q⟩:=q1;subst e;cases r1 with
 | cons r A=>
  cases A;obtain rfl:_=Value.ref a:=r;obtain⟨w,F,x,hz⟩:=I1.list hq;refine call_enumerate_list x.isList λm j i u hk=>?_;have C:Inv X c o H1 { d with heap:=m }:=I1.kept (t':=d.toks) hk
  refine wpAny_pyIter_enum (s:={ d with heap:=m }) j ?_;have k:∀b,d.heap.objs.size<=b->rY X c H1 b:=λb hb=>I1.Zg4 hb (I1.hok.fresh hb);refine⟨_,[d.heap.objs.size+1,d.heap.objs.size],_,_,H1,rfl,C,Zmd a _ _ (Nat.succ_ne_self _),⟨⟨_,j⟩,i⟩,λb hb=>?_,q⟩;rcases List.mem_cons.mp hb with z | z
  ·rw[z];exact k _ (Nat.le_succ _)
  ·have v:b=d.heap.objs.size:=by simpa using z
   rw[v];exact k _ (Nat.le_refl _)
theorem Znk{X:Cx}{d:At}{σ:L2.St}{H:Hp}{s:AJ}{a:AH}{o:HO}(I:Inv X d σ H s)(f:rY X d H a)(new:lM X.prog X.w (upd H a o) s.heap a o):Inv X d σ (upd H a o) s:=by
 have hn:=f.1;have r:Inv X d σ (upd H a o) { s with heap:=s.heap,gens:=s.gens,drawn:=s.drawn,toks:=s.toks }:=by
  refine I.step (g':=s.gens) (t':=s.toks) (d':=s.drawn) (ch:=[a]) (λb hb=>?_) (λb u _ _ _ q _=>q) (λb u _ _ _ q _=>⟨u.slots,q⟩) (λb u hc q n=>(aC (λz=>hc (by simp[z]))).trans n) (λb u _ q=>⟨u,q⟩)
   (λb e q=>(aC (aD q hn)).trans q) (λb u e q=>(aC (aD q hn)).trans q) (λb g q=>⟨#[],by rw[aC (aD q hn),q];simp⟩) (λm hm=>hm) (λb u q=>?_) I.bare
  ·have z:b=a:=by simpa using hb
   rw[z];exact⟨f.2.2.2.1,f.2.1,f.2.2.2.2.1,f.2.2.2.2.2⟩
  ·by_cases hb:b=a
   ·subst hb;rw[aq]at q;cases q;exact new
   ·rw[aC hb]at q;exact(I.hok b u q).stay (λc v _ z=>z) (λc z=>by rw[aC (aD z hn)];exact z) λc e z=>by rw[aC (aD z hn)];exact z
 exact r
theorem Zk4{X:Cx}{c:At}{H:Hp}{a b:AH}{o:HO}(f:rY X c H b)(h:b≠a):rY X c (upd H a o) b:=⟨(aC h).trans f.1,f.2⟩
theorem ZB1{P:AL}{w:AN}{k:Key}{u:AI}(h:(fL P w).is k u=true):RelV (kV k) u:=by
 rcases fM h with ⟨i,t,rfl,rfl⟩ | ⟨x,t,rfl,rfl⟩
 ·exact⟨t,rfl⟩
 ·exact⟨t,rfl⟩
theorem Zq3{X:Cx}{o:AM}{m:TE}{d c:Pos}(j:PE X o m)(g:attributeBase o "items" X.env (eval o X.env)=eval o X.env:=by rfl)(f:(d.endLine == c.line)=true:=by rfl):
  PE X (.Call (.Attribute o "items" d) [] [] c) (Zhh m):=by
 intro i s t H Q I h;refine wpAny_Call_method0_late g f (iW (j i s t H _ I h) λu l ⟨x,H1,I1,rx,a,kvs,ex,rd,q⟩=>?_);subst ex;obtain rfl:u=Value.ref a:=rx;obtain⟨t1,t2,hd⟩:=Zrf I1 (.inl ⟨kvs,rd⟩);obtain⟨z,_,n,rel,p⟩:=Le I1.hok rd;refine⟨"dict","dict.items",PySem.F.plainAttrs_dict,PySem.F.slot_dict_items,PySem.F.type_dict_items,t1,t2,Calls.callWith_builtin rfl (PySem.evalArgs_none ?_)⟩;refine call_meetsIn PySem.F.slot_dict_items t1 PySem.F.entry_dict_items (PySem.F.args_dict_items_1 _) (meets_dict_items (fL X.prog X.w) a hd) ⟨⟨n,p⟩,?_⟩;have hn:=I1.hok.fresh (Nat.le_refl _);refine⟨.ref l.heap.objs.size,_,I1.laid (t':=l.toks) (λb u e=>Heap.get?_push_of_some _ e) (Nat.le_refl _) ?_,rfl,q _ hn⟩;exact⟨⟨_,Heap.get?_push_size _ rfl,rfl,rfl⟩,⟨_,Heap.get?_push_size _ rfl⟩,λh1 h2 ⟨o,j,r⟩ k=>⟨o,k o j,r⟩⟩
theorem PJ{X:Cx}{c:At}{σ:L2.St}{s:AJ}:∀(g:AE) (d:List (Key×V)) (vs:List (Key×AI)) (H:Hp),Inv X c σ H s->g.Nodup->(∀a∈g,rY X c H a)->g.length=d.length->KV d vs->
  (∀(j:Nat) (a:AH),g[j]? =some a->∃f k x,vs[j]? =some (k,x)/\(fL X.prog X.w).is k f=true/\s.heap.get? a=some { cls:=.type "tuple",data:=.seq #[f,x] })->
  ∃H',Inv X c σ H' s/\aW H H'/\Zgt H' g d
 | [],[],_,H,I,_,_,_,_,_=>⟨H,I,λ_ _ h=>h,trivial⟩
 | [],_::_,_,_,_,_,_,hl,_,_=>by simp at hl
 | _::_,[],_,_,_,_,_,hl,_,_=>by simp at hl
 | a::g,i::d,vs,H,I,nd,n,hl,r,p=>by
  cases r with
  | cons F rs=>
   rename_i q A
   obtain⟨f,k,x,e,hk,t⟩:=p 0 a rfl;have E:q=(k,x):=by simpa using e
   subst E;obtain⟨B,v⟩:=F;have m:=n a (by simp);have D:a∉g:=(List.nodup_cons.mp nd).1;have l:i.1=k:=B;have u:Inv X c σ (L2.upd H a (.tup [kV i.1,i.2])) s:=Znk I m ⟨by show 2<=sizeLine;decide,[f,x],.cons (by rw[l];exact ZB1 hk) (.cons v .nil),⟨_,t,rfl,_,rfl⟩⟩;obtain⟨H',y,sm,C⟩:=PJ g d A _ u (List.nodup_cons.mp nd).2 (λb hb=>Zk4 (n b (by simp[hb])) λz=>D (z ▸ hb)) (by simpa using hl) rs (λj b hb=>by simpa using p (j+1) b (by simpa using hb));refine⟨H',y,λb o hb=>sm b o ?_,sm _ _ aq,C⟩;rw[aC (aD hb m.1)];exact hb
theorem YD:∀a:AE,Vals (a.map V.ref) (a.map Value.ref)
 | []=>.nil
 | _::a=>.cons rfl (YD a)
theorem Zku{X:Cx}(hc:X.calm=true):QF X (.type "list") Zkv:=by
 intro f s F H K us Q I r h;obtain⟨v,a,k,rfl,hv,y,q⟩:=h;obtain⟨u,rfl,x⟩:=Vals.one r;obtain rfl:u=Value.ref v:=x;have l:s.heap.IsItemsView v a:=(show lM X.prog X.w H s.heap v (Og v a)from I.hok v _ hv).1;obtain⟨z,hd,A,rel,E⟩:=Le I.hok y;obtain⟨J,hm⟩:=E.dictAt;have hl:=rel.length;refine W.kdx_call (I.ok.hd hc) l hm (by rw[<- hl];exact z) λB tk m c d hk p e i g=>?_;have hn:=I.hok.fresh (Nat.le_refl s.heap.objs.size);have t:Inv X f F (upd H s.heap.objs.size (.lst (d.map V.ref))) { s with heap:=B,toks:=tk }:=by
  refine I.laid hk (Nat.le_refl _) ⟨by rw[aY,e,<- hl];exact z,m.toList,c,by rw[g];exact YD d,by rw[Array.toArray_toList];exact p⟩
 have nd:d.Nodup:=i.rise.imp λh=>Nat.ne_of_lt h;obtain⟨n,C,sm,D⟩:=PJ d k A _ t nd (λb hb=>Zk4 (I.Zg4 (Nat.le_of_lt (i.above b hb)) (I.hok.fresh (Nat.le_of_lt (i.above b hb)))) (Nat.ne_of_gt (i.above b hb))) (by rw[e,hl]) rel (λj b hb=>i.pairs j b hb);refine⟨.ref s.heap.objs.size,n,C,rfl,q _ d n hn (λb o hb=>sm b o ?_) (sm _ _ aq) D⟩;rw[aC (aD hb hn)];exact hb
theorem Zs3{X:Cx}{e:At}{σ:L2.St}{H:Hp}{s:AJ}{a:AH}{o:Obj}{d:List (Key×V)}(I:Inv X e σ H s)(h:H a=some (.dK d))(g:s.heap.get? a=some o):Inv X e σ (upd H a (.Ac o (.dK d))) s:=by
 have ne:∀b u,H b=some u->u≠.dK d->b≠a:=λb u q n z=>n (by rw[z,h]at q;exact(Option.some.inj q).symm);have r:Inv X e σ (upd H a (.Ac o (.dK d))) { s with heap:=s.heap,gens:=s.gens,drawn:=s.drawn,toks:=s.toks }:=by
  refine I.step (g':=s.gens) (t':=s.toks) (d':=s.drawn) (ch:=[]) (λb hb=>nomatch hb) (λb u _ _ _ q _=>q) (λb u _ _ _ q _=>⟨u.slots,q⟩) (λb u hc q n=>(aC (λz=>by rw[z,h]at n;cases n)).trans n) (λb u _ q=>⟨u,q⟩)
   (λb f q=>(aC (ne b _ q (λz=>by cases z))).trans q) (λb u f q=>(aC (ne b _ q (λz=>by cases z))).trans q) (λb i q=>⟨#[],by rw[aC (ne b _ q (λz=>by cases z)),q];simp⟩) (λm hm=>hm) (λb u q=>?_) I.bare
  have hs:∀c u,H c=some u->u≠.dK d->upd H a (.Ac o (.dK d)) c=some u:=λc u z n=>by rw[aC (ne c u z n)];exact z
  by_cases hb:b=a
  ·subst hb;rw[aq]at q;cases q;exact⟨g,(I.hok b _ h).stay (λc v _ z=>z) (λc z=>hs c _ z (λy=>by cases y)) λc f z=>hs c _ z (λy=>by cases y)⟩
  ·rw[aC hb]at q;exact(I.hok b u q).stay (λc v _ z=>z) (λc z=>hs c _ z (λy=>by cases y)) λc f z=>hs c _ z (λy=>by cases y)
 exact r
def Zyi:Option Key->AI->Bool
 | none,.none=>true
 | none,_=>false
 | some k,v=>KN k v
theorem nA{k:Option Key}{v:AI}(h:Zyi k v=true):(k=none/\v=.none)\/∃j,k=some j/\KN j v=true:=by
 cases k with
 | none=>cases v<;>first | exact .inl ⟨rfl,rfl⟩ | cases h
 | some j=>exact .inr ⟨j,rfl,h⟩
theorem Uz{j:Key}(h:KN j Value.none=true):False:=by
 rcases fM h with ⟨i,t,_,e⟩ | ⟨x,t,_,e⟩<;>cases e
def Zy7(P:AL)(w:AN):PySem.KeyKind P w (Option Key) where
  is:=Zyi
  hash:=λk=>match k with | none=>reduceHash 0xFCA86420 | some k=>ZB0 w k
  inj:=λv a b c hb=>by
    rcases nA c with ⟨rfl,rfl⟩ | ⟨i,rfl,h1⟩
    · rcases nA hb with ⟨rfl,_⟩ | ⟨j,rfl,h2⟩
      · rfl
      · exact(Uz h2).elim
    · rcases nA hb with ⟨rfl,rfl⟩ | ⟨j,rfl,h2⟩
      · exact(Uz h1).elim
      · rw[(fL P w).inj v i j h1 h2]
  byValue:=λk v h=>by
    rcases nA h with ⟨rfl,rfl⟩ | ⟨i,rfl,h1⟩
    · rfl
    · exact(fL P w).byValue i v h1
  pyHash:=λ{A E s k v Q} hv h=>by
    rcases nA hv with ⟨rfl,rfl⟩ | ⟨i,rfl,h1⟩
    · exact W.pyHash_slot (T:="NoneType") rfl F.slot_NoneType_hash F.entry_NoneType_hash (F.args_NoneType_hash_1 _) (beq_builtin_none _) (.inl rfl) (wpAny_bind (wpAny_pure (wpAny_bind (wpAny_mkInt (wpAny_pure ⟨_,_,rfl,h⟩)))))
    · exact(fL P w).pyHash h1 h
  eqBool:=λ{A E s a b u v Q} hu hv h=>by
    rcases nA hu with ⟨rfl,rfl⟩ | ⟨i,rfl,h1⟩
    · rcases nA hv with ⟨rfl,rfl⟩ | ⟨j,rfl,h2⟩
      · exact Cz (A:=A) (s:=s) (y:=.non) (x:=.non) rfl rfl rfl rfl P w E Q h
      · rcases fM h2 with ⟨n,t,rfl,rfl⟩ | ⟨x,t,rfl,rfl⟩
        · exact Cz (A:=A) (s:=s) (y:=.non) (x:=.int n) rfl ⟨t,rfl⟩ rfl rfl P w E Q h
        · exact Cz (A:=A) (s:=s) (y:=.non) (x:=.str x) rfl ⟨t,rfl⟩ rfl rfl P w E Q h
    · rcases nA hv with ⟨rfl,rfl⟩ | ⟨j,rfl,h2⟩
      · rcases fM h1 with ⟨n,t,rfl,rfl⟩ | ⟨x,t,rfl,rfl⟩
        · exact Cz (A:=A) (s:=s) (y:=.int n) (x:=.non) ⟨t,rfl⟩ rfl rfl rfl P w E Q h
        · exact Cz (A:=A) (s:=s) (y:=.str x) (x:=.non) ⟨t,rfl⟩ rfl rfl rfl P w E Q h
      · refine(fL P w).eqBool h1 h2 ?_
        have e:decide (i=j)=decide (some i=some j):=by
          by_cases z:i=j
          · subst z;simp
          · rw[decide_eq_false z,decide_eq_false (λy=>z (Option.some.inj y))]
        rw[e];exact h
  «strs»:=λk x t v h=>by
    rcases nA h with ⟨_,e⟩ | ⟨i,rfl,h1⟩
    · cases e
    · exact(fL P w).strs i x t v h1
theorem Zqe{P:AL}{w:AN}{h:Heap}{a:AH}{vs:List (Key×AI)}(dd:h.DictOf (fL P w) a vs):∃f,h.MapOf (Zy7 P w) a f/\f none=none:=by
 obtain⟨o,c,d,g,hc,hd,hk,hp,hn⟩:=dd;refine⟨λk=>findBy (Zy7 P w).is c k,⟨o,c,d,g,hc,hd,λe b=>?_,λ_=>rfl⟩,?_⟩
 ·obtain⟨k,h1,h2⟩:=hk e b;exact⟨some k,h1,h2⟩
 ·show Option.map (λx=>x.val) (Array.find? (λe=>Zyi none e.key) c)=none;rw[Option.map_eq_none_iff,Array.find?_eq_none];intro e b;obtain⟨k,h1,_⟩:=hk e b;rcases fM h1 with ⟨n,t,_,z⟩ | ⟨x,t,_,z⟩<;>rw[z]<;>exact λy=>nomatch y
section
variable {X:Cx}{i o:AM}{ty td:TE}
theorem Zk2{a:List (Key×V)}{y:V}{b:Bool}(h:Zvn a y=some b):(∃k,y=kV k/\b=(oN a k).isSome)\/(y=.non/\b=false):=by
 cases y<;>simp only[Zvn,Option.some.injEq]at h<;>first | cases h
 ·exact .inr ⟨rfl,rfl⟩
 ·exact .inl ⟨.inl _,rfl,rfl⟩
 ·exact .inl ⟨.inr _,rfl,rfl⟩
theorem Ziq(hu:X.A.units+1<cLine)(g:PE X i ty)(j:PE X o td):PC X .NotIn i o (Zp2 true ty td):=by
 intro c s d H Q I h;refine iW (g c s d H _ I h) λp n ⟨y,H1,I1,ry,h1⟩=>?_;refine iW (j c n d H1 _ I1 h1) λe u ⟨x,H2,I2,rx,a,kvs,b,ex,rd,hb,q⟩=>?_;subst ex;obtain rfl:e=Value.ref a:=rx;rcases Zk2 hb with ⟨k,rfl,rfl⟩ | ⟨rfl,rfl⟩
 ·exact Zm0 hu I2 (.inl ⟨kvs,k,rd,rfl,rfl⟩) ry λt m=>⟨.bl _,H2,m,rfl,q⟩
 ·obtain rfl:p=Value.none:=ry;obtain⟨z,hd,v,rel,r⟩:=Le I2.hok rd;obtain⟨f,hm,l⟩:=Zqe r;refine wpAny_notIn_of (knd:=Zy7 X.prog X.w) (k:=none) rfl hd hm ?_;rw[l];exact⟨.bl _,H2,I2.tok _,rfl,q⟩
end
section
variable {X:Cx}
end
section
variable {X:Cx}{x1 x2 x3 x4:Str}{C1 C2 C3 C4:AH}{pos np1 np2 np3 np4 hp1 hp2 hp3 hp4:Pos}{body su1 su2 su3 su4:List Stmt}{b1 b2 b3 b4:Stmt}{M1 M2 M3 M4:AI->Prop}{tb:(L2.St->XK)->TS}{t1 t2 t3 t4:TS}
end
end G
namespace G
open PySem L2
end G
namespace G
open PySem L2 PySem.Spec PyProof.Rows
def PB(v d:AH):HO:=.ext λh=>h.IsValuesView v d
def Zoy(d:TE):TE:=λσ H Q=>d σ H λx c=>∃a b,x=.ref a/\Rd c a (.dK b)/\∀v,c v=none->Q (.ref v) (upd c v (PB v a))
theorem Zyl{d:TE}{σ:L2.St}{H:Hp}{Q:VK}(h:d σ H λx c=>∃a b,x=.ref a/\Rd c a (.dK b)/\∀v,c v=none->Q (.ref v) (upd c v (PB v a))):Zoy d σ H Q:=h
theorem Zmv{X:Cx}{o:AM}{m:TE}{d c:Pos}(j:PE X o m)(g:attributeBase o "values" X.env (eval o X.env)=eval o X.env:=by rfl)(f:(d.endLine == c.line)=true:=by rfl):
  PE X (.Call (.Attribute o "values" d) [] [] c) (Zoy m):=by
 intro i s t H Q I h;refine wpAny_Call_method0_late g f (iW (j i s t H _ I h) λu l ⟨x,H1,I1,rx,a,kvs,ex,rd,q⟩=>?_);subst ex;obtain rfl:u=Value.ref a:=rx;obtain⟨t1,t2,hd⟩:=Zrf I1 (.inl ⟨kvs,rd⟩);obtain⟨z,_,n,rel,p⟩:=Le I1.hok rd;refine⟨"dict","dict.values",PySem.F.plainAttrs_dict,PySem.F.slot_dict_values,PySem.F.type_dict_values,t1,t2,Calls.callWith_builtin rfl (PySem.evalArgs_none ?_)⟩;refine call_meetsIn PySem.F.slot_dict_values t1 PySem.F.entry_dict_values (PySem.F.args_dict_values_1 _) (meets_dict_values (fL X.prog X.w) a hd) ⟨⟨n,p⟩,?_⟩;have hn:=I1.hok.fresh (Nat.le_refl _);refine⟨.ref l.heap.objs.size,_,I1.laid (t':=l.toks) (λb u e=>Heap.get?_push_of_some _ e) (Nat.le_refl _) ?_,rfl,q _ hn⟩;exact⟨⟨_,Heap.get?_push_size _ rfl,rfl,rfl⟩,⟨_,Heap.get?_push_size _ rfl⟩,λh1 h2 ⟨o,j,r⟩ k=>⟨o,k o j,r⟩⟩
def Itv(a:AH)(o:Obj)(b:List (Key×V)):It:=
 ⟨λi H=>H a=some (.Ac o (.dK b))/\i<b.length,λi H x H'=>H'=H/\∃kv,b[i]? =some kv/\x=kv.2,λi H=>H a=some (.Ac o (.dK b))/\b.length<=i⟩
def Zrq(d:TE):TI:=λσ H R=>d σ H λx c=>∃v a b,x=.ref v/\c v=some (PB v a)/\c a=some (.dK b)/\∀o,R (Itv a o b) (upd c a (.Ac o (.dK b)))
theorem ZD1{d:TE}{σ:L2.St}{H:Hp}{R:It->Hp->Prop}(h:d σ H λx c=>∃v a b,x=.ref v/\c v=some (PB v a)/\c a=some (.dK b)/\∀o,R (Itv a o b) (upd c a (.Ac o (.dK b)))):Zrq d σ H R:=h
theorem YF{b c:Type}{R:b->c->Prop}:∀{xs:List b}{a:List c},Paired R xs a->∀(i:Nat) x y,xs[i]? =some x->a[i]? =some y->R x y
 | _,_,.nil,_,_,_,h,_=>by simp at h
 | _,_,.cons r rs,0,_,_,h1,h2=>by
  cases h1;cases h2;exact r
 | _,_,.cons r rs,i+1,_,_,h1,h2=>YF rs i _ _ (by simpa using h1) (by simpa using h2)
theorem Zmb{P:AL}{w:AN}{K:aB}{tg:AM}(a p:AH)(o:Obj)(f:List (Key×V))(y:Nat)(u:∃R,o.data=.dict R y):Turn P w K tg (Itv a o f) [p] p (λi h=>h.IsValIter p a i f.length y) where
  mem:=by simp
  obj:=λi h st b hb=>by
    have e:b=p:=by simpa using hb
    subst e;obtain⟨o,e,c,d⟩:=st;exact⟨o,e,λv z=>by rw[d]at z;cases z⟩
  keep:=λi h B st k=>by
    obtain⟨o,e,r⟩:=st;exact⟨o,k p (by simp) o e,r⟩
  item:=by
    intro X O F U hc i m s Z H E I A st C;subst O F U;obtain⟨hz,Y⟩:=C;obtain⟨M,z,hd,g,rel,W⟩:s.heap.get? a=some o/\f.length<=sizeLine/\(a == sysModules)=false/\∃g,KV f g/\s.heap.DictOf (fL X.prog X.w) a g:=I.hok a _ hz;obtain⟨q,hm⟩:=W.dictAt;obtain⟨R,n⟩:=u;have L:q=y:=by
      obtain⟨o',S,j,_,l,_⟩:=id hm;rw[M]at j;cases j;rw[n]at l;injection l with _ e;exact e.symm
    subst L;have hl:=rel.length;have hv:g[i]? =some g[i]:=bM (by omega);have t:f[i]? =some f[i]:=bM Y;have hk:RelV f[i].2 g[i].2:=(YF rel i _ _ t hv).2;obtain⟨Q,J,f2,T,N,D⟩:=A p (by simp);rw[hl]at st;refine wpAny_pyNext_values_item st hm (k:=g[i].1) (v:=g[i].2) (by rw[hv]) λB x sb=>?_;have I1:Inv X m Z H { s with heap:=B }:=I.turned (t':=s.toks) (λb o hb e=>(sb.2 b hb).trans e) Q J T N D;obtain⟨oi,e,c,d⟩:=id x;exact⟨_,rfl,Zrz (s:={ s with heap:=B }) e c d (by decide) ⟨f[i].2,H,I1,hk,⟨rfl,_,t,rfl⟩,by rw[hl];exact x,λb hb=>(A b hb).1⟩⟩
  done:=by
    intro X O F U hc i m s Z H E I A st C;subst O F U;obtain⟨hz,Y⟩:=C;obtain⟨M,z,hd,g,rel,W⟩:s.heap.get? a=some o/\f.length<=sizeLine/\(a == sysModules)=false/\∃g,KV f g/\s.heap.DictOf (fL X.prog X.w) a g:=I.hok a _ hz;obtain⟨q,hm⟩:=W.dictAt;obtain⟨R,n⟩:=u;have L:q=y:=by
      obtain⟨o',S,j,_,l,_⟩:=id hm;rw[M]at j;cases j;rw[n]at l;injection l with _ e;exact e.symm
    subst L;have hl:=rel.length;obtain⟨Q,J,f2,T,N,D⟩:=A p (by simp);rw[hl]at st;exact wpAny_pyNext_values_end (I.ok.hd hc) st hm (by rw[List.getElem?_eq_none];omega) λB eb=>⟨rfl,I.turned (t':=s.toks) (λb o hb e=>eb b o hb e) Q J T N D⟩
  self:=λ_ _ _ _ _ st h=>wpAny_pyIter_valiter st h
theorem Zty{X:Cx}{tg:AM}{e:AM}{l:TE}(n:PE X e l):PI X tg e (Zrq l):=by
 intro d s w H R I h;refine iW (n d s w H _ I h) λu c ⟨x,H1,I1,r1,q1⟩=>?_;obtain⟨v,a,f,e,hv,hq,q⟩:=q1;subst e;obtain rfl:u=Value.ref v:=r1;have i:c.heap.IsValuesView v a:=(I1.hok v _ hv).1;obtain⟨z,hs,y,rel,t⟩:=Zwu I1.hok hq;obtain⟨m,hm⟩:=t.dictAt;obtain⟨o,p,k,_,g,_⟩:=id hm;refine wpAny_pyIter_values i hm ?_;have r:=Zs3 I1 hq k;have j:c.heap.objs.size≠a:=Nat.ne_of_gt (Heap.lt_size k);refine⟨c.heap.objs.size,[c.heap.objs.size],_,_,_,rfl,r.kept (t':=c.toks) λb o e=>Heap.get?_push_of_some _ e,Zmb a _ o f m ⟨p,g⟩,?_,λb hb=>?_,q o⟩
 ·rw[rel.length];exact⟨_,Heap.get?_push_size _ rfl,rfl,rfl⟩
 ·have e:b=c.heap.objs.size:=by simpa using hb
  subst e;exact Zk4 (I1.Zg4 (Nat.le_refl _) (I1.hok.fresh (Nat.le_refl _))) j
theorem Zme{X:Cx}{f:At}{σ:L2.St}{H:Hp}{s:AJ}{a:AH}{o:Obj}{d:List (Key×V)}(I:Inv X f σ H s)(h:H a=some (.Ac o (.dK d)))(hn:∀E u,X.H₀ a≠some (.Ac E u)):Inv X f σ (upd H a (.dK d)) s:=by
 have ne:∀b u,H b=some u->u≠.Ac o (.dK d)->b≠a:=λb u q n z=>n (by rw[z,h]at q;exact(Option.some.inj q).symm);have k:∀b,H b=none->upd H a (.dK d) b=none:=λb q=>(aC (λz=>by rw[z,h]at q;cases q)).trans q;have hs:∀c u,H c=some u->u≠.Ac o (.dK d)->upd H a (.dK d) c=some u:=λc u z n=>by rw[aC (ne c u z n)];exact z
 obtain⟨t,D,C,g,B,M,L,K,F,j,l⟩:=I;refine⟨t,D,C,⟨g.keep,g.slot,λb ob e n hx=>k b (g.free b ob e n hx),g.there,λb m e=>hs b _ (g.tups b m e) (λz=>by cases z),λb ob u e=>(aC (a:=a) (b:=b) (λz=>hn ob u (by rw[<- z];exact e))).trans (g.Jt b ob u e),λb J e=>?_⟩,B,M,k _ L,λx c e=>k _ (K x c e),λp hp=>?_,λb u q=>?_,l⟩
 ·obtain⟨i,q⟩:=g.JC b J e;exact⟨i,hs b _ q (λz=>by cases z)⟩
 ·obtain⟨A,w,r⟩:=F p hp;exact⟨A,k _ w,r⟩
 ·by_cases hb:b=a
  ·subst hb;rw[aq]at q;cases q;exact(j b _ h).2.stay (λc v _ z=>z) (λc z=>hs c _ z (λy=>by cases y)) λc m z=>hs c _ z (λy=>by cases y)
  ·rw[aC hb]at q;exact(j b u q).stay (λc v _ z=>z) (λc z=>hs c _ z (λy=>by cases y)) λc m z=>hs c _ z (λy=>by cases y)
def Zoz(H0:Hp)(d:TE):TE:=λσ H Q=>d σ H λx c=>∃a o b,c a=some (.Ac o (.dK b))/\(∀e u,H0 a≠some (.Ac e u))/\Q x (upd c a (.dK b))
theorem Zym{H0:Hp}{d:TE}{σ:L2.St}{H:Hp}{Q:VK}(h:d σ H λx c=>∃a o b,c a=some (.Ac o (.dK b))/\(∀e u,H0 a≠some (.Ac e u))/\Q x (upd c a (.dK b))):Zoz H0 d σ H Q:=h
theorem Zu5{X:Cx}{e:AM}{c:TE}(f:PE X e c):PE X e (Zoz X.H₀ c):=by
 intro b s d H Q I h;refine iW (f b s d H _ I h) λu g ⟨x,H1,I1,r1,a,o,kvs,ha,hn,q⟩=>?_;exact⟨x,_,Zme I1 ha hn,r1,q⟩
def Zx3(K:aB)(a:TE):TT:=λσ H Q=>a σ H λx H'=>∃k,Zsp K x H' k/\Q k H'
theorem Zwo{K:aB}{a:TE}{σ:L2.St}{H:Hp}{Q:Bool->Hp->Prop}(h:a σ H λx H'=>∃k,Zsp K x H' k/\Q k H'):Zx3 K a σ H Q:=h
theorem ZAe{K:aB}{H:Hp}{a:AH}{xs:List V}{P:Bool->Prop}(h:cB K H a xs)(q:P (!xs.isEmpty)):∃k,Zsp K (.ref a) H k/\P k:=⟨_,.inl ⟨xs,h,rfl⟩,q⟩
theorem Zrp{i:Nat}{c x:Int}{f:Int->Int->Int}{n:L2.St->Hp->Prop}{r:VK}{b ct:L2.St->Hp->Prop}{σ:L2.St}{H:Hp}(e:σ[i]? =some (some (.int x)))(h:n (σ.set i (some (.int (f x c)))) H):Zx5 i (tC (.int c)) (ipI f) ⟨n,r,b,ct⟩ σ H:=⟨_,e,x,c,rfl,rfl,h⟩
def Zsm(K:aB):List V->Hp->VK->Prop:=λxs H Q=>∃p a,xs=[.ref p]/\(cB K H p a\/gw K H p a)/\∀l,H l=none->Q (.ref l) (upd H l (.lst a))
theorem Zv8{K:aB}{H:Hp}{Q:VK}{p:AH}{a:List V}(h1:gw K H p a)(h:∀l,H l=none->Q (.ref l) (upd H l (.lst a))):Zsm K [.ref p] H Q:=⟨p,a,rfl,.inr h1,h⟩
def Dq(K:aB)(H:Hp):Nat->V->V->Prop
 | 0,x,y=>x=y/\qJ x=true
 | d+1,x,y=>(x=y/\qJ x=true)\/∃a b,x=.ref a/\y=.ref b/\(a=b\/∃xs c,((cB K H a xs/\cB K H b c)\/(gw K H a xs/\gw K H b c))/\Al (Dq K H d) xs c)
theorem Zw2{K:aB}{H:Hp}{d:Nat}{x:V}(h:qJ x=true):Dq K H d x x:=by
 cases d with
 | zero=>exact⟨rfl,h⟩
 | succ d=>exact .inl ⟨rfl,h⟩
theorem Ld{K:aB}{H:Hp}{d:Nat}:∀{xs:List V},xs.all qJ=true->Al (Dq K H d) xs xs
 | [],_=>.nil
 | x::xs,h=>by
  rw[List.all_cons,Bool.and_eq_true]at h;exact .cons (Zw2 h.1) (Ld h.2)
def Zmq(K:aB)(d:Bool):R2:=λx y H Q=>∃a b xs c,x=.ref a/\y=.ref b/\((cB K H a xs/\cB K H b c)\/(gw K H a xs/\gw K H b c))/\Al (Dq K H 6) xs c/\Q (.bl (!d)) H
section
variable {X:Cx}
theorem Zga:∀{x:V},qJ x=true->Zi x x=true
 | .non,_=>rfl
 | .bl b,_=>by cases b<;>rfl
 | .int i,_=>by simp[Zi]
 | .str z,_=>by simp[Zi]
theorem ZBz{n:At}{σ:L2.St}{H:Hp}{s:AJ}(I:Inv X n σ H s):∀(d:Nat) {A:Around}{x y:V}{u v:AI},A.units+d<cLine->RelV x u->RelV y v->Dq X.K H d x y->SeqAt.EqAt A s u v true:=by
 intro d
 induction d with
 | zero=>
  intro A x y u v hu o p h;obtain⟨rfl,k⟩:=h;have:=Cz (A:=A) (s:=s) o p k k;rw[Zga k]at this;exact this
 | succ d F=>
  intro A x y u v hu o p h;rcases h with ⟨rfl,k⟩ | ⟨a,b,rfl,rfl,h⟩
  ·have:=Cz (A:=A) (s:=s) o p k k;rw[Zga k]at this;exact this
  ·obtain rfl:u=Value.ref a:=o;obtain rfl:v=Value.ref b:=p
   by_cases e:a=b
   ·subst e;exact SeqAt.EqAt.same _
   rcases h with rfl | ⟨t,r,hs,al⟩
   ·exact absurd rfl e
   ·refine SeqAt.EqAt.of_refs e ?_;have hl:=al.length;have m:A.units<cLine:=by omega
    have item:∀{us f:AC},Vals t us->Vals r f->∀(j:Nat) (h1:j<us.toArray.size) (h2:j<f.toArray.size),SeqAt.EqAt A.in1 s us.toArray[j] f.toArray[j] true:=by
     intro us f c g j h1 h2;rw[List.size_toArray]at h1 h2;have M:=c.length;have N:=g.length;have B:t[j]? =some t[j]:=bM (by omega);have w:r[j]? =some r[j]:=bM (by omega);obtain⟨P,C,L⟩:=c.get B;obtain⟨O,z,E⟩:=g.get w;rw[bM h1]at C;rw[bM h2]at z;cases C;cases z;obtain⟨Q,e3,D⟩:=al.get w;rw[B]at e3;cases e3;exact F (A:=A.in1) (by show A.units+1+d<cLine;omega) L E D
    rcases hs with ⟨q,hb⟩ | ⟨q,hb⟩
    ·obtain⟨us,c,l,_⟩:=I.list q;obtain⟨f,g,i,_⟩:=I.list hb;have:=SeqAt.RcAt.lists (A:=A) (e:=λ_=>true) l.isList i.isList (by rw[List.size_toArray,List.size_toArray,<- c.length,<- g.length];exact hl) m (λj h1 h2=>item c g j h1 h2);rw[show(List.range us.toArray.size).all (λ_=>true)=true from by rw[List.all_eq_true];intros;rfl]at this;exact this
    ·obtain⟨us,c,l,_⟩:=I.tuple q;obtain⟨f,g,i,_⟩:=I.tuple hb;have J:us.toArray.size=f.toArray.size:=by rw[List.size_toArray,List.size_toArray,<- c.length,<- g.length];exact hl
     have:=SeqAt.RcAt.tuples (A:=A) (e:=λ_=>true) l i m (λj h1 h2=>item c g j h1 h2);rw[show(List.range (min us.toArray.size f.toArray.size)).all (λ_=>true)=true from by rw[List.all_eq_true];intros;rfl,J]at this;simpa using this
theorem GZ{a:At}{σ:L2.St}{H:Hp}{s:AJ}(I:Inv X a σ H s){A:Around}(hu:A.units+8<cLine){xs b:List V}{us c:AC}(al:Al (Dq X.K H 6) xs b)(f:Vals xs us)(i:Vals b c)(j:Nat)(h1:j<us.toArray.size)(h2:j<c.toArray.size):SeqAt.EqAt A.in1 s us.toArray[j] c.toArray[j] true:=by
 rw[List.size_toArray]at h1 h2;have n:=f.length;have o:=i.length;have g:xs[j]? =some xs[j]:=bM (by omega);have d:b[j]? =some b[j]:=bM (by omega);obtain⟨r,h,m⟩:=f.get g;obtain⟨q,e,l⟩:=i.get d;rw[bM h1]at h;rw[bM h2]at e;cases h;cases e;obtain⟨p,e3,k⟩:=al.get d;rw[g]at e3;cases e3;exact ZBz I 6 (A:=A.in1) (by show A.units+1+6<cLine;omega) m l k
theorem Zxs(hu:X.A.units+64<cLine):zK X (compareOp .Eq) (Zmq X.K false):=by
 intro i s r H x y v u Q I j m h;obtain⟨p,l,o,n,rfl,rfl,hs,al,q⟩:=h;obtain rfl:v=Value.ref p:=j;obtain rfl:u=Value.ref l:=m;have hl:=al.length;rcases hs with ⟨f,hb⟩ | ⟨f,hb⟩
 ·obtain⟨us,c,b,_⟩:=I.list f;obtain⟨g,d,a,_⟩:=I.list hb;refine SeqAt.eq_listAt (e:=λ_=>true) b.isList a.isList (by rw[List.size_toArray,List.size_toArray,<- c.length,<- d.length];exact hl) (by omega) (GZ I (by omega) al c d) ?_;rw[show(List.range us.toArray.size).all (λ_=>true)=true from by rw[List.all_eq_true];intros;rfl];exact⟨.bl _,H,I,rfl,q⟩
 ·obtain⟨us,c,b,_⟩:=I.tuple f;obtain⟨g,d,a,_⟩:=I.tuple hb;have k:us.toArray.size=g.toArray.size:=by rw[List.size_toArray,List.size_toArray,<- c.length,<- d.length];exact hl
  refine SeqAt.eq_tupleAt (e:=λ_=>true) b a (by omega) (GZ I (by omega) al c d) ?_;rw[show(List.range (min us.toArray.size g.toArray.size)).all (λ_=>true)=true from by rw[List.all_eq_true];intros;rfl,k];simp only[beq_self_eq_true,Bool.and_self];exact⟨.bl _,H,I,rfl,q⟩
theorem Zq7(hu:X.A.units+64<cLine):zK X (compareOp .NotEq) (Zmq X.K true):=by
 intro i s r H x y v u Q I j m h;obtain⟨p,l,o,n,rfl,rfl,hs,al,q⟩:=h;obtain rfl:v=Value.ref p:=j;obtain rfl:u=Value.ref l:=m;have hl:=al.length;rcases hs with ⟨f,hb⟩ | ⟨f,hb⟩
 ·obtain⟨us,c,b,_⟩:=I.list f;obtain⟨g,d,a,_⟩:=I.list hb;have:=SeqAt.RcNeAt.lists (A:=X.A) (s:=s) (e:=λ_=>true) b.isList a.isList (by rw[List.size_toArray,List.size_toArray,<- c.length,<- d.length];exact hl) (by omega) (GZ I (by omega) al c d);rw[show(List.range us.toArray.size).all (λ_=>true)=true from by rw[List.all_eq_true];intros;rfl]at this;exact this _ _ _ _ ⟨.bl _,H,I,rfl,q⟩
 ·obtain⟨us,c,b,_⟩:=I.tuple f;obtain⟨g,d,a,_⟩:=I.tuple hb;have k:us.toArray.size=g.toArray.size:=by rw[List.size_toArray,List.size_toArray,<- c.length,<- d.length];exact hl
  have:=SeqAt.RcNeAt.tuples (A:=X.A) (s:=s) (e:=λ_=>true) b a (by omega) (GZ I (by omega) al c d);rw[show(List.range (min us.toArray.size g.toArray.size)).all (λ_=>true)=true from by rw[List.all_eq_true];intros;rfl,k]at this;simp only[beq_self_eq_true,Bool.and_self]at this;exact this _ _ _ _ ⟨.bl _,H,I,rfl,q⟩
theorem Zrm{K:aB}{c:Bool}{H:Hp}{Q:VK}{a b:AH}{xs d:List V}(hs:(cB K H a xs/\cB K H b d)\/(gw K H a xs/\gw K H b d))(al:Al (Dq K H 6) xs d)(q:Q (.bl (!c)) H):Zmq K c (.ref a) (.ref b) H Q:=⟨a,b,xs,d,rfl,rfl,hs,al,q⟩
end
end G
namespace G
open PySem L2
def Zpj(K:aB):V->V->Hp->VK->Prop:=λx y H Q=>∃p xs i v,x=.ref p/\y=.int i/\cB K H p xs/\0<=i/\XM xs i=some v/\Q v H
theorem Zs1{X:Cx}:ZC9 X (Zpj X.K):=by
 intro b s o H x y v u Q I f m h;obtain⟨p,n,i,z,rfl,rfl,hq,c,d,q⟩:=h;cases f;obtain⟨t,rfl⟩:=m;obtain⟨g,r,k,hz⟩:=I.list hq;obtain⟨j,h1,h2,h3,h4,h5⟩:=RC d;obtain⟨w,e,a⟩:=r.get h2;have hl:=r.length;have hn:=Jq;have l:i.toNat=j:=by
  rw[seqIndex_of c h5]at h1;exact Option.some.inj h1
 exact wpAny_getItem_list k.isList c (by omega) (by rw[l];simpa using e) ⟨z,H,I,a,q⟩
theorem Zz9{K:aB}{i:Nat}{p:AH}{xs:List V}{k:Nat}{c x:Int}{f:Int->Int->Int}{n:L2.St->Hp->Prop}{r:VK}{b ct:L2.St->Hp->Prop}{σ:L2.St}{H:Hp}(e:σ[i]? =some (some (.ref p)))(h1:H p=some (.lst xs))(h2:xs[k]? =some (.int x))(h:n σ (upd H p (.lst (xs.set k (.int (f x c)))))):
  Zp3 (ak i) (tC (.int (k:Int))) (tC (.int c)) (Zpj K) (ipI f) zN ⟨n,r,b,ct⟩ σ H:=
 ⟨_,e,p,xs,(k:Int),_,rfl,rfl,cB.of h1,by omega,iu h2,x,c,rfl,rfl,p,xs,(k:Int),k,rfl,rfl,h1,uo (dY h2).1,h⟩
end G
local macro_rules | `(tactic| walk_at "g2")=>`(tactic| with_reducible first | refine G.wz ?_ | refine G.Zz3 ?_ | refine G.Zlr ?_ | refine G.Zyy ?_ | refine G.U6 ?_ | refine G.i_C ?_ | refine G.Zjv ?_ | refine G.ZCy ?_ | refine G.i_B ?_ | refine G.Zyn ?_ | refine G.ZB8 ?_ | refine G.ZBn ?_ | refine G.ZBa ?_ | refine G.Zwp ?_ | refine G.Zza ?_ | refine G.ZB9 ?_ | refine G.Zyq ?_ | refine G.ZBh ?_ | refine G.ZBo ?_ | refine G.i_U ?_ | refine G.ZBm ?_ | refine G.ZBl ?_ | refine G.ZBd ?_ | refine G.ZBc ?_ | refine G.ZBe ?_ | refine G.Zyx ?_ | refine G.Zyw ?_ | refine G.Zyv ?_ | refine G.Zv6 ?_ | refine G.Zv5 ?_ | refine G.Zv4 ?_ | refine G.Zjy ?_ | refine G.Zce ?_ | refine G.Zvb ?_ | refine G.Zvc ?_ | refine G.ZBb ?_ | refine G.Zz7 ?_ | refine G.ZBf ?_ | refine G.ZB5 ?_ | refine G.Zz8 ?_ | refine G.ZDc ?_ | refine G.Zyt ?_ | refine G.ZBk ?_ | refine G.Zyo ?_ | refine G.Zys ?_ | refine G.Zrk ?_ | refine G.Zyp ?_ | refine G.ZD0 ?_ | refine G.ZCz ?_ | refine G.ZDb ?_ | refine G.ZBj ?_ | refine G.ZD3 ?_ | refine G.ZD2 ?_ | refine G.ZCx ?_ | refine G.ZCw ?_ | refine G.ZCv ?_ | refine G.Zju ?_ | refine G.ZCu ?_ | refine G.ZCt ?_ | refine G.ZCs ?_ | refine G.ZCr ?_ | refine G.ZCq ?_ | refine G.ZCp ?_ | refine G.ZB4 ?_ | refine G.ZDa ?_ | refine G.Zz0 ?_ | refine G.Zfz ?_ | refine G.Zvd ?_ | refine G.ZD9 ?_ | refine G.ZD8 ?_ | refine G.ZD7 ?_ | refine G.ZD6 ?_ | refine G.ZD5 ?_ | refine G.ZBi ?_ | refine G.Cu ?_ | refine G.Zve ?_ | refine G.Zv3 ?_ | refine G.Zvf ?_ | refine G.ZB6 ?_ | refine G.Zyz ?_ | refine G.Zyr ?_ | refine G.Zv7 ?_ | refine G.ZB7 ?_ | refine G.Zz6 ?_ | refine G.Zrn ?_ | refine G.Zz4 ?_ | refine G.Zyu ?_ | refine G.Zk0 ?_ | refine G.Zfy ?_ | refine G.Zjz ?_ | refine G.Zyl ?_ | refine G.ZD1 ?_ | refine G.Zym ?_ | refine G.Zwo ?_ | refine G.ZD4 ?_ | refine G.Zva ?_ | refine G.Zz5 ?_)
local macro_rules | `(tactic| walk_at "g1")=>`(tactic| first | (with_reducible refine G.K1 ?_) | walk_at "g2")
local macro_rules | `(tactic| walk_at "ne")=>`(tactic| first | assumption | (exact Ne.symm (by assumption)) | exact L2.aD (by assumption) (by assumption) | exact Ne.symm (L2.aD (by assumption) (by assumption)) | exact Nat.ne_of_lt (by assumption))
local macro_rules | `(tactic| walk_at "hp")=>`(tactic| first | assumption | exact L2.aq | (refine Eq.trans (L2.aC ?hne) ?_;(case hne=>walk_at "ne");walk_at "hp"))
local macro_rules | `(tactic| walk_at"d")=>`(tactic| first | omega | decide | (show (_:Int)<_;decide) | exact ⟨by decide,by decide⟩ | exact ⟨by decide,by decide,by decide⟩ | (unfold L2.Vw;omega) | exact .inl (by unfold L2.Vw;omega))
local macro_rules | `(tactic| walk_at"e")=>`(tactic| repeat (first | walk_at "g1" | ((with_reducible refine G.i_I ?hc ?_);(case hc=>walk_at"d"))))
local macro_rules | `(tactic| walk_at"s")=>`(tactic| repeat (first | walk_at "g2" | ((with_reducible refine G.i_I ?hc ?_);(case hc=>walk_at"d"))))
local macro_rules | `(tactic| walk_at"c")=>`(tactic| simp only [List.map_cons,List.map_nil,G.pick,List.getElem?_cons_zero,List.getElem?_cons_succ])
namespace K26
open PySem L2 G
def oM(birth:Int)(bulk:Int)(tone:Int)(load:Int)(fa:AH):List (Str×V):=[("birth",.int birth),("bulk",.int bulk),("tone",.int tone),("load",.int load),("fields",.ref fa)]
theorem ir{birth:Int}{bulk:Int}{tone:Int}{load:Int}{fa:AH}:List.lookup ("birth":Str) (oM birth bulk tone load fa)=some (.int birth:V):=rfl
theorem Il{birth:Int}{bulk:Int}{tone:Int}{load:Int}{fa:AH}:List.lookup ("bulk":Str) (oM birth bulk tone load fa)=some (.int bulk:V):=rfl
theorem XJ{birth:Int}{bulk:Int}{tone:Int}{load:Int}{fa:AH}:List.lookup ("tone":Str) (oM birth bulk tone load fa)=some (.int tone:V):=rfl
theorem zB{birth:Int}{bulk:Int}{tone:Int}{load:Int}{fa:AH}:List.lookup ("load":Str) (oM birth bulk tone load fa)=some (.int load:V):=rfl
theorem lV{birth:Int}{bulk:Int}{tone:Int}{load:Int}{fa:AH}:List.lookup ("fields":Str) (oM birth bulk tone load fa)=some (.ref fa:V):=rfl
theorem Vi{birth:Int}{bulk:Int}{tone:Int}{load:Int}{fa:AH}(y:Int):cH "tone" (.int y) (oM birth bulk tone load fa)=oM birth bulk y load fa:=rfl
theorem Vj{birth:Int}{bulk:Int}{tone:Int}{load:Int}{fa:AH}(y:Int):cH "load" (.int y) (oM birth bulk tone load fa)=oM birth bulk tone y fa:=rfl
theorem Zsl{birth:Int}{bulk:Int}{tone:Int}{load:Int}{fa:AH}:(cH "fields" (.ref fa) (cH "load" (.int load) (cH "tone" (.int tone) (cH "bulk" (.int bulk) (cH "birth" (.int birth) [])))))=oM birth bulk tone load fa:=rfl
theorem wG{birth:Int}{bulk:Int}{tone:Int}{load:Int}{fa:AH}:List.lookup ("units":Str) (oM birth bulk tone load fa)=none:=rfl
theorem Ju{birth:Int}{bulk:Int}{tone:Int}{load:Int}{fa:AH}:List.lookup ("has_field":Str) (oM birth bulk tone load fa)=none:=rfl
def lR(room:Int)(ca:AH)(used:Int)(born:Int):List (Str×V):=[("room",.int room),("cells",.ref ca),("used",.int used),("born",.int born)]
theorem Xm{room:Int}{ca:AH}{used:Int}{born:Int}:List.lookup ("room":Str) (lR room ca used born)=some (.int room:V):=rfl
theorem bW{room:Int}{ca:AH}{used:Int}{born:Int}:List.lookup ("cells":Str) (lR room ca used born)=some (.ref ca:V):=rfl
theorem zb{room:Int}{ca:AH}{used:Int}{born:Int}:List.lookup ("used":Str) (lR room ca used born)=some (.int used:V):=rfl
theorem Xn{room:Int}{ca:AH}{used:Int}{born:Int}:List.lookup ("born":Str) (lR room ca used born)=some (.int born:V):=rfl
theorem Gj{room:Int}{ca:AH}{used:Int}{born:Int}(y:Int):cH "used" (.int y) (lR room ca used born)=lR room ca y born:=rfl
theorem U7{room:Int}{ca:AH}{used:Int}{born:Int}(y:Int):cH "born" (.int y) (lR room ca used born)=lR room ca used y:=rfl
theorem Zru{room:Int}{ca:AH}{used:Int}{born:Int}:(cH "born" (.int born) (cH "used" (.int used) (cH "cells" (.ref ca) (cH "room" (.int room) []))))=lR room ca used born:=rfl
theorem Xj{room:Int}{ca:AH}{used:Int}{born:Int}:List.lookup ("make":Str) (lR room ca used born)=none:=rfl
theorem Zcg{room:Int}{ca:AH}{used:Int}{born:Int}:List.lookup ("lay":Str) (lR room ca used born)=none:=rfl
theorem Xl{room:Int}{ca:AH}{used:Int}{born:Int}:List.lookup ("back":Str) (lR room ca used born)=none:=rfl
theorem Xk{room:Int}{ca:AH}{used:Int}{born:Int}:List.lookup ("free":Str) (lR room ca used born)=none:=rfl
theorem Gk{room:Int}{ca:AH}{used:Int}{born:Int}:List.lookup ("there":Str) (lR room ca used born)=none:=rfl
def Uy(lk:AH)(tl:Int):List (Str×V):=[("looking",.ref lk),("tells",.int tl)]
theorem pH{lk:AH}{tl:Int}:List.lookup ("looking":Str) (Uy lk tl)=some (.ref lk:V):=rfl
theorem Gg{lk:AH}{tl:Int}:List.lookup ("tells":Str) (Uy lk tl)=some (.int tl:V):=rfl
theorem Zrb{lk:AH}{tl:Int}:(cH "tells" (.int tl) (cH "looking" (.ref lk) []))=Uy lk tl:=rfl
def Zg1(nm:Str)(sa:AH):List (Str×V):=[("name",.str nm),("slots",.ref sa)]
theorem rJ{nm:Str}{sa:AH}:List.lookup ("slots":Str) (Zg1 nm sa)=some (.ref sa:V):=rfl
theorem Zrx{nm:Str}{sa:AH}:(cH "slots" (.ref sa) (cH "name" (.str nm) []))=Zg1 nm sa:=rfl
def Dp(hp:AH)(ki:AH)(hl:AH)(nm:AH)(sw:AH):List (Str×V):=[("heap",.ref hp),("kind",.ref ki),("hands",.ref hl),("names",.ref nm),("sweeper",.ref sw)]
theorem bF{hp:AH}{ki:AH}{hl:AH}{nm:AH}{sw:AH}:List.lookup ("heap":Str) (Dp hp ki hl nm sw)=some (.ref hp:V):=rfl
theorem mL{hp:AH}{ki:AH}{hl:AH}{nm:AH}{sw:AH}:List.lookup ("kind":Str) (Dp hp ki hl nm sw)=some (.ref ki:V):=rfl
theorem dZ{hp:AH}{ki:AH}{hl:AH}{nm:AH}{sw:AH}:List.lookup ("hands":Str) (Dp hp ki hl nm sw)=some (.ref hl:V):=rfl
theorem nQ{hp:AH}{ki:AH}{hl:AH}{nm:AH}{sw:AH}:List.lookup ("names":Str) (Dp hp ki hl nm sw)=some (.ref nm:V):=rfl
theorem bx{hp:AH}{ki:AH}{hl:AH}{nm:AH}{sw:AH}:List.lookup ("sweeper":Str) (Dp hp ki hl nm sw)=some (.ref sw:V):=rfl
theorem Zma{hp:AH}{ki:AH}{hl:AH}{nm:AH}{sw:AH}:(cH "sweeper" (.ref sw) (cH "names" (.ref nm) (cH "hands" (.ref hl) (cH "kind" (.ref ki) (cH "heap" (.ref hp) [])))))=Dp hp ki hl nm sw:=rfl
def cG(se:Int)(ph:Str)(gr:AH)(lo:Int)(b:Int)(at_:Int)(st:Int)(a:Int)(ls:Int)(c:Int)(d:V):List (Str×V):=[("sense",.int se),("phase",.str ph),("grey",.ref gr),("looked",.int lo),("turn",.int b),("at",.int at_),("stop",.int st),("walks",.int a),("looks",.int ls),("passes",.int c),("loss",d)]
theorem nU{se:Int}{ph:Str}{gr:AH}{lo:Int}{b:Int}{at_:Int}{st:Int}{a:Int}{ls:Int}{c:Int}{d:V}:List.lookup ("sense":Str) (cG se ph gr lo b at_ st a ls c d)=some (.int se:V):=rfl
theorem fX{se:Int}{ph:Str}{gr:AH}{lo:Int}{b:Int}{at_:Int}{st:Int}{a:Int}{ls:Int}{c:Int}{d:V}:List.lookup ("phase":Str) (cG se ph gr lo b at_ st a ls c d)=some (.str ph:V):=rfl
theorem lC{se:Int}{ph:Str}{gr:AH}{lo:Int}{b:Int}{at_:Int}{st:Int}{a:Int}{ls:Int}{c:Int}{d:V}:List.lookup ("grey":Str) (cG se ph gr lo b at_ st a ls c d)=some (.ref gr:V):=rfl
theorem gn{se:Int}{ph:Str}{gr:AH}{lo:Int}{b:Int}{at_:Int}{st:Int}{a:Int}{ls:Int}{c:Int}{d:V}:List.lookup ("looked":Str) (cG se ph gr lo b at_ st a ls c d)=some (.int lo:V):=rfl
theorem qM{se:Int}{ph:Str}{gr:AH}{lo:Int}{a:Int}{at_:Int}{st:Int}{b:Int}{ls:Int}{c:Int}{d:V}:List.lookup ("turn":Str) (cG se ph gr lo a at_ st b ls c d)=some (.int a:V):=rfl
theorem JD{se:Int}{ph:Str}{gr:AH}{lo:Int}{b:Int}{at_:Int}{st:Int}{a:Int}{ls:Int}{c:Int}{d:V}:List.lookup ("at":Str) (cG se ph gr lo b at_ st a ls c d)=some (.int at_:V):=rfl
theorem R6{se:Int}{ph:Str}{gr:AH}{lo:Int}{b:Int}{at_:Int}{st:Int}{a:Int}{ls:Int}{c:Int}{d:V}:List.lookup ("stop":Str) (cG se ph gr lo b at_ st a ls c d)=some (.int st:V):=rfl
theorem uI{se:Int}{ph:Str}{gr:AH}{lo:Int}{b:Int}{at_:Int}{st:Int}{a:Int}{ls:Int}{c:Int}{d:V}:List.lookup ("walks":Str) (cG se ph gr lo b at_ st a ls c d)=some (.int a:V):=rfl
theorem p7{se:Int}{ph:Str}{gr:AH}{lo:Int}{b:Int}{at_:Int}{st:Int}{a:Int}{ls:Int}{c:Int}{d:V}:List.lookup ("looks":Str) (cG se ph gr lo b at_ st a ls c d)=some (.int ls:V):=rfl
theorem sr{se:Int}{ph:Str}{gr:AH}{lo:Int}{c:Int}{at_:Int}{st:Int}{b:Int}{ls:Int}{a:Int}{d:V}:List.lookup ("passes":Str) (cG se ph gr lo c at_ st b ls a d)=some (.int a:V):=rfl
theorem R7{se:Int}{ph:Str}{gr:AH}{lo:Int}{c:Int}{at_:Int}{st:Int}{b:Int}{ls:Int}{d:Int}{a:V}:List.lookup ("loss":Str) (cG se ph gr lo c at_ st b ls d a)=some (a:V):=rfl
theorem LR{se:Int}{ph:Str}{gr:AH}{lo:Int}{b:Int}{at_:Int}{st:Int}{a:Int}{ls:Int}{c:Int}{d:V}(y:Int):cH "sense" (.int y) (cG se ph gr lo b at_ st a ls c d)=cG y ph gr lo b at_ st a ls c d:=rfl
theorem pC{se:Int}{ph:Str}{gr:AH}{lo:Int}{b:Int}{at_:Int}{st:Int}{a:Int}{ls:Int}{c:Int}{d:V}(y:Str):cH "phase" (.str y) (cG se ph gr lo b at_ st a ls c d)=cG se y gr lo b at_ st a ls c d:=rfl
theorem QK{se:Int}{ph:Str}{gr:AH}{lo:Int}{b:Int}{at_:Int}{st:Int}{a:Int}{ls:Int}{c:Int}{d:V}(y:AH):cH "grey" (.ref y) (cG se ph gr lo b at_ st a ls c d)=cG se ph y lo b at_ st a ls c d:=rfl
theorem xm{se:Int}{ph:Str}{gr:AH}{lo:Int}{b:Int}{at_:Int}{st:Int}{a:Int}{ls:Int}{c:Int}{d:V}(y:Int):cH "looked" (.int y) (cG se ph gr lo b at_ st a ls c d)=cG se ph gr y b at_ st a ls c d:=rfl
theorem QG{se:Int}{ph:Str}{gr:AH}{lo:Int}{d:Int}{at_:Int}{st:Int}{a:Int}{ls:Int}{b:Int}{c:V}(y:Int):cH "turn" (.int y) (cG se ph gr lo d at_ st a ls b c)=cG se ph gr lo y at_ st a ls b c:=rfl
theorem HR{se:Int}{ph:Str}{gr:AH}{lo:Int}{b:Int}{at_:Int}{st:Int}{a:Int}{ls:Int}{c:Int}{d:V}(y:Int):cH "at" (.int y) (cG se ph gr lo b at_ st a ls c d)=cG se ph gr lo b y st a ls c d:=rfl
theorem QH{se:Int}{ph:Str}{gr:AH}{lo:Int}{b:Int}{at_:Int}{st:Int}{a:Int}{ls:Int}{c:Int}{d:V}(y:Int):cH "stop" (.int y) (cG se ph gr lo b at_ st a ls c d)=cG se ph gr lo b at_ y a ls c d:=rfl
theorem zM{se:Int}{ph:Str}{gr:AH}{lo:Int}{a:Int}{at_:Int}{st:Int}{d:Int}{ls:Int}{b:Int}{c:V}(y:Int):cH "walks" (.int y) (cG se ph gr lo a at_ st d ls b c)=cG se ph gr lo a at_ st y ls b c:=rfl
theorem rZ{se:Int}{ph:Str}{gr:AH}{lo:Int}{b:Int}{at_:Int}{st:Int}{a:Int}{ls:Int}{c:Int}{d:V}(y:Int):cH "looks" (.int y) (cG se ph gr lo b at_ st a ls c d)=cG se ph gr lo b at_ st a y c d:=rfl
theorem xj{se:Int}{ph:Str}{gr:AH}{lo:Int}{b:Int}{at_:Int}{st:Int}{a:Int}{ls:Int}{d:Int}{c:V}(y:Int):cH "passes" (.int y) (cG se ph gr lo b at_ st a ls d c)=cG se ph gr lo b at_ st a ls y c:=rfl
theorem QJ{se:Int}{ph:Str}{gr:AH}{lo:Int}{b:Int}{at_:Int}{st:Int}{a:Int}{ls:Int}{c:Int}{d:V}(y:V):cH "loss" (y) (cG se ph gr lo b at_ st a ls c d)=cG se ph gr lo b at_ st a ls c y:=rfl
theorem Zmf{se:Int}{ph:Str}{gr:AH}{lo:Int}{b:Int}{at_:Int}{st:Int}{a:Int}{ls:Int}{c:Int}{d:V}:(cH "loss" (d) (cH "passes" (.int c) (cH "looks" (.int ls) (cH "walks" (.int a) (cH "stop" (.int st) (cH "at" (.int at_) (cH "turn" (.int b) (cH "looked" (.int lo) (cH "grey" (.ref gr) (cH "phase" (.str ph) (cH "sense" (.int se) [])))))))))))=cG se ph gr lo b at_ st a ls c d:=rfl
def sY(K:aB):TS:=
 (aO (iJ K (ak 0) (ak 1) "birth")
   (aO (iJ K (ak 0) (ak 3) "bulk")
   (aO (iJ K (ak 0) (ak 4) "tone")
   (aO (iJ K (ak 0) (tC (.int 0)) "load")
   (iJ K (ak 0) (bA (Zeh) (gQ (aj (tC .non) aF)) (ak 2)) "fields")))))
def yN(K:aB):TS:=
 (bG (bA (pD λi j=>.int (i+j)) (bA (pD λi j=>.int (i+j)) (tC (.int 1)) (wQ (G.lK K) (aj (bz K (ak 0) "fields") aF))) (bz K (ak 0) "bulk")))
def qZ(K:aB):TS:=
 (bG (Zhi (pD λi j=>.bl (decide (i<=j))) (pD λi j=>.bl (decide (i<j))) (tC (.int 0)) (ak 1) (wQ (G.lK K) (aj (bz K (ak 0) "fields") aF))))
def sW(K:aB):TS:=
 (aO (iJ K (ak 0) (ak 1) "room")
   (aO (iJ K (ak 0) (gQ aF) "cells")
   (aO (iJ K (ak 0) (tC (.int 0)) "used")
   (iJ K (ak 0) (tC (.int 0)) "born"))))
def By(K:aB)(b g d:AH)(f c e a:Sp)(E:XK):TS:=
 (aO (bH (Dc b f [] E0 (aj (bA (pD λi j=>.int (i+j)) (bz K (ak 0) "born") (tC (.int 1))) (aj (ak 1) (aj (ak 2) (aj (ak 3) aF))))) (aN 4))
   (aO (dR (bQ (bA (pD λi j=>.bl (decide (j<i))) (mJ b "units" c [] E0 (ak 4) aF) (mJ d "free" e [] E0 (ak 0) aF))) (G.LC g E (aj (tC (.str "the room does not suffice")) aF)) cg)
   (aO (iJ K (ak 0) (bz K (ak 4) "birth") "born")
   (aO (iJ K (ak 0) (bA (pD λi j=>.int (i+j)) (bz K (ak 0) "used") (mJ b "units" c [] E0 (ak 4) aF)) "used")
   (bG (mJ d "lay" a [] E0 (ak 0) (aj (ak 4) aF)))))))
def Ew(K:aB):TS:=
 (aO (dR (bQ (bA (G.Zxl K true) (tC .non) (bz K (ak 0) "cells"))) (aO (xg (tBM K "list" BL (bz K (ak 0) "cells") (aj (ak 1) aF)))
   (bG (bA (pD λi j=>.int (i - j)) (wQ (G.lK K) (aj (bz K (ak 0) "cells") aF)) (tC (.int 1))))) cg)
   (aO (bH (tBM K "list" (G.Zld K) (bz K (ak 0) "cells") (aj (tC .non) aF)) (aN 2))
   (aO (bH (ak 1) (Ra (bz K (ak 0) "cells") (ak 2) zN))
   (bG (ak 2)))))
def BK(K:aB)(b:AH)(a:Sp):TS:=
 (aO (bH (bA (mU K) (bz K (ak 0) "cells") (ak 1)) (aN 2))
   (aO (iJ K (ak 0) (bA (pD λi j=>.int (i - j)) (bz K (ak 0) "used") (mJ b "units" a [] E0 (ak 2) aF)) "used")
   (aO (bH (tC .non) (Ra (bz K (ak 0) "cells") (ak 1) zN))
   (bG (bz K (ak 2) "birth")))))
def BJ(K:aB):TS:=
 (bG (bA (pD λi j=>.int (i - j)) (bz K (ak 0) "room") (bz K (ak 0) "used")))
def yM(K:aB):TS:=
 (bG (G.tLC (Df (aj (wQ (G.lK K) (aj (bz K (ak 0) "cells") aF)) aF)) [0] (bQ (bA (G.Ey) (bA (mU K) (bz K (ak 1) "cells") (ak 0)) (tC .non))) (ak 0)))
def Jl(K:aB):TS:=
 (aO (dR ((VF (bQ (bA (G.Wi) (ak 1) (tC .non))) (VF (bQ (bA (pD λi j=>.bl (decide (i<j))) (ak 1) (tC (.int 0)))) (bQ (bA (pD λi j=>.bl (decide (j<=i))) (ak 1) (wQ (G.lK K) (aj (bz K (ak 0) "cells") aF))))))) (bG (tC .non)) cg)
   (bG (bA (mU K) (bz K (ak 0) "cells") (ak 1))))
def Et(K:aB)(a:Sp):TS:=
 (aO (bH (aQ a [] E0 (aj (ak 0) (aj (ak 1) aF))) (aN 2))
   (aO (dR (bQ (bA (G.Wi) (ak 2) (tC .non))) (bG (tC .non)) cg)
   (bG (bz K (ak 2) "birth"))))
def Bc(K:aB)(a:Sp):TS:=
 (aO (bH (gQ aF) (aN 2))
   (aO (wV (G.Zg0 K (aj (ak 1) aF)) (Zo3 K 2 (Dg (aN 3) (Dg (aN 4) Zo4)))
   (xg (tBM K "list" Rk (ak 2) (aj (aQ a [] E0 (aj (ak 0) (aj (ak 4) (aj (fW (aj (ak 3) aF)) aF)))) aF))))
   (aO (bH (R4) (aN 5))
   (aO (bH (tC (.int 0)) (aN 6))
   (aO (Zox (bQ (bA (pD λi j=>.bl (decide (i<j))) (ak 6) (wQ (G.lK K) (aj (ak 2) aF)))) (aO (bH (bA (fu K) (bA (mU K) (ak 2) (ak 6)) (tC (.int 0))) (aN 7))
   (aO (bH (bA (fu K) (bA (mU K) (ak 2) (ak 6)) (tC (.int 1))) (aN 8))
   (aO (bH (bA (pD λi j=>.int (i+j)) (ak 6) (tC (.int 1))) (aN 6))
   (dR (tB (G.Zp2 true (ak 7) (ak 5))) (aO (S8 (ak 5) (ak 7) (ak 8))
   (xg (tBM K "list" Rk (ak 2) (aj (aQ a [] E0 (aj (ak 0) (aj (bz K (bA (mU K) (bz K (ak 0) "cells") (ak 7)) "fields") (aj (ak 8) aF)))) aF)))) cg)))))
   (bG (wQ (G.Zkv) (aj (G.Zhh (ak 5)) aF))))))))
def GJ(K:aB)(a:Sp):TS:=
 (bG (G.Zp1 K (G.Zg0 K (aj (ak 1) aF)) [0,2] (bQ (bA (G.Ey) (aQ a [] E0 (aj (ak 2) (aj (ak 1) aF))) (tC .non))) (fW (aj (ak 1) (aj (bA (Zwi K) (ak 3) (fW (aj (ak 0) aF))) aF)))))
def sX(K:aB):TS:=
 (aO (iJ K (ak 0) (ak 1) "name")
   (iJ K (ak 0) (bA (Zeh) (gQ (aj (tC .non) aF)) (ak 2)) "slots"))
def pO(K:aB):TS:=
 (aO (iJ K (ak 0) (tC (.int 0)) "sense")
   (aO (iJ K (ak 0) (tC (.str "rest")) "phase")
   (aO (iJ K (ak 0) (gQ aF) "grey")
   (aO (iJ K (ak 0) (tC (.int 0)) "looked")
   (aO (iJ K (ak 0) (tC (.int 0)) "turn")
   (aO (iJ K (ak 0) (tC (.int 0)) "at")
   (aO (iJ K (ak 0) (tC (.int 0)) "stop")
   (aO (iJ K (ak 0) (tC (.int 0)) "walks")
   (aO (iJ K (ak 0) (tC (.int 0)) "looks")
   (aO (iJ K (ak 0) (tC (.int 0)) "passes")
   (iJ K (ak 0) (tC .non) "loss")))))))))))
def qU(K:aB)(f d e:AH)(a b c:Sp):TS:=
 (aO (iJ K (ak 0) (Dc d b [] E0 (aj (ak 1) aF)) "heap")
   (aO (iJ K (ak 0) (ak 2) "kind")
   (aO (iJ K (ak 0) (G.Zp1 K (pY K (ak 3)) [] G.w6 (Dc f a [] E0 (aj (ak 0) (aj (ak 1) aF)))) "hands")
   (aO (iJ K (ak 0) (R4) "names")
   (iJ K (ak 0) (Dc e c [] E0 aF) "sweeper")))))
def Zal(K:aB):TS:=
 (bG (G.tLC (pY K (bz K (ak 0) "hands")) [] G.w6 (wQ (G.O6 K) (aj (bz K (ak 0) "slots") aF))))
def vV(K:aB)(a:Sp):TS:=
 (bG (G.tLC (pY K (bz K (ak 0) "hands")) [0] G.w6 (aQ a [] E0 (aj (bz K (ak 1) "heap") (aj (bz K (ak 0) "slots") aF)))))
def Bg(K:aB)(a:Sp):TS:=
 (bG (G.tLC (pY K (ak 1)) [0] G.w6 (aQ a [] E0 (aj (ak 1) (aj (ak 0) aF)))))
def Bd(K:aB):TS:=
 (bG (bA (xr) (bA (pD λi j=>.int (Builtin.bitAnd i j)) (bA (rI (λ_ j=>0<=j) λi j=>.int (i / 2 ^ j.toNat)) (bz K (bz K (ak 0) "sweeper") "looked") (ak 1)) (tC (.int 1))) (tC (.int 1))))
def Be(K:aB):TS:=
 (bG (bA (xr) (bz K (ak 1) "tone") (bz K (bz K (ak 0) "sweeper") "sense")))
def yD(K:aB):TS:=
 (bG (bA (rIn K false) (bz K (bz K (ak 0) "sweeper") "phase") (fW (aj (tC (.str "walk")) (aj (tC (.str "lost")) aF)))))
def Jb(K:aB)(a:Sp):TS:=
 (aO (bH (bz K (ak 0) "sweeper") (aN 2))
   (aO (bH (aQ a [] E0 (aj (ak 0) (aj (bA (mU K) (bz K (bz K (ak 0) "heap") "cells") (ak 1)) aF))) (aN 3))
   (aO (dR (bQ (bA (xr) (bz K (ak 2) "phase") (tC (.str "rest")))) (bG (tC (.str "kept"))) cg)
   (aO (dR (bQ (bA (xr) (bz K (ak 2) "phase") (tC (.str "give")))) (bG (tIf (tB (ak 3)) (tC (.str "kept")) (tC (.str "doomed")))) cg)
   (aO (dR (zL (tB (ak 3))) (bG (tC (.str "pale"))) cg)
   (bG (tIf (bQ (bA (rIn K false) (ak 1) (bz K (ak 2) "grey"))) (tC (.str "grey")) (tC (.str "dark")))))))))
def yw(K:aB)(a:AH)(c b:Sp):TS:=
 (bG (G.tLC (pY K (mJ a "there" c [] E0 (bz K (ak 0) "heap") aF)) [0] G.w6 (aQ b [] E0 (aj (ak 1) (aj (ak 0) aF)))))
def Bb(K:aB)(b a:Sp):TS:=
 (aO (bH (bA (mU K) (bz K (bz K (ak 0) "heap") "cells") (ak 1)) (aN 2))
   (aO (bH (aQ b [] E0 (aj (bz K (ak 0) "heap") (aj (bz K (ak 2) "fields") aF))) (aN 3))
   (bG (fW (aj (ak 1) (aj (bz K (ak 2) "birth") (aj (bz K (ak 2) "bulk") (aj (bz K (ak 2) "load") (aj (ak 3) (aj (aQ a [] E0 (aj (ak 0) (aj (ak 1) aF))) aF))))))))))
def Tf(K:aB)(d e b:AH)(c a:Sp):TS:=
 (aO (bH (bz K (ak 0) "sweeper") (aN 1))
   (aO (iJ K (ak 1) (bA (pD λi j=>.int (i - j)) (tC (.int 1)) (bz K (ak 1) "sense")) "sense")
   (aO (iJ K (ak 1) (bA (pD λi j=>.int (i+j)) (bz K (ak 1) "turn") (tC (.int 1))) "turn")
   (aO (iJ K (ak 1) (tC (.str "walk")) "phase")
   (aO (iJ K (ak 1) (gQ aF) "grey")
   (aO (iJ K (ak 1) (G.LK (mJ e "at_begin" c [] E0 (bz K (bz K (ak 0) "kind") "looking") (aj (wQ (G.lK K) (aj (bz K (ak 0) "hands") aF)) aF)) (G.LK (mJ d "at_begin" a [] E0 (bz K (bz K (ak 0) "kind") "looking") (aj (wQ (G.lK K) (aj (bz K (ak 0) "hands") aF)) aF)) (mJ b "at_begin" a [] E0 (bz K (bz K (ak 0) "kind") "looking") (aj (wQ (G.lK K) (aj (bz K (ak 0) "hands") aF)) aF)))) "looked")
   (aO (iJ K (ak 1) (tC (.int 0)) "walks")
   (aO (iJ K (ak 1) (tC (.int 0)) "looks")
   (iJ K (ak 1) (tC (.int 0)) "passes")))))))))
def Zak(K:aB)(a b:Sp):TS:=
 (aO (bH (bz K (ak 0) "sweeper") (aN 2))
   (aO (bH (aQ a [] E0 (aj (bz K (ak 0) "heap") (aj (ak 1) aF))) (aN 3))
   (aO (dR ((VF (bQ (bA (rNe) (bz K (ak 2) "phase") (tC (.str "walk")))) (VF (bQ (bA (G.Wi) (ak 3) (tC .non))) (tB (aQ b [] E0 (aj (ak 0) (aj (ak 3) aF))))))) (bG (tC .non)) cg)
   (aO (iJ K (ak 3) (bz K (ak 2) "sense") "tone")
   (aO (xg (tBM K "list" BL (bz K (ak 2) "grey") (aj (ak 1) aF)))
   (bG (bz K (ak 3) "birth")))))))
def Ep(K:aB)(a:Sp):TS:=
 (aO (bH (gQ aF) (aN 2))
   (aO (wV (pY K (ak 1)) (aN 3)
   (aO (bH (aQ a [] E0 (aj (ak 0) (aj (ak 3) aF))) (aN 4))
   (dR (bQ (bA (G.Ey) (ak 4) (tC .non))) (xg (tBM K "list" BL (ak 2) (aj (ak 4) aF))) cg)))
   (bG (ak 2))))
def Zam(K:aB)(a b:Sp):TS:=
 (aO (bH (aQ a [] E0 (aj (bz K (ak 0) "heap") (aj (ak 1) aF))) (aN 3))
   (aO (dR ((VF (bQ (bA (G.Wi) (ak 3) (tC .non))) (bQ (bA (rNe) (bz K (ak 3) "birth") (ak 2))))) (bG (tC (.bl true))) cg)
   (bG ((PK (bA (xr) (bz K (bz K (ak 0) "sweeper") "phase") (tC (.str "give"))) (Zl8 (aQ b [] E0 (aj (ak 0) (aj (ak 3) aF)))))))))
def Te(K:aB)(b a:Sp)(H0:Hp):TS:=
 (bG (bA (yO) (aQ b [] E0 (aj (ak 0) aF)) (gQ (aj (G.Zoz H0 (G.Zp1 K (G.Zrq (G.Zoy (bz K (ak 0) "names"))) [0] G.w6 (aQ a [] E0 (aj (ak 2) (aj (ak 0) (aj (ak 1) aF)))))) aF))))
def IW(K:aB)(c b a:Sp):TS:=
 (aO (dR (tB (aQ c [] E0 (aj (ak 0) (aj (ak 1) (aj (ak 2) aF))))) (bG (tC .non)) cg)
   (aO (dR ((ZD (tB (aQ a [] E0 (aj (ak 0) aF))) (zL (tB (aQ b [] E0 (aj (ak 0) (aj (bA (mU K) (bz K (bz K (ak 0) "heap") "cells") (ak 1)) aF))))))) (bG (tC .non)) cg)
   (bG (ak 1))))
def yC(K:aB)(a:Sp):TS:=
 (aO (bH (gQ aF) (aN 2))
   (aO (wV (G.Zg0 K (aj (bz K (ak 0) "hands") aF)) (Zo3 K 2 (Dg (aN 3) (Dg (aN 4) Zo4)))
   (dR (bQ (bA (xr) (bA (pD λi j=>.int (Builtin.bitAnd i j)) (bA (rI (λ_ j=>0<=j) λi j=>.int (i / 2 ^ j.toNat)) (ak 1) (ak 3)) (tC (.int 1))) (tC (.int 1)))) (xg (tBM K "list" Rk (ak 2) (aj (aQ a [] E0 (aj (ak 0) (aj (bz K (ak 4) "slots") aF))) aF))) cg))
   (bG (ak 2))))
def uQ(K:aB)(a b:Sp):TS:=
 (aO (xg (aQ a [] E0 (aj (ak 0) aF)))
   (aO (bH (aQ b [] E0 (aj (ak 0) (aj (bz K (bz K (ak 0) "sweeper") "looked") aF))) (aN 1))
   (bG (fW (aj (tC (.str "begin")) (aj (bz K (bz K (ak 0) "sweeper") "turn") (aj (ak 1) aF)))))))
def uO(K:aB)(b a:Sp):TS:=
 (aO (dR (G.Zx3 K (bz K (bz K (ak 0) "sweeper") "grey")) (bG (aQ a [] E0 (aj (ak 0) aF))) cg)
   (bG (aQ b [] E0 (aj (ak 0) aF))))
def Zai(K:aB)(a:Sp):TS:=
 (aO (bH (bz K (ak 0) "sweeper") (aN 1))
   (aO (bH (bA (mU K) (bz K (bz K (ak 0) "heap") "cells") (tBM K "list" Zph (bz K (ak 1) "grey") (aj (tC (.int 0)) aF))) (aN 2))
   (aO (iJ K (ak 1) (bA (pD λi j=>.int (i+j)) (bz K (ak 1) "walks") (tC (.int 1))) "walks")
   (bG (fW (aj (tC (.str "walk")) (aj (bz K (ak 2) "birth") (aj (aQ a [] E0 (aj (ak 0) (aj (bz K (ak 2) "fields") aF))) aF))))))))
def pN(K:aB)(d e c:AH)(f a b g:Sp):TS:=
 (aO (bH (aQ g [] E0 (aj (ak 0) (aj (ak 3) aF))) (aN 4))
   (aO (dR ((VF (bQ (bA (xr) (ak 3) (tC (.int 0)))) (zL ((VF (tB (G.LK (mJ e "stays" a [] E0 (ak 2) aF) (G.LK (mJ d "stays" a [] E0 (ak 2) aF) (mJ c "stays" f [] E0 (ak 2) aF)))) (G.Zx3 K (ak 4))))))) (bG (aQ b [] E0 (aj (ak 0) aF))) cg)
   (aO (iJ K (ak 1) (bA (pD λi j=>.int (i+j)) (bz K (ak 1) "looks") (tC (.int 1))) "looks")
   (aO (dR (tB (G.LK (mJ e "stays" a [] E0 (ak 2) aF) (G.LK (mJ d "stays" a [] E0 (ak 2) aF) (mJ c "stays" f [] E0 (ak 2) aF)))) (iJ K (ak 1) (bA (pD λi j=>.int (Builtin.bitOr i j)) (bz K (ak 1) "looked") (ak 3)) "looked") cg)
   (bG (fW (aj (tC (.str "look")) (aj (ak 3) (aj (ak 4) aF)))))))))
def vU(K:aB)(c d b:AH)(e f i j g a h:Sp):TS:=
 (aO (bH (bz K (ak 0) "sweeper") (aN 1))
   (aO (bH (bz K (bz K (ak 0) "kind") "looking") (aN 2))
   (aO (bH (G.LK (mJ d "next_look" j [] E0 (ak 2) (aj (bz K (ak 1) "looked") (aj (wQ (G.lK K) (aj (bz K (ak 0) "hands") aF)) aF))) (G.LK (mJ c "next_look" e [] E0 (ak 2) (aj (bz K (ak 1) "looked") (aj (wQ (G.lK K) (aj (bz K (ak 0) "hands") aF)) aF))) (mJ b "next_look" f [] E0 (ak 2) (aj (bz K (ak 1) "looked") (aj (wQ (G.lK K) (aj (bz K (ak 0) "hands") aF)) aF))))) (aN 3))
   (pN K c d b i g a h))))
def Zij(K:aB)(b c a d:Sp):TS:=
 (aO (bH (bz K (ak 0) "sweeper") (aN 1))
   (aO (iJ K (ak 1) (wQ (G.lK K) (aj (bz K (bz K (ak 0) "heap") "cells") aF)) "stop")
   (aO (iJ K (ak 1) (tC (.int 0)) "at")
   (aO (bH (aQ c [] E0 (aj (ak 0) aF)) (aN 2))
   (aO (dR (bQ (bA (G.Ey) (ak 2) (tC .non))) (aO (iJ K (ak 1) (tC (.str "lost")) "phase")
   (aO (iJ K (ak 1) (ak 2) "loss")
   (bG (aQ d [] E0 (aj (ak 2) aF))))) cg)
   (aO (iJ K (ak 1) (tC (.str "give")) "phase")
   (aO (bH (aQ b [] E0 (aj (bz K (ak 0) "heap") (aj (aQ a [] E0 (aj (ak 0) aF)) aF))) (aN 3))
   (bG (fW (aj (tC (.str "cut")) (aj (wQ (G.lK K) (aj (ak 3) aF)) (aj (ak 3) aF))))))))))))
def yE(K:aB)(c a b:Sp):TS:=
 (aO (wV (pY K (aQ a [] E0 (aj (bz K (ak 0) "heap") (aj (aQ b [] E0 (aj (ak 0) aF)) aF)))) (Zo3 K 2 (Dg (aN 1) (Dg (aN 2) Zo4)))
   (aO (bH (bA (mU K) (bz K (bz K (ak 0) "heap") "cells") (ak 1)) (aN 3))
   (dR (zL (tB (aQ c [] E0 (aj (ak 0) (aj (ak 3) aF))))) (bG (fW (aj (tC (.str "lost")) (aj (bz K (ak 3) "birth") (aj (wQ (G.Zsm K) (aj (ak 2) aF)) aF))))) cg)))
   (bG (tC .non)))
def Er(K:aB)(a:AH)(c b:Sp):TS:=
 (aO (bH (bz K (ak 0) "heap") (aN 1))
   (bG (G.tLC (pY K (mJ a "there" c [] E0 (ak 1) aF)) [0,1] (zL (tB (aQ b [] E0 (aj (ak 1) (aj (bA (mU K) (bz K (ak 2) "cells") (ak 0)) aF))))) (ak 0))))
def yx(K:aB):TS:=
 (bG (fW (aj (bA (fu K) (ak 0) (tC (.int 0))) (aj (bA (fu K) (ak 0) (tC (.int 1))) (aj (wQ (G.O6 K) (aj (bA (fu K) (ak 0) (tC (.int 2))) aF)) aF)))))
def uP(K:aB)(a b:Sp):TS:=
 (aO (dR (bQ (bA (pD λi j=>.bl (decide (i<j))) (bz K (bz K (ak 0) "sweeper") "at") (bz K (bz K (ak 0) "sweeper") "stop"))) (bG (aQ b [] E0 (aj (ak 0) aF))) cg)
   (bG (aQ a [] E0 (aj (ak 0) aF))))
def yz(K:aB)(d:AH)(c b a:Sp):TS:=
 (aO (bH (bz K (ak 0) "sweeper") (aN 1))
   (aO (bH (bz K (ak 1) "at") (aN 2))
   (aO (iJ K (ak 1) (bA (pD λi j=>.int (i+j)) (ak 2) (tC (.int 1))) "at")
   (aO (iJ K (ak 1) (bA (pD λi j=>.int (i+j)) (bz K (ak 1) "passes") (tC (.int 1))) "passes")
   (aO (bH (aQ b [] E0 (aj (bz K (ak 0) "heap") (aj (ak 2) aF))) (aN 3))
   (aO (dR ((VF (bQ (bA (G.Wi) (ak 3) (tC .non))) (tB (aQ a [] E0 (aj (ak 0) (aj (ak 3) aF)))))) (bG (fW (aj (tC (.str "pass")) (aj (ak 2) (aj (gQ aF) aF))))) cg)
   (bG (fW (aj (tC (.str "back")) (aj (mJ d "back" c [] E0 (bz K (ak 0) "heap") (aj (ak 2) aF)) (aj (gQ (aj (ak 2) aF)) aF)))))))))))
def Zii(K:aB):TS:=
 (aO (bH (bz K (ak 0) "sweeper") (aN 1))
   (aO (iJ K (ak 1) (tC (.str "rest")) "phase")
   (bG (fW (aj (tC (.str "end")) (aj (bz K (ak 1) "turn") (aj (gQ (aj (bz K (ak 1) "walks") (aj (bz K (ak 1) "looks") (aj (bz K (ak 1) "passes") aF)))) aF)))))))
def qP(K:aB)(a:Sp):TS:=
 (bG (aQ a [] E0 (aj (bz K (bz K (ak 0) "sweeper") "loss") aF)))
def Zaj(K:aB)(c d b a:AH)(f e g h:Sp):TS:=
 (aO (bH (G.Zsz [("rest",c),("walk",b),("give",d),("lost",a)] (bz K (bz K (ak 0) "sweeper") "phase")) (aN 1))
   (bG (G.ZC 1 [(c,f),(b,g),(d,e),(a,h)] E0 (aj (ak 0) aF))))
def M5:TS:=
 (bG (bA (pD λi j=>.int (i - j)) (bA (rI Vv λi j=>.int (i * 2 ^ j.toNat)) (tC (.int 1)) (ak 0)) (tC (.int 1))))
def pP:TS:=
 (bG (tC (.int 0)))
def oO:TS:=
 (bG (tC (.int 0)))
def sU:TS:=
 (bG (tC (.bl true)))
def qX(a:Sp):TS:=
 (bG (aQ a [] E0 (aj (ak 1) aF)))
def qY:TS:=
 (aO (wV (Df (aj (ak 2) aF)) (aN 3)
   (dR (bQ (bA (xr) (bA (pD λi j=>.int (Builtin.bitAnd i j)) (bA (rI (λ_ j=>0<=j) λi j=>.int (i / 2 ^ j.toNat)) (ak 1) (ak 3)) (tC (.int 1))) (tC (.int 0)))) (bG (bA (rI Vv λi j=>.int (i * 2 ^ j.toNat)) (tC (.int 1)) (ak 3))) cg))
   (bG (tC (.int 0))))
def qW(a:Sp):TS:=
 (bG (aQ a [] E0 (aj (ak 2) aF)))
def yL:TS:=
 (bG (tC (.bl false)))
def sV(K:aB):TS:=
 (aO (iJ K (ak 0) (ak 1) "looking")
   (iJ K (ak 0) (ak 2) "tells"))
def Eo(K:aB):TS:=
 (bG (bz K (bA (mU K) (bz K (ak 0) "hands") (ak 1)) "slots"))
def Jk(K:aB)(b:AH)(a c:Sp)(E:XK):TS:=
 (aO (bH (aQ a [] E0 (aj (bz K (ak 0) "heap") (aj (bA (mU K) (aQ c [] E0 (aj (ak 0) (aj (ak 1) aF))) (ak 2)) aF))) (aN 3))
   (aO (dR (bQ (bA (G.Wi) (ak 3) (tC .non))) (G.LC b E (aj (tC (.str "the slot holds no cell")) aF)) cg)
   (bG (ak 3))))
def Bf(K:aB)(d a:AH)(c b:Sp)(E:XK):TS:=
 (aO (bH (aQ b [] E (aj (ak 0) (aj (ak 1) (aj (ak 2) aF)))) (aN 4))
   (aO (dR (zL (tB (mJ d "has_field" c [] E0 (ak 4) (aj (ak 3) aF)))) (G.LC a E (aj (tC (.str "the cell does not have the field")) aF)) cg)
   (bG (bz K (ak 4) "fields"))))
def vP(K:aB):TS:=
 (aO (dR (bQ (bA (xr) (bA (pD λi j=>.int (Builtin.bitAnd i j)) (bz K (bz K (ak 0) "kind") "tells") (tC (.int 1))) (tC (.int 0)))) (bG (gQ aF)) cg)
   (bG (gQ (aj (ak 1) aF))))
def vQ(K:aB)(a:Sp):TS:=
 (aO (dR ((VF (bQ (bA (xr) (bA (pD λi j=>.int (Builtin.bitAnd i j)) (bz K (bz K (ak 0) "kind") "tells") (tC (.int 2))) (tC (.int 0)))) (tB (aQ a [] E0 (aj (ak 0) (aj (ak 1) aF)))))) (bG (gQ aF)) cg)
   (bG (gQ (aj (ak 2) aF))))
def Jg(K:aB)(c:AH)(b a d:Sp)(E:XK):TS:=
 (aO (bH (aQ d [] E0 (aj (ak 0) (aj (bA (fu K) (ak 1) (tC (.int 1))) aF))) (aN 2))
   (aO (bH (bA (fu K) (ak 1) (tC (.int 3))) (aN 3))
   (aO (bH (bA (fu K) (ak 1) (tC (.int 4))) (aN 4))
   (aO (bH (mJ c "make" b [] E (bz K (ak 0) "heap") (aj (ak 3) (aj (ak 4) (aj (bz K (bz K (ak 0) "sweeper") "sense") aF)))) (aN 5))
   (aO (bH (ak 5) (Ra (ak 2) (bA (fu K) (ak 1) (tC (.int 2))) zN))
   (bG (fW (aj (tC (.str "made")) (aj (aQ a [] E0 (aj (bz K (ak 0) "heap") (aj (ak 5) aF))) (aj (gQ aF) aF))))))))))
def MT(K:aB)(a b c:Sp)(E:XK):TS:=
 (aO (bH (bA (fu K) (ak 1) (tC (.int 1))) (aN 2))
   (aO (bH (bA (fu K) (ak 1) (tC (.int 3))) (aN 3))
   (aO (bH (bA (fu K) (ak 1) (tC (.int 4))) (aN 4))
   (aO (bH (bA (mU K) (aQ b [] E (aj (ak 0) (aj (ak 2) (aj (ak 3) (aj (ak 4) aF))))) (ak 4)) (aN 5))
   (aO (bH (ak 5) (Ra (aQ c [] E0 (aj (ak 0) (aj (ak 2) aF))) (bA (fu K) (ak 1) (tC (.int 2))) zN))
   (bG (fW (aj (tC (.str "got")) (aj (aQ a [] E0 (aj (bz K (ak 0) "heap") (aj (ak 5) aF))) (aj (gQ aF) aF))))))))))
def MP(K:aB)(a c f e b d:Sp)(E:XK):TS:=
 (aO (bH (bA (fu K) (ak 1) (tC (.int 1))) (aN 2))
   (aO (bH (bA (fu K) (ak 1) (tC (.int 3))) (aN 3))
   (aO (bH (aQ c [] E (aj (ak 0) (aj (ak 2) (aj (bA (fu K) (ak 1) (tC (.int 2))) (aj (ak 3) aF))))) (aN 4))
   (aO (bH (bA (mU K) (ak 4) (ak 3)) (aN 5))
   (aO (bH (bA (mU K) (aQ e [] E0 (aj (ak 0) (aj (ak 2) aF))) (bA (fu K) (ak 1) (tC (.int 4)))) (aN 6))
   (aO (bH (ak 6) (Ra (ak 4) (ak 3) zN))
   (aO (bH (aQ f [] E0 (aj (ak 0) (aj (bA (yO) (aQ d [] E0 (aj (ak 0) (aj (ak 5) aF))) (aQ b [] E0 (aj (ak 0) (aj (ak 2) (aj (ak 6) aF))))) aF))) (aN 7))
   (bG (fW (aj (tC (.str "put")) (aj (aQ a [] E0 (aj (bz K (ak 0) "heap") (aj (ak 5) aF))) (aj (ak 7) aF))))))))))))
def Jj(K:aB)(a b:Sp):TS:=
 (aO (bH (aQ b [] E0 (aj (ak 0) (aj (bA (fu K) (ak 1) (tC (.int 1))) aF))) (aN 2))
   (aO (bH (bA (mU K) (ak 2) (bA (fu K) (ak 1) (tC (.int 3)))) (aN 3))
   (aO (bH (ak 3) (Ra (ak 2) (bA (fu K) (ak 1) (tC (.int 2))) zN))
   (bG (fW (aj (tC (.str "copied")) (aj (aQ a [] E0 (aj (bz K (ak 0) "heap") (aj (ak 3) aF))) (aj (gQ aF) aF))))))))
def Ji(K:aB)(a b:Sp):TS:=
 (aO (bH (aQ b [] E0 (aj (ak 0) (aj (bA (fu K) (ak 1) (tC (.int 1))) aF))) (aN 2))
   (aO (bH (bA (mU K) (ak 2) (bA (fu K) (ak 1) (tC (.int 2)))) (aN 3))
   (aO (bH (tC .non) (Ra (ak 2) (bA (fu K) (ak 1) (tC (.int 2))) zN))
   (bG (fW (aj (tC (.str "dropped")) (aj (aQ a [] E0 (aj (bz K (ak 0) "heap") (aj (ak 3) aF))) (aj (gQ aF) aF))))))))
def Jh(K:aB)(b d a c:Sp):TS:=
 (aO (bH (bA (fu K) (ak 1) (tC (.int 1))) (aN 2))
   (aO (bH (bA (fu K) (ak 1) (tC (.int 3))) (aN 3))
   (aO (bH (bA (mU K) (aQ a [] E0 (aj (ak 0) (aj (ak 2) aF))) (bA (fu K) (ak 1) (tC (.int 2)))) (aN 4))
   (aO (bH (ak 4) (Ra (aQ a [] E0 (aj (ak 0) (aj (ak 3) aF))) (bA (fu K) (ak 1) (tC (.int 4))) zN))
   (aO (bH (aQ d [] E0 (aj (ak 0) (aj (aQ c [] E0 (aj (ak 0) (aj (ak 2) (aj (ak 4) aF)))) aF))) (aN 5))
   (bG (fW (aj (tC (.str "given")) (aj (aQ b [] E0 (aj (bz K (ak 0) "heap") (aj (ak 4) aF))) (aj (ak 5) aF))))))))))
def Es(K:aB)(a:Sp)(E:XK):TS:=
 (aO (bH (aQ a [] E (aj (ak 0) (aj (bA (fu K) (ak 1) (tC (.int 1))) (aj (bA (fu K) (ak 1) (tC (.int 2))) aF)))) (aN 2))
   (aO (bH (bz K (ak 2) "load") (aN 3))
   (aO (iJ K (ak 2) (bA (fu K) (ak 1) (tC (.int 3))) "load")
   (bG (fW (aj (tC (.str "wrote")) (aj (ak 3) (aj (gQ aF) aF))))))))
def Je(K:aB)(a:Sp)(E:XK):TS:=
 (aO (bH (aQ a [] E (aj (ak 0) (aj (bA (fu K) (ak 1) (tC (.int 1))) (aj (bA (fu K) (ak 1) (tC (.int 2))) aF)))) (aN 2))
   (bG (fW (aj (tC (.str "read")) (aj (bz K (ak 2) "load") (aj (gQ aF) aF))))))
def Jf(K:aB)(b a:Sp)(E:XK):TS:=
 (aO (bH (bA (fu K) (ak 1) (tC (.int 1))) (aN 2))
   (aO (bH (bA (fu K) (ak 1) (tC (.int 2))) (aN 3))
   (aO (bH (bz K (aQ b [] E (aj (ak 0) (aj (ak 2) (aj (ak 3) aF)))) "birth") (aN 4))
   (aO (S8 (bz K (ak 0) "names") (bA (fu K) (ak 1) (tC (.int 3))) (fW (aj (bA (mU K) (aQ a [] E0 (aj (ak 0) (aj (ak 2) aF))) (ak 3)) (aj (ak 4) aF))))
   (bG (fW (aj (tC (.str "named")) (aj (ak 4) (aj (gQ aF) aF)))))))))
def Jc(K:aB)(a d b c:Sp)(E:XK):TS:=
 (aO (bH (aQ b [] E (aj (ak 0) (aj (bA (fu K) (ak 1) (tC (.int 3))) aF))) (aN 2))
   (aO (bH (ak 2) (Ra (aQ c [] E0 (aj (ak 0) (aj (bA (fu K) (ak 1) (tC (.int 1))) aF))) (bA (fu K) (ak 1) (tC (.int 2))) zN))
   (aO (bH (aQ d [] E0 (aj (ak 0) (aj (gQ (aj (ak 2) aF)) aF))) (aN 3))
   (bG (fW (aj (tC (.str "sought")) (aj (aQ a [] E0 (aj (bz K (ak 0) "heap") (aj (ak 2) aF))) (aj (ak 3) aF))))))))
def vR(K:aB)(a:AH)(b:Sp)(E:XK):TS:=
 (aO (dR (tB (Zz (ak 1) (bz K (ak 0) "names"))) (G.LC a E (aj (tC (.str "the weak name was never given")) aF)) cg)
   (aO (bH (bA (fu K) (R5 (bz K (ak 0) "names") (ak 1)) (tC (.int 0))) (aN 2))
   (aO (bH (bA (fu K) (R5 (bz K (ak 0) "names") (ak 1)) (tC (.int 1))) (aN 3))
   (aO (dR (tB (aQ b [] E0 (aj (ak 0) (aj (ak 2) (aj (ak 3) aF))))) (bG (tC .non)) cg)
   (bG (ak 2))))))
def Zpf(K:aB)(q l o m r k p s n t:AH)(h d a b c i e j g f:Sp)(E:XK):TS:=
 (aO (bH (G.Zsz [("make",r),("get",o),("put",p),("copy",q),("drop",l),("give",m),("write",t),("read",s),("name",k),("seek",n)] (bA (fu K) (ak 1) (tC (.int 0)))) (aN 2))
   (bG (G.ZC 2 [(r,c),(o,a),(p,e),(q,h),(l,d),(m,b),(t,f),(s,j),(k,i),(n,g)] E (aj (ak 0) (aj (ak 1) aF)))))
def Bw(K:aB):TS:=
 (aO (dR (bQ (bA (pD λi j=>.bl (decide (i<j))) (ak 1) (wQ (G.lK K) (aj (ak 0) aF)))) (bG (bA (mU K) (ak 0) (ak 1))) cg)
   (bG (tC (.int 0))))
def Bu:TS:=
 (bG (bA (rI (λ_ j=>0<j) λi j=>.int (i % j)) (bA (rI (λ_ j=>0<j) λi j=>.int (i % j)) (bA (rI Vw λi j=>.int (i * j)) (bA (rI (λ_ j=>0<j) λi j=>.int (i % j)) (ak 0) (ak 1)) (tC (.int 48271))) (ak 1)) (ak 2)))
def Bh:TS:=
 (aO (bH (tC (.str "abcdefghijklmnopqrstuvwxyz")) (aN 2))
   (aO (bH (bA (pD λi j=>.int (i+j)) (tC (.int 1)) (bA (rI (λ_ j=>0<j) λi j=>.int (i % j)) (ak 0) (tC (.int 12)))) (aN 3))
   (aO (bH (bA (rI (λ_ j=>0<j) λi j=>.int (i % j)) (bA (rI Pz λi j=>.int (i / j)) (ak 0) (tC (.int 12))) (ak 3)) (aN 4))
   (aO (bH (bA (Zpi) (ak 2) (bA (rI (λ_ j=>0<j) λi j=>.int (i % j)) (bA (rI Pz λi j=>.int (i / j)) (ak 0) (tC (.int 5))) (tC (.int 26)))) (aN 5))
   (aO (bH (bA (Zpi) (ak 2) (bA (rI (λ_ j=>0<j) λi j=>.int (i % j)) (bA (pD λi j=>.int (i+j)) (bA (rI Pz λi j=>.int (i / j)) (ak 0) (tC (.int 7))) (bA (rI Vw λi j=>.int (i * j)) (tC (.int 5)) (ak 1))) (tC (.int 26)))) (aN 6))
   (bG (bA (G.Zpk) (bA (G.Zpk) (bA (G.Zlb) (ak 5) (ak 4)) (ak 6)) (bA (G.Zlb) (ak 5) (bA (pD λi j=>.int (i - j)) (bA (pD λi j=>.int (i - j)) (ak 3) (tC (.int 1))) (ak 4))))))))))
def yH(K:aB)(c a b:Sp):TS:=
 (aO (bH (aQ c [] E0 (aj (ak 0) (aj (tC (.int 1)) aF))) (aN 1))
   (aO (bH (gQ aF) (aN 2))
   (aO (wV (Df (aj (bA (pD λi j=>.int (i+j)) (tC (.int 1)) (aQ a [] E0 (aj (ak 1) (aj (tC (.int 104729)) (aj (tC (.int 5)) aF))))) aF)) (aN 3)
   (aO (bH (tC (.int 3)) (aN 4))
   (aO (dR (bQ (bA (xr) (bA (rI (λ_ j=>0<j) λi j=>.int (i % j)) (ak 1) (tC (.int 3))) (tC (.int 1)))) (bH (bA (pD λi j=>.int (i+j)) (tC (.int 3)) (aQ a [] E0 (aj (bA (pD λi j=>.int (i+j)) (ak 1) (bA (rI Vw λi j=>.int (i * j)) (bA (rI Vw λi j=>.int (i * j)) (tC (.int 7)) (ak 3)) (ak 3))) (aj (tC (.int 224737)) (aj (tC (.int 7)) aF))))) (aN 4)) cg)
   (xg (tBM K "list" BL (ak 2) (aj (fW (aj (aQ b [] E0 (aj (ak 1) (aj (ak 3) aF))) (aj (ak 4) aF))) aF))))))
   (bG (ak 2)))))
def Bo(b a:Sp):TS:=
 (aO (bH (aQ b [] E0 (aj (ak 0) (aj (tC (.int 2)) aF))) (aN 1))
   (aO (dR (bQ (bA (xr) (aQ a [] E0 (aj (ak 1) (aj (tC (.int 7919)) (aj (tC (.int 4)) aF)))) (tC (.int 1)))) (bG (bA (pD λi j=>.int (i+j)) (tC (.int 4)) (bA (rI (λ_ j=>0<j) λi j=>.int (i % j)) (bA (rI Pz λi j=>.int (i / j)) (ak 1) (tC (.int 4))) (tC (.int 60))))) cg)
   (bG (bA (pD λi j=>.int (i - j)) (bA (rI Vv λi j=>.int (i ^ j.toNat)) (tC (.int 10)) (tC (.int 15))) (bA (rI (λ_ j=>0<j) λi j=>.int (i % j)) (ak 1) (bA (rI Vv λi j=>.int (i ^ j.toNat)) (tC (.int 10)) (tC (.int 12))))))))
def Bs(d e b c:AH)(a:Sp):TS:=
 (aO (dR (bQ (bA (xr) (bA (rI (λ_ j=>0<j) λi j=>.int (i % j)) (ak 0) (tC (.int 3))) (tC (.int 0)))) (bG (Dc b a [] E0 (aj (G.LQ e) (aj (bA (rI (λ_ j=>0<j) λi j=>.int (i % j)) (bA (rI Pz λi j=>.int (i / j)) (ak 0) (tC (.int 3))) (tC (.int 4))) aF)))) cg)
   (aO (dR (bQ (bA (xr) (bA (rI (λ_ j=>0<j) λi j=>.int (i % j)) (ak 0) (tC (.int 3))) (tC (.int 1)))) (bG (Dc b a [] E0 (aj (G.LQ d) (aj (bA (rI (λ_ j=>0<j) λi j=>.int (i % j)) (bA (rI Pz λi j=>.int (i / j)) (ak 0) (tC (.int 3))) (tC (.int 4))) aF)))) cg)
   (bG (Dc b a [] E0 (aj (G.LQ c) (aj (bA (rI (λ_ j=>0<j) λi j=>.int (i % j)) (bA (rI Pz λi j=>.int (i / j)) (ak 0) (tC (.int 3))) (tC (.int 4))) aF))))))
def Bq(K:aB)(a:Sp):TS:=
 (aO (bH (bA (mU K) (gQ (aj (tC (.int 1)) (aj (tC (.int 2)) (aj (tC (.int 2)) (aj (tC (.int 3)) (aj (tC (.int 0)) (aj (tC (.int 8)) aF))))))) (aQ a [] E0 (aj (ak 0) (aj (tC (.int 611953)) (aj (tC (.int 6)) aF))))) (aN 3))
   (aO (bH (tC (.int 0)) (aN 4))
   (aO (dR (bQ (bA (xr) (bA (rI (λ_ j=>0<j) λi j=>.int (i % j)) (ak 0) (tC (.int 3))) (tC (.int 1)))) (bH (bA (rI (λ_ j=>0<j) λi j=>.int (i % j)) (ak 0) (tC (.int 7))) (aN 4)) cg)
   (aO (dR (bQ (bA (xr) (bA (rI (λ_ j=>0<j) λi j=>.int (i % j)) (ak 0) (tC (.int 3))) (tC (.int 2)))) (bH (bA (rI (λ_ j=>0<j) λi j=>.int (i % j)) (ak 0) (bA (pD λi j=>.int (i+j)) (bA (rI Vv λi j=>.int (i ^ j.toNat)) (tC (.int 10)) (tC (.int 12))) (tC (.int 1)))) (aN 4)) cg)
   (bG (fW (aj (tC (.str "make")) (aj (ak 1) (aj (ak 2) (aj (ak 3) (aj (ak 4) aF)))))))))))
def Br:TS:=
 (aO (bH (bA (rI (λ_ j=>0<j) λi j=>.int (i % j)) (ak 0) (bA (rI Vv λi j=>.int (i ^ j.toNat)) (tC (.int 10)) (tC (.int 60)))) (aN 1))
   (aO (dR (bQ (bA (xr) (bA (rI (λ_ j=>0<j) λi j=>.int (i % j)) (bA (rI Pz λi j=>.int (i / j)) (ak 0) (tC (.int 7))) (tC (.int 2))) (tC (.int 1)))) (bG (tUn (rU λi=>.int (-i)) (ak 1))) cg)
   (bG (ak 1))))
def Bv(K:aB)(a b d c:Sp):TS:=
 (aO (bH (aQ a [] E0 (aj (ak 0) (aj (tC (.int 104729)) (aj (wQ (G.lK K) (aj (ak 1) aF)) aF)))) (aN 3))
   (aO (bH (aQ a [] E0 (aj (ak 0) (aj (tC (.int 224737)) (aj (bA (fu K) (bA (mU K) (ak 1) (ak 3)) (tC (.int 1))) aF)))) (aN 4))
   (aO (bH (aQ a [] E0 (aj (ak 0) (aj (tC (.int 350377)) (aj (bA (fu K) (bA (mU K) (ak 1) (ak 3)) (tC (.int 1))) aF)))) (aN 5))
   (aO (bH (aQ a [] E0 (aj (ak 0) (aj (tC (.int 479909)) (aj (bA (mU K) (gQ (aj (tC (.int 3)) (aj (tC (.int 8)) aF))) (bA (rI Pz λi j=>.int (i / j)) (bA (rI (λ_ j=>0<j) λi j=>.int (i % j)) (ak 0) (tC (.int 5))) (tC (.int 4)))) aF)))) (aN 6))
   (aO (bH (aQ a [] E0 (aj (ak 0) (aj (tC (.int 7919)) (aj (tC (.int 20)) aF)))) (aN 7))
   (aO (dR (bQ (bA (pD λi j=>.bl (decide (i<j))) (ak 7) (tC (.int 5)))) (bG (aQ d [] E0 (aj (ak 0) (aj (ak 3) (aj (ak 4) aF))))) cg)
   (aO (dR (bQ (bA (pD λi j=>.bl (decide (i<j))) (ak 7) (tC (.int 8)))) (bG (fW (aj (tC (.str "get")) (aj (ak 3) (aj (ak 4) (aj (ak 5) (aj (ak 6) aF))))))) cg)
   (aO (dR (bQ (bA (pD λi j=>.bl (decide (i<j))) (ak 7) (tC (.int 11)))) (bG (fW (aj (tC (.str "put")) (aj (ak 3) (aj (ak 5) (aj (ak 6) (aj (ak 4) aF))))))) cg)
   (aO (dR (bQ (bA (xr) (ak 7) (tC (.int 11)))) (bG (fW (aj (tC (.str "copy")) (aj (ak 3) (aj (ak 4) (aj (ak 5) aF)))))) cg)
   (aO (dR (bQ (bA (xr) (ak 7) (tC (.int 12)))) (bG (fW (aj (tC (.str "drop")) (aj (ak 3) (aj (ak 4) aF))))) cg)
   (aO (dR (bQ (bA (pD λi j=>.bl (decide (i<j))) (ak 7) (tC (.int 15)))) (aO (bH (aQ a [] E0 (aj (ak 0) (aj (tC (.int 746773)) (aj (wQ (G.lK K) (aj (ak 1) aF)) aF)))) (aN 8))
   (bG (fW (aj (tC (.str "give")) (aj (ak 3) (aj (ak 4) (aj (ak 8) (aj (aQ a [] E0 (aj (ak 0) (aj (tC (.int 882377)) (aj (bA (fu K) (bA (mU K) (ak 1) (ak 8)) (tC (.int 1))) aF)))) aF)))))))) cg)
   (aO (dR (bQ (bA (xr) (ak 7) (tC (.int 15)))) (bG (fW (aj (tC (.str "write")) (aj (ak 3) (aj (ak 5) (aj (aQ b [] E0 (aj (ak 0) aF)) aF)))))) cg)
   (aO (bH (aQ c [] E0 (aj (ak 2) (aj (aQ a [] E0 (aj (ak 0) (aj (tC (.int 1299709)) (aj (tC (.int 2)) aF)))) aF))) (aN 9))
   (aO (dR (bQ (bA (pD λi j=>.bl (decide (i<j))) (ak 7) (tC (.int 18)))) (bG (fW (aj (tC (.str "name")) (aj (ak 3) (aj (ak 5) (aj (ak 9) aF)))))) cg)
   (bG (fW (aj (tC (.str "seek")) (aj (ak 3) (aj (ak 4) (aj (ak 9) aF))))))))))))))))))))
def yK(K:aB)(a b:Sp):TS:=
 (aO (bH (aQ a [] E0 (aj (ak 0) (aj (ak 1) (aj (ak 2) aF)))) (aN 3))
   (aO (dR ((ZD (bQ (bA (xr) (bA (fu K) (ak 3) (tC (.int 0))) (tC (.str "put")))) (bQ (bA (xr) (bA (rI (λ_ j=>0<j) λi j=>.int (i % j)) (bA (rI Pz λi j=>.int (i / j)) (ak 0) (tC (.int 5))) (tC (.int 2))) (tC (.int 0)))))) (bG (gQ (aj (ak 3) (aj (fW (aj (tC (.str "drop")) (aj (bA (fu K) (ak 3) (tC (.int 1))) (aj (bA (fu K) (ak 3) (tC (.int 4))) aF)))) aF)))) cg)
   (aO (dR ((ZD (bQ (bA (xr) (bA (fu K) (ak 3) (tC (.int 0))) (tC (.str "get")))) (bQ (bA (xr) (bA (rI (λ_ j=>0<j) λi j=>.int (i % j)) (bA (rI Pz λi j=>.int (i / j)) (ak 0) (tC (.int 5))) (tC (.int 2))) (tC (.int 0)))))) (bG (gQ (aj (ak 3) (aj (fW (aj (tC (.str "put")) (aj (bA (fu K) (ak 3) (tC (.int 1))) (aj (bA (fu K) (ak 3) (tC (.int 3))) (aj (bA (fu K) (ak 3) (tC (.int 4))) (aj (aQ b [] E0 (aj (ak 0) (aj (tC (.int 1159523)) (aj (tC (.int 3)) aF)))) aF)))))) aF)))) cg)
   (bG (gQ (aj (ak 3) aF))))))
def qx(K:aB)(a:Sp):TS:=
 (aO (wV (Df (aj (wQ (G.lK K) (aj (ak 0) aF)) aF)) (aN 4)
   (aO (dR (bQ (bA (xr) (ak 5) (tC (.int 1)))) (bH (bA (yO) (ak 3) (gQ (aj (fW (aj (tC (.str "get")) (aj (ak 4) (aj (tC (.int 1)) (aj (tC (.int 0)) (aj (bA (rI (λ_ j=>0<j) λi j=>.int (i % j)) (ak 4) (tC (.int 2))) aF)))))) (aj (fW (aj (tC (.str "put")) (aj (ak 4) (aj (tC (.int 0)) (aj (bA (rI (λ_ j=>0<j) λi j=>.int (i % j)) (ak 4) (tC (.int 2))) (aj (tC (.int 2)) aF)))))) aF)))) (aN 3)) cg)
   (aO (dR (bQ (bA (pD λi j=>.bl (decide (j<i))) (ak 5) (tC (.int 1)))) (bH (bA (yO) (ak 3) (gQ (aj (fW (aj (tC (.str "make")) (aj (ak 4) (aj (tC (.int 0)) (aj (tC (.int 1)) (aj (tC (.int 0)) aF)))))) (aj (fW (aj (tC (.str "put")) (aj (ak 4) (aj (tC (.int 0)) (aj (tC (.int 0)) (aj (tC (.int 1)) aF)))))) (aj (fW (aj (tC (.str "drop")) (aj (ak 4) (aj (tC (.int 1)) aF)))) aF))))) (aN 3)) cg)
   (dR (bQ (bA (xr) (ak 5) (tC (.int 3)))) (bH (bA (yO) (ak 3) (gQ (aj (fW (aj (tC (.str "name")) (aj (ak 4) (aj (tC (.int 0)) (aj (aQ a [] E0 (aj (ak 2) (aj (bA (rI (λ_ j=>0<j) λi j=>.int (i % j)) (ak 4) (tC (.int 2))) aF))) aF))))) (aj (fW (aj (tC (.str "drop")) (aj (ak 4) (aj (tC (.int 0)) aF)))) aF)))) (aN 3)) cg))))
   (bG (ak 3)))
def yG(K:aB)(a b:Sp):TS:=
 (aO (bH (gQ aF) (aN 3))
   (aO (wV (Df (aj (wQ (G.lK K) (aj (ak 0) aF)) aF)) (aN 4)
   (aO (bH (bA (yO) (ak 3) (gQ (aj (fW (aj (tC (.str "make")) (aj (ak 4) (aj (tC (.int 0)) (aj (tC (.int 2)) (aj (tC (.int 0)) aF)))))) (aj (fW (aj (tC (.str "make")) (aj (ak 4) (aj (tC (.int 1)) (aj (tC (.int 1)) (aj (tC (.int 0)) aF)))))) aF)))) (aN 3))
   (bH (bA (yO) (ak 3) (gQ (aj (fW (aj (tC (.str "put")) (aj (ak 4) (aj (tC (.int 0)) (aj (bA (rI (λ_ j=>0<j) λi j=>.int (i % j)) (ak 4) (tC (.int 2))) (aj (tC (.int 1)) aF)))))) (aj (fW (aj (tC (.str "drop")) (aj (ak 4) (aj (tC (.int 1)) aF)))) aF)))) (aN 3))))
   (aO (bH (aQ a [] E0 (aj (ak 1) (aj (tC (.int 746773)) (aj (tC (.int 4)) aF)))) (aN 5))
   (aO (dR (bQ (bA (pD λi j=>.bl (decide (j<i))) (ak 5) (tC (.int 1)))) (bH (bA (yO) (ak 3) (G.tLC (Df (aj (wQ (G.lK K) (aj (ak 0) aF)) aF)) [] G.w6 (fW (aj (tC (.str "make")) (aj (ak 0) (aj (tC (.int 1)) (aj (tC (.int 0)) (aj (tC (.int 0)) aF)))))))) (aN 3)) cg)
   (aO (bH (bA (yO) (ak 3) (bA (Zeh) (gQ (aj (tC .non) aF)) (bA (pD λi j=>.int (i+j)) (tC (.int 1)) (aQ a [] E0 (aj (ak 1) (aj (tC (.int 882377)) (aj (tC (.int 4)) aF))))))) (aN 3))
   (qx K b))))))
def qT(K:aB)(c b a:Sp):TS:=
 (aO (bH (aQ c [] E0 (aj (ak 0) (aj (tC (.int 2)) aF))) (aN 3))
   (aO (bH (tC (.int 0)) (aN 4))
   (aO (wV (pY K (tSl (ZAl K) (ak 0) (Yz (tC (.int 3))) (Yz (tC (.int 63))))) (aN 5)
   (aO (bH (bA (pD λi j=>.int (i+j)) (ak 5) (bA (rI Vw λi j=>.int (i * j)) (bA (rI Vw λi j=>.int (i * j)) (ak 4) (ak 4)) (tC (.int 1000003)))) (aN 6))
   (aO (dR (bQ (bA (xr) (aQ a [] E0 (aj (ak 6) (aj (tC (.int 1020379)) (aj (tC (.int 3)) aF)))) (tC (.int 0)))) (bH (bA (yO) (ak 2) (bA (Zeh) (gQ (aj (tC .non) aF)) (bA (pD λi j=>.int (i+j)) (tC (.int 1)) (aQ a [] E0 (aj (ak 6) (aj (tC (.int 1159523)) (aj (tC (.int 6)) aF))))))) (aN 2)) (bH (bA (yO) (ak 2) (aQ b [] E0 (aj (ak 6) (aj (ak 1) (aj (ak 3) aF))))) (aN 2)))
   (Zx5 4 (tC (.int 1)) (ipI λi j=>i+j)))))
   (bG (bA (yO) (ak 2) (bA (Zeh) (gQ (aj (tC .non) aF)) (bA (pD λi j=>.int (i+j)) (tC (.int 12)) (aQ a [] E0 (aj (ak 3) (aj (tC (.int 1020379)) (aj (tC (.int 12)) aF)))))))))))
def Bm(K:aB)(a c b d:Sp):TS:=
 (aO (bH (gQ aF) (aN 2))
   (aO (dR (bQ (bA (pD λi j=>.bl (decide (j<i))) (aQ b [] E0 (aj (aQ a [] E0 (aj (ak 0) (aj (tC (.int 0)) aF))) (aj (tC (.int 611953)) (aj (tC (.int 4)) aF)))) (tC (.int 0)))) (bH (aQ d [] E0 (aj (ak 1) (aj (aQ a [] E0 (aj (ak 0) (aj (tC (.int 0)) aF))) (aj (aQ a [] E0 (aj (ak 0) (aj (tC (.int 2)) aF))) aF)))) (aN 2)) cg)
   (qT K a c b)))
def vX:TS:=
 (bG ((PK (wQ (G.Li) (aj (ak 0) (aj (tC (.ty "int")) aF))) (Zl8 (wQ (G.Li) (aj (ak 0) (aj (tC (.ty "bool")) aF)))))))
def yJ(K:aB)(a:Sp):TS:=
 (aO (dR ((VF (zL (tB (wQ (G.Li) (aj (ak 0) (aj (tC (.ty "tuple")) aF))))) (VF (bQ (bA (rNe) (wQ (G.lK K) (aj (ak 0) aF)) (tC (.int 3)))) (zL (tB (wQ (G.Li) (aj (bA (fu K) (ak 0) (tC (.int 0))) (aj (tC (.ty "str")) aF)))))))) (bG (tC (.bl false))) cg)
   (aO (dR ((VF (zL (tB (aQ a [] E0 (aj (bA (fu K) (ak 0) (tC (.int 1))) aF)))) (zL (tB (wQ (G.Li) (aj (bA (fu K) (ak 0) (tC (.int 2))) (aj (tC (.ty "list")) aF))))))) (bG (tC (.bl false))) cg)
   (aO (wV (pY K (bA (fu K) (ak 0) (tC (.int 2)))) (aN 2)
   (dR (zL (tB (aQ a [] E0 (aj (ak 2) aF)))) (bG (tC (.bl false))) cg))
   (bG (bA (G.Zmq K false) (ak 0) (ak 1))))))
def Bt(e f c d:AH)(b:Sp):TS:=
 (aO (bH (tC .non) (aN 2))
   (aO (G.Zx2 (λa=>a=Value.ref e\/a=Value.ref c\/a=Value.ref f\/a=Value.ref d) (λEx=>(bH (G.Zhj b [] Ex (aj (ak 0) (aj (ak 1) aF))) (aN 2))) (bH (tC .non) (aN 2)))
   (bG (ak 2))))
def yI(K:aB):TS:=
 (aO (bH (gQ aF) (aN 2))
   (aO (wV (Df (aj (wQ (G.lK K) (aj (ak 0) aF)) aF)) (aN 3)
   (wV (pY K (bA (mU K) (ak 0) (ak 3))) (aN 4)
   (dR ((ZD (bQ (bA (xr) (bA (pD λi j=>.int (Builtin.bitAnd i j)) (bA (rI (λ_ j=>0<=j) λi j=>.int (i / 2 ^ j.toNat)) (ak 1) (ak 3)) (tC (.int 1))) (tC (.int 1)))) (ZD (bQ (bA (G.Ey) (ak 4) (tC .non))) (bQ (bA (rIn K true) (ak 4) (ak 2)))))) (xg (tBM K "list" BL (ak 2) (aj (ak 4) aF))) cg)))
   (bG (ak 2))))
def Bj(K:aB):TS:=
 (aO (bH (R4) (aN 3))
   (aO (wV (pY K (ak 0)) (aN 4)
   (S8 (ak 3) (bA (fu K) (ak 4) (tC (.int 1))) (bA (fu K) (ak 4) (tC (.int 5)))))
   (aO (wV (pY K (ak 1)) (aN 5)
   (S8 (ak 3) (ak 5) (ak 2)))
   (bG (ak 3)))))
def vY(K:aB):TS:=
 (aO (dR ((VF (zL (tB (wQ (G.Li) (aj (ak 0) (aj (tC (.ty "list")) aF))))) (bQ (bA (rNe) (wQ (G.lK K) (aj (ak 0) aF)) (wQ (G.lK K) (aj (ak 1) aF)))))) (bG (tC (.bl false))) cg)
   (aO (wV (Df (aj (wQ (G.lK K) (aj (ak 1) aF)) aF)) (aN 3)
   (aO (dR ((VF (zL (tB (wQ (G.Li) (aj (bA (mU K) (ak 0) (ak 3)) (aj (tC (.ty "tuple")) aF))))) (bQ (bA (rNe) (wQ (G.lK K) (aj (bA (mU K) (ak 0) (ak 3)) aF)) (tC (.int 6)))))) (bG (tC (.bl false))) cg)
   (dR ((VF (bQ (bA (G.Zmq K true) (tSl (Zxk K) (bA (mU K) (ak 0) (ak 3)) Ri (Yz (tC (.int 5)))) (tSl (Zxk K) (bA (mU K) (ak 1) (ak 3)) Ri (Yz (tC (.int 5)))))) (bQ (bA (rNe) (bA (fu K) (bA (mU K) (ak 0) (ak 3)) (tC (.int 5))) (R5 (ak 2) (bA (fu K) (bA (mU K) (ak 1) (ak 3)) (tC (.int 1)))))))) (bG (tC (.bl false))) cg)))
   (bG (tC (.bl true)))))
def vW(K:aB):TS:=
 (aO (bH (R4) (aN 2))
   (aO (wV (pY K (ak 0)) (aN 3)
   (S8 (ak 2) (bA (fu K) (ak 3) (tC (.int 1))) (bA (fu K) (ak 3) (tC (.int 0)))))
   (bG (G.tLC (pY K (ak 1)) [2] G.w6 (R5 (ak 1) (ak 0))))))
def yF(K:aB)(a:Sp):TS:=
 (aO (bH (gQ (aj (bz K (ak 0) "sense") (aj (bz K (ak 0) "turn") (aj (bz K (ak 0) "looked") aF)))) (aN 1))
   (aO (bH (bA (yO) (ak 1) (gQ (aj (bz K (ak 0) "walks") (aj (bz K (ak 0) "looks") (aj (bz K (ak 0) "passes") aF))))) (aN 1))
   (aO (wV (pY K (bA (yO) (ak 1) (bz K (ak 0) "grey"))) (aN 2)
   (dR (zL (tB (aQ a [] E0 (aj (ak 2) aF)))) (bG (gQ aF)) cg))
   (bG (ak 1)))))
def Bx:TS:=
 (aO (dR (bQ (bA (xr) (ak 0) (tC (.int 0)))) (bG (tC (.int 0))) cg)
   (aO (dR (bQ (bA (xr) (ak 0) (tC (.int 2)))) (bG (bA (pD λi j=>.int (i - j)) (bA (rI Vv λi j=>.int (i * 2 ^ j.toNat)) (tC (.int 1)) (ak 2)) (tC (.int 1)))) cg)
   (aO (wV (Df (aj (ak 2) aF)) (aN 3)
   (dR (bQ (bA (xr) (bA (pD λi j=>.int (Builtin.bitAnd i j)) (bA (rI (λ_ j=>0<=j) λi j=>.int (i / 2 ^ j.toNat)) (ak 1) (ak 3)) (tC (.int 1))) (tC (.int 0)))) (bG (bA (rI Vv λi j=>.int (i * 2 ^ j.toNat)) (tC (.int 1)) (ak 3))) cg))
   (bG (tC (.int 0))))))
def Bp(K:aB):TS:=
 (bG (G.tLC (pY K (ak 0)) [] (bQ (bA (xr) (bA (fu K) (ak 0) (tC (.int 5))) (tC (.str "pale")))) (bA (fu K) (ak 0) (tC (.int 1)))))
def Eu(K:aB)(c d a b:Sp):TS:=
 (aO (bH (aQ b [] E0 (aj (ak 0) aF)) (aN 3))
   (aO (bH (aQ c [] E0 (aj (ak 1) (aj (bz K (bz K (ak 0) "sweeper") "looked") (aj (wQ (G.lK K) (aj (ak 3) aF)) aF)))) (aN 4))
   (aO (bH (aQ a [] E0 (aj (ak 2) aF)) (aN 5))
   (aO (bH (G.tLC (pY K (aQ d [] E0 (aj (ak 3) (aj (ak 4) aF)))) [5] (bQ (bA (rIn K false) (ak 0) (ak 1))) (ak 0)) (aN 6))
   (bG (fW (aj (ak 4) (aj (ak 6) (aj ((PK (bA (rNe) (ak 4) (tC (.int 0))) ((Zx4 (bA (xr) (ak 1) (tC (.int 1))) (bA (G.Wj K true) (ak 6) (gQ aF)))))) aF)))))))))
def Bl(K:aB)(a:Sp):TS:=
 (aO (wV (Df (aj (wQ (G.lK K) (aj (bz K (ak 0) "hands") aF)) aF)) (aN 2)
   (aO (bH (aQ a [] E0 (aj (ak 0) (aj (ak 2) aF))) (aN 3))
   (dR ((VF ((ZD (bQ (bA (G.Zlc) (ak 3) (tC (.bl true)))) (bQ (bA (G.Zlc) (ak 3) (tC (.bl false)))))) (bQ (bA (rNe) (ak 3) (bA (xr) (bA (pD λi j=>.int (Builtin.bitAnd i j)) (bA (rI (λ_ j=>0<=j) λi j=>.int (i / 2 ^ j.toNat)) (ak 1) (ak 2)) (tC (.int 1))) (tC (.int 1))))))) (bG (tC (.bl false))) cg)))
   (bG (tC (.bl true))))
def m7(K:aB)(g b f e d c a:Sp):TS:=
 (aO (bH (aQ d [] E0 (aj (ak 3) (aj (ak 7) (aj (tC (.str "grey")) aF)))) (aN 10))
   (aO (dR ((VF (zL (tB (aQ g [] E0 (aj (aQ a [] E0 (aj (ak 0) aF)) (aj (ak 3) (aj (ak 10) aF)))))) (bQ (bA (G.Zmq K true) (aQ c [] E0 (aj (ak 0) aF)) (ak 4))))) (bG (tC (.bl false))) cg)
   (aO (dR ((VF (bQ (bA (rNe) (bz K (ak 2) "phase") (tC (.str "walk")))) (bQ (bA (G.Wj K true) (aQ e [] E0 (aj (ak 2) aF)) (ak 5))))) (bG (tC (.bl false))) cg)
   (bG ((PK (aQ f [] E0 (aj (ak 0) (aj (bA (mU K) (ak 5) (tC (.int 2))) aF))) (bA (G.Wj K false) (bz K (ak 2) "grey") (aQ b [] E0 (aj (ak 3) (aj (ak 7) aF))))))))))
def qw(K:aB)(g b f e d c a:Sp):TS:=
 (aO (Zp3 ((ak 5)) ((tC (.int 4))) ((tC (.int 1))) (G.Zpj K) (ipI λi j=>i+j) zN)
   (aO (dR (bQ (bA (xr) (ak 1) (tC (.int 1)))) (bH (bA (pD λi j=>.int (Builtin.bitOr i j)) (bA (mU K) (ak 5) (tC (.int 2))) (ak 6)) (Ra (ak 5) (tC (.int 2)) zN)) cg)
   (m7 K g b f e d c a)))
def qQ(K:aB)(d i b h g f c e a:Sp):TS:=
 (aO (bH (aQ e [] E0 (aj (ak 0) aF)) (aN 9))
   (aO (dR (zL (tB (ak 8))) (bG ((PK (wQ (G.Li) (aj (ak 9) (aj (tC (.ty "tuple")) aF))) (PK (bA (xr) (wQ (G.lK K) (aj (ak 9) aF)) (tC (.int 3))) (bA (rIn K false) (bA (fu K) (ak 9) (tC (.int 0))) (fW (aj (tC (.str "cut")) (aj (tC (.str "lost")) aF)))))))) cg)
   (aO (dR (zL (tB (aQ d [] E0 (aj (ak 9) (aj (fW (aj (tC (.str "look")) (aj (ak 6) (aj (wQ (G.O6 K) (aj (ak 7) aF)) aF)))) aF))))) (bG (tC (.bl false))) cg)
   (qw K i b h g f c a))))
def qR(K:aB)(i e j c g a h d f b:Sp):TS:=
 (aO (bH (aQ a [] E0 (aj (ak 2) aF)) (aN 5))
   (aO (dR (bQ (bA (G.Wj K false) (ak 5) (gQ aF))) (bG (tC (.bl false))) cg)
   (aO (bH (aQ i [] E0 (aj (ak 0) (aj (ak 1) (aj (ak 3) aF)))) (Zo3 K 3 (Dg (aN 6) (Dg (aN 7) (Dg (aN 8) Zo4)))))
   (qQ K e j c g a h d f b))))
def Bk(K:aB)(i e j d f h g b c a:Sp):TS:=
 (aO (bH (bz K (ak 0) "sweeper") (aN 2))
   (aO (dR ((VF (bQ (bA (rNe) (bz K (ak 2) "phase") (tC (.str "walk")))) (bQ (bA (G.Wj K true) (bz K (ak 2) "grey") (gQ aF))))) (aO (xg (aQ c [] E0 (aj (ak 0) aF)))
   (bG (tC (.bl true)))) cg)
   (aO (bH (aQ a [] E0 (aj (ak 0) aF)) (aN 3))
   (aO (bH (aQ b [] E0 (aj (ak 0) aF)) (aN 4))
   (qR K i e j d f h g b c a)))))
def Zih(K:aB)(b:AH)(f g c d a k e h:Sp):TS:=
 (aO (bH (bA (rI (λ_ j=>0<j) λi j=>.int (i % j)) (aQ g [] E0 (aj (ak 0) (aj (tC (.int 0)) aF))) (tC (.int 12))) (aN 1))
   (aO (bH (aQ d [] E0 (aj (ak 0) aF)) (aN 2))
   (aO (bH (Dc b f [] E0 (aj (aQ k [] E0 (aj (ak 0) aF)) (aj (aQ a [] E0 (aj (ak 1) aF)) (aj (wQ (G.O6 K) (aj (ak 2) aF)) aF)))) (aN 3))
   (aO (wV (pY K (aQ e [] E0 (aj (ak 0) (aj (ak 2) aF)))) (aN 4)
   (aO (dR (bQ (bA (xr) (bz K (bz K (ak 3) "sweeper") "phase") (tC (.str "lost")))) (bG (tC (.bl true))) cg)
   (dR (bQ (bA (G.Ey) (ak 4) (tC .non))) (xg (aQ c [] E0 (aj (ak 3) (aj (ak 4) aF)))) (dR (zL (tB (aQ h [] E0 (aj (ak 3) (aj (bA (rI (λ_ j=>0<j) λi j=>.int (i % j)) (ak 1) (tC (.int 3))) aF))))) (bG (tC (.bl false))) cg))))
   (bG (tC (.bl true)))))))
structure TxC(K:aB)(bB bw:AH):Prop where
 di:Im K bB
 dX:bL K bB "birth"
 mY:bL K bB "bulk"
 mX:bL K bB "tone"
 jU:bL K bB "load"
 fc:bL K bB "fields"
 cR:Im K bw
 oU:bL K bw "room"
 bN:bL K bw "cells"
 jB:bL K bw "used"
 mW:bL K bw "born"
 RB:EqD K bB
structure Ab(CC:AH)(H:Hp)(p fa:AH)(birth bulk tone load:Int)(fl:List V):Prop where
 o:∃dx,H p=some (.ins CC dx (oM birth bulk tone load fa))
 f:H fa=some (.lst fl)
theorem Ab.same{a:AH}{H H':Hp}{p fa:AH}{birth bulk tone load:Int}{fl:List V}(h:Ab a H p fa birth bulk tone load fl)(s:aW H H'):Ab a H' p fa birth bulk tone load fl:=by
 obtain⟨⟨b,h1⟩,h2⟩:=h;exact⟨⟨b,s _ _ h1⟩,s _ _ h2⟩
structure HpO(CH:AH)(H:Hp)(hp ca:AH)(room used born:Int)(cs:List V):Prop where
 o:∃dx,H hp=some (.ins CH dx (lR room ca used born))
 c:H ca=some (.lst cs)
theorem Vk{a b c d e f g:Int}{x y:AH}:oM a b c d x≠lR e y f g:=λz=>by
 have:=congrArg List.length z;cases this
def yf(a:AH):Sp:=λvs H Q E=>∃p birth many bulk tone,vs=[.ref p,.int birth,.int many,.int bulk,.int tone]/\∃dx,H p=some (.ins a dx [])/\0<=many/\many<=1000/\
 ∀fa H',H fa=none->H' p=some (.ins a dx (oM birth bulk tone 0 fa))->H' fa=some (.lst (List.replicate many.toNat V.non))->(∀b o,H b=some o->b≠p->H' b=some o)->Q .non H'
def nJ(a:AH):Sp:=λvs H Q E=>∃p,vs=[.ref p]/\∃fa birth bulk tone load fl,Ab a H p fa birth bulk tone load fl/\Q (.int (1+fl.length+bulk)) H
def yc(a:AH):Sp:=λvs H Q E=>∃p room,vs=[.ref p,.int room]/\∃dx,H p=some (.ins a dx [])/\
 ∀ca H',H ca=none->H' p=some (.ins a dx (lR room ca 0 0))->H' ca=some (.lst [])->(∀b o,H b=some o->b≠p->H' b=some o)->Q .non H'
def yd(a:AH):Sp:=λvs H Q E=>∃hp,vs=[.ref hp]/\∃ca room used born cs,HpO a H hp ca room used born cs/\Q (.int (room - used)) H
def plc(cs:List V):AD:=((List.range cs.length).filter λi=>!decide (cs[i]? =some V.non)).map λ(i:Nat)=>(i:Int)
def nH(a:AH):Sp:=λvs H Q E=>∃hp,vs=[.ref hp]/\∃ca room used born cs,HpO a H hp ca room used born cs/\cs.length<=1000/\∀l,H l=none->Q (.ref l) (upd H l (.lst ((plc cs).map V.int)))
def putN(cs:List V)(v:V):List V:=if V.non∈cs then cs.set (cs.idxOf V.non) v else cs++[v]
def CV(K:aB)(a:AH):Sp:=λvs H Q E=>∃hp v,vs=[.ref hp,v]/\∃ca room used born cs,HpO a H hp ca room used born cs/\OkN K H cs/\cs.length<=1000/\Q (.int (cs.idxOf V.non)) (upd H ca (.lst (putN cs v)))
def uF(b a:AH):Sp:=λvs H Q E=>∃hp i,vs=[.ref hp,.int i]/\∃ca dx room used born cs p fa birth bulk tone load fl,0<=i/\H hp=some (.ins a dx (lR room ca used born))/\H ca=some (.lst cs)/\cs[i.toNat]? =some (.ref p)/\Ab b H p fa birth bulk tone load fl/\
 Q (.int birth) (upd (upd H hp (.ins a dx (lR room ca (used - (1+fl.length+bulk)) born))) ca (.lst (cs.set i.toNat V.non)))
def xZ(K:aB)(c a b:AH):Sp:=λvs H Q E=>∃hp many bulk tone,vs=[.ref hp,.int many,.int bulk,.int tone]/\∃ca dx room used born cs,H hp=some (.ins a dx (lR room ca used born))/\H ca=some (.lst cs)/\OkN K H cs/\cs.length<=1000/\0<=many/\many<=1000/\
 (room - used<1+many+bulk->∀H',aW H H'->E (.ref b) none H')/\
 (1+many+bulk<=room - used->∀p fa H',H p=none->H fa=none->Fm [hp,ca] H H'->H' hp=some (.ins a dx (lR room ca (used+(1+many+bulk)) (born+1)))->H' ca=some (.lst (putN cs (.ref p)))->
  Ab c H' p fa (born+1) bulk tone 0 (List.replicate many.toNat V.non)->Q (.int (cs.idxOf V.non)) H')
section
variable {K:aB}{bB bw bV:AH}{H:Hp}{Q:VK}{E:XK}{n:St->Hp->Prop}{bk ct:St->Hp->Prop}
theorem Ye{p:AH}(T:TxC K bB bw)(q:∃fa birth bulk tone load fl,Ab bB H p fa birth bulk tone load fl/\Q (.int (1+fl.length+bulk)) H):yN K ⟨n,Q,bk,ct⟩ [some (.ref p)] H:=by
 obtain⟨fa,birth,bulk,tone,load,fl,⟨⟨a,h1⟩,h2⟩,h⟩:=q;unfold yN;walk_at"e";refine aH h1 T.di T.fc lV ?_;walk_at"e";refine jC (cB.of h2) ?_;walk_at"e";refine aH h1 T.di T.mY Il ?_;walk_at"e";exact h
theorem Py{p:AH}{birth many bulk tone:Int}(T:TxC K bB bw)(q:∃dx,H p=some (.ins bB dx [])/\0<=many/\many<=1000/\
 ∀fa H',H fa=none->H' p=some (.ins bB dx (oM birth bulk tone 0 fa))->H' fa=some (.lst (List.replicate many.toNat V.non))->(∀b o,H b=some o->b≠p->H' b=some o)->Q .non H'):
  sY K ⟨λ_ H'=>Q .non H',Q,bk,ct⟩ [some (.ref p),some (.int birth),some (.int many),some (.int bulk),some (.int tone)] H:=by
 obtain⟨dx,hp,r,h1,h⟩:=q;unfold sY;walk_at"e";refine⟨p,bB,dx,[],rfl,hp,T.di,T.dX,by decide,?_⟩;walk_at"e";refine⟨p,bB,dx,_,rfl,aq,T.di,T.mY,by show 1<1000;decide,?_⟩;rw[eV];walk_at"e";refine⟨p,bB,dx,_,rfl,aq,T.di,T.mX,by show 2<1000;decide,?_⟩;rw[eV];walk_at"e";refine⟨p,bB,dx,_,rfl,aq,T.di,T.jU,by show 3<1000;decide,?_⟩;rw[eV];walk_at"e";refine⟨by decide,λi g=>?_⟩;walk_at"e";refine⟨i,many,_,rfl,rfl,aq,by omega,by omega,?_,λfa c=>?_⟩
 ·show 1 * many.toNat<=sizeLine;exact aR (by omega)
 have d:p≠i:=aD aq g;have a:p≠fa:=aD ((aC d).trans aq) c;walk_at"e";refine⟨p,bB,dx,_,rfl,(aC a).trans ((aC d).trans aq),T.di,T.fc,by show 4<1000;decide,?_⟩;have m:H fa=none:=by
  have e:=c;have n1:fa≠i:=λz=>by rw[z,aq]at e;cases e
  rw[aC n1,aC a.symm]at e;exact e
 refine h fa _ m (aq.trans (congrArg (λl=>some (HO.ins bB dx l)) Zsl)) ?_ λb o hb f=>?_
 ·rw[aC a.symm,aq];have e:(List.replicate many.toNat [V.non]).flatten=List.replicate many.toNat V.non:=by
   generalize many.toNat=k
   induction k with
   | zero=>rfl
   | succ k n=>rw[List.replicate_succ,List.replicate_succ,List.flatten_cons,n];rfl
  rw[e]
 ·have j:upd H p (HO.ins bB dx (cH "load" (V.int 0) (cH "tone" (V.int tone) (cH "bulk" (V.int bulk) (cH "birth" (V.int birth) []))))) b=some o:=(aC f).trans hb;have n1:b≠i:=aD j g;have n2:b≠fa:=aD ((aC n1).trans j) c;rw[aC f,aC n2,aC n1];exact j
theorem Pb{p:AH}{room:Int}(T:TxC K bB bw)(q:∃dx,H p=some (.ins bw dx [])/\
 ∀ca H',H ca=none->H' p=some (.ins bw dx (lR room ca 0 0))->H' ca=some (.lst [])->(∀b o,H b=some o->b≠p->H' b=some o)->Q .non H'):
  sW K ⟨λ_ H'=>Q .non H',Q,bk,ct⟩ [some (.ref p),some (.int room)] H:=by
 obtain⟨dx,hp,h⟩:=q;unfold sW;walk_at"e";refine⟨p,bw,dx,[],rfl,hp,T.cR,T.oU,by decide,?_⟩;walk_at"e";refine⟨by decide,λca c=>?_⟩;walk_at"e";have a:p≠ca:=aD aq c;refine⟨p,bw,dx,_,rfl,(aC a).trans aq,T.cR,T.bN,by show 1<1000;decide,?_⟩;walk_at"e";refine⟨p,bw,dx,_,rfl,aq,T.cR,T.jB,by show 2<1000;decide,?_⟩;rw[eV];walk_at"e";refine⟨p,bw,dx,_,rfl,aq,T.cR,T.mW,by show 3<1000;decide,?_⟩;rw[eV];have f:H ca=none:=by
  have e:=c;rw[aC a.symm]at e;exact e
 refine h ca _ f (aq.trans (congrArg (λl=>some (HO.ins bw dx l)) Zru)) ?_ λb o hb d=>?_
 ·rw[aC a.symm,aq]
 ·rw[aC d,aC (aD ((aC d).trans hb) c),aC d];exact hb
theorem Zdp{hp:AH}(T:TxC K bB bw)(q:∃ca room used born cs,HpO bw H hp ca room used born cs/\Q (.int (room - used)) H):BJ K ⟨n,Q,bk,ct⟩ [some (.ref hp)] H:=by
 obtain⟨ca,room,used,born,cs,⟨⟨a,h1⟩,h2⟩,h⟩:=q;unfold BJ;walk_at"e";refine aH h1 T.cR T.oU Xm ?_;walk_at"e";refine aH h1 T.cR T.jB zb ?_;walk_at"e";exact h
theorem X6{hp:AH}(T:TxC K bB bw)(q:∃ca room used born cs,HpO bw H hp ca room used born cs/\cs.length<=1000/\∀l,H l=none->Q (.ref l) (upd H l (.lst ((plc cs).map V.int)))):yM K ⟨n,Q,bk,ct⟩ [some (.ref hp)] H:=by
 obtain⟨ca,room,used,born,cs,⟨⟨b,h1⟩,h2⟩,hl,h⟩:=q;unfold yM;walk_at"e";refine Ii ?_;walk_at"e";refine aH h1 T.cR T.bN bW ?_;walk_at"e";refine jC (cB.of h2) ?_;walk_at"e";refine⟨_,rfl,by omega,by omega,?_⟩;refine Zr8 (n:=cs.length) (by omega) (p:=λi=>!decide (cs[i]? =some V.non)) (f:=λi=>.int i) (by omega) ?_ ?_ ?_
 ·intro i a k hk;walk_at"c";walk_at"e";refine aH h1 T.cR T.bN bW ?_;walk_at"e";refine je (cB.of h2) (iu (bM a)) ?_;walk_at"e";refine Zjw ?_;rw[bM a]at hk;walk_at"e";simpa using hk
 ·intro i a _ k hk;walk_at"c";walk_at"e";exact hk
 ·have e:((plc cs).map V.int)=((List.range cs.length).filter λi=>!decide (cs[i]? =some V.non)).map λ(i:Nat)=>V.int i:=by
   unfold plc;rw[List.map_map];rfl
  rw[<- e];exact h
theorem Zgu{hp:AH}{v:V}(T:TxC K bB bw)(q:∃ca room used born cs,HpO bw H hp ca room used born cs/\OkN K H cs/\cs.length<=1000/\Q (.int (cs.idxOf V.non)) (upd H ca (.lst (putN cs v)))):Ew K ⟨n,Q,bk,ct⟩ [some (.ref hp),some v,none] H:=by
 obtain⟨ca,room,used,born,cs,⟨⟨f,h1⟩,h2⟩,c,hl,h⟩:=q;unfold Ew;walk_at"e";refine aH h1 T.cR T.bN bW ?_;walk_at"e";refine Zrj (cB.of h2) c ?_;walk_at"e";refine zX (λhn=>?_) (λhn=>?_)
 ·walk_at"e";refine aH h1 T.cR T.bN bW ?_;refine⟨.inl ⟨rfl,_,cB.of h2⟩,?_⟩;walk_at"e";refine⟨ca,cs,v,rfl,rfl,h2,Nat.lt_of_le_of_lt hl (by decide),?_⟩;walk_at"e";have b:hp≠ca:=rC h1 h2 (λz=>by cases z);refine aH ((aC b).trans h1) T.cR T.bN bW ?_;walk_at"e";refine jC (cB.of aq) ?_;walk_at"e";have e:(((cs++[v]).length:Int) - 1)=(cs.idxOf V.non:Nat):=by
   rw[List.length_append,List.idxOf_eq_length hn];simp
  have a:putN cs v=cs++[v]:=by unfold putN;rw[if_neg hn]
  rw[e,<- a];exact h
 ·walk_at"e";refine aH h1 T.cR T.bN bW ?_;refine⟨.inl ⟨rfl,_,cB.of h2⟩,?_⟩;walk_at"e";refine⟨ca,cs,rfl,rfl,cB.of h2,c,hn,?_⟩;walk_at"e";refine aH h1 T.cR T.bN bW ?_;walk_at"e";have d:cs.idxOf V.non<cs.length:=List.idxOf_lt_length_iff.mpr hn;refine⟨ca,cs,_,_,rfl,rfl,h2,uo d,?_⟩;have a:putN cs v=cs.set (cs.idxOf V.non) v:=by unfold putN;rw[if_pos hn]
  rw[<- a];walk_at"e";exact h
theorem Zdq{hp:AH}{i:Int}(T:TxC K bB bw)(q:∃ca dx room used born cs p fa birth bulk tone load fl,0<=i/\H hp=some (.ins bw dx (lR room ca used born))/\H ca=some (.lst cs)/\cs[i.toNat]? =some (.ref p)/\Ab bB H p fa birth bulk tone load fl/\
 Q (.int birth) (upd (upd H hp (.ins bw dx (lR room ca (used - (1+fl.length+bulk)) born))) ca (.lst (cs.set i.toNat V.non)))):BK K bB (nJ bB) ⟨n,Q,bk,ct⟩ [some (.ref hp),some (.int i),none] H:=by
 obtain⟨ca,dx,room,used,born,cs,p,fa,birth,bulk,tone,load,fl,f,h1,h2,e,co,h⟩:=q;obtain⟨⟨dp,b⟩,g⟩:=id co;unfold BK;walk_at"e";refine aH h1 T.cR T.bN bW ?_;walk_at"e";refine je (cB.of h2) (rN f e) ?_;walk_at"e";refine aH h1 T.cR T.jB zb ?_;walk_at"e";refine⟨p,dp,_,rfl,b,wG,?_⟩;walk_at"e";refine⟨p,rfl,fa,birth,bulk,tone,load,fl,co,?_⟩;walk_at"e";refine⟨hp,bw,dx,_,rfl,h1,T.cR,T.jB,by show 4<1000;decide,?_⟩;rw[Gj];have d:hp≠ca:=rC h1 h2 (λz=>by cases z);walk_at"e";refine aH aq T.cR T.bN bW ?_;walk_at"e";have c:i.toNat<cs.length:=(dY e).1;refine⟨ca,cs,_,_,rfl,rfl,(aC d.symm).trans h2,Zv1 f c,?_⟩;walk_at"e";refine aH (C:=bB) (a:=p) (dx:=dp) (fs:=oM birth bulk tone load fa) ?_ T.di T.dX ir ?_
 ·have n1:p≠ca:=rC b h2 (λz=>by cases z);have n2:p≠hp:=rC b h1 (λz=>by injection z with _ _ z;exact Vk z);rw[aC n1,aC n2];exact b
 exact h
theorem Zdo{hp:AH}{many bulk tone:Int}(T:TxC K bB bw)(q:∃ca dx room used born cs,H hp=some (.ins bw dx (lR room ca used born))/\H ca=some (.lst cs)/\OkN K H cs/\cs.length<=1000/\0<=many/\many<=1000/\
 (room - used<1+many+bulk->∀H',aW H H'->E (.ref bV) none H')/\
 (1+many+bulk<=room - used->∀p fa H',H p=none->H fa=none->Fm [hp,ca] H H'->H' hp=some (.ins bw dx (lR room ca (used+(1+many+bulk)) (born+1)))->H' ca=some (.lst (putN cs (.ref p)))->
  Ab bB H' p fa (born+1) bulk tone 0 (List.replicate many.toNat V.non)->Q (.int (cs.idxOf V.non)) H')):
  By K bB bV bw (yf bB) (nJ bB) (yd bw) (CV K bw) E ⟨n,Q,bk,ct⟩ [some (.ref hp),some (.int many),some (.int bulk),some (.int tone),none] H:=by
 obtain⟨ca,dx,room,used,born,cs,h1,h2,v,hl,I,A,w,D⟩:=q;have h:hp≠ca:=rC h1 h2 (λz=>by cases z);unfold By;walk_at"e";refine aH h1 T.cR T.mW Xn ?_;walk_at"e";intro p dp g k B;refine⟨p,_,many,_,_,rfl,dp,aq,I,A,λfa j l f m F=>⟨rfl,?_⟩⟩;have c:H fa=none:=by
  have e:=l
  by_cases z1:fa=p
  ·rw[z1,aq]at e;cases e
  ·rw[aC z1]at e
   by_cases r:fa=dp
   ·rw[r,aq]at e;cases e
   ·rw[aC r]at e;exact e
 have sm:aW H j:=λb o hb=>by
  refine F b o ?_ (aD hb g);rw[aC (aD hb g),aC (aD hb k)];exact hb
 have co:Ab bB j p fa (born+1) bulk tone 0 (List.replicate many.toNat V.non):=⟨⟨dp,f⟩,m⟩;have u:((List.replicate many.toNat V.non).length:Int)=many:=by rw[List.length_replicate];omega
 walk_at"e";refine⟨p,dp,_,rfl,f,wG,?_⟩;walk_at"e";refine⟨p,rfl,fa,_,_,_,_,_,co,?_⟩;walk_at"e";refine⟨hp,dx,_,rfl,sm _ _ h1,Xk,?_⟩;walk_at"e";refine⟨hp,rfl,ca,room,used,born,cs,⟨⟨dx,sm _ _ h1⟩,sm _ _ h2⟩,?_⟩;walk_at"e";rw[u];refine uY (λt=>?_) (λt=>?_)
 ·walk_at"e";exact⟨by decide,w t j sm⟩
 ·walk_at"e";refine aH f T.di T.dX ir ?_;walk_at"e";refine⟨hp,bw,dx,_,rfl,sm _ _ h1,T.cR,T.mW,by show 4<1000;decide,?_⟩;rw[U7];walk_at"e";refine aH aq T.cR T.jB zb ?_;walk_at"e";have n1:p≠hp:=(aD h1 g).symm;have n2:fa≠hp:=(aD h1 c).symm;have n3:p≠ca:=(aD h2 g).symm;have n4:fa≠ca:=(aD h2 c).symm;refine⟨p,dp,_,rfl,(aC n1).trans f,wG,?_⟩;walk_at"e";refine⟨p,rfl,fa,_,_,_,_,_,⟨⟨dp,(aC n1).trans f⟩,(aC n2).trans m⟩,?_⟩;walk_at"e";rw[u];refine⟨hp,bw,dx,_,rfl,aq,T.cR,T.jB,by show 4<1000;decide,?_⟩;rw[Gj,eV];walk_at"e";refine⟨hp,dx,_,rfl,aq,Zcg,?_⟩;walk_at"e";refine⟨hp,.ref p,rfl,ca,room,_,_,cs,⟨⟨dx,aq⟩,(aC h.symm).trans (sm _ _ h2)⟩,?_,hl,?_⟩
  ·intro y hy;rcases v y hy with e | ⟨a,C,d,fs,e,i,hc,s⟩
   ·exact .inl e
   ·refine .inr ?_
    by_cases z:a=hp
    ·rw[z]at i e;rw[h1]at i;cases i;exact⟨hp,_,_,_,e,aq,hc,s⟩
    ·exact⟨a,C,d,fs,e,(aC z).trans (sm _ _ i),hc,s⟩
  ·refine D (by omega) p fa _ g c ?_ ((aC h).trans aq) aq ⟨⟨dp,?_⟩,?_⟩
   ·intro b o hb hn;have J:b≠hp:=λz=>hn (by rw[z];exact List.mem_cons_self);have x:b≠ca:=λz=>hn (by rw[z];exact List.mem_cons_of_mem _ List.mem_cons_self);rw[aC x,aC J];exact sm _ _ hb
   ·rw[aC n3,aC n1];exact f
   ·rw[aC n4,aC n2];exact m
end
structure Ce where
 birth:Int
 bulk:Int
 tone:Int
 load:Int
 fl:Au
 deriving DecidableEq
structure Sw where
 sense:Int
 phase:Str
 grey:AD
 looked:Int
 turn:Int
 at':Int
 stop:Int
 walks:Int
 looks:Int
 passes:Int
 loss:V
structure Wm where
 room:Int
 used:Int
 born:Int
 cells:List (Option Ce)
 hands:List (Str×Au)
 names:List (Str×(Int×Int))
 w:Int
 tells:Int
 sw:Sw
structure Wa where
 wo:AH
 hp:AH
 ca:AH
 ki:AH
 lk:AH
 hl:AH
 nm:AH
 sw:AH
 gr:AH
 hs:List (AH×AH)
 cs:List (Option (AH×AH))
 ns:AE
def oV:AA->V
 | none=>.non
 | some i=>.int i
def pV:Option (AH×AH)->V
 | none=>.non
 | some p=>.ref p.1
structure zH(s:Nat)(t0:Nat->Prop)(H H':Hp)(T T':Tg):Prop where
 kp:∀b o,H b=some o->(T b).1=s->¬ t0 (T b).2->H' b=some o
 tg:∀b o,H b=some o->T' b=T b
section
variable {CHd CC:AH}{H H':Hp}{T T':Tg}{s j i:Nat}{t0:Nat->Prop}
theorem zH.at{a:AH}{o:HO}{m:Nat}(f:zH s t0 H H' T T')(b:T a=(s,m))(n:¬ t0 m)(h:H a=some o):H' a=some o:=f.kp a o h (by rw[b]) (by rw[b];exact n)
theorem zH.tag{a:AH}{o:HO}{x:Nat×Nat}(f:zH s t0 H H' T T')(h:H a=some o)(b:T a=x):T' a=x:=(f.tg a o h).trans b
theorem zH.FQ{a:AH}{o:HO}{m:Nat}(c:T a=(s,m)):zH s (·=m) H (upd H a o) T T:=⟨λb u h e n=>by
  have:b≠a:=λz=>n (by rw[z,c]);rw[aC this];exact h,λ_ _ _=>rfl⟩
theorem zH.of_same(e:aW H H'):zH s (λ_=>False) H H' T T:=⟨λb o h _ _=>e b o h,λ_ _ _=>rfl⟩
theorem zH.Zqc{s':Nat}(e:jf s' H H' T T')(n:s≠s'):zH s (λ_=>False) H H' T T':=⟨λb o h z _=>e.kp b o h (by rw[z];exact n),e.tg⟩
structure HdO(CHd:AH)(H:Hp)(T:Tg)(s j:Nat)(p:AH×AH)(m:Str×Au):Prop where
 t1:T p.1=(s,20+2 * j)
 t2:T p.2=(s,21+2 * j)
 o1:∃dx,H p.1=some (.ins CHd dx (Zg1 m.1 p.2))
 o2:H p.2=some (.lst (m.2.map oV))
theorem HdO.mv{p:AH×AH}{m:Str×Au}(h:HdO CHd H T s j p m)(f:zH s t0 H H' T T')(n1:¬ t0 (20+2 * j))(n2:¬ t0 (21+2 * j)):HdO CHd H' T' s j p m:=by
 obtain⟨c,b,⟨e,d⟩,a⟩:=h;exact⟨f.tag d c,f.tag a b,⟨e,f.at c n1 d⟩,f.at b n2 a⟩
structure Yg(CC:AH)(H:Hp)(T:Tg)(s i:Nat)(p:AH×AH)(c:Ce):Prop where
 t1:T p.1=(s,100+2 * i)
 t2:T p.2=(s,101+2 * i)
 o1:∃dx,H p.1=some (.ins CC dx (oM c.birth c.bulk c.tone c.load p.2))
 o2:H p.2=some (.lst (c.fl.map oV))
theorem Yg.mv{p:AH×AH}{c:Ce}(h:Yg CC H T s i p c)(f:zH s t0 H H' T T')(n1:¬ t0 (100+2 * i))(n2:¬ t0 (101+2 * i)):Yg CC H' T' s i p c:=by
 obtain⟨d,b,⟨g,e⟩,a⟩:=h;exact⟨f.tag e d,f.tag a b,⟨g,f.at d n1 e⟩,f.at b n2 a⟩
def CeP(CC:AH)(H:Hp)(T:Tg)(s i:Nat):Option (AH×AH)->Option Ce->Prop
 | none,none=>True
 | some p,some c=>Yg CC H T s i p c
 | _,_=>False
theorem CeP.mv{p:Option (AH×AH)}{c:Option Ce}(h:CeP CC H T s i p c)(f:zH s t0 H H' T T')(n1:¬ t0 (100+2 * i))(n2:¬ t0 (101+2 * i)):CeP CC H' T' s i p c:=by
 cases p with
 | none=>cases c with
  | none=>trivial
  | some c=>exact h.elim
 | some p=>cases c with
  | none=>exact h.elim
  | some c=>exact Yg.mv h f n1 n2
end
def NmO(H:Hp)(T:Tg)(t:AH)(m:Str×(Int×Int)):Prop:=T t=(0,0)/\H t=some (.tup [.int m.2.1,.int m.2.2])
structure Cs where
 W:AH
 H:AH
 C:AH
 K:AH
 D:AH
 S:AH
 F:AH
 E:AH
 L:AH
structure WB(X:Cs)(H:Hp)(T:Tg)(s:Nat)(A:Wa)(w tells:Int):Prop where
 tw:T A.wo=(s,0)
 tk:T A.ki=(0,0)
 tl:T A.lk=(0,0)
 tn:T A.hl=(s,5)
 ow:∃dx,H A.wo=some (.ins X.W dx (Dp A.hp A.ki A.hl A.nm A.sw))
 ok:∃dx,H A.ki=some (.ins X.K dx (Uy A.lk tells))
 ol:∃dx,(w=0/\H A.lk=some (.ins X.F dx []))\/(w=1/\H A.lk=some (.ins X.E dx []))\/(w=2/\H A.lk=some (.ins X.L dx []))
 on:H A.hl=some (.lst (A.hs.map λp=>V.ref p.1))
structure WH(X:Cs)(H:Hp)(T:Tg)(s:Nat)(A:Wa)(room used born:Int):Prop where
 th:T A.hp=(s,1)
 tc:T A.ca=(s,2)
 oh:∃dx,H A.hp=some (.ins X.H dx (lR room A.ca used born))
 oc:H A.ca=some (.lst (A.cs.map pV))
def Dk(M:List (Str×(Int×Int)))(ns:AE):List ((Int ⊕ Str)×V):=List.zipWith (λ(m:Str×(Int×Int)) (t:AH)=>(Sum.inr m.1,V.ref t)) M ns
structure WN(H:Hp)(T:Tg)(s:Nat)(A:Wa)(names:List (Str×(Int×Int))):Prop where
 tm:T A.nm=(s,6)
 om:H A.nm=some (.dK (Dk names A.ns))
 nms:Al (NmO H T) A.ns names
structure WS(X:Cs)(H:Hp)(T:Tg)(s:Nat)(A:Wa)(S:Sw):Prop where
 ts:T A.sw=(s,7)
 tg:T A.gr=(s,8)
 os:∃dx,H A.sw=some (.ins X.S dx (cG S.sense S.phase A.gr S.looked S.turn S.at' S.stop S.walks S.looks S.passes S.loss))
 og:H A.gr=some (.lst (S.grey.map V.int))
structure WD(X:Cs)(H:Hp)(T:Tg)(s:Nat)(hs:List (AH×AH))(hands:List (Str×Au)):Prop where
 lh:hs.length=hands.length
 l5:hs.length<=30
 hd:∀(j:Nat) p m,hs[j]? =some p->hands[j]? =some m->HdO X.D H T s j p m
structure WC(X:Cs)(H:Hp)(T:Tg)(s:Nat)(cs:List (Option (AH×AH)))(cells:List (Option Ce)):Prop where
 lc:cs.length=cells.length
 ce:∀(i:Nat) p c,cs[i]? =some p->cells[i]? =some c->CeP X.C H T s i p c
structure WJ(X:Cs)(H:Hp)(T:Tg)(s:Nat)(A:Wa)(M:Wm):Prop where
 jb:WB X H T s A M.w M.tells
 jh:WH X H T s A M.room M.used M.born
 jn:WN H T s A M.names
 js:WS X H T s A M.sw
 jd:WD X H T s A.hs M.hands
 jc:WC X H T s A.cs M.cells
section
variable {X:Cs}{H H':Hp}{T T':Tg}{s:Nat}{t0:Nat->Prop}{A:Wa}{M:Wm}
theorem WB.mv{w tells:Int}(j:WB X H T s A w tells)(f:zH s t0 H H' T T')(a:∀b o,H b=some o->T b=(0,0)->H' b=some o)(k:¬ t0 0)(n5:¬ t0 5):WB X H' T' s A w tells:=by
 obtain⟨tw,tk,tl,tn,⟨h,ow⟩,⟨l,ok⟩,⟨g,ol⟩,on⟩:=j;have d:∃o,H A.lk=some o:=by
  rcases ol with ⟨_,e⟩ | ⟨_,e⟩ | ⟨_,e⟩
  ·exact⟨_,e⟩
  ·exact⟨_,e⟩
  ·exact⟨_,e⟩
 obtain⟨i,c⟩:=d;refine⟨f.tag ow tw,f.tag ok tk,f.tag c tl,f.tag on tn,⟨h,f.at tw k ow⟩,⟨l,a _ _ ok tk⟩,⟨g,?_⟩,f.at tn n5 on⟩;rcases ol with ⟨z,e⟩ | ⟨z,e⟩ | ⟨z,e⟩
 ·exact .inl ⟨z,a _ _ e tl⟩
 ·exact .inr (.inl ⟨z,a _ _ e tl⟩)
 ·exact .inr (.inr ⟨z,a _ _ e tl⟩)
theorem WH.mv{room used born:Int}(j:WH X H T s A room used born)(f:zH s t0 H H' T T')(n1:¬ t0 1)(n2:¬ t0 2):WH X H' T' s A room used born:=by
 obtain⟨th,tc,⟨d,oh⟩,oc⟩:=j;exact⟨f.tag oh th,f.tag oc tc,⟨d,f.at th n1 oh⟩,f.at tc n2 oc⟩
theorem WN.mv{names:List (Str×(Int×Int))}(j:WN H T s A names)(f:zH s t0 H H' T T')(a:∀b o,H b=some o->T b=(0,0)->H' b=some o)(n6:¬ t0 6):WN H' T' s A names:=by
 obtain⟨tm,om,nms⟩:=j;exact⟨f.tag om tm,f.at tm n6 om,nms.mono λt m ⟨z1,z2⟩=>⟨f.tag z2 z1,a _ _ z2 z1⟩⟩
theorem WS.mv{S:Sw}(j:WS X H T s A S)(f:zH s t0 H H' T T')(n7:¬ t0 7)(n8:¬ t0 8):WS X H' T' s A S:=by
 obtain⟨ts,tg,⟨d,os⟩,og⟩:=j;exact⟨f.tag os ts,f.tag og tg,⟨d,f.at ts n7 os⟩,f.at tg n8 og⟩
theorem WD.mv{hs:List (AH×AH)}{hands:List (Str×Au)}(j:WD X H T s hs hands)(f:zH s t0 H H' T T')(n:∀k,20<=k->k<100->¬ t0 k):WD X H' T' s hs hands:=by
 obtain⟨lh,l5,hd⟩:=j;refine⟨lh,l5,λj p m a b=>?_⟩;have hl:j<hs.length:=(dY a).1;exact(hd j p m a b).mv f (n _ (by omega) (by omega)) (n _ (by omega) (by omega))
theorem WC.mv{cs:List (Option (AH×AH))}{cells:List (Option Ce)}(j:WC X H T s cs cells)(f:zH s t0 H H' T T')(n:∀k,100<=k->¬ t0 k):WC X H' T' s cs cells:=by
 obtain⟨lc,ce⟩:=j;exact⟨lc,λi p c a b=>(ce i p c a b).mv f (n _ (by omega)) (n _ (by omega))⟩
theorem WJ.mv(j:WJ X H T s A M)(f:zH s (λ_=>False) H H' T T')(a:∀b o,H b=some o->T b=(0,0)->H' b=some o):WJ X H' T' s A M:=
 ⟨j.jb.mv f a id id,j.jh.mv f id id,j.jn.mv f a id,j.js.mv f id id,j.jd.mv f λ_ _ _=>id,j.jc.mv f λ_ _=>id⟩
theorem WJ.same(j:WJ X H T s A M)(e:aW H H'):WJ X H' T s A M:=j.mv (zH.of_same e) λb o h _=>e b o h
theorem WJ.other{s':Nat}(j:WJ X H T s A M)(e:jf s' H H' T T')(n:s≠s')(a:s'≠0):WJ X H' T' s A M:=j.mv (zH.Zqc e n) λb o h t=>e.kp b o h (by rw[t];exact λz=>a z.symm)
theorem qD{a:AH}{f:HO}{m:Nat}(d:s≠0)(c:T a=(s,m)):∀b o,H b=some o->T b=(0,0)->upd H a f b=some o:=λb o e t=>by
 rw[aC (Uk t c (λz=>d (congrArg Prod.fst z).symm))];exact e
theorem WJ.slot(j:WJ X H T s A M)(w:WT H T)(i:s≠0){h k:Nat}{p:AH×AH}{m:Str×Au}{x:AA}(hp:A.hs[h]? =some p)(hm:M.hands[h]? =some m):
  jf s H (upd H p.2 (.lst ((m.2.map oV).set k (oV x)))) T T/\WJ X (upd H p.2 (.lst ((m.2.map oV).set k (oV x)))) T s A { M with hands:=M.hands.set h (m.1,m.2.set k x) }:=by
 have hl:=j.jd.l5;have hh:h<A.hs.length:=(dY hp).1;have c:h<M.hands.length:=(dY hm).1;have d:=j.jd.hd h p m hp hm;refine⟨jf.upd w d.o2 (by rw[d.t2]),?_⟩;have f:zH s (·=21+2 * h) H (upd H p.2 (.lst ((m.2.map oV).set k (oV x)))) T T:=zH.FQ d.t2;have n:upd H p.2 (.lst ((m.2.map oV).set k (oV x))) p.2=some (.lst ((m.2.set k x).map oV)):=by rw[aq,List.map_set]
 refine⟨j.jb.mv f (qD i d.t2) (by omega) (by omega),j.jh.mv f (by omega) (by omega),j.jn.mv f (qD i d.t2) (by omega),j.js.mv f (by omega) (by omega),⟨by rw[List.length_set];exact j.jd.lh,hl,λe l o b a=>?_⟩,j.jc.mv f λ_ _=>by omega⟩
 by_cases g:e=h
 ·subst g;dsimp only at a;rw[List.getElem?_set_self c]at a;rw[hp]at b;cases b;cases a;obtain⟨q,o1⟩:=d.o1;exact⟨d.t1,d.t2,⟨q,f.at d.t1 (by omega) o1⟩,n⟩
 ·dsimp only at a;rw[List.getElem?_set_ne (λz=>g z.symm)]at a;exact(j.jd.hd e l o b a).mv f (by omega) (by omega)
theorem WC.at(j:WC X H T s A.cs M.cells){i:Nat}{c:Ce}(h:M.cells[i]? =some (some c)):∃p,A.cs[i]? =some (some p)/\Yg X.C H T s i p c:=by
 have hl:i<A.cs.length:=by rw[j.lc];exact(dY h).1
 have e:=j.ce i _ _ (bM hl) h;cases a:A.cs[i]with
 | none=>rw[a]at e;exact e.elim
 | some g=>rw[a]at e;exact⟨g,by rw[bM hl,a],e⟩
theorem WC.at0(j:WC X H T s A.cs M.cells){i:Nat}(h:M.cells[i]? =some none):A.cs[i]? =some none:=by
 have hl:i<A.cs.length:=by rw[j.lc];exact(dY h).1
 have e:=j.ce i _ _ (bM hl) h;cases a:A.cs[i]with
 | none=>rw[bM hl,a]
 | some g=>rw[a]at e;exact e.elim
theorem WC.chg(j:WC X H T s A.cs M.cells){i:Nat}{p:AH×AH}{c':Ce}(f:zH s t0 H H' T T')(hp:A.cs[i]? =some (some p))(n:∀k,100<=k->k≠100+2 * i->k≠101+2 * i->¬ t0 k)(e:Yg X.C H' T' s i p c'):
  WC X H' T' s A.cs (M.cells.set i (some c')):=by
 have hl:i<A.cs.length:=(dY hp).1;refine⟨by rw[List.length_set];exact j.lc,λk g c b a=>?_⟩
 by_cases hk:k=i
 ·subst hk;rw[List.getElem?_set_self (by rw[<- j.lc];exact hl)]at a;rw[hp]at b;cases b;cases a;exact e
 ·rw[List.getElem?_set_ne (λz=>hk z.symm)]at a;exact(j.ce k g c b a).mv f (n _ (by omega) (by omega) (by omega)) (n _ (by omega) (by omega) (by omega))
theorem WJ.field(j:WJ X H T s A M)(w:WT H T)(a:s≠0){i k:Nat}{p:AH×AH}{c:Ce}{x:AA}(hp:A.cs[i]? =some (some p))(e:Yg X.C H T s i p c):
  jf s H (upd H p.2 (.lst ((c.fl.map oV).set k (oV x)))) T T/\WJ X (upd H p.2 (.lst ((c.fl.map oV).set k (oV x)))) T s A { M with cells:=M.cells.set i (some { c with fl:=c.fl.set k x }) }:=by
 refine⟨jf.upd w e.o2 (by rw[e.t2]),?_⟩;have f:zH s (·=101+2 * i) H (upd H p.2 (.lst ((c.fl.map oV).set k (oV x)))) T T:=zH.FQ e.t2;have b:upd H p.2 (.lst ((c.fl.map oV).set k (oV x))) p.2=some (.lst ((c.fl.set k x).map oV)):=by rw[aq,List.map_set]
 obtain⟨d,o1⟩:=e.o1;exact⟨j.jb.mv f (qD a e.t2) (by omega) (by omega),j.jh.mv f (by omega) (by omega),j.jn.mv f (qD a e.t2) (by omega),j.js.mv f (by omega) (by omega),j.jd.mv f λ_ _ _=>by omega,
  j.jc.chg f hp (λk _ _ n2 z=>n2 z) ⟨e.t1,e.t2,⟨d,f.at e.t1 (by omega) o1⟩,b⟩⟩
theorem WJ.cell(j:WJ X H T s A M)(w:WT H T)(a:s≠0){i:Nat}{p:AH×AH}{c:Ce}{dx:AH}{tone load:Int}(hp:A.cs[i]? =some (some p))(e:Yg X.C H T s i p c):
  jf s H (upd H p.1 (.ins X.C dx (oM c.birth c.bulk tone load p.2))) T T/\WJ X (upd H p.1 (.ins X.C dx (oM c.birth c.bulk tone load p.2))) T s A { M with cells:=M.cells.set i (some { c with tone:=tone,load:=load }) }:=by
 obtain⟨b,o1⟩:=e.o1;refine⟨jf.upd w o1 (by rw[e.t1]),?_⟩;have f:zH s (·=100+2 * i) H (upd H p.1 (.ins X.C dx (oM c.birth c.bulk tone load p.2))) T T:=zH.FQ e.t1;exact⟨j.jb.mv f (qD a e.t1) (by omega) (by omega),j.jh.mv f (by omega) (by omega),j.jn.mv f (qD a e.t1) (by omega),j.js.mv f (by omega) (by omega),j.jd.mv f λ_ _ _=>by omega,
  j.jc.chg f hp (λk _ n1 _ z=>n1 z) ⟨e.t1,e.t2,⟨dx,aq⟩,f.at e.t2 (by omega) e.o2⟩⟩
theorem WJ.sweep(j:WJ X H T s A M)(w:WT H T)(a:s≠0){dx:AH}(S:Sw)(b:S.grey=M.sw.grey):
  jf s H (upd H A.sw (.ins X.S dx (cG S.sense S.phase A.gr S.looked S.turn S.at' S.stop S.walks S.looks S.passes S.loss))) T T/\
  WJ X (upd H A.sw (.ins X.S dx (cG S.sense S.phase A.gr S.looked S.turn S.at' S.stop S.walks S.looks S.passes S.loss))) T s A { M with sw:=S }:=by
 obtain⟨ts,tg,⟨c,os⟩,og⟩:=j.js;refine⟨jf.upd w os (by rw[ts]),?_⟩;have f:zH s (·=7) H (upd H A.sw (.ins X.S dx (cG S.sense S.phase A.gr S.looked S.turn S.at' S.stop S.walks S.looks S.passes S.loss))) T T:=zH.FQ ts;exact⟨j.jb.mv f (qD a ts) (by omega) (by omega),j.jh.mv f (by omega) (by omega),j.jn.mv f (qD a ts) (by omega),⟨ts,tg,⟨dx,aq⟩,by rw[b];exact f.at tg (by omega) og⟩,j.jd.mv f λ_ _ _=>by omega,j.jc.mv f λ_ _=>by omega⟩
theorem WJ.Zwq(j:WJ X H T s A M)(w:WT H T)(a:s≠0){g:AD}:jf s H (upd H A.gr (.lst (g.map V.int))) T T/\WJ X (upd H A.gr (.lst (g.map V.int))) T s A { M with sw:={ M.sw with grey:=g } }:=by
 obtain⟨ts,tg,⟨b,os⟩,og⟩:=j.js;refine⟨jf.upd w og (by rw[tg]),?_⟩;have f:zH s (·=8) H (upd H A.gr (.lst (g.map V.int))) T T:=zH.FQ tg;exact⟨j.jb.mv f (qD a tg) (by omega) (by omega),j.jh.mv f (by omega) (by omega),j.jn.mv f (qD a tg) (by omega),⟨ts,tg,⟨b,f.at ts (by omega) os⟩,aq⟩,j.jd.mv f λ_ _ _=>by omega,j.jc.mv f λ_ _=>by omega⟩
theorem WJ.back(j:WJ X H T s A M)(w:WT H T)(D:s≠0){i:Nat}{dx:AH}{used':Int}(v:i<A.cs.length)(H':Hp)(kp:∀b o,H b=some o->b≠A.hp->b≠A.ca->H' b=some o)(y:H' A.hp=some (.ins X.H dx (lR M.room A.ca used' M.born)))(u:H' A.ca=some (.lst ((A.cs.map pV).set i V.non))):
  jf s H H' T T/\WJ X H' T s { A with cs:=A.cs.set i none } { M with used:=used',cells:=M.cells.set i none }:=by
 obtain⟨th,tc,⟨K,oh⟩,oc⟩:=j.jh;have al:∀b o,H b=some o->∃C,H' b=some C:=λb o h=>by
  by_cases z1:b=A.hp
  ·exact⟨_,by rw[z1];exact y⟩
  ·by_cases r:b=A.ca
   ·exact⟨_,by rw[r];exact u⟩
   ·exact⟨o,kp b o h z1 r⟩
 have f:zH s (λk=>k=1\/k=2) H H' T T:=⟨λb o h e n=>kp b o h (λz=>n (.inl (by rw[z,th]))) (λz=>n (.inr (by rw[z,tc]))),λ_ _ _=>rfl⟩;have B:∀b o,H b=some o->T b=(0,0)->H' b=some o:=λb o h t=>kp b o h (Uk t th (λz=>D (congrArg Prod.fst z).symm)) (Uk t tc (λz=>D (congrArg Prod.fst z).symm));refine⟨⟨λb o h n=>kp b o h (λz=>n (by rw[z,th])) (λz=>n (by rw[z,tc])),al,λ_ _ _=>rfl,λb h=>w b ?_⟩,?_⟩
 ·cases z:H b with
  | none=>rfl
  | some o=>obtain⟨C,x⟩:=al b o z;rw[h]at x;cases x
 ·refine⟨?_,⟨th,tc,⟨dx,y⟩,by rw[List.map_set];exact u⟩,?_,?_,j.jd.mv f λ_ _ _=>by omega,⟨by rw[List.length_set,List.length_set];exact j.jc.lc,λk g c d a=>?_⟩⟩
  ·obtain⟨p,m,l,q,E,I,J,F⟩:=j.jb.mv f B (by omega) (by omega);exact⟨p,m,l,q,E,I,J,F⟩
  ·obtain⟨p,m,l⟩:=j.jn.mv f B (by omega);exact⟨p,m,l⟩
  ·obtain⟨p,m,l,q⟩:=j.js.mv f (by omega) (by omega);exact⟨p,m,l,q⟩
  ·by_cases hk:k=i
   ·subst hk;dsimp only at d a;rw[List.getElem?_set_self v]at d;rw[List.getElem?_set_self (by rw[<- j.jc.lc];exact v)]at a;cases d;cases a
    trivial
   ·dsimp only at d a;rw[List.getElem?_set_ne (λz=>hk z.symm)]at d a;exact(j.jc.ce k g c d a).mv f (by omega) (by omega)
end
def mV{a:Type}:List (Option a)->Nat
 | []=>0
 | none::_=>0
 | some _::l=>mV l+1
def qL{a:Type}(l:List (Option a))(x:a):List (Option a):=if mV l<l.length then l.set (mV l) (some x)else l++[some x]
theorem Zci{b:Type}(l:List (Option b)):mV l<=l.length:=by
 induction l with
 | nil=>exact Nat.le_refl _
 | cons a l c=>cases a with
  | none=>exact Nat.zero_le _
  | some a=>exact Nat.succ_le_succ c
theorem Zvt{b:Type}{l:List (Option b)}(h:mV l<l.length):l[mV l]? =some none:=by
 induction l with
 | nil=>exact absurd h (Nat.lt_irrefl _)
 | cons a l c=>cases a with
  | none=>rfl
  | some a=>exact c (Nat.lt_of_succ_lt_succ h)
theorem Zg3{c:Type}{f:Option c->V}(g:∀x,f x=V.non↔x=none)(l:List (Option c)):(l.map f).idxOf V.non=mV l/\(V.non∈l.map f↔mV l<l.length):=by
 induction l with
 | nil=>exact⟨rfl,⟨λz=>(nomatch z),λz=>absurd z (Nat.lt_irrefl _)⟩⟩
 | cons a l d=>
  rw[List.map_cons,List.idxOf_cons];cases a with
  | none=>
   have e:f none=V.non:=(g none).mpr rfl;rw[e];exact⟨rfl,⟨λ_=>Nat.zero_lt_succ _,λ_=>List.mem_cons_self⟩⟩
  | some a=>
   have e:f (some a)≠V.non:=λz=>by cases (g (some a)).mp z
   have b:(f (some a) == V.non)=false:=beq_eq_false_iff_ne.mpr e;rw[b];refine⟨congrArg (· + 1) d.1,?_⟩;show _↔mV l+1<l.length+1;rw[List.mem_cons,d.2];constructor
   ·rintro(z | z)
    ·exact absurd z.symm e
    ·omega
   ·intro z;exact .inr (by omega)
theorem Zpl{a:Type}{f:Option a->V}(d:∀x,f x=V.non↔x=none)(l:List (Option a))(x:a):putN (l.map f) (f (some x))=(qL l x).map f:=by
 obtain⟨c,b⟩:=Zg3 d l;unfold putN qL
 by_cases z:mV l<l.length
 ·rw[if_pos z,if_pos (b.mpr z),List.map_set];exact congrArg (λk=>(l.map f).set k (f (some x))) c
 ·rw[if_neg z,if_neg (λw=>z (b.mp w)),List.map_append];rfl
theorem Zq6(p:Option (AH×AH)):pV p=V.non↔p=none:=by cases p<;>simp[pV]
theorem Rm{a:Type}(l:List (Option a))(x:a):(qL l x)[mV l]? =some (some x):=by
 unfold qL
 by_cases z:mV l<l.length
 ·rw[if_pos z,List.getElem?_set_self z]
 ·have e:mV l=l.length:=Nat.le_antisymm (Zci l) (by omega);rw[if_neg z,e,List.getElem?_append_right (Nat.le_refl _),Nat.sub_self];rfl
theorem Zle{a:Type}{l:List (Option a)}{x:a}{i:Nat}{y:Option a}(b:i≠mV l)(h:(qL l x)[i]? =some y):l[i]? =some y:=by
 unfold qL at h
 by_cases z:mV l<l.length
 ·rw[if_pos z,List.getElem?_set_ne (λw=>b w.symm)]at h;exact h
 ·rw[if_neg z]at h;have e:mV l=l.length:=Nat.le_antisymm (Zci l) (by omega);have hl:=(dY h).1;rw[List.length_append,List.length_singleton]at hl;rw[List.getElem?_append_left (by omega)]at h;exact h
theorem Zpm{a b:Type}{l:List (Option a)}{m:List (Option b)}{x:a}{y:b}(hl:l.length=m.length)(c:mV l=mV m):(qL l x).length=(qL m y).length:=by
 unfold qL
 by_cases z:mV l<l.length
 ·rw[if_pos z,if_pos (by omega),List.length_set,List.length_set];exact hl
 ·rw[if_neg z,if_neg (by omega),List.length_append,List.length_append,hl];rfl
theorem Ztn{a:Type}(l:List (Option a))(x:a):(qL l x).length<=l.length+1:=by
 unfold qL
 by_cases z:mV l<l.length
 ·rw[if_pos z,List.length_set];omega
 ·rw[if_neg z,List.length_append];exact Nat.le_refl _
theorem Zvs{d g:Type}:∀(l:List (Option d)) (m:List (Option g)),l.length=m.length->(∀(i:Nat) x y,l[i]? =some x->m[i]? =some y->(x=none↔y=none))->mV l=mV m:=by
 intro l
 induction l with
 | nil=>
  intro m hl _;cases m with
  | nil=>rfl
  | cons b m=>simp at hl
 | cons a l f=>
  intro m hl h;cases m with
  | nil=>simp at hl
  | cons b m=>
   have c:=f m (by simpa using hl) λi x y h1 h2=>h (i+1) x y (by simpa using h1) (by simpa using h2);have e:=h 0 a b rfl rfl;cases a with
   | none=>rw[e.mp rfl];rfl
   | some a=>cases b with
    | none=>exact absurd (e.mpr rfl) (λz=>by cases z)
    | some b=>exact congrArg (· + 1) c
section
variable {X:Cs}{H H':Hp}{T T':Tg}{s:Nat}{A:Wa}{M:Wm}
theorem WC.fst(j:WC X H T s A.cs M.cells):mV A.cs=mV M.cells:=Zvs _ _ j.lc λi p c a b=>by
 have e:=j.ce i p c a b;cases p with
 | none=>cases c with
  | none=>exact⟨λ_=>rfl,λ_=>rfl⟩
  | some c=>exact e.elim
 | some p=>cases c with
  | none=>exact e.elim
  | some c=>exact⟨λz=>(by cases z),λz=>(by cases z)⟩
theorem WJ.put(j:WJ X H T s A M)(w:WT H T)(J:s≠0){dx:AH}{used':Int}{p fa:AH}{c:Ce}(kp:∀b o,H b=some o->b≠A.hp->b≠A.ca->H' b=some o)(D:H' A.hp=some (.ins X.H dx (lR M.room A.ca used' (M.born+1))))(y:H' A.ca=some (.lst (putN (A.cs.map pV) (.ref p))))
  (n1:H p=none) (n2:H fa=none) (N:p≠fa) (o1:∃dx,H' p=some (.ins X.C dx (oM c.birth c.bulk c.tone c.load fa))) (o2:H' fa=some (.lst (c.fl.map oV))):
  ∃T',jf s H H' T T'/\WJ X H' T' s { A with cs:=qL A.cs (p,fa) } { M with used:=used',born:=M.born+1,cells:=qL M.cells c }:=by
 obtain⟨th,tc,⟨R,oh⟩,oc⟩:=j.jh;have v:=j.jc.fst
 let k:=mV A.cs
 let T':Tg:=ji (ji T p (s,100+2 * k)) fa (s,101+2 * k)
 have told:∀b o,H b=some o->T' b=T b:=λb o h=>by
  show ji _ _ _ b=_;rw[jg (aD h n2),jg (aD h n1)]
 have t1:T' p=(s,100+2 * k):=by show ji _ _ _ p=_;rw[jg N,iw]
 have t2:T' fa=(s,101+2 * k):=by show ji _ _ _ fa=_;rw[iw]
 have al:∀b o,H b=some o->∃I,H' b=some I:=λb o h=>by
  by_cases z1:b=A.hp
  ·exact⟨_,by rw[z1];exact D⟩
  ·by_cases x:b=A.ca
   ·exact⟨_,by rw[x];exact y⟩
   ·exact⟨o,kp b o h z1 x⟩
 have f:zH s (λk=>k=1\/k=2) H H' T T':=⟨λb o h e n=>kp b o h (λz=>n (.inl (by rw[z,th]))) (λz=>n (.inr (by rw[z,tc]))),told⟩;have F:∀b o,H b=some o->T b=(0,0)->H' b=some o:=λb o h t=>kp b o h (Uk t th (λz=>J (congrArg Prod.fst z).symm)) (Uk t tc (λz=>J (congrArg Prod.fst z).symm));refine⟨T',⟨λb o h E=>kp b o h (λz=>E (by rw[z,th])) (λz=>E (by rw[z,tc])),al,told,λb h=>?_⟩,?_⟩
 ·have l:b≠p:=λe=>by obtain⟨d,z⟩:=o1;rw[e,z]at h;cases h
  have a:b≠fa:=λe=>by rw[e,o2]at h;cases h
  have hb:H b=none:=by
   cases z:H b with
   | none=>rfl
   | some o=>obtain⟨I,B⟩:=al b o z;rw[h]at B;cases B
  show ji _ _ _ b=_;rw[jg a,jg l];exact w b hb
 ·refine⟨?_,⟨f.tag oh th,f.tag oc tc,⟨dx,D⟩,?_⟩,?_,?_,j.jd.mv f λ_ _ _=>by omega,⟨Zpm j.jc.lc v,λi g Q r q=>?_⟩⟩
  ·obtain⟨l,a,m,u,K,O,P,L⟩:=j.jb.mv f F (by omega) (by omega);exact⟨l,a,m,u,K,O,P,L⟩
  ·show H' A.ca=some (.lst ((qL A.cs (p,fa)).map pV));rw[<- Zpl Zq6];exact y
  ·obtain⟨l,a,m⟩:=j.jn.mv f F (by omega);exact⟨l,a,m⟩
  ·obtain⟨l,a,m,u⟩:=j.js.mv f (by omega) (by omega);exact⟨l,a,m,u⟩
  ·dsimp only at r q
   by_cases hk:i=mV A.cs
   ·subst hk;rw[Rm]at r;rw[v,Rm]at q;cases r;cases q;exact⟨t1,t2,o1,o2⟩
   ·exact(j.jc.ce i g Q (Zle hk r) (Zle (by rw[<- v];exact hk) q)).mv f (by omega) (by omega)
end
def cellAt(M:Wm)(x:Int):Option Ce:=if 0<=x then(M.cells[x.toNat]?).join else none
def wW(M:Wm):AA->AA
 | none=>none
 | some x=>(cellAt M x).map (·.birth)
def aX(M:Wm)(h k:Nat):AA:=((M.hands[h]?).bind λm=>m.2[k]?).join
def setSlot(M:Wm)(h k:Nat)(x:AA):Wm:={ M with hands:=M.hands.modify h λm=>(m.1,m.2.set k x) }
def setCell(M:Wm)(i:Int)(c:Ce):Wm:={ M with cells:=M.cells.set i.toNat (some c) }
def bT(M:Wm):AA->AA×Wm
 | none=>(none,M)
 | some i=>match cellAt M i with
  | none=>(none,M)
  | some c=>if M.sw.phase="walk"/\c.tone≠M.sw.sense then(some c.birth,{ setCell M i { c with tone:=M.sw.sense }with sw:={ M.sw with grey:=M.sw.grey++[i] } })else(none,M)
def dH(M:Wm)(h:Nat):Bool:=decide (M.sw.looked / 2 ^ h % 2=1)
def uB(M:Wm)(a birth:Int):Bool:=match cellAt M a with
 | none=>true
 | some c=>if c.birth=birth then decide (M.sw.phase="give"/\c.tone≠M.sw.sense)else true
def xu(l:List (Str×(Int×Int)))(k:Str)(v:Int×Int):List (Str×(Int×Int)):=if (l.any λm=>decide (m.1=k))=true then l.map (λm=>if m.1=k then(m.1,v)else m)else l++[(k,v)]
def zY(l:List (Str×(Int×Int)))(k:Str):Option (Int×Int):=(l.find? λm=>decide (m.1=k)).map (·.2)
inductive Rf where
 | full | empty | ud | Uh
 deriving DecidableEq
structure Ev where
 word:Str
 thing:AA
 notes:AD
inductive p6 where
 | make (h s:Nat) (many bulk:Int)
 | get (h s t f:Nat)
 | put (h t f s:Nat)
 | copy (h s t:Nat)
 | drop (h s:Nat)
 | give (h s g t:Nat)
 | write (h t:Nat) (load:Int)
 | read (h t:Nat)
 | name (h t:Nat) (word:Str)
 | seek (h s:Nat) (word:Str)
def old?(M:Wm):Bool:=decide (M.tells % 2=1)
def tL(M:Wm):Bool:=decide (M.tells / 2 % 2=1)
def ofN:AA->AD
 | none=>[]
 | some b=>[b]
def aV(M:Wm):Au->AD×Wm
 | []=>([],M)
 | x::l=>(ofN (bT M x).1++(aV (bT M x).2 l).1,(aV (bT M x).2 l).2)
def zJ(M:Wm):p6->Except Rf (Ev×Wm)
 | .make h s many bulk=>
  if M.used+(1+many+bulk)<=M.room then
   .ok (⟨"made",some (M.born+1),[]⟩,setSlot { M with used:=M.used+(1+many+bulk),born:=M.born+1,cells:=qL M.cells ⟨M.born+1,bulk,M.sw.sense,0,List.replicate many.toNat none⟩ } h s (some (mV M.cells)))
  else .error .full
 | .get h s t f=>match aX M h t with
  | none=>.error .empty
  | some x=>match cellAt M x with
   | none=>.error .empty
   | some c=>match c.fl[f]? with
    | none=>.error .ud
    | some v=>.ok (⟨"got",wW M v,[]⟩,setSlot M h s v)
 | .put h t f s=>match aX M h t with
  | none=>.error .empty
  | some x=>match cellAt M x with
   | none=>.error .empty
   | some c=>match c.fl[f]? with
    | none=>.error .ud
    | some v=>
     let M1:=setCell M x { c with fl:=c.fl.set f (aX M h s) }
     let r:=aV M1 ((if old? M=true then [v]else [])++if (tL M && !dH M h)=true then [aX M h s]else [])
     .ok (⟨"put",wW M v,r.1⟩,r.2)
 | .copy h s t=>.ok (⟨"copied",wW M (aX M h t),[]⟩,setSlot M h s (aX M h t))
 | .drop h s=>.ok (⟨"dropped",wW M (aX M h s),[]⟩,setSlot M h s none)
 | .give h s g t=>
  let r:=aV (setSlot M g t (aX M h s)) (if (tL M && !dH M h)=true then [aX M h s]else [])
  .ok (⟨"given",wW M (aX M h s),r.1⟩,r.2)
 | .write h t load=>match aX M h t with
  | none=>.error .empty
  | some x=>match cellAt M x with
   | none=>.error .empty
   | some c=>.ok (⟨"wrote",some c.load,[]⟩,setCell M x { c with load:=load })
 | .read h t=>match aX M h t with
  | none=>.error .empty
  | some x=>match cellAt M x with
   | none=>.error .empty
   | some c=>.ok (⟨"read",some c.load,[]⟩,M)
 | .name h t word=>match aX M h t with
  | none=>.error .empty
  | some x=>match cellAt M x with
   | none=>.error .empty
   | some c=>.ok (⟨"named",some c.birth,[]⟩,{ M with names:=xu M.names word (x,c.birth) })
 | .seek h s word=>match zY M.names word with
  | none=>.error .Uh
  | some (p,b)=>
   if uB M p b=true then .ok (⟨"sought",none,[]⟩,setSlot M h s none)
   else
    let r:=aV (setSlot M h s (some p)) [some p]
    .ok (⟨"sought",some b,r.1⟩,r.2)
def dV:p6->List V
 | .make h s many bulk=>[.str "make",.int h,.int s,.int many,.int bulk]
 | .get h s t f=>[.str "get",.int h,.int s,.int t,.int f]
 | .put h t f s=>[.str "put",.int h,.int t,.int f,.int s]
 | .copy h s t=>[.str "copy",.int h,.int s,.int t]
 | .drop h s=>[.str "drop",.int h,.int s]
 | .give h s g t=>[.str "give",.int h,.int s,.int g,.int t]
 | .write h t load=>[.str "write",.int h,.int t,.int load]
 | .read h t=>[.str "read",.int h,.int t]
 | .name h t word=>[.str "name",.int h,.int t,.str word]
 | .seek h s word=>[.str "seek",.int h,.int s,.str word]
def Dm(M:Wm)(h s:Nat):Prop:=∃m,M.hands[h]? =some m/\s<m.2.length
def okD(M:Wm):p6->Prop
 | .make h s many bulk=>Dm M h s/\0<=many/\many<=1000/\0<=bulk
 | .get h s t _=>Dm M h s/\Dm M h t
 | .put h t _ s=>Dm M h t/\Dm M h s
 | .copy h s t=>Dm M h s/\Dm M h t
 | .drop h s=>Dm M h s
 | .give h s g t=>Dm M h s/\Dm M g t
 | .write h t _=>Dm M h t
 | .read h t=>Dm M h t
 | .name h t _=>Dm M h t
 | .seek h s _=>Dm M h s
structure Ok(M:Wm):Prop where
 sl:∀m∈M.hands,∀x,some x∈m.2->∃c,cellAt M x=some c
 fl:∀c,some c∈M.cells->∀x,some x∈c.fl->∃d,cellAt M x=some d
 tn:∀c,some c∈M.cells->c.tone=0\/c.tone=1
def Dl(d b c a:AH):Rf->AH
 | .full=>d
 | .empty=>b
 | .ud=>c
 | .Uh=>a
def EvN(H0 H:Hp)(a:AH)(e:Ev):Prop:=∃l,H0 l=none/\H a=some (.tup [.str e.word,oV e.thing,.ref l])/\H l=some (.lst (e.notes.map V.int))
def cC(X:Cs)(c:Rf->AH)(P:p6->Prop):Sp:=λvs H Q E=>∃wo dd,vs=[.ref wo,.ref dd]/\∃T s A M d,P d/\WT H T/\s≠0/\WJ X H T s A M/\A.wo=wo/\H dd=some (.tup (dV d))/\okD M d/\M.cells.length<=900/\(M.sw.phase="walk"->M.sw.grey.length<=10000)/\(0<=M.tells/\M.tells<4)/\M.names.length<=1000/\
 (∀r,zJ M d=.error r->∀H',aW H H'->E (.ref (c r)) none H')/\
 (∀e M',zJ M d=.ok (e,M')->∀H' T' b a,jf s H H' T T'->WJ X H' T' s b M'->b.wo=wo->EvN H H' a e->Q (.ref a) H')
abbrev ZL6(X:Cs)(rf:Rf->AH):Sp:=cC X rf λ_=>True
theorem Zmr{b:Type}{l:List (Option b)}{x a:b}{i:Nat}(h:l[i]? =some (some a)):(qL l x)[i]? =some (some a):=by
 have hl:=(dY h).1;unfold qL
 by_cases z:mV l<l.length
 ·have c:i≠mV l:=λe=>by rw[e,Zvt z]at h;cases h
  rw[if_pos z,List.getElem?_set_ne (λw=>c w.symm)];exact h
 ·rw[if_neg z,List.getElem?_append_left hl];exact h
theorem dm{M:Wm}{x:Int}{c:Ce}:cellAt M x=some c↔0<=x/\M.cells[x.toNat]? =some (some c):=by
 unfold cellAt
 by_cases z:0<=x
 ·rw[if_pos z];cases e:M.cells[x.toNat]? with
  | none=>simp
  | some y=>cases y with
   | none=>simp
   | some d=>simp[z]
 ·rw[if_neg z];simp[z]
theorem wH{M:Wm}{x:Int}{c:Ce}(h:cellAt M x=some c):some c∈M.cells:=List.mem_of_getElem? (dm.mp h).2
theorem Zks{M:Wm}{x u b:Int}{c d:Ce}(h:cellAt M x=some d):cellAt { M with used:=u,born:=b,cells:=qL M.cells c } x=some d:=by
 obtain⟨a,h1⟩:=dm.mp h;exact dm.mpr ⟨a,Zmr h1⟩
theorem Zkt{M:Wm}{u b:Int}{c:Ce}:cellAt { M with used:=u,born:=b,cells:=qL M.cells c } (mV M.cells)=some c:=
 dm.mpr ⟨by omega,by rw[Int.toNat_natCast];exact Rm _ _⟩
theorem Zqp{a:Type}{l:List (Option a)}{x:a}{y:Option a}(h:y∈qL l x):y∈l\/y=some x:=by
 unfold qL at h
 by_cases z:mV l<l.length
 ·rw[if_pos z]at h;rcases List.mem_or_eq_of_mem_set h with h | h
  ·exact .inl h
  ·exact .inr h
 ·rw[if_neg z]at h;rcases List.mem_append.mp h with h | h
  ·exact .inl h
  ·exact .inr (List.mem_singleton.mp h)
theorem Zmj{M:Wm}{h k:Nat}{m:Str×Au}{x:AA}(hm:M.hands[h]? =some m)(hk:m.2[k]? =some x):aX M h k=x:=by
 unfold aX;rw[hm];show(m.2[k]?).join=x;rw[hk];rfl
theorem Zey{M:Wm}{h k:Nat}(o:Dm M h k):∃m,M.hands[h]? =some m/\m.2[k]? =some (aX M h k)/\k<m.2.length:=by
 obtain⟨m,hm,hk⟩:=o;refine⟨m,hm,?_,hk⟩;rw[Zmj hm (bM hk)];exact bM hk
theorem VR{M:Wm}{h k:Nat}{x:AA}{m:Str×Au}(hm:M.hands[h]? =some m):(setSlot M h k x).hands=M.hands.set h (m.1,m.2.set k x):=by
 show M.hands.modify h _=_;apply List.ext_getElem?;intro i;rw[List.getElem?_modify]
 by_cases e:h=i
 ·subst e;rw[List.getElem?_set_self (dY hm).1,hm];simp
 ·rw[List.getElem?_set_ne e];simp[e]
theorem qK{M:Wm}{h k:Nat}{x:AA}{y:AA}:wW (setSlot M h k x) y=wW M y:=by cases y<;>rfl
def rowsOf(M:Wm):List Au:=M.hands.map λm=>m.2.map (wW M)
theorem Zj9{M:Wm}(h:M.sw.phase≠"walk")(x:AA):bT M x=(none,M):=by
 cases x with
 | none=>rfl
 | some x=>
  unfold bT;dsimp only;cases cellAt M x with
  | none=>rfl
  | some c=>
   dsimp only;rw[if_neg (λz=>h z.1)]
theorem Zgg{M:Wm}{h s:Nat}{many bulk:Int}(a:M.used+(1+many+bulk)<=M.room):zJ M (.make h s many bulk)=.ok (⟨"made",some (M.born+1),[]⟩,setSlot { M with used:=M.used+(1+many+bulk),born:=M.born+1,cells:=qL M.cells ⟨M.born+1,bulk,M.sw.sense,0,List.replicate many.toNat none⟩ } h s (some (mV M.cells))):=by
 show(if _ then _ else _)=_;rw[if_pos a]
structure qm(K:aB)(X:Cs):Prop where
 c:TxC K X.C X.H
 cW:Im K X.W
 PX:bL K X.W "heap"
 nWk:bL K X.W "kind"
 nWd:bL K X.W "hands"
 nWn:bL K X.W "names"
 Rr:bL K X.W "sweeper"
 cD:Im K X.D
 nDn:bL K X.D "name"
 nDs:bL K X.D "slots"
 cK:Im K X.K
 nKl:bL K X.K "looking"
 nKt:bL K X.K "tells"
 cS:Im K X.S
 n1:bL K X.S "sense"
 n2:bL K X.S "phase"
 n3:bL K X.S "grey"
 n4:bL K X.S "looked"
 n5:bL K X.S "turn"
 n6:bL K X.S "at"
 n7:bL K X.S "stop"
 n8:bL K X.S "walks"
 n9:bL K X.S "looks"
 n10:bL K X.S "passes"
 n11:bL K X.S "loss"
structure WJ0(X:Cs)(H:Hp)(T:Tg)(s:Nat)(A:Wa)(M:Wm):Prop where
 jb:WB X H T s A M.w M.tells
 jh:WH X H T s A M.room M.used M.born
 js:WS X H T s A M.sw
 jd:WD X H T s A.hs M.hands
 jc:WC X H T s A.cs M.cells
theorem WJ.w0{X:Cs}{H:Hp}{T:Tg}{s:Nat}{A:Wa}{M:Wm}(j:WJ X H T s A M):WJ0 X H T s A M:=⟨j.jb,j.jh,j.js,j.jd,j.jc⟩
theorem WJ.names{X:Cs}{H:Hp}{T:Tg}{s:Nat}{A:Wa}{M:Wm}{o:HO}(j:WJ X H T s A M)(a:s≠0):WJ0 X (upd H A.nm o) T s A M:=by
 have f:zH s (·=6) H (upd H A.nm o) T T:=zH.FQ j.jn.tm;exact⟨j.jb.mv f (qD a j.jn.tm) (by omega) (by omega),j.jh.mv f (by omega) (by omega),j.js.mv f (by omega) (by omega),j.jd.mv f λ_ _ _=>by omega,j.jc.mv f λ_ _=>by omega⟩
theorem WJ0.same{X:Cs}{H H':Hp}{T:Tg}{s:Nat}{A:Wa}{M:Wm}(j:WJ0 X H T s A M)(e:aW H H'):WJ0 X H' T s A M:=by
 have f:zH s (λ_=>False) H H' T T:=zH.of_same e;exact⟨j.jb.mv f (λb o h _=>e b o h) id id,j.jh.mv f id id,j.js.mv f id id,j.jd.mv f λ_ _ _=>id,j.jc.mv f λ_ _=>id⟩
def atO(cs:List V):V->V
 | .int i=>if 0<=i then(cs[i.toNat]?).getD .non else .non
 | _=>.non
def d9(a:AH):Sp:=λvs H Q E=>∃hp pl,vs=[.ref hp,pl]/\(pl=.non\/∃i,pl=.int i)/\∃ca room used born cs,HpO a H hp ca room used born cs/\Q (atO cs pl) H
def cO(M:Wm)(x:AA):Option Ce:=x.bind (cellAt M)
def cP(X:Cs):Sp:=λvs H Q E=>∃hp pl,vs=[.ref hp,pl]/\∃x,pl=oV x/\∃T s A M,WJ X H T s A M/\A.hp=hp/\Q (oV (wW M x)) H
def xY(X:Cs):Sp:=λvs H Q E=>∃p f,vs=[.ref p,.int f]/\∃T s i q c,Yg X.C H T s i q c/\q.1=p/\Q (.bl (decide (0<=f) && decide (f<c.fl.length))) H
def cu(X:Cs):Sp:=λvs H Q E=>∃wo h,vs=[.ref wo,.int h]/\∃T s A M k p,WJ X H T s A M/\A.wo=wo/\h=((k:Nat):Int)/\A.hs[k]? =some p/\Q (.ref p.2) H
def cQ(X:Cs):Sp:=λvs H Q E=>∃wo p,vs=[.ref wo,.ref p]/\∃T s A M i q c,WJ0 X H T s A M/\A.wo=wo/\Yg X.C H T s i q c/\q.1=p/\Q (.bl (decide (c.tone=M.sw.sense))) H
def o8(X:Cs):Sp:=λvs H Q E=>∃wo h,vs=[.ref wo,.int h]/\∃T s A M k,WJ X H T s A M/\A.wo=wo/\h=((k:Nat):Int)/\Q (.bl (dH M k)) H
def CP(X:Cs):Sp:=λvs H Q E=>∃wo v,vs=[.ref wo,v]/\∃T s A M,WJ X H T s A M/\A.wo=wo/\(0<=M.tells/\M.tells<4)/\∀l,H l=none->Q (.ref l) (upd H l (.lst (if old? M=true then [v]else [])))
def qF(X:Cs):Sp:=λvs H Q E=>∃wo h v,vs=[.ref wo,.int h,v]/\∃T s A M k,WJ X H T s A M/\A.wo=wo/\(0<=M.tells/\M.tells<4)/\h=((k:Nat):Int)/\∀l,H l=none->Q (.ref l) (upd H l (.lst (if (tL M && !dH M k)=true then [v]else [])))
def lq(X:Cs)(CE:AH):Sp:=λvs H Q E=>∃wo h t,vs=[.ref wo,.int h,.int t]/\∃T s A M hn tn,WJ X H T s A M/\A.wo=wo/\h=((hn:Nat):Int)/\t=((tn:Nat):Int)/\Dm M hn tn/\
 (cO M (aX M hn tn)=none->E (.ref CE) none H)/\
 (∀i c p,aX M hn tn=some i->0<=i->cellAt M i=some c->A.cs[i.toNat]? =some (some p)->Yg X.C H T s i.toNat p c->Q (.ref p.1) H)
def o9(X:Cs)(CE a:AH):Sp:=λvs H Q E=>∃wo h t f,vs=[.ref wo,.int h,.int t,.int f]/\∃T s A M hn tn fn,WJ X H T s A M/\A.wo=wo/\h=((hn:Nat):Int)/\t=((tn:Nat):Int)/\f=((fn:Nat):Int)/\Dm M hn tn/\
 (cO M (aX M hn tn)=none->E (.ref CE) none H)/\
 (∀i c,aX M hn tn=some i->0<=i->cellAt M i=some c->c.fl[fn]? =none->E (.ref a) none H)/\
 (∀i c p,aX M hn tn=some i->0<=i->cellAt M i=some c->A.cs[i.toNat]? =some (some p)->Yg X.C H T s i.toNat p c->fn<c.fl.length->Q (.ref p.2) H)
def Zdk(X:Cs):Sp:=λvs H Q E=>∃wo pl,vs=[.ref wo,pl]/\∃x,pl=oV x/\∃T s A M,WT H T/\s≠0/\WJ X H T s A M/\A.wo=wo/\(M.sw.phase="walk"->M.sw.grey.length<=20000)/\
 ∀H',jf s H H' T T->WJ X H' T s A (bT M x).2->Q (oV (bT M x).1) H'
def PlO(H:Hp)(T:Tg)(A:Wa)(M:Wm)(pl:AH)(xs:Au):Prop:=(H pl=some (.lst (xs.map oV))/\T pl=(0,0))\/(∃(k:Nat) (p:AH×AH) (m:Str×Au),A.hs[k]? =some p/\M.hands[k]? =some m/\pl=p.2/\xs=m.2)\/(∃(k:Nat) (p:AH×AH) (c:Ce),A.cs[k]? =some (some p)/\M.cells[k]? =some (some c)/\pl=p.2/\xs=c.fl)
theorem PlO.get{X:Cs}{H:Hp}{T:Tg}{s:Nat}{A:Wa}{M:Wm}{pl:AH}{xs:Au}(h:PlO H T A M pl xs)(j:WJ X H T s A M):H pl=some (.lst (xs.map oV)):=by
 rcases h with ⟨h,_⟩ | ⟨k,p,m,h1,h2,rfl,rfl⟩ | ⟨k,p,c,h1,h2,rfl,rfl⟩
 ·exact h
 ·exact(j.jd.hd k p m h1 h2).o2
 ·have e:=j.jc.ce k _ _ h1 h2;exact(show Yg X.C H T s k p c from e).o2
def fK(X:Cs):Sp:=λvs H Q E=>∃wo pl,vs=[.ref wo,.ref pl]/\∃xs T s A M,WT H T/\s≠0/\WJ X H T s A M/\A.wo=wo/\PlO H T A M pl xs/\xs.length<=100/\(M.sw.phase="walk"->M.sw.grey.length<=10000)/\
 ∀H' T' l,jf s H H' T T'->WJ X H' T' s A (aV M xs).2->H' l=some (.lst ((aV M xs).1.map V.int))->H l=none->Q (.ref l) H'
def Jv(X:Cs):Sp:=λvs H Q E=>∃wo p b,vs=[.ref wo,.int p,.int b]/\∃T s A M,WJ0 X H T s A M/\A.wo=wo/\Q (.bl (uB M p b)) H
def uv(X:Cs)(a:AH):Sp:=λvs H Q E=>∃wo z,vs=[.ref wo,.str z]/\∃T s A M,WJ X H T s A M/\A.wo=wo/\(zY M.names z=none->E (.ref a) none H)/\(∀p b,zY M.names z=some (p,b)->Q (if uB M p b=true then .non else .int p) H)
theorem zT(x:AA):oV x=.non\/∃i,oV x=.int i:=by cases x with
 | none=>exact .inl rfl
 | some i=>exact .inr ⟨i,rfl⟩
section
variable {X:Cs}{H H':Hp}{T T':Tg}{s:Nat}{A:Wa}{M:Wm}
theorem WJ0.hpO(j:WJ0 X H T s A M):HpO X.H H A.hp A.ca M.room M.used M.born (A.cs.map pV):=⟨j.jh.oh,j.jh.oc⟩
theorem WJ0.look(j:WJ0 X H T s A M)(x:AA):(cO M x=none/\atO (A.cs.map pV) (oV x)=.non)\/∃i c p,x=some i/\0<=i/\cellAt M i=some c/\M.cells[i.toNat]? =some (some c)/\A.cs[i.toNat]? =some (some p)/\atO (A.cs.map pV) (oV x)=.ref p.1/\Yg X.C H T s i.toNat p c:=by
 cases x with
 | none=>exact .inl ⟨rfl,rfl⟩
 | some i=>
  show(cellAt M i=none/\atO _ (.int i)=_)\/_
  by_cases a:0<=i
  ·cases hc:M.cells[i.toNat]? with
   | none=>
    have hl:A.cs[i.toNat]? =none:=by
     rw[List.getElem?_eq_none_iff]at hc ⊢;rw[j.jc.lc];exact hc
    refine .inl ⟨by unfold cellAt;rw[if_pos a,hc];rfl,?_⟩;show(if 0<=i then _ else _)=_;rw[if_pos a,cF,hl];rfl
   | some y=>cases y with
    | none=>
     refine .inl ⟨by unfold cellAt;rw[if_pos a,hc];rfl,?_⟩;show(if 0<=i then _ else _)=_;rw[if_pos a,cF,j.jc.at0 hc];rfl
    | some c=>
     obtain⟨p,hp,e⟩:=j.jc.at hc;refine .inr ⟨i,c,p,rfl,a,by unfold cellAt;rw[if_pos a,hc];rfl,hc,hp,?_,e⟩;show(if 0<=i then _ else _)=_;rw[if_pos a,cF,hp];rfl
  ·refine .inl ⟨by unfold cellAt;rw[if_neg a],?_⟩;show(if 0<=i then _ else _)=_;rw[if_neg a]
theorem WJ.hpO(j:WJ X H T s A M):HpO X.H H A.hp A.ca M.room M.used M.born (A.cs.map pV):=j.w0.hpO
theorem WJ.look(j:WJ X H T s A M)(x:AA):(cO M x=none/\atO (A.cs.map pV) (oV x)=.non)\/∃i c p,x=some i/\0<=i/\cellAt M i=some c/\M.cells[i.toNat]? =some (some c)/\A.cs[i.toNat]? =some (some p)/\atO (A.cs.map pV) (oV x)=.ref p.1/\Yg X.C H T s i.toNat p c:=j.w0.look x
theorem WJ.hand(j:WJ X H T s A M){k:Nat}{p:AH×AH}(hp:A.hs[k]? =some p):∃m,M.hands[k]? =some m/\HdO X.D H T s k p m:=by
 have hl:k<M.hands.length:=by rw[<- j.jd.lh];exact(dY hp).1
 exact⟨_,bM hl,j.jd.hd k p _ hp (bM hl)⟩
theorem WJ.handOf(j:WJ X H T s A M){h t:Nat}(o:Dm M h t):∃p m,A.hs[h]? =some p/\M.hands[h]? =some m/\m.2[t]? =some (aX M h t)/\t<m.2.length/\HdO X.D H T s h p m:=by
 obtain⟨m,hm,hk,hl⟩:=Zey o;have hh:h<A.hs.length:=by rw[j.jd.lh];exact(dY hm).1
 exact⟨_,m,bM hh,hm,hk,hl,j.jd.hd h _ m (bM hh) hm⟩
theorem WJ.fresh(j:WJ X H T s A M){l:AH}{o:HO}{v:Nat×Nat}(h:H l=none):WJ X (upd H l o) (ji T l v) s A M:=
 j.mv (H':=upd H l o) (T':=ji T l v) ⟨λb u e _ _=>by rw[aC (aD e h)];exact e,λb u e=>jg (aD e h)⟩ λb u e _=>by rw[aC (aD e h)];exact e
end
theorem ZC7{t:Int}(h:0<=t/\t<4):Builtin.bitAnd t 1=t % 2/\(Builtin.bitAnd t 2=0↔¬ t / 2 % 2=1):=by
 have:t=0\/t=1\/t=2\/t=3:=by omega
 rcases this with rfl | rfl | rfl | rfl<;>decide
section
variable {K:aB}{X:Cs}{H:Hp}{Q:VK}{E:XK}{n:St->Hp->Prop}{bk ct:St->Hp->Prop}
theorem Zkr{hp:AH}{pl:V}(T:qm K X)(q:(pl=.non\/∃i,pl=.int i)/\∃ca room used born cs,HpO X.H H hp ca room used born cs/\Q (atO cs pl) H):Jl K ⟨n,Q,bk,ct⟩ [some (.ref hp),some pl] H:=by
 obtain⟨a,ca,room,used,born,cs,⟨⟨b,h1⟩,h2⟩,q⟩:=q;unfold Jl;rcases a with rfl | ⟨i,rfl⟩
 ·walk_at"e";exact q
 ·walk_at"e";refine uY (λz=>?_) (λz=>?_)
  ·walk_at"e";rw[show atO cs (.int i)=.non from if_neg (by omega)]at q;exact q
  ·rw[show atO cs (.int i)=(cs[i.toNat]?).getD .non from if_pos (by omega)]at q;walk_at"e";refine aH h1 T.c.cR T.c.bN bW ?_;walk_at"e";refine jC (cB.of h2) ?_;walk_at"e";refine uY (λy=>?_) (λy=>?_)
   ·walk_at"e";rw[List.getElem?_eq_none_iff.mpr (by omega)]at q;exact q
   ·walk_at"e";refine aH h1 T.c.cR T.c.bN bW ?_;walk_at"e";have hl:i.toNat<cs.length:=by omega
    refine je (cB.of h2) (rN (by omega) (bM hl)) ?_;rw[bM hl]at q;exact q
theorem Zgn{hp:AH}{pl:V}(T:qm K X)(q:∃x,pl=oV x/\∃T s A M,WJ X H T s A M/\A.hp=hp/\Q (oV (wW M x)) H):Et K (d9 X.H) ⟨n,Q,bk,ct⟩ [some (.ref hp),some pl,none] H:=by
 obtain⟨x,rfl,Tg,s,A,M,j,rfl,q⟩:=q;unfold Et;walk_at"e";refine⟨_,_,rfl,zT x,_,_,_,_,_,j.hpO,?_⟩;rcases j.look x with ⟨d,a⟩ | ⟨i,c,p,rfl,f,b,_,_,a,⟨t1,t2,⟨e,o1⟩,o2⟩⟩
 ·rw[a];have:wW M x=none:=by
   cases x with
   | none=>rfl
   | some i=>show(cellAt M i).map _=none;rw[show cellAt M i=none from d];rfl
  rw[this]at q;walk_at"e";exact q
 ·rw[a];have:wW M (some i)=some c.birth:=by show(cellAt M i).map _=_;rw[b];rfl
  rw[this]at q;walk_at"e";refine aH o1 T.c.di T.c.dX ir ?_;exact q
theorem Lz{p:AH}{f:Int}(T:qm K X)(q:∃T s i q c,Yg X.C H T s i q c/\q.1=p/\Q (.bl (decide (0<=f) && decide (f<c.fl.length))) H):qZ K ⟨n,Q,bk,ct⟩ [some (.ref p),some (.int f)] H:=by
 obtain⟨Tg,s,i,r,c,⟨t1,t2,⟨a,o1⟩,o2⟩,rfl,q⟩:=q;unfold qZ;walk_at"e";refine uY (λz=>?_) (λz=>?_)
 ·rw[decide_eq_true z,Bool.true_and]at q;walk_at"e";refine aH o1 T.c.di T.c.fc lV ?_;walk_at"e";refine jC (cB.of o2) ?_;walk_at"e";rw[aY];exact q
 ·rw[decide_eq_false z,Bool.false_and]at q;walk_at"e";exact q
theorem Ze6{wo:AH}{h:Int}(T:qm K X)(q:∃T s A M k p,WJ X H T s A M/\A.wo=wo/\h=((k:Nat):Int)/\A.hs[k]? =some p/\Q (.ref p.2) H):Eo K ⟨n,Q,bk,ct⟩ [some (.ref wo),some (.int h)] H:=by
 obtain⟨Tg,s,A,M,k,p,j,rfl,rfl,hp,q⟩:=q;obtain⟨b,ow⟩:=j.jb.ow;obtain⟨m,hm,⟨t1,t2,⟨a,o1⟩,o2⟩⟩:=j.hand hp;unfold Eo;walk_at"e";refine aH ow T.cW T.nWd dZ ?_;walk_at"e";refine je (cB.of j.jb.on) (iu (v:=.ref p.1) (by rw[cF,hp];rfl)) ?_;refine aH o1 T.cD T.nDs rJ ?_;exact q
theorem Zch{wo p:AH}(T:qm K X)(q:∃T s A M i q c,WJ0 X H T s A M/\A.wo=wo/\Yg X.C H T s i q c/\q.1=p/\Q (.bl (decide (c.tone=M.sw.sense))) H):Be K ⟨n,Q,bk,ct⟩ [some (.ref wo),some (.ref p)] H:=by
 obtain⟨Tg,s,A,M,i,r,c,j,rfl,⟨t1,t2,⟨a,o1⟩,o2⟩,rfl,q⟩:=q;obtain⟨b,ow⟩:=j.jb.ow;obtain⟨d,os⟩:=j.js.os;unfold Be;walk_at"e";refine aH o1 T.c.di T.c.mX XJ ?_;walk_at"e";refine aH ow T.cW T.Rr bx ?_;walk_at"e";refine aH os T.cS T.n1 nU ?_;walk_at"e";exact q
end
theorem Zkw{y:Int}:Builtin.bitAnd y 1=y % 2:=by
 unfold Builtin.bitAnd
 by_cases h:0<=y
 ·rw[decide_eq_true h,decide_eq_true (show(0:Int)<=1 by decide)];show((y.toNat &&& 1:Nat):Int)=_;rw[Nat.and_one_is_mod];omega
 ·rw[decide_eq_false h,decide_eq_true (show(0:Int)<=1 by decide)];show(1:Int) - ((1 &&& (Builtin.bitNot y).toNat:Nat):Int)=_;rw[Nat.and_comm,Nat.and_one_is_mod];unfold Builtin.bitNot;omega
section
variable {K:aB}{X:Cs}{H:Hp}{Q:VK}{E:XK}{n:St->Hp->Prop}{bk ct:St->Hp->Prop}{CE CF CN:AH}
theorem Zbn{wo:AH}{h:Int}(T:qm K X)(q:∃T s A M k,WJ X H T s A M/\A.wo=wo/\h=((k:Nat):Int)/\Q (.bl (dH M k)) H):Bd K ⟨n,Q,bk,ct⟩ [some (.ref wo),some (.int h)] H:=by
 obtain⟨Tg,s,A,M,k,j,rfl,rfl,q⟩:=q;obtain⟨b,ow⟩:=j.jb.ow;obtain⟨a,os⟩:=j.js.os;unfold Bd;walk_at"e";refine aH ow T.cW T.Rr bx ?_;walk_at"e";refine aH os T.cS T.n4 gn ?_;walk_at"e";rw[Zkw,Int.toNat_natCast];exact q
theorem R0{wo:AH}{v:V}(T:qm K X)(q:∃T s A M,WJ X H T s A M/\A.wo=wo/\(0<=M.tells/\M.tells<4)/\∀l,H l=none->Q (.ref l) (upd H l (.lst (if old? M=true then [v]else [])))):
  vP K ⟨n,Q,bk,ct⟩ [some (.ref wo),some v] H:=by
 obtain⟨Tg,s,A,M,j,rfl,a,q⟩:=q;obtain⟨c,ow⟩:=j.jb.ow;obtain⟨d,ok⟩:=j.jb.ok;obtain⟨b,_⟩:=ZC7 a;unfold vP;walk_at"e";refine aH ow T.cW T.nWk mL ?_;walk_at"e";refine aH ok T.cK T.nKt Gg ?_;walk_at"e";rw[b];refine uY (λz=>?_) (λz=>?_)
 ·walk_at"e";refine⟨aR (by simp),λl hl=>?_⟩;have:=q l hl;rw[if_neg (by unfold old?;rw[decide_eq_true_iff];omega)]at this;exact this
 ·walk_at"e";refine⟨aR (by simp),λl hl=>?_⟩;have:=q l hl;rw[if_pos (by unfold old?;rw[decide_eq_true_iff];omega)]at this;exact this
theorem R1{wo:AH}{h:Int}{v:V}(T:qm K X)(q:∃T s A M k,WJ X H T s A M/\A.wo=wo/\(0<=M.tells/\M.tells<4)/\h=((k:Nat):Int)/\∀l,H l=none->Q (.ref l) (upd H l (.lst (if (tL M && !dH M k)=true then [v]else [])))):
  vQ K (o8 X) ⟨n,Q,bk,ct⟩ [some (.ref wo),some (.int h),some v] H:=by
 obtain⟨Tg,s,A,M,k,j,rfl,b,rfl,q⟩:=q;obtain⟨c,ow⟩:=j.jb.ow;obtain⟨d,ok⟩:=j.jb.ok;obtain⟨_,a⟩:=ZC7 b;unfold vQ;walk_at"e";refine aH ow T.cW T.nWk mL ?_;walk_at"e";refine aH ok T.cK T.nKt Gg ?_;walk_at"e";refine uY (λz=>?_) (λz=>?_)
 ·walk_at"e";refine⟨aR (by simp),λl hl=>?_⟩;have:=q l hl;have e:tL M=false:=by unfold tL;exact decide_eq_false (a.mp z)
  rw[e,Bool.false_and,if_neg (by decide)]at this;exact this
 ·have e:tL M=true:=by unfold tL;exact decide_eq_true (Decidable.not_not.mp λw=>z (a.mpr w))
  rw[e,Bool.true_and]at q;walk_at"e";refine⟨_,_,rfl,Tg,s,A,M,k,j,rfl,rfl,?_⟩;cases hl:dH M k with
  | true=>
   rw[hl]at q;walk_at"e";refine⟨aR (by simp),λl hl=>?_⟩;exact q l hl
  | false=>
   rw[hl]at q;walk_at"e";refine⟨aR (by simp),λl hl=>?_⟩;exact q l hl
theorem Zkq{wo:AH}{h t:Int}(T:qm K X)(q:∃T s A M hn tn,WJ X H T s A M/\A.wo=wo/\h=((hn:Nat):Int)/\t=((tn:Nat):Int)/\Dm M hn tn/\
 (cO M (aX M hn tn)=none->E (.ref CE) none H)/\
 (∀i c p,aX M hn tn=some i->0<=i->cellAt M i=some c->A.cs[i.toNat]? =some (some p)->Yg X.C H T s i.toNat p c->Q (.ref p.1) H)):
  Jk K CE (d9 X.H) (cu X) E ⟨n,Q,bk,ct⟩ [some (.ref wo),some (.int h),some (.int t),none] H:=by
 obtain⟨Tg,s,A,M,hn,tn,j,rfl,rfl,rfl,ok,f,k⟩:=q;obtain⟨r,ow⟩:=j.jb.ow;obtain⟨p,m,hp,hm,hs,hl,⟨t1,t2,o1,o2⟩⟩:=j.handOf ok;unfold Jk;walk_at"e";refine aH ow T.cW T.PX bF ?_;walk_at"e";refine⟨_,_,rfl,Tg,s,A,M,hn,p,j,rfl,rfl,hp,?_⟩;walk_at"e";refine je (cB.of o2) (iu (v:=oV (aX M hn tn)) (by rw[cF,hs];rfl)) ?_;walk_at"e";refine⟨_,_,rfl,zT _,_,_,_,_,_,j.hpO,?_⟩;rcases j.look (aX M hn tn)with ⟨g,a⟩ | ⟨i,c,e,l,o,d,_,b,a,ce⟩
 ·rw[a];walk_at"e";exact⟨by decide,f g⟩
 ·rw[a];walk_at"e";exact k i c e l o d b ce
theorem Zck{wo:AH}{h t f:Int}(T:qm K X)(q:∃T s A M hn tn fn,WJ X H T s A M/\A.wo=wo/\h=((hn:Nat):Int)/\t=((tn:Nat):Int)/\f=((fn:Nat):Int)/\Dm M hn tn/\
 (cO M (aX M hn tn)=none->E (.ref CE) none H)/\
 (∀i c,aX M hn tn=some i->0<=i->cellAt M i=some c->c.fl[fn]? =none->E (.ref CF) none H)/\
 (∀i c p,aX M hn tn=some i->0<=i->cellAt M i=some c->A.cs[i.toNat]? =some (some p)->Yg X.C H T s i.toNat p c->fn<c.fl.length->Q (.ref p.2) H)):
  Bf K X.C CF (xY X) (lq X CE) E ⟨n,Q,bk,ct⟩ [some (.ref wo),some (.int h),some (.int t),some (.int f),none] H:=by
 obtain⟨Tg,s,A,M,hn,tn,fn,j,rfl,rfl,rfl,rfl,ok,g,l,k⟩:=q;unfold Bf;walk_at"e";refine⟨_,_,_,rfl,Tg,s,A,M,hn,tn,j,rfl,rfl,rfl,ok,g,λi c p b d a hp ce=>?_⟩;obtain⟨t1,t2,⟨e,o1⟩,o2⟩:=id ce;walk_at"e";refine⟨p.1,e,_,rfl,o1,Ju,?_⟩;walk_at"e";refine⟨_,_,rfl,Tg,s,_,p,c,ce,rfl,?_⟩
 by_cases z:fn<c.fl.length
 ·rw[show(decide ((0:Int)<=(fn:Int)) && decide ((fn:Int)<c.fl.length))=true from by simp;omega];walk_at"e";refine aH o1 T.c.di T.c.fc lV ?_;exact k i c p b d a hp ce z
 ·rw[show(decide ((0:Int)<=(fn:Int)) && decide ((fn:Int)<c.fl.length))=false from by simp;omega];walk_at"e";exact⟨by decide,l i c b d a (List.getElem?_eq_none_iff.mpr (by omega))⟩
theorem Zvq{wo:AH}{pl b:Int}(T:qm K X)(q:∃T s A M,WJ0 X H T s A M/\A.wo=wo/\Q (.bl (uB M pl b)) H):Zam K (d9 X.H) (cQ X) ⟨n,Q,bk,ct⟩ [some (.ref wo),some (.int pl),some (.int b),none] H:=by
 obtain⟨Tg,s,A,M,j,rfl,q⟩:=q;obtain⟨h,ow⟩:=j.jb.ow;obtain⟨k,os⟩:=j.js.os;unfold Zam;walk_at"e";refine aH ow T.cW T.PX bF ?_;walk_at"e";refine⟨_,_,rfl,zT (some pl),_,_,_,_,_,j.hpO,?_⟩;unfold uB at q;rcases j.look (some pl)with ⟨f,a⟩ | ⟨i,c,p,e,l,d,_,hp,a,ce⟩
 ·rw[show atO (A.cs.map pV) (.int pl)=.non from a];rw[show cellAt M pl=none from f]at q;walk_at"e";exact q
 ·cases e;rw[show atO (A.cs.map pV) (.int pl)=.ref p.1 from a];rw[d]at q;dsimp only at q;obtain⟨t1,t2,⟨g,o1⟩,o2⟩:=id ce;walk_at"e";refine aH o1 T.c.di T.c.dX ir ?_;walk_at"e";refine zX (λz=>?_) (λz=>?_)
  ·rw[if_neg z]at q;walk_at"e";exact q
  ·rw[if_pos z]at q;walk_at"e";refine aH ow T.cW T.Rr bx ?_;walk_at"e";refine aH os T.cS T.n2 fX ?_;walk_at"e";refine uY (λy=>?_) (λy=>?_)
   ·walk_at"e";refine⟨_,_,rfl,Tg,s,A,M,_,p,c,j,rfl,ce,rfl,?_⟩;walk_at"e";have:decide (M.sw.phase="give"/\c.tone≠M.sw.sense)=!decide (c.tone=M.sw.sense):=by simp[y]
    rw[this]at q;exact q
   ·have:decide (M.sw.phase="give"/\c.tone≠M.sw.sense)=false:=decide_eq_false λw=>y w.1;rw[this]at q;exact q
theorem Zul{wo:AH}{pl:V}(T:qm K X)(q:∃x,pl=oV x/\∃T s A M,WT H T/\s≠0/\WJ X H T s A M/\A.wo=wo/\(M.sw.phase="walk"->M.sw.grey.length<=20000)/\
 ∀H',jf s H H' T T->WJ X H' T s A (bT M x).2->Q (oV (bT M x).1) H'):Zak K (d9 X.H) (cQ X) ⟨n,Q,bk,ct⟩ [some (.ref wo),some pl,none,none] H:=by
 obtain⟨x,rfl,Tg,s,A,M,w,v,j,rfl,D,q⟩:=q;obtain⟨O,ow⟩:=j.jb.ow;obtain⟨S,os⟩:=j.js.os;unfold Zak;walk_at"e";refine aH ow T.cW T.Rr bx ?_;walk_at"e";refine aH ow T.cW T.PX bF ?_;walk_at"e";refine⟨_,_,rfl,zT x,_,_,_,_,_,j.hpO,?_⟩;walk_at"e";refine aH os T.cS T.n2 fX ?_;walk_at"e";have stay:bT M x=(none,M)->Q .non H:=λe=>by
  have:=q H (jf.refl w);rw[e]at this;exact this j
 refine zX (λz=>?_) (λz=>?_)
 ·walk_at"e";exact stay (Zj9 z x)
 ·rcases j.look x with ⟨N,k⟩ | ⟨i,c,p,rfl,W,t,hc,hp,k,ce⟩
  ·rw[k];walk_at"e";refine stay ?_;cases x with
   | none=>rfl
   | some i=>unfold bT;dsimp only;rw[show cellAt M i=none from N]
  ·rw[k];obtain⟨t1,t2,⟨dx,o1⟩,o2⟩:=id ce;walk_at"e";refine⟨_,_,rfl,Tg,s,A,M,_,p,c,j.w0,rfl,ce,rfl,?_⟩
   by_cases y:c.tone=M.sw.sense
   ·rw[decide_eq_true y];walk_at"e";refine stay ?_;unfold bT;dsimp only;rw[t];dsimp only;rw[if_neg λw=>w.2 y]
   ·rw[decide_eq_false y];have E:bT M (some i)=(some c.birth,{ setCell M i { c with tone:=M.sw.sense }with sw:={ M.sw with grey:=M.sw.grey++[i] } }):=by
     unfold bT;dsimp only;rw[t];dsimp only;rw[if_pos ⟨z,y⟩]
    rw[E]at q;walk_at"e";refine aH os T.cS T.n1 nU ?_;walk_at"e";refine⟨p.1,X.C,dx,_,rfl,o1,T.c.di,T.c.mX,by show 5<1000;decide,?_⟩;rw[Vi];obtain⟨a,b⟩:=j.cell w v (dx:=dx) (tone:=M.sw.sense) (load:=c.load) hp ce;generalize upd H p.1 (.ins X.C dx (oM c.birth c.bulk M.sw.sense c.load p.2))=u at a b ⊢;obtain⟨U,m⟩:=b.js.os;obtain⟨R,h,I⟩:=b.jc.at (i:=i.toNat) (c:={ c with tone:=M.sw.sense,load:=c.load }) (by rw[List.getElem?_set_self (dY hc).1]);rw[hp]at h;cases h;walk_at"e";refine aH m T.cS T.n3 lC ?_;walk_at"e";have o:=D z;refine⟨.inl ⟨rfl,_,cB.of b.js.og⟩,?_⟩;walk_at"e";refine⟨_,_,_,rfl,rfl,b.js.og,?_,?_⟩
    ·rw[aY];exact Nat.lt_of_le_of_lt o (by decide)
    obtain⟨d,r⟩:=b.Zwq a.wt v (g:=M.sw.grey++[i]);have J:(M.sw.grey.map V.int++[V.int i])=(M.sw.grey++[i]).map V.int:=by rw[List.map_append];rfl
    show bG _ _ _ (upd u A.gr (.lst (M.sw.grey.map V.int++[oV (some i)])));rw[show(M.sw.grey.map V.int++[oV (some i)])=(M.sw.grey++[i]).map V.int from J];generalize upd u A.gr (.lst ((M.sw.grey++[i]).map V.int))=F at d r ⊢;obtain⟨P,f,l⟩:=r.jc.at (i:=i.toNat) (c:={ c with tone:=M.sw.sense,load:=c.load }) (by show(M.cells.set _ _)[_]? =_;rw[List.getElem?_set_self (dY hc).1]);rw[hp]at f;cases f;obtain⟨_,_,⟨B,L⟩,_⟩:=l;walk_at"e";refine aH L T.c.di T.c.dX ir ?_;exact q F (a.trans d) r
theorem Zy3{Tg:Tg}{z:Str}:∀{ns:AE}{names:List (Str×(Int×Int))},Al (NmO H Tg) ns names->(zY names z=none/\oN (Dk names ns) (Sum.inr z)=none)\/∃p b t,zY names z=some (p,b)/\oN (Dk names ns) (Sum.inr z)=some (.ref t)/\H t=some (.tup [.int p,.int b])/\Tg t=(0,0):=by
 intro ns names h
 induction h with
 | nil=>exact .inl ⟨rfl,rfl⟩
 | @cons t m ns names h1 _ a=>
  by_cases e:m.1=z
  ·refine .inr ⟨m.2.1,m.2.2,t,?_,?_,h1.2,h1.1⟩
   ·unfold zY;rw[List.find?_cons_of_pos (by simpa using e)];rfl
   ·show(List.find? _ ((Sum.inr m.1,V.ref t)::Dk names ns)).map _=_;rw[List.find?_cons_of_pos (by simpa using e)];rfl
  ·have g:zY (m::names) z=zY names z:=by unfold zY;rw[List.find?_cons_of_neg (by simpa using e)]
   have v:oN (Dk (m::names) (t::ns)) (Sum.inr z)=oN (Dk names ns) (Sum.inr z):=by
    show(List.find? _ ((Sum.inr m.1,V.ref t)::Dk names ns)).map _=_;rw[List.find?_cons_of_neg (by simpa using e)];rfl
   rw[g,v];exact a
theorem Tj{wo:AH}{z:Str}(T:qm K X)(q:∃T s A M,WJ X H T s A M/\A.wo=wo/\(zY M.names z=none->E (.ref CN) none H)/\(∀p b,zY M.names z=some (p,b)->Q (if uB M p b=true then .non else .int p) H)):
  vR K CN (Jv X) E ⟨n,Q,bk,ct⟩ [some (.ref wo),some (.str z),none,none] H:=by
 obtain⟨Tg,s,A,M,j,rfl,f,g⟩:=q;obtain⟨h,ow⟩:=j.jb.ow;obtain⟨tm,om,nms⟩:=j.jn;unfold vR;walk_at"e";refine aH ow T.cW T.nWn nQ ?_;refine⟨_,_,rfl,Zsj om,?_⟩;rcases Zy3 (z:=z) nms with ⟨c,a⟩ | ⟨p,b,t,c,a,e,_⟩
 ·rw[a];walk_at"e";exact⟨by decide,f c⟩
 ·rw[a,show(!(some (V.ref t)).isSome)=false from rfl];walk_at"e";refine aH ow T.cW T.nWn nQ ?_;walk_at"e";refine⟨_,_,rfl,by have:=Zsj (z:=z) om;rw[a]at this;exact this,?_⟩;walk_at"e";refine⟨t,_,0,_,rfl,rfl,gw.of e,rfl,?_⟩;walk_at"e";refine aH ow T.cW T.nWn nQ ?_;walk_at"e";refine⟨_,_,rfl,by have:=Zsj (z:=z) om;rw[a]at this;exact this,?_⟩;walk_at"e";refine⟨t,_,1,_,rfl,rfl,gw.of e,rfl,?_⟩;walk_at"e";refine⟨_,_,_,rfl,Tg,s,A,M,j.w0,rfl,?_⟩;have:=g p b c;cases d:uB M p b with
  | true=>
   rw[d]at this;walk_at"e";exact this
  | false=>
   rw[d]at this;walk_at"e";exact this
theorem jf.new{s:Nat}{H a:Hp}{T c:Tg}{l:AH}{o d:HO}(e:jf s H a T c)(hl:H l=none)(hx:a l=some d):jf s H (upd a l o) T c where
 kp:=λb u h z=>by rw[aC (aD h hl)];exact e.kp b u h z
 al:=λb u h=>by rw[aC (aD h hl)];exact e.al b u h
 tg:=e.tg
 wt:=λb h=>e.wt b (by
  by_cases z:b=l
  ·rw[z,aq]at h;cases h
  ·rw[aC z]at h;exact h)
theorem jf.fresh{s:Nat}{H:Hp}{T:Tg}{l:AH}{o:HO}{v:Nat×Nat}(w:WT H T)(hl:H l=none):jf s H (upd H l o) T (ji T l v) where
 kp:=λb u h z=>by rw[aC (aD h hl)];exact h
 al:=λb u h=>⟨u,by rw[aC (aD h hl)];exact h⟩
 tg:=λb u h=>jg (aD h hl)
 wt:=λb h=>by
  by_cases z:b=l
  ·rw[z,aq]at h;cases h
  ·rw[aC z]at h;rw[jg z];exact w b h
theorem Zja{M:Wm}{x:AA}:(bT M x).2.sw.phase=M.sw.phase/\(bT M x).2.sw.grey.length<=M.sw.grey.length+1/\(bT M x).2.tells=M.tells/\(bT M x).2.names=M.names:=by
 cases x with
 | none=>exact⟨rfl,Nat.le_succ _,rfl,rfl⟩
 | some i=>
  unfold bT;dsimp only;cases cellAt M i with
  | none=>exact⟨rfl,Nat.le_succ _,rfl,rfl⟩
  | some c=>
   dsimp only
   by_cases z:M.sw.phase="walk"/\c.tone≠M.sw.sense
   ·rw[if_pos z];exact⟨rfl,by show(M.sw.grey++[i]).length<=_;rw[List.length_append];exact Nat.le_refl _,rfl,rfl⟩
   ·rw[if_neg z];exact⟨rfl,Nat.le_succ _,rfl,rfl⟩
theorem PN{M:Wm}{x:AA}:(bT M x).2.hands=M.hands:=by
 cases x with
 | none=>rfl
 | some i=>
  unfold bT;dsimp only;cases cellAt M i with
  | none=>rfl
  | some c=>
   dsimp only;split<;>rfl
theorem Zjb{M:Wm}{x:AA}{k:Nat}{c:Ce}(h:M.cells[k]? =some (some c)):∃c',(bT M x).2.cells[k]? =some (some c')/\c'.fl=c.fl/\c'.birth=c.birth/\c'.bulk=c.bulk/\c'.load=c.load:=by
 cases x with
 | none=>exact⟨c,h,rfl,rfl,rfl,rfl⟩
 | some i=>
  unfold bT;dsimp only;cases hc:cellAt M i with
  | none=>exact⟨c,h,rfl,rfl,rfl,rfl⟩
  | some d=>
   dsimp only;split
   ·show ∃c',(M.cells.set i.toNat _)[k]? =_/\_
    by_cases z:i.toNat=k
    ·subst z;obtain⟨_,hd⟩:=dm.mp hc;rw[h]at hd;cases hd;exact⟨_,List.getElem?_set_self (dY h).1,rfl,rfl,rfl,rfl⟩
    ·rw[List.getElem?_set_ne z];exact⟨c,h,rfl,rfl,rfl,rfl⟩
   ·exact⟨c,h,rfl,rfl,rfl,rfl⟩
theorem mD:∀{l:Au}{M:Wm}{x:AA},aV M (l++[x])=((aV M l).1++ofN (bT (aV M l).2 x).1,(bT (aV M l).2 x).2)
 | [],M,x=>by
  show(ofN (bT M x).1++[],(bT M x).2)=([]++ofN (bT M x).1,(bT M x).2);rw[List.append_nil,List.nil_append]
 | y::l,M,x=>by
  show(ofN (bT M y).1++(aV (bT M y).2 (l++[x])).1,(aV (bT M y).2 (l++[x])).2)=_;rw[mD];show _=((ofN (bT M y).1++(aV (bT M y).2 l).1)++_,_);rw[List.append_assoc];rfl
theorem xN:∀{l:Au}{M:Wm},(aV M l).2.sw.phase=M.sw.phase/\(aV M l).2.sw.grey.length<=M.sw.grey.length+l.length
 | [],M=>⟨rfl,Nat.le_refl _⟩
 | y::l,M=>by
  obtain⟨a,b,_⟩:=Zja (M:=M) (x:=y);obtain⟨c,d⟩:=xN (l:=l) (M:=(bT M y).2);refine⟨c.trans a,?_⟩;show(aV (bT M y).2 l).2.sw.grey.length<=_;rw[List.length_cons];omega
theorem Cg:∀{l:Au}{M:Wm},(aV M l).1.length<=l.length
 | [],M=>Nat.le_refl _
 | y::l,M=>by
  have:=Cg (l:=l) (M:=(bT M y).2);show(ofN (bT M y).1++(aV (bT M y).2 l).1).length<=_;rw[List.length_append,List.length_cons];have:(ofN (bT M y).1).length<=1:=by cases (bT M y).1<;>simp[ofN]
  omega
theorem Zez{wo pl:AH}(T:qm K X)(q:∃xs T s A M,WT H T/\s≠0/\WJ X H T s A M/\A.wo=wo/\PlO H T A M pl xs/\xs.length<=100/\(M.sw.phase="walk"->M.sw.grey.length<=10000)/\
 ∀H' T' l,jf s H H' T T'->WJ X H' T' s A (aV M xs).2->H' l=some (.lst ((aV M xs).1.map V.int))->H l=none->Q (.ref l) H'):Ep K (Zdk X) ⟨n,Q,bk,ct⟩ [some (.ref wo),some (.ref pl),none,none,none] H:=by
 obtain⟨xs,Tg,s,A,M,w,s0,j,rfl,F,hx,hg,q⟩:=q;have C:=F.get j;unfold Ep;walk_at"e";refine⟨aR (by simp),λl hl=>?_⟩;have g:pl≠l:=aD C hl;have t:jf s H (upd H l (.lst [])) Tg (ji Tg l (s+1,0)):=jf.fresh w hl;have P:WJ X (upd H l (.lst [])) (ji Tg l (s+1,0)) s A M:=j.fresh hl;have Y:upd H l (.lst []) l=some (.lst []):=aq;have tl:ji Tg l (s+1,0) l=(s+1,0):=iw;have r:PlO (upd H l (.lst [])) (ji Tg l (s+1,0)) A M pl xs:=by
  rcases F with ⟨h1,h2⟩ | h
  ·exact .inl ⟨(aC g).trans h1,(jg g).trans h2⟩
  ·exact .inr h
 have E:upd H l (.lst []) pl=some (.lst (xs.map oV)):=(aC g).trans C;generalize upd H l (.lst [])=H1 at t P Y E r ⊢;generalize ji Tg l (s+1,0)=u at t P tl r;walk_at"e";refine⟨pl,rfl,⟨_,cB.of E⟩,forL (xs.map oV) (λi S o=>∃R O,S=[some (.ref A.wo),some (.ref pl),some (.ref l),R,O]/\jf s H o Tg u/\WJ X o u s A (aV M (xs.take i)).2/\o l=some (.lst ((aV M (xs.take i)).1.map V.int))/\PlO o u A (aV M (xs.take i)).2 pl xs) ⟨_,_,rfl,t,P,Y,r⟩ (λ_ _ _ _ ⟨_,_,_,_,j,_,e⟩=>cB.of (e.get j)) ?_ ?_⟩
 ·rintro i x S o U ⟨R,O,rfl,f,N,J,I⟩;obtain⟨y,hy,rfl⟩:∃y,xs[i]? =some y/\oV y=x:=by
   rw[cF]at U;obtain⟨y,a,b⟩:=Option.map_eq_some_iff.mp U;exact⟨y,a,b⟩
  have il:=(dY hy).1;have v:xs.take (i+1)=xs.take i++[y]:=by
   rw[List.take_add_one,hy];rfl
  obtain⟨gp,gl⟩:=xN (l:=xs.take i) (M:=M);have nl:=Cg (l:=xs.take i) (M:=M);have tk:(xs.take i).length<=100:=by rw[List.length_take];omega
  walk_at"e";refine⟨_,_,rfl,y,rfl,u,s,A,_,f.wt,s0,N,rfl,λz=>?_,λL d W=>?_⟩
  ·have:=hg (gp.symm.trans z);omega
  have D:L l=some (.lst ((aV M (xs.take i)).1.map V.int)):=d.kp _ _ J (by rw[tl];show s+1≠s;omega);have Z:PlO L u A (bT (aV M (xs.take i)).2 y).2 pl xs:=by
   rcases I with ⟨h1,h2⟩ | ⟨k,p,m,h1,h2,h3,h4⟩ | ⟨k,p,c,h1,h2,h3,h4⟩
   ·exact .inl ⟨d.kp _ _ h1 (by rw[h2];exact λz=>s0 z.symm),h2⟩
   ·exact .inr (.inl ⟨k,p,m,h1,by rw[PN];exact h2,h3,h4⟩)
   ·obtain⟨c',e1,e2,_⟩:=Zjb (x:=y) h2;exact .inr (.inr ⟨k,p,c',h1,e1,h3,by rw[e2];exact h4⟩)
  have B:=f.trans d;walk_at"e";cases hn:(bT (aV M (xs.take i)).2 y).1 with
  | none=>
   dsimp only[oV];walk_at"e";refine⟨_,_,rfl,B,?_,?_,by rw[v,mD];exact Z⟩
   ·rw[v,mD];exact W
   ·rw[v,mD];show L l=some (.lst (((aV M (xs.take i)).1++ofN (bT (aV M (xs.take i)).2 y).1).map V.int));rw[hn];show L l=some (.lst (((aV M (xs.take i)).1++[]).map V.int));rw[List.append_nil];exact D
  | some b=>
   dsimp only[oV];walk_at"e";refine⟨.inl ⟨rfl,_,cB.of D⟩,?_⟩;walk_at"e";refine⟨_,_,_,rfl,rfl,D,?_,?_⟩
   ·rw[aY];exact Nat.lt_of_le_of_lt (show _<=100 by omega) (by decide)
   walk_at"e";refine⟨_,_,rfl,jf.new B hl D,?_,?_,?_⟩
   ·rw[v,mD];exact W.other (s':=s+1) (jf.upd d.wt D (by rw[tl])) (by omega) (by omega)
   ·rw[v,mD,aq];show some (HO.lst _)=some (HO.lst (((aV M (xs.take i)).1++ofN (bT (aV M (xs.take i)).2 y).1).map V.int));rw[hn,List.map_append];rfl
   ·rw[v,mD];rcases Z with ⟨h1,h2⟩ | h
    ·exact .inl ⟨by rw[aC g];exact h1,h2⟩
    ·exact .inr h
 ·rintro S o ⟨R,O,rfl,f,N,J,I⟩;walk_at"e";rw[show(xs.map oV).length=xs.length from aY _,List.take_length]at N J;exact q o u l f N J hl
end
theorem sE{M:Wm}{h k:Nat}{x:AA}{m:Str×Au}(hm:M.hands[h]? =some m):{ M with hands:=M.hands.set h (m.1,m.2.set k x) }=setSlot M h k x:=by
 have e:=VR (k:=k) (x:=x) hm;show _={ M with hands:=_ };rw[show(M.hands.modify h λm=>(m.1,m.2.set k x))=M.hands.set h (m.1,m.2.set k x)from e]
def Ol(d:p6):Prop:=∃h s many bulk,d=.make h s many bulk
def YZ(d:p6):Prop:=∃h s t f,d=.get h s t f
def YX(d:p6):Prop:=∃h t f s,d=.put h t f s
def Ou(d:p6):Prop:=∃h s t,d=.copy h s t
def Ot(d:p6):Prop:=∃h s,d=.drop h s
def Oq(d:p6):Prop:=∃h s g t,d=.give h s g t
def GX(d:p6):Prop:=∃h t load,d=.write h t load
def Oj(d:p6):Prop:=∃h t,d=.read h t
def isName(d:p6):Prop:=∃h t word,d=.name h t word
def Oi(d:p6):Prop:=∃h s word,d=.seek h s word
abbrev Gx(X:Cs)(rf:Rf->AH)(P:p6->Prop)(wo dd:AH)(H:Hp)(Q:VK)(E:XK):Prop:=∃T s A M d,P d/\WT H T/\s≠0/\WJ X H T s A M/\A.wo=wo/\H dd=some (.tup (dV d))/\okD M d/\M.cells.length<=900/\(M.sw.phase="walk"->M.sw.grey.length<=10000)/\(0<=M.tells/\M.tells<4)/\M.names.length<=1000/\
 (∀r,zJ M d=.error r->∀H',aW H H'->E (.ref (rf r)) none H')/\
 (∀e M',zJ M d=.ok (e,M')->∀H' T' A' a,jf s H H' T T'->WJ X H' T' s A' M'->A'.wo=wo->EvN H H' a e->Q (.ref a) H')
section
variable {X:Cs}{H Hx:Hp}{T Tx:Tg}{s:Nat}{A Ax:Wa}{M M':Wm}{d:p6}{e:Ev}{wo:AH}{Q:VK}
theorem jf.free{s:Nat}{H Hx:Hp}{T Tx:Tg}{l:AH}(e:jf s H Hx T Tx)(h:Hx l=none):H l=none:=by
 cases z:H l with
 | none=>rfl
 | some o=>obtain⟨b,a⟩:=e.al l o z;rw[h]at a;cases a
theorem ev0(h:∀e M',zJ M d=.ok (e,M')->∀H' T' c a,jf s H H' T T'->WJ X H' T' s c M'->c.wo=wo->EvN H H' a e->Q (.ref a) H')(m:zJ M d=.ok (e,M'))(hn:e.notes=[])(st:jf s H Hx T Tx)(j:WJ X Hx Tx s Ax M')(g:Ax.wo=wo){l a:AH}(hl:Hx l=none)(i:upd Hx l (.lst []) a=none):
  Q (.ref a) (upd (upd Hx l (.lst [])) a (.tup [.str e.word,oV e.thing,.ref l])):=by
 have k:=aK hl (.lst []);have b:=aK i (.tup [.str e.word,oV e.thing,.ref l]);have f:=k.trans b;refine h e M' m _ Tx Ax a (st.trans (jf.same st.wt f)) (j.same f) g ⟨l,jf.free st hl,aq,?_⟩;rw[hn];exact b _ _ aq
theorem ev1{l a:AH}(c:H l=none)(h:∀e M',zJ M d=.ok (e,M')->∀H' T' f a,jf s H H' T T'->WJ X H' T' s f M'->f.wo=wo->EvN H H' a e->Q (.ref a) H')(k:zJ M d=.ok (e,M'))(st:jf s H Hx T Tx)(j:WJ X Hx Tx s Ax M')(g:Ax.wo=wo)(hl:Hx l=some (.lst (e.notes.map V.int)))(i:Hx a=none):
  Q (.ref a) (upd Hx a (.tup [.str e.word,oV e.thing,.ref l])):=by
 have b:=aK i (.tup [.str e.word,oV e.thing,.ref l]);exact h e M' k _ Tx Ax a (st.trans (jf.same st.wt b)) (j.same b) g ⟨l,c,aq,b _ _ hl⟩
end
theorem PL{M:Wm}{i:Int}{c c':Ce}(h:cellAt M i=some c)(hb:c'.birth=c.birth)(x:AA):wW (setCell M i c') x=wW M x:=by
 cases x with
 | none=>rfl
 | some y=>
  obtain⟨a,h1⟩:=dm.mp h;show(cellAt (setCell M i c') y).map _=(cellAt M y).map _
  by_cases e:y=i
  ·subst e;rw[h,show cellAt (setCell M y c') y=some c' from dm.mpr ⟨a,by show(M.cells.set _ _)[_]? =_;rw[List.getElem?_set_self (dY h1).1]⟩];show some c'.birth=some c.birth;rw[hb]
  ·have:cellAt (setCell M i c') y=cellAt M y:=by
    unfold cellAt setCell
    by_cases z:0<=y
    ·rw[if_pos z,if_pos z];show((M.cells.set _ _)[_]?).join=_;rw[List.getElem?_set_ne (by omega)]
    ·rw[if_neg z,if_neg z]
   rw[this]
theorem Zn4{M:Wm}{y:AA}(x:AA):wW (bT M y).2 x=wW M x:=by
 cases y with
 | none=>rfl
 | some i=>
  unfold bT;dsimp only;cases hc:cellAt M i with
  | none=>rfl
  | some c=>
   dsimp only
   by_cases z:M.sw.phase="walk"/\c.tone≠M.sw.sense
   ·rw[if_pos z];have e:=PL (M:=M) (i:=i) (c:=c) (c':={ c with tone:=M.sw.sense }) hc rfl x;cases x with
    | none=>rfl
    | some y=>exact e
   ·rw[if_neg z]
theorem Cj:∀{l:Au}{M:Wm} (x:AA),wW (aV M l).2 x=wW M x
 | [],_,_=>rfl
 | y::l,M,x=>(Cj (l:=l) (M:=(bT M y).2) x).trans (Zn4 x)
theorem Zrh{b:Bool}{x:AA}:(if b=true then [oV x]else [])=(if b=true then [x]else []).map oV:=by cases b<;>rfl
section
variable {K:aB}{X:Cs}{H:Hp}{Q:VK}{E:XK}{n:St->Hp->Prop}{bk ct:St->Hp->Prop}{rf:Rf->AH}
theorem Zkm{wo dd:AH}(T:qm K X)(q:Gx X rf Ou wo dd H Q E):Jj K (cP X) (cu X) ⟨n,Q,bk,ct⟩ [some (.ref wo),some (.ref dd),none,none] H:=by
 obtain⟨Tg,s,A,M,_,⟨h,sl,t,rfl⟩,w,o,j,rfl,od,⟨o1,o2⟩,hc,r,B,hn,z,i⟩:=q;obtain⟨p,m,hp,hm,hs,hl,hd⟩:=j.handOf o2;obtain⟨C,b,_,f⟩:=Zey o1;rw[hm]at b;cases b;unfold Jj;walk_at"e";refine⟨dd,_,1,_,rfl,rfl,gw.of od,rfl,?_⟩;walk_at"e";refine⟨_,_,rfl,Tg,s,A,M,h,p,j,rfl,rfl,hp,?_⟩;walk_at"e";refine⟨dd,_,3,_,rfl,rfl,gw.of od,rfl,?_⟩;refine je (cB.of hd.o2) (iu (v:=oV (aX M h t)) (by rw[cF,hs];rfl)) ?_;walk_at"e";refine⟨dd,_,2,_,rfl,rfl,gw.of od,rfl,?_⟩;refine⟨p.2,_,_,sl,rfl,rfl,hd.o2,uo (by rw[aY];exact f),?_⟩;obtain⟨e,c⟩:=j.slot w o (k:=sl) (x:=aX M h t) hp hm;rw[sE hm]at c;generalize upd H p.2 (.lst ((m.2.map oV).set sl (oV (aX M h t))))=y at e c ⊢;obtain⟨u,ow⟩:=c.jb.ow;walk_at"e";refine aH ow T.cW T.PX bF ?_;walk_at"e";refine⟨_,_,rfl,aX M h t,rfl,Tg,s,A,_,c,rfl,?_⟩;rw[qK];walk_at"e";refine⟨aR (by simp),λl hl=>⟨aR (by simp),λa g=>?_⟩⟩;exact ev0 i (d:=.copy h sl t) rfl rfl e c rfl hl g
theorem Zkl{wo dd:AH}(T:qm K X)(q:Gx X rf Ot wo dd H Q E):Ji K (cP X) (cu X) ⟨n,Q,bk,ct⟩ [some (.ref wo),some (.ref dd),none,none] H:=by
 obtain⟨Tg,s,A,M,_,⟨h,sl,rfl⟩,w,g,j,rfl,od,o1,hc,i,u,hn,t,f⟩:=q;obtain⟨p,m,hp,hm,hs,hl,hd⟩:=j.handOf o1;unfold Ji;walk_at"e";refine⟨dd,_,1,_,rfl,rfl,gw.of od,rfl,?_⟩;walk_at"e";refine⟨_,_,rfl,Tg,s,A,M,h,p,j,rfl,rfl,hp,?_⟩;walk_at"e";refine⟨dd,_,2,_,rfl,rfl,gw.of od,rfl,?_⟩;refine je (cB.of hd.o2) (iu (v:=oV (aX M h sl)) (by rw[cF,hs];rfl)) ?_;walk_at"e";refine⟨dd,_,2,_,rfl,rfl,gw.of od,rfl,?_⟩;refine⟨p.2,_,_,sl,rfl,rfl,hd.o2,uo (by rw[aY];exact hl),?_⟩;obtain⟨c,b⟩:=j.slot w g (k:=sl) (x:=none) hp hm;rw[sE hm]at b;show bG _ _ _ (upd H p.2 (.lst ((m.2.map oV).set sl (oV none))));generalize upd H p.2 (.lst ((m.2.map oV).set sl (oV none)))=r at c b ⊢;obtain⟨o,ow⟩:=b.jb.ow;walk_at"e";refine aH ow T.cW T.PX bF ?_;walk_at"e";refine⟨_,_,rfl,aX M h sl,rfl,Tg,s,A,_,b,rfl,?_⟩;rw[qK];walk_at"e";refine⟨aR (by simp),λl hl=>⟨aR (by simp),λa e=>?_⟩⟩;exact ev0 f (d:=.drop h sl) rfl rfl c b rfl hl e
theorem Zkk{wo dd:AH}(T:qm K X)(q:Gx X rf Oq wo dd H Q E):Jh K (cP X) (fK X) (cu X) (qF X) ⟨n,Q,bk,ct⟩ [some (.ref wo),some (.ref dd),none,none,none,none] H:=by
 obtain⟨Tg,s,A,M,_,⟨h,sl,g,t,rfl⟩,w,C,j,rfl,od,⟨o1,o2⟩,hc,D,S,hn,Z,R⟩:=q;obtain⟨p,m,hp,hm,hs,hl,hd⟩:=j.handOf o1;obtain⟨r,U,f,e,V,y,u⟩:=j.handOf o2;unfold Jh;walk_at"e";refine⟨dd,_,1,_,rfl,rfl,gw.of od,rfl,?_⟩;walk_at"e";refine⟨dd,_,3,_,rfl,rfl,gw.of od,rfl,?_⟩;walk_at"e";refine⟨_,_,rfl,Tg,s,A,M,h,p,j,rfl,rfl,hp,?_⟩;walk_at"e";refine⟨dd,_,2,_,rfl,rfl,gw.of od,rfl,?_⟩;refine je (cB.of hd.o2) (iu (v:=oV (aX M h sl)) (by rw[cF,hs];rfl)) ?_;walk_at"e";refine⟨_,_,rfl,Tg,s,A,M,g,r,j,rfl,rfl,f,?_⟩;walk_at"e";refine⟨dd,_,4,_,rfl,rfl,gw.of od,rfl,?_⟩;refine⟨r.2,_,_,t,rfl,rfl,u.o2,uo (by rw[aY];exact y),?_⟩;obtain⟨b,i⟩:=j.slot w C (k:=t) (x:=aX M h sl) f e;rw[sE e]at i;generalize upd H r.2 (.lst ((U.2.map oV).set t (oV (aX M h sl))))=L at b i ⊢;walk_at"e";refine⟨_,_,_,rfl,Tg,s,A,_,h,i,rfl,S,rfl,λI c=>?_⟩;rw[show(tL (setSlot M g t (aX M h sl)) && !dH (setSlot M g t (aX M h sl)) h)=(tL M && !dH M h)from rfl,Zrh];generalize F:upd L I _=H2;obtain⟨l,P⟩:=nwO c F;walk_at"e";refine⟨_,_,rfl,_,Tg,s,A,_,b.wt.same l,C,i.same l,rfl,.inl ⟨P,b.wt _ c⟩,by cases (tL M && !dH M h)<;>simp,D,λH3 J W B z N o=>?_⟩;obtain⟨Y,ow⟩:=z.jb.ow;walk_at"e";refine aH ow T.cW T.PX bF ?_;walk_at"e";refine⟨_,_,rfl,aX M h sl,rfl,J,s,A,_,z,rfl,?_⟩;rw[Cj,qK];walk_at"e";refine⟨aR (by simp),λa O=>?_⟩;exact ev1 (jf.free b (l.free o)) R (d:=.give h sl g t) rfl (b.trans ((jf.same b.wt l).trans B)) z rfl N O
theorem Zkj{wo dd R:AH}(T:qm K X)(hF:rf .full=R)(q:Gx X rf Ol wo dd H Q E):Jg K X.H (xZ K X.C X.H R) (cP X) (cu X) E ⟨n,Q,bk,ct⟩ [some (.ref wo),some (.ref dd),none,none,none,none] H:=by
 obtain⟨Tg,s,A,M,_,⟨h,sl,f,bulk,rfl⟩,w,s0,j,rfl,od,⟨o1,m0,m1,b0⟩,hc,hg,ht,hn,hE,hQ⟩:=q;obtain⟨p,m,hp,hm,hs,hl,hd⟩:=j.handOf o1;obtain⟨d1,ow⟩:=j.jb.ow;obtain⟨d2,os⟩:=j.js.os;obtain⟨th,tc,⟨F,oh⟩,oc⟩:=j.jh;have hcs:A.cs.length<=900:=by rw[j.jc.lc];exact hc
 unfold Jg;walk_at"e";refine⟨dd,_,1,_,rfl,rfl,gw.of od,rfl,?_⟩;walk_at"e";refine⟨_,_,rfl,Tg,s,A,M,h,p,j,rfl,rfl,hp,?_⟩;walk_at"e";refine⟨dd,_,3,_,rfl,rfl,gw.of od,rfl,?_⟩;walk_at"e";refine⟨dd,_,4,_,rfl,rfl,gw.of od,rfl,?_⟩;walk_at"e";refine aH ow T.cW T.PX bF ?_;refine⟨A.hp,F,_,rfl,oh,Xj,?_⟩;walk_at"e";refine aH ow T.cW T.Rr bx ?_;walk_at"e";refine aH os T.cS T.n1 nU ?_;walk_at"e";refine⟨_,_,_,_,rfl,A.ca,F,_,_,_,_,oh,oc,?_,by rw[aY];omega,m0,m1,λhf H' sm=>?_,λhf S fa J B N W a1 a2 co=>?_⟩
 ·intro y hy;obtain⟨o,ho,rfl⟩:=List.mem_map.mp hy;cases o with
  | none=>exact .inl rfl
  | some g=>
   obtain⟨i,I,L⟩:=List.getElem_of_mem ho;have e:=j.jc.ce i _ _ (bM I) (bM (by rw[<- j.jc.lc];exact I));rw[L]at e;cases v:M.cells[i]'(by rw[<- j.jc.lc];exact I)with
   | none=>rw[v]at e;exact e.elim
   | some c=>
    rw[v]at e;obtain⟨_,_,⟨dx,o1⟩,_⟩:=(show Yg X.C H Tg s i g c from e);exact .inr ⟨g.1,X.C,dx,_,rfl,o1,T.c.di,T.c.RB⟩
 ·rw[<- hF];refine hE .full ?_ H' sm;show(if _ then _ else _)=_;rw[if_neg (by omega)]
 ·obtain⟨⟨dp,Y⟩,U⟩:=co;have O:S≠fa:=rC Y U (λz=>by cases z);obtain⟨T1,r,Z⟩:=j.put w s0 (H':=J) (dx:=F) (used':=M.used+(1+f+bulk)) (p:=S) (fa:=fa) (c:=⟨M.born+1,bulk,M.sw.sense,0,List.replicate f.toNat none⟩)
   (λb o hb n1 n2=>W b o hb (by simp[n1,n2])) a1 a2 B N O ⟨dp,Y⟩ (by rw[U,List.map_replicate];rfl)
  have L:((A.cs.map pV).idxOf V.non:Int)=(mV M.cells:Nat):=by rw[(Zg3 Zq6 A.cs).1,j.jc.fst]
  walk_at"e";rw[L];refine⟨dd,_,2,_,rfl,rfl,gw.of (W _ _ od ?_),rfl,?_⟩
  ·intro z;rcases List.mem_cons.mp z with z | z
   ·rw[z,oh]at od;cases od
   ·rw[List.mem_singleton.mp z,oc]at od;cases od
  have P:=Z.jd.hd h p m hp hm;refine⟨p.2,_,_,sl,rfl,rfl,P.o2,uo (by rw[aY];exact hl),?_⟩;obtain⟨t,u⟩:=Z.slot r.wt s0 (k:=sl) (x:=some (mV M.cells:Nat)) hp hm;rw[sE (M:={ M with used:=M.used+(1+f+bulk),born:=M.born+1,cells:=qL M.cells ⟨M.born+1,bulk,M.sw.sense,0,List.replicate f.toNat none⟩ }) hm]at u;show bG _ _ _ (upd J p.2 (.lst ((m.2.map oV).set sl (oV (some (mV M.cells:Nat))))));generalize upd J p.2 (.lst ((m.2.map oV).set sl (oV (some (mV M.cells:Nat)))))=H2 at t u ⊢;obtain⟨d5,D⟩:=u.jb.ow;walk_at"e";refine aH D T.cW T.PX bF ?_;walk_at"e";refine⟨_,_,rfl,some (mV M.cells:Nat),rfl,T1,s,_,_,u,rfl,?_⟩;rw[qK];rw[show wW { M with used:=M.used+(1+f+bulk),born:=M.born+1,cells:=qL M.cells ⟨M.born+1,bulk,M.sw.sense,0,List.replicate f.toNat none⟩ } (some (mV M.cells:Nat))=some (M.born+1)from by
   show(cellAt _ _).map _=_;rw[Zkt];rfl]
  walk_at"e";refine⟨aR (by simp),λl hl=>⟨aR (by simp),λa ha=>?_⟩⟩;exact ev0 hQ (d:=.make h sl f bulk) (Zgg (by omega)) rfl (r.trans t) u rfl hl ha
end
theorem Zoe{M:Wm}{h s t f:Nat}(e:cO M (aX M h t)=none):zJ M (.get h s t f)=.error .empty:=by
 show(match aX M h t with | none=>_ | some x=>_)=_;cases hs:aX M h t with
 | none=>rfl
 | some x=>
  rw[hs]at e;show(match cellAt M x with | none=>_ | some c=>_)=_;rw[show cellAt M x=none from e]
theorem Zoc{M:Wm}{h s t f:Nat}(e:cO M (aX M h t)=none):zJ M (.put h t f s)=.error .empty:=by
 show(match aX M h t with | none=>_ | some x=>_)=_;cases hs:aX M h t with
 | none=>rfl
 | some x=>
  rw[hs]at e;show(match cellAt M x with | none=>_ | some c=>_)=_;rw[show cellAt M x=none from e]
theorem Zgh{M:Wm}{h t:Nat}{l:Int}(e:cO M (aX M h t)=none):zJ M (.write h t l)=.error .empty:=by
 show(match aX M h t with | none=>_ | some x=>_)=_;cases hs:aX M h t with
 | none=>rfl
 | some x=>
  rw[hs]at e;show(match cellAt M x with | none=>_ | some c=>_)=_;rw[show cellAt M x=none from e]
theorem Zko{M:Wm}{h t:Nat}(e:cO M (aX M h t)=none):zJ M (.read h t)=.error .empty:=by
 show(match aX M h t with | none=>_ | some x=>_)=_;cases hs:aX M h t with
 | none=>rfl
 | some x=>
  rw[hs]at e;show(match cellAt M x with | none=>_ | some c=>_)=_;rw[show cellAt M x=none from e]
theorem Zkp{M:Wm}{h t:Nat}{z:Str}(e:cO M (aX M h t)=none):zJ M (.name h t z)=.error .empty:=by
 show(match aX M h t with | none=>_ | some x=>_)=_;cases hs:aX M h t with
 | none=>rfl
 | some x=>
  rw[hs]at e;show(match cellAt M x with | none=>_ | some c=>_)=_;rw[show cellAt M x=none from e]
theorem Zsh{M:Wm}{h s t f:Nat}{i:Int}{c:Ce}(d:aX M h t=some i)(a:cellAt M i=some c)(b:c.fl[f]? =none):zJ M (.get h s t f)=.error .ud:=by
 show(match aX M h t with | none=>_ | some x=>_)=_;rw[d];show(match cellAt M i with | none=>_ | some c=>_)=_;rw[a];show(match c.fl[f]? with | none=>_ | some v=>_)=_;rw[b]
theorem Zsf{M:Wm}{h s t f:Nat}{i:Int}{c:Ce}(d:aX M h t=some i)(a:cellAt M i=some c)(b:c.fl[f]? =none):zJ M (.put h t f s)=.error .ud:=by
 show(match aX M h t with | none=>_ | some x=>_)=_;rw[d];show(match cellAt M i with | none=>_ | some c=>_)=_;rw[a];show(match c.fl[f]? with | none=>_ | some v=>_)=_;rw[b]
theorem Zsg{M:Wm}{h s t f:Nat}{i:Int}{c:Ce}{v:AA}(d:aX M h t=some i)(a:cellAt M i=some c)(b:c.fl[f]? =some v):zJ M (.get h s t f)=.ok (⟨"got",wW M v,[]⟩,setSlot M h s v):=by
 show(match aX M h t with | none=>_ | some x=>_)=_;rw[d];show(match cellAt M i with | none=>_ | some c=>_)=_;rw[a];show(match c.fl[f]? with | none=>_ | some v=>_)=_;rw[b]
def putL(M:Wm)(h s:Nat)(v:AA):Au:=(if old? M=true then [v]else [])++if (tL M && !dH M h)=true then [aX M h s]else []
theorem Zse{M:Wm}{h s t f:Nat}{i:Int}{c:Ce}{v:AA}(d:aX M h t=some i)(a:cellAt M i=some c)(b:c.fl[f]? =some v):zJ M (.put h t f s)=.ok (⟨"put",wW M v,(aV (setCell M i { c with fl:=c.fl.set f (aX M h s) }) (putL M h s v)).1⟩,(aV (setCell M i { c with fl:=c.fl.set f (aX M h s) }) (putL M h s v)).2):=by
 show(match aX M h t with | none=>_ | some x=>_)=_;rw[d];show(match cellAt M i with | none=>_ | some c=>_)=_;rw[a];show(match c.fl[f]? with | none=>_ | some v=>_)=_;rw[b];rfl
theorem Zkn{M:Wm}{h t:Nat}{l i:Int}{c:Ce}(b:aX M h t=some i)(a:cellAt M i=some c):zJ M (.write h t l)=.ok (⟨"wrote",some c.load,[]⟩,setCell M i { c with load:=l }):=by
 show(match aX M h t with | none=>_ | some x=>_)=_;rw[b];show(match cellAt M i with | none=>_ | some c=>_)=_;rw[a]
theorem Zob{M:Wm}{h t:Nat}{i:Int}{c:Ce}(b:aX M h t=some i)(a:cellAt M i=some c):zJ M (.read h t)=.ok (⟨"read",some c.load,[]⟩,M):=by
 show(match aX M h t with | none=>_ | some x=>_)=_;rw[b];show(match cellAt M i with | none=>_ | some c=>_)=_;rw[a]
theorem Zod{M:Wm}{h t:Nat}{z:Str}{i:Int}{c:Ce}(b:aX M h t=some i)(a:cellAt M i=some c):zJ M (.name h t z)=.ok (⟨"named",some c.birth,[]⟩,{ M with names:=xu M.names z (i,c.birth) }):=by
 show(match aX M h t with | none=>_ | some x=>_)=_;rw[b];show(match cellAt M i with | none=>_ | some c=>_)=_;rw[a]
section
variable {X:Cs}{H H':Hp}{T T':Tg}{s:Nat}{A:Wa}{M:Wm}
theorem Zy2{z:Str}{v:Int×Int}{t:AH}(f:NmO H T t (z,v)):∀{ns:AE}{names:List (Str×(Int×Int))},Al (NmO H T) ns names->(∃b,(Dk names ns).map (λkv=>if kv.1=Sum.inr z then(kv.1,V.ref t)else kv)=Dk (names.map λm=>if m.1=z then(m.1,v)else m) b/\Al (NmO H T) b (names.map λm=>if m.1=z then(m.1,v)else m))/\
  ((Dk names ns).any λkv=>decide (kv.1=Sum.inr z))=(names.any λm=>decide (m.1=z))/\Dk names ns++[(Sum.inr z,V.ref t)]=Dk (names++[(z,v)]) (ns++[t])/\Al (NmO H T) (ns++[t]) (names++[(z,v)]):=by
 intro ns names h
 induction h with
 | nil=>exact⟨⟨[],rfl,.nil⟩,rfl,rfl,.cons f .nil⟩
 | @cons a m ns names h1 _ g=>
  obtain⟨⟨b,d,c⟩,e3,i,j⟩:=g;refine⟨?_,?_,?_,.cons h1 j⟩
  ·by_cases e:m.1=z
   ·refine⟨t::b,?_,?_⟩
    ·show(if (Sum.inr m.1:Int ⊕ Str)=Sum.inr z then _ else _)::_=_;rw[if_pos (by rw[e]),List.map_cons,if_pos e];show _::_=(Sum.inr m.1,V.ref t)::Dk _ b;rw[<- d];rfl
    ·rw[List.map_cons,if_pos e];exact .cons (by rw[e];exact f) c
   ·refine⟨a::b,?_,?_⟩
    ·show(if (Sum.inr m.1:Int ⊕ Str)=Sum.inr z then _ else _)::_=_;rw[if_neg (λw=>e (Sum.inr.inj w)),List.map_cons,if_neg e];show _::_=(Sum.inr m.1,V.ref a)::Dk _ b;rw[<- d];rfl
    ·rw[List.map_cons,if_neg e];exact .cons h1 c
  ·show(decide ((Sum.inr m.1:Int ⊕ Str)=Sum.inr z) || (Dk names ns).any _)=(decide (m.1=z) || names.any _);rw[e3];congr 1
   by_cases e:m.1=z<;>simp[e]
  ·show(Sum.inr m.1,V.ref a)::(Dk names ns++_)=(Sum.inr m.1,V.ref a)::Dk (names++_) (ns++_);rw[i]
theorem Zqh{ns:AE}{names:List (Str×(Int×Int))}(h:Al (NmO H T) ns names):(Dk names ns).length=names.length:=by
 induction h with
 | nil=>rfl
 | @cons a m ns names h1 _ b=>show(_::Dk names ns).length=_;rw[List.length_cons,List.length_cons,b]
theorem WJ.named(j:WJ X H T s A M)(w:WT H T)(k:s≠0){z:Str}{v:Int×Int}{t:AH}(x:NmO H T t (z,v)):∃a,jf s H (upd H A.nm (.dK (putK (Dk M.names A.ns) (Sum.inr z) (.ref t)))) T T/\
  WJ X (upd H A.nm (.dK (putK (Dk M.names A.ns) (Sum.inr z) (.ref t)))) T s { A with ns:=a } { M with names:=xu M.names z v }:=by
 obtain⟨tm,om,nms⟩:=j.jn;obtain⟨⟨n1,r,p⟩,e3,B,C⟩:=Zy2 x nms;have f:zH s (·=6) H (upd H A.nm (.dK (putK (Dk M.names A.ns) (Sum.inr z) (.ref t)))) T T:=zH.FQ tm;have i:∀{ns:AE}{names:List (Str×(Int×Int))},Al (NmO H T) ns names->Al (NmO (upd H A.nm (.dK (putK (Dk M.names A.ns) (Sum.inr z) (.ref t)))) T) ns names:=λh=>h.mono λt m ⟨z1,z2⟩=>⟨z1,qD k tm _ _ z2 z1⟩;have go:∀a,putK (Dk M.names A.ns) (Sum.inr z) (.ref t)=Dk (xu M.names z v) a->Al (NmO H T) a (xu M.names z v)->WJ X (upd H A.nm (.dK (putK (Dk M.names A.ns) (Sum.inr z) (.ref t)))) T s { A with ns:=a } { M with names:=xu M.names z v }:=λa q n=>by
  refine⟨?_,?_,⟨tm,by show upd _ A.nm _ A.nm=_;rw[aq,q],i n⟩,?_,j.jd.mv f λ_ _ _=>by omega,j.jc.mv f λ_ _=>by omega⟩
  ·obtain⟨g,e,d,c,l,u,D,o⟩:=j.jb.mv f (qD k tm) (by omega) (by omega);exact⟨g,e,d,c,l,u,D,o⟩
  ·obtain⟨g,e,d,c⟩:=j.jh.mv f (by omega) (by omega);exact⟨g,e,d,c⟩
  ·obtain⟨g,e,d,c⟩:=j.js.mv f (by omega) (by omega);exact⟨g,e,d,c⟩
 by_cases b:(M.names.any λm=>decide (m.1=z))=true
 ·refine⟨n1,jf.upd w om (by rw[tm]),go n1 ?_ ?_⟩
  ·unfold putK xu;rw[if_pos (e3.trans b),if_pos b,r]
  ·unfold xu;rw[if_pos b];exact p
 ·refine⟨A.ns++[t],jf.upd w om (by rw[tm]),go _ ?_ ?_⟩
  ·unfold putK xu;rw[if_neg (λy=>b (e3.symm.trans y)),if_neg b,B]
  ·unfold xu;rw[if_neg b];exact C
end
section
variable {K:aB}{X:Cs}{H:Hp}{Q:VK}{E:XK}{n:St->Hp->Prop}{bk ct:St->Hp->Prop}{rf:Rf->AH}{CE CF CN:AH}
theorem Zoa{wo dd:AH}(T:qm K X)(y:rf .empty=CE)(u:rf .ud=CF)(q:Gx X rf YZ wo dd H Q E):MT K (cP X) (o9 X CE CF) (cu X) E ⟨n,Q,bk,ct⟩ [some (.ref wo),some (.ref dd),none,none,none,none] H:=by
 obtain⟨Tg,s,A,M,_,⟨h,sl,t,f,rfl⟩,w,I,j,rfl,od,⟨o1,o2⟩,hc,L,R,hn,B,F⟩:=q;obtain⟨p,m,hp,hm,hs,hl,hd⟩:=j.handOf o1;unfold MT;walk_at"e";refine⟨dd,_,1,_,rfl,rfl,gw.of od,rfl,?_⟩;walk_at"e";refine⟨dd,_,3,_,rfl,rfl,gw.of od,rfl,?_⟩;walk_at"e";refine⟨dd,_,4,_,rfl,rfl,gw.of od,rfl,?_⟩;walk_at"e";refine⟨_,_,_,_,rfl,Tg,s,A,M,h,t,f,j,rfl,rfl,rfl,rfl,o2,λe=>?_,λi c z J o r=>?_,λi c P z J o D ce r=>?_⟩
 ·rw[<- y];exact B .empty (Zoe e) H (aW.refl _)
 ·rw[<- u];exact B .ud (Zsh z o r) H (aW.refl _)
 ·have hv:=bM r;walk_at"e";refine je (cB.of ce.o2) (iu (v:=oV (c.fl[f])) (by rw[cF,hv];rfl)) ?_;walk_at"e";refine⟨_,_,rfl,Tg,s,A,M,h,p,j,rfl,rfl,hp,?_⟩;walk_at"e";refine⟨dd,_,2,_,rfl,rfl,gw.of od,rfl,?_⟩;refine⟨p.2,_,_,sl,rfl,rfl,hd.o2,uo (by rw[aY];exact hl),?_⟩;obtain⟨g,b⟩:=j.slot w I (k:=sl) (x:=c.fl[f]) hp hm;rw[sE hm]at b;generalize upd H p.2 (.lst ((m.2.map oV).set sl (oV c.fl[f])))=O at g b ⊢;obtain⟨N,ow⟩:=b.jb.ow;walk_at"e";refine aH ow T.cW T.PX bF ?_;walk_at"e";refine⟨_,_,rfl,c.fl[f],rfl,Tg,s,A,_,b,rfl,?_⟩;rw[qK];walk_at"e";refine⟨aR (by simp),λl hl=>⟨aR (by simp),λa C=>?_⟩⟩;exact ev0 F (d:=.get h sl t f) (Zsg z o hv) rfl g b rfl hl C
theorem Zo9{wo dd:AH}(T:qm K X)(L:rf .empty=CE)(I:rf .ud=CF)(q:Gx X rf YX wo dd H Q E):MP K (cP X) (o9 X CE CF) (fK X) (cu X) (qF X) (CP X) E ⟨n,Q,bk,ct⟩ [some (.ref wo),some (.ref dd),none,none,none,none,none,none] H:=by
 obtain⟨Tg,s,A,M,_,⟨h,t,f,sl,rfl⟩,w,Y,j,rfl,od,⟨o2,o1⟩,hc,hg,ht,hn,W,hQ⟩:=q;obtain⟨p,m,hp,hm,hs,hl,hd⟩:=j.handOf o1;unfold MP;walk_at"e";refine⟨dd,_,1,_,rfl,rfl,gw.of od,rfl,?_⟩;walk_at"e";refine⟨dd,_,3,_,rfl,rfl,gw.of od,rfl,?_⟩;walk_at"e";refine⟨dd,_,2,_,rfl,rfl,gw.of od,rfl,?_⟩;walk_at"e";refine⟨_,_,_,_,rfl,Tg,s,A,M,h,t,f,j,rfl,rfl,rfl,rfl,o2,λe=>?_,λi c N h0 u y=>?_,λi c Z N h0 u F ce y=>?_⟩
 ·rw[<- L];exact W .empty (Zoc e) H (aW.refl _)
 ·rw[<- I];exact W .ud (Zsf N u y) H (aW.refl _)
 ·have hv:=bM y;walk_at"e";refine je (cB.of ce.o2) (iu (v:=oV (c.fl[f])) (by rw[cF,hv];rfl)) ?_;walk_at"e";refine⟨_,_,rfl,Tg,s,A,M,h,p,j,rfl,rfl,hp,?_⟩;walk_at"e";refine⟨dd,_,4,_,rfl,rfl,gw.of od,rfl,?_⟩;refine je (cB.of hd.o2) (iu (v:=oV (aX M h sl)) (by rw[cF,hs];rfl)) ?_;walk_at"e";refine⟨Z.2,_,_,f,rfl,rfl,ce.o2,uo (by rw[aY];exact y),?_⟩;obtain⟨b,l⟩:=j.field w Y (k:=f) (x:=aX M h sl) F ce;have l:WJ X _ Tg s A (setCell M i { c with fl:=c.fl.set f (aX M h sl) }):=l;generalize upd H Z.2 (.lst ((c.fl.map oV).set f (oV (aX M h sl))))=H1 at b l ⊢;walk_at"e";refine⟨_,_,rfl,Tg,s,A,_,l,rfl,ht,λS z=>?_⟩;rw[show old? (setCell M i { c with fl:=c.fl.set f (aX M h sl) })=old? M from rfl,Zrh];generalize o:upd H1 S _=H2;obtain⟨O,g1⟩:=nwO z o;walk_at"e";refine⟨_,_,_,rfl,Tg,s,A,_,h,l.same O,rfl,ht,rfl,λV J=>?_⟩;rw[show(tL (setCell M i { c with fl:=c.fl.set f (aX M h sl) }) && !dH (setCell M i { c with fl:=c.fl.set f (aX M h sl) }) h)=(tL M && !dH M h)from rfl,Zrh];generalize o:upd H2 V _=H3;obtain⟨D,g2⟩:=nwO J o;walk_at"e";refine⟨S,V,_,_,rfl,rfl,D _ _ g1,g2,?_,λU r=>?_⟩
  ·refine aR ?_;cases old? M<;>cases (tL M && !dH M h)<;>simp
  rw[<- List.map_append];generalize o:upd H3 U _=H4;obtain⟨s3,B⟩:=nwO r o;have B:H4 U=some (.lst ((putL M h sl c.fl[f]).map oV)):=B;have g:=O.trans (D.trans s3);walk_at"e";refine⟨_,_,rfl,putL M h sl c.fl[f],Tg,s,A,_,b.wt.same g,Y,l.same g,rfl,.inl ⟨B,(b.wt.same (O.trans D)) _ r⟩,?_,hg,λH5 T5 l5 C R g5 P=>?_⟩
  ·unfold putL;cases old? M<;>cases (tL M && !dH M h)<;>simp
  obtain⟨d1,ow⟩:=R.jb.ow;walk_at"e";refine aH ow T.cW T.PX bF ?_;walk_at"e";refine⟨_,_,rfl,c.fl[f],rfl,T5,s,A,_,R,rfl,?_⟩;rw[Cj,PL (c':={ c with fl:=c.fl.set f (aX M h sl) }) u rfl];walk_at"e";refine⟨aR (by simp),λa ha=>?_⟩;exact ev1 (jf.free b (g.free P)) hQ (d:=.put h t f sl) (Zse N u hv) (b.trans ((jf.same b.wt g).trans C)) R rfl g5 ha
theorem Zgf{wo dd:AH}(T:qm K X)(k:rf .empty=CE)(q:Gx X rf GX wo dd H Q E):Es K (lq X CE) E ⟨n,Q,bk,ct⟩ [some (.ref wo),some (.ref dd),none,none] H:=by
 obtain⟨Tg,s,A,M,_,⟨h,t,load,rfl⟩,w,y,j,rfl,od,o1,hc,B,F,hn,u,x⟩:=q;unfold Es;walk_at"e";refine⟨dd,_,1,_,rfl,rfl,gw.of od,rfl,?_⟩;walk_at"e";refine⟨dd,_,2,_,rfl,rfl,gw.of od,rfl,?_⟩;walk_at"e";refine⟨_,_,_,rfl,Tg,s,A,M,h,t,j,rfl,rfl,rfl,o1,λe=>?_,λi c m z I p g ce=>?_⟩
 ·rw[<- k];exact u .empty (Zgh e) H (aW.refl _)
 ·obtain⟨t1,t2,⟨dx,b⟩,v⟩:=id ce;walk_at"e";refine aH b T.c.di T.c.jU zB ?_;walk_at"e";refine⟨dd,_,3,_,rfl,rfl,gw.of od,rfl,?_⟩;walk_at"e";refine⟨m.1,X.C,dx,_,rfl,b,T.c.di,T.c.jU,by show 5<1000;decide,?_⟩;rw[Vj];obtain⟨f,o⟩:=j.cell w y (dx:=dx) (tone:=c.tone) (load:=load) g ce;generalize upd H m.1 (.ins X.C dx (oM c.birth c.bulk c.tone load m.2))=D at f o ⊢;walk_at"e";refine⟨aR (by simp),λl hl=>⟨aR (by simp),λa r=>?_⟩⟩;exact ev0 x (d:=.write h t load) (Zkn z p) rfl f o rfl hl r
theorem Zkh{wo dd:AH}(T:qm K X)(b:rf .empty=CE)(q:Gx X rf Oj wo dd H Q E):Je K (lq X CE) E ⟨n,Q,bk,ct⟩ [some (.ref wo),some (.ref dd),none] H:=by
 obtain⟨Tg,s,A,M,_,⟨h,t,rfl⟩,w,y,j,rfl,od,o1,hc,v,B,hn,o,r⟩:=q;unfold Je;walk_at"e";refine⟨dd,_,1,_,rfl,rfl,gw.of od,rfl,?_⟩;walk_at"e";refine⟨dd,_,2,_,rfl,rfl,gw.of od,rfl,?_⟩;walk_at"e";refine⟨_,_,_,rfl,Tg,s,A,M,h,t,j,rfl,rfl,rfl,o1,λe=>?_,λi c z u C g m ce=>?_⟩
 ·rw[<- b];exact o .empty (Zko e) H (aW.refl _)
 ·obtain⟨t1,t2,⟨x,f⟩,p⟩:=id ce;walk_at"e";refine aH f T.c.di T.c.jU zB ?_;walk_at"e";refine⟨aR (by simp),λl hl=>⟨aR (by simp),λa k=>?_⟩⟩;exact ev0 r (d:=.read h t) (Zob u g) rfl (jf.refl w) j rfl hl k
theorem Zki{wo dd:AH}(T:qm K X)(r:rf .empty=CE)(q:Gx X rf isName wo dd H Q E):Jf K (lq X CE) (cu X) E ⟨n,Q,bk,ct⟩ [some (.ref wo),some (.ref dd),none,none,none] H:=by
 obtain⟨Tg,s,A,M,_,⟨h,t,z,rfl⟩,w,N,j,rfl,od,o1,hc,R,Y,hn,I,L⟩:=q;obtain⟨p,m,hp,hm,hs,hl,hd⟩:=j.handOf o1;unfold Jf;walk_at"e";refine⟨dd,_,1,_,rfl,rfl,gw.of od,rfl,?_⟩;walk_at"e";refine⟨dd,_,2,_,rfl,rfl,gw.of od,rfl,?_⟩;walk_at"e";refine⟨_,_,_,rfl,Tg,s,A,M,h,t,j,rfl,rfl,rfl,o1,λe=>?_,λi c W x Z B F ce=>?_⟩
 ·rw[<- r];exact I .empty (Zkp e) H (aW.refl _)
 ·obtain⟨t1,t2,⟨S,u⟩,J⟩:=id ce;walk_at"e";refine aH u T.c.di T.c.dX ir ?_;walk_at"e";refine⟨_,_,rfl,Tg,s,A,M,h,p,j,rfl,rfl,hp,?_⟩;walk_at"e";refine je (cB.of hd.o2) (iu (v:=oV (aX M h t)) (by rw[cF,hs];rfl)) ?_;rw[x];walk_at"e";refine⟨aR (by simp),λtp f=>?_⟩;generalize C:upd H tp _=H1;obtain⟨k,o⟩:=nwO f C;have o:H1 tp=some (.tup [.int i,.int c.birth]):=o;have g:=j.same k;have O:=w.same k;obtain⟨U,ow⟩:=g.jb.ow;walk_at"e";refine aH ow T.cW T.nWn nQ ?_;walk_at"e";refine⟨dd,_,3,_,rfl,rfl,gw.of (k _ _ od),rfl,?_⟩;refine⟨_,_,rfl,ZC0 g.jn.om (by rw[Zqh g.jn.nms];exact Nat.lt_of_le_of_lt hn (by decide)),?_⟩;obtain⟨P,b,y⟩:=g.named O N (z:=z) (v:=(i,c.birth)) (t:=tp) ⟨w _ f,o⟩;generalize upd H1 A.nm (.dK (putK (Dk M.names A.ns) (Sum.inr z) (.ref tp)))=V at b y ⊢;walk_at"e";refine⟨aR (by simp),λl hl=>⟨aR (by simp),λa D=>?_⟩⟩;exact ev0 L (d:=.name h t z) (Zod x B) rfl ((jf.same w k).trans b) y rfl hl D
theorem Zkg{wo dd:AH}(T:qm K X)(B:rf .Uh=CN)(q:Gx X rf Oi wo dd H Q E):Jc K (cP X) (fK X) (uv X CN) (cu X) E ⟨n,Q,bk,ct⟩ [some (.ref wo),some (.ref dd),none,none] H:=by
 obtain⟨Tg,s,A,M,_,⟨h,sl,z,rfl⟩,w,I,j,rfl,od,o1,hc,J,ht,hn,U,W⟩:=q;obtain⟨p,m,hp,hm,hs,hl,hd⟩:=j.handOf o1;unfold Jc;walk_at"e";refine⟨dd,_,3,_,rfl,rfl,gw.of od,rfl,?_⟩;walk_at"e";refine⟨_,_,rfl,Tg,s,A,M,j,rfl,λe=>?_,λi b e=>?_⟩
 ·rw[<- B];refine U .Uh ?_ H (aW.refl _);show(match zY M.names z with | none=>_ | some (p,b)=>_)=_;rw[e]
 ·let x:AA:=if uB M i b=true then none else some i
  have ex:(if uB M i b=true then V.non else .int i)=oV x:=by
   show _=oV (if _ then _ else _);cases uB M i b<;>rfl
  rw[ex];have O:zJ M (.seek h sl z)=.ok (⟨"sought",wW M x,(aV (setSlot M h sl x) [x]).1⟩,(aV (setSlot M h sl x) [x]).2):=by
   show(match zY M.names z with | none=>_ | some (p,b)=>_)=_;rw[e];dsimp only;cases f:uB M i b with
   | true=>
    have:x=none:=by show(if _ then _ else _)=_;rw[f];rfl
    rw[this];rfl
   | false=>
    have hx:x=some i:=by show(if _ then _ else _)=_;rw[f];rfl
    have:wW M (some i)=some b:=by
     unfold uB at f;show(cellAt M i).map _=_;cases o:cellAt M i with
     | none=>rw[o]at f;cases f
     | some c=>
      rw[o]at f;dsimp only at f
      by_cases y:c.birth=b
      ·rw[<- y];rfl
      ·rw[if_neg y]at f;cases f
    rw[hx,this];rfl
  clear_value x;walk_at"e";refine⟨dd,_,1,_,rfl,rfl,gw.of od,rfl,?_⟩;walk_at"e";refine⟨_,_,rfl,Tg,s,A,M,h,p,j,rfl,rfl,hp,?_⟩;walk_at"e";refine⟨dd,_,2,_,rfl,rfl,gw.of od,rfl,?_⟩;refine⟨p.2,_,_,sl,rfl,rfl,hd.o2,uo (by rw[aY];exact hl),?_⟩;obtain⟨g,v⟩:=j.slot w I (k:=sl) (x:=x) hp hm;rw[sE hm]at v;generalize upd H p.2 (.lst ((m.2.map oV).set sl (oV x)))=P at g v ⊢;walk_at"e";refine⟨aR (by simp),λF l=>?_⟩;generalize L:upd P F _=H2;obtain⟨r,u⟩:=nwO l L;have u:H2 F=some (.lst ([x].map oV)):=u;walk_at"e";refine⟨_,_,rfl,[x],Tg,s,A,_,g.wt.same r,I,v.same r,rfl,.inl ⟨u,g.wt _ l⟩,by simp,J,λH3 N Y D C R t=>?_⟩;obtain⟨Z,ow⟩:=C.jb.ow;walk_at"e";refine aH ow T.cW T.PX bF ?_;walk_at"e";refine⟨_,_,rfl,x,rfl,N,s,A,_,C,rfl,?_⟩;rw[Cj,qK];walk_at"e";refine⟨aR (by simp),λa S=>?_⟩;exact ev1 (jf.free g (r.free t)) W (d:=.seek h sl z) O (g.trans ((jf.same g.wt r).trans D)) C rfl R S
end
section
variable {K:aB}{X:Cs}{H:Hp}{Q:VK}{E:XK}{n:St->Hp->Prop}{bk ct:St->Hp->Prop}{rf:Rf->AH}{f1 f2 f3 f4 f5 f6 f7 f8 f9 f10:AH}
theorem ZC1{wo dd:AH}(T:qm K X)(q:Gx X rf (λ_=>True) wo dd H Q E):
  Zpf K f1 f2 f3 f4 f5 f6 f7 f8 f9 f10 (cC X rf Ou) (cC X rf Ot) (cC X rf YZ) (cC X rf Oq) (cC X rf Ol) (cC X rf isName) (cC X rf YX) (cC X rf Oj) (cC X rf Oi) (cC X rf GX) E ⟨n,Q,bk,ct⟩ [some (.ref wo),some (.ref dd),none] H:=by
 obtain⟨Tg,s,A,M,d,_,w,a,j,rfl,od,r⟩:=q;unfold Zpf;cases d with
 | make h b c bulk=>
  walk_at"e";refine⟨dd,_,0,_,rfl,rfl,gw.of od,rfl,?_⟩;refine⟨_,f5,rfl,rfl,?_⟩;walk_at"e";refine oJ (cC X rf Ol) rfl (by simp) ?_;walk_at"e";exact⟨_,_,rfl,Tg,s,A,M,_,⟨_,_,_,_,rfl⟩,w,a,j,rfl,od,r⟩
 | get h b t f=>
  walk_at"e";refine⟨dd,_,0,_,rfl,rfl,gw.of od,rfl,?_⟩;refine⟨_,f3,rfl,rfl,?_⟩;walk_at"e";refine oJ (cC X rf YZ) rfl (by simp) ?_;walk_at"e";exact⟨_,_,rfl,Tg,s,A,M,_,⟨_,_,_,_,rfl⟩,w,a,j,rfl,od,r⟩
 | put h t f b=>
  walk_at"e";refine⟨dd,_,0,_,rfl,rfl,gw.of od,rfl,?_⟩;refine⟨_,f7,rfl,rfl,?_⟩;walk_at"e";refine oJ (cC X rf YX) rfl (by simp) ?_;walk_at"e";exact⟨_,_,rfl,Tg,s,A,M,_,⟨_,_,_,_,rfl⟩,w,a,j,rfl,od,r⟩
 | copy h b t=>
  walk_at"e";refine⟨dd,_,0,_,rfl,rfl,gw.of od,rfl,?_⟩;refine⟨_,f1,rfl,rfl,?_⟩;walk_at"e";refine oJ (cC X rf Ou) rfl (by simp) ?_;walk_at"e";exact⟨_,_,rfl,Tg,s,A,M,_,⟨_,_,_,rfl⟩,w,a,j,rfl,od,r⟩
 | drop h b=>
  walk_at"e";refine⟨dd,_,0,_,rfl,rfl,gw.of od,rfl,?_⟩;refine⟨_,f2,rfl,rfl,?_⟩;walk_at"e";refine oJ (cC X rf Ot) rfl (by simp) ?_;walk_at"e";exact⟨_,_,rfl,Tg,s,A,M,_,⟨_,_,rfl⟩,w,a,j,rfl,od,r⟩
 | give h b g t=>
  walk_at"e";refine⟨dd,_,0,_,rfl,rfl,gw.of od,rfl,?_⟩;refine⟨_,f4,rfl,rfl,?_⟩;walk_at"e";refine oJ (cC X rf Oq) rfl (by simp) ?_;walk_at"e";exact⟨_,_,rfl,Tg,s,A,M,_,⟨_,_,_,_,rfl⟩,w,a,j,rfl,od,r⟩
 | write h t load=>
  walk_at"e";refine⟨dd,_,0,_,rfl,rfl,gw.of od,rfl,?_⟩;refine⟨_,f10,rfl,rfl,?_⟩;walk_at"e";refine oJ (cC X rf GX) rfl (by simp) ?_;walk_at"e";exact⟨_,_,rfl,Tg,s,A,M,_,⟨_,_,_,rfl⟩,w,a,j,rfl,od,r⟩
 | read h t=>
  walk_at"e";refine⟨dd,_,0,_,rfl,rfl,gw.of od,rfl,?_⟩;refine⟨_,f8,rfl,rfl,?_⟩;walk_at"e";refine oJ (cC X rf Oj) rfl (by simp) ?_;walk_at"e";exact⟨_,_,rfl,Tg,s,A,M,_,⟨_,_,rfl⟩,w,a,j,rfl,od,r⟩
 | name h t z=>
  walk_at"e";refine⟨dd,_,0,_,rfl,rfl,gw.of od,rfl,?_⟩;refine⟨_,f6,rfl,rfl,?_⟩;walk_at"e";refine oJ (cC X rf isName) rfl (by simp) ?_;walk_at"e";exact⟨_,_,rfl,Tg,s,A,M,_,⟨_,_,_,rfl⟩,w,a,j,rfl,od,r⟩
 | seek h b z=>
  walk_at"e";refine⟨dd,_,0,_,rfl,rfl,gw.of od,rfl,?_⟩;refine⟨_,f9,rfl,rfl,?_⟩;walk_at"e";refine oJ (cC X rf Oi) rfl (by simp) ?_;walk_at"e";exact⟨_,_,rfl,Tg,s,A,M,_,⟨_,_,_,rfl⟩,w,a,j,rfl,od,r⟩
end
def kW(X:Cs):Sp:=λvs H Q E=>∃hp sl,vs=[.ref hp,.ref sl]/\∃T s A M,∃xs:Au,WJ X H T s A M/\A.hp=hp/\H sl=some (.lst (xs.map oV))/\xs.length<=1000/\∀l,H l=none->Q (.ref l) (upd H l (.lst ((xs.map (wW M)).map oV)))
def nZ(X:Cs):Sp:=λvs H Q E=>∃wo,vs=[.ref wo]/\∃T s A M,WJ X H T s A M/\A.wo=wo/\M.cells.length<=1000/\(∀m∈M.hands,m.2.length<=1000)/\∀(l:AH) (ls:AE) H',aW H H'->H' l=some (.lst (ls.map V.ref))->ls.length=(rowsOf M).length->(∀(j:Nat) r x,ls[j]? =some r->(rowsOf M)[j]? =some x->H' r=some (.lst (x.map oV)))->(H l=none/\(∀r∈ls,H r=none)/\l∉ls)->Q (.ref l) H'
section
variable {K:aB}{X:Cs}{H:Hp}{Q:VK}{E:XK}{n:St->Hp->Prop}{bk ct:St->Hp->Prop}
theorem Zd3{hp sl:AH}(T:qm K X)(q:∃T s A M,∃xs:Au,WJ X H T s A M/\A.hp=hp/\H sl=some (.lst (xs.map oV))/\xs.length<=1000/\∀l,H l=none->Q (.ref l) (upd H l (.lst ((xs.map (wW M)).map oV)))):
  Bg K (cP X) ⟨n,Q,bk,ct⟩ [some (.ref hp),some (.ref sl)] H:=by
 obtain⟨Tg,s,A,M,xs,j,rfl,o,hx,q⟩:=q;unfold Bg;walk_at"e";refine Ii ?_;walk_at"e";refine⟨_,rfl,⟨_,cB.of o⟩,?_⟩;refine KD (cB.of o) (λi=>(xs[i]?).map λx=>oV (wW M x)) (by rw[aY];omega) (λi x hx=>?_) ?_
 ·rw[cF]at hx;obtain⟨y,hy,rfl⟩:=Option.map_eq_some_iff.mp hx;refine⟨λq hq=>?_,λz q hz hq=>?_⟩
  ·rw[hy]at hq;exact Cu hq
  ·rw[hy]at hz;cases hz;walk_at"c";walk_at"e";exact⟨_,_,rfl,y,rfl,Tg,s,A,M,j,rfl,hq⟩
 ·intro p hp;have:(List.range (xs.map oV).length).filterMap (λi=>(xs[i]?).map λx=>oV (wW M x))=(xs.map (wW M)).map oV:=by
   rw[aY,List.map_map];clear q o hx
   induction xs with
   | nil=>rfl
   | cons a l b=>
    rw[List.length_cons,List.range_succ_eq_map,List.filterMap_cons];simp only[List.getElem?_cons_zero,Option.map_some,List.map_cons,List.filterMap_map];congr 1
  rw[this];exact q p hp
theorem Vl{wo:AH}(T:qm K X)(q:∃T s A M,WJ X H T s A M/\A.wo=wo/\M.cells.length<=1000/\(∀m∈M.hands,m.2.length<=1000)/\∀(l:AH) (ls:AE) H',aW H H'->H' l=some (.lst (ls.map V.ref))->ls.length=(rowsOf M).length->(∀(j:Nat) r x,ls[j]? =some r->(rowsOf M)[j]? =some x->H' r=some (.lst (x.map oV)))->(H l=none/\(∀r∈ls,H r=none)/\l∉ls)->Q (.ref l) H'):
  vV K (kW X) ⟨n,Q,bk,ct⟩ [some (.ref wo)] H:=by
 obtain⟨Tg,s,A,M,j,rfl,hc,hh,q⟩:=q;obtain⟨C,ow⟩:=j.jb.ow;have l5:=j.jd.l5;unfold vV;walk_at"e";refine Ii ?_;walk_at"e";refine aH ow T.cW T.nWd dZ ?_;refine⟨_,rfl,⟨_,cB.of j.jb.on⟩,?_⟩;refine Uv (cB.of j.jb.on) (by rw[aY];omega) (λi r h=>∃x,(rowsOf M)[i]? =some x/\h r=some (.lst (x.map oV))) (λ_ _ _ _ ⟨x,e,z⟩ s=>⟨x,e,s _ _ z⟩) (λ_ _ _ ⟨_,_,z⟩=>⟨_,z⟩) (λx t q hq=>Cu hq) (λi x t d a E hq=>?_) ?_
 ·rw[cF]at d;obtain⟨p,hp,rfl⟩:=Option.map_eq_some_iff.mp d;have c:=j.same a;obtain⟨m,hm,hd⟩:=c.hand hp;obtain⟨B,o1⟩:=hd.o1;obtain⟨D,b⟩:=c.jb.ow;walk_at"c";walk_at"e";refine aH b T.cW T.PX bF ?_;walk_at"e";refine aH o1 T.cD T.nDs rJ ?_;walk_at"e";refine⟨_,_,rfl,Tg,s,A,M,m.2,c,rfl,hd.o2,hh m (List.mem_of_getElem? hm),λl hl=>?_⟩;exact hq l _ (aK hl _) hl ⟨_,by unfold rowsOf;rw[cF,hm];rfl,aq⟩
 ·intro rs H' a hl _ v hr p hp;have f:=aK hp (.lst (rs.map V.ref));refine q p rs _ (a.trans f) aq ?_ (λu r x w o=>?_) ⟨a.free hp,v,λz=>?_⟩
  ·rw[hl,aY];unfold rowsOf;rw[aY,j.jd.lh]
  ·obtain⟨y,e3,z⟩:=hr u r w;rw[o]at e3;cases e3;exact f _ _ z
  ·obtain⟨k,hk,e⟩:=List.getElem_of_mem z;obtain⟨_,_,g⟩:=hr k p (by rw[bM hk,e]);rw[hp]at g;cases g
end
def ye(a:AH):Sp:=λvs H Q E=>∃p nm many,vs=[.ref p,.str nm,.int many]/\∃dx,H p=some (.ins a dx [])/\0<=many/\many<=1000/\
 ∀sa H',H sa=none->H' p=some (.ins a dx (Zg1 nm sa))->H' sa=some (.lst (List.replicate many.toNat V.non))->(∀b o,H b=some o->b≠p->H' b=some o)->Q .non H'
def rR(a:AH):Sp:=λvs H Q E=>∃p,vs=[.ref p]/\∃dx,H p=some (.ins a dx [])/\
 ∀gr H',H gr=none->H' p=some (.ins a dx (cG 0 "rest" gr 0 0 0 0 0 0 0 .non))->H' gr=some (.lst [])->(∀b o,H b=some o->b≠p->H' b=some o)->Q .non H'
section
variable {K:aB}{X:Cs}{H:Hp}{Q:VK}{E:XK}{n:St->Hp->Prop}{bk ct:St->Hp->Prop}
theorem Pg{p:AH}{nm:Str}{many:Int}(T:qm K X)(q:∃dx,H p=some (.ins X.D dx [])/\0<=many/\many<=1000/\
 ∀sa H',H sa=none->H' p=some (.ins X.D dx (Zg1 nm sa))->H' sa=some (.lst (List.replicate many.toNat V.non))->(∀b o,H b=some o->b≠p->H' b=some o)->Q .non H'):
  sX K ⟨λ_ H'=>Q .non H',Q,bk,ct⟩ [some (.ref p),some (.str nm),some (.int many)] H:=by
 obtain⟨dx,hp,r,h1,h⟩:=q;unfold sX;walk_at"e";refine⟨p,X.D,dx,[],rfl,hp,T.cD,T.nDn,by decide,?_⟩;walk_at"e";refine⟨by decide,λj f=>?_⟩;walk_at"e";refine⟨j,many,_,rfl,rfl,aq,by omega,by omega,?_,λi a=>?_⟩
 ·show 1 * many.toNat<=sizeLine;exact aR (by omega)
 have d:p≠j:=aD aq f;have c:p≠i:=aD (by rw[aC d];exact aq) a;have g:H i=none:=by
  by_cases z:i=j
  ·rw[z,aq]at a;cases a
  ·rw[aC z,aC (λe=>c e.symm)]at a;exact a
 have l:H j=none:=by rw[aC (λe=>d e.symm)]at f;exact f
 walk_at"e";refine⟨p,X.D,dx,_,rfl,by rw[aC c,aC d];exact aq,T.cD,T.nDs,by show 1<1000;decide,?_⟩;refine h i _ g ?_ ?_ λb o hb m=>?_
 ·rw[aq,Zrx]
 ·rw[aC c.symm,aq];congr 2;generalize many.toNat=k
  induction k with
  | zero=>rfl
  | succ k n=>rw[List.replicate_succ,List.replicate_succ,List.flatten_cons,n];rfl
 ·rw[aC m,aC (aD hb g),aC (aD hb l),aC m];exact hb
theorem HH{p:AH}(T:qm K X)(q:∃dx,H p=some (.ins X.S dx [])/\
 ∀gr H',H gr=none->H' p=some (.ins X.S dx (cG 0 "rest" gr 0 0 0 0 0 0 0 .non))->H' gr=some (.lst [])->(∀b o,H b=some o->b≠p->H' b=some o)->Q .non H'):
  pO K ⟨λ_ H'=>Q .non H',Q,bk,ct⟩ [some (.ref p)] H:=by
 obtain⟨dx,hp,h⟩:=q;unfold pO;walk_at"e";refine⟨p,X.S,dx,[],rfl,hp,T.cS,T.n1,by decide,?_⟩;walk_at"e";refine⟨p,X.S,dx,_,rfl,aq,T.cS,T.n2,by show 1<1000;decide,?_⟩;rw[eV];walk_at"e";refine⟨by decide,λgr c=>?_⟩;have a:p≠gr:=aD aq c;have d:H gr=none:=by rw[aC a.symm]at c;exact c
 walk_at"e";refine⟨p,X.S,dx,_,rfl,by rw[aC a];exact aq,T.cS,T.n3,by show 2<1000;decide,?_⟩;walk_at"e";refine⟨p,X.S,dx,_,rfl,aq,T.cS,T.n4,by show 3<1000;decide,?_⟩;rw[eV];walk_at"e";refine⟨p,X.S,dx,_,rfl,aq,T.cS,T.n5,by show 4<1000;decide,?_⟩;rw[eV];walk_at"e";refine⟨p,X.S,dx,_,rfl,aq,T.cS,T.n6,by show 5<1000;decide,?_⟩;rw[eV];walk_at"e";refine⟨p,X.S,dx,_,rfl,aq,T.cS,T.n7,by show 6<1000;decide,?_⟩;rw[eV];walk_at"e";refine⟨p,X.S,dx,_,rfl,aq,T.cS,T.n8,by show 7<1000;decide,?_⟩;rw[eV];walk_at"e";refine⟨p,X.S,dx,_,rfl,aq,T.cS,T.n9,by show 8<1000;decide,?_⟩;rw[eV];walk_at"e";refine⟨p,X.S,dx,_,rfl,aq,T.cS,T.n10,by show 9<1000;decide,?_⟩;rw[eV];walk_at"e";refine⟨p,X.S,dx,_,rfl,aq,T.cS,T.n11,by show 10<1000;decide,?_⟩;rw[eV];refine h gr _ d ?_ ?_ λb o hb e=>?_
 ·rw[aq,Zmf]
 ·rw[aC a.symm,aq]
 ·rw[aC e,aC (aD hb d),aC e];exact hb
end
def wd(w:Int):Str:=if w=0 then "first" else if w=1 then "each" else "last"
def tlS(t:Int):Str:=if t=0 then "" else if t=1 then " old" else if t=2 then " new" else " old new"
def words(w t:Int):Str:=wd w++tlS t
structure KdO(X:Cs)(H:Hp)(ki lk:AH)(w t:Int):Prop where
 ok:∃dx,H ki=some (.ins X.K dx (Uy lk t))
 ol:∃dx,(w=0/\H lk=some (.ins X.F dx []))\/(w=1/\H lk=some (.ins X.E dx []))\/(w=2/\H lk=some (.ins X.L dx []))
theorem KdO.same{X:Cs}{H H':Hp}{ki lk:AH}{w t:Int}(k:KdO X H ki lk w t)(s:aW H H'):KdO X H' ki lk w t:=by
 obtain⟨⟨d,a⟩,⟨c,b⟩⟩:=k;refine⟨⟨d,s _ _ a⟩,⟨c,?_⟩⟩;rcases b with ⟨z,e⟩ | ⟨z,e⟩ | ⟨z,e⟩
 ·exact .inl ⟨z,s _ _ e⟩
 ·exact .inr (.inl ⟨z,s _ _ e⟩)
 ·exact .inr (.inr ⟨z,s _ _ e⟩)
def Zfc(room:Int)(hands:List (Str×Int))(w t:Int):Wm:=⟨room,0,0,[],hands.map λm=>(m.1,List.replicate m.2.toNat none),[],w,t,⟨0,"rest",[],0,0,0,0,0,0,0,.non⟩⟩
def vD(X:Cs):Sp:=λvs H Q E=>∃p room ki a,vs=[.ref p,.int room,.ref ki,.ref a]/\∃dx T s lk w t ts hands,H p=some (.ins X.W dx [])/\WT H T/\s≠0/\KdO X H ki lk w t/\T ki=(0,0)/\T lk=(0,0)/\ki≠p/\lk≠p/\H a=some (.lst (ts.map V.ref))/\
 Al (λ(t:AH) (m:Str×Int)=>H t=some (.tup [.str m.1,.int m.2])/\0<=m.2/\m.2<=1000) ts hands/\hands.length<=30/\
 ∀H' T' A,(∀b o,H b=some o->b≠p->H' b=some o)->(∀b o,H b=some o->b≠p->T' b=T b)->WT H' T'->A.wo=p->WJ X H' T' s A (Zfc room hands w t)->Q .non H'
def uE(a:AH):Sp:=λvs H Q E=>∃p l t,vs=[.ref p,.ref l,.int t]/\∃dx,H p=some (.ins a dx [])/\∀H',H' p=some (.ins a dx (Uy l t))->(∀b o,H b=some o->b≠p->H' b=some o)->Q .non H'
def tV(v:V):Sp:=λvs H Q E=>∃a,vs=[.ref a]/\Q v H
section
variable {K:aB}{X:Cs}{H:Hp}{Q:VK}{E:XK}{n:St->Hp->Prop}{bk ct:St->Hp->Prop}
theorem Pa{p l:AH}{t:Int}(T:qm K X)(q:∃dx,H p=some (.ins X.K dx [])/\∀H',H' p=some (.ins X.K dx (Uy l t))->(∀b o,H b=some o->b≠p->H' b=some o)->Q .non H'):
  sV K ⟨λ_ H'=>Q .non H',Q,bk,ct⟩ [some (.ref p),some (.ref l),some (.int t)] H:=by
 obtain⟨dx,hp,h⟩:=q;unfold sV;walk_at"e";refine⟨p,X.K,dx,[],rfl,hp,T.cK,T.nKl,by decide,?_⟩;walk_at"e";refine⟨p,X.K,dx,_,rfl,aq,T.cK,T.nKt,by show 1<1000;decide,?_⟩;rw[eV];refine h _ ?_ λb o hb a=>?_
 ·rw[aq,Zrb]
 ·rw[aC a];exact hb
theorem w0{w:Int}(a:w=0\/w=1\/w=2):words w 0=wd w:=by rcases a with rfl | rfl | rfl<;>decide +kernel
theorem w3{w:Int}(a:w=0\/w=1\/w=2):words w 3=(wd w++" old")++" new":=by rcases a with rfl | rfl | rfl<;>decide +kernel
end
structure Ex(p:AH)(H H':Hp)(T T':Tg):Prop where
 kp:∀b o,H b=some o->b≠p->H' b=some o
 al:∀b o,H b=some o->∃o',H' b=some o'
 tg:∀b o,H b=some o->T' b=T b
 wt:WT H' T'
section
variable {p:AH}{H H1 H2 H':Hp}{T T1 T2 T':Tg}
theorem Ex.trans(a:Ex p H H1 T T1)(b:Ex p H1 H2 T1 T2):Ex p H H2 T T2 where
 kp:=λx o h n=>b.kp x o (a.kp x o h n) n
 al:=λx o h=>by obtain⟨o1,h1⟩:=a.al x o h;exact b.al x o1 h1
 tg:=λx o h=>by obtain⟨o1,h1⟩:=a.al x o h;rw[b.tg x o1 h1,a.tg x o h]
 wt:=b.wt
theorem ZAd(w:WT H T)(al:∀b o,H b=some o->∃a,H' b=some a):WT H' T:=λb h=>w b (by
 cases z:H b with
 | none=>rfl
 | some o=>obtain⟨a,e⟩:=al b o z;rw[h]at e;cases e)
theorem Zh9{a:AH}{o:HO}{v:Nat×Nat}(w:WT H T)(h:H a=some o):WT H (ji T a v):=λb hb=>by
 rw[jg (λe=>by rw[e,h]at hb;cases hb)];exact w b hb
theorem Ex.Zor{o a:HO}(w:WT H T)(h:H p=some a):Ex p H (upd H p o) T T where
 kp:=λx u hx n=>by rw[aC n];exact hx
 al:=λx u hx=>by
  by_cases e:x=p
  ·exact⟨o,by rw[e,aq]⟩
  ·exact⟨u,by rw[aC e];exact hx⟩
 tg:=λ_ _ _=>rfl
 wt:=ZAd w λx u hx=>by
  by_cases e:x=p
  ·exact⟨o,by rw[e,aq]⟩
  ·exact⟨u,by rw[aC e];exact hx⟩
theorem Ex.news{vs:List (AH×(Nat×Nat))}(w:WT H T)(s:aW H H')(hn:∀v∈vs,H v.1=none/\∃o,H' v.1=some o):Ex p H H' T (vs.foldr (λv t=>ji t v.1 v.2) T):=by
 have tg:∀b o,H b=some o->(vs.foldr (λv t=>ji t v.1 v.2) T) b=T b:=by
  intro b o hb
  induction vs with
  | nil=>rfl
  | cons v vs a=>
   show ji _ v.1 v.2 b=_;rw[jg (aD hb (hn v List.mem_cons_self).1)];exact a λu hu=>hn u (List.mem_cons_of_mem _ hu)
 refine⟨λb o hb _=>s _ _ hb,λb o hb=>⟨o,s _ _ hb⟩,tg,?_⟩;clear tg
 induction vs with
 | nil=>exact w.same s
 | cons v vs a=>
  obtain⟨o,c⟩:=(hn v List.mem_cons_self).2;exact Zh9 (a λu hu=>hn u (List.mem_cons_of_mem _ hu)) c
end
section
variable {K:aB}{X:Cs}{H:Hp}{Q:VK}{E:XK}{n:St->Hp->Prop}{bk ct:St->Hp->Prop}
theorem Ln{p ki hl0:AH}{room:Int}(T:qm K X)(q:∃dx T s lk w t,∃ts:AE,∃hands,H p=some (.ins X.W dx [])/\WT H T/\s≠0/\KdO X H ki lk w t/\T ki=(0,0)/\T lk=(0,0)/\ki≠p/\lk≠p/\H hl0=some (.lst (ts.map V.ref))/\
 Al (λ(t:AH) (m:Str×Int)=>H t=some (.tup [.str m.1,.int m.2])/\0<=m.2/\m.2<=1000) ts hands/\hands.length<=30/\
 ∀H' T' A,(∀b o,H b=some o->b≠p->H' b=some o)->(∀b o,H b=some o->b≠p->T' b=T b)->WT H' T'->A.wo=p->WJ X H' T' s A (Zfc room hands w t)->Q .non H'):
  qU K X.D X.H X.S (ye X.D) (yc X.H) (rR X.S) ⟨λ_ H'=>Q .non H',Q,bk,ct⟩ [some (.ref p),some (.int room),some (.ref ki),some (.ref hl0)] H:=by
 obtain⟨dx,T0,s,lk,w,t,ts,hands,hp,wt0,s0,kd,tki,tlk,nki,Z,oh0,al,hn,hQ⟩:=q;have x0:WT H (ji T0 p (s,0)):=Zh9 wt0 hp;have tp:ji T0 p (s,0) p=(s,0):=iw;have Y:∀b o,H b=some o->b≠p->ji T0 p (s,0) b=T0 b:=λb _ _ hb=>jg hb;generalize hT:ji T0 p (s,0)=Ta at x0 tp Y;unfold qU;walk_at"e";intro hq dh nh ndh neh;refine⟨hq,room,rfl,dh,aq,λca H1 l L J k1=>⟨rfl,?_⟩⟩;have Zy6:H ca=none:=by
  by_cases z:ca=hq
  ·rw[z,aq]at l;cases l
  ·rw[aC z]at l
   by_cases y:ca=dh
   ·rw[y,aq]at l;cases l
   ·rw[aC y]at l;exact l
 have sm1:aW H H1:=λb o hb=>k1 b o (by rw[aC (aD hb nh),aC (aD hb ndh)];exact hb) (aD hb nh);have e1:Ex p H H1 Ta _:=Ex.news (vs:=[(hq,(s,1)),(ca,(s,2))]) x0 sm1 (by
  intro v hv;simp only[List.mem_cons,List.not_mem_nil,or_false]at hv;rcases hv with rfl | rfl
  ·exact⟨nh,_,L⟩
  ·exact⟨Zy6,_,J⟩)
 have nhc:hq≠ca:=rC L J (λz=>by cases z);have th1:([(hq,(s,1)),(ca,(s,2))].foldr (λv t=>ji t v.1 v.2) Ta) hq=(s,1):=iw;have tc1:([(hq,(s,1)),(ca,(s,2))].foldr (λv t=>ji t v.1 v.2) Ta) ca=(s,2):=(jg nhc.symm).trans iw;generalize ([(hq,(s,1)),(ca,(s,2))]:List (AH×(Nat×Nat))).foldr (λv t=>ji t v.1 v.2) Ta=Tb at e1 th1 tc1;have hp1:=sm1 _ _ hp;have nph:hq≠p:=λz=>by rw[z,hp]at nh;cases nh
 have npc:ca≠p:=λz=>by rw[z,hp]at Zy6;cases Zy6
 clear k1 l;walk_at"e";refine⟨p,X.W,dx,[],rfl,hp1,T.cW,T.PX,by decide,?_⟩;have e2:=e1.trans (Ex.Zor (o:=.ins X.W dx (cH "heap" (.ref hq) [])) e1.wt hp1);have g2:upd H1 p (.ins X.W dx (cH "heap" (.ref hq) [])) p=some (.ins X.W dx (cH "heap" (.ref hq) [])):=aq;have L:=(aC (o:=.ins X.W dx (cH "heap" (.ref hq) [])) nph).trans L;have J:=(aC (o:=.ins X.W dx (cH "heap" (.ref hq) [])) npc).trans J;generalize upd H1 p (.ins X.W dx (cH "heap" (.ref hq) []))=H2 at e2 g2 L J ⊢;walk_at"e";refine⟨p,X.W,dx,_,rfl,g2,T.cW,T.nWk,by show 1<1000;decide,?_⟩;have e3:=e2.trans (Ex.Zor (o:=.ins X.W dx (cH "kind" (.ref ki) (cH "heap" (.ref hq) []))) e2.wt g2);have g3:upd H2 p (.ins X.W dx (cH "kind" (.ref ki) (cH "heap" (.ref hq) []))) p=some (.ins X.W dx (cH "kind" (.ref ki) (cH "heap" (.ref hq) []))):=aq;have L:=(aC (o:=.ins X.W dx (cH "kind" (.ref ki) (cH "heap" (.ref hq) []))) nph).trans L;have J:=(aC (o:=.ins X.W dx (cH "kind" (.ref ki) (cH "heap" (.ref hq) []))) npc).trans J;generalize upd H2 p (.ins X.W dx (cH "kind" (.ref ki) (cH "heap" (.ref hq) [])))=H3 at e3 g3 L J ⊢;generalize M:(cH "kind" (.ref ki) (cH "heap" (.ref hq) []))=r at g3 ⊢;have lF3:r.length=2:=by rw[<- M];rfl
 have U:H3 hl0=some (.lst (ts.map V.ref)):=e3.kp _ _ oh0 (λz=>by rw[z,hp]at oh0;cases oh0);have ltl:ts.length=hands.length:=al.length;have ZCd:∀(i:Nat) a,ts[i]? =some a->∃m,hands[i]? =some m/\H3 a=some (.tup [.str m.1,.int m.2])/\0<=m.2/\m.2<=1000:=λi a ha=>by
  have hl:i<hands.length:=by rw[<- ltl];exact(dY ha).1
  obtain⟨a',ha',z1,C,z3⟩:=al.get (bM hl);rw[ha]at ha';cases ha';exact⟨_,bM hl,e3.kp _ _ z1 (λz=>by rw[z,hp]at z1;cases z1),C,z3⟩
 have lo:=e3.wt;walk_at"e";refine⟨_,rfl,⟨_,cB.of U⟩,Zln ?_⟩;refine⟨λi m ys Hx=>i<=ts.length/\m=ts.length - i/\∃(hs:List (AH×AH)) (Tx:Tg),ys=hs.map (λq=>V.ref q.1)/\hs.length=i/\aW H3 Hx/\Ex p H3 Hx Tb Tx/\∀(j:Nat) q m,hs[j]? =some q->hands[j]? =some m->HdO X.D Hx Tx s j q (m.1,List.replicate m.2.toNat none)/\q.1≠p/\q.2≠p,
  ⟨ts.length,Nat.zero_le _,rfl,[],Tb,rfl,rfl,aW.refl _,⟨λ_ _ h _=>h,λ_ o h=>⟨o,h⟩,λ_ _ _=>rfl,lo⟩,λj q m e=>by simp at e⟩,?_⟩
 rintro i m ys Hx ⟨hi,rfl,hs,Tx,rfl,hl,sx,ex,hds⟩
 by_cases hk:i=ts.length
 ·refine .inl ⟨⟨_,cB.of (sx _ _ U),by rw[aY];omega⟩,λd B=>?_⟩;have ZLh:H3 d=none:=sx.free B;have s4:=aK B (.lst (hs.map λq=>V.ref q.1));have e4:Ex p Hx _ Tx _:=Ex.news (p:=p) (vs:=[(d,(s,5))]) ex.wt s4 (by
   intro v hv;rw[List.mem_singleton.mp hv];exact⟨B,_,aq⟩)
  have t4:([(d,(s,5))].foldr (λv t=>ji t v.1 v.2) Tx) d=(s,5):=iw;have o4:upd Hx d (.lst (hs.map λq=>V.ref q.1)) d=some (.lst (hs.map λq=>V.ref q.1)):=aq;have F:=sx _ _ g3;have nhp:d≠p:=λz=>by rw[z,F]at B;cases B
  have hp4:=s4 _ _ F;generalize upd Hx d (.lst (hs.map λq=>V.ref q.1))=H4 at s4 e4 o4 hp4 ⊢;generalize ([(d,(s,5))]:List (AH×(Nat×Nat))).foldr (λv t=>ji t v.1 v.2) Tx=T4 at e4 t4;walk_at"e";refine⟨p,X.W,dx,_,rfl,hp4,T.cW,T.nWd,by rw[lF3];decide,?_⟩;have e5:=Ex.Zor (p:=p) (o:=.ins X.W dx (cH "hands" (.ref d) r)) e4.wt hp4;have hp5:upd H4 p (.ins X.W dx (cH "hands" (.ref d) r)) p=some (.ins X.W dx (cH "hands" (.ref d) r)):=aq;generalize upd H4 p (.ins X.W dx (cH "hands" (.ref d) r))=H5 at e5 hp5 ⊢;walk_at"e";intro nm P;have nnp:nm≠p:=λz=>by rw[z,hp5]at P;cases P
  have s6:=aK P (.dK []);have e6:Ex p H5 _ T4 _:=Ex.news (p:=p) (vs:=[(nm,(s,6))]) e5.wt s6 (by
   intro v hv;rw[List.mem_singleton.mp hv];exact⟨P,_,aq⟩)
  have t6:([(nm,(s,6))].foldr (λv t=>ji t v.1 v.2) T4) nm=(s,6):=iw;have o6:upd H5 nm (.dK []) nm=some (.dK []):=aq;have hp6:=s6 _ _ hp5;generalize upd H5 nm (.dK [])=H6 at s6 e6 o6 hp6 ⊢;generalize ([(nm,(s,6))]:List (AH×(Nat×Nat))).foldr (λv t=>ji t v.1 v.2) T4=T6 at e6 t6;walk_at"e";refine⟨p,X.W,dx,_,rfl,hp6,T.cW,T.nWn,by rw[<- M];show 3<1000;decide,?_⟩;have e7:=Ex.Zor (p:=p) (o:=.ins X.W dx (cH "names" (.ref nm) (cH "hands" (.ref d) r))) e6.wt hp6;have R:upd H6 p (.ins X.W dx (cH "names" (.ref nm) (cH "hands" (.ref d) r))) p=some (.ins X.W dx (cH "names" (.ref nm) (cH "hands" (.ref d) r))):=aq;generalize upd H6 p (.ins X.W dx (cH "names" (.ref nm) (cH "hands" (.ref d) r)))=H7 at e7 R ⊢;walk_at"e";intro sw ds E nds nes;refine⟨sw,rfl,ds,aq,λgr H8 g b1 b2 k8=>⟨rfl,?_⟩⟩;have Zy4:H7 gr=none:=by
   by_cases z:gr=sw
   ·rw[z,aq]at g;cases g
   ·rw[aC z]at g
    by_cases y:gr=ds
    ·rw[y,aq]at g;cases g
    ·rw[aC y]at g;exact g
  have s8:aW H7 H8:=λb o hb=>k8 b o (by rw[aC (aD hb E),aC (aD hb nds)];exact hb) (aD hb E);have e8:Ex p H7 H8 T6 _:=Ex.news (p:=p) (vs:=[(sw,(s,7)),(gr,(s,8))]) e7.wt s8 (by
   intro v hv;simp only[List.mem_cons,List.not_mem_nil,or_false]at hv;rcases hv with rfl | rfl
   ·exact⟨E,_,b1⟩
   ·exact⟨Zy4,_,b2⟩)
  have nsg:sw≠gr:=rC b1 b2 (λz=>by cases z);have ts8:([(sw,(s,7)),(gr,(s,8))].foldr (λv t=>ji t v.1 v.2) T6) sw=(s,7):=iw;have tg8:([(sw,(s,7)),(gr,(s,8))].foldr (λv t=>ji t v.1 v.2) T6) gr=(s,8):=(jg nsg.symm).trans iw;generalize ([(sw,(s,7)),(gr,(s,8))]:List (AH×(Nat×Nat))).foldr (λv t=>ji t v.1 v.2) T6=T8 at e8 ts8 tg8;have hp8:=s8 _ _ R;have nsp:sw≠p:=λz=>by rw[z,R]at E;cases E
  have ngp:gr≠p:=λz=>by rw[z,R]at Zy4;cases Zy4
  clear k8 g;walk_at"e";refine⟨p,X.W,dx,_,rfl,hp8,T.cW,T.Rr,by rw[<- M];show 4<1000;decide,?_⟩;have e9:=Ex.Zor (p:=p) (o:=.ins X.W dx (cH "sweeper" (.ref sw) (cH "names" (.ref nm) (cH "hands" (.ref d) r)))) e8.wt hp8;have hp9:upd H8 p (.ins X.W dx (cH "sweeper" (.ref sw) (cH "names" (.ref nm) (cH "hands" (.ref d) r)))) p=some (.ins X.W dx (Dp hq ki d nm sw)):=by
   rw[aq,<- M,Zma]
  generalize upd H8 p (.ins X.W dx (cH "sweeper" (.ref sw) (cH "names" (.ref nm) (cH "hands" (.ref d) r))))=H9 at e9 hp9 ⊢;have N:=e9;have f69:=e7.trans (e8.trans e9);have f49:=e5.trans (e6.trans f69);have I:=e4.trans f49;have u:=ex.trans I;have f:=e3.trans u;obtain⟨⟨dk,ok⟩,⟨dl,ol⟩⟩:=kd;have hlk:∃o,H lk=some o:=by
   rcases ol with ⟨_,z⟩ | ⟨_,z⟩ | ⟨_,z⟩
   ·exact⟨_,z⟩
   ·exact⟨_,z⟩
   ·exact⟨_,z⟩
  obtain⟨olk,elk⟩:=hlk;refine hQ H9 T8 ⟨p,hq,ca,ki,lk,d,nm,sw,gr,hs,[],[]⟩ f.kp (λb o hb nb=>(f.tg b o hb).trans (Y b o hb nb)) f.wt rfl ⟨⟨(f.tg _ _ hp).trans tp,(f.tg _ _ ok).trans ((Y _ _ ok nki).trans tki),(f.tg _ _ elk).trans ((Y _ _ elk Z).trans tlk),(f49.tg _ _ o4).trans t4,⟨dx,hp9⟩,⟨dk,f.kp _ _ ok nki⟩,⟨dl,?_⟩,f49.kp _ _ o4 nhp⟩,
   ⟨(u.tg _ _ L).trans th1,(u.tg _ _ J).trans tc1,⟨dh,u.kp _ _ L nph⟩,u.kp _ _ J npc⟩,⟨(f69.tg _ _ o6).trans t6,f69.kp _ _ o6 nnp,.nil⟩,
   ⟨(N.tg _ _ b1).trans ts8,(N.tg _ _ b2).trans tg8,⟨ds,N.kp _ _ b1 nsp⟩,N.kp _ _ b2 ngp⟩,⟨?_,by show hs.length<=30;rw[hl,hk,ltl];exact hn,?_⟩,⟨rfl,λi q c z=>by simp at z⟩⟩
  ·rcases ol with ⟨z,y⟩ | ⟨z,y⟩ | ⟨z,y⟩
   ·exact .inl ⟨z,f.kp _ _ y Z⟩
   ·exact .inr (.inl ⟨z,f.kp _ _ y Z⟩)
   ·exact .inr (.inr ⟨z,f.kp _ _ y Z⟩)
  ·show hs.length=(hands.map _).length;rw[aY,hl,hk,ltl]
  ·intro j q m z1 C;have C:(hands.map λm=>(m.1,List.replicate m.2.toNat none))[j]? =some m:=C;rw[cF]at C;obtain⟨m0,y1,rfl⟩:=Option.map_eq_some_iff.mp C;obtain⟨⟨u1,u2,⟨du,u3⟩,u4⟩,v1,v2⟩:=hds j q m0 z1 y1;exact⟨(I.tg _ _ u3).trans u1,(I.tg _ _ u4).trans u2,⟨du,I.kp _ _ u3 v1⟩,I.kp _ _ u4 v2⟩
 ·have O:i<ts.length:=by omega
  refine .inr ⟨⟨_,_,cB.of (sx _ _ U),by rw[cF,bM O];rfl⟩,?_,λx H' y=>?_⟩
  ·rw[aY,hl];exact Nat.lt_of_lt_of_le O (aR (by omega))
  obtain⟨y1,y2⟩:=y;subst y1;have ey:=y2 _ (cB.of (sx _ _ U));rw[cF,bM O]at ey;have ey:x=.ref ts[i]:=(Option.some.inj ey).symm;subst ey;obtain⟨m,hm,ot,m0,m1⟩:=ZCd i _ (bM O);refine Cu (Zjs ⟨ts[i],.str m.1,.int m.2,_,rfl,gw.of (sx _ _ ot),?_⟩);walk_at"c";walk_at"e";intro q1 dq nq ndq neq;refine⟨q1,m.1,m.2,rfl,dq,aq,m0,m1,λsa Hy n b1 b2 k=>⟨rfl,?_⟩⟩;have Zy0:H' sa=none:=by
   by_cases z:sa=q1
   ·rw[z,aq]at n;cases n
   ·rw[aC z]at n
    by_cases y:sa=dq
    ·rw[y,aq]at n;cases n
    ·rw[aC y]at n;exact n
  have sy:aW H' Hy:=λb o hb=>k b o (by rw[aC (aD hb nq),aC (aD hb ndq)];exact hb) (aD hb nq);have ey:Ex p H' Hy Tx _:=Ex.news (p:=p) (vs:=[(q1,(s,20+2 * i)),(sa,(s,21+2 * i))]) ex.wt sy (by
   intro v hv;simp only[List.mem_cons,List.not_mem_nil,or_false]at hv;rcases hv with rfl | rfl
   ·exact⟨nq,_,b1⟩
   ·exact⟨Zy0,_,b2⟩)
  have nqs:q1≠sa:=rC b1 b2 (λz=>by cases z);have F:=sx _ _ g3;refine⟨ts.length - (i+1),by omega,by omega,rfl,hs++[(q1,sa)],_,by rw[List.map_append];rfl,by rw[List.length_append,hl];rfl,sx.trans sy,ex.trans ey,λj q m' z1 C=>?_⟩
  by_cases hj:j<hs.length
  ·rw[List.getElem?_append_left hj]at z1;obtain⟨⟨u1,u2,⟨du,u3⟩,u4⟩,v1,v2⟩:=hds j q m' z1 C;exact⟨⟨(ey.tg _ _ u3).trans u1,(ey.tg _ _ u4).trans u2,⟨du,sy _ _ u3⟩,sy _ _ u4⟩,v1,v2⟩
  ·have hj':=(dY z1).1;rw[List.length_append,List.length_singleton]at hj';have ej:j=hs.length:=by omega
   subst ej;rw[List.getElem?_append_right (Nat.le_refl _),Nat.sub_self]at z1;cases z1;rw[hl]at C ⊢;rw[hm]at C;cases C;exact⟨⟨iw,(jg nqs.symm).trans iw,⟨dq,b1⟩,by rw[b2,List.map_replicate];rfl⟩,(λz=>by rw[show q1=p from z,F]at nq;cases nq),(λz=>by rw[show sa=p from z,F]at Zy0;cases Zy0)⟩
end
def Dd(M:Wm)(i:Int)(c:Ce):Str:=if M.sw.phase="rest" then "kept" else if M.sw.phase="give" then(if c.tone=M.sw.sense then "kept" else "doomed")else if c.tone=M.sw.sense then(if i∈M.sw.grey then "grey" else "dark")else "pale"
def jK(M:Wm):List (Int×Ce):=(List.range M.cells.length).filterMap λ(i:Nat)=>((M.cells[i]?).join).map λc=>((i:Int),c)
def Hj(X:Cs):Sp:=λvs H Q E=>∃wo i,vs=[.ref wo,.int i]/\∃T s A M c,WJ X H T s A M/\A.wo=wo/\0<=i/\M.cells[i.toNat]? =some (some c)/\Q (.str (Dd M i c)) H
def TcO(M:Wm)(H:Hp)(p:AH×AH)(t:Int×Ce):Prop:=H p.1=some (.tup [.int t.1,.int t.2.birth,.int t.2.bulk,.int t.2.load,.ref p.2,.str (Dd M t.1 t.2)])/\H p.2=some (.lst ((t.2.fl.map (wW M)).map oV))
def xX(X:Cs):Sp:=λvs H Q E=>∃wo i,vs=[.ref wo,.int i]/\∃T s A M c,WJ X H T s A M/\A.wo=wo/\0<=i/\M.cells[i.toNat]? =some (some c)/\c.fl.length<=1000/\∀a l H',aW H H'->H a=none->H l=none->TcO M H' (a,l) (i,c)->Q (.ref a) H'
def CQ(X:Cs):Sp:=λvs H Q E=>∃wo,vs=[.ref wo]/\∃T s A M,WJ X H T s A M/\A.wo=wo/\M.cells.length<=1000/\(∀c,some c∈M.cells->c.fl.length<=1000)/\
 ∀(l:AH) (ls:AE) H',aW H H'->H' l=some (.lst (ls.map V.ref))->ls.length=(jK M).length->(∀(j:Nat) r t,ls[j]? =some r->(jK M)[j]? =some t->∃f,TcO M H' (r,f) t/\H f=none/\H r=none)->H l=none->Q (.ref l) H'
theorem Zpt{X:Cs}{H:Hp}{T:Tg}{s:Nat}{A:Wa}{M:Wm}(j:WJ X H T s A M):plc (A.cs.map pV)=(jK M).map (·.1):=by
 have a:∀i,i<M.cells.length->(decide ((A.cs.map pV)[i]? =some V.non)=true↔(M.cells[i]?).join=none):=λi b=>by
  rw[decide_eq_true_iff,cF];cases hc:M.cells[i]? with
  | none=>rw[List.getElem?_eq_none_iff]at hc;omega
  | some y=>cases y with
   | none=>rw[j.jc.at0 hc];simp[pV]
   | some c=>
    obtain⟨p,hp,_⟩:=j.jc.at hc;rw[hp];simp[pV]
 unfold plc jK;rw[aY,j.jc.lc];generalize hn:M.cells.length=n at a;clear hn
 induction n with
 | zero=>rfl
 | succ n d=>
  rw[List.range_succ,List.filter_append,List.map_append,List.filterMap_append,List.map_append,d λi b=>a i (by omega)];congr 1;have k:=a n (by omega);cases hc:(M.cells[n]?).join with
  | none=>
   have:decide ((A.cs.map pV)[n]? =some V.non)=true:=k.mpr hc;simp only[List.filter_cons,this,Bool.not_true,List.filter_nil,List.filterMap_cons,hc,Option.map_none,List.filterMap_nil];rfl
  | some c=>
   have:decide ((A.cs.map pV)[n]? =some V.non)=false:=by
    cases hd:decide ((A.cs.map pV)[n]? =some V.non)with
    | false=>rfl
    | true=>rw[k.mp hd]at hc;cases hc
   simp only[List.filter_cons,this,Bool.not_false,List.filter_nil,List.filterMap_cons,hc,Option.map_some,List.filterMap_nil];rfl
theorem Zl7{M:Wm}{j:Nat}{t:Int×Ce}(h:(jK M)[j]? =some t):0<=t.1/\M.cells[t.1.toNat]? =some (some t.2):=by
 have hm:=List.mem_of_getElem? h;unfold jK at hm;obtain⟨i,a,e⟩:=List.mem_filterMap.mp hm;obtain⟨c,hc,rfl⟩:=Option.map_eq_some_iff.mp e;refine⟨by show(0:Int)<=(i:Nat);omega,?_⟩;show M.cells[((i:Nat):Int).toNat]? =some (some c);rw[Int.toNat_natCast];cases hx:M.cells[i]? with
 | none=>rw[hx]at hc;cases hc
 | some y=>rw[hx]at hc;rw[show y=some c from hc]
section
variable {K:aB}{X:Cs}{H:Hp}{Q:VK}{E:XK}{n:St->Hp->Prop}{bk ct:St->Hp->Prop}
theorem Zfx{i:Int}{l:AD}:inV (.int i) (l.map V.int)=decide (i∈l):=by
 unfold inV
 induction l with
 | nil=>rfl
 | cons a l c=>
  rw[List.map_cons,List.any_cons,c]
  by_cases e:i=a
  ·subst e;simp[Zi]
  ·have b:¬ a=i:=λz=>e z.symm;simp[Zi,e,b]
theorem Zjc{wo:AH}{i:Int}(T:qm K X)(q:∃T s A M c,WJ X H T s A M/\A.wo=wo/\0<=i/\M.cells[i.toNat]? =some (some c)/\Q (.str (Dd M i c)) H):Jb K (cQ X) ⟨n,Q,bk,ct⟩ [some (.ref wo),some (.int i),none,none] H:=by
 obtain⟨Tg,s,A,M,c,j,rfl,b,hc,q⟩:=q;obtain⟨d,ow⟩:=j.jb.ow;obtain⟨e,os⟩:=j.js.os;obtain⟨th,tc,⟨f,oh⟩,oc⟩:=j.jh;obtain⟨p,hp,ce⟩:=j.jc.at hc;unfold Jb;walk_at"e";refine aH ow T.cW T.Rr bx ?_;walk_at"e";refine aH ow T.cW T.PX bF ?_;refine aH oh T.c.cR T.c.bN bW ?_;walk_at"e";refine je (cB.of oc) (rN (v:=.ref p.1) b (by rw[cF,hp];rfl)) ?_;walk_at"e";refine⟨_,_,rfl,Tg,s,A,M,_,p,c,j.w0,rfl,ce,rfl,?_⟩;walk_at"e";refine aH os T.cS T.n2 fX ?_;walk_at"e";unfold Dd at q;refine uY (λz=>?_) (λz=>?_)
 ·rw[if_pos z]at q;walk_at"e";exact q
 ·rw[if_neg z]at q;walk_at"e";refine aH os T.cS T.n2 fX ?_;walk_at"e";refine uY (λy=>?_) (λy=>?_)
  ·rw[if_pos y]at q;walk_at"e";refine uY (λx=>?_) (λx=>?_)
   ·rw[if_pos x]at q;walk_at"e";exact q
   ·rw[if_neg x]at q;walk_at"e";exact q
  ·rw[if_neg y]at q;walk_at"e";refine zX (λx=>?_) (λx=>?_)
   ·rw[if_neg x]at q;walk_at"e";exact q
   ·rw[if_pos x]at q;walk_at"e";refine aH os T.cS T.n3 lC ?_;refine⟨_,_,rfl,.inl (cB.of j.js.og),rfl,?_,?_⟩
    ·rw[List.all_map,List.all_eq_true];intro a _;rfl
    rw[if_neg (by decide),Zfx];walk_at"e";refine uY (λy=>?_) (λy=>?_)
    ·rw[if_pos y]at q;walk_at"e";exact q
    ·rw[if_neg y]at q;walk_at"e";exact q
theorem Zy{wo:AH}{i:Int}(T:qm K X)(q:∃T s A M c,WJ X H T s A M/\A.wo=wo/\0<=i/\M.cells[i.toNat]? =some (some c)/\c.fl.length<=1000/\∀a l H',aW H H'->H a=none->H l=none->TcO M H' (a,l) (i,c)->Q (.ref a) H'):
  Bb K (kW X) (Hj X) ⟨n,Q,bk,ct⟩ [some (.ref wo),some (.int i),none,none] H:=by
 obtain⟨Tg,s,A,M,c,j,rfl,f,hc,hl,q⟩:=q;obtain⟨m,ow⟩:=j.jb.ow;obtain⟨th,tc,⟨o,oh⟩,oc⟩:=j.jh;obtain⟨p,hp,ce⟩:=j.jc.at hc;obtain⟨t1,t2,⟨k,o1⟩,o2⟩:=id ce;unfold Bb;walk_at"e";refine aH ow T.cW T.PX bF ?_;refine aH oh T.c.cR T.c.bN bW ?_;walk_at"e";refine je (cB.of oc) (rN (v:=.ref p.1) f (by rw[cF,hp];rfl)) ?_;walk_at"e";refine aH ow T.cW T.PX bF ?_;walk_at"e";refine aH o1 T.c.di T.c.fc lV ?_;walk_at"e";refine⟨_,_,rfl,Tg,s,A,M,c.fl,j,rfl,o2,hl,λl nl=>?_⟩;generalize g:upd H l _=H1;obtain⟨b,h⟩:=nwO nl g;walk_at"e";refine aH (b _ _ o1) T.c.di T.c.dX ir ?_;walk_at"e";refine aH (b _ _ o1) T.c.di T.c.mY Il ?_;walk_at"e";refine aH (b _ _ o1) T.c.di T.c.jU zB ?_;walk_at"e";refine⟨_,_,rfl,Tg,s,A,M,c,j.same b,rfl,f,hc,?_⟩;walk_at"e";refine⟨aR (by simp),λa e=>?_⟩;have d:=aK e (.tup [.int i,.int c.birth,.int c.bulk,.int c.load,.ref l,.str (Dd M i c)]);exact q a l _ (b.trans d) (b.free e) nl ⟨aq,d _ _ h⟩
theorem VB{wo:AH}(T:qm K X)(q:∃T s A M,WJ X H T s A M/\A.wo=wo/\M.cells.length<=1000/\(∀c,some c∈M.cells->c.fl.length<=1000)/\
 ∀(l:AH) (ls:AE) H',aW H H'->H' l=some (.lst (ls.map V.ref))->ls.length=(jK M).length->(∀(j:Nat) r t,ls[j]? =some r->(jK M)[j]? =some t->∃f,TcO M H' (r,f) t/\H f=none/\H r=none)->H l=none->Q (.ref l) H'):
  yw K X.H (nH X.H) (xX X) ⟨n,Q,bk,ct⟩ [some (.ref wo)] H:=by
 obtain⟨Tg,s,A,M,j,rfl,hc,N,q⟩:=q;obtain⟨W,ow⟩:=j.jb.ow;obtain⟨th,tc,⟨S,oh⟩,oc⟩:=j.jh;have hl:(jK M).length<=1000:=by
  have:=List.length_filterMap_le (λ(i:Nat)=>((M.cells[i]?).join).map λc=>((i:Int),c)) (List.range M.cells.length);rw[List.length_range]at this;exact Nat.le_trans this hc
 unfold yw;walk_at"e";refine Ii ?_;walk_at"e";refine aH ow T.cW T.PX bF ?_;refine⟨A.hp,S,_,rfl,oh,Gk,?_⟩;walk_at"e";refine⟨_,rfl,_,_,_,_,_,j.hpO,by rw[aY,j.jc.lc];exact hc,λU v=>?_⟩;rw[Zpt j];generalize E:upd H U _=L;obtain⟨h,C⟩:=nwO v E;refine⟨_,rfl,⟨_,cB.of C⟩,?_⟩;refine Uv (cB.of C) (by rw[aY,aY];omega) (λi r F=>∃t f,(jK M)[i]? =some t/\TcO M F (r,f) t/\H f=none) (λ_ _ _ _ ⟨t,f,e,⟨z1,u⟩,B⟩ s=>⟨t,f,e,⟨s _ _ z1,s _ _ u⟩,B⟩) (λ_ _ _ ⟨_,_,_,⟨z,_⟩,_⟩=>⟨_,z⟩) (λx L q hq=>Cu hq) (λi x Y b d q' hq=>?_) ?_
 ·rw[cF,cF]at b;cases o:(jK M)[i]? with
  | none=>rw[o]at b;cases b
  | some t=>
   rw[o]at b;cases b;obtain⟨J,g⟩:=Zl7 o;walk_at"c";walk_at"e";refine⟨_,_,rfl,Tg,s,A,M,t.2,j.same (h.trans d),rfl,J,g,N _ (List.mem_of_getElem? g),λa l P m R nl y=>?_⟩;exact hq a P m R ⟨t,l,o,y,(h.trans d).free nl⟩
 ·intro rs H' d w _ O hr p hp;have m:=aK hp (.lst (rs.map V.ref));refine q p rs _ (h.trans (d.trans m)) aq (by rw[w,aY,aY]) (λk r t D I=>?_) (h.free (d.free hp));obtain⟨Z,f,e3,⟨z1,u⟩,B⟩:=hr k r D;rw[I]at e3;cases e3;exact⟨f,⟨m _ _ z1,m _ _ u⟩,B,h.free (O r (List.mem_of_getElem? D))⟩
end
section
variable {K:aB}{X:Cs}{H:Hp}{Q:VK}{E:XK}{T:Tg}{s:Nat}{A:Wa}{M:Wm}
theorem Zo1{i:Nat}{c:Ce}(j:WJ X H T s A M)(w:WT H T)(p:s≠0)(hc:M.cells[i]? =some (some c))
  (k:∀H' e,jf s H H' T T->WJ X H' T s e { M with used:=M.used - (1+c.fl.length+c.bulk),cells:=M.cells.set i none }->e.wo=A.wo/\e.sw=A.sw->Q (.int c.birth) H'):
  uF X.C X.H [.ref A.hp,.int i] H Q E:=by
 obtain⟨th,tc,⟨h,oh⟩,oc⟩:=j.jh;obtain⟨l,d,ce⟩:=j.jc.at hc;obtain⟨_,_,⟨m,o1⟩,g⟩:=id ce;have hl:=(dY hc).1;refine⟨A.hp,i,rfl,A.ca,h,M.room,M.used,M.born,A.cs.map pV,l.1,l.2,c.birth,c.bulk,c.tone,c.load,c.fl.map oV,by omega,oh,oc,by rw[Int.toNat_natCast,cF,d];rfl,⟨⟨m,o1⟩,g⟩,?_⟩;rw[Int.toNat_natCast,aY];have f:A.hp≠A.ca:=rC oh oc (λz=>by cases z);obtain⟨a,n⟩:=j.back w p (i:=i) (used':=M.used - (1+c.fl.length+c.bulk)) (by rw[j.jc.lc];exact hl) (upd (upd H A.hp (.ins X.H h (lR M.room A.ca (M.used - (1+c.fl.length+c.bulk)) M.born))) A.ca (.lst ((A.cs.map pV).set i V.non)))
  (λb o hb n1 n2=>by rw[aC n2,aC n1];exact hb) (by rw[aC f];exact aq) aq
 exact k _ _ a n ⟨rfl,rfl⟩
end
def heldOf(M:Wm):List Au:=M.hands.map (·.2)
def Zdl(X:Cs):Sp:=λvs H Q E=>∃wo,vs=[.ref wo]/\∃T s A M,WJ X H T s A M/\A.wo=wo/\M.hands.length<=1000/\∀(l:AH) (ls:AE) H',aW H H'->H l=none->H' l=some (.lst (ls.map V.ref))->ls.length=(heldOf M).length->ls.Nodup->(∀r∈ls,H r=none)->l∉ls->(∀(j:Nat) r x,ls[j]? =some r->(heldOf M)[j]? =some x->H' r=some (.lst (x.map oV)))->Q (.ref l) H'
section
variable {K:aB}{X:Cs}{H:Hp}{Q:VK}{E:XK}{n:St->Hp->Prop}{bk ct:St->Hp->Prop}
theorem Zvg{wo:AH}(T:qm K X)(q:∃T s A M,WJ X H T s A M/\A.wo=wo/\M.hands.length<=1000/\∀(l:AH) (ls:AE) H',aW H H'->H l=none->H' l=some (.lst (ls.map V.ref))->ls.length=(heldOf M).length->ls.Nodup->(∀r∈ls,H r=none)->l∉ls->(∀(j:Nat) r x,ls[j]? =some r->(heldOf M)[j]? =some x->H' r=some (.lst (x.map oV)))->Q (.ref l) H'):
  Zal K ⟨n,Q,bk,ct⟩ [some (.ref wo)] H:=by
 obtain⟨Tg,s,A,M,j,rfl,hl,q⟩:=q;obtain⟨h,ow⟩:=j.jb.ow;unfold Zal;walk_at"e";refine Ii ?_;walk_at"e";refine aH ow T.cW T.nWd dZ ?_;have l5:=j.jd.l5;refine⟨_,rfl,⟨_,cB.of j.jb.on⟩,?_⟩;refine Uv (cB.of j.jb.on) (by rw[aY];omega) (λi r f=>∃x,(heldOf M)[i]? =some x/\f r=some (.lst (x.map oV))) (λ_ _ _ _ ⟨x,e,z⟩ s=>⟨x,e,s _ _ z⟩) (λ_ _ _ ⟨_,_,z⟩=>⟨_,z⟩) (λx o q hq=>Cu hq) (λi x o b a B hq=>?_) ?_
 ·rw[cF]at b;obtain⟨p,hp,rfl⟩:=Option.map_eq_some_iff.mp b;have v:=j.same a;obtain⟨m,hm,hd⟩:=v.hand hp;obtain⟨h,o1⟩:=hd.o1;walk_at"c";walk_at"e";refine aH o1 T.cD T.nDs rJ ?_;walk_at"e";refine Rz (cB.of hd.o2) λl hl=>?_;exact hq l _ (aK hl _) hl ⟨_,by unfold heldOf;rw[cF,hm];rfl,aq⟩
 ·intro rs H' a hl nd u hr p hp;have c:=aK hp (.lst (rs.map V.ref));refine q p rs _ (a.trans c) (a.free hp) aq ?_ nd u (λz=>?_) λt r x w g=>?_
  ·rw[hl,aY];unfold heldOf;rw[aY,j.jd.lh]
  ·obtain⟨k,hk,e⟩:=List.getElem_of_mem z;obtain⟨_,_,d⟩:=hr k p (by rw[bM hk,e]);rw[hp]at d;cases d
  ·obtain⟨y,e3,z⟩:=hr t r w;rw[g]at e3;cases e3;exact c _ _ z
end
def qj(w:Int)(h:Nat):Int:=if w=0 then 2 ^ h - 1 else 0
def Gq(M:Wm):Wm:={ M with sw:={ M.sw with sense:=1 - M.sw.sense,phase:="walk",grey:=[],looked:=qj M.w M.hands.length,turn:=M.sw.turn+1,walks:=0,looks:=0,passes:=0 } }
def wJ:Sp:=λvs H Q E=>∃h,vs=[.int h]/\0<=h/\h<=30/\Q (.int (2 ^ h.toNat - 1)) H
def pq(k:Nat):Sp:=λvs H Q E=>∃a h,vs=[.ref a,.int h]/\0<=h/\h<=30/\Q (.int (if k=0 then 2 ^ h.toNat - 1 else 0)) H
def Z0q (H:Hp)(X:Cs)(wo:AH)(Q:VK):Prop:=∃T s A M,WT H T/\s≠0/\WJ X H T s A M/\A.wo=wo/\∀H' T' a,jf s H H' T T'->WJ X H' T' s a (Gq M)->a.wo=wo/\a.sw=A.sw->Q .non H'
def RX(X:Cs):Sp:=λvs H Q E=>∃wo,vs=[.ref wo]/\Z0q H X wo Q
section
variable {X:Cs}{H H':Hp}{T T':Tg}{s:Nat}{A:Wa}{M:Wm}
theorem WJ.Zun(j:WJ X H T s A M)(w:WT H T)(k:s≠0){dx l:AH}(S:Sw)(hl:H l=none)(K:S.grey=[]):
  jf s H (upd (upd H l (.lst [])) A.sw (.ins X.S dx (cG S.sense S.phase l S.looked S.turn S.at' S.stop S.walks S.looks S.passes S.loss))) T (ji T l (s,8))/\
  WJ X (upd (upd H l (.lst [])) A.sw (.ins X.S dx (cG S.sense S.phase l S.looked S.turn S.at' S.stop S.walks S.looks S.passes S.loss))) (ji T l (s,8)) s { A with gr:=l } { M with sw:=S }:=by
 obtain⟨ts,tg,⟨P,os⟩,og⟩:=id j.js;have d:l≠A.sw:=(aD os hl).symm;have i:WT (upd H l (.lst [])) (ji T l (s,8)):=Zh9 (w.same (aK hl _)) aq;have g:jf s H (upd H l (.lst [])) T (ji T l (s,8)):=⟨λb o h _=>(aK hl _) _ _ h,λb o h=>⟨o,(aK hl _) _ _ h⟩,λb o h=>jg (aD h hl),i⟩;have c:WJ X (upd H l (.lst [])) (ji T l (s,8)) s A M:=j.fresh hl;obtain⟨a,n,⟨u,e⟩,t⟩:=id c.js;refine⟨g.trans (jf.upd i e (by rw[a])),?_⟩;have f:zH s (·=7) (upd H l (.lst [])) (upd (upd H l (.lst [])) A.sw (.ins X.S dx (cG S.sense S.phase l S.looked S.turn S.at' S.stop S.walks S.looks S.passes S.loss))) (ji T l (s,8)) (ji T l (s,8)):=zH.FQ a;have B:=c.jb.mv f (qD k a) (by omega) (by omega);have D:=c.jh.mv f (by omega) (by omega);have z:=c.jn.mv f (qD k a) (by omega);have q:=c.jd.mv f λ_ _ _=>by omega
 have I:=c.jc.mv f λ_ _=>by omega
 obtain⟨E,r,x,F,v,y,L,J⟩:=B;obtain⟨y1,m,O,C⟩:=D;obtain⟨z1,p,N⟩:=z;exact⟨⟨E,r,x,F,v,y,L,J⟩,⟨y1,m,O,C⟩,⟨z1,p,N⟩,⟨a,iw,⟨dx,aq⟩,by rw[aC d,aq,K];rfl⟩,q,I⟩
end
section
variable {K:aB}{X:Cs}{H:Hp}{Q:VK}{E:XK}{n:St->Hp->Prop}{bk ct:St->Hp->Prop}
theorem Zm1{j:Int}(a:0<=j)(h1:j<=1000):Vv 1 j:=⟨a,by omega,by decide⟩
theorem Zoh{h:Int}(q:0<=h/\h<=30/\Q (.int (2 ^ h.toNat - 1)) H):M5 ⟨n,Q,bk,ct⟩ [some (.int h)] H:=by
 obtain⟨a,h1,q⟩:=q;unfold M5;walk_at"e";refine⟨_,_,rfl,rfl,Zm1 a (by omega),?_⟩;walk_at"e";rw[Int.one_mul];exact q
theorem HN{a:AH}{h:Int}(q:0<=h/\h<=30/\Q (.int (if (1:Nat)=0 then 2 ^ h.toNat - 1 else 0)) H):pP ⟨n,Q,bk,ct⟩ [some (.ref a),some (.int h)] H:=by
 unfold pP;walk_at"e";exact q.2.2
theorem Lx{a:AH}{h:Int}(q:0<=h/\h<=30/\Q (.int (if (0:Nat)=0 then 2 ^ h.toNat - 1 else 0)) H):qX wJ ⟨n,Q,bk,ct⟩ [some (.ref a),some (.int h)] H:=by
 obtain⟨b,h1,q⟩:=q;unfold qX;walk_at"e";exact⟨h,rfl,b,h1,q⟩
theorem Zsn{wo:AH}(c:qm K X)(q:Z0q H X wo Q):
  Tf K X.E X.F X.L (pq 0) (pq 1) ⟨λ_ H'=>Q .non H',Q,bk,ct⟩ [some (.ref wo),none] H:=by
 obtain⟨T,s,A,M,w,R,j,rfl,q⟩:=q;obtain⟨W,ow⟩:=j.jb.ow;obtain⟨g,os⟩:=j.js.os;obtain⟨U,ok⟩:=j.jb.ok;obtain⟨dl,ol⟩:=j.jb.ol;have on:=j.jb.on;have lh:=j.jd.lh;have l5:=j.jd.l5;unfold Tf;walk_at"e";refine aH ow c.cW c.Rr bx ?_;walk_at"e";refine aH os c.cS c.n1 nU ?_;walk_at"e";refine⟨A.sw,X.S,g,_,rfl,os,c.cS,c.n1,by show 11<1000;decide,?_⟩;rw[LR];walk_at"e";refine aH aq c.cS c.n5 qM ?_;walk_at"e";refine⟨A.sw,X.S,g,_,rfl,aq,c.cS,c.n5,by show 11<1000;decide,?_⟩;rw[QG,eV];walk_at"e";refine⟨A.sw,X.S,g,_,rfl,aq,c.cS,c.n2,by show 11<1000;decide,?_⟩;rw[pC,eV];walk_at"e";refine⟨by decide,λgr k=>?_⟩;have u:A.sw≠gr:=aD aq k;have r:H gr=none:=by rw[aC u.symm]at k;exact k
 walk_at"e";refine⟨A.sw,X.S,g,_,rfl,by rw[aC u];exact aq,c.cS,c.n3,by show 11<1000;decide,?_⟩;rw[QK];have N:∀(a b:HO) (o:HO),upd (upd (upd H A.sw a) gr o) A.sw b=upd (upd H gr o) A.sw b:=λa b o=>by
  funext x
  by_cases z:x=A.sw
  ·rw[z,aq,aq]
  ·rw[aC z,aC z]
   by_cases y:x=gr
   ·rw[y,aq,aq]
   ·rw[aC y,aC y,aC z]
 rw[N];have fin:∀{lo:Int}{J:St},J=[some (.ref A.wo),some (.ref A.sw)]->lo=qj M.w M.hands.length->∀(v:Hp),v=upd (upd H gr (.lst [])) A.sw (.ins X.S g (cG (1 - M.sw.sense) "walk" gr M.sw.looked (M.sw.turn+1) M.sw.at' M.sw.stop M.sw.walks M.sw.looks M.sw.passes M.sw.loss))->
   (∃a C dx fs,V.ref A.sw=.ref a/\v a=some (.ins C dx fs)/\Im K C/\bL K C "looked"/\fs.length<1000/\(aO (iJ K (ak 1) (tC (.int 0)) "walks") (aO (iJ K (ak 1) (tC (.int 0)) "looks") (iJ K (ak 1) (tC (.int 0)) "passes"))) ⟨λ_ H'=>Q .non H',Q,bk,ct⟩ J (upd v a (.ins C dx (cH "looked" (.int lo) fs)))):=by
  rintro lo J rfl D v rfl;refine⟨A.sw,X.S,g,_,rfl,aq,c.cS,c.n4,by show 11<1000;decide,?_⟩;rw[xm,eV];walk_at"e";refine⟨A.sw,X.S,g,_,rfl,aq,c.cS,c.n8,by show 11<1000;decide,?_⟩;rw[zM,eV];walk_at"e";refine⟨A.sw,X.S,g,_,rfl,aq,c.cS,c.n9,by show 11<1000;decide,?_⟩;rw[rZ,eV];walk_at"e";refine⟨A.sw,X.S,g,_,rfl,aq,c.cS,c.n10,by show 11<1000;decide,?_⟩;rw[xj,eV];obtain⟨st,O⟩:=j.Zun w R (dx:=g) (l:=gr) { M.sw with sense:=1 - M.sw.sense,phase:="walk",grey:=[],looked:=qj M.w M.hands.length,turn:=M.sw.turn+1,walks:=0,looks:=0,passes:=0 } r rfl;subst D;exact q _ _ _ st O ⟨rfl,rfl⟩
 have kp:∀b o,H b=some o->b≠A.sw->upd (upd H gr (.lst [])) A.sw (.ins X.S g (cG (1 - M.sw.sense) "walk" gr M.sw.looked (M.sw.turn+1) M.sw.at' M.sw.stop M.sw.walks M.sw.looks M.sw.passes M.sw.loss)) b=some o:=λb o hb P=>by
  rw[aC P,aC (aD hb r)];exact hb
 have n:∀{a:AH}{C d:AH}{fs:List (Str×V)},H a=some (.ins C d fs)->fs.length<11->a≠A.sw:=λe hl z=>by
  rw[z,os]at e;have:=Option.some.inj e
  injection this with _ _ e3
  rw[<- e3]at hl;exact absurd hl (by show ¬ 11<11;decide)
 have f:=kp _ _ ow (n ow (by show 5<11;decide));have h:=kp _ _ ok (n ok (by show 2<11;decide));have i:=kp _ _ on (rC on os (λz=>by cases z));generalize m:upd (upd H gr (.lst [])) A.sw (.ins X.S g (cG (1 - M.sw.sense) "walk" gr M.sw.looked (M.sw.turn+1) M.sw.at' M.sw.stop M.sw.walks M.sw.looks M.sw.passes M.sw.loss))=v at kp f h i ⊢;have I:((A.hs.map λp=>V.ref p.1).length:Int)=(M.hands.length:Int):=by rw[aY,lh]
 refine K1 ?_;walk_at"s";rcases ol with ⟨B,o⟩ | ⟨B,o⟩ | ⟨B,o⟩
 ·have t:=kp _ _ o (n o (by show 0<11;decide));refine Y0 ?_;walk_at"s";refine aH f c.cW c.nWk mL ?_;refine aH h c.cK c.nKl pH ?_;walk_at"s";refine⟨A.lk,dl,_,rfl,t,rfl,?_⟩;walk_at"s";refine aH f c.cW c.nWd dZ ?_;walk_at"s";refine jC (cB.of i) ?_;rw[I];walk_at"s";refine⟨A.lk,_,rfl,by omega,by omega,?_⟩;walk_at"s";exact fin rfl (by unfold qj;rw[if_pos B,if_pos rfl,Int.toNat_natCast]) _ m.symm
 ·have t:=kp _ _ o (n o (by show 0<11;decide));refine K3 (Y0 ?_);walk_at"s";refine aH f c.cW c.nWk mL ?_;refine aH h c.cK c.nKl pH ?_;walk_at"s";refine⟨A.lk,dl,_,rfl,t,rfl,?_⟩;walk_at"s";refine aH f c.cW c.nWd dZ ?_;walk_at"s";refine jC (cB.of i) ?_;rw[I];walk_at"s";refine⟨A.lk,_,rfl,by omega,by omega,?_⟩;walk_at"s";exact fin rfl (by unfold qj;rw[if_neg (show ¬ (1:Nat)=0 by decide),if_neg (by omega)]) _ m.symm
 ·have t:=kp _ _ o (n o (by show 0<11;decide));refine K3 (K3 ?_);walk_at"s";refine aH f c.cW c.nWk mL ?_;refine aH h c.cK c.nKl pH ?_;walk_at"s";refine⟨A.lk,dl,_,rfl,t,rfl,?_⟩;walk_at"s";refine aH f c.cW c.nWd dZ ?_;walk_at"s";refine jC (cB.of i) ?_;rw[I];walk_at"s";refine⟨A.lk,_,rfl,by omega,by omega,?_⟩;walk_at"s";exact fin rfl (by unfold qj;rw[if_neg (show ¬ (1:Nat)=0 by decide),if_neg (by omega)]) _ m.symm
end
def RZ(M:Wm):Bool:=decide (M.sw.phase="walk"\/M.sw.phase="lost")
def S9(M:Wm)(p b:Int):AA:=if uB M p b=true then none else match cellAt M p with
 | none=>none
 | some c=>if RZ M=true/\¬ c.tone=M.sw.sense then none else some p
def vB(X:Cs):Sp:=λvs H Q E=>∃wo,vs=[.ref wo]/\∃T s A M,WJ0 X H T s A M/\A.wo=wo/\∀H',aW H H'->Q (.bl (RZ M)) H'
def Hg(X:Cs):Sp:=λvs H Q E=>∃wo p b,vs=[.ref wo,.int p,.int b]/\∃T s A M,WJ0 X H T s A M/\A.wo=wo/\∀H',aW H H'->Q (oV (S9 M p b)) H'
section
variable {K:aB}{X:Cs}{H:Hp}{Q:VK}{E:XK}{n:St->Hp->Prop}{bk ct:St->Hp->Prop}
theorem W5{wo:AH}(T:qm K X)(q:∃T s A M,WJ0 X H T s A M/\A.wo=wo/\∀H',aW H H'->Q (.bl (RZ M)) H'):yD K ⟨n,Q,bk,ct⟩ [some (.ref wo)] H:=by
 obtain⟨Tg,s,A,M,j,rfl,q⟩:=q;obtain⟨g,ow⟩:=j.jb.ow;obtain⟨h,os⟩:=j.js.os;unfold yD;walk_at"e";refine aH ow T.cW T.Rr bx ?_;walk_at"e";refine aH os T.cS T.n2 fX ?_;walk_at"e";refine⟨aR (by simp),λtp f=>?_⟩;generalize a:upd H tp _=H1;obtain⟨e,c⟩:=nwO f a;refine⟨tp,_,rfl,.inr (gw.of c),rfl,rfl,?_⟩;have q:=q H1 e;rw[show RZ M=(if false=true then !inV (V.str M.sw.phase) [V.str "walk",.str "lost"]else inV (V.str M.sw.phase) [V.str "walk",.str "lost"])from by
  rw[if_neg Bool.false_ne_true];unfold RZ inV
  by_cases h1:M.sw.phase="walk"
  ·simp[h1,Zi]
  ·by_cases h2:M.sw.phase="lost"
   ·simp[h2,Zi]
   ·have d:¬ ("walk":Str)=M.sw.phase:=λz=>h1 z.symm;have b:¬ ("lost":Str)=M.sw.phase:=λz=>h2 z.symm;simp[h1,h2,d,b,Zi]]at q
 exact q
theorem Zif{wo:AH}{p b:Int}(T:qm K X)(q:∃T s A M,WJ0 X H T s A M/\A.wo=wo/\∀H',aW H H'->Q (oV (S9 M p b)) H'):IW K (Jv X) (cQ X) (vB X) ⟨n,Q,bk,ct⟩ [some (.ref wo),some (.int p),some (.int b)] H:=by
 obtain⟨Tg,s,A,M,j,rfl,q⟩:=q;unfold IW;walk_at"e";refine⟨_,_,_,rfl,Tg,s,A,M,j,rfl,?_⟩;have h:∀c,cellAt M p=some c->uB M p b=false->S9 M p b=if RZ M=true/\¬ c.tone=M.sw.sense then none else some p:=λc hc a=>by
  unfold S9;rw[a,if_neg Bool.false_ne_true,hc]
 cases a:uB M p b with
 | true=>
  walk_at"e";have:=q H (aW.refl _);rw[show S9 M p b=none from if_pos a]at this;exact this
 | false=>
  walk_at"e";refine⟨_,rfl,Tg,s,A,M,j,rfl,λt o=>?_⟩;obtain⟨c,hc⟩:∃c,cellAt M p=some c:=by
   cases e:cellAt M p with
   | none=>
    have:uB M p b=true:=by unfold uB;rw[e]
    rw[this]at a;cases a
   | some c=>exact⟨c,rfl⟩
  have q:=q t o;rw[h c hc a]at q;have d:=j.same o;cases m:RZ M with
  | false=>
   walk_at"e";rw[if_neg (λz=>by rw[m]at z;cases z.1)]at q;exact q
  | true=>
   walk_at"e";obtain⟨y,ow⟩:=d.jb.ow;obtain⟨B,oh⟩:=d.jh.oh;rcases d.look (some p)with ⟨f,_⟩ | ⟨i,x,l,u,w,k,r,hp,_,ce⟩
   ·have f:cellAt M p=none:=f;rw[hc]at f;cases f
   cases u;rw[hc]at k;cases k;refine aH ow T.cW T.PX bF ?_;walk_at"e";refine aH oh T.c.cR T.c.bN bW ?_;walk_at"e";refine je (cB.of d.jh.oc) (rN (v:=.ref l.1) w (by rw[cF,hp];rfl)) ?_;walk_at"e";refine⟨_,_,rfl,Tg,s,A,M,_,l,c,d,rfl,ce,rfl,?_⟩;walk_at"e"
   by_cases g:c.tone=M.sw.sense
   ·rw[if_neg (λz=>z.2 g)]at q;refine zX (λz=>absurd g z) (λ_=>?_);walk_at"e";exact q
   ·rw[if_pos ⟨m,g⟩]at q;refine zX (λ_=>?_) (λz=>absurd z g);walk_at"e";exact q
end
def vO(M:Wm):Au:=M.names.map λm=>S9 M m.2.1 m.2.2
def jQ(M:Wm):List Au:=heldOf M++[vO M]
def RJ(X:Cs):Sp:=λvs H Q E=>∃wo,vs=[.ref wo]/\∃T s A M,s≠0/\WJ X H T s A M/\A.wo=wo/\M.hands.length<=1000/\M.names.length<=1000/\∀(l:AH) (ls:AE) H',aW H H'->H l=none->H' l=some (.lst (ls.map V.ref))->ls.length=(jQ M).length->(∀r∈ls,H r=none)->l∉ls->(∀(j:Nat) r x,ls[j]? =some r->(jQ M)[j]? =some x->H' r=some (.lst (x.map oV)))->Q (.ref l) H'
section
variable {K:aB}{X:Cs}{H:Hp}{Q:VK}{E:XK}{n:St->Hp->Prop}{bk ct:St->Hp->Prop}
theorem ZAv{T:Tg}{ns:AE}{names:List (Str×(Int×Int))}(h:Al (NmO H T) ns names):∀{i:Nat}{kv:L2.Key×V},(Dk names ns)[i]? =some kv->∃t m,names[i]? =some m/\kv.2=.ref t/\H t=some (.tup [.int m.2.1,.int m.2.2])/\T t=(0,0):=by
 induction h with
 | nil=>intro i kv e;simp[Dk]at e
 | cons a h b=>
  intro i kv e;cases i with
  | zero=>cases e;exact⟨_,_,rfl,rfl,a.2,a.1⟩
  | succ i=>exact b (i:=i) (kv:=kv) (by simpa[Dk]using e)
theorem Zpe{wo:AH}(T:qm K X)(q:∃T s A M,s≠0/\WJ X H T s A M/\A.wo=wo/\M.hands.length<=1000/\M.names.length<=1000/\∀(l:AH) (ls:AE) H',aW H H'->H l=none->H' l=some (.lst (ls.map V.ref))->ls.length=(jQ M).length->(∀r∈ls,H r=none)->l∉ls->(∀(j:Nat) r x,ls[j]? =some r->(jQ M)[j]? =some x->H' r=some (.lst (x.map oV)))->Q (.ref l) H'):
  Te K (Zdl X) (Hg X) H ⟨n,Q,bk,ct⟩ [some (.ref wo)] H:=by
 obtain⟨Tg,s,A,M,h0,j,rfl,hh,hn,q⟩:=q;unfold Te;walk_at"e";refine⟨_,rfl,Tg,s,A,M,j,rfl,hh,λl1 a H1 s1 nl1 ol1 J nd1 nn1 ZLg g1=>?_⟩;have j1:=j.same s1;obtain⟨dw,ow⟩:=j1.jb.ow;have om:=j1.jn.om;walk_at"e";refine aH ow T.cW T.nWn nQ ?_;refine⟨_,_,rfl,.inl om,λvv nvv=>?_⟩;generalize zz:upd H1 vv _=H2;obtain⟨Y,g2⟩:=nwO nvv zz;have U:=j1.same Y;have E:=U.jn.om;refine⟨_,_,_,rfl,g2,E,λo=>?_⟩;have lnm:(Dk M.names A.ns).length=M.names.length:=Zqh U.jn.nms;have w3:=U.names (o:=.Ac o (.dK (Dk M.names A.ns))) h0;have d:∀b u,H2 b=some u->b≠A.nm->upd H2 A.nm (.Ac o (.dK (Dk M.names A.ns))) b=some u:=λb u hb nb=>by rw[aC nb];exact hb
 have S:upd H2 A.nm (.Ac o (.dK (Dk M.names A.ns))) A.nm=some (.Ac o (.dK (Dk M.names A.ns))):=aq;generalize upd H2 A.nm (.Ac o (.dK (Dk M.names A.ns)))=H3 at w3 d S ⊢;have nmn:∀t xs,H2 t=some (.tup xs)->t≠A.nm:=λt xs z=>rC z E (λy=>by cases y);refine Zln ?_;refine Zr9 M.names.length (by omega) (λi y _=>∃m,M.names[i]? =some m/\y=oV (S9 M m.2.1 m.2.2)) (λ_ _ _ _ h _=>h) (λH' s=>⟨s _ _ S,by omega⟩) (λi H' R s=>⟨s _ _ S,by omega⟩) (λi x H4 O R D y=>?_) ?_
 ·obtain⟨rfl,kv,Z,rfl⟩:=y;obtain⟨t,m,em,et,ot,tt⟩:=ZAv U.jn.nms Z;refine⟨rfl,λq hq=>Cu hq,λq hq=>?_⟩;have ot4:=D _ _ (d _ _ ot (nmn _ _ ot));refine⟨t,_,_,_,by rw[et],gw.of ot4,?_⟩;walk_at"c";walk_at"e";exact⟨_,_,_,rfl,Tg,s,A,M,w3.same D,rfl,λH6 f=>hq _ _ f ⟨m,em,rfl⟩⟩
 ·intro ys H4 D ly hy p P;have ey:ys=(vO M).map oV:=by
   refine List.ext_getElem? λi=>?_
   by_cases R:i<ys.length
   ·obtain⟨m,v,g⟩:=hy i ys[i] (bM R);rw[bM R,g];unfold vO;rw[cF,cF,v];rfl
   ·rw[List.getElem?_eq_none (by omega),List.getElem?_eq_none];unfold vO;rw[aY,aY];omega
  subst ey;have g5:=D _ _ S;have w:p≠A.nm:=λz=>by rw[z,g5]at P;cases P
  refine⟨A.nm,o,_,by rw[aC w.symm];exact g5,(λo' u z=>by rw[j.jn.om]at z;cases z),?_⟩;generalize B:upd (upd H4 p (.lst ((vO M).map oV))) A.nm (.dK (Dk M.names A.ns))=O;have I:aW H2 O:=λb u hb=>by
   rw[<- B]
   by_cases z:b=A.nm
   ·subst z;rw[aq];rw[E]at hb;exact hb
   ·have h3:=d b u hb z;rw[aC z,aC (aD (D _ _ h3) P)];exact D _ _ h3
  have np2:H2 p=none:=by
   cases z:H2 p with
   | none=>rfl
   | some u=>
    have:=D _ _ (d p u z w);rw[P]at this;cases this
  have F:O p=some (.lst ((vO M).map oV)):=by rw[<- B,aC w];exact aq
  clear B;have N:=s1.trans (Y.trans I);have C:=Y.trans I;walk_at"e";refine⟨aR (by simp),λl2 nl2=>?_⟩;generalize zz:upd O l2 _=H6;obtain⟨f,g6⟩:=nwO nl2 zz;refine⟨l1,l2,_,_,rfl,rfl,f _ _ (C _ _ ol1),g6,?_,λl3 c=>?_⟩
  ·rw[aY];have:(heldOf M).length=M.hands.length:=by unfold heldOf;rw[aY]
   exact aR (by simp;omega)
  have W:=aK c (.lst (a.map V.ref++[.ref p]));have L:=N.trans (f.trans W);have e7:a.map V.ref++[V.ref p]=(a++[p]).map V.ref:=by rw[List.map_append];rfl
  rw[e7]at W L ⊢;have fp:H p=none:=s1.free (Y.free np2);refine q l3 (a++[p]) _ L (N.free (f.free c)) aq ?_ (λr hr=>?_) (λhr=>?_) λk r x v g=>?_
  ·unfold jQ;rw[List.length_append,List.length_append,J];rfl
  ·rcases List.mem_append.mp hr with hr | hr
   ·exact nn1 r hr
   ·rw[List.mem_singleton.mp hr];exact fp
  ·rcases List.mem_append.mp hr with hr | hr
   ·obtain⟨k,hk,e⟩:=List.getElem_of_mem hr;have:=g1 k l3 (heldOf M)[k] (by rw[bM hk,e]) (bM (by omega));rw[f _ _ (C _ _ this)]at c;cases c
   ·rw[List.mem_singleton.mp hr,f _ _ F]at c;cases c
  ·unfold jQ at g
   by_cases hk:k<a.length
   ·rw[List.getElem?_append_left hk]at v;rw[List.getElem?_append_left (by omega)]at g;exact W _ _ (f _ _ (C _ _ (g1 k r x v g)))
   ·have hk2:=(dY v).1;rw[List.length_append,List.length_singleton]at hk2;have ek:k=a.length:=by omega
    rw[List.getElem?_append_right (by omega)]at v g;rw[ek,Nat.sub_self]at v;rw[ek,J,Nat.sub_self]at g;cases v;cases g;exact W _ _ (f _ _ F)
end
namespace KB
abbrev Fd:=List (Option Au)
def fat(F:Fd)(p:Int):Option Au:=if 0<=p then(F[p.toNat]?).join else none
def nxt(F:Fd)(pl:AA)(f:Int):AA:=match pl with
 | none=>none
 | some p=>match fat F p with
  | none=>none
  | some fl=>if 0<=f then(fl[f.toNat]?).join else none
abbrev Rw:=List Au
def slt(R:Rw)(r s:Int):AA:=((R[r.toNat]?).bind λx=>x[s.toNat]?).join
def Zeq(F:Fd)(w:AD)(x:AA×Nat):Option (Int×AD):=match x.1 with
 | none=>none
 | some q=>if (fat F q).isSome then some (q,w++[(x.2:Int)])else none
def onw(F:Fd)(w:AD)(n:Nat)(ps:Au):List (Int×AD):=(ps.zipIdx n).filterMap (Zeq F w)
def q0(F:Fd)(n:Nat)(R:Rw):List (Int×AD):=(R.zipIdx n).flatMap λx=>onw F [(x.2:Int)] 0 x.1
structure Good(F:Fd)(R:Rw)(p:Int)(w:AD):Prop where
 ex:∃r s fs row,w=r::s::fs/\0<=r/\0<=s/\R[r.toNat]? =some row/\s.toNat<row.length/\(∀f∈fs,0<=f)/\fs.foldl (nxt F) (slt R r s)=some p
 there:(fat F p).isSome=true
theorem Rx{F:Fd}{w:AD}{n:Nat}{ps:Au}{q:Int}{v:AD}(h:(q,v)∈onw F w n ps):∃k,ps[k]? =some (some q)/\v=w++[((n+k:Nat):Int)]/\(fat F q).isSome=true:=by
 obtain⟨⟨x,m⟩,hm,e⟩:=List.mem_filterMap.mp h;obtain⟨b,a⟩:=List.mem_zipIdx_iff_le_and_getElem?_sub.mp hm;unfold Zeq at e;cases x with
 | none=>cases e
 | some c=>
  simp only at e;split at e
  ·rename_i hs
   cases e;refine⟨m - n,a,?_,hs⟩;have:n+(m - n)=m:=by have:=b;simp only at this;omega
   rw[this]
  ·cases e
theorem Zry{F:Fd}{R:Rw}{p q:Int}{w v:AD}{fl:Au}(g:Good F R p w)(a:fat F p=some fl)(h:(q,v)∈onw F w 0 fl):Good F R q v:=by
 obtain⟨k,hk,rfl,hs⟩:=Rx h;obtain⟨⟨r,s,fs,b,rfl,h1,h2,h3,h4,h5,h6⟩,_⟩:=g;refine⟨⟨r,s,fs++[((0+k:Nat):Int)],b,rfl,h1,h2,h3,h4,λf a=>?_,?_⟩,hs⟩
 ·rcases List.mem_append.mp a with z | z
  ·exact h5 f z
  ·have:f=((0+k:Nat):Int):=by simpa using z
   omega
 ·rw[List.foldl_append,h6];show nxt F (some p) _=some q;unfold nxt;simp only[a];rw[if_pos (by omega)];have:(((0+k:Nat):Int)).toNat=k:=by omega
  rw[this,hk];rfl
theorem Zvp{F:Fd}{R:Rw}{q:Int}{v:AD}(h:(q,v)∈q0 F 0 R):Good F R q v:=by
 obtain⟨⟨a,n⟩,hm,h⟩:=List.mem_flatMap.mp h;have hr:R[n]? =some a:=List.mem_zipIdx_iff_getElem?.mp hm;obtain⟨k,hk,rfl,hs⟩:=Rx h;refine⟨⟨(n:Int),((0+k:Nat):Int),[],a,rfl,by omega,by omega,by simpa using hr,?_,(λf c=>by cases c),?_⟩,hs⟩
 ·have:k<a.length:=(dY hk).1;omega
 ·show slt R _ _=some q;unfold slt;have b:((n:Int)).toNat=n:=by omega
  have d:(((0+k:Nat):Int)).toNat=k:=by omega
  rw[b,d,hr];simp only[Option.bind_some,hk,Option.join_some]
inductive Vz(F:Fd)(R:Rw):List (Int×AD)->Nat->List (Int×AD)->Prop
 | start:Vz F R (q0 F 0 R) 0 []
 | old {q k l p w}:Vz F R q k l->q[k]? =some (p,w)->p∈l.map (·.1)->Vz F R q (k+1) l
 | new {q k l p w fl}:Vz F R q k l->q[k]? =some (p,w)->p∉l.map (·.1)->fat F p=some fl->Vz F R (q++onw F w 0 fl) (k+1) (l++[(p,w)])
theorem Vz.good{F:Fd}{R:Rw}{q l:List (Int×AD)}{k:Nat}(b:Vz F R q k l):(∀x∈q,Good F R x.1 x.2)/\∀x∈l,Good F R x.1 x.2:=by
 induction b with
 | start=>exact⟨λx hx=>Zvp hx,λx hx=>nomatch hx⟩
 | old _ _ _ a=>exact a
 | new b hq hn d a=>
  have g:=a.1 _ (List.mem_of_getElem? hq);refine⟨λx hx=>?_,λx hx=>?_⟩
  ·rcases List.mem_append.mp hx with z | z
   ·exact a.1 x z
   ·exact Zry g d z
  ·rcases List.mem_append.mp hx with z | z
   ·exact a.2 x z
   ·have c:=List.mem_singleton.mp z;rw[c];exact g
def wgt:Option Au->Nat
 | none=>0
 | some fl=>fl.length
def Zhg(F:Fd)(l:List (Int×AD)):Nat:=((F.zipIdx).map λx=>if (x.2:Int)∈l.map (·.1)then 0 else wgt x.1).sum
theorem Zp4{a:Type}(f g:a->Nat):∀(xs:List a),(∀x∈xs,g x<=f x)->(xs.map g).sum<=(xs.map f).sum
 | [],_=>Nat.le_refl _
 | x::xs,h=>by
  have h1:=h x (by simp);have h2:=Zp4 f g xs λy hy=>h y (by simp[hy]);simp only[List.map_cons,List.sum_cons];omega
theorem Ze2{b:Type}(f g:b->Nat)(d:Nat):∀(xs:List b) (a:b),a∈xs->(∀x∈xs,g x<=f x)->g a+d<=f a->(xs.map g).sum+d<=(xs.map f).sum
 | [],_,h,_,_=>nomatch h
 | x::xs,a,c,h,hd=>by
  have h1:=h x (by simp);have h2:=Zp4 f g xs λy hy=>h y (by simp[hy]);simp only[List.map_cons,List.sum_cons];rcases List.mem_cons.mp c with z | z
  ·subst z;omega
  ·have h3:=Ze2 f g d xs a z (λy hy=>h y (by simp[hy])) hd;omega
theorem Rp{F:Fd}{w:AD}{n:Nat}{ps:Au}:(onw F w n ps).length<=ps.length:=by
 unfold onw;have:=List.length_filterMap_le (Zeq F w) (ps.zipIdx n);rw[List.length_zipIdx]at this;exact this
theorem Zou{F:Fd}{l:List (Int×AD)}{p:Int}{w:AD}{fl:Au}(hn:p∉l.map (·.1))(a:fat F p=some fl):Zhg F (l++[(p,w)])+fl.length<=Zhg F l:=by
 unfold fat at a;split at a
 ·rename_i b
  have hp:F[p.toNat]? =some (some fl):=by
   cases e:F[p.toNat]? with
   | none=>rw[e]at a;cases a
   | some x=>rw[e]at a;simp only[Option.join_some]at a;rw[a]
  unfold Zhg;refine Ze2 _ _ fl.length _ (some fl,p.toNat) (List.mem_zipIdx_iff_getElem?.mpr hp) (λx _=>?_) ?_
  ·simp only[List.map_append,List.map_cons,List.map_nil,List.mem_append]
   by_cases h1:(x.2:Int)∈l.map (·.1)
   ·simp only[h1,true_or,↓reduceIte,Nat.le_refl]
   ·simp only[h1,false_or];split
    ·exact Nat.zero_le _
    ·exact Nat.le_refl _
  ·have e:((p.toNat:Nat):Int)=p:=by omega
   simp only[List.map_append,List.map_cons,List.map_nil,List.mem_append,e];rw[if_pos (.inr (by simp)),if_neg hn];show 0+fl.length<=wgt (some fl);show 0+fl.length<=fl.length;omega
 ·cases a
def total(F:Fd)(R:Rw):Nat:=(q0 F 0 R).length+Zhg F []
theorem Vz.bound{F:Fd}{R:Rw}{q l:List (Int×AD)}{k:Nat}(b:Vz F R q k l):q.length+Zhg F l<=total F R:=by
 induction b with
 | start=>exact Nat.le_refl _
 | old _ _ _ a=>exact a
 | new b hq hn c a=>
  have h2:=@Rp F;rw[List.length_append];refine Nat.le_trans ?_ a
  rename_i w fl
  have h3:=h2 (w:=w) (n:=0) (ps:=fl);have h4:=Zou (w:=w) hn c;omega
end KB
def Zw5(cs:List V)(i:Int):V:=if 0<=i then(cs[i.toNat]?).getD .non else .non
def CO(a:AH)(H:Hp)(cs:List V)(i:Nat):Option Au->Prop
 | none=>cs[i]? =some .non
 | some fl=>∃p fa b u t l,cs[i]? =some (.ref p)/\Ab a H p fa b u t l (fl.map oV)
structure HV(CC CH:AH)(H:Hp)(hp:AH)(F:KB.Fd):Prop where
 ex:∃ca room used born cs,HpO CH H hp ca room used born cs/\cs.length=F.length/\∀(i:Nat) x,F[i]? =some x->CO CC H cs i x
theorem HpO.same{a:AH}{H H':Hp}{hp ca:AH}{room used born:Int}{cs:List V}(h:HpO a H hp ca room used born cs)(s:aW H H'):HpO a H' hp ca room used born cs:=by
 obtain⟨⟨b,h1⟩,h2⟩:=h;exact⟨⟨b,s _ _ h1⟩,s _ _ h2⟩
theorem CO.same{a:AH}{H H':Hp}{cs:List V}{i:Nat}{x:Option Au}(h:CO a H cs i x)(s:aW H H'):CO a H' cs i x:=by
 cases x with
 | none=>exact h
 | some fl=>
  obtain⟨p,d,b,u,t,l,e,c⟩:=h;exact⟨p,d,b,u,t,l,e,c.same s⟩
theorem HV.same{b a:AH}{H H':Hp}{hp:AH}{F:KB.Fd}(h:HV b a H hp F)(s:aW H H'):HV b a H' hp F:=by
 obtain⟨ca,room,used,born,cs,o,l,e⟩:=h;exact⟨ca,room,used,born,cs,o.same s,l,λi x hx=>(e i x hx).same s⟩
theorem Zs9{f:AH}{H:Hp}{cs:List V}{F:KB.Fd}(hl:cs.length=F.length)(e:∀(i:Nat) x,F[i]? =some x->CO f H cs i x)(i:Int):
  (KB.fat F i=none/\Zw5 cs i=.non)\/∃fl p fa b u t l,KB.fat F i=some fl/\Zw5 cs i=.ref p/\cs[i.toNat]? =some (.ref p)/\0<=i/\Ab f H p fa b u t l (fl.map oV):=by
 unfold KB.fat Zw5
 by_cases g:0<=i
 ·simp only[g,↓reduceIte];cases a:F[i.toNat]? with
  | none=>
   have:cs[i.toNat]? =none:=by rw[List.getElem?_eq_none_iff]at a ⊢;omega
   exact .inl ⟨rfl,by rw[this];rfl⟩
  | some x=>
   have c:=e _ _ a;cases x with
   | none=>exact .inl ⟨rfl,by rw[show cs[i.toNat]? =some V.non from c];rfl⟩
   | some fl=>
    obtain⟨p,fa,b,u,t,l,d,h⟩:=c;exact .inr ⟨fl,p,fa,b,u,t,l,rfl,by rw[d];rfl,d,trivial,h⟩
 ·simp only[g,↓reduceIte];exact .inl ⟨trivial,trivial⟩
def Jy(H:Hp):AE->List (Int×AD)->Prop
 | [],[]=>True
 | t::ts,x::b=>(∃a,H t=some (.tup [.int x.1,.ref a])/\H a=some (.tup (x.2.map V.int)))/\Jy H ts b
 | _,_=>False
theorem Jy.same{H H':Hp}(s:aW H H'):∀{ts:AE}{b:List (Int×AD)},Jy H ts b->Jy H' ts b
 | [],[],_=>trivial
 | [],_::_,h=>h.elim
 | _::_,[],h=>h.elim
 | _::_,_::_,⟨⟨a,h1,h2⟩,h3⟩=>⟨⟨a,s _ _ h1,s _ _ h2⟩,Jy.same s h3⟩
theorem Jy.app{H:Hp}:∀{ts us:AE}{a rs:List (Int×AD)},Jy H ts a->Jy H us rs->Jy H (ts++us) (a++rs)
 | [],_,[],_,_,h=>h
 | [],_,_::_,_,h,_=>h.elim
 | _::_,_,[],_,h,_=>h.elim
 | _::_,_,_::_,_,⟨h1,h3⟩,h=>⟨h1,Jy.app h3 h⟩
theorem Jy.len{H:Hp}:∀{ts:AE}{a:List (Int×AD)},Jy H ts a->ts.length=a.length
 | [],[],_=>rfl
 | [],_::_,h=>h.elim
 | _::_,[],h=>h.elim
 | _::_,_::_,⟨_,h3⟩=>by rw[List.length_cons,List.length_cons,Jy.len h3]
theorem Jy.at{H:Hp}:∀{ts:AE}{b:List (Int×AD)}{i:Nat}{x:Int×AD},Jy H ts b->b[i]? =some x->∃t a,ts[i]? =some t/\H t=some (.tup [.int x.1,.ref a])/\H a=some (.tup (x.2.map V.int))
 | [],[],_,_,_,e=>by simp at e
 | [],_::_,_,_,h,_=>h.elim
 | _::_,[],_,_,h,_=>h.elim
 | t::_,_::_,0,_,⟨⟨a,h1,h2⟩,_⟩,e=>by cases e;exact⟨t,a,rfl,h1,h2⟩
 | _::_,_::_,i+1,_,⟨_,h3⟩,e=>Jy.at (i:=i) h3 e
def Gs(K:aB)(b c:AH):Sp:=λvs H Q E=>∃hp a wt F ps w,vs=[.ref hp,.ref a,.ref wt]/\HV b c H hp F/\cB K H a (ps.map oV)/\gw K H wt (w.map V.int)/\w≠[]/\w.length<=100000/\ps.length<=1000/\
 ∀l ts H',H l=none->aW H H'->H' l=some (.lst (ts.map V.ref))->Jy H' ts (KB.onw F w 0 ps)->Q (.ref l) H'
def Jw(K:aB)(H:Hp):AE->KB.Rw->Prop
 | [],[]=>True
 | a::b,r::R=>cB K H a (r.map oV)/\Jw K H b R
 | _,_=>False
theorem Jw.same{K:aB}{H H':Hp}(s:aW H H'):∀{a:AE}{R:KB.Rw},Jw K H a R->Jw K H' a R
 | [],[],_=>trivial
 | [],_::_,h=>h.elim
 | _::_,[],h=>h.elim
 | _::_,_::_,⟨h1,h3⟩=>⟨s.seq h1,Jw.same s h3⟩
theorem Jw.len{K:aB}{H:Hp}:∀{a:AE}{R:KB.Rw},Jw K H a R->a.length=R.length
 | [],[],_=>rfl
 | [],_::_,h=>h.elim
 | _::_,[],h=>h.elim
 | _::_,_::_,⟨_,h3⟩=>by rw[List.length_cons,List.length_cons,Jw.len h3]
theorem Jw.at{K:aB}{H:Hp}:∀{b:AE}{R:KB.Rw}{i:Nat}{a:AH},Jw K H b R->b[i]? =some a->∃r,R[i]? =some r/\cB K H a (r.map oV)
 | [],[],_,_,_,e=>by simp at e
 | [],_::_,_,_,h,_=>h.elim
 | _::_,[],_,_,h,_=>h.elim
 | _::_,r::_,0,_,⟨h1,_⟩,e=>by cases e;exact⟨r,rfl,h1⟩
 | _::_,_::_,i+1,_,⟨_,h3⟩,e=>Jw.at (i:=i) h3 e
structure Few(F:KB.Fd)(R:KB.Rw):Prop where
 f:F.length<=1000
 g:∀p fl,KB.fat F p=some fl->fl.length<=1000
 r:R.length<=1000
 s:∀x∈R,x.length<=1000
 t:KB.total F R<=90000
def Hi(K:aB)(c d:AH):Sp:=λvs H Q E=>∃hp a F rs R,vs=[.ref hp,.ref a]/\HV c d H hp F/\cB K H a (rs.map V.ref)/\Jw K H rs R/\Few F R/\
 ∀l ts q b H',KB.Vz F R q q.length b->H l=none->aW H H'->H' l=some (.lst (ts.map V.ref))->Jy H' ts b->Q (.ref l) H'
theorem ZC6{f e hp:AH}{H:Hp}{Q:VK}{E:XK}{pl:AA}{F:KB.Fd}(v:HV f e H hp F)(g:pl.bind (KB.fat F)=none->Q .non H)(h:∀fl p fa b u t l,pl.bind (KB.fat F)=some fl->Ab f H p fa b u t l (fl.map oV)->Q (.ref p) H):d9 e [.ref hp,oV pl] H Q E:=by
 obtain⟨ca,room,used,born,cs,o,hl,j⟩:=v;refine⟨hp,oV pl,rfl,zT pl,ca,room,used,born,cs,o,?_⟩;cases pl with
 | none=>exact g rfl
 | some i=>
  show Q (Zw5 cs i) H;rcases Zs9 hl j i with ⟨d,a⟩ | ⟨fl,p,fa,b,u,t,l,d,a,_,_,c⟩
  ·rw[a];exact g d
  ·rw[a];exact h fl p fa b u t l d c
theorem Zep(F:KB.Fd)(w:AD)(n:Nat)(ps:Au)(x:AA):KB.onw F w n (ps++[x])=KB.onw F w n ps++(KB.Zeq F w (x,n+ps.length)).toList:=by
 unfold KB.onw;rw[List.zipIdx_append,List.filterMap_append];congr 1
theorem take_snoc{a:Type}{xs:List a}{i:Nat}{x:a}(h:xs[i]? =some x):xs.take (i+1)=xs.take i++[x]:=by
 rw[List.take_add_one,h];rfl
theorem mO{H:Hp}{a:AH}{o:HO}(h:H a=none):aW H (upd H a o):=λb u q=>by rw[aC (aD q h)];exact q
section
variable {K:aB}{bB bw bV:AH}{H:Hp}{Q:VK}{E:XK}{n:St->Hp->Prop}{bk ct:St->Hp->Prop}
theorem Ziw{hp a wt:AH}{F:KB.Fd}{ps:Au}{w:AD}(v:HV bB bw H hp F)(O:cB K H a (ps.map oV))(Y:gw K H wt (w.map V.int))(E:w≠[])(S:w.length<=100000)(T:ps.length<=1000)
  (Zxe:∀{H':Hp},aW H H'->gw K H' wt (w.map V.int))
  (q:∀l ts H',H l=none->aW H H'->H' l=some (.lst (ts.map V.ref))->Jy H' ts (KB.onw F w 0 ps)->Q (.ref l) H'):
  GJ K (d9 bw) ⟨n,Q,bk,ct⟩ [some (.ref hp),some (.ref a),some (.ref wt)] H:=by
 unfold GJ;walk_at"e";refine⟨a,rfl,⟨_,O⟩,Zuu O (by rw[aY];omega) (λi s f=>aW H f/\i<=ps.length/\∃ts,s=ts.map V.ref/\Jy f ts (KB.onw F w 0 (ps.take i))) ⟨aW.refl _,Nat.zero_le _,[],rfl,trivial⟩ ?_ ?_ ?_⟩
 ·rintro i s f ⟨sm,R,ts,rfl,g⟩;refine⟨sm,?_⟩;rw[aY,g.len];refine Nat.le_trans KB.Rp ?_;rw[List.length_take];omega
 ·rintro i x s f t C P hx ⟨sm,R,ts,rfl,g⟩ U;walk_at"c";rw[cF]at hx;obtain⟨y,hy,rfl⟩:=Option.map_eq_some_iff.mp hx;have k:i<ps.length:=(dY hy).1;have j:0+(ps.take i).length=i:=by rw[List.length_take];omega
  have D:aW f (upd f t (.tup [.int i,oV y])):=mO U;have m:=sm.trans D;walk_at"e";refine ZC6 (v.same m) (λe=>?_) (λfl p Z b u t' l e c=>?_)
  ·refine Zjw ?_;walk_at"e";refine Zv2 (P _ _ ⟨m,k,ts,rfl,?_⟩);rw[take_snoc hy,Zep,j];have B:KB.Zeq F w (y,i)=none:=by
    unfold KB.Zeq;cases y with
    | none=>rfl
    | some d=>simp only;rw[show KB.fat F d=none from e];rfl
   rw[B];simp only[Option.toList_none,List.append_nil];exact g.same D
  ·refine Zjw ?_;walk_at"e";refine Zjs ?_;obtain⟨d,rfl⟩:∃d,y=some d:=by
    cases y with
    | none=>cases e
    | some d=>exact⟨d,rfl⟩
   have X:KB.fat F d=some fl:=e;walk_at"e";refine⟨(by show 1<=sizeLine;decide),λt2 J=>?_⟩;have N:=D.trans (mO (o:=.tup [.int i]) J);refine⟨wt,t2,w.map V.int,[.int i],rfl,rfl,Zxe (sm.trans N),gw.of aq,by simpa using E,by rw[aY];exact aR (by simp only[List.length_cons,List.length_nil];omega),(λz=>nomatch z),(λ_ h L=>?_)⟩;have W:=N.trans (mO (o:=.tup (w.map V.int++[.int i])) L);walk_at"e";refine⟨(by show 2<=sizeLine;decide),λI r=>?_⟩;have M:=W.trans (mO (o:=.tup [oV (some d),.ref h]) r);have A:h≠I:=aD aq r;have h3:upd (upd (upd (upd f t (.tup [.int i,oV (some d)])) t2 (.tup [.int i])) h (.tup (w.map V.int++[.int i]))) I (.tup [oV (some d),.ref h]) h=some (.tup (w.map V.int++[.int i])):=by
    rw[aC A,aq]
   walk_at"e";refine P _ _ ⟨sm.trans M,k,ts++[I],by simp,?_⟩;rw[take_snoc hy,Zep,j];have B:KB.Zeq F w (some d,i)=some (d,w++[(i:Int)]):=by
    unfold KB.Zeq;simp only[X,Option.isSome_some,↓reduceIte]
   rw[B];refine(g.same M).app ⟨⟨h,aq,?_⟩,trivial⟩;rw[h3,List.map_append];rfl
 ·rintro s f ⟨sm,_,ts,rfl,g⟩ l hl;walk_at"e";rw[aY,List.take_length]at g;exact q l ts _ (sm.free hl) (sm.trans (mO hl)) aq (g.same (mO hl))
end
theorem Zxe{K:aB}{H H':Hp}{a:AH}{xs:List V}(e:aW H H')(h:gw K H a xs):gw K H' a xs:=by
 rcases h with (h | ⟨o,h⟩) | h
 ·exact .inl (.inl (e _ _ h))
 ·exact .inl (.inr ⟨o,e _ _ h⟩)
 ·exact .inr h
def TK(H H':Hp):Prop:=∀b xs,H b=some (.tup xs)->H' b=some (.tup xs)
theorem TK.same{H H':Hp}(s:aW H H'):TK H H':=λb _ h=>s b _ h
theorem TK.upd{H:Hp}{a:AH}{o:HO}(h:∀xs,H a≠some (.tup xs)):TK H (L2.upd H a o):=λb xs q=>by
 have n:b≠a:=λz=>h xs (by rw[<- z];exact q);rw[aC n];exact q
theorem TK.trans{H d e:Hp}(a:TK H d)(b:TK d e):TK H e:=λc xs h=>b c xs (a c xs h)
theorem Jy.tk{H H':Hp}(s:TK H H'):∀{ts:AE}{b:List (Int×AD)},Jy H ts b->Jy H' ts b
 | [],[],_=>trivial
 | [],_::_,h=>h.elim
 | _::_,[],h=>h.elim
 | _::_,_::_,⟨⟨a,h1,h2⟩,h3⟩=>⟨⟨a,s _ _ h1,s _ _ h2⟩,Jy.tk s h3⟩
def Zr(H:Hp):List (Key×V)->List (Int×AD)->Prop
 | [],[]=>True
 | kv::b,x::c=>(kv.1=Sum.inl x.1/\∃a,kv.2=.ref a/\H a=some (.tup (x.2.map V.int)))/\Zr H b c
 | _,_=>False
theorem Zr.tk{H H':Hp}(s:TK H H'):∀{b:List (Key×V)}{c:List (Int×AD)},Zr H b c->Zr H' b c
 | [],[],_=>trivial
 | [],_::_,h=>h.elim
 | _::_,[],h=>h.elim
 | _::_,_::_,⟨⟨d,a,h1,h2⟩,h3⟩=>⟨⟨d,a,h1,s _ _ h2⟩,Zr.tk s h3⟩
theorem Zr.app{H:Hp}:∀{b ls:List (Key×V)}{a rs:List (Int×AD)},Zr H b a->Zr H ls rs->Zr H (b++ls) (a++rs)
 | [],_,[],_,_,h=>h
 | [],_,_::_,_,h,_=>h.elim
 | _::_,_,[],_,h,_=>h.elim
 | _::_,_,_::_,_,⟨h1,h3⟩,h=>⟨h1,Zr.app h3 h⟩
theorem Zr.len{H:Hp}:∀{ts:List (Key×V)}{a:List (Int×AD)},Zr H ts a->ts.length=a.length
 | [],[],_=>rfl
 | [],_::_,h=>h.elim
 | _::_,[],h=>h.elim
 | _::_,_::_,⟨_,h3⟩=>by rw[List.length_cons,List.length_cons,Zr.len h3]
theorem Zr.val{H:Hp}(p:Int):∀{a:List (Key×V)}{b:List (Int×AD)},Zr H a b->(oN a (Sum.inl p)).isSome=decide (p∈b.map (·.1))
 | [],[],_=>by simp[oN]
 | [],_::_,h=>h.elim
 | _::_,[],h=>h.elim
 | kv::a,x::b,⟨⟨c,_⟩,h3⟩=>by
  by_cases e:x.1=p
  ·rw[nR (by rw[c,e])];simp[e]
  ·rw[nT (by rw[c];exact λz=>e (Sum.inl.inj z)),Zr.val p h3];simp only[List.map_cons,List.mem_cons];have d:¬ p=x.1:=λz=>e z.symm;simp only[d,false_or]
theorem Zr.prs{H:Hp}:∀{ts:AE}{b:List (Key×V)}{c:List (Int×AD)},Zr H b c->Zgt H ts b->Jy H ts c
 | [],[],[],_,_=>trivial
 | _,[],_::_,h,_=>h.elim
 | _,_::_,[],h,_=>h.elim
 | [],_::_,_::_,_,h=>h.elim
 | _::_,[],[],_,h=>h.elim
 | t::ts,kv::b,x::c,⟨⟨f,a,h1,h2⟩,h3⟩,⟨e,d⟩=>⟨⟨a,by rw[e,f,h1];rfl,h2⟩,Zr.prs h3 d⟩
theorem Ztm(F:KB.Fd)(R:KB.Rw)(i:Nat)(r:Au)(h:R[i]? =some r):KB.q0 F 0 (R.take (i+1))=KB.q0 F 0 (R.take i)++KB.onw F [(i:Int)] 0 r:=by
 unfold KB.q0;rw[take_snoc h,List.zipIdx_append,List.flatMap_append];have hl:(R.take i).length=i:=by
  have:=(dY h).1;rw[List.length_take];omega
 rw[hl];simp only[List.zipIdx_cons,List.zipIdx_nil,List.flatMap_cons,List.flatMap_nil,List.append_nil,Nat.zero_add]
structure RS(K:aB)(CC CH:AH)(H0 H:Hp)(ql d:AH)(F:KB.Fd)(R:KB.Rw)(q qs:List (Int×AD))(k:Nat):Prop where
 sm:aW H0 H
 nq:H0 ql=none
 b:KB.Vz F R q k qs
 hk:k<=q.length
 oq:∃ts,H ql=some (.lst (ts.map V.ref))/\Jy H ts q
 od:∃kvs,H d=some (.dK kvs)/\Zr H kvs qs
 nd:H0 d=none
theorem Zr2{H:Hp}{a:AH}{xs:List V}{o:HO}(h:H a=some (.lst xs)):TK H (upd H a o):=TK.upd λb z=>by rw[h]at z;cases z
theorem ZC2{H:Hp}{a:AH}{xs:List (Key×V)}{o:HO}(h:H a=some (.dK xs)):TK H (upd H a o):=TK.upd λb z=>by rw[h]at z;cases z
theorem SN{H0 H:Hp}{a:AH}{o:HO}(s:aW H0 H)(h:H0 a=none):aW H0 (upd H a o):=λb u q=>by rw[aC (aD q h)];exact s b u q
theorem Zwe{F:KB.Fd}{R:KB.Rw}{q l:List (Int×AD)}{k:Nat}(b:KB.Vz F R q k l):l.length<=k:=by
 induction b with
 | start=>exact Nat.le_refl _
 | old _ _ _ a=>omega
 | new _ _ _ _ a=>rw[List.length_append];simp only[List.length_cons,List.length_nil];omega
theorem Zsu{F:KB.Fd}{R:KB.Rw}{q l:List (Int×AD)}{k:Nat}(b:KB.Vz F R q k l):∀x∈q,x.2.length<=k+2:=by
 induction b with
 | start=>
  intro x hx;obtain⟨⟨c,n⟩,hm,h⟩:=List.mem_flatMap.mp hx;obtain⟨j,_,e,_⟩:=KB.Rx (q:=x.1) (v:=x.2) h;rw[e];simp
 | old _ _ _ a=>intro x hx;have:=a x hx;omega
 | new b hq _ _ a=>
  intro x hx;rcases List.mem_append.mp hx with z | z
  ·have:=a x z;omega
  ·obtain⟨j,_,e,_⟩:=KB.Rx (q:=x.1) (v:=x.2) z;have:=a _ (List.mem_of_getElem? hq);rw[e,List.length_append];simp only[List.length_cons,List.length_nil];simp only at this;omega
theorem Zxm(F:KB.Fd):∀(R S:KB.Rw) (n:Nat),(KB.q0 F n R).length<=(KB.q0 F n (R++S)).length:=λR S n=>by
 unfold KB.q0;rw[List.zipIdx_append,List.flatMap_append,List.length_append];omega
theorem Ztl(F:KB.Fd)(R:KB.Rw)(i:Nat):(KB.q0 F 0 (R.take i)).length<=KB.total F R:=by
 have:=Zxm F (R.take i) (R.drop i) 0;rw[List.take_append_drop]at this;unfold KB.total;omega
section
variable {K:aB}{bB bw bV:AH}{H:Hp}{Q:VK}{E:XK}{n:St->Hp->Prop}{bk ct:St->Hp->Prop}
theorem Zef{hp Y:AH}{F:KB.Fd}{rs:AE}{R:KB.Rw}{v2 v3 v4 v5 v6 J I:Option V}(T:TxC K bB bw)(v:HV bB bw H hp F)(hr:cB K H Y (rs.map V.ref))(rw':Jw K H rs R)(X:Few F R)
  (q:∀l ts q O H',KB.Vz F R q q.length O->H l=none->aW H H'->H' l=some (.lst (ts.map V.ref))->Jy H' ts O->Q (.ref l) H'):
  Bc K (Gs K bB bw) ⟨n,Q,bk,ct⟩ [some (.ref hp),some (.ref Y),v2,v3,v4,v5,v6,J,I] H:=by
 have hrl:=rw'.len;have f1:=X.r;unfold Bc;walk_at"e";refine⟨(by show 0<=sizeLine;decide),λA M=>?_⟩;walk_at"e";refine⟨Y,rfl,⟨_,(mO M).seq hr⟩,ZBv (rs.map V.ref) (λi U N=>i<=rs.length/\aW H N/\(∃ts,N A=some (.lst (ts.map V.ref))/\Jy N ts (KB.q0 F 0 (R.take i)))/\∃x y,U=[some (.ref hp),some (.ref Y),some (.ref A),x,y,v5,v6,J,I])
  ⟨Nat.zero_le _,mO M,⟨[],aq,trivial⟩,_,_,rfl⟩ (λi U N _ ⟨_,sm,_⟩=>sm.seq hr) ?_ ?_⟩
 ·rintro i x t U N hx ⟨hi,sm,⟨ts,f,D⟩,y,z,rfl⟩ ht;rw[cF]at hx;obtain⟨r,er,rfl⟩:=Option.map_eq_some_iff.mp hx;obtain⟨row,eR,hrow⟩:=rw'.at er;have hil:i<rs.length:=(dY er).1;have B:=mO (o:=.tup [.int i,.ref r]) ht;refine⟨t,_,rfl,gw.of aq,rfl,.int i,_,rfl,?_⟩;walk_at"e";refine⟨.ref r,_,rfl,?_⟩;walk_at"e";refine⟨rfl,?_⟩;walk_at"e";refine⟨.inl ⟨rfl,_,cB.of (B _ _ f)⟩,?_⟩;walk_at"e";refine⟨(by show 1<=sizeLine;decide),λt2 ht2=>?_⟩;have C:=B.trans (mO (o:=.tup [.int i]) ht2);walk_at"e";refine⟨hp,r,t2,F,row,[(i:Int)],rfl,v.same (sm.trans C),(sm.trans C).seq hrow,gw.of aq,(λz=>nomatch z),(by show 1<=100000;decide),X.s _ (List.mem_of_getElem? eR),λl us H' hl s3 hl' qa'=>?_⟩;have s4:=C.trans s3;have hq':H' A=some (.lst (ts.map V.ref)):=s4 _ _ f;walk_at"e";have hlen:ts.length<=100000:=by
   rw[D.len];exact Nat.le_trans (Nat.le_trans (Ztl F R i) X.t) (by decide)
  have hlen2:us.length<=1000:=by
   rw[qa'.len];exact Nat.le_trans KB.Rp (X.s _ (List.mem_of_getElem? eR))
  refine⟨A,l,_,_,rfl,rfl,hq',hl',by rw[aY,aY];exact aR (by omega),?_⟩;walk_at"e";refine⟨hil,SN (sm.trans s4) M,⟨ts++us,by rw[aq,List.map_append],?_⟩,_,_,rfl⟩;rw[Ztm F R i row eR];exact((D.same s4).app qa').tk (Zr2 hq')
 ·rintro U N ⟨hi,sm,⟨ts,f,D⟩,y,z,rfl⟩;rw[aY,hrl,List.take_length]at D;walk_at"e";intro d hd;walk_at"e";have ndq:d≠A:=λe=>by rw[e,f]at hd;cases hd
  refine⟨λm U N=>∃q O k x y J I,m=KB.total F R - k/\U=[some (.ref hp),some (.ref Y),some (.ref A),x,y,some (.ref d),some (.int (k:Nat)),J,I]/\RS K bB bw H N A d F R q O k,⟨_,KB.q0 F 0 R,[],0,_,_,_,_,rfl,rfl,?_⟩,?_⟩
  ·exact⟨sm.trans (mO hd),M,.start,Nat.zero_le _,⟨ts,by rw[aC ndq.symm];exact f,D.same (mO hd)⟩,⟨[],aq,trivial⟩,sm.free hd⟩
  ·rintro m U Hy ⟨q',O,k,x,y,J,I,rfl,rfl,rs'⟩;obtain⟨L,nq,b,hk,⟨ts,f,D⟩,⟨h,j,Z⟩,nd⟩:=rs';have hlq:=D.len;walk_at"e";refine jC (cB.of f) ?_;walk_at"e";have hb:=b.bound;refine uY (λz=>?_) (λz=>?_)
   ·rw[aY]at z;have S:k<q'.length:=by omega
    have hq:q'[k]? =some q'[k]:=bM S;obtain⟨t,a,et,ht,P⟩:=D.at hq;generalize hx:q'[k]=pw at hq ht P;obtain⟨p,w⟩:=pw;refine⟨λσ' H'=>∃q2 W x y J I,σ'=[some (.ref hp),some (.ref Y),some (.ref A),x,y,some (.ref d),some (.int ((k:Int)+1)),J,I]/\RS K bB bw H H' A d F R q2 W (k+1),?_,?_⟩
    ·rintro σ' H' ⟨q2,W,x,y,J,I,rfl,r2⟩;exact⟨KB.total F R - (k+1),by omega,q2,W,k+1,x,y,J,I,rfl,by rw[show((k+1:Nat):Int)=(k:Int)+1 from by omega],r2⟩
    have hix:XM (ts.map V.ref) ((k:Nat):Int)=some (.ref t):=iu (by rw[cF,et];rfl);walk_at"e";refine je (cB.of f) hix ?_;walk_at"e";refine⟨t,_,0,.int p,rfl,rfl,gw.of ht,rN (by decide) rfl,?_⟩;walk_at"e";refine je (cB.of f) hix ?_;walk_at"e";refine⟨t,_,1,.ref a,rfl,rfl,gw.of ht,rN (by decide) rfl,?_⟩;walk_at"e";refine⟨d,h,_,rfl,.inl j,rfl,?_⟩;walk_at"e";have gd:=b.good.1 _ (List.mem_of_getElem? hq);refine Zyj (λy=>?_) (λy=>?_)
    ·have hno:oN h (Sum.inl p)=none:=by
      cases e:oN h (Sum.inl p)with
      | none=>rfl
      | some _=>rw[e]at y;simp at y
     have hnp:p∉O.map (·.1):=by
      have:=Z.val p;rw[hno]at this;simpa using this
     obtain⟨fl,E⟩:∃fl,KB.fat F p=some fl:=Option.isSome_iff_exists.mp gd.there;walk_at"e";refine⟨d,_,rfl,Yd.k (k:=Sum.inl p) j ?_,?_⟩
     ·have h2:=Z.len;have h3:=Zwe b;have h4:=X.t;exact Nat.lt_of_le_of_lt (show h.length<=1000000 by omega) (show 1000000<sizeLine by decide)
     rw[Zpn _ hno];have nd':A≠d:=rC f j (λz=>by cases z);have B:aW H (upd Hy d (.dK (h++[(Sum.inl p,.ref a)]))):=SN L nd;have k1:TK Hy (upd Hy d (.dK (h++[(Sum.inl p,.ref a)]))):=ZC2 j;have q1:upd Hy d (.dK (h++[(Sum.inl p,.ref a)])) A=some (.lst (ts.map V.ref)):=(aC nd').trans f;walk_at"e";refine⟨.inl ⟨rfl,_,cB.of q1⟩,?_⟩;walk_at"e";obtain⟨ca,room,used,born,cs,ho,hl,he⟩:=(v.same B).ex;have ho':=ho;obtain⟨⟨dx,o1⟩,o2⟩:=ho';refine aH o1 T.cR T.bN bW ?_;walk_at"e";rcases Zs9 hl he p with ⟨e1,_⟩ | ⟨fl',p',fa,b',u,t',l,e1,_,e3,e4,c⟩
     ·rw[E]at e1;cases e1
     rw[E]at e1;cases e1;refine je (cB.of o2) (rN e4 e3) ?_;obtain⟨⟨dc,c1⟩,c2⟩:=c;refine aH c1 T.di T.fc lV ?_;walk_at"e";have hw:=Zsu b _ (List.mem_of_getElem? hq);have hgt:=X.t;refine⟨hp,fa,a,F,fl,w,rfl,v.same B,cB.of c2,gw.of (k1 _ _ P),?_,?_,X.g p fl E,λl2 us H2 hl2 C hl2' qa2=>?_⟩
     ·obtain⟨r0,s0,fs0,_,e0,_⟩:=gd.ex;intro z;rw[show w=(p,w).2 from rfl,e0]at z;cases z
     ·simp only at hw;omega
     have hq2:H2 A=some (.lst (ts.map V.ref)):=C _ _ q1;have hd2:H2 d=some (.dK (h++[(Sum.inl p,.ref a)])):=C _ _ aq;have k2:=k1.trans (TK.same C);have k3:TK H2 (upd H2 A (.lst (ts.map V.ref++us.map V.ref))):=Zr2 hq2;have b2:=KB.Vz.new b hq hnp E;have hb2:=b2.bound;rw[List.length_append,<- qa2.len,<- hlq]at hb2;walk_at"e";refine⟨A,l2,_,_,rfl,rfl,hq2,hl2',by rw[aY,aY];exact aR (by omega),?_⟩;walk_at"e";refine⟨_,_,_,_,_,_,rfl,⟨SN (B.trans C) nq,nq,b2,by rw[List.length_append];omega,⟨ts++us,by rw[aq,List.map_append],(((D.tk k2).app qa2).tk k3)⟩,⟨_,by rw[aC nd'.symm];exact hd2,((Z.tk k2).app ?_).tk k3⟩,nd⟩⟩;exact⟨⟨rfl,a,rfl,k2 _ _ P⟩,trivial⟩
    ·have hin:p∈O.map (·.1):=by
      have:=Z.val p;cases e:oN h (Sum.inl p)with
      | none=>rw[e]at y;simp at y
      | some _=>rw[e]at this;simpa using this.symm
     walk_at"e";exact⟨_,_,_,_,_,_,rfl,⟨L,nq,.old b hq hin,by omega,⟨ts,f,D⟩,⟨h,j,Z⟩,nd⟩⟩
   ·rw[aY]at z;have S:k=q'.length:=by omega
    subst S;walk_at"e";refine⟨d,h,rfl,.inl j,λvw hvw=>?_⟩;walk_at"e";have B:=mO (o:=Og vw d) hvw;refine Zv9 aq (.inl (B _ _ j)) λl us H2 hl C hl2 pa=>?_;walk_at"e";exact q l us q' O H2 b ((L.trans B).free hl) ((L.trans B).trans C) hl2 ((Z.tk (TK.same (B.trans C))).prs pa)
end
def fdOf(M:Wm):KB.Fd:=M.cells.map λo=>o.map (·.fl)
theorem WJ0.hv{X:Cs}{H:Hp}{T:Tg}{s:Nat}{A:Wa}{M:Wm}(j:WJ0 X H T s A M):HV X.C X.H H A.hp (fdOf M):=by
 have hl:=j.jc.lc;refine⟨A.ca,M.room,M.used,M.born,A.cs.map pV,j.hpO,by unfold fdOf;rw[aY,aY];exact hl,λi x hx=>?_⟩;unfold fdOf at hx;rw[cF]at hx;obtain⟨o,a,rfl⟩:=Option.map_eq_some_iff.mp hx;cases o with
 | none=>
  show(A.cs.map pV)[i]? =some .non;rw[cF,j.jc.at0 a];rfl
 | some c=>
  obtain⟨p,hp,ce⟩:=j.jc.at a;obtain⟨_,_,o1,o2⟩:=ce;exact⟨p.1,p.2,c.birth,c.bulk,c.tone,c.load,by rw[cF,hp];rfl,⟨o1,o2⟩⟩
theorem Zs8{M:Wm}(x:Int):KB.fat (fdOf M) x=(cellAt M x).map (·.fl):=by
 unfold KB.fat fdOf cellAt
 by_cases h:0<=x
 ·rw[if_pos h,if_pos h,cF];cases M.cells[x.toNat]? with
  | none=>rfl
  | some o=>cases o<;>rfl
 ·rw[if_neg h,if_neg h];rfl
section
variable {K:aB}{X:Cs}{H:Hp}{Q:VK}{E:XK}{n:St->Hp->Prop}{bk ct:St->Hp->Prop}
theorem Zmy{hp a wt:AH}{F:KB.Fd}{ps:Au}{w:AD}(q:HV X.C X.H H hp F/\cB K H a (ps.map oV)/\gw K H wt (w.map V.int)/\w≠[]/\w.length<=100000/\ps.length<=1000/\∀l ts H',H l=none->aW H H'->H' l=some (.lst (ts.map V.ref))->Jy H' ts (KB.onw F w 0 ps)->Q (.ref l) H'):
  GJ K (d9 X.H) ⟨n,Q,bk,ct⟩ [some (.ref hp),some (.ref a),some (.ref wt)] H:=by
 obtain⟨v,h1,h2,h3,h4,h5,q⟩:=q;exact Ziw v h1 h2 h3 h4 h5 (λe=>Zxe e h2) q
theorem Zig{hp a:AH}{F:KB.Fd}{rs:AE}{R:KB.Rw}(T:qm K X)(q:HV X.C X.H H hp F/\cB K H a (rs.map V.ref)/\Jw K H rs R/\Few F R/\∀l ts q b H',KB.Vz F R q q.length b->H l=none->aW H H'->H' l=some (.lst (ts.map V.ref))->Jy H' ts b->Q (.ref l) H'):
  Bc K (Gs K X.C X.H) ⟨n,Q,bk,ct⟩ [some (.ref hp),some (.ref a),none,none,none,none,none,none,none] H:=by
 obtain⟨v,h1,h2,h3,q⟩:=q;exact Zef T.c v h1 h2 h3 q
end
theorem toN{x:Int}(h:0<=x):∃k:Nat,x=k:=⟨x.toNat,by omega⟩
theorem YC(c:Nat):(⟨#[c]⟩:Str).length=1:=rfl
theorem ZAh(a b:Str):(a++b).length=a.length+b.length:=by
 show(a.cps++b.cps).size=_;rw[Array.size_append];rfl
theorem Zm7{d e:Type}{P:d->e->Prop}:∀{xs:List d}{c:List e},xs.length=c.length->(∀(i:Nat) x y,xs[i]? =some x->c[i]? =some y->P x y)->Al P xs c
 | [],[],_,_=>.nil
 | [],_::_,h,_=>by simp at h
 | _::_,[],h,_=>by simp at h
 | x::xs,y::c,h,p=>.cons (p 0 x y rfl rfl) (Zm7 (by simpa using h) λi a b h1 h2=>p (i+1) a b (by simpa using h1) (by simpa using h2))
def iV(a:Int):List (Str×Au)->Nat->Wm->AD×Wm
 | [],_,M=>([],M)
 | m::l,k,M=>if a / 2 ^ k % 2=1 then((aV M m.2).1++(iV a l (k+1) (aV M m.2).2).1,(iV a l (k+1) (aV M m.2).2).2)else iV a l (k+1) M
def lsE(x:Int):Nat->Nat->Int
 | _,0=>0
 | i,n+1=>if x / 2 ^ i % 2=0 then 2 ^ i else lsE x (i+1) n
def FZ(k:Nat)(lo:Int)(n:Nat):Int:=if k=0 then 0 else if k=1 then lsE lo 0 n else 2 ^ n - 1
theorem Uj(b:Int)(m:Str×Au):∀(l:List (Str×Au)) (k:Nat) (M:Wm),iV b (l++[m]) k M=if b / 2 ^ (k+l.length) % 2=1 then((iV b l k M).1++(aV (iV b l k M).2 m.2).1,(aV (iV b l k M).2 m.2).2)else iV b l k M
 | [],k,M=>by
  show(if b / 2 ^ k % 2=1 then((aV M m.2).1++[],(aV M m.2).2)else([],M))=_;rw[List.append_nil];rfl
 | a::l,k,M=>by
  have e:k+(a::l).length=k+1+l.length:=by rw[List.length_cons];omega
  rw[e,List.cons_append];show(if b / 2 ^ k % 2=1 then((aV M a.2).1++(iV b (l++[m]) (k+1) (aV M a.2).2).1,(iV b (l++[m]) (k+1) (aV M a.2).2).2)else iV b (l++[m]) (k+1) M)=_;show _=if b / 2 ^ (k+1+l.length) % 2=1 then(((if b / 2 ^ k % 2=1 then((aV M a.2).1++(iV b l (k+1) (aV M a.2).2).1,(iV b l (k+1) (aV M a.2).2).2)else iV b l (k+1) M)).1++(aV (if b / 2 ^ k % 2=1 then((aV M a.2).1++(iV b l (k+1) (aV M a.2).2).1,(iV b l (k+1) (aV M a.2).2).2)else iV b l (k+1) M).2 m.2).1,(aV (if b / 2 ^ k % 2=1 then((aV M a.2).1++(iV b l (k+1) (aV M a.2).2).1,(iV b l (k+1) (aV M a.2).2).2)else iV b l (k+1) M).2 m.2).2)else(if b / 2 ^ k % 2=1 then((aV M a.2).1++(iV b l (k+1) (aV M a.2).2).1,(iV b l (k+1) (aV M a.2).2).2)else iV b l (k+1) M)
  by_cases h:b / 2 ^ k % 2=1
  ·simp only[if_pos h];rw[Uj b m l (k+1)]
   by_cases h2:b / 2 ^ (k+1+l.length) % 2=1
   ·simp only[if_pos h2,List.append_assoc]
   ·simp only[if_neg h2]
  ·simp only[if_neg h];rw[Uj b m l (k+1)]
theorem Kf:∀{l:Au}{M:Wm},(aV M l).2.hands=M.hands
 | [],_=>rfl
 | x::l,M=>by
  show(aV (bT M x).2 l).2.hands=_;rw[Kf,PN]
theorem FW(a:Int)(B:Nat):∀(l:List (Str×Au)) (k:Nat) (M:Wm),(∀m∈l,m.2.length<=B)->(iV a l k M).2.sw.phase=M.sw.phase/\(iV a l k M).2.sw.grey.length<=M.sw.grey.length+l.length * B/\(iV a l k M).1.length<=l.length * B/\(iV a l k M).2.hands=M.hands
 | [],_,_,_=>by simp[iV]
 | m::l,k,M,h=>by
  have hm:=h m (by simp);have e:(m::l).length * B=l.length * B+B:=by rw[List.length_cons,Nat.succ_mul]
  unfold iV
  by_cases z:a / 2 ^ k % 2=1
  ·rw[if_pos z];obtain⟨b,d,f,c⟩:=FW a B l (k+1) (aV M m.2).2 λx hx=>h x (by simp[hx]);obtain⟨g,j⟩:=xN (l:=m.2) (M:=M);have i:=Cg (l:=m.2) (M:=M);exact⟨b.trans g,by show(iV a l (k+1) (aV M m.2).2).2.sw.grey.length<=_;omega,by show((aV M m.2).1++_).length<=_;rw[List.length_append];omega,c.trans Kf⟩
  ·rw[if_neg z];obtain⟨b,d,f,c⟩:=FW a B l (k+1) M λx hx=>h x (by simp[hx]);exact⟨b,by omega,by omega,c⟩
structure NtR(M M':Wm):Prop where
 rm:M'.room=M.room
 us:M'.used=M.used
 bn:M'.born=M.born
 hd:M'.hands=M.hands
 nm:M'.names=M.names
 ww:M'.w=M.w
 tl:M'.tells=M.tells
 sw:∃g,M'.sw={ M.sw with grey:=g }
 ce:M'.cells.map (λo=>o.map λc=>{ c with tone:=0 })=M.cells.map (λo=>o.map λc=>{ c with tone:=0 })
theorem NtR.refl(M:Wm):NtR M M:=⟨rfl,rfl,rfl,rfl,rfl,rfl,rfl,⟨_,rfl⟩,rfl⟩
theorem NtR.trans{M M1 M2:Wm}(a:NtR M M1)(b:NtR M1 M2):NtR M M2:=by
 obtain⟨l,d,f,t,p,o,j,⟨g,s⟩,r⟩:=a;obtain⟨v,m,k,i,c,n,q,⟨h,e⟩,u⟩:=b;exact⟨v.trans l,m.trans d,k.trans f,i.trans t,c.trans p,n.trans o,q.trans j,⟨h,by rw[e,s]⟩,u.trans r⟩
theorem Zf0(M:Wm)(x:AA):NtR M (bT M x).2:=by
 cases x with
 | none=>exact NtR.refl M
 | some i=>
  unfold bT;dsimp only;cases hc:cellAt M i with
  | none=>exact NtR.refl M
  | some c=>
   dsimp only;split
   ·obtain⟨a,h1⟩:=dm.mp hc;refine⟨rfl,rfl,rfl,rfl,rfl,rfl,rfl,⟨_,rfl⟩,?_⟩;show(M.cells.set i.toNat _).map _=_;rw[List.map_set];refine List.ext_getElem? λk=>?_
    by_cases z:i.toNat=k
    ·subst z;rw[List.getElem?_set_self (by rw[aY];exact(dY h1).1),cF,h1];rfl
    ·rw[List.getElem?_set_ne z]
   ·exact NtR.refl M
theorem YG:∀(l:Au) (M:Wm),NtR M (aV M l).2
 | [],M=>NtR.refl M
 | x::l,M=>(Zf0 M x).trans (YG l _)
theorem Zbk(a:Int):∀(l:List (Str×Au)) (k:Nat) (M:Wm),NtR M (iV a l k M).2
 | [],_,M=>NtR.refl M
 | m::l,k,M=>by
  unfold iV;split
  ·exact(YG m.2 M).trans (Zbk a l (k+1) _)
  ·exact Zbk a l (k+1) M
theorem Zqj(a:Int)(l:List (Str×Au))(k:Nat)(M:Wm):(iV a l k M).2.sw.turn=M.sw.turn/\(iV a l k M).2.sw.looked=M.sw.looked/\(iV a l k M).2.sw.looks=M.sw.looks:=by
 obtain⟨g,e⟩:=(Zbk a l k M).sw;rw[e];exact⟨rfl,rfl,rfl⟩
theorem Zn3{M:Wm}{x:AA}(h:(bT M x).1=none):(bT M x).2=M:=by
 cases x with
 | none=>rfl
 | some i=>
  unfold bT at h ⊢;dsimp only at h ⊢;cases hc:cellAt M i with
  | none=>rfl
  | some c=>
   rw[hc]at h;dsimp only at h ⊢;split
   ·rename_i z
    rw[if_pos z]at h;cases h
   ·rfl
theorem Uc:∀{l:Au}{M:Wm},(aV M l).1=[]->(aV M l).2=M
 | [],_,_=>rfl
 | x::l,M,h=>by
  have h:ofN (bT M x).1++(aV (bT M x).2 l).1=[]:=h;obtain⟨h1,h2⟩:=List.append_eq_nil_iff.mp h;have h3:(bT M x).1=none:=by
   cases e:(bT M x).1 with
   | none=>rfl
   | some b=>rw[e]at h1;cases h1
  show(aV (bT M x).2 l).2=M;rw[Uc h2,Zn3 h3]
theorem Zbl(a:Int):∀{l:List (Str×Au)}{k:Nat}{M:Wm},(iV a l k M).1=[]->(iV a l k M).2=M
 | [],_,_,_=>rfl
 | m::l,k,M,h=>by
  unfold iV at h ⊢;split
  ·rename_i z
   rw[if_pos z]at h;obtain⟨h1,h2⟩:=List.append_eq_nil_iff.mp h;show(iV a l (k+1) (aV M m.2).2).2=M;rw[Zbl a h2,Uc h1]
  ·rename_i z
   rw[if_neg z]at h;exact Zbl a h
theorem Zfb:∀(l:List (Str×Au)) (k:Nat) (M:Wm),iV 0 l k M=([],M)
 | [],_,_=>rfl
 | m::l,k,M=>by
  unfold iV;rw[if_neg (by simp),Zfb l (k+1) M]
def Z1q (H:Hp)(X:Cs)(wo:AH)(a:Int)(Q:VK):Prop:=∃T s A M,WT H T/\s≠0/\WJ X H T s A M/\A.wo=wo/\(∀m∈M.hands,m.2.length<=100)/\(M.sw.phase="walk"->M.sw.grey.length<=5000)/\
 ∀H' T' l,jf s H H' T T'->WJ X H' T' s A (iV a M.hands 0 M).2->H' l=some (.lst ((iV a M.hands 0 M).1.map V.int))->H l=none->Q (.ref l) H'
def mq(X:Cs):Sp:=λvs H Q E=>∃wo a,vs=[.ref wo,.int a]/\Z1q H X wo a Q
def iR(k:Nat):Sp:=λvs H Q E=>∃a lo h,vs=[.ref a,.int lo,.int h]/\0<=h/\h<=30/\Q (.int (FZ k lo h.toNat)) H
section
variable {K:aB}{X:Cs}{H:Hp}{Q:VK}{E:XK}{n:St->Hp->Prop}{bk ct:St->Hp->Prop}
theorem O9{a:AH}(q:Q (.bl true) H):sU ⟨n,Q,bk,ct⟩ [some (.ref a)] H:=by
 unfold sU;walk_at"e";exact q
theorem X5{a:AH}(q:Q (.bl false) H):yL ⟨n,Q,bk,ct⟩ [some (.ref a)] H:=by
 unfold yL;walk_at"e";exact q
theorem Gv{a:AH}{lo h:Int}(q:0<=h/\h<=30/\Q (.int (FZ 0 lo h.toNat)) H):oO ⟨n,Q,bk,ct⟩ [some (.ref a),some (.int lo),some (.int h)] H:=by
 unfold oO;walk_at"e";exact q.2.2
theorem Lr{a:AH}{lo h:Int}(q:0<=h/\h<=30/\Q (.int (FZ 2 lo h.toNat)) H):qW wJ ⟨n,Q,bk,ct⟩ [some (.ref a),some (.int lo),some (.int h)] H:=by
 obtain⟨b,h1,q⟩:=q;unfold qW;walk_at"e";exact⟨h,rfl,b,h1,q⟩
theorem Ly{a:AH}{lo h:Int}(q:0<=h/\h<=30/\Q (.int (FZ 1 lo h.toNat)) H):qY ⟨n,Q,bk,ct⟩ [some (.ref a),some (.int lo),some (.int h),none] H:=by
 obtain⟨j,h1,q⟩:=q;have q:Q (.int (lsE lo 0 h.toNat)) H:=q;unfold qY;walk_at"e";refine⟨h,rfl,by omega,by omega,?_⟩;refine forR (λi d c=>∃v,d=[some (.ref a),some (.int lo),some (.int h),v]/\c=H/\(i<=h.toNat->lsE lo 0 h.toNat=lsE lo i (h.toNat - i))) ⟨none,rfl,rfl,λ_=>rfl⟩ ?_ ?_
 ·rintro i d c k ⟨v,rfl,rfl,b⟩;have b:=b (by omega);have f:h.toNat - i=(h.toNat - (i+1))+1:=by omega
  rw[f]at b;have g:lsE lo i (h.toNat - (i+1)+1)=if lo / 2 ^ i % 2=0 then 2 ^ i else lsE lo (i+1) (h.toNat - (i+1)):=rfl
  rw[g]at b;have e:((0:Int)+(i:Int)).toNat=i:=by omega
  walk_at"e";rw[e,Zkw];refine uY (λz=>?_) (λz=>?_)
  ·rw[if_pos z]at b;walk_at"e";refine i_I (Zm1 (by omega) (by omega)) ?_;rw[e,Int.one_mul,<- b];exact q
  ·rw[if_neg z]at b;walk_at"e";exact⟨_,rfl,rfl,λ_=>b⟩
 ·rintro d c ⟨v,rfl,rfl,b⟩;have b:=b (Nat.le_refl _);rw[Nat.sub_self]at b;have b:lsE lo 0 h.toNat=0:=b;walk_at"e";rw[b]at q;exact q
theorem WM{wo:AH}{a:Int}(B:qm K X)(q:Z1q H X wo a Q):
  yC K (fK X) ⟨n,Q,bk,ct⟩ [some (.ref wo),some (.int a),none,none,none] H:=by
 obtain⟨T,s,A,M,w,s0,j,rfl,hs,hg,q⟩:=q;have lh:=j.jd.lh;have l5:=j.jd.l5;unfold yC;walk_at"e";refine⟨aR (by simp),λl hl=>?_⟩;have e:jf s H (upd H l (.lst [])) T (ji T l (s+1,1)):=jf.fresh w hl;have u:WJ X (upd H l (.lst [])) (ji T l (s+1,1)) s A M:=j.fresh hl;have Y:upd H l (.lst []) l=some (.lst []):=aq;have tl:ji T l (s+1,1) l=(s+1,1):=iw;generalize upd H l (.lst [])=H1 at e u Y ⊢;generalize ji T l (s+1,1)=T1 at e u tl;obtain⟨dw,ow⟩:=u.jb.ow;walk_at"e";refine aH ow B.cW B.nWd dZ ?_;walk_at"e";refine⟨A.hl,rfl,⟨_,cB.of u.jb.on⟩,ZBv (A.hs.map λp=>V.ref p.1) (λi N f=>∃P S O,N=[some (.ref A.wo),some (.int a),some (.ref l),S,O]/\jf s H f T P/\P l=(s+1,1)/\WJ X f P s A (iV a (M.hands.take i) 0 M).2/\f l=some (.lst ((iV a (M.hands.take i) 0 M).1.map V.int))) ⟨T1,_,_,rfl,e,tl,u,Y⟩ (λ_ _ _ _ ⟨_,_,_,_,_,_,z,_⟩=>cB.of z.jb.on) ?_ ?_⟩
 ·rintro i x t N f hx ⟨D,S,O,rfl,d,b,E,v⟩ ht;rw[cF]at hx;obtain⟨p,hp,rfl⟩:=Option.map_eq_some_iff.mp hx;have hil:i<A.hs.length:=(dY hp).1;obtain⟨m,hm⟩:∃m,M.hands[i]? =some m:=⟨_,bM (by omega)⟩;have F:M.hands.take (i+1)=M.hands.take i++[m]:=by rw[List.take_add_one,hm];rfl
  have r:(M.hands.take i).length=i:=by rw[List.length_take];omega
  obtain⟨n1,n2,n3,n4⟩:=FW a 100 (M.hands.take i) 0 M λx hx=>hs x (List.mem_of_mem_take hx);have g:=Uj a m (M.hands.take i) 0 M;rw[<- F,Nat.zero_add,r]at g;generalize zz:upd f t _=H3;obtain⟨L,U⟩:=nwO ht zz;have I:=E.same L;have h:=d.trans (jf.same (s:=s) d.wt L);have C:=L _ _ v;refine⟨t,_,rfl,gw.of U,rfl,.int i,_,rfl,?_⟩;walk_at"e";refine⟨.ref p.1,_,rfl,?_⟩;walk_at"e";refine⟨rfl,?_⟩;walk_at"e";rw[Zkw,Int.toNat_natCast];refine uY (λz=>?_) (λz=>?_)
  ·rw[if_pos z]at g;walk_at"e";refine⟨.inl ⟨rfl,_,cB.of C⟩,?_⟩;have o:(iV a (M.hands.take i) 0 M).2.hands[i]? =some m:=by rw[n4];exact hm
   have hd:=I.jd.hd i p m hp o;obtain⟨dx,o1⟩:=hd.o1;have R:=hs m (List.mem_of_getElem? hm);have hB:(M.hands.take i).length * 100<=3000:=by rw[r];omega
   walk_at"e";refine aH o1 B.cD B.nDs rJ ?_;walk_at"e";refine⟨_,_,rfl,m.2,D,s,A,_,h.wt,s0,I,rfl,.inr (.inl ⟨i,p,m,hp,o,rfl,rfl⟩),R,λy=>?_,λH4 W l4 c j4 Z nl4=>?_⟩
   ·have:=hg (n1.symm.trans y);omega
   have J:H4 l=some (.lst ((iV a (M.hands.take i) 0 M).1.map V.int)):=c.kp _ _ C (by rw[b];show s+1≠s;omega);have nl:=Cg (l:=m.2) (M:=(iV a (M.hands.take i) 0 M).2);walk_at"e";refine⟨l,l4,_,_,rfl,rfl,J,Z,by rw[aY,aY];exact aR (by omega),?_⟩;walk_at"e";have k:W l=(s+1,1):=(c.tg _ _ C).trans b;refine⟨W,_,_,rfl,jf.new (h.trans c) hl J,k,?_,?_⟩
   ·rw[g];exact j4.other (s':=s+1) (jf.upd c.wt J (by rw[k])) (by omega) (by omega)
   ·rw[g,aq,List.map_append]
  ·rw[if_neg z]at g;walk_at"e";exact⟨D,_,_,rfl,h,b,by rw[g];exact I,by rw[g];exact C⟩
 ·rintro N f ⟨D,S,O,rfl,d,b,E,v⟩;walk_at"e";rw[aY,lh,List.take_length]at E v;exact q f D l d E v hl
end
structure O8(M:Wm):Prop where
 cl:M.cells.length<=900
 hl:∀m∈M.hands,m.2.length<=100
 fl:∀c,some c∈M.cells->c.fl.length<=50
 nl:M.names.length<=900
 gl:M.sw.phase="walk"->M.sw.grey.length<=900
 gc:M.sw.phase="walk"->∀x∈M.sw.grey,∃c,cellAt M x=some c
 ph:M.sw.phase="rest"\/M.sw.phase="walk"\/M.sw.phase="give"\/M.sw.phase="lost"
 a0:0<=M.sw.at'
def Zsq(H:Hp)(T:Tg)(M:Wm)(b:Int)(w:AD):Prop:=∃a c,M.sw.loss=.ref a/\T a=(0,0)/\H a=some (.tup [.str "lost",.int b,.ref c])/\T c=(0,0)/\H c=some (.lst (w.map V.int))
def xJ(M:Wm)(i:Nat):Option Ce:=((M.cells[i]?).join).bind λc=>if c.tone=M.sw.sense then none else some c
def uR(M:Wm):AD:=(List.range M.cells.length).filterMap λi=>(xJ M i).map λ_=>(i:Int)
def uT(M:Wm):AD:=(List.range M.cells.length).filterMap λi=>(xJ M i).map (·.birth)
def jH(M:Wm):Wm:={ M with sw:={ M.sw with stop:=M.cells.length,at':=0 } }
def bD(M:Wm):Int:=FZ M.w.toNat M.sw.looked M.hands.length
def tU(M:Wm):Prop:=bD M=0\/(M.w=2/\(iV (bD M) M.hands 0 M).1=[])
inductive u6(lb:Int)(lw:AD)(M:Wm):Ev->Wm->Prop
 | begin:M.sw.phase="rest"->u6 lb lw M ⟨"begin",some (M.sw.turn+1),(iV (qj M.w M.hands.length) M.hands 0 (Gq M)).1⟩ (iV (qj M.w M.hands.length) M.hands 0 (Gq M)).2
 | walk (x:Int) (g:AD) (c:Ce):M.sw.phase="walk"->M.sw.grey=x::g->cellAt M x=some c->u6 lb lw M ⟨"walk",some c.birth,(aV { M with sw:={ M.sw with grey:=g,walks:=M.sw.walks+1 } } c.fl).1⟩ (aV { M with sw:={ M.sw with grey:=g,walks:=M.sw.walks+1 } } c.fl).2
 | look (N:Wm):M.sw.phase="walk"->M.sw.grey=[]->¬ tU M->N=(iV (bD M) M.hands 0 M).2->u6 lb lw M ⟨"look",some (bD M),(iV (bD M) M.hands 0 M).1⟩ { N with sw:={ N.sw with looks:=N.sw.looks+1,looked:=if M.w=2 then N.sw.looked else Builtin.bitOr N.sw.looked (bD M) } }
 | cut (q qs:List (Int×AD)):M.sw.phase="walk"->M.sw.grey=[]->tU M->KB.Vz (fdOf M) (jQ M) q q.length qs->(∀x∈qs,∀c,cellAt M x.1=some c->c.tone=M.sw.sense)->u6 lb lw M ⟨"cut",some (uT M).length,uT M⟩ { jH M with sw:={ (jH M).sw with phase:="give" } }
 | lost (q qs:List (Int×AD)) (i:Nat) (x:Int×AD) (c:Ce) (v:V):M.sw.phase="walk"->M.sw.grey=[]->tU M->KB.Vz (fdOf M) (jQ M) q q.length qs->qs[i]? =some x->(∀(k:Nat) y d,k<i->qs[k]? =some y->cellAt M y.1=some d->d.tone=M.sw.sense)->cellAt M x.1=some c->c.tone≠M.sw.sense->u6 lb lw M ⟨"lost",some c.birth,x.2⟩ { jH M with sw:={ (jH M).sw with phase:="lost",loss:=v } }
 | pass:M.sw.phase="give"->M.sw.at'<M.sw.stop->(∀c,cellAt M M.sw.at'=some c->c.tone=M.sw.sense)->u6 lb lw M ⟨"pass",some M.sw.at',[]⟩ { M with sw:={ M.sw with at':=M.sw.at'+1,passes:=M.sw.passes+1 } }
 | back (c:Ce):M.sw.phase="give"->M.sw.at'<M.sw.stop->cellAt M M.sw.at'=some c->c.tone≠M.sw.sense->u6 lb lw M ⟨"back",some c.birth,[M.sw.at']⟩ { M with used:=M.used - (1+c.fl.length+c.bulk),cells:=M.cells.set M.sw.at'.toNat none,sw:={ M.sw with at':=M.sw.at'+1,passes:=M.sw.passes+1 } }
 | fin:M.sw.phase="give"->¬ M.sw.at'<M.sw.stop->u6 lb lw M ⟨"end",some M.sw.turn,[M.sw.walks,M.sw.looks,M.sw.passes]⟩ { M with sw:={ M.sw with phase:="rest" } }
 | again:M.sw.phase="lost"->u6 lb lw M ⟨"lost",some lb,lw⟩ M
def Gr(X:Cs)(P:Wm->Prop)(wo:AH)(H:Hp)(Q:VK):Prop:=∃T s A M lb lw,WT H T/\s≠0/\WJ X H T s A M/\A.wo=wo/\O8 M/\P M/\(M.sw.phase="lost"->Zsq H T M lb lw)/\
 ∀e M',u6 lb lw M e M'->∀H' T' c a,jf s H H' T T'->WJ X H' T' s c M'->c.wo=wo/\c.sw=A.sw->EvN H H' a e->(M'.sw.phase="lost"->∃b,e.thing=some b/\Zsq H' T' M' b e.notes)->Q (.ref a) H'
def bU(X:Cs)(P:Wm->Prop):Sp:=λvs H Q E=>∃wo,vs=[.ref wo]/\Gr X P wo H Q
def Zem(M:Wm):Prop:=M.sw.phase="walk"/\M.sw.grey≠[]
def Zeo(M:Wm):Prop:=M.sw.phase="walk"/\M.sw.grey=[]
def Zit(M:Wm):Prop:=M.sw.phase="walk"/\M.sw.grey=[]/\tU M
def Zen(M:Wm):Prop:=M.sw.phase="give"/\M.sw.at'<M.sw.stop
def pEnd(M:Wm):Prop:=M.sw.phase="give"/\¬ M.sw.at'<M.sw.stop
def Ro(z:Str)(M:Wm):Prop:=M.sw.phase=z
def Ziu(_:Wm):Prop:=True
def Z2q (H:Hp)(d:AH)(Q:VK):Prop:=∃z b l,∃ns:AD,H d=some (.tup [.str z,.int b,.ref l])/\H l=some (.lst (ns.map V.int))/\∀a c H',aW H H'->H c=none->H' a=some (.tup [.str z,.int b,.ref c])->H' c=some (.lst (ns.map V.int))->Q (.ref a) H'
def nG(K:aB):Sp:=λvs H Q E=>∃a,vs=[.ref a]/\Z2q H a Q
def Z3q (X:Cs)(H:Hp)(wo:AH)(Q:VK):Prop:=∃T s A M,WJ X H T s A M/\A.wo=wo/\M.cells.length<=900/\∀l H',aW H H'->H l=none->H' l=some (.lst ((uR M).map V.int))->Q (.ref l) H'
def CT(X:Cs):Sp:=λvs H Q E=>∃wo,vs=[.ref wo]/\Z3q X H wo Q
section
variable {K:aB}{X:Cs}{H:Hp}{Q:VK}{E:XK}{n:St->Hp->Prop}{bk ct:St->Hp->Prop}
theorem VD{c:AH}(q:Z2q H c Q):
  yx K ⟨n,Q,bk,ct⟩ [some (.ref c)] H:=by
 obtain⟨z,b,l,ns,o1,o2,q⟩:=q;unfold yx;walk_at"e";refine⟨c,_,0,_,rfl,rfl,gw.of o1,rfl,?_⟩;walk_at"e";refine⟨c,_,1,_,rfl,rfl,gw.of o1,rfl,?_⟩;walk_at"e";refine⟨c,_,2,_,rfl,rfl,gw.of o1,rfl,?_⟩;walk_at"e";refine Rz (cB.of o2) λe d=>?_;generalize h:upd H e _=H1;obtain⟨i,j⟩:=nwO d h;walk_at"e";refine⟨aR (by simp),λa g=>?_⟩;have f:=aK g (.tup [.str z,.int b,.ref e]);exact q a e _ (i.trans f) d aq (f _ _ j)
theorem K5{a b:Type}{f g:a->Option b}:∀{l:List a},(∀x∈l,f x=g x)->l.filterMap f=l.filterMap g
 | [],_=>rfl
 | x::l,h=>by
  rw[List.filterMap_cons,List.filterMap_cons,h x (by simp),K5 λy hy=>h y (by simp[hy])]
theorem Zeg{a b:Type}(f:a->Option b):∀(xs:List a),(List.range xs.length).filterMap (λi=>(xs[i]?).bind f)=xs.filterMap f
 | []=>rfl
 | x::xs=>by
  rw[List.length_cons,List.range_succ_eq_map,List.filterMap_cons];simp only[List.getElem?_cons_zero,Option.bind_some,List.filterMap_map,List.filterMap_cons];have e:((λi=>((x::xs)[i]?).bind f) ∘ Nat.succ)=λi=>(xs[i]?).bind f:=by
   funext i
   simp
  rw[e,Zeg f xs]
theorem Zmu{A:Wa}{M:Wm}{T:Tg}{s:Nat}(j:WJ X H T s A M)(f:V->Option V)(g:∀(i:Nat) (c:Ce),M.cells[i]? =some (some c)->f (.int i)=(xJ M i).map λ_=>V.int i):((plc (A.cs.map pV)).map V.int).filterMap f=(uR M).map V.int:=by
 unfold plc uR;rw[List.filterMap_map,List.filterMap_map,List.filterMap_filter,List.map_filterMap,aY,j.jc.lc];refine K5 λi d=>?_;have a:=List.mem_range.mp d;have e:(A.cs.map pV)[i]? =some V.non↔M.cells[i]? =some none:=by
  constructor
  ·intro z;cases hc:M.cells[i]with
   | none=>rw[bM a,hc]
   | some c=>
    obtain⟨p,hp,_⟩:=j.jc.at (i:=i) (c:=c) (by rw[bM a,hc]);rw[cF,hp]at z;cases z
  ·intro z;rw[cF,j.jc.at0 z];rfl
 by_cases z:M.cells[i]? =some none
 ·rw[if_neg (by simp[e.mpr z])];unfold xJ;rw[z];rfl
 ·have b:¬ (A.cs.map pV)[i]? =some V.non:=λy=>z (e.mp y);rw[if_pos (by simp only[b,decide_false,Bool.not_false])];cases hc:M.cells[i]with
  | none=>exact absurd (by rw[bM a,hc]) z
  | some c=>
   show f (.int (i:Int))=_;rw[g i c (by rw[bM a,hc]),Option.map_map];rfl
theorem Zg2{wo:AH}(d:qm K X)(q:Z3q X H wo Q):
  Er K X.H (nH X.H) (cQ X) ⟨n,Q,bk,ct⟩ [some (.ref wo),none] H:=by
 obtain⟨T,s,A,M,j,rfl,hc,q⟩:=q;obtain⟨L,ow⟩:=j.jb.ow;obtain⟨I,oh⟩:=j.jh.oh;unfold Er;walk_at"e";refine aH ow d.cW d.PX bF ?_;walk_at"e";refine Ii ?_;walk_at"e";refine⟨A.hp,I,_,rfl,oh,Gk,?_⟩;walk_at"e";refine⟨_,rfl,A.ca,M.room,M.used,M.born,_,j.hpO,by rw[aY,j.jc.lc];omega,λlt l=>?_⟩;generalize F:upd H lt _=H1;obtain⟨o,C⟩:=nwO l F;have e:=j.same o;have J:(plc (A.cs.map pV)).length<=900:=by
  unfold plc;rw[aY];refine Nat.le_trans (List.length_filter_le _ _) ?_;rw[List.length_range,aY,j.jc.lc];exact hc
 refine⟨lt,rfl,⟨_,cB.of C⟩,?_⟩
 let f:V->Option V:=λv=>match v with
  | .int p=>(xJ M p.toNat).map λ_=>V.int p
  | _=>none
 refine KD (cB.of C) (λi=>(((plc (A.cs.map pV)).map V.int)[i]?).bind f) (by rw[aY];omega) (λi x w=>?_) ?_
 ·rw[cF]at w;obtain⟨p,hp,rfl⟩:=Option.map_eq_some_iff.mp w;have hm:=List.mem_of_getElem? hp;unfold plc at hm;obtain⟨k,hk,rfl⟩:=List.mem_map.mp hm;obtain⟨m,h⟩:=List.mem_filter.mp hk;have a:k<M.cells.length:=by
   have:=List.mem_range.mp m;rw[aY,j.jc.lc]at this;exact this
  obtain⟨c,b⟩:∃c,M.cells[k]? =some (some c):=by
   cases h3:M.cells[k]with
   | none=>
    exfalso
    have:(A.cs.map pV)[k]? =some V.non:=by rw[cF,j.jc.at0 (i:=k) (by rw[bM a,h3])];rfl
    simp[this]at h
   | some c=>exact⟨c,by rw[bM a,h3]⟩
  obtain⟨t,r,ce⟩:=e.jc.at b;have B:(((plc (A.cs.map pV)).map V.int)[i]?).bind f=(xJ M k).map λ_=>V.int (k:Int):=by
   rw[cF,hp];show(xJ M (Int.toNat k)).map _=_;rw[Int.toNat_natCast]
  have D:(xJ M k)=if c.tone=M.sw.sense then none else some c:=by unfold xJ;rw[b];rfl
  obtain⟨E,g⟩:=e.jh.oh;refine⟨λq hq=>?_,λy q hy hq=>?_⟩
  ·rw[B,D]at hq;walk_at"c";walk_at"e";refine aH g d.c.cR d.c.bN bW ?_;walk_at"e";refine je (cB.of e.jh.oc) (iu (v:=.ref t.1) (by rw[cF,r];rfl)) ?_;walk_at"e";refine⟨_,_,rfl,T,s,A,M,_,t,c,e.w0,rfl,ce,rfl,?_⟩;walk_at"e"
   by_cases z:c.tone=M.sw.sense
   ·rw[if_pos z]at hq;rw[decide_eq_true z];exact hq
   ·rw[if_neg z]at hq;rw[decide_eq_false z];exact hq
  ·rw[B]at hy;obtain⟨_,_,rfl⟩:=Option.map_eq_some_iff.mp hy;walk_at"c";walk_at"e";exact hq
 ·intro p u;rw[Zeg f,Zmu j f (λi c hc=>by show(xJ M (Int.toNat i)).map _=_;rw[Int.toNat_natCast])];exact q p _ (o.trans (aK u _)) (o.free u) aq
theorem QS{wo:AH}(c:qm K X)(q:Gr X (Ro "rest") wo H Q):uQ K (RX X) (mq X) ⟨n,Q,bk,ct⟩ [some (.ref wo),none] H:=by
 obtain⟨T,s,A,M,E,I,w,u,j,rfl,ok,ph,lo,q⟩:=q;unfold uQ;walk_at"e";refine⟨_,rfl,T,s,A,M,w,u,j,rfl,λD x o d m b=>?_⟩;obtain⟨J,ow⟩:=m.jb.ow;obtain⟨F,os⟩:=m.js.os;rw[b.1]at ow;walk_at"e";refine aH ow c.cW c.Rr bx ?_;walk_at"e";refine aH os c.cS c.n4 gn ?_;walk_at"e";refine⟨_,_,rfl,x,s,o,_,d.wt,u,m,b.1,ok.hl,λ_=>Nat.zero_le _,λt v l f g h k=>?_⟩;have g:WJ X t v s o (iV (qj M.w M.hands.length) M.hands 0 (Gq M)).2:=g;have h:t l=some (.lst ((iV (qj M.w M.hands.length) M.hands 0 (Gq M)).1.map V.int)):=h;obtain⟨y,e⟩:=g.jb.ow;obtain⟨B,r⟩:=g.js.os;rw[b.1]at e;have i:=Zqj (qj M.w M.hands.length) M.hands 0 (Gq M);walk_at"e";refine aH e c.cW c.Rr bx ?_;walk_at"e";refine aH r c.cS c.n5 qM ?_;walk_at"e";refine⟨aR (by simp),λa C=>?_⟩;rw[i.1];have p:=aK C (.tup [.str "begin",.int (M.sw.turn+1),.ref l]);refine q _ _ (.begin ph) _ v o a (d.trans (f.trans (jf.same f.wt p))) (g.same p) b ⟨l,jf.free d k,aq,p _ _ h⟩ λz=>?_;have:=(FW (qj M.w M.hands.length) 100 M.hands 0 (Gq M) ok.hl).1;rw[this]at z;exact absurd z (show ¬ ("walk":Str)="lost" by decide)
end
def Z4q (H:Hp)(X:Cs)(wo:AH)(Q:VK):Prop:=∃T s A M,WT H T/\s≠0/\WJ X H T s A M/\A.wo=wo/\O8 M/\
 (∀q b H',KB.Vz (fdOf M) (jQ M) q q.length b->(∀x∈b,∀c,cellAt M x.1=some c->c.tone=M.sw.sense)->aW H H'->Q .non H')/\
 (∀q b (i:Nat) x c a e H',KB.Vz (fdOf M) (jQ M) q q.length b->b[i]? =some x->(∀(k:Nat) y d,k<i->b[k]? =some y->cellAt M y.1=some d->d.tone=M.sw.sense)->cellAt M x.1=some c->c.tone≠M.sw.sense->aW H H'->H a=none->H e=none->H' a=some (.tup [.str "lost",.int c.birth,.ref e])->H' e=some (.lst (x.2.map V.int))->Q (.ref a) H')
def vC(X:Cs):Sp:=λvs H Q E=>∃wo,vs=[.ref wo]/\Z4q H X wo Q
section
variable {K:aB}{X:Cs}{H:Hp}{Q:VK}{E:XK}{n:St->Hp->Prop}{bk ct:St->Hp->Prop}
theorem Zp5{a:Type}(f:a->Nat)(B:Nat):∀(xs:List a),(∀x∈xs,f x<=B)->(xs.map f).sum<=xs.length * B
 | [],_=>by simp
 | x::xs,h=>by
  have h1:=h x (by simp);have h2:=Zp5 f B xs λy hy=>h y (by simp[hy]);rw[List.map_cons,List.sum_cons,List.length_cons,Nat.succ_mul];omega
theorem Zwt{a b:Type}(f:a->List b)(B:Nat):∀(xs:List a),(∀x∈xs,(f x).length<=B)->(xs.flatMap f).length<=xs.length * B
 | [],_=>by simp
 | x::xs,h=>by
  have h1:=h x (by simp);have h2:=Zwt f B xs λy hy=>h y (by simp[hy]);rw[List.flatMap_cons,List.length_append,List.length_cons,Nat.succ_mul];omega
theorem Zzi{M:Wm}{T:Tg}{s:Nat}{A:Wa}(j:WJ X H T s A M)(ok:O8 M):Few (fdOf M) (jQ M):=by
 have l5:=j.jd.l5;have lh:=j.jd.lh;have hl:(heldOf M).length=M.hands.length:=by unfold heldOf;rw[aY]
 have hr:(jQ M).length<=31:=by unfold jQ;rw[List.length_append,hl,<- lh];simp;omega
 have a:∀x∈jQ M,x.length<=900:=λx hx=>by
  unfold jQ at hx;rcases List.mem_append.mp hx with hx | hx
  ·obtain⟨m,hm,rfl⟩:=List.mem_map.mp hx;exact Nat.le_trans (ok.hl m hm) (by decide)
  ·rw[List.mem_singleton.mp hx];unfold vO;rw[aY];exact ok.nl
 have f:(fdOf M).length=M.cells.length:=by unfold fdOf;rw[aY]
 have d:=ok.cl;have b:∀(i:Nat) x,(fdOf M)[i]? =some x->KB.wgt x<=50:=λi x hx=>by
  unfold fdOf at hx;rw[cF]at hx;obtain⟨o,e,rfl⟩:=Option.map_eq_some_iff.mp hx;cases o with
  | none=>exact Nat.zero_le _
  | some c=>exact ok.fl c (List.mem_of_getElem? e)
 refine⟨by omega,λp fl hp=>?_,by omega,λx hx=>by have:=a x hx;omega,?_⟩
 ·rw[Zs8]at hp;obtain⟨c,hc,rfl⟩:=Option.map_eq_some_iff.mp hp;have:=ok.fl c (wH hc);omega
 ·unfold KB.total;have h1:(KB.q0 (fdOf M) 0 (jQ M)).length<=31 * 900:=by
   unfold KB.q0;refine Nat.le_trans (Zwt _ 900 _ λx hx=>?_) (by rw[List.length_zipIdx];exact Nat.mul_le_mul_right _ hr);refine Nat.le_trans KB.Rp (a x.1 ?_);obtain⟨_,h2⟩:=List.mem_zipIdx_iff_le_and_getElem?_sub.mp hx;exact List.mem_of_getElem? h2
  have h2:KB.Zhg (fdOf M) []<=900 * 50:=by
   unfold KB.Zhg;refine Nat.le_trans (Zp5 _ 50 _ λx hx=>?_) (by rw[List.length_zipIdx,f];exact Nat.mul_le_mul_right _ d);obtain⟨_,h2⟩:=List.mem_zipIdx_iff_le_and_getElem?_sub.mp hx;simp only[List.map_nil,List.not_mem_nil,↓reduceIte];exact b _ _ h2
  omega
theorem Zla{M:Wm}:∀{a:List Au}{ls:AE},ls.length=a.length->(∀(j:Nat) r x,ls[j]? =some r->a[j]? =some x->H r=some (.lst (x.map oV)))->Jw K H ls a
 | [],[],_,_=>trivial
 | [],_::_,h,_=>by simp at h
 | _::_,[],h,_=>by simp at h
 | x::a,r::ls,h,g=>⟨cB.of (g 0 r x rfl rfl),Zla (M:=M) (by simpa using h) λj r x b c=>g (j+1) r x (by simpa using b) (by simpa using c)⟩
theorem Xo{wo:AH}(g:qm K X)(q:Z4q H X wo Q):
  yE K (cQ X) (Hi K X.C X.H) (RJ X) ⟨n,Q,bk,ct⟩ [some (.ref wo),none,none,none] H:=by
 obtain⟨T,s,A,M,w,s0,j,rfl,ok,q1,q2⟩:=q;obtain⟨dw,ow⟩:=j.jb.ow;have l5:=j.jd.l5;have lh:=j.jd.lh;have nl:=ok.nl;unfold yE;walk_at"e";refine aH ow g.cW g.PX bF ?_;walk_at"e";refine⟨_,rfl,T,s,A,M,s0,j,rfl,by omega,by omega,λra rs H1 s1 nra N W nrs nrl g1=>?_⟩;walk_at"e";refine⟨A.hp,ra,fdOf M,rs,jQ M,rfl,(j.same s1).w0.hv,cB.of N,Zla (M:=M) W g1,Zzi j ok,λl ts q m H2 Z nl2 s2 ol qa=>?_⟩;have b:=s1.trans s2;have u:=j.same b;have good:=Z.good.2;have E:=qa.len;obtain⟨dw2,J⟩:=u.jb.ow;obtain⟨dh2,oh2⟩:=u.jh.oh;refine⟨l,rfl,⟨_,cB.of ol⟩,forL (ts.map V.ref) (λi P r=>∃Y F S,P=[some (.ref A.wo),Y,F,S]/\r=H2/\∀(k:Nat) y d,k<i->m[k]? =some y->cellAt M y.1=some d->d.tone=M.sw.sense) ⟨_,_,_,rfl,rfl,λk y d hk=>absurd hk (Nat.not_lt_zero _)⟩ (λ_ _ _ _ ⟨_,_,_,_,z,_⟩=>by rw[z];exact cB.of ol) ?_ ?_⟩
 ·rintro i x P r hi ⟨Y,F,S,rfl,rfl,f⟩;rw[cF]at hi;obtain⟨t,ht,rfl⟩:=Option.map_eq_some_iff.mp hi;have B:i<m.length:=by rw[<- E];exact(dY ht).1
  obtain⟨t',wa,et,ot,D⟩:=qa.at (bM B);rw[ht]at et;cases et;have hx:m[i]? =some m[i]:=bM B;generalize m[i]=x at hx ot D;obtain⟨fl,o⟩:=Option.isSome_iff_exists.mp (good x (List.mem_of_getElem? hx)).there;rw[Zs8]at o;obtain⟨c,hc,_⟩:=Option.map_eq_some_iff.mp o;obtain⟨x0,U⟩:=dm.mp hc;obtain⟨pp,O,ce⟩:=u.jc.at U;obtain⟨_,_,⟨dc,oc⟩,_⟩:=id ce;refine⟨t,_,rfl,gw.of ot,rfl,?_⟩;refine⟨_,_,rfl,?_⟩;walk_at"e";refine⟨_,_,rfl,?_⟩;walk_at"e";refine⟨rfl,?_⟩;walk_at"e";refine aH J g.cW g.PX bF ?_;refine aH oh2 g.c.cR g.c.bN bW ?_;walk_at"e";refine je (cB.of u.jh.oc) (rN (v:=.ref pp.1) x0 (by rw[cF,O];rfl)) ?_;walk_at"e";refine⟨_,_,rfl,T,s,A,M,_,pp,c,u.w0,rfl,ce,rfl,?_⟩;walk_at"e";refine zX (λz=>?_) (λz=>?_)
  ·walk_at"e";refine aH oc g.c.di g.c.dX ir ?_;walk_at"e";refine Zv8 (gw.of D) λL p=>?_;generalize zz:upd r L _=H3;obtain⟨s3,g3⟩:=nwO p zz;walk_at"e";refine⟨aR (by simp),λa na=>?_⟩;have s4:=aK na (.tup [.str "lost",.int c.birth,.ref L]);exact q2 q m i x c a L _ Z hx f hc z (b.trans (s3.trans s4)) (b.free (s3.free na)) (b.free p) aq (s4 _ _ g3)
  ·walk_at"e";refine⟨_,_,_,rfl,rfl,λk y d hk R I=>?_⟩
   by_cases h:k<i
   ·exact f k y d h R I
   ·have:k=i:=by omega
    subst this;rw[hx]at R;cases R;rw[hc]at I;cases I;exact z
 ·rintro P r ⟨Y,F,S,rfl,rfl,f⟩;rw[aY,E]at f;walk_at"e";refine q1 q m r Z (λx hx c hc=>?_) b;obtain⟨k,hk,e⟩:=List.getElem_of_mem hx;exact f k x c hk (by rw[bM hk,e]) hc
theorem Zap{M:Wm}:((uR M).map some).map (wW M)=(uT M).map some:=by
 unfold uR uT;rw[List.map_map,List.map_filterMap,List.map_filterMap];refine K5 λi b=>?_;rw[Option.map_map,Option.map_map];cases hp:xJ M i with
 | none=>rfl
 | some c=>
  unfold xJ at hp;obtain⟨d,hd,e⟩:=Option.bind_eq_some_iff.mp hp;have a:d=c:=by
   split at e
   ·cases e
   ·exact Option.some.inj e
  subst a;show some (wW M (some (i:Int)))=some (some d.birth);have:cellAt M (i:Int)=some d:=by
   unfold cellAt;rw[if_pos (by omega),Int.toNat_natCast,hd]
  show some ((cellAt M (i:Int)).map _)=_;rw[this];rfl
theorem Zir{M:Wm}(h:M.cells.length<=900):(uT M).length<=900/\(uR M).length<=900:=by
 unfold uT uR;have h1:=List.length_filterMap_le (λi=>(xJ M i).map (·.birth)) (List.range M.cells.length);have h2:=List.length_filterMap_le (λ(i:Nat)=>(xJ M i).map λ_=>(i:Int)) (List.range M.cells.length);rw[List.length_range]at h1 h2;exact⟨by omega,by omega⟩
theorem Zzr{wo:AH}(f:qm K X)(q:Gr X Zit wo H Q):Zij K (kW X) (vC X) (CT X) (nG K) ⟨n,Q,bk,ct⟩ [some (.ref wo),none,none,none] H:=by
 obtain⟨T,s,A,M,lb,lw,w,F,j,rfl,ok,⟨ph,gr,cd⟩,lo,q⟩:=q;obtain⟨dw,ow⟩:=j.jb.ow;obtain⟨E,os⟩:=j.js.os;obtain⟨dh,oh⟩:=j.jh.oh;have v:=ok.cl;unfold Zij;walk_at"e";refine aH ow f.cW f.Rr bx ?_;walk_at"e";refine aH ow f.cW f.PX bF ?_;refine aH oh f.c.cR f.c.bN bW ?_;walk_at"e";refine jC (cB.of j.jh.oc) ?_;rw[aY,j.jc.lc];walk_at"e";refine⟨A.sw,X.S,E,_,rfl,os,f.cS,f.n7,by show 11<1000;decide,?_⟩;rw[QH];walk_at"e";refine⟨A.sw,X.S,E,_,rfl,aq,f.cS,f.n6,by show 11<1000;decide,?_⟩;rw[HR,eV];obtain⟨b,t⟩:=j.sweep w F (dx:=E) { M.sw with stop:=M.cells.length,at':=0 } rfl;have t:WJ X _ T s A (jH M):=t;generalize upd H A.sw (.ins X.S E (cG M.sw.sense M.sw.phase A.gr M.sw.looked M.sw.turn 0 M.cells.length M.sw.walks M.sw.looks M.sw.passes M.sw.loss))=H1 at b t ⊢;have I:O8 (jH M):=⟨ok.cl,ok.hl,ok.fl,ok.nl,ok.gl,ok.gc,ok.ph,Int.le_refl _⟩;walk_at"e";refine⟨_,rfl,T,s,A,jH M,b.wt,F,t,rfl,I,λW P C Y o k=>?_,λW P i x c a u C Y hx o hc ht k U N oa B=>?_⟩
 ·have r:=t.same k;obtain⟨dw2,ow2⟩:=r.jb.ow;obtain⟨d,h⟩:=r.js.os;walk_at"e";refine⟨A.sw,X.S,d,_,rfl,h,f.cS,f.n2,by show 11<1000;decide,?_⟩;rw[pC];obtain⟨e,g⟩:=r.sweep (b.wt.same k) F (dx:=d) { (jH M).sw with phase:="give" } rfl;have g:WJ X _ T s A { jH M with sw:={ (jH M).sw with phase:="give" } }:=g;generalize upd C A.sw (.ins X.S d (cG (jH M).sw.sense "give" A.gr (jH M).sw.looked (jH M).sw.turn (jH M).sw.at' (jH M).sw.stop (jH M).sw.walks (jH M).sw.looks (jH M).sw.passes (jH M).sw.loss))=H3 at e g ⊢;obtain⟨dw3,Z⟩:=g.jb.ow;obtain⟨ob,ol⟩:=Zir v;walk_at"e";refine aH Z f.cW f.PX bF ?_;walk_at"e";refine⟨_,rfl,T,s,A,_,g,rfl,v,λl4 H4 l nl4 g4=>?_⟩;have e4:(uR { jH M with sw:={ (jH M).sw with phase:="give" } }).map V.int=((uR M).map some).map oV:=by
   rw[List.map_map];rfl
  rw[e4]at g4;walk_at"e";refine⟨A.hp,l4,rfl,T,s,A,_,(uR M).map some,g.same l,rfl,g4,by rw[aY];omega,λl5 D=>?_⟩;have e5:(((uR M).map some).map (wW { jH M with sw:={ (jH M).sw with phase:="give" } })).map oV=(uT M).map V.int:=by
   have:wW { jH M with sw:={ (jH M).sw with phase:="give" } }=wW M:=by funext x;cases x<;>rfl
   rw[this,Zap,List.map_map];rfl
  rw[e5];generalize zz:upd H4 l5 _=H5;obtain⟨s5,g5⟩:=nwO D zz;walk_at"e";refine jC (cB.of g5) ?_;rw[aY];walk_at"e";refine⟨aR (by simp),λa U=>?_⟩;have s6:=aK U (.tup [.str "cut",.int (uT M).length,.ref l5]);have y:=l.trans (s5.trans s6);have R:H l5=none:=jf.free b (k.free (jf.free e (l.free D)));exact q _ _ (.cut W P ph gr cd Y o) _ T A a (b.trans ((jf.same b.wt k).trans (e.trans (jf.same e.wt y)))) (g.same y) ⟨rfl,rfl⟩ ⟨l5,R,aq,s6 _ _ g5⟩ λz=>absurd z (show ¬ ("give":Str)="lost" by decide)
 ·have r:=t.same k;have w2:=b.wt.same k;obtain⟨d,h⟩:=r.js.os;walk_at"e";refine⟨A.sw,X.S,d,_,rfl,h,f.cS,f.n2,by show 11<1000;decide,?_⟩;rw[pC];walk_at"e";refine⟨A.sw,X.S,d,_,rfl,aq,f.cS,f.n11,by show 11<1000;decide,?_⟩;rw[QJ,eV];obtain⟨e,g⟩:=r.sweep w2 F (dx:=d) { (jH M).sw with phase:="lost",loss:=.ref a } rfl;have g:WJ X _ T s A { jH M with sw:={ (jH M).sw with phase:="lost",loss:=.ref a } }:=g;have ta:T a=(0,0):=b.wt _ U;have tw:T u=(0,0):=b.wt _ N;have m:upd C A.sw (.ins X.S d (cG (jH M).sw.sense "lost" A.gr (jH M).sw.looked (jH M).sw.turn (jH M).sw.at' (jH M).sw.stop (jH M).sw.walks (jH M).sw.looks (jH M).sw.passes (.ref a))) a=some (.tup [.str "lost",.int c.birth,.ref u]):=(aC (rC oa h (λz=>by cases z))).trans oa;have p:upd C A.sw (.ins X.S d (cG (jH M).sw.sense "lost" A.gr (jH M).sw.looked (jH M).sw.turn (jH M).sw.at' (jH M).sw.stop (jH M).sw.walks (jH M).sw.looks (jH M).sw.passes (.ref a))) u=some (.lst (x.2.map V.int)):=(aC (rC B h (λz=>by cases z))).trans B;generalize upd C A.sw (.ins X.S d (cG (jH M).sw.sense "lost" A.gr (jH M).sw.looked (jH M).sw.turn (jH M).sw.at' (jH M).sw.stop (jH M).sw.walks (jH M).sw.looks (jH M).sw.passes (.ref a)))=H3 at e g m p ⊢;walk_at"e";refine⟨a,rfl,"lost",c.birth,u,x.2,m,p,λa' l' H4 l L O J=>?_⟩;have R:H l'=none:=jf.free b (k.free (jf.free e L));exact q _ _ (.lost W P i x c (.ref a) ph gr cd Y hx o hc ht) _ T A a' (b.trans ((jf.same b.wt k).trans (e.trans (jf.same e.wt l)))) (g.same l) ⟨rfl,rfl⟩ ⟨l',R,O,J⟩ λ_=>⟨c.birth,rfl,a,u,rfl,ta,l _ _ m,tw,l _ _ p⟩
end
section
variable {K:aB}{X:Cs}{H:Hp}{Q:VK}{E:XK}{n:St->Hp->Prop}{bk ct:St->Hp->Prop}
theorem Zsv{wo:AH}(b:qm K X)(q:Gr X Zem wo H Q):Zai K (fK X) ⟨n,Q,bk,ct⟩ [some (.ref wo),none,none] H:=by
 obtain⟨T,s,A,M,Z,lw,w,D,j,rfl,ok,⟨ph,gr⟩,lo,q⟩:=q;obtain⟨dw,ow⟩:=j.jb.ow;obtain⟨ds,os⟩:=j.js.os;obtain⟨Y,oh⟩:=j.jh.oh;have og:=j.js.og;cases k:M.sw.grey with
 | nil=>exact absurd k gr
 | cons x g=>
  obtain⟨c,hc⟩:=ok.gc ph x (by rw[k];simp);obtain⟨U,h⟩:=dm.mp hc;have E:=ok.gl ph;have I:=ok.fl c (wH hc);rw[k]at og;unfold Zai;walk_at"e";refine aH ow b.cW b.Rr bx ?_;walk_at"e";refine aH ow b.cW b.PX bF ?_;refine aH oh b.c.cR b.c.bN bW ?_;walk_at"e";refine aH os b.cS b.n3 lC ?_;walk_at"e";refine⟨.inl ⟨rfl,_,cB.of og⟩,?_⟩;walk_at"e";refine⟨A.gr,_,0,0,.int x,rfl,rfl,og,by decide,by decide,by simp[seqIndex?],rfl,?_⟩;obtain⟨d,o⟩:=j.Zwq w D (g:=g);show mU K _ _ (upd H A.gr (.lst (g.map V.int))) _;generalize upd H A.gr (.lst (g.map V.int))=H1 at d o ⊢;obtain⟨F,f,ce⟩:=o.jc.at (i:=x.toNat) (c:=c) h;refine je (cB.of o.jh.oc) (rN (v:=.ref F.1) U (by rw[cF,f];rfl)) ?_;obtain⟨m,p⟩:=o.js.os;walk_at"e";refine aH p b.cS b.n8 uI ?_;walk_at"e";refine⟨A.sw,X.S,m,_,rfl,p,b.cS,b.n8,by show 11<1000;decide,?_⟩;rw[zM];obtain⟨e,r⟩:=o.sweep d.wt D (dx:=m) { M.sw with grey:=g,walks:=M.sw.walks+1 } rfl;have r:WJ X _ T s A { M with sw:={ M.sw with grey:=g,walks:=M.sw.walks+1 } }:=r;generalize upd H1 A.sw _=W at e r ⊢;obtain⟨L,t,y⟩:=r.jc.at (i:=x.toNat) (c:=c) h;rw[f]at t;cases t;obtain⟨_,_,⟨dc,oc⟩,O⟩:=id y;walk_at"e";refine aH oc b.c.di b.c.dX ir ?_;walk_at"e";refine aH oc b.c.di b.c.fc lV ?_;walk_at"e";refine⟨_,_,rfl,c.fl,T,s,A,_,e.wt,D,r,rfl,.inr (.inr ⟨x.toNat,F,c,f,h,rfl,rfl⟩),by omega,λ_=>?_,λH3 J l u R N B=>?_⟩
  ·show g.length<=10000;rw[k,List.length_cons]at E;omega
  walk_at"e";refine⟨aR (by simp),λa P=>?_⟩;have C:=aK P (.tup [.str "walk",.int c.birth,.ref l]);refine q _ _ (.walk x g c ph k hc) _ J A a (d.trans (e.trans (u.trans (jf.same u.wt C)))) (R.same C) ⟨rfl,rfl⟩ ⟨l,jf.free d (jf.free e B),aq,C _ _ N⟩ λz=>?_;rw[(xN (l:=c.fl) (M:={ M with sw:={ M.sw with grey:=g,walks:=M.sw.walks+1 } })).1]at z;exact absurd (ph.symm.trans z) (show ¬ ("walk":Str)="lost" by decide)
theorem Wk{wo:AH}(e:qm K X)(q:Gr X Zen wo H Q):yz K X.H (uF X.C X.H) (d9 X.H) (cQ X) ⟨n,Q,bk,ct⟩ [some (.ref wo),none,none,none] H:=by
 obtain⟨T,s,A,M,lb,lw,w,U,j,rfl,ok,⟨ph,lt⟩,lo,q⟩:=q;obtain⟨dw,ow⟩:=j.jb.ow;obtain⟨J,os⟩:=j.js.os;unfold yz;walk_at"e";refine aH ow e.cW e.Rr bx ?_;walk_at"e";refine aH os e.cS e.n6 JD ?_;walk_at"e";refine⟨A.sw,X.S,J,_,rfl,os,e.cS,e.n6,by show 11<1000;decide,?_⟩;rw[HR];walk_at"e";refine aH aq e.cS e.n10 sr ?_;walk_at"e";refine⟨A.sw,X.S,J,_,rfl,aq,e.cS,e.n10,by show 11<1000;decide,?_⟩;rw[xj,eV];obtain⟨b,f⟩:=j.sweep w U (dx:=J) { M.sw with at':=M.sw.at'+1,passes:=M.sw.passes+1 } rfl;generalize upd H A.sw _=P at b f ⊢;obtain⟨Z,p⟩:=f.jb.ow;obtain⟨E,D⟩:=f.jh.oh;walk_at"e";refine aH p e.cW e.PX bF ?_;walk_at"e";refine⟨_,_,rfl,zT (some M.sw.at'),_,_,_,_,_,f.hpO,?_⟩;have u:(∀c,cellAt M M.sw.at'=some c->c.tone=M.sw.sense)->∀l a m,P l=none->aW P m->m a=some (.tup [.str "pass",.int M.sw.at',.ref l])->m l=some (.lst [])->Q (.ref a) m:=λhp l a m nl o oa ol=>
  q _ _ (.pass ph lt hp) _ T A a (b.trans (jf.same b.wt o)) (f.same o) ⟨rfl,rfl⟩ ⟨l,jf.free b nl,oa,ol⟩ λz=>absurd (ph.symm.trans z) (show ¬ ("give":Str)="lost" by decide)
 rcases f.look (some M.sw.at')with ⟨L,F⟩ | ⟨i,c,N,Y,h0,x,v,hpp,F,ce⟩
 ·have L:cellAt M M.sw.at'=none:=L;rw[show atO (A.cs.map pV) (.int M.sw.at')=.non from F];walk_at"e";refine⟨aR (by simp),λl nl=>⟨aR (by simp),λa t=>?_⟩⟩;have o:=aK nl (.lst []);have h:=aK t (.tup [.str "pass",.int M.sw.at',.ref l]);exact u (λc hc=>by rw[L]at hc;cases hc) l a _ nl (o.trans h) aq (h _ _ aq)
 ·cases Y;have x:cellAt M M.sw.at'=some c:=x;rw[show atO (A.cs.map pV) (.int M.sw.at')=.ref N.1 from F];walk_at"e";refine⟨_,_,rfl,T,s,A,_,_,N,c,f.w0,rfl,ce,rfl,?_⟩
  by_cases z:c.tone=M.sw.sense
  ·rw[decide_eq_true (show c.tone=({ M.sw with at':=M.sw.at'+1,passes:=M.sw.passes+1 }:Sw).sense from z)];walk_at"e";refine⟨aR (by simp),λl nl=>⟨aR (by simp),λa t=>?_⟩⟩;have o:=aK nl (.lst []);have h:=aK t (.tup [.str "pass",.int M.sw.at',.ref l]);exact u (λd hd=>by rw[x]at hd;cases hd;exact z) l a _ nl (o.trans h) aq (h _ _ aq)
  ·rw[decide_eq_false (show ¬ c.tone=({ M.sw with at':=M.sw.at'+1,passes:=M.sw.passes+1 }:Sw).sense from z)];obtain⟨k,B⟩:=toN h0;have hk:M.cells[k]? =some (some c):=by rw[B,Int.toNat_natCast]at v;exact v
   walk_at"e";refine aH p e.cW e.PX bF ?_;walk_at"e";refine⟨A.hp,E,_,rfl,D,Xl,?_⟩;walk_at"e";rw[B];refine Zo1 f b.wt U hk λm W g V I=>?_;walk_at"e";refine⟨aR (by simp),λl nl=>⟨aR (by simp),λa t=>?_⟩⟩;have h:=aK nl (.lst [.int (k:Int)]);have O:=aK t (.tup [.str "back",.int c.birth,.ref l]);have r:=h.trans O;have R:=u6.back (lb:=lb) (lw:=lw) (M:=M) c ph lt x z;rw[B,Int.toNat_natCast]at R;rw[B]at V;exact q _ _ R _ T W a (b.trans (g.trans (jf.same g.wt r))) (V.same r) I ⟨l,jf.free b (jf.free g nl),aq,O _ _ aq⟩ λy=>absurd (ph.symm.trans y) (show ¬ ("give":Str)="lost" by decide)
theorem Zzn{wo:AH}(b:qm K X)(q:Gr X pEnd wo H Q):Zii K ⟨n,Q,bk,ct⟩ [some (.ref wo),none] H:=by
 obtain⟨T,s,A,M,r,t,w,m,j,rfl,ok,⟨ph,lt⟩,lo,q⟩:=q;obtain⟨u,ow⟩:=j.jb.ow;obtain⟨g,os⟩:=j.js.os;unfold Zii;walk_at"e";refine aH ow b.cW b.Rr bx ?_;walk_at"e";refine⟨A.sw,X.S,g,_,rfl,os,b.cS,b.n2,by show 11<1000;decide,?_⟩;rw[pC];obtain⟨d,f⟩:=j.sweep w m (dx:=g) { M.sw with phase:="rest" } rfl;generalize upd H A.sw _=p at d f ⊢;obtain⟨k,c⟩:=f.js.os;walk_at"e";refine aH c b.cS b.n5 qM ?_;walk_at"e";refine aH c b.cS b.n8 uI ?_;walk_at"e";refine aH c b.cS b.n9 p7 ?_;walk_at"e";refine aH c b.cS b.n10 sr ?_;walk_at"e";refine⟨aR (by simp),λl nl=>⟨aR (by simp),λa o=>?_⟩⟩;have i:=aK nl (.lst [.int M.sw.walks,.int M.sw.looks,.int M.sw.passes]);have h:=aK o (.tup [.str "end",.int M.sw.turn,.ref l]);have e:=i.trans h;exact q _ _ (.fin ph lt) _ T A a (d.trans (jf.same d.wt e)) (f.same e) ⟨rfl,rfl⟩ ⟨l,jf.free d nl,aq,h _ _ aq⟩ λz=>absurd z (show ¬ ("rest":Str)="lost" by decide)
theorem QM{wo:AH}(a:qm K X)(q:Gr X (Ro "give") wo H Q):uP K (bU X pEnd) (bU X Zen) ⟨n,Q,bk,ct⟩ [some (.ref wo)] H:=by
 obtain⟨T,s,A,M,b,c,w,d,j,rfl,ok,ph,lo,q⟩:=q;obtain⟨f,ow⟩:=j.jb.ow;obtain⟨e,os⟩:=j.js.os;unfold uP;walk_at"e";refine aH ow a.cW a.Rr bx ?_;walk_at"e";refine aH os a.cS a.n6 JD ?_;walk_at"e";refine aH ow a.cW a.Rr bx ?_;walk_at"e";refine aH os a.cS a.n7 R6 ?_;walk_at"e";refine uY (λz=>?_) (λz=>?_)
 ·walk_at"e";exact⟨_,rfl,T,s,A,M,b,c,w,d,j,rfl,ok,⟨ph,z⟩,lo,q⟩
 ·walk_at"e";exact⟨_,rfl,T,s,A,M,b,c,w,d,j,rfl,ok,⟨ph,z⟩,lo,q⟩
theorem QL{wo:AH}(a:qm K X)(q:Gr X (Ro "walk") wo H Q):uO K (bU X Zeo) (bU X Zem) ⟨n,Q,bk,ct⟩ [some (.ref wo)] H:=by
 obtain⟨T,s,A,M,c,d,w,e,j,rfl,ok,ph,lo,q⟩:=q;obtain⟨h,ow⟩:=j.jb.ow;obtain⟨f,os⟩:=j.js.os;unfold uO;walk_at"e";refine aH ow a.cW a.Rr bx ?_;walk_at"e";refine aH os a.cS a.n3 lC ?_;refine ZAe (cB.of j.js.og) ?_;cases b:M.sw.grey with
 | nil=>
  refine Zce ?_;walk_at"e";exact⟨_,rfl,T,s,A,M,c,d,w,e,j,rfl,ok,⟨ph,b⟩,lo,q⟩
 | cons x g=>
  refine Zjy ?_;walk_at"e";exact⟨_,rfl,T,s,A,M,c,d,w,e,j,rfl,ok,⟨ph,by rw[b];simp⟩,lo,q⟩
theorem JG{wo:AH}(b:qm K X)(q:Gr X (Ro "lost") wo H Q):qP K (nG K) ⟨n,Q,bk,ct⟩ [some (.ref wo)] H:=by
 obtain⟨T,s,A,M,f,h,w,o,j,rfl,ok,ph,lo,q⟩:=q;obtain⟨p,ow⟩:=j.jb.ow;obtain⟨m,os⟩:=j.js.os;obtain⟨d,e,g,t1,o1,t2,o2⟩:=lo ph;rw[g]at os;unfold qP;walk_at"e";refine aH ow b.cW b.Rr bx ?_;walk_at"e";refine aH os b.cS b.n11 R7 ?_;walk_at"e";refine⟨d,rfl,"lost",f,e,h,o1,o2,λa l k c nl i ol=>?_⟩;exact q _ _ (.again ph) _ T A a (jf.same w c) (j.same c) ⟨rfl,rfl⟩ ⟨l,nl,i,ol⟩ λ_=>⟨f,rfl,d,e,g,t1,c _ _ o1,t2,c _ _ o2⟩
theorem Zt0{wo e g h f:AH}(a:qm K X)(q:Gr X Ziu wo H Q):Zaj K e g h f (bU X (Ro "rest")) (bU X (Ro "give")) (bU X (Ro "walk")) (bU X (Ro "lost")) ⟨n,Q,bk,ct⟩ [some (.ref wo),none] H:=by
 obtain⟨T,s,A,M,b,c,w,d,j,rfl,ok,_,lo,q⟩:=q;obtain⟨k,ow⟩:=j.jb.ow;obtain⟨i,os⟩:=j.js.os;unfold Zaj;walk_at"e";refine aH ow a.cW a.Rr bx ?_;walk_at"e";refine aH os a.cS a.n2 fX ?_;rcases ok.ph with ph | ph | ph | ph
 ·rw[ph];refine⟨_,e,rfl,rfl,?_⟩;walk_at"e";refine oJ (bU X (Ro "rest")) rfl (by simp) ?_;walk_at"e";exact⟨_,rfl,T,s,A,M,b,c,w,d,j,rfl,ok,ph,lo,q⟩
 ·rw[ph];refine⟨_,h,rfl,rfl,?_⟩;walk_at"e";refine oJ (bU X (Ro "walk")) rfl (by simp) ?_;walk_at"e";exact⟨_,rfl,T,s,A,M,b,c,w,d,j,rfl,ok,ph,lo,q⟩
 ·rw[ph];refine⟨_,g,rfl,rfl,?_⟩;walk_at"e";refine oJ (bU X (Ro "give")) rfl (by simp) ?_;walk_at"e";exact⟨_,rfl,T,s,A,M,b,c,w,d,j,rfl,ok,ph,lo,q⟩
 ·rw[ph];refine⟨_,f,rfl,rfl,?_⟩;walk_at"e";refine oJ (bU X (Ro "lost")) rfl (by simp) ?_;walk_at"e";exact⟨_,rfl,T,s,A,M,b,c,w,d,j,rfl,ok,ph,lo,q⟩
end
section
variable {K:aB}{X:Cs}{H:Hp}{Q:VK}{E:XK}{n:St->Hp->Prop}{bk ct:St->Hp->Prop}
theorem R8{A:Wa}{w:Int}{σ:St}{b:TE}{q:Bool->Hp->Prop}(ol:∃dx,(w=0/\H A.lk=some (.ins X.F dx []))\/(w=1/\H A.lk=some (.ins X.E dx []))\/(w=2/\H A.lk=some (.ins X.L dx [])))(a:∀c:VK,c (.ref A.lk) H->b σ H c)(h:q (decide (w≠2)) H):
  tB (G.LK (mJ X.F "stays" (tV (.bl true)) [] E0 b aF) (G.LK (mJ X.E "stays" (tV (.bl true)) [] E0 b aF) (mJ X.L "stays" (tV (.bl false)) [] E0 b aF))) σ H q:=by
 refine ZB8 ?_;obtain⟨dl,⟨d,o⟩ | ⟨d,o⟩ | ⟨d,o⟩⟩:=ol
 ·rw[show decide (w≠2)=true from decide_eq_true (by omega)]at h;refine Y0 ?_;walk_at"s";refine a _ ?_;refine⟨A.lk,dl,_,rfl,o,rfl,?_⟩;walk_at"s";exact⟨_,rfl,i_B h⟩
 ·rw[show decide (w≠2)=true from decide_eq_true (by omega)]at h;refine K3 (Y0 ?_);walk_at"s";refine a _ ?_;refine⟨A.lk,dl,_,rfl,o,rfl,?_⟩;walk_at"s";exact⟨_,rfl,i_B h⟩
 ·rw[show decide (w≠2)=false from decide_eq_false (by omega)]at h;refine K3 (K3 ?_);walk_at"s";refine a _ ?_;refine⟨A.lk,dl,_,rfl,o,rfl,?_⟩;walk_at"s";exact⟨_,rfl,i_B h⟩
theorem Zne{T:Tg}{s:Nat}{A:Wa}{M:Wm}{lb:Int}{lw:AD}(i:qm K X)(w:WT H T)(I:s≠0)(j:WJ X H T s A M)(ok:O8 M)(ph:M.sw.phase="walk")(gr:M.sw.grey=[])
  (q:∀e M',u6 lb lw M e M'->∀H' T' J a,jf s H H' T T'->WJ X H' T' s J M'->J.wo=A.wo/\J.sw=A.sw->EvN H H' a e->(M'.sw.phase="lost"->∃b,e.thing=some b/\Zsq H' T' M' b e.notes)->Q (.ref a) H'):
  pN K X.E X.F X.L (tV (.bl false)) (tV (.bl true)) (bU X Zit) (mq X) ⟨n,Q,bk,ct⟩ [some (.ref A.wo),some (.ref A.sw),some (.ref A.lk),some (.int (bD M)),none] H:=by
 unfold pN;walk_at"e";refine⟨_,_,rfl,T,s,A,M,w,I,j,rfl,ok.hl,λ_=>by rw[gr];exact Nat.zero_le _,λx y l g o C nl=>?_⟩;have nt:=Zbk (bD M) M.hands 0 M;have ww:=nt.ww;have ol:=o.jb.ol;rw[ww]at ol;have B:tU M->bU X Zit [.ref A.wo] x Q E0:=λcd=>by
  have e:(iV (bD M) M.hands 0 M).2=M:=by
   rcases cd with z | ⟨_,z⟩
   ·rw[z,Zfb]
   ·exact Zbl _ z
  rw[e]at o;refine⟨_,rfl,y,s,A,M,lb,lw,g.wt,I,o,rfl,ok,⟨ph,gr,cd⟩,λz=>absurd (ph.symm.trans z) (by decide),λe' M' r H' T' J a Y j' P ev' R=>?_⟩;obtain⟨l',W,o1,o2⟩:=ev';exact q e' M' r H' T' J a (g.trans Y) j' P ⟨l',jf.free g W,o1,o2⟩ R
 have p:¬ tU M->∀(lo:Int),lo=(if M.w=2 then(iV (bD M) M.hands 0 M).2.sw.looked else Builtin.bitOr (iV (bD M) M.hands 0 M).2.sw.looked (bD M))->∀m,jf s x m y y->WJ X m y s A { (iV (bD M) M.hands 0 M).2 with sw:={ (iV (bD M) M.hands 0 M).2.sw with looks:=(iV (bD M) M.hands 0 M).2.sw.looks+1,looked:=lo } }->m l=some (.lst ((iV (bD M) M.hands 0 M).1.map V.int))->∀a,m a=none->Q (.ref a) (upd m a (.tup [.str "look",.int (bD M),.ref l])):=λD lo U m d t u a N=>by
  have Z:=aK N (.tup [.str "look",.int (bD M),.ref l]);subst U;refine q _ _ (.look _ ph gr D rfl) _ y A a (g.trans (d.trans (jf.same d.wt Z))) (t.same Z) ⟨rfl,rfl⟩ ⟨l,nl,aq,Z _ _ u⟩ λz=>?_;have:=(FW (bD M) 100 M.hands 0 M ok.hl).1;have z:(iV (bD M) M.hands 0 M).2.sw.phase="lost":=z;rw[this]at z;exact absurd (ph.symm.trans z) (by decide)
 walk_at"e";refine uY (λhz=>?_) (λhz=>?_)
 ·walk_at"e";exact B (.inl hz)
 ·refine Zwp ?_;refine ZBa ?_;refine R8 ol (λQ' h=>by walk_at"s";exact h) ?_
  by_cases O:M.w=2
  ·rw[show decide (M.w≠2)=false from decide_eq_false (by omega)];refine Zce ?_;refine Zwo ?_;walk_at"s";refine ZAe (cB.of C) ?_;cases hn:(iV (bD M) M.hands 0 M).1 with
   | nil=>
    refine Zjy ?_;walk_at"e";exact B (.inr ⟨O,hn⟩)
   | cons b bs=>
    have D:¬ tU M:=λz=>by
     rcases z with z | ⟨_,z⟩
     ·exact hz z
     ·rw[hn]at z;cases z
    have p:=p D _ rfl;rw[if_pos O]at p;obtain⟨c,f⟩:=o.js.os;refine Zce ?_;walk_at"e";refine aH f i.cS i.n9 p7 ?_;walk_at"e";refine⟨A.sw,X.S,c,_,rfl,f,i.cS,i.n9,by show 11<1000;decide,?_⟩;rw[rZ];obtain⟨d,t⟩:=o.sweep g.wt I (dx:=c) { (iV (bD M) M.hands 0 M).2.sw with looks:=(iV (bD M) M.hands 0 M).2.sw.looks+1 } rfl;have u:upd x A.sw (.ins X.S c (cG (iV (bD M) M.hands 0 M).2.sw.sense (iV (bD M) M.hands 0 M).2.sw.phase A.gr (iV (bD M) M.hands 0 M).2.sw.looked (iV (bD M) M.hands 0 M).2.sw.turn (iV (bD M) M.hands 0 M).2.sw.at' (iV (bD M) M.hands 0 M).2.sw.stop (iV (bD M) M.hands 0 M).2.sw.walks ((iV (bD M) M.hands 0 M).2.sw.looks+1) (iV (bD M) M.hands 0 M).2.sw.passes (iV (bD M) M.hands 0 M).2.sw.loss)) l=some (.lst ((iV (bD M) M.hands 0 M).1.map V.int)):=(aC (rC C f (λz=>by cases z))).trans C;generalize upd x A.sw _=m at d t u ⊢;have k:=t.jb.ol;have v:({ (iV (bD M) M.hands 0 M).2 with sw:={ (iV (bD M) M.hands 0 M).2.sw with looks:=(iV (bD M) M.hands 0 M).2.sw.looks+1 } }:Wm).w=M.w:=ww;rw[v]at k;refine K1 ?_;refine Zyy ?_;refine R8 k (λQ' h=>by walk_at"s";exact h) ?_;rw[show decide (M.w≠2)=false from decide_eq_false (by omega)];walk_at"e";exact⟨aR (by simp),λa N=>p m d t u a N⟩
  ·rw[show decide (M.w≠2)=true from decide_eq_true (by omega)];have D:¬ tU M:=λz=>by
    rcases z with z | ⟨z,_⟩
    ·exact hz z
    ·exact O z
   have p:=p D _ rfl;rw[if_neg O]at p;obtain⟨c,f⟩:=o.js.os;walk_at"e";refine aH f i.cS i.n9 p7 ?_;walk_at"e";refine⟨A.sw,X.S,c,_,rfl,f,i.cS,i.n9,by show 11<1000;decide,?_⟩;rw[rZ];obtain⟨ZLf,j1b⟩:=o.sweep g.wt I (dx:=c) { (iV (bD M) M.hands 0 M).2.sw with looks:=(iV (bD M) M.hands 0 M).2.sw.looks+1 } rfl;have k:=j1b.jb.ol;have v:({ (iV (bD M) M.hands 0 M).2 with sw:={ (iV (bD M) M.hands 0 M).2.sw with looks:=(iV (bD M) M.hands 0 M).2.sw.looks+1 } }:Wm).w=M.w:=ww;rw[v]at k;refine K1 ?_;refine Zyy ?_;refine R8 k (λQ' h=>by walk_at"s";exact h) ?_;rw[show decide (M.w≠2)=true from decide_eq_true (by omega)];walk_at"e";refine aH aq i.cS i.n4 gn ?_;walk_at"e";refine⟨A.sw,X.S,c,_,rfl,aq,i.cS,i.n4,by show 11<1000;decide,?_⟩;rw[xm,eV];obtain⟨d,t⟩:=o.sweep g.wt I (dx:=c) { (iV (bD M) M.hands 0 M).2.sw with looks:=(iV (bD M) M.hands 0 M).2.sw.looks+1,looked:=Builtin.bitOr (iV (bD M) M.hands 0 M).2.sw.looked (bD M) } rfl;have u:upd x A.sw (.ins X.S c (cG (iV (bD M) M.hands 0 M).2.sw.sense (iV (bD M) M.hands 0 M).2.sw.phase A.gr (Builtin.bitOr (iV (bD M) M.hands 0 M).2.sw.looked (bD M)) (iV (bD M) M.hands 0 M).2.sw.turn (iV (bD M) M.hands 0 M).2.sw.at' (iV (bD M) M.hands 0 M).2.sw.stop (iV (bD M) M.hands 0 M).2.sw.walks ((iV (bD M) M.hands 0 M).2.sw.looks+1) (iV (bD M) M.hands 0 M).2.sw.passes (iV (bD M) M.hands 0 M).2.sw.loss)) l=some (.lst ((iV (bD M) M.hands 0 M).1.map V.int)):=(aC (rC C f (λz=>by cases z))).trans C;generalize upd x A.sw _=m at d t u ⊢;walk_at"e";exact⟨aR (by simp),λa N=>p m d t u a N⟩
theorem Ut{wo:AH}(a:qm K X)(q:Gr X Zeo wo H Q):vU K X.E X.F X.L (iR 1) (iR 2) (tV (.bl false)) (iR 0) (tV (.bl true)) (bU X Zit) (mq X) ⟨n,Q,bk,ct⟩ [some (.ref wo),none,none,none,none] H:=by
 obtain⟨T,s,A,M,k,l,w,g,j,rfl,ok,⟨ph,gr⟩,lo,q⟩:=q;obtain⟨m,ow⟩:=j.jb.ow;obtain⟨i,os⟩:=j.js.os;obtain⟨h,e⟩:=j.jb.ok;have on:=j.jb.on;have lh:=j.jd.lh;have l5:=j.jd.l5;have f:((A.hs.map λp=>V.ref p.1).length:Int)=(M.hands.length:Int):=by rw[aY,lh]
 have b:=Zne (n:=n) (bk:=bk) (ct:=ct) a w g j ok ph gr q;obtain⟨dl,ol⟩:=j.jb.ol;unfold vU;walk_at"e";refine aH ow a.cW a.Rr bx ?_;walk_at"e";refine aH ow a.cW a.nWk mL ?_;refine aH e a.cK a.nKl pH ?_;refine Zz0 ?_;refine K1 ?_;walk_at"s";rcases ol with ⟨d,o⟩ | ⟨d,o⟩ | ⟨d,o⟩
 ·have c:bD M=FZ 0 M.sw.looked M.hands.length:=by unfold bD;rw[d];rfl
  refine Y0 ?_;walk_at"s";refine⟨A.lk,dl,_,rfl,o,rfl,?_⟩;walk_at"s";refine aH os a.cS a.n4 gn ?_;walk_at"s";refine aH ow a.cW a.nWd dZ ?_;walk_at"s";refine jC (cB.of on) ?_;rw[f];walk_at"s";refine⟨A.lk,_,_,rfl,by omega,by omega,?_⟩;rw[Int.toNat_natCast,<- c];walk_at"s";exact b
 ·have c:bD M=FZ 1 M.sw.looked M.hands.length:=by unfold bD;rw[d];rfl
  refine K3 (Y0 ?_);walk_at"s";refine⟨A.lk,dl,_,rfl,o,rfl,?_⟩;walk_at"s";refine aH os a.cS a.n4 gn ?_;walk_at"s";refine aH ow a.cW a.nWd dZ ?_;walk_at"s";refine jC (cB.of on) ?_;rw[f];walk_at"s";refine⟨A.lk,_,_,rfl,by omega,by omega,?_⟩;rw[Int.toNat_natCast,<- c];walk_at"s";exact b
 ·have c:bD M=FZ 2 M.sw.looked M.hands.length:=by unfold bD;rw[d];rfl
  refine K3 (K3 ?_);walk_at"s";refine⟨A.lk,dl,_,rfl,o,rfl,?_⟩;walk_at"s";refine aH os a.cS a.n4 gn ?_;walk_at"s";refine aH ow a.cW a.nWd dZ ?_;walk_at"s";refine jC (cB.of on) ?_;rw[f];walk_at"s";refine⟨A.lk,_,_,rfl,by omega,by omega,?_⟩;rw[Int.toNat_natCast,<- c];walk_at"s";exact b
end
abbrev Qz:=List (Str×Int)
def HsO(H:Hp)(l:AH)(hs:Qz):Prop:=∃ts:AE,H l=some (.lst (ts.map V.ref))/\Al (λ(a:AH) (m:Str×Int)=>H a=some (.tup [.str m.1,.int m.2])) ts hs
theorem HsO.same{H H':Hp}{l:AH}{hs:Qz}(h:HsO H l hs)(s:aW H H'):HsO H' l hs:=by
 obtain⟨ts,h1,h2⟩:=h;exact⟨ts,s _ _ h1,h2.mono λa m z=>s _ _ z⟩
structure HsB(hs:Qz):Prop where
 n1:1<=hs.length
 n5:hs.length<=5
 sb:∀m∈hs,3<=m.2/\m.2<=9
def Ua(hs:Qz)(h s:Nat):Prop:=∃m,hs[h]? =some m/\(s:Int)<m.2
def okR(hs:Qz):p6->Prop
 | .make h s many bulk=>Ua hs h s/\0<=many/\many<=8/\0<=bulk
 | .get h s t _=>Ua hs h s/\Ua hs h t
 | .put h t _ s=>Ua hs h t/\Ua hs h s
 | .copy h s t=>Ua hs h s/\Ua hs h t
 | .drop h s=>Ua hs h s
 | .give h s g t=>Ua hs h s/\Ua hs g t
 | .write h t _=>Ua hs h t
 | .read h t=>Ua hs h t
 | .name h t _=>Ua hs h t
 | .seek h s _=>Ua hs h s
theorem HsB.ok{hs:Qz}(b:HsB hs){h s:Nat}(hh:h<hs.length)(h3:s<3):Ua hs h s:=by
 have:=b.sb _ (List.getElem_mem hh);exact⟨_,bM hh,by omega⟩
def Zdm(H0 H:Hp)(hs:Qz)(vs:List V):Prop:=∀v∈vs,v=.non\/∃t d,v=.ref t/\H0 t=none/\H t=some (.tup (dV d))/\okR hs d
structure RL(H0 H:Hp)(hs:Qz)(l:AH)(N:Nat):Prop where
 s:aW H0 H
 n:H0 l=none
 ex:∃vs,H l=some (.lst vs)/\vs.length<=N/\Zdm H0 H hs vs
theorem Zdm.same{H0 H H':Hp}{hs:Qz}{vs:List V}(h:Zdm H0 H hs vs)(s:aW H H'):Zdm H0 H' hs vs:=λv hv=>by
 rcases h v hv with z | ⟨t,d,e,f,o,k⟩
 ·exact .inl z
 ·exact .inr ⟨t,d,e,f,s _ _ o,k⟩
theorem RL.same{H0 H H':Hp}{hs:Qz}{l:AH}{N:Nat}(h:RL H0 H hs l N)(s:aW H H'):RL H0 H' hs l N:=by
 obtain⟨a,n,b,h1,h2,h3⟩:=h;exact⟨a.trans s,n,b,s _ _ h1,h2,h3.same s⟩
theorem RL.base{H0 a H:Hp}{hs:Qz}{l:AH}{N:Nat}(h:RL a H hs l N)(s:aW H0 a):RL H0 H hs l N:=by
 obtain⟨c,n,b,h1,h2,h3⟩:=h;refine⟨s.trans c,s.free n,b,h1,h2,λv hv=>?_⟩;rcases h3 v hv with z | ⟨t,d,e,f,o,k⟩
 ·exact .inl z
 ·exact .inr ⟨t,d,e,s.free f,o,k⟩
theorem RL.mono{H0 H:Hp}{hs:Qz}{l:AH}{N N':Nat}(h:RL H0 H hs l N)(n:N<=N'):RL H0 H hs l N':=by
 obtain⟨a,c,b,h1,h2,h3⟩:=h;exact⟨a,c,b,h1,by omega,h3⟩
theorem zE{H0 H:Hp}{hs:Qz}{a c:AH}{b d:Nat}{Q:VK}(h1:RL H0 H hs a b)(h2:RL H0 H hs c d)(hb:b+d<=100000)(k:∀l H',aW H H'->H l=none->RL H0 H' hs l (b+d)->Q (.ref l) H'):yO (.ref a) (.ref c) H Q:=by
 obtain⟨f,_,e,j,n,h⟩:=h1;obtain⟨_,_,g,m,o,i⟩:=h2;refine⟨a,c,_,_,rfl,rfl,j,m,aR (by omega),λl nl=>?_⟩;have s:=aK nl (.lst (e++g));refine k l _ s nl ⟨f.trans s,f.free nl,e++g,aq,by rw[List.length_append];omega,λv hv=>?_⟩;rcases List.mem_append.mp hv with hv | hv
 ·exact(h.same s) v hv
 ·exact(i.same s) v hv
theorem Ztj(m:Nat):(List.replicate m [V.non]).flatten=(List.replicate m (none:AA)).map oV:=by
 induction m with
 | zero=>rfl
 | succ m a=>rw[List.replicate_succ,List.flatten_cons,a];rfl
theorem Ug{H0 H:Hp}{hs:Qz}{Q:VK}{a:AH}{k:Int}(b:aW H0 H)(c:H a=some (.lst [V.non]))(k0:0<=k)(k1:k<=1000)(q:∀l H',aW H H'->H l=none->RL H0 H' hs l k.toNat->Q (.ref l) H'):Zeh (.ref a) (.int k) H Q:=by
 refine⟨a,k,_,rfl,rfl,c,by omega,by omega,by show 1 * k.toNat<=sizeLine;exact aR (by omega),λl nl=>?_⟩;rw[Ztj];refine q l _ (aK nl _) nl ⟨b.trans (aK nl _),b.free nl,_,aq,by rw[aY,List.length_replicate];exact Nat.le_refl _,λv hv=>?_⟩;rw[List.map_replicate]at hv;rw[List.eq_of_mem_replicate hv];exact .inl rfl
theorem rl1{H0 H:Hp}{hs:Qz}{l t:AH}{d:p6}(s:aW H0 H)(nl:H0 l=none)(nt:H0 t=none)(h:H l=some (.lst [.ref t]))(o:H t=some (.tup (dV d)))(k:okR hs d):RL H0 H hs l 1:=⟨s,nl,_,h,Nat.le_refl _,λv hv=>by
 rw[List.mem_singleton.mp hv];exact .inr ⟨t,d,rfl,nt,o,k⟩⟩
theorem rl2{H0 H:Hp}{hs:Qz}{l t u:AH}{d e:p6}(s:aW H0 H)(nl:H0 l=none)(nt:H0 t=none)(c:H0 u=none)(h:H l=some (.lst [.ref t,.ref u]))(o:H t=some (.tup (dV d)))(k:okR hs d)(b:H u=some (.tup (dV e)))(a:okR hs e):RL H0 H hs l 2:=⟨s,nl,_,h,Nat.le_refl _,λv hv=>by
 rcases List.mem_cons.mp hv with rfl | hv
 ·exact .inr ⟨t,d,rfl,nt,o,k⟩
 ·rw[List.mem_singleton.mp hv];exact .inr ⟨u,e,rfl,c,b,a⟩⟩
theorem rl3{H0 H:Hp}{hs:Qz}{l t u w:AH}{d e f:p6}(s:aW H0 H)(nl:H0 l=none)(nt:H0 t=none)(c:H0 u=none)(nw:H0 w=none)(h:H l=some (.lst [.ref t,.ref u,.ref w]))(o:H t=some (.tup (dV d)))(k:okR hs d)(b:H u=some (.tup (dV e)))(a:okR hs e)(o2:H w=some (.tup (dV f)))(k2:okR hs f):RL H0 H hs l 3:=⟨s,nl,_,h,Nat.le_refl _,λv hv=>by
 rcases List.mem_cons.mp hv with rfl | hv
 ·exact .inr ⟨t,d,rfl,nt,o,k⟩
 ·rcases List.mem_cons.mp hv with rfl | hv
  ·exact .inr ⟨u,e,rfl,c,b,a⟩
  ·rw[List.mem_singleton.mp hv];exact .inr ⟨w,f,rfl,nw,o2,k2⟩⟩
def rQ(K:aB):Sp:=λvs H Q E=>∃a k,vs=[.ref a,.int k]/\∃ns:AD,cB K H a (ns.map V.int)/\0<=k/\∀z:Int,Q (.int z) H
def jJ:Sp:=λvs H Q E=>∃c p m,vs=[.int c,.int p,.int m]/\0<p/\p<2 ^ 32/\0<m/\∀z:Int,0<=z->z<m->Q (.int z) H
def rO:Sp:=λvs H Q E=>∃c w,vs=[.int c,.int w]/\0<=w/\w<=1000/\∀z:Str,Q (.str z) H
def Z5q (K:aB)(H:Hp)(a:AH)(Q:VK):Prop:=∃ns:AD,cB K H a (ns.map V.int)/\∀l hs H',aW H H'->H l=none->HsO H' l hs->HsB hs->Q (.ref l) H'
def RQ(K:aB):Sp:=λvs H Q E=>∃a,vs=[.ref a]/\Z5q K H a Q
def Zdj(K:aB):Sp:=λvs H Q E=>∃a,vs=[.ref a]/\∃ns:AD,cB K H a (ns.map V.int)/\∀z:Int,Q (.int z) H
def Z6q (c:Int)(H:Hp)(X:Cs)(Q:VK):Prop:=∀ki lk w t H',0<=t->t<4->w=c % 3->aW H H'->H ki=none->H lk=none->KdO X H' ki lk w t->Q (.ref ki) H'
def RP(X:Cs):Sp:=λvs H Q E=>∃c,vs=[.int c]/\Z6q c H X Q
def Z7q (h:Int)(s:Int)(H:Hp)(Q:VK):Prop:=∃(hn sn:Nat),h=(hn:Int)/\s=(sn:Int)/\∀t many bulk H',aW H H'->H t=none->0<=many->many<=8->0<=bulk->H' t=some (.tup (dV (.make hn sn many bulk)))->Q (.ref t) H'
def RM:Sp:=λvs H Q E=>∃c h s,vs=[.int c,.int h,.int s]/\Z7q h s H Q
def RN:Sp:=λvs H Q E=>∃c,vs=[.int c]/\∀z:Int,Q (.int z) H
def wI:Sp:=λvs H Q E=>∃i,vs=[.int i]/\Q (.bl true) H
def Z8q (H:Hp)(a:AH)(b:AH)(Q:VK):Prop:=∃(z:Str) (i:Int) (l c:AH) (ns:AD),H a=some (.tup [.str z,.int i,.ref l])/\H b=some (.tup [.str z,.int i,.ref c])/\H l=some (.lst (ns.map V.int))/\H c=some (.lst (ns.map V.int))/\Q (.bl true) H
def Hl(K:aB):Sp:=λvs H Q E=>∃a b,vs=[.ref a,.ref b]/\Z8q H a b Q
variable {K:aB}{X:Cs}{rf:Rf->AH}{H:Hp}{Q:VK}{E:XK}{n:St->Hp->Prop}{bk ct:St->Hp->Prop}
section
theorem Zdh{a:AH}{k:Int}(q:∃ns:AD,cB K H a (ns.map V.int)/\0<=k/\∀z:Int,Q (.int z) H):Bw K ⟨n,Q,bk,ct⟩ [some (.ref a),some (.int k)] H:=by
 obtain⟨ns,b,c,h⟩:=q;unfold Bw;walk_at"e";refine jC b ?_;walk_at"e";refine uY (λh1=>?_) (λh1=>?_)
 ·walk_at"e";rw[aY]at h1;have hk:k.toNat<ns.length:=by omega
  exact je b (rN c (by rw[cF,bM hk]<;>rfl)) (h _)
 ·walk_at"e";exact h _
theorem Zdf{c p m:Int}(q:0<p/\p<2 ^ 32/\0<m/\∀z:Int,0<=z->z<m->Q (.int z) H):Bu ⟨n,Q,bk,ct⟩ [some (.int c),some (.int p),some (.int m)] H:=by
 obtain⟨b,d,a,q⟩:=q;have h1:=Int.emod_nonneg c (show p≠0 by omega);have h2:=Int.emod_lt_of_pos c b;unfold Bu;walk_at"e";exact q _ (Int.emod_nonneg _ (by omega)) (Int.emod_lt_of_pos _ a)
theorem Zd4{c w:Int}(q:0<=w/\w<=1000/\∀z:Str,Q (.str z) H):Bh ⟨n,Q,bk,ct⟩ [some (.int c),some (.int w),none,none,none,none,none] H:=by
 obtain⟨w0,s,q⟩:=q;have m:=Int.emod_nonneg c (show(12:Int)≠0 by decide);have r:=Int.emod_lt_of_pos c (show(0:Int)<12 by decide);obtain⟨sz,p⟩:=toN (x:=1+c % 12) (by omega);have hs:1<=sz/\sz<=12:=by omega
 have a0:=Int.emod_nonneg (c / 12) (show(1+c % 12)≠0 by omega);have o:=Int.emod_lt_of_pos (c / 12) (show 0<1+c % 12 by omega);unfold Bh;walk_at"e";have e:=Int.emod_nonneg (c / 5) (show(26:Int)≠0 by decide);have f:=Int.emod_lt_of_pos (c / 5) (show(0:Int)<26 by decide);refine Zrl (by decide) e (by show c / 5 % 26<26;exact f) λt=>?_;walk_at"e";have g:=Int.emod_nonneg (c / 7+5 * w) (show(26:Int)≠0 by decide);have d:=Int.emod_lt_of_pos (c / 7+5 * w) (show(0:Int)<26 by decide);refine Zrl (by decide) g (by show(c / 7+5 * w) % 26<26;exact d) λi=>?_;walk_at"e";refine Zri a0 (by omega) (by rw[YC];decide) λt1 k a=>?_;have j:t1.length<=12:=by rw[a,Td,YC];omega
 walk_at"e";refine Zro (by rw[YC];exact aR (by omega)) ?_;walk_at"e";refine Zri (by omega) (by omega) (by rw[YC];decide) λt2 l b=>?_;have h:t2.length<=12:=by rw[b,Td,YC];omega
 walk_at"e";refine Zro (by rw[ZAh,YC];exact aR (by omega)) ?_;exact q _
theorem XS{a:AH}(q:Z5q K H a Q):yH K (rQ K) jJ rO ⟨n,Q,bk,ct⟩ [some (.ref a),none,none,none,none] H:=by
 obtain⟨ns,M,q⟩:=q;unfold yH;walk_at"e";refine⟨a,1,rfl,ns,M,by decide,λc=>?_⟩;walk_at"e";refine⟨by decide,λl nl=>?_⟩;generalize u:upd H l _=H1;obtain⟨T,w⟩:=nwO nl u;have w:H1 l=some (.lst (([]:AE).map V.ref)):=w;walk_at"e";refine⟨_,_,_,rfl,by decide,by decide,by decide,λz Y z1=>?_⟩;walk_at"e";refine⟨_,rfl,by omega,by omega,?_⟩;refine forR (λk e d=>∃(ts:AE) (hs:Qz) (r j:Option V),e=[some (.ref a),some (.int c),some (.ref l),r,j]/\aW H d/\d l=some (.lst (ts.map V.ref))/\Al (λ(a:AH) (m:Str×Int)=>d a=some (.tup [.str m.1,.int m.2])) ts hs/\hs.length=k/\∀m∈hs,3<=m.2/\m.2<=9) ⟨[],[],_,_,rfl,T,w,.nil,rfl,λm hm=>(nomatch hm)⟩ ?_ ?_
 ·rintro k e d hk ⟨ts,hs,r,j,rfl,v,s,al,hl,hb⟩;have R:k<5:=by omega
  have D:=al.length;have fin:∀{many:Int},3<=many->many<=9->∀(A:St->Hp->Prop) (I:VK) (J L:St->Hp->Prop),(∀ e f,(∃(ts:AE) (hs:Qz) (r j:Option V),e=[some (.ref a),some (.int c),some (.ref l),r,j]/\aW H f/\f l=some (.lst (ts.map V.ref))/\Al (λ(a:AH) (m:Str×Int)=>f a=some (.tup [.str m.1,.int m.2])) ts hs/\hs.length=k+1/\∀m∈hs,3<=m.2/\m.2<=9)->A e f)->
    xg (tBM K "list" BL (ak 2) (aj (fW (aj (aQ rO [] E0 (aj (ak 1) (aj (ak 3) aF))) (aj (ak 4) aF))) aF)) ⟨A,I,J,L⟩ [some (.ref a),some (.int c),some (.ref l),some (.int ((0:Int)+k)),some (.int many)] d:=by
   intro many S U A I J L O;walk_at"e";refine⟨.inl ⟨rfl,_,cB.of s⟩,?_⟩;walk_at"e";refine⟨_,_,rfl,by omega,by omega,λwd=>?_⟩;walk_at"e";refine⟨aR (by simp),λt nt=>?_⟩;generalize u:upd d t _=H3;obtain⟨C,P⟩:=nwO nt u;have E:=C _ _ s;walk_at"e";refine⟨l,_,_,rfl,rfl,E,?_,?_⟩
   ·rw[aY];exact Nat.lt_of_le_of_lt (show _<=1000 by omega) (by decide)
   rw[show ts.map V.ref++[V.ref t]=(ts++[t]).map V.ref from by rw[List.map_append];rfl];have F:∀b B,H3 b=some (.tup B)->upd H3 l (.lst ((ts++[t]).map V.ref)) b=some (.tup B):=λb B hb=>by
    rw[aC (rC hb E (λz=>by cases z))];exact hb
   walk_at"e";refine O _ _ ⟨ts++[t],hs++[(wd,many)],_,_,rfl,λb o hb=>by rw[aC (aD hb nl)];exact C _ _ (v _ _ hb),aq,?_,by rw[List.length_append,hl];rfl,λm hm=>?_⟩
   ·refine Zm7 (by rw[List.length_append,List.length_append,D];rfl) λi x y g p=>?_
    by_cases N:i<ts.length
    ·rw[List.getElem?_append_left N]at g;rw[List.getElem?_append_left (by omega)]at p;obtain⟨W,e3,z⟩:=al.get p;rw[g]at e3;cases e3;exact F _ _ (C _ _ z)
    ·have h1:=(dY g).1;rw[List.length_append,List.length_singleton]at h1;rw[List.getElem?_append_right (by omega)]at g p;rw[show i - ts.length=0 by omega]at g;rw[show i - hs.length=0 by omega]at p;cases g;cases p;exact F _ _ P
   ·rcases List.mem_append.mp hm with hm | hm
    ·exact hb m hm
    ·rw[List.mem_singleton.mp hm];exact⟨S,U⟩
  walk_at"e";refine uY (λ_=>?_) (λ_=>?_)
  ·walk_at"e";refine⟨_,_,_,rfl,by decide,by decide,by decide,λy X y1=>?_⟩;refine ZBo ?_;refine Zvd ?_;exact fin (many:=3+y) (by omega) (by omega) _ _ _ _ λe f h=>h
  ·refine wz ?_;exact fin (many:=3) (by omega) (by omega) _ _ _ _ λe f h=>h
 ·rintro e d ⟨ts,hs,r,j,rfl,v,s,al,hl,hb⟩;walk_at"e";exact q l hs d v nl ⟨ts,s,al⟩ ⟨by omega,by omega,hb⟩
theorem Zd9{a:AH}(q:∃ns:AD,cB K H a (ns.map V.int)/\∀z:Int,Q (.int z) H):Bo (rQ K) jJ ⟨n,Q,bk,ct⟩ [some (.ref a),none] H:=by
 obtain⟨ns,b,q⟩:=q;unfold Bo;walk_at"e";refine⟨a,2,rfl,ns,b,by decide,λc=>?_⟩;walk_at"e";refine⟨_,_,_,rfl,by decide,by decide,by decide,λz d z1=>?_⟩;walk_at"e";refine uY (λ_=>?_) (λ_=>?_)
 ·walk_at"e";exact q _
 ·walk_at"e";exact q _
theorem Ux{C:AH}{w t:Int}{σ:St}{r:TE}(y:∀(a:Hp) (m:VK),m (.int t) a->r σ a m)(s:∀{a:Hp}{lk dl:AH},a lk=some (.ins C dl [])->(w=0/\a lk=some (.ins X.F dl []))\/(w=1/\a lk=some (.ins X.E dl []))\/(w=2/\a lk=some (.ins X.L dl [])))
  (q:∀ki lk H',aW H H'->H ki=none->H lk=none->KdO X H' ki lk w t->Q (.ref ki) H'):Dc X.K (uE X.K) [] E0 (aj (G.LQ C) (aj r aF)) σ H Q:=by
 walk_at"e";intro lk dl e k u;have f:aW H (upd (upd H dl (.own lk)) lk (.ins C dl [])):=λb o hb=>by rw[aC (aD hb e),aC (aD hb k)];exact hb
 have j:upd (upd H dl (.own lk)) lk (.ins C dl []) lk=some (.ins C dl []):=aq;generalize upd (upd H dl (.own lk)) lk (.ins C dl [])=a at f j ⊢;walk_at"s";refine y a _ ?_;walk_at"s";intro ki c d g x;have i:aW a (upd (upd a c (.own ki)) ki (.ins X.K c [])):=λb o hb=>by rw[aC (aD hb d),aC (aD hb g)];exact hb
 have l:upd (upd a c (.own ki)) ki (.ins X.K c []) ki=some (.ins X.K c []):=aq;generalize upd (upd a c (.own ki)) ki (.ins X.K c [])=A at i l ⊢;refine⟨ki,lk,t,rfl,c,l,λn v p=>⟨rfl,?_⟩⟩;have z:aW H n:=λb o hb=>p b o (i _ _ (f _ _ hb)) (aD (f _ _ hb) d);have h:lk≠ki:=aD j d;exact q ki lk n z (f.free d) e ⟨⟨c,v⟩,⟨dl,s (p _ _ (i _ _ j) h)⟩⟩
theorem Zdd{c:Int}(q:Z6q c H X Q):Bs X.E X.F X.K X.L (uE X.K) ⟨n,Q,bk,ct⟩ [some (.int c)] H:=by
 have d:=Int.emod_nonneg (c / 3) (show(4:Int)≠0 by decide);have t1:=Int.emod_lt_of_pos (c / 3) (show(0:Int)<4 by decide);have w0:=Int.emod_nonneg c (show(3:Int)≠0 by decide);have i:=Int.emod_lt_of_pos c (show(0:Int)<3 by decide);unfold Bs;walk_at"e";refine uY (λz=>?_) (λz=>?_)
 ·refine Zlr ?_;exact Ux (λf g h=>by walk_at"e";exact h) (λe=>.inl ⟨rfl,e⟩) λki lk a s n1 n2 b=>q ki lk 0 (c / 3 % 4) a d t1 z.symm s n1 n2 b
 ·refine wz ?_;refine K1 ?_;walk_at"s";refine uY (λy=>?_) (λy=>?_)
  ·refine Zlr ?_;exact Ux (λf g h=>by walk_at"e";exact h) (λe=>.inr (.inl ⟨rfl,e⟩)) λki lk a s n1 n2 b=>q ki lk 1 (c / 3 % 4) a d t1 y.symm s n1 n2 b
  ·refine wz ?_;refine Zlr ?_;exact Ux (λf g h=>by walk_at"e";exact h) (λe=>.inr (.inr ⟨rfl,e⟩)) λki lk a s n1 n2 b=>q ki lk 2 (c / 3 % 4) a d t1 (by omega) s n1 n2 b
theorem ZAw{z:Int}(a:0<=z)(h1:z<6):∃m:Int,XM [V.int 1,.int 2,.int 2,.int 3,.int 0,.int 8] z=some (.int m)/\0<=m/\m<=8:=by
 have:z=0\/z=1\/z=2\/z=3\/z=4\/z=5:=by omega
 rcases this with rfl | rfl | rfl | rfl | rfl | rfl
 ·exact⟨1,rfl,by decide,by decide⟩
 ·exact⟨2,rfl,by decide,by decide⟩
 ·exact⟨2,rfl,by decide,by decide⟩
 ·exact⟨3,rfl,by decide,by decide⟩
 ·exact⟨0,rfl,by decide,by decide⟩
 ·exact⟨8,rfl,by decide,by decide⟩
theorem Zdb{c h s:Int}(q:Z7q h s H Q):
  Bq K jJ ⟨n,Q,bk,ct⟩ [some (.int c),some (.int h),some (.int s),none,none] H:=by
 obtain⟨hn,k,rfl,rfl,q⟩:=q;have p:=Int.emod_nonneg c (show(7:Int)≠0 by decide);have r:(0:Int)<10 ^ Int.toNat 12+1:=by decide
 have g:=Int.emod_nonneg c (show(10:Int) ^ Int.toNat 12+1≠0 by decide);unfold Bq;walk_at"e";refine⟨aR (by simp),λl nl=>?_⟩;generalize f:upd H l _=H1;obtain⟨a,i⟩:=nwO nl f;walk_at"e";refine⟨_,_,_,rfl,by decide,by decide,by decide,λz j z1=>?_⟩;obtain⟨m,o,e,d⟩:=ZAw j z1;walk_at"e";refine je (cB.of i) o ?_;have fin:∀{b:Int},0<=b->∀{v:Option V},(bG (fW (aj (tC (.str "make")) (aj (ak 1) (aj (ak 2) (aj (ak 3) (aj (ak 4) aF))))))) ⟨n,Q,bk,ct⟩ [some (.int c),some (.int hn),some (.int k),some (.int m),some (.int b)] H1:=by
  intro b hb v;walk_at"e";refine⟨aR (by simp),λt nt=>?_⟩;exact q t m b _ (a.trans (aK nt _)) (a.free nt) e d hb aq
 walk_at"e";refine uY (λy=>?_) (λy=>?_)
 ·walk_at"e";refine uY (λx=>absurd (y.symm.trans x) (by decide)) (λx=>?_);refine wz ?_;exact fin p (v:=none)
 ·walk_at"e";refine uY (λx=>?_) (λx=>?_)
  ·walk_at"s";exact⟨aR (by simp),λt nt=>q t m _ _ (a.trans (aK nt _)) (a.free nt) e d g aq⟩
  ·refine wz ?_;exact fin (Int.le_refl _) (v:=none)
theorem Zdc{c:Int}(q:∀z:Int,Q (.int z) H):Br ⟨n,Q,bk,ct⟩ [some (.int c),none] H:=by
 have a:(0:Int)<10 ^ Int.toNat 60:=by decide
 unfold Br;walk_at"e";refine uY (λ_=>?_) (λ_=>?_)
 ·walk_at"e";exact q _
 ·walk_at"e";exact q _
theorem Vn{i:Int}(q:Q (.bl true) H):vX ⟨n,Q,bk,ct⟩ [some (.int i)] H:=by
 unfold vX;walk_at"e";exact q
theorem X3{a b:AH}(q:Z8q H a b Q):
  yJ K wI ⟨n,Q,bk,ct⟩ [some (.ref a),some (.ref b),none] H:=by
 obtain⟨z,i,l,h,ns,c,ob,ol,f,q⟩:=q;unfold yJ;walk_at"e";refine Cv c ?_;walk_at"e";refine⟨a,_,rfl,.inr (gw.of c),?_⟩;walk_at"e";refine zX (λz=>absurd rfl z) (λ_=>?_);walk_at"e";refine⟨a,_,0,_,rfl,rfl,gw.of c,rfl,?_⟩;walk_at"e";refine⟨a,_,1,_,rfl,rfl,gw.of c,rfl,?_⟩;walk_at"e";refine⟨_,rfl,?_⟩;walk_at"e";refine⟨a,_,2,_,rfl,rfl,gw.of c,rfl,?_⟩;walk_at"e";refine Qw ol ?_;walk_at"e";refine⟨a,_,2,_,rfl,rfl,gw.of c,rfl,?_⟩;refine⟨l,rfl,⟨_,cB.of ol⟩,forL (ns.map V.int) (λ_ g d=>∃v,g=[some (.ref a),some (.ref b),v]/\d=H) ⟨_,rfl,rfl⟩ (λ_ _ _ _ ⟨_,_,e⟩=>by rw[e];exact cB.of ol) ?_ ?_⟩
 ·rintro k x g d hk ⟨v,rfl,rfl⟩;obtain⟨y,_,rfl⟩:=List.mem_map.mp (List.mem_of_getElem? hk);walk_at"e";refine⟨_,rfl,?_⟩;walk_at"e";exact⟨_,rfl,rfl⟩
 ·rintro g d ⟨v,rfl,rfl⟩;walk_at"e";refine Zrm (.inr ⟨gw.of c,gw.of ob⟩) (.cons (.inl ⟨rfl,rfl⟩) (.cons (.inl ⟨rfl,rfl⟩) (.cons (.inr ⟨l,h,rfl,rfl,.inr ⟨_,_,.inl ⟨cB.of ol,cB.of f⟩,Ld (tR _)⟩⟩) .nil))) ?_;exact q
end
def Z9q (H:Hp)(l:AH)(Q:VK):Prop:=∃hs,HsO H l hs/\HsB hs/\∀t d H',aW H H'->H t=none->H' t=some (.tup (dV d))->okR hs d->Q (.ref t) H'
def RV(K:aB):Sp:=λvs H Q E=>∃c l a,vs=[.int c,.ref l,.int a]/\Z9q H l Q
def Gu(K:aB):Sp:=λvs H Q E=>∃c l a,vs=[.int c,.ref l,.int a]/\∃hs,HsO H l hs/\HsB hs/\∀r H',aW H H'->H r=none->RL H H' hs r 2->Q (.ref r) H'
def Lp(K:aB):Sp:=λvs H Q E=>∃l c a,vs=[.ref l,.int c,.int a]/\∃hs,HsO H l hs/\HsB hs/\∀r H',aW H H'->RL H H' hs r 200->Q (.ref r) H'
def Z10q (K:aB)(H:Hp)(a:AH)(l:AH)(Q:VK):Prop:=∃ns:AD,∃hs,cB K H a (ns.map V.int)/\ns.length<=63/\HsO H l hs/\HsB hs/\∀r H',aW H H'->RL H H' hs r 700->Q (.ref r) H'
def RG(K:aB):Sp:=λvs H Q E=>∃a l,vs=[.ref a,.ref l]/\Z10q K H a l Q
section
theorem f38{x:Int}(a:0<=x)(h1:x<2):∃m:Int,XM [V.int 3,.int 8] x=some (.int m)/\0<m:=by
 have:x=0\/x=1:=by omega
 rcases this with rfl | rfl
 ·exact⟨3,rfl,by decide⟩
 ·exact⟨8,rfl,by decide⟩
theorem Zdg{c sd:Int}{l:AH}(q:Z9q H l Q):
  Bv K jJ RN RM rO ⟨n,Q,bk,ct⟩ [some (.int c),some (.ref l),some (.int sd),none,none,none,none,none,none,none] H:=by
 obtain⟨hs,Z,hb,q⟩:=q;have n1:=hb.n1;have WR:∀{r:Hp}{ts:AE},HsO r l hs->r l=some (.lst (ts.map V.ref))->ts.length=hs.length:=λ{r ts} h e=>by
  obtain⟨ts',h1,h2⟩:=h;rw[h1]at e;have:=congrArg (λo=>match o with | some (HO.lst xs)=>xs.length | _=>0) e;simp only[aY]at this;rw[<- this];exact h2.length
 obtain⟨ts,ol,al⟩:=id Z;have y:=al.length;unfold Bv;walk_at"e";refine jC (cB.of ol) ?_;rw[aY,y];walk_at"e";refine⟨_,_,_,rfl,by decide,by decide,by omega,λzh U h1=>?_⟩;obtain⟨h,rfl⟩:=toN U;have hh:h<hs.length:=by omega
 obtain⟨m,hm⟩:∃m,hs[h]? =some m:=⟨_,bM hh⟩;have mb:=hb.sb m (List.mem_of_getElem? hm);obtain⟨B,A,z⟩:=al.get hm;have k:XM (ts.map V.ref) (h:Int)=some (.ref B):=iu (by rw[cF,A];rfl);walk_at"e";refine je (cB.of ol) k ?_;refine⟨B,_,1,_,rfl,rfl,gw.of z,rfl,?_⟩;walk_at"e";refine⟨_,_,_,rfl,by decide,by decide,by omega,λzs s0 T=>?_⟩;obtain⟨s,rfl⟩:=toN s0;walk_at"e";refine je (cB.of ol) k ?_;refine⟨B,_,1,_,rfl,rfl,gw.of z,rfl,?_⟩;walk_at"e";refine⟨_,_,_,rfl,by decide,by decide,by omega,λzt Y t1=>?_⟩;obtain⟨t,rfl⟩:=toN Y;walk_at"e";refine⟨aR (by simp),λl2 I=>?_⟩;generalize P:upd H l2 _=H2;obtain⟨i,R⟩:=nwO I P;walk_at"e";obtain⟨mf,E,C⟩:=f38 (x:=c % 5 / 4) (by omega) (by omega);refine je (cB.of R) E ?_;walk_at"e";refine⟨_,_,_,rfl,by decide,by decide,C,λzf f0 _=>?_⟩;obtain⟨f,rfl⟩:=toN f0;walk_at"e";refine⟨_,_,_,rfl,by decide,by decide,by decide,λw w0 w1=>?_⟩;have os:Ua hs h s:=⟨m,hm,T⟩;have j:Ua hs h t:=⟨m,hm,t1⟩;have tup:∀(d:p6),okR hs d->∀tp,H2 tp=none->Q (.ref tp) (upd H2 tp (.tup (dV d))):=λd ok tp a=>q tp d _ (i.trans (aK a _)) (i.free a) aq ok;walk_at"e";refine uY (λ_=>?_) (λw5=>?_)
 ·walk_at"e";exact⟨_,_,_,rfl,h,s,rfl,rfl,λtp J bulk r sm a M S b0 o=>q tp _ r (i.trans sm) (i.free a) o ⟨os,M,S,b0⟩⟩
 walk_at"e";refine uY (λ_=>?_) (λw8=>?_)
 ·walk_at"e";exact⟨aR (by simp),λtp a=>tup (.get h s t f) ⟨os,j⟩ tp a⟩
 walk_at"e";refine uY (λ_=>?_) (λw11=>?_)
 ·walk_at"e";exact⟨aR (by simp),λtp a=>tup (.put h t f s) ⟨j,os⟩ tp a⟩
 walk_at"e";refine uY (λ_=>?_) (λO=>?_)
 ·walk_at"e";exact⟨aR (by simp),λtp a=>tup (.copy h s t) ⟨os,j⟩ tp a⟩
 walk_at"e";refine uY (λ_=>?_) (λw12=>?_)
 ·walk_at"e";exact⟨aR (by simp),λtp a=>tup (.drop h s) os tp a⟩
 walk_at"e";refine uY (λ_=>?_) (λX=>?_)
 ·have p:=i _ _ ol;walk_at"e";refine jC (cB.of p) ?_;rw[aY,y];walk_at"e";refine⟨_,_,_,rfl,by decide,by decide,by omega,λzg g0 g1=>?_⟩;obtain⟨g,rfl⟩:=toN g0;have W:g<hs.length:=by omega
  obtain⟨mg,b⟩:∃m,hs[g]? =some m:=⟨_,bM W⟩;have mgb:=hb.sb mg (List.mem_of_getElem? b);obtain⟨tg,F,D⟩:=al.get b;walk_at"e";refine je (cB.of p) (iu (v:=.ref tg) (by rw[cF,F];rfl)) ?_;refine⟨tg,_,1,_,rfl,rfl,gw.of (i _ _ D),rfl,?_⟩;walk_at"e";refine⟨_,_,_,rfl,by decide,by decide,by omega,λzu u0 L=>?_⟩;obtain⟨u,rfl⟩:=toN u0;walk_at"e";exact⟨aR (by simp),λtp a=>tup (.give h s g u) ⟨os,mg,b,L⟩ tp a⟩
 walk_at"e";refine uY (λ_=>?_) (λZLd=>?_)
 ·walk_at"e";refine⟨_,rfl,λld=>?_⟩;walk_at"e";exact⟨aR (by simp),λtp a=>tup (.write h t ld) j tp a⟩
 walk_at"e";refine⟨_,_,_,rfl,by decide,by decide,by decide,λzw a0 a1=>?_⟩;walk_at"e";refine⟨_,_,rfl,a0,by omega,λwd=>?_⟩;walk_at"e";refine uY (λ_=>?_) (λN=>?_)
 ·walk_at"e";exact⟨aR (by simp),λtp a=>tup (.name h t wd) j tp a⟩
 walk_at"e";exact⟨aR (by simp),λtp a=>tup (.seek h s wd) os tp a⟩
def dW:p6->Str
 | .make .. =>"make"
 | .get .. =>"get"
 | .put .. =>"put"
 | .copy .. =>"copy"
 | .drop .. =>"drop"
 | .give .. =>"give"
 | .write .. =>"write"
 | .read .. =>"read"
 | .name .. =>"name"
 | .seek .. =>"seek"
theorem dV0(d:p6):∃r,dV d=.str (dW d)::r:=by cases d<;>exact⟨_,rfl⟩
theorem Zzp{d:p6}(h:dW d="put"):∃h t f s,d=.put h t f s:=by
 cases d<;>first | exact⟨_,_,_,_,rfl⟩ | exact absurd h (by simp only[dW];decide)
theorem Zzq{d:p6}(h:dW d="get"):∃h s t f,d=.get h s t f:=by
 cases d<;>first | exact⟨_,_,_,_,rfl⟩ | exact absurd h (by simp only[dW];decide)
theorem X4{c y:Int}{l:AH}(q:∃hs,HsO H l hs/\HsB hs/\∀r H',aW H H'->H r=none->RL H H' hs r 2->Q (.ref r) H'):
  yK K (RV K) jJ ⟨n,Q,bk,ct⟩ [some (.int c),some (.ref l),some (.int y),none] H:=by
 obtain⟨hs,B,hb,q⟩:=q;unfold yK;walk_at"e";refine⟨_,_,_,rfl,hs,B,hb,λt d A b nt k ok=>?_⟩;obtain⟨E,D⟩:=dV0 d;have v:XM (dV d) 0=some (.str (dW d)):=by rw[D];exact iu (j:=0) rfl
 have one:bG (gQ (aj (ak 3) aF)) ⟨n,Q,bk,ct⟩ [some (.int c),some (.ref l),some (.int y),some (.ref t)] A:=by
  walk_at"e";refine⟨aR (by simp),λr g=>?_⟩;have a:=aK g (.lst [.ref t]);exact q r _ (b.trans a) (b.free g) ((rl1 (d:=d) (b.trans a) (b.free g) nt aq (a _ _ k) ok).mono (by decide))
 have p:(aO (dR ((ZD (bQ (bA (xr) (bA (fu K) (ak 3) (tC (.int 0))) (tC (.str "get")))) (bQ (bA (xr) (bA (rI (λ_ j=>0<j) λi j=>.int (i % j)) (bA (rI Pz λi j=>.int (i / j)) (ak 0) (tC (.int 5))) (tC (.int 2))) (tC (.int 0)))))) (bG (gQ (aj (ak 3) (aj (fW (aj (tC (.str "put")) (aj (bA (fu K) (ak 3) (tC (.int 1))) (aj (bA (fu K) (ak 3) (tC (.int 3))) (aj (bA (fu K) (ak 3) (tC (.int 4))) (aj (aQ jJ [] E0 (aj (ak 0) (aj (tC (.int 1159523)) (aj (tC (.int 3)) aF)))) aF)))))) aF)))) cg)
   (bG (gQ (aj (ak 3) aF)))) ⟨n,Q,bk,ct⟩ [some (.int c),some (.ref l),some (.int y),some (.ref t)] A:=by
  walk_at"e";refine⟨t,_,0,_,rfl,rfl,gw.of k,v,?_⟩;walk_at"e";refine uY (λhp=>?_) (λ_=>?_)
  ·obtain⟨h,s,x,f,rfl⟩:=Zzq hp;obtain⟨o1,o2⟩:=ok;walk_at"e";refine uY (λ_=>?_) (λ_=>?_)
   ·walk_at"e";refine⟨t,_,1,_,rfl,rfl,gw.of k,rfl,?_⟩;walk_at"e";refine⟨t,_,3,_,rfl,rfl,gw.of k,rfl,?_⟩;walk_at"e";refine⟨t,_,4,_,rfl,rfl,gw.of k,rfl,?_⟩;walk_at"e";refine⟨_,_,_,rfl,by decide,by decide,by decide,λz C z1=>?_⟩;obtain⟨sl,rfl⟩:=toN C;walk_at"e";refine⟨aR (by simp),λu w=>⟨aR (by simp),λr g=>?_⟩⟩;have a:=aK w (.tup (dV (.put h x f sl)));have o:=aK g (.lst [.ref t,.ref u]);have hh:h<hs.length:=by obtain⟨m,hm,_⟩:=o1;exact(dY hm).1
    exact q r _ (b.trans (a.trans o)) (b.free (a.free g)) (rl2 (d:=.get h s x f) (e:=.put h x f sl) (b.trans (a.trans o)) (b.free (a.free g)) nt (b.free w) aq (o _ _ (a _ _ k)) ⟨o1,o2⟩ (o _ _ aq) ⟨o2,hb.ok hh (by omega)⟩)
   ·exact one
  ·exact one
 walk_at"e";refine⟨t,_,0,_,rfl,rfl,gw.of k,v,?_⟩;walk_at"e";refine uY (λhp=>?_) (λ_=>?_)
 ·obtain⟨h,x,f,s,rfl⟩:=Zzp hp;obtain⟨o1,o2⟩:=ok;walk_at"e";refine uY (λ_=>?_) (λ_=>?_)
  ·walk_at"e";refine⟨t,_,1,_,rfl,rfl,gw.of k,rfl,?_⟩;walk_at"e";refine⟨t,_,4,_,rfl,rfl,gw.of k,rfl,?_⟩;walk_at"e";refine⟨aR (by simp),λu w=>⟨aR (by simp),λr g=>?_⟩⟩;have a:=aK w (.tup (dV (.drop h s)));have o:=aK g (.lst [.ref t,.ref u]);exact q r _ (b.trans (a.trans o)) (b.free (a.free g)) (rl2 (d:=.put h x f s) (e:=.drop h s) (b.trans (a.trans o)) (b.free (a.free g)) nt (b.free w) aq (o _ _ (a _ _ k)) ⟨o1,o2⟩ (o _ _ aq) o2)
  ·exact p
 ·exact p
end
section
def Zok(σ:St)(e:TE)(d:p6):Prop:=∀(a:Hp) (c:VK),(∀t b,aW a b->a t=none->b t=some (.tup (dV d))->c (.ref t) b)->e σ a c
theorem Zw{σ:St}{c:TE}{d:p6}(h:∀(a:Hp) (b:VK),(∀t,a t=none->b (.ref t) (upd a t (.tup (dV d))))->c σ a b):Zok σ c d:=λa b k=>h a b λt nt=>k t _ (aK nt _) nt aq
theorem Zha{H0:Hp}{hs:Qz}{d e:p6}{i h:TE}{σ:St}(b:aW H0 H)(n:Zok σ i d)(hb:Zok σ h e)(r:okR hs d)(j:okR hs e)(k:∀l H',aW H H'->RL H0 H' hs l 2->Q (.ref l) H'):gQ (aj i (aj h aF)) σ H Q:=by
 walk_at"s";refine n H _ λt m c nt o=>?_;walk_at"s";refine hb m _ λu s a p q=>?_;walk_at"s";refine⟨aR (by simp),λl nl=>?_⟩;have f:=aK nl (.lst [.ref t,.ref u]);have g:=b.trans (c.trans (a.trans f));exact k l _ (c.trans (a.trans f)) (rl2 g (b.free (c.free (a.free nl))) (b.free nt) (b.free (c.free p)) aq (f _ _ (a _ _ o)) r (f _ _ q) j)
theorem Zow{H0:Hp}{hs:Qz}{d e f:p6}{m j tc:TE}{σ:St}(c:aW H0 H)(r:Zok σ m d)(hb:Zok σ j e)(hc:Zok σ tc f)(x:okR hs d)(o:okR hs e)(n:okR hs f)(k:∀l H',aW H H'->RL H0 H' hs l 3->Q (.ref l) H'):gQ (aj m (aj j (aj tc aF))) σ H Q:=by
 walk_at"s";refine r H _ λt p g nt y=>?_;walk_at"s";refine hb p _ λu q b s v=>?_;walk_at"s";refine hc q _ λw z h nw ow=>?_;walk_at"s";refine⟨aR (by simp),λl nl=>?_⟩;have a:=aK nl (.lst [.ref t,.ref u,.ref w]);have i:=c.trans (g.trans (b.trans (h.trans a)));exact k l _ (g.trans (b.trans (h.trans a))) (rl3 i (c.free (g.free (b.free (h.free nl)))) (c.free nt) (c.free (g.free s)) (c.free (g.free (b.free nw))) aq (a _ _ (h _ _ (b _ _ y))) x (a _ _ (h _ _ v)) o (a _ _ ow) n)
theorem XR{l:AH}{c O:Int}(q:∃hs,HsO H l hs/\HsB hs/\∀r H',aW H H'->RL H H' hs r 200->Q (.ref r) H'):
  yG K jJ rO ⟨n,Q,bk,ct⟩ [some (.ref l),some (.int c),some (.int O),none,none,none] H:=by
 obtain⟨hs,ho,hb,q⟩:=q;obtain⟨ts,ol,al⟩:=id ho;have U:=al.length;have n5:=hb.n5;unfold yG;walk_at"e";refine⟨by decide,λr0 nr0=>?_⟩;have s1:=aK nr0 (.lst []);have g1:RL H (upd H r0 (.lst [])) hs r0 0:=⟨s1,nr0,[],aq,Nat.le_refl _,λv hv=>(nomatch hv)⟩;generalize upd H r0 (.lst [])=I at s1 g1 ⊢;walk_at"e";refine jC (cB.of (s1 _ _ ol)) ?_;rw[aY,U];walk_at"e";refine⟨_,rfl,by omega,by omega,?_⟩;refine forR (λk B a=>∃r o,B=[some (.ref l),some (.int c),some (.int O),some (.ref r),o,none]/\aW H a/\RL H a hs r (4 * k)) ⟨r0,_,rfl,s1,g1⟩ ?_ ?_
 ·rintro k B a hk ⟨r,o,rfl,C,L⟩;have F:k<hs.length:=by omega
  rw[Int.zero_add];obtain⟨f,ef⟩:=toN (x:=(k:Int) % 2) (by omega);have P:Ua hs k 0:=hb.ok F (by decide);have o1:Ua hs k 1:=hb.ok F (by decide);refine Zvd ?_;refine K1 ?_;refine U6 ?_;refine Zjv ?_;refine Zju ?_;refine Zha (H0:=H) C (d:=.make k 0 2 0) (e:=.make k 1 1 0) (Zw λI T h=>by walk_at"e";exact⟨aR (by simp),h⟩) (Zw λI T h=>by walk_at"e";exact⟨aR (by simp),h⟩) ⟨P,by decide,by decide,by decide⟩ ⟨o1,by decide,by decide,by decide⟩ λl2 H2 Y rl2=>?_;refine zE (L.same Y) rl2 (by omega) λr3 b sm3 _ rl3=>?_;refine Zfz ?_;refine U6 ?_;refine Zjv ?_;refine Zju ?_;refine Zha (H0:=H) rl3.s (d:=.put k 0 f 1) (e:=.drop k 1) (Zw λI T h=>by walk_at"e";rw[ef];exact⟨aR (by simp),h⟩) (Zw λI T h=>by walk_at"e";exact⟨aR (by simp),h⟩) ⟨P,o1⟩ o1 λl4 S Z A=>?_;refine zE (rl3.same Z) A (by omega) λr5 W sm5 _ R=>?_;refine Zfz ?_;exact⟨r5,_,rfl,C.trans (Y.trans (sm3.trans (Z.trans sm5))),R.mono (by omega)⟩
 ·rintro B a ⟨r,o,rfl,C,L⟩;have L:=L.mono (N':=20) (by omega);walk_at"e";refine⟨_,_,_,rfl,by decide,by decide,by decide,λw w0 w1=>?_⟩;have rest:∀{J:AH}{b:Hp}{o:Option V},aW H b->RL H b hs J 30->(aO (bH (bA (yO) (ak 3) (bA (Zeh) (gQ (aj (tC .non) aF)) (bA (pD λi j=>.int (i+j)) (tC (.int 1)) (aQ jJ [] E0 (aj (ak 1) (aj (tC (.int 882377)) (aj (tC (.int 4)) aF))))))) (aN 3))
   (qx K rO)) ⟨n,Q,bk,ct⟩ [some (.ref l),some (.int c),some (.int O),some (.ref J),o,some (.int w)] b:=by
   intro J b o g rl1;walk_at"e";refine⟨by decide,λl0 nl0=>?_⟩;generalize zz:upd b l0 _=S;obtain⟨m,g4⟩:=nwO nl0 zz;have A:=rl1.same m;walk_at"e";refine⟨_,_,_,rfl,by decide,by decide,by decide,λz z0 z1=>?_⟩;walk_at"e";refine Ug (H0:=H) (hs:=hs) A.s g4 (by omega) (by omega) λl5 W E _ R=>?_;refine zE (A.same E) (R.mono (N':=4) (by omega)) (by decide) λr6 H6 X _ rl6=>?_;have s06:=g.trans (m.trans (E.trans X));refine Zfz ?_;unfold qx;walk_at"e";refine jC (cB.of (s06 _ _ ol)) ?_;rw[aY,U];walk_at"e";refine⟨_,rfl,by omega,by omega,?_⟩;refine forR (λk B a=>∃r o,B=[some (.ref l),some (.int c),some (.int O),some (.ref r),o,some (.int w)]/\aW H a/\RL H a hs r (34+7 * k)) ⟨r6,_,rfl,s06,rl6⟩ ?_ ?_
   ·rintro k B a hk ⟨r,o,rfl,C,L⟩;have F:k<hs.length:=by omega
    rw[Int.zero_add];obtain⟨f,ef⟩:=toN (x:=(k:Int) % 2) (by omega);have P:Ua hs k 0:=hb.ok F (by decide);have o1:Ua hs k 1:=hb.ok F (by decide);have o2:Ua hs k 2:=hb.ok F (by decide);refine Zvd ?_;refine K1 ?_;have M:∀{J:AH}{b:Hp},aW H b->RL H b hs J (34+7 * k+5)->(dR (bQ (bA (xr) (ak 5) (tC (.int 3)))) (bH (bA (yO) (ak 3) (gQ (aj (fW (aj (tC (.str "name")) (aj (ak 4) (aj (tC (.int 0)) (aj (aQ rO [] E0 (aj (ak 2) (aj (bA (rI (λ_ j=>0<j) λi j=>.int (i % j)) (ak 4) (tC (.int 2))) aF))) aF))))) (aj (fW (aj (tC (.str "drop")) (aj (ak 4) (aj (tC (.int 0)) aF)))) aF)))) (aN 3)) cg) ⟨λB a=>∃r o,B=[some (.ref l),some (.int c),some (.int O),some (.ref r),o,some (.int w)]/\aW H a/\RL H a hs r (34+7 * (k+1)),Q,bG (ak 3) ⟨n,Q,bk,ct⟩,λB a=>∃r o,B=[some (.ref l),some (.int c),some (.int O),some (.ref r),o,some (.int w)]/\aW H a/\RL H a hs r (34+7 * (k+1))⟩ [some (.ref l),some (.int c),some (.int O),some (.ref J),some (.int k),some (.int w)] b:=by
     intro J b g rl3;walk_at"e";refine uY (λ_=>?_) (λ_=>?_)
     ·refine U6 ?_;refine Zjv ?_;refine Zju ?_;walk_at"s";refine⟨_,_,rfl,by omega,by omega,λwd=>?_⟩;walk_at"s";refine⟨aR (by simp),λt nt=>?_⟩;have m:=aK nt (.tup (dV (.name k 0 wd)));have g4:upd b t (.tup (dV (.name k 0 wd))) t=some (.tup (dV (.name k 0 wd))):=aq;show aj _ _ _ (upd b t (.tup (dV (.name k 0 wd)))) _;generalize upd b t (.tup (dV (.name k 0 wd)))=S at m g4 ⊢;walk_at"s";refine⟨aR (by simp),λu nu=>⟨aR (by simp),λl2 N=>?_⟩⟩;have E:=aK nu (.tup (dV (.drop k 0)));have g5:upd S u (.tup (dV (.drop k 0))) u=some (.tup (dV (.drop k 0))):=aq;show yO _ _ (upd (upd S u (.tup (dV (.drop k 0)))) l2 _) _;have N:upd S u (.tup (dV (.drop k 0))) l2=none:=N;generalize upd S u (.tup (dV (.drop k 0)))=W at E g5 N ⊢;have X:=aK N (.lst [.ref t,.ref u]);have r6:RL H (upd W l2 (.lst [.ref t,.ref u])) hs l2 2:=rl2 (d:=.name k 0 wd) (e:=.drop k 0) (g.trans (m.trans (E.trans X))) (g.free (m.free (E.free N))) (g.free nt) (g.free (m.free nu)) aq (X _ _ (E _ _ g4)) P (X _ _ g5) P;have s36:=m.trans (E.trans X);refine zE (rl3.same s36) r6 (by omega) λr7 H7 s7 _ rl7=>?_;refine Zfz ?_;exact⟨r7,_,rfl,g.trans (s36.trans s7),rl7.mono (by omega)⟩
     ·refine wz ?_;exact⟨J,_,rfl,g,rl3.mono (by omega)⟩
    have D:∀{J:AH}{b:Hp},aW H b->RL H b hs J (34+7 * k+2)->(aO (dR (bQ (bA (pD λi j=>.bl (decide (j<i))) (ak 5) (tC (.int 1)))) (bH (bA (yO) (ak 3) (gQ (aj (fW (aj (tC (.str "make")) (aj (ak 4) (aj (tC (.int 0)) (aj (tC (.int 1)) (aj (tC (.int 0)) aF)))))) (aj (fW (aj (tC (.str "put")) (aj (ak 4) (aj (tC (.int 0)) (aj (tC (.int 0)) (aj (tC (.int 1)) aF)))))) (aj (fW (aj (tC (.str "drop")) (aj (ak 4) (aj (tC (.int 1)) aF)))) aF))))) (aN 3)) cg)
     (dR (bQ (bA (xr) (ak 5) (tC (.int 3)))) (bH (bA (yO) (ak 3) (gQ (aj (fW (aj (tC (.str "name")) (aj (ak 4) (aj (tC (.int 0)) (aj (aQ rO [] E0 (aj (ak 2) (aj (bA (rI (λ_ j=>0<j) λi j=>.int (i % j)) (ak 4) (tC (.int 2))) aF))) aF))))) (aj (fW (aj (tC (.str "drop")) (aj (ak 4) (aj (tC (.int 0)) aF)))) aF)))) (aN 3)) cg)) ⟨λB a=>∃r o,B=[some (.ref l),some (.int c),some (.int O),some (.ref r),o,some (.int w)]/\aW H a/\RL H a hs r (34+7 * (k+1)),Q,bG (ak 3) ⟨n,Q,bk,ct⟩,λB a=>∃r o,B=[some (.ref l),some (.int c),some (.int O),some (.ref r),o,some (.int w)]/\aW H a/\RL H a hs r (34+7 * (k+1))⟩ [some (.ref l),some (.int c),some (.int O),some (.ref J),some (.int k),some (.int w)] b:=by
     intro J b g rl3;refine K1 ?_;walk_at"s";refine uY (λ_=>?_) (λ_=>?_)
     ·refine U6 ?_;refine Zjv ?_;refine Zju ?_;refine Zow (H0:=H) g (d:=.make k 0 1 0) (e:=.put k 0 0 1) (f:=.drop k 1) (Zw λI T h=>by walk_at"e";exact⟨aR (by simp),h⟩) (Zw λI T h=>by walk_at"e";exact⟨aR (by simp),h⟩) (Zw λI T h=>by walk_at"e";exact⟨aR (by simp),h⟩) ⟨P,by decide,by decide,by decide⟩ ⟨P,o1⟩ o1 λl4 S m A=>?_;refine zE (rl3.same m) A (by omega) λr5 W E _ R=>?_;refine Zfz ?_;exact M (g.trans (m.trans E)) (R.mono (by omega))
     ·refine wz ?_;exact M g (rl3.mono (by omega))
    walk_at"s";refine uY (λ_=>?_) (λ_=>?_)
    ·refine U6 ?_;refine Zjv ?_;refine Zju ?_;refine Zha (H0:=H) C (d:=.get k 1 0 f) (e:=.put k 0 f 2) (Zw λI T h=>by walk_at"e";rw[ef];exact⟨aR (by simp),h⟩) (Zw λI T h=>by walk_at"e";rw[ef];exact⟨aR (by simp),h⟩) ⟨o1,P⟩ ⟨P,o2⟩ λl4 S m A=>?_;refine zE (L.same m) A (by omega) λr5 W E _ R=>?_;refine Zfz ?_;exact D (C.trans (m.trans E)) (R.mono (by omega))
    ·refine wz ?_;exact D C (L.mono (by omega))
   ·rintro B a ⟨r,o,rfl,C,L⟩;walk_at"e";exact q r a C (L.mono (by omega))
  walk_at"e";refine uY (λ_=>?_) (λ_=>?_)
  ·refine U6 ?_;refine Zjv ?_;refine Zju ?_;refine Ii ?_;walk_at"s";refine jC (cB.of (C _ _ ol)) ?_;rw[aY,U];walk_at"s";refine⟨_,rfl,by omega,by omega,?_⟩;refine Zus (n:=hs.length) rfl (by omega) (λi y a=>∃t,y=.ref t/\H t=none/\a t=some (.tup (dV (.make i 1 0 0)))) (λi y I H2 ⟨t,e,f,z⟩ s=>⟨t,e,f,s _ _ z⟩) (λi I q hq=>Cu hq) (λi I hi g q hq=>?_) ?_
   ·walk_at"c";walk_at"e";exact⟨aR (by simp),λt nt=>hq _ _ (aK nt _) ⟨t,rfl,C.free (g.free nt),aq⟩⟩
   ·intro ys b g ly hy p np;have m:=aK np (.lst ys);have r4:RL H (upd b p (.lst ys)) hs p 5:=⟨C.trans (g.trans m),C.free (g.free np),ys,aq,by omega,λv hv=>by
     obtain⟨i,hi,e⟩:=List.getElem_of_mem hv;obtain⟨t,e2,fz,z⟩:=hy i v (by rw[bM hi,e]);exact .inr ⟨t,_,e2,fz,m _ _ z,hb.ok (by omega) (by decide),by decide,by decide,by decide⟩⟩
    refine zE (L.same (g.trans m)) r4 (by decide) λr5 W E _ R=>?_;refine Zfz ?_;exact rest (C.trans (g.trans (m.trans E))) (R.mono (by decide))
  ·refine wz ?_;exact rest C (L.mono (by decide))
theorem Zd8{a l:AH}(q:Z10q K H a l Q):
  Bm K (rQ K) (Gu K) jJ (Lp K) ⟨n,Q,bk,ct⟩ [some (.ref a),some (.ref l),none,none,none,none,none] H:=by
 obtain⟨ns,hs,D,hlen,ho,hb,q⟩:=q;unfold Bm;walk_at"e";refine⟨by decide,λY E=>?_⟩;have d:=aK E (.lst []);have g1:RL H (upd H Y (.lst [])) hs Y 200:=⟨d,E,[],aq,Nat.zero_le _,λv hv=>(nomatch hv)⟩;generalize upd H Y (.lst [])=H1 at d g1 ⊢;have rest:∀{J:AH}{m:Hp},aW H m->RL H m hs J 200->(qT K (rQ K) (Gu K) jJ) ⟨n,Q,bk,ct⟩ [some (.ref a),some (.ref l),some (.ref J),none,none,none,none] m:=by
  intro J m o rl2;unfold qT;walk_at"e";refine⟨a,2,rfl,ns,o.seq D,by decide,λsd=>?_⟩;walk_at"e";refine⟨a,_,rfl,o.seq D,λt X=>?_⟩;have P:∃L:AD,XH (ns.map V.int) (some 3) (some 63)=L.map V.int/\L.length<=63:=by
   refine⟨(ns.drop (HT.rW ns.length 0 (some 3))).take (HT.rW ns.length ns.length (some 63) - HT.rW ns.length 0 (some 3)),?_,?_⟩
   ·unfold XH;rw[List.map_take,List.map_drop,aY]
   ·rw[List.length_take,List.length_drop];omega
  obtain⟨L,ez,lz⟩:=P;rw[ez];generalize u:upd m t _=H3;obtain⟨M,g3⟩:=nwO X u;refine⟨t,rfl,⟨_,cB.of g3⟩,forL (L.map V.int) (λi R k=>∃r N U,R=[some (.ref a),some (.ref l),some (.ref r),some (.int sd),some (.int i),N,U]/\aW H3 k/\RL H k hs r (200+6 * i)) ⟨J,_,_,rfl,aW.refl _,rl2.same M⟩ (λ_ _ _ _ ⟨_,_,_,_,z,_⟩=>cB.of (z _ _ g3)) ?_ ?_⟩
  ·rintro i x R k hi ⟨r,N,U,rfl,I,p⟩;have W:=(dY hi).1;rw[aY]at W;obtain⟨c,hc,rfl⟩:=List.mem_map.mp (List.mem_of_getElem? hi);have hii:(i:Int) * i<=3969:=by
    have:=Nat.mul_le_mul (show i<=63 by omega) (show i<=63 by omega);have e:((i * i:Nat):Int)=(i:Int) * i:=by push_cast;rfl
    omega
   have hi0:0<=(i:Int) * i:=Int.mul_nonneg (by omega) (by omega);have B:=o.trans (M.trans I);walk_at"e";generalize c+(i:Int) * i * 1000003=z;refine⟨_,_,_,rfl,by decide,by decide,by decide,λy y0 y1=>?_⟩;walk_at"e";refine uY (λ_=>?_) (λ_=>?_)
   ·walk_at"e";refine⟨by decide,λT j=>?_⟩;generalize u:upd k T _=Z;obtain⟨g,O⟩:=nwO j u;have f:=p.same g;walk_at"e";refine⟨_,_,_,rfl,by decide,by decide,by decide,λw w0 w1=>?_⟩;walk_at"e";refine Ug (H0:=H) (hs:=hs) f.s O (by omega) (by omega) λl6 H6 F _ h=>?_;refine zE (f.same F) (h.mono (N':=6) (by omega)) (by omega) λA S C _ b=>?_;walk_at"e";refine Zrp rfl ?_;exact⟨A,_,_,by rw[show((i+1:Nat):Int)=(i:Int)+1 from by push_cast;rfl];rfl,I.trans (g.trans (F.trans C)),b.mono (by omega)⟩
   ·walk_at"e";refine⟨_,_,_,rfl,hs,ho.same B,hb,λr5 Z g _ f=>?_⟩;have f:=f.base B;refine zE (p.same g) f (by omega) λA S C _ b=>?_;walk_at"e";refine Zrp rfl ?_;exact⟨A,_,_,by rw[show((i+1:Nat):Int)=(i:Int)+1 from by push_cast;rfl];rfl,I.trans (g.trans C),b.mono (by omega)⟩
  ·rintro R k ⟨r,N,U,rfl,I,p⟩;rw[aY]at p;walk_at"e";refine⟨by decide,λT j=>?_⟩;generalize u:upd k T _=Z;obtain⟨g,O⟩:=nwO j u;have f:=p.same g;walk_at"e";refine⟨_,_,_,rfl,by decide,by decide,by decide,λw w0 w1=>?_⟩;walk_at"e";refine Ug (H0:=H) (hs:=hs) f.s O (by omega) (by omega) λl6 H6 F _ h=>?_;refine zE (f.same F) (h.mono (N':=24) (by omega)) (by omega) λA S C _ b=>?_;exact q A S (o.trans (M.trans (I.trans (g.trans (F.trans C))))) (b.mono (by omega))
 walk_at"e";refine⟨a,0,rfl,ns,d.seq D,by decide,λc0=>?_⟩;walk_at"e";refine⟨_,_,_,rfl,by decide,by decide,by decide,λz z0 z1=>?_⟩;walk_at"e";refine uY (λ_=>?_) (λ_=>?_)
 ·walk_at"e";refine⟨a,0,rfl,ns,d.seq D,by decide,λc1=>?_⟩;walk_at"e";refine⟨a,2,rfl,ns,d.seq D,by decide,λc2=>?_⟩;walk_at"e";refine⟨_,_,_,rfl,hs,ho.same d,hb,λr m o rl2=>?_⟩;refine Zz0 ?_;exact rest (d.trans o) (rl2.base d)
 ·refine wz ?_;exact rest d g1
end
def ZA4(M:Wm):Prop:=M.sw.phase="walk"->M.sw.grey.Nodup/\∀x∈M.sw.grey,∃c,cellAt M x=some c/\c.tone=M.sw.sense
structure KW(M:Wm)(hs:Qz)(k:Nat):Prop where
 hl:M.hands.length=hs.length
 hn:∀(i:Nat) m n,M.hands[i]? =some m->hs[i]? =some n->m.2.length=n.2.toNat
 cl:M.cells.length<=k
 nl:M.names.length<=k
 fl:∀c,some c∈M.cells->c.fl.length<=8
 gr:ZA4 M
 ph:M.sw.phase="rest"\/M.sw.phase="walk"\/M.sw.phase="give"\/M.sw.phase="lost"
 a0:0<=M.sw.at'
 tl:0<=M.tells/\M.tells<4
section
variable {M:Wm}{hs:Qz}{k:Nat}
theorem Zf8:∀(n:Nat) (l:AD),l.Nodup->(∀x∈l,0<=x/\x<n)->l.length<=n
 | 0,l,_,h=>by
  cases l with
  | nil=>exact Nat.le_refl _
  | cons x l=>have:=h x (by simp);omega
 | n+1,l,nd,h=>by
  have h1:(l.erase (n:Int)).length<=n:=Zf8 n _ (nd.erase _) λx hx=>by
   have h2:=h x (List.mem_of_mem_erase hx);have h3:x≠(n:Int):=((nd.mem_erase_iff).mp hx).1
   push_cast at h2
   omega
  have h4:=List.length_erase (a:=(n:Int)) (l:=l);split at h4<;>omega
theorem Zk{x:Int}{c:Ce}(h:cellAt M x=some c):0<=x/\x<M.cells.length:=by
 obtain⟨a,h1⟩:=dm.mp h;have:=(dY h1).1;omega
theorem KW.ok(p:KW M hs k)(hb:HsB hs)(hk:k<=900):O8 M:=by
 have d:=p.cl;have f:=p.nl;refine⟨by omega,λm hm=>?_,λc hc=>by have:=p.fl c hc;omega,by omega,λph=>?_,λph x hx=>?_,p.ph,p.a0⟩
 ·obtain⟨i,b,e⟩:=List.getElem_of_mem hm;have a:i<hs.length:=by rw[<- p.hl];exact b
  have h1:=p.hn i m _ (by rw[bM b,e]) (bM a);have h2:=hb.sb _ (List.getElem_mem a);omega
 ·obtain⟨nd,h1⟩:=p.gr ph;refine Nat.le_trans (Zf8 M.cells.length _ nd λx hx=>?_) (by omega);obtain⟨c,hc,_⟩:=h1 x hx;exact Zk hc
 ·obtain⟨c,hc,_⟩:=(p.gr ph).2 x hx;exact⟨c,hc⟩
theorem KW.Dm(p:KW M hs k){h s:Nat}(o:Ua hs h s):Dm M h s:=by
 obtain⟨m,hm,a⟩:=o;have hh:h<M.hands.length:=by rw[p.hl];exact(dY hm).1
 refine⟨_,bM hh,?_⟩;have:=p.hn h _ m (bM hh) hm;omega
theorem KW.okD(p:KW M hs k){d:p6}(o:okR hs d):okD M d:=by
 cases d with
 | make h s a bulk=>exact⟨p.Dm o.1,o.2.1,by have:=o.2.2.1;omega,o.2.2.2⟩
 | get h s t f=>exact⟨p.Dm o.1,p.Dm o.2⟩
 | put h t f s=>exact⟨p.Dm o.1,p.Dm o.2⟩
 | copy h s t=>exact⟨p.Dm o.1,p.Dm o.2⟩
 | drop h s=>exact p.Dm o
 | give h s g t=>exact⟨p.Dm o.1,p.Dm o.2⟩
 | write h t l=>exact p.Dm o
 | read h t=>exact p.Dm o
 | name h t z=>exact p.Dm o
 | seek h s z=>exact p.Dm o
theorem KW.mono{a:Nat}(p:KW M hs k)(h:k<=a):KW M hs a:=by
 obtain⟨d,c,j,l,g,b,i,f,e⟩:=p;exact⟨d,c,by omega,by omega,g,b,i,f,e⟩
theorem KW.slot(p:KW M hs k)(h s:Nat)(x:AA):KW (setSlot M h s x) hs k:=by
 obtain⟨j,d,f,t,o,l,g,r,q⟩:=p;refine⟨by show(M.hands.modify h _).length=_;rw[List.length_modify];exact j,λi m n a e=>?_,f,t,o,l,g,r,q⟩;have a:(M.hands.modify h λm=>(m.1,m.2.set s x))[i]? =some m:=a;rw[List.getElem?_modify]at a;cases c:M.hands[i]? with
 | none=>rw[c]at a;cases a
 | some b=>
  rw[c]at a
  by_cases z:h=i
  ·have e3:(b.1,b.2.set s x)=m:=by simpa[z]using a
   rw[<- e3];show(b.2.set s x).length=_;rw[List.length_set];exact d i b n c e
  ·have e3:b=m:=by simpa[z]using a
   rw[<- e3];exact d i b n c e
theorem o7{i:Int}{c c':Ce}(h:cellAt M i=some c)(x:Int):cellAt (setCell M i c') x=if x=i then some c' else cellAt M x:=by
 obtain⟨b,h1⟩:=dm.mp h;unfold cellAt;show(if 0<=x then((M.cells.set i.toNat (some c'))[x.toNat]?).join else none)=_
 by_cases e:x=i
 ·subst e;rw[if_pos b,if_pos rfl,List.getElem?_set_self (dY h1).1];rfl
 ·rw[if_neg e]
  by_cases a:0<=x
  ·rw[if_pos a,if_pos a,List.getElem?_set_ne (by omega)]
  ·rw[if_neg a,if_neg a]
theorem KW.cell(p:KW M hs k){i:Int}{c c':Ce}(h:cellAt M i=some c)(m:c'.tone=c.tone)(s:c'.fl.length=c.fl.length):KW (setCell M i c') hs k:=by
 have h8:=p.fl c (wH h);obtain⟨j,b,f,r,n,l,g,q,o⟩:=p;refine⟨j,b,by show(M.cells.set _ _).length<=_;rw[List.length_set];exact f,r,λd hd=>?_,λph=>?_,g,q,o⟩
 ·rcases List.mem_or_eq_of_mem_set (show some d∈M.cells.set _ _ from hd)with hd | hd
  ·exact n d hd
  ·cases hd;omega
 ·obtain⟨nd,h1⟩:=l ph;refine⟨nd,λx hx=>?_⟩;obtain⟨d,hd,a⟩:=h1 x hx;rw[o7 h]
  by_cases e:x=i
  ·subst e;rw[h]at hd;cases hd;exact⟨c',by rw[if_pos rfl],by rw[m];exact a⟩
  ·exact⟨d,by rw[if_neg e];exact hd,a⟩
theorem KW.note(p:KW M hs k)(x:AA):KW (bT M x).2 hs k:=by
 cases x with
 | none=>exact p
 | some i=>
  unfold bT;dsimp only;cases hc:cellAt M i with
  | none=>exact p
  | some c=>
   dsimp only;split
   ·rename_i z
    obtain⟨z1,h⟩:=z;have h8:=p.fl c (wH hc);obtain⟨q,j,l,v,s,r,n,u,t⟩:=p;obtain⟨nd,h1⟩:=r z1;have f:i∉M.sw.grey:=λm=>by
     obtain⟨d,hd,g⟩:=h1 i m;rw[hc]at hd;cases hd;exact h g
    refine⟨q,j,by show(M.cells.set _ _).length<=_;rw[List.length_set];exact l,v,λd hd=>?_,λ_=>⟨?_,λx hx=>?_⟩,n,u,t⟩
    ·rcases List.mem_or_eq_of_mem_set (show some d∈M.cells.set _ _ from hd)with hd | hd
     ·exact s d hd
     ·cases hd;exact h8
    ·show(M.sw.grey++[i]).Nodup;rw[List.nodup_append];exact⟨nd,by simp,λa o b hb e=>f (by rw[List.mem_singleton.mp hb]at e;rw[<- e];exact o)⟩
    ·have e:=o7 (c':={ c with tone:=M.sw.sense }) hc x;show ∃d,cellAt (setCell M i { c with tone:=M.sw.sense }) x=some d/\d.tone=M.sw.sense;rw[e]
     by_cases ex:x=i
     ·exact⟨_,by rw[if_pos ex],rfl⟩
     ·rcases List.mem_append.mp (show x∈M.sw.grey++[i]from hx)with hx | hx
      ·obtain⟨d,hd,g⟩:=h1 x hx;exact⟨d,by rw[if_neg ex];exact hd,g⟩
      ·exact absurd (List.mem_singleton.mp hx) ex
   ·exact p
theorem KW.notes:∀{l:Au}{M:Wm},KW M hs k->KW (aV M l).2 hs k
 | [],_,p=>p
 | x::l,_,p=>KW.notes (l:=l) (p.note x)
theorem KW.nh(a:Int):∀{l:List (Str×Au)}{j:Nat}{M:Wm},KW M hs k->KW (iV a l j M).2 hs k
 | [],_,_,p=>p
 | m::l,j,M,p=>by
  unfold iV;split
  ·exact KW.nh a (l:=l) (KW.notes p)
  ·exact KW.nh a (l:=l) p
theorem KW.put(p:KW M hs k){u b:Int}{c:Ce}(f:c.fl.length<=8):KW { M with used:=u,born:=b,cells:=qL M.cells c } hs (k+1):=by
 obtain⟨g,a,n,o,j,h,e,m,l⟩:=p;refine⟨g,a,?_,by show M.names.length<=_;omega,λd hd=>?_,λph=>?_,e,m,l⟩
 ·have:=Ztn M.cells c;show(qL M.cells c).length<=_;omega
 ·rcases Zqp hd with hd | hd
  ·exact j d hd
  ·cases hd;exact f
 ·obtain⟨nd,h1⟩:=h ph;refine⟨nd,λx hx=>?_⟩;obtain⟨d,hd,i⟩:=h1 x hx;exact⟨d,Zks hd,i⟩
theorem Zms{l:List (Str×(Int×Int))}{z:Str}{v:Int×Int}:(xu l z v).length<=l.length+1:=by
 unfold xu;split
 ·rw[aY];omega
 ·rw[List.length_append];simp
theorem KW.name(p:KW M hs k){z:Str}{v:Int×Int}:KW { M with names:=xu M.names z v } hs (k+1):=by
 obtain⟨c,b,h,i,f,a,g,e,d⟩:=p;refine⟨c,b,by show M.cells.length<=_;omega,?_,f,a,g,e,d⟩;have:=Zms (l:=M.names) (z:=z) (v:=v);show(xu M.names z v).length<=_;omega
theorem KW.deed(p:KW M hs k){d:p6}{e:Ev}{M':Wm}(o:okR hs d)(h:zJ M d=.ok (e,M')):KW M' hs (k+1):=by
 have a:k<=k+1:=by omega
 cases d with
 | make hh s b bulk=>
  simp only[zJ]at h;split at h
  ·have h2:=(Except.ok.inj h);rw[<- (Prod.mk.inj h2).2];refine KW.slot (KW.put p ?_) _ _ _;show(List.replicate b.toNat none).length<=8;rw[List.length_replicate];have:=o.2.2.1;omega
  ·cases h
 | get hh s t f=>
  simp only[zJ]at h;split at h
  ·cases h
  ·split at h
   ·cases h
   ·split at h
    ·cases h
    ·have h2:=(Except.ok.inj h);rw[<- (Prod.mk.inj h2).2];exact(p.slot _ _ _).mono a
 | put hh t f s=>
  simp only[zJ]at h;split at h
  ·cases h
  ·split at h
   ·cases h
   ·rename_i c hc
    split at h
    ·cases h
    ·have h2:=(Except.ok.inj h);rw[<- (Prod.mk.inj h2).2];exact(KW.notes (p.cell (c':={ c with fl:=c.fl.set f (aX M hh s) }) hc rfl (by show(List.set _ _ _).length=_;rw[List.length_set]))).mono a
 | copy hh s t=>
  have h2:=(Except.ok.inj h);rw[<- (Prod.mk.inj h2).2];exact(p.slot _ _ _).mono a
 | drop hh s=>
  have h2:=(Except.ok.inj h);rw[<- (Prod.mk.inj h2).2];exact(p.slot _ _ _).mono a
 | give hh s g t=>
  have h2:=(Except.ok.inj h);rw[<- (Prod.mk.inj h2).2];exact(KW.notes (p.slot _ _ _)).mono a
 | write hh t l=>
  simp only[zJ]at h;split at h
  ·cases h
  ·split at h
   ·cases h
   ·rename_i c hc
    have h2:=(Except.ok.inj h);rw[<- (Prod.mk.inj h2).2];exact(p.cell (c':={ c with load:=l }) hc rfl rfl).mono a
 | read hh t=>
  simp only[zJ]at h;split at h
  ·cases h
  ·split at h
   ·cases h
   ·have h2:=(Except.ok.inj h);rw[<- (Prod.mk.inj h2).2];exact p.mono a
 | name hh t z=>
  simp only[zJ]at h;split at h
  ·cases h
  ·split at h
   ·cases h
   ·have h2:=(Except.ok.inj h);rw[<- (Prod.mk.inj h2).2];exact p.name
 | seek hh s z=>
  simp only[zJ]at h;split at h
  ·cases h
  ·split at h
   ·have h2:=(Except.ok.inj h);rw[<- (Prod.mk.inj h2).2];exact(p.slot _ _ _).mono a
   ·have h2:=(Except.ok.inj h);rw[<- (Prod.mk.inj h2).2];exact(KW.notes (p.slot _ _ _)).mono a
theorem KW.step(p:KW M hs k){lb:Int}{lw:AD}{e:Ev}{M':Wm}(h:u6 lb lw M e M'):KW M' hs k:=by
 cases h with
 | begin ph=>
  refine KW.nh _ ?_;obtain⟨f,a,b,m,j,r,n,o,l⟩:=p;exact⟨f,a,b,m,j,λ_=>⟨List.nodup_nil,λx hx=>(nomatch hx)⟩,.inr (.inl rfl),o,l⟩
 | walk x g c ph s hc=>
  refine KW.notes ?_;obtain⟨f,a,b,m,j,r,n,o,l⟩:=p;refine⟨f,a,b,m,j,λ_=>?_,n,o,l⟩;obtain⟨nd,h1⟩:=r ph;rw[s]at nd h1;exact⟨(List.nodup_cons.mp nd).2,λy hy=>h1 y (List.mem_cons_of_mem _ hy)⟩
 | look N ph s E D=>
  have u:KW N hs k:=by rw[D];exact KW.nh _ p
  obtain⟨f,a,b,m,j,r,n,o,l⟩:=u;exact⟨f,a,b,m,j,r,n,o,l⟩
 | cut q A ph s B w t=>
  obtain⟨f,a,b,m,j,r,n,o,l⟩:=p;exact⟨f,a,b,m,j,λz=>absurd z (show ¬ ("give":Str)="walk" by decide),.inr (.inr (.inl rfl)),Int.le_refl _,l⟩
 | lost q A i x c v ph s B w hx t hc C=>
  obtain⟨f,a,b,m,j,r,n,o,l⟩:=p;exact⟨f,a,b,m,j,λz=>absurd z (show ¬ ("lost":Str)="walk" by decide),.inr (.inr (.inr rfl)),Int.le_refl _,l⟩
 | pass ph lt hp=>
  obtain⟨f,a,b,m,j,r,n,o,l⟩:=p;exact⟨f,a,b,m,j,r,n,by show 0<=M.sw.at'+1;omega,l⟩
 | back c ph lt hc C=>
  obtain⟨f,a,b,m,j,r,n,o,l⟩:=p;refine⟨f,a,by show(M.cells.set _ _).length<=_;rw[List.length_set];exact b,m,λd hd=>?_,λz=>absurd (ph.symm.trans z) (by decide),n,by show 0<=M.sw.at'+1;omega,l⟩;rcases List.mem_or_eq_of_mem_set (show some d∈M.cells.set _ _ from hd)with hd | hd
  ·exact j d hd
  ·cases hd
 | fin ph lt=>
  obtain⟨f,a,b,m,j,r,n,o,l⟩:=p;exact⟨f,a,b,m,j,λz=>absurd z (show ¬ ("rest":Str)="walk" by decide),.inl rfl,o,l⟩
 | again ph=>exact p
theorem KW.new{room:Int}{w t:Int}(b:0<=t)(h1:t<4):KW (Zfc room hs w t) hs 0:=by
 refine⟨by show(hs.map _).length=_;rw[aY],λi m n a d=>?_,Nat.le_refl _,Nat.le_refl _,λc hc=>(nomatch hc),λz=>absurd z (show ¬ ("rest":Str)="walk" by decide),.inl rfl,Int.le_refl _,⟨b,h1⟩⟩;have a:(hs.map λm=>(m.1,List.replicate m.2.toNat (none:AA)))[i]? =some m:=a;rw[cF,d]at a;cases a;exact List.length_replicate
end
inductive Tr where
 | fl:V->Tr
 | ls:List Tr->Tr
 | tp:List Tr->Tr
structure Kp(H H':Hp)(T T':Tg):Prop where
 k:∀b o,H b=some o->(T b).1=0\/6<=(T b).1->H' b=some o
 tg:∀b o,H b=some o->T' b=T b
 al:∀b o,H b=some o->∃o',H' b=some o'
theorem Kp.same{H H':Hp}{T:Tg}(s:aW H H'):Kp H H' T T:=⟨λb o h _=>s _ _ h,λ_ _ _=>rfl,λb o h=>⟨o,s _ _ h⟩⟩
theorem Kp.stp{s:Nat}{H H':Hp}{T T':Tg}(st:jf s H H' T T')(n:s≠0/\s<6):Kp H H' T T':=⟨λb o h t=>st.kp b o h (by omega),st.tg,st.al⟩
theorem Kp.trans{H c e:Hp}{T f d:Tg}(a:Kp H c T f)(b:Kp c e f d):Kp H e T d:=
 ⟨λx o h t=>b.k x o (a.k x o h t) (by rw[a.tg x o h];exact t),λx o h=>by
  obtain⟨o1,h1⟩:=a.al x o h;exact(b.tg x o1 h1).trans (a.tg x o h),λx o h=>by
  obtain⟨o1,h1⟩:=a.al x o h;exact b.al x o1 h1⟩
theorem Kp.tag{H H':Hp}{T:Tg}{l:AH}{v:Nat×Nat}(n:H l=none)(s:aW H H'):Kp H H' T (ji T l v):=⟨λb o h _=>s _ _ h,λb o h=>jg (aD h n),λb o h=>⟨o,s _ _ h⟩⟩
theorem Zvu(x:AA):qJ (oV x)=true:=by cases x<;>rfl
def oZ(M:Wm)(i:Int):Bool:=match cellAt M i with
 | none=>false
 | some c=>decide (c.tone≠M.sw.sense)
def ntP(M:Wm):Au->AD->AD
 | [],acc=>acc
 | none::l,acc=>ntP M l acc
 | some i::l,acc=>if oZ M i=true/\i∉acc then ntP M l (acc++[i])else ntP M l acc
def gW(M:Wm):AD->Wm
 | acc=>acc.foldl (λN i=>(bT N (some i)).2) M
def gh(M:Wm)(i:Int):Int:=((cellAt M i).map (·.birth)).getD 0
section
variable {M:Wm}
theorem Ue(acc:AD)(i:Int):gW M (acc++[i])=(bT (gW M acc) (some i)).2:=by
 unfold gW;rw[List.foldl_append];rfl
structure NL(M N:Wm)(acc:AD):Prop where
 sw:N.sw={ M.sw with grey:=M.sw.grey++acc }
 at_:∀i,cellAt N i=if i∈acc then(cellAt M i).map (λc=>{ c with tone:=M.sw.sense })else cellAt M i
 nt:NtR M N
theorem Zf1(ph:M.sw.phase="walk"):∀(n:Nat) (acc:AD),acc.length=n->acc.Nodup->(∀i∈acc,oZ M i=true)->NL M (gW M acc) acc:=by
 intro n
 induction n with
 | zero=>
  intro acc hl _ _;rw[List.eq_nil_of_length_eq_zero hl];exact⟨by rw[List.append_nil];rfl,λi=>by rw[if_neg (by simp)];rfl,NtR.refl M⟩
 | succ n q=>
  intro acc hl nd hp;obtain⟨a0,i,rfl⟩:∃a0 i,acc=a0++[i]:=⟨acc.dropLast,acc.getLast (by intro z;rw[z]at hl;cases hl),(List.dropLast_concat_getLast _).symm⟩;rw[List.length_append,List.length_singleton]at hl;rw[List.nodup_append]at nd;obtain⟨l,_,m⟩:=nd;have j:i∉a0:=λz=>m i z i (by simp) rfl;obtain⟨k,p,n1⟩:=q a0 (by omega) l λx hx=>hp x (by simp[hx]);have a:=hp i (by simp);unfold oZ at a;cases hc:cellAt M i with
  | none=>rw[hc]at a;cases a
  | some c=>
   rw[hc]at a;have r:c.tone≠M.sw.sense:=decide_eq_true_iff.mp a;have d:cellAt (gW M a0) i=some c:=by rw[p i,if_neg j];exact hc
   have g:(gW M a0).sw.phase="walk":=by rw[k];exact ph
   have b:(gW M a0).sw.sense=M.sw.sense:=by rw[k]
   have o:bT (gW M a0) (some i)=(some c.birth,{ setCell (gW M a0) i { c with tone:=(gW M a0).sw.sense }with sw:={ (gW M a0).sw with grey:=(gW M a0).sw.grey++[i] } }):=by
    unfold bT;dsimp only;rw[d];dsimp only;rw[if_pos ⟨g,by rw[b];exact r⟩]
   rw[Ue];have f:=n1.trans (Zf0 (gW M a0) (some i));refine⟨?_,λx=>?_,f⟩
   ·rw[o];show { (gW M a0).sw with grey:=(gW M a0).sw.grey++[i] }=_;rw[k];simp only[List.append_assoc]
   ·rw[o];show cellAt (setCell (gW M a0) i { c with tone:=(gW M a0).sw.sense }) x=_;rw[o7 d,b]
    by_cases e:x=i
    ·subst e;rw[if_pos rfl,if_pos (by simp),hc];rfl
    ·rw[if_neg e,p x]
     by_cases h:x∈a0
     ·rw[if_pos h,if_pos (by simp[h])]
     ·rw[if_neg h,if_neg (by simp[h,e])]
theorem Zbi:∀(l:Au) (acc:AD),acc.Nodup->(∀i∈acc,oZ M i=true)->(ntP M l acc).Nodup/\∀i∈ntP M l acc,oZ M i=true
 | [],acc,h1,h2=>⟨h1,h2⟩
 | none::l,acc,h1,h2=>Zbi l acc h1 h2
 | some i::l,acc,h1,h2=>by
  unfold ntP;split
  ·rename_i z
   refine Zbi l (acc++[i]) ?_ λx hx=>?_
   ·rw[List.nodup_append];exact⟨h1,by simp,λa c b hb e=>z.2 (by rw[List.mem_singleton.mp hb]at e;rw[<- e];exact c)⟩
   ·rcases List.mem_append.mp hx with hx | hx
    ·exact h2 x hx
    ·rw[List.mem_singleton.mp hx];exact z.1
  ·exact Zbi l acc h1 h2
theorem GQ(ph:M.sw.phase="walk"):∀(l:Au) (acc:AD),acc.Nodup->(∀i∈acc,oZ M i=true)->(aV (gW M acc) l).2=gW M (ntP M l acc)/\acc.map (gh M)++(aV (gW M acc) l).1=(ntP M l acc).map (gh M)
 | [],acc,_,_=>⟨rfl,by rw[show(aV (gW M acc) []).1=[]from rfl,List.append_nil];rfl⟩
 | none::l,acc,h1,h2=>by
  have e:aV (gW M acc) (none::l)=aV (gW M acc) l:=by
   show(ofN none++(aV (gW M acc) l).1,(aV (gW M acc) l).2)=_;rfl
  rw[e];exact GQ ph l acc h1 h2
 | some i::l,acc,h1,h2=>by
  have nl:=Zf1 ph acc.length acc rfl h1 h2;have k:(gW M acc).sw.phase="walk":=by rw[nl.sw];exact ph
  have d:(gW M acc).sw.sense=M.sw.sense:=by rw[nl.sw]
  have q:aV (gW M acc) (some i::l)=(ofN (bT (gW M acc) (some i)).1++(aV (bT (gW M acc) (some i)).2 l).1,(aV (bT (gW M acc) (some i)).2 l).2):=rfl;rw[q];unfold ntP
  by_cases z:oZ M i=true/\i∉acc
  ·rw[if_pos z];obtain⟨z1,o⟩:=z;have h:=z1;unfold oZ at z1;cases hc:cellAt M i with
   | none=>rw[hc]at z1;cases z1
   | some c=>
    rw[hc]at z1;have t:c.tone≠M.sw.sense:=decide_eq_true_iff.mp z1;have j:cellAt (gW M acc) i=some c:=by rw[nl.at_ i,if_neg o];exact hc
    have m:(bT (gW M acc) (some i)).1=some c.birth:=by
     unfold bT;dsimp only;rw[j];dsimp only;rw[if_pos ⟨k,by rw[d];exact t⟩]
    have r:(bT (gW M acc) (some i)).2=gW M (acc++[i]):=(Ue acc i).symm;rw[m,r];have nd:(acc++[i]).Nodup:=by
     rw[List.nodup_append];exact⟨h1,by simp,λa s b hb e=>o (by rw[List.mem_singleton.mp hb]at e;rw[<- e];exact s)⟩
    obtain⟨f,n⟩:=GQ ph l (acc++[i]) nd λx hx=>by
     rcases List.mem_append.mp hx with hx | hx
     ·exact h2 x hx
     ·rw[List.mem_singleton.mp hx];exact h
    refine⟨f,?_⟩;rw[<- n,List.map_append];have p:gh M i=c.birth:=by unfold gh;rw[hc];rfl
    simp[ofN,p]
  ·rw[if_neg z];have m:bT (gW M acc) (some i)=(none,gW M acc):=by
    unfold bT;dsimp only;rw[nl.at_ i]
    by_cases g:i∈acc
    ·rw[if_pos g];cases hc:cellAt M i with
     | none=>rfl
     | some c=>
      show(if _ then _ else _)=_;rw[if_neg (λy=>y.2 (by rw[d]))]
    ·rw[if_neg g];cases hc:cellAt M i with
     | none=>rfl
     | some c=>
      have:¬ oZ M i=true:=λy=>z ⟨y,g⟩;unfold oZ at this;rw[hc]at this;show(if _ then _ else _)=_;rw[if_neg (λy=>this (decide_eq_true (by rw[<- d];exact y.2)))]
   rw[m];obtain⟨f,n⟩:=GQ ph l acc h1 h2;exact⟨f,by simpa[ofN]using n⟩
def nhL(a:Int):List (Str×Au)->Nat->Au
 | [],_=>[]
 | m::l,k=>if a / 2 ^ k % 2=1 then m.2++nhL a l (k+1)else nhL a l (k+1)
theorem Ud:∀(a b:Au) (M:Wm),aV M (a++b)=((aV M a).1++(aV (aV M a).2 b).1,(aV (aV M a).2 b).2)
 | [],b,M=>rfl
 | x::a,b,M=>by
  show(ofN (bT M x).1++(aV (bT M x).2 (a++b)).1,(aV (bT M x).2 (a++b)).2)=((ofN (bT M x).1++(aV (bT M x).2 a).1)++(aV (aV (bT M x).2 a).2 b).1,(aV (aV (bT M x).2 a).2 b).2);rw[Ud a b,List.append_assoc]
theorem Zqk(a:Int):∀(l:List (Str×Au)) (k:Nat) (M:Wm),iV a l k M=aV M (nhL a l k)
 | [],_,_=>rfl
 | m::l,k,M=>by
  unfold iV nhL;split
  ·rw[Ud,Zqk a l (k+1)]
  ·exact Zqk a l (k+1) M
end
structure TB(w0:Int)(M:Wm):Prop where
 bu:∀i j c d,cellAt M i=some c->cellAt M j=some d->c.birth=d.birth->i=j
 bn:∀i c,cellAt M i=some c->1<=c.birth/\c.birth<=M.born
 b0:0<=M.born
 se:M.sw.sense=0\/M.sw.sense=1
 tn:∀i c,cellAt M i=some c->c.tone=0\/c.tone=1
 rs:M.sw.phase="rest"->∀i c,cellAt M i=some c->c.tone=M.sw.sense
 gv:M.sw.phase="give"->∀i c,cellAt M i=some c->c.tone≠M.sw.sense->M.sw.at'<=i/\i<M.sw.stop
 ww:M.w=w0
structure Sb(M M':Wm):Prop where
 ce:∀i,(cellAt M' i).map (·.birth)=(cellAt M i).map (·.birth)
 tn:∀i c c',cellAt M i=some c->cellAt M' i=some c'->c'.tone=c.tone\/(M.sw.phase="walk"/\c'.tone=M.sw.sense)
 bn:M'.born=M.born
 se:M'.sw.sense=M.sw.sense
 ph:M'.sw.phase=M.sw.phase
 at_:M'.sw.at'=M.sw.at'
 st:M'.sw.stop=M.sw.stop
 ww:M'.w=M.w
section
variable {M M':Wm}{w0:Int}
theorem Sb.get(h:Sb M M'){i:Int}{c':Ce}(e:cellAt M' i=some c'):∃c,cellAt M i=some c/\c'.birth=c.birth/\(c'.tone=c.tone\/(M.sw.phase="walk"/\c'.tone=M.sw.sense)):=by
 have h1:=h.ce i;rw[e]at h1;cases hc:cellAt M i with
 | none=>rw[hc]at h1;cases h1
 | some c=>
  rw[hc]at h1;exact⟨c,rfl,Option.some.inj h1,h.tn i c c' hc e⟩
theorem Sb.zR(h:M'.cells=M.cells)(bn:M'.born=M.born)(se:M'.sw.sense=M.sw.sense)(ph:M'.sw.phase=M.sw.phase)(at_:M'.sw.at'=M.sw.at')(st:M'.sw.stop=M.sw.stop)(ww:M'.w=M.w):Sb M M':=by
 have e:∀i,cellAt M' i=cellAt M i:=λi=>by unfold cellAt;rw[h]
 exact⟨λi=>by rw[e],λi c a h1 h2=>by rw[e,h1]at h2;cases h2;exact .inl rfl,bn,se,ph,at_,st,ww⟩
theorem Sb.refl(M:Wm):Sb M M:=Sb.zR rfl rfl rfl rfl rfl rfl rfl
theorem Sb.trans{d:Wm}(a:Sb M M')(b:Sb M' d):Sb M d:=by
 refine⟨λi=>(b.ce i).trans (a.ce i),λi c f h1 h2=>?_,b.bn.trans a.bn,b.se.trans a.se,b.ph.trans a.ph,b.at_.trans a.at_,b.st.trans a.st,b.ww.trans a.ww⟩;obtain⟨e,h3,_,h4⟩:=b.get h2;have h5:=a.tn i c e h1 h3;rw[a.ph,a.se]at h4;rcases h4 with h4 | h4
 ·rcases h5 with h5 | h5
  ·exact .inl (h4.trans h5)
  ·exact .inr ⟨h5.1,h4.trans h5.2⟩
 ·exact .inr h4
theorem Sb.slot(M:Wm)(h s:Nat)(x:AA):Sb M (setSlot M h s x):=Sb.zR rfl rfl rfl rfl rfl rfl rfl
theorem Sb.cell{i:Int}{c c':Ce}(h:cellAt M i=some c)(hb:c'.birth=c.birth)(a:c'.tone=c.tone\/(M.sw.phase="walk"/\c'.tone=M.sw.sense)):Sb M (setCell M i c'):=by
 refine⟨λx=>?_,λx d b h1 h2=>?_,rfl,rfl,rfl,rfl,rfl,rfl⟩
 ·rw[o7 h]
  by_cases e:x=i
  ·subst e;rw[if_pos rfl,h];exact congrArg some hb
  ·rw[if_neg e]
 ·rw[o7 h]at h2
  by_cases e:x=i
  ·subst e;rw[if_pos rfl]at h2;rw[h]at h1;cases h1;cases h2;exact a
  ·rw[if_neg e,h1]at h2;cases h2;exact .inl rfl
theorem Sb.note(M:Wm)(x:AA):Sb M (bT M x).2:=by
 cases x with
 | none=>exact Sb.refl M
 | some i=>
  unfold bT;dsimp only;cases hc:cellAt M i with
  | none=>exact Sb.refl M
  | some c=>
   dsimp only;split
   ·rename_i z
    exact(Sb.cell (c':={ c with tone:=M.sw.sense }) hc rfl (.inr ⟨z.1,rfl⟩)).trans (Sb.zR rfl rfl rfl rfl rfl rfl rfl)
   ·exact Sb.refl M
theorem Sb.notes:∀(l:Au) (M:Wm),Sb M (aV M l).2
 | [],M=>Sb.refl M
 | x::l,M=>(Sb.note M x).trans (Sb.notes l _)
theorem Sb.nh(a:Int):∀(l:List (Str×Au)) (j:Nat) (M:Wm),Sb M (iV a l j M).2
 | [],_,M=>Sb.refl M
 | m::l,j,M=>by
  unfold iV;split
  ·exact(Sb.notes m.2 M).trans (Sb.nh a l (j+1) _)
  ·exact Sb.nh a l (j+1) M
theorem TB.sb(p:TB w0 M)(h:Sb M M'):TB w0 M':=by
 refine⟨λi j c d h1 h2 e=>?_,λi c h1=>?_,by rw[h.bn];exact p.b0,by rw[h.se];exact p.se,λi c h1=>?_,λph i c h1=>?_,λph i c h1 f=>?_,by rw[h.ww];exact p.ww⟩
 ·obtain⟨a,b,g,_⟩:=h.get h1;obtain⟨k,l,m,_⟩:=h.get h2;exact p.bu i j a k b l (by rw[<- g,<- m];exact e)
 ·obtain⟨a,b,g,_⟩:=h.get h1;rw[g,h.bn];exact p.bn i a b
 ·obtain⟨a,b,_,t1⟩:=h.get h1;rcases t1 with t1 | t1
  ·rw[t1];exact p.tn i a b
  ·rw[t1.2];exact p.se
 ·obtain⟨a,b,_,t1⟩:=h.get h1;rw[h.ph]at ph;rw[h.se];rcases t1 with t1 | t1
  ·rw[t1];exact p.rs ph i a b
  ·exact t1.2
 ·obtain⟨a,b,_,t1⟩:=h.get h1;rw[h.ph]at ph;rw[h.se]at f;rw[h.at_,h.st];rcases t1 with t1 | t1
  ·exact p.gv ph i a b (by rw[<- t1];exact f)
  ·exact absurd t1.2 f
theorem lJ{x u b:Int}{c d:Ce}(h:cellAt { M with used:=u,born:=b,cells:=qL M.cells c } x=some d):(x=mV M.cells/\d=c)\/cellAt M x=some d:=by
 obtain⟨g,h1⟩:=dm.mp h;have h1:(qL M.cells c)[x.toNat]? =some (some d):=h1
 by_cases z:x.toNat=mV M.cells
 ·rw[z,Rm]at h1;cases h1;exact .inl ⟨by omega,rfl⟩
 ·refine .inr (dm.mpr ⟨g,?_⟩);unfold qL at h1;split at h1
  ·rw[List.getElem?_set_ne (λe=>z e.symm)]at h1;exact h1
  ·rename_i y
   rw[List.getElem?_append]at h1;split at h1
   ·exact h1
   ·rename_i i
    have a:=(dY h1).1;have f:=Zci M.cells;have:x.toNat - M.cells.length<1:=a;omega
theorem TB.put(p:TB w0 M){u:Int}{c:Ce}(hb:c.birth=M.born+1)(f:c.tone=M.sw.sense):TB w0 { M with used:=u,born:=M.born+1,cells:=qL M.cells c }:=by
 have b0:=p.b0;refine⟨λi j d e h1 h2 b=>?_,λi d h1=>?_,by show 0<=M.born+1;omega,p.se,λi d h1=>?_,λph i d h1=>?_,λph i d h1 hp=>?_,p.ww⟩
 ·rcases lJ h1 with ⟨z1,a⟩ | z1
  ·rcases lJ h2 with ⟨y1,g⟩ | y1
   ·rw[z1,y1]
   ·have:=p.bn j e y1;rw[a,hb]at b;omega
  ·rcases lJ h2 with ⟨y1,g⟩ | y1
   ·have:=p.bn i d z1;rw[g,hb]at b;omega
   ·exact p.bu i j d e z1 y1 b
 ·show 1<=d.birth/\d.birth<=M.born+1;rcases lJ h1 with ⟨z1,a⟩ | z1
  ·rw[a,hb];omega
  ·have:=p.bn i d z1;omega
 ·rcases lJ h1 with ⟨z1,a⟩ | z1
  ·rw[a,f];exact p.se
  ·exact p.tn i d z1
 ·rcases lJ h1 with ⟨z1,a⟩ | z1
  ·rw[a];exact f
  ·exact p.rs ph i d z1
 ·rcases lJ h1 with ⟨z1,a⟩ | z1
  ·rw[a]at hp;exact absurd f hp
  ·exact p.gv ph i d z1 hp
theorem TB.deed(p:TB w0 M){d:p6}{e:Ev}(h:zJ M d=.ok (e,M')):TB w0 M':=by
 cases d with
 | make hh s a bulk=>
  simp only[zJ]at h;split at h
  ·have h2:=(Except.ok.inj h);rw[<- (Prod.mk.inj h2).2];exact(TB.put p (c:=⟨M.born+1,bulk,M.sw.sense,0,List.replicate a.toNat none⟩) rfl rfl).sb (Sb.slot _ _ _ _)
  ·cases h
 | get hh s t f=>
  simp only[zJ]at h;split at h
  ·cases h
  ·split at h
   ·cases h
   ·split at h
    ·cases h
    ·have h2:=(Except.ok.inj h);rw[<- (Prod.mk.inj h2).2];exact p.sb (Sb.slot _ _ _ _)
 | put hh t f s=>
  simp only[zJ]at h;split at h
  ·cases h
  ·split at h
   ·cases h
   ·rename_i c hc
    split at h
    ·cases h
    ·have h2:=(Except.ok.inj h);rw[<- (Prod.mk.inj h2).2];exact p.sb ((Sb.cell (c':={ c with fl:=c.fl.set f (aX M hh s) }) hc rfl (.inl rfl)).trans (Sb.notes _ _))
 | copy hh s t=>
  have h2:=(Except.ok.inj h);rw[<- (Prod.mk.inj h2).2];exact p.sb (Sb.slot _ _ _ _)
 | drop hh s=>
  have h2:=(Except.ok.inj h);rw[<- (Prod.mk.inj h2).2];exact p.sb (Sb.slot _ _ _ _)
 | give hh s g t=>
  have h2:=(Except.ok.inj h);rw[<- (Prod.mk.inj h2).2];exact p.sb ((Sb.slot _ _ _ _).trans (Sb.notes _ _))
 | write hh t l=>
  simp only[zJ]at h;split at h
  ·cases h
  ·split at h
   ·cases h
   ·rename_i c hc
    have h2:=(Except.ok.inj h);rw[<- (Prod.mk.inj h2).2];exact p.sb (Sb.cell (c':={ c with load:=l }) hc rfl (.inl rfl))
 | read hh t=>
  simp only[zJ]at h;split at h
  ·cases h
  ·split at h
   ·cases h
   ·have h2:=(Except.ok.inj h);rw[<- (Prod.mk.inj h2).2];exact p
 | name hh t z=>
  simp only[zJ]at h;split at h
  ·cases h
  ·split at h
   ·cases h
   ·have h2:=(Except.ok.inj h);rw[<- (Prod.mk.inj h2).2];exact p.sb (Sb.zR rfl rfl rfl rfl rfl rfl rfl)
 | seek hh s z=>
  simp only[zJ]at h;split at h
  ·cases h
  ·split at h
   ·have h2:=(Except.ok.inj h);rw[<- (Prod.mk.inj h2).2];exact p.sb (Sb.slot _ _ _ _)
   ·have h2:=(Except.ok.inj h);rw[<- (Prod.mk.inj h2).2];exact p.sb ((Sb.slot _ _ _ _).trans (Sb.notes _ _))
theorem TB.step(p:TB w0 M){lb:Int}{lw:AD}{e:Ev}(h:u6 lb lw M e M'):TB w0 M':=by
 cases h with
 | begin ph=>
  refine TB.sb ?_ (Sb.nh _ _ _ _);obtain⟨k,b,f,n,l,r,o,m⟩:=p;exact⟨k,b,f,by show 1 - M.sw.sense=0\/1 - M.sw.sense=1;omega,l,λz=>absurd z (show ¬ ("walk":Str)="rest" by decide),λz=>absurd z (show ¬ ("walk":Str)="give" by decide),m⟩
 | walk x g c ph y hc=>
  have a:Sb M { M with sw:={ M.sw with grey:=g,walks:=M.sw.walks+1 } }:=Sb.zR rfl rfl rfl rfl rfl rfl rfl;exact p.sb (a.trans (Sb.notes c.fl _))
 | look N ph y K I=>
  subst I;exact p.sb ((Sb.nh _ _ _ _).trans (Sb.zR rfl rfl rfl rfl rfl rfl rfl))
 | cut q E ph y F D A=>
  obtain⟨k,b,f,n,l,r,o,m⟩:=p;exact⟨k,b,f,n,l,λz=>absurd z (show ¬ ("give":Str)="rest" by decide),λ_ i c hc _=>Zk (M:=M) hc,m⟩
 | lost q E i x c v ph y F D hx A hc s=>
  obtain⟨k,b,f,n,l,r,o,m⟩:=p;exact⟨k,b,f,n,l,λz=>absurd z (show ¬ ("lost":Str)="rest" by decide),λz=>absurd z (show ¬ ("lost":Str)="give" by decide),m⟩
 | pass ph lt hp=>
  obtain⟨k,b,f,n,l,r,o,m⟩:=p;refine⟨k,b,f,n,l,r,λ_ i c hc s=>?_,m⟩;have h1:=o ph i c hc s;have h2:i≠M.sw.at':=λz=>s (hp c (by rw[<- z];exact hc));show M.sw.at'+1<=i/\i<M.sw.stop;omega
 | back c ph lt hc s=>
  obtain⟨k,b,f,n,l,r,o,m⟩:=p;have t:∀(u:Int) (w:Sw) (i:Int) (d:Ce),cellAt { M with used:=u,cells:=M.cells.set M.sw.at'.toNat none,sw:=w } i=some d->i≠M.sw.at'/\cellAt M i=some d:=λu w i d hd=>by
   obtain⟨H,h1⟩:=dm.mp hd;have h1:(M.cells.set M.sw.at'.toNat none)[i.toNat]? =some (some d):=h1;obtain⟨J,C⟩:=dm.mp hc
   by_cases z:M.sw.at'.toNat=i.toNat
   ·rw[z,List.getElem?_set_self (by rw[<- z];exact(dY C).1)]at h1;cases h1
   ·rw[List.getElem?_set_ne z]at h1;exact⟨λe=>z (by rw[e]),dm.mpr ⟨H,h1⟩⟩
  refine⟨λi j d e h1 h2 B=>k i j d e (t _ _ i d h1).2 (t _ _ j e h2).2 B,λi d h1=>b i d (t _ _ i d h1).2,f,n,λi d h1=>l i d (t _ _ i d h1).2,λz=>absurd (ph.symm.trans z) (by decide),λ_ i d h1 hp=>?_,m⟩;obtain⟨n1,n2⟩:=t _ _ i d h1;have h3:=o ph i d n2 hp;show M.sw.at'+1<=i/\i<M.sw.stop;omega
 | fin ph lt=>
  obtain⟨k,b,f,n,l,r,o,m⟩:=p;refine⟨k,b,f,n,l,λ_ i c hc=>?_,λz=>absurd z (show ¬ ("rest":Str)="give" by decide),m⟩;refine Decidable.byContradiction λs=>?_;have h1:=o ph i c hc s;omega
 | again ph=>exact p
theorem TB.new{room:Int}{hs:Qz}{w t:Int}:TB w (Zfc room hs w t):=by
 have e:∀i c,cellAt (Zfc room hs w t) i=some c->False:=λi c h=>nomatch wH h;exact⟨λi _ c _ h=>(e i c h).elim,λi c h=>(e i c h).elim,Int.le_refl _,.inl rfl,λi c h=>(e i c h).elim,λ_ i c h=>(e i c h).elim,λ_ i c h=>(e i c h).elim,rfl⟩
end
def jA(P:Int->Bool):Au->AD->AD
 | [],acc=>acc
 | none::l,acc=>jA P l acc
 | some b::l,acc=>if P b=true/\b∉acc then jA P l (acc++[b])else jA P l acc
section
variable {M:Wm}
theorem CJ{i:Int}{c:Ce}(h:cellAt M i=some c):gh M i=c.birth:=by unfold gh;rw[h];rfl
theorem xP(bu:∀i j c d,cellAt M i=some c->cellAt M j=some d->c.birth=d.birth->i=j){acc:AD}(b:∀i∈acc,∃c,cellAt M i=some c){i:Int}{c:Ce}(h:cellAt M i=some c):c.birth∈acc.map (gh M)↔i∈acc:=by
 constructor
 ·intro hm;obtain⟨j,a,e⟩:=List.mem_map.mp hm;obtain⟨d,hd⟩:=b j a;rw[CJ hd]at e;rw[bu i j c d h hd e.symm];exact a
 ·intro hm;rw[<- CJ h];exact List.mem_map_of_mem hm
theorem Ez(bu:∀i j c d,cellAt M i=some c->cellAt M j=some d->c.birth=d.birth->i=j){P:Int->Bool}(a:∀i c,cellAt M i=some c->P c.birth=oZ M i):∀(l:Au) (acc:AD),(∀i∈acc,∃c,cellAt M i=some c)->jA P (l.map (wW M)) (acc.map (gh M))=(ntP M l acc).map (gh M)
 | [],acc,_=>rfl
 | none::l,acc,h=>Ez bu a l acc h
 | some i::l,acc,h=>by
  cases hc:cellAt M i with
  | none=>
   have e:wW M (some i)=none:=by show(cellAt M i).map _=_;rw[hc];rfl
   have z:oZ M i=false:=by unfold oZ;rw[hc]
   rw[List.map_cons,e];unfold ntP;rw[if_neg (by rw[z];simp)];exact Ez bu a l acc h
  | some c=>
   have e:wW M (some i)=some c.birth:=by show(cellAt M i).map _=_;rw[hc];rfl
   rw[List.map_cons,e];unfold ntP jA;rw[a i c hc]
   by_cases z:oZ M i=true/\i∉acc
   ·rw[if_pos z,if_pos ⟨z.1,λy=>z.2 ((xP bu h hc).mp y)⟩];have b:acc.map (gh M)++[c.birth]=(acc++[i]).map (gh M):=by rw[List.map_append,List.map_singleton,CJ hc]
    rw[b];refine Ez bu a l (acc++[i]) λx hx=>?_;rcases List.mem_append.mp hx with hx | hx
    ·exact h x hx
    ·rw[List.mem_singleton.mp hx];exact⟨c,hc⟩
   ·rw[if_neg z,if_neg (λy=>z ⟨y.1,λf=>y.2 ((xP bu h hc).mpr f)⟩)];exact Ez bu a l acc h
theorem xx(P:Int->Bool):∀(l:Au) (acc:AD),(jA (λ_=>true) l acc).filter P=jA P l (acc.filter P)
 | [],acc=>rfl
 | none::l,acc=>xx P l acc
 | some b::l,acc=>by
  unfold jA
  by_cases h:b∈acc
  ·rw[if_neg (λy=>y.2 h),if_neg (λy=>y.2 (List.mem_filter.mpr ⟨h,y.1⟩))];exact xx P l acc
  ·rw[if_pos ⟨rfl,h⟩,xx P l (acc++[b]),List.filter_append];cases hb:P b with
   | true=>
    rw[if_pos ⟨rfl,λy=>h (List.mem_filter.mp y).1⟩];have:[b].filter P=[b]:=by simp[hb]
    rw[this]
   | false=>
    rw[if_neg (λy=>by cases y.1)];have:[b].filter P=[]:=by simp[hb]
    rw[this,List.append_nil]
def Ui(a:Int):List Au->Nat->Au
 | [],_=>[]
 | m::l,k=>if a / 2 ^ k % 2=1 then m++Ui a l (k+1)else Ui a l (k+1)
theorem Zqi(a:Int)(f:AA->AA):∀(l:List (Str×Au)) (k:Nat),Ui a (l.map λm=>m.2.map f) k=(nhL a l k).map f
 | [],_=>rfl
 | m::l,k=>by
  rw[List.map_cons];unfold Ui nhL;split
  ·rw[List.map_append,Zqi a f l (k+1)]
  ·exact Zqi a f l (k+1)
theorem zO(P:Int->Bool):∀(a b:Au) (acc:AD),jA P (a++b) acc=jA P b (jA P a acc)
 | [],_,_=>rfl
 | none::a,b,acc=>zO P a b acc
 | some x::a,b,acc=>by
  show(if _ then jA P (a++b) _ else jA P (a++b) _)=jA P b (if _ then _ else _);split
  ·exact zO P a b _
  ·exact zO P a b _
end
def Zm8(K:aB):Sp:=λvs H Q E=>∃a,vs=[.ref a]/\∃ns:AD,cB K H a (ns.map V.int)/\ns.length<=63/\∀H',Q (.bl true) H'
def RT(X:Cs)(rf:Rf->AH):Sp:=λvs H Q E=>∃wo dd,vs=[.ref wo,.ref dd]/\∃T s A M d,WT H T/\s≠0/\WJ X H T s A M/\A.wo=wo/\H dd=some (.tup (dV d))/\okD M d/\M.cells.length<=900/\(M.sw.phase="walk"->M.sw.grey.length<=10000)/\(0<=M.tells/\M.tells<4)/\M.names.length<=1000/\
 (∀r,zJ M d=.error r->∀H',aW H H'->Q .non H')/\
 (∀e M',zJ M d=.ok (e,M')->∀H' T' b a,jf s H H' T T'->WJ X H' T' s b M'->b.wo=wo->EvN H H' a e->Q (.ref a) H')
section
theorem Zde{wo dd CE g f c:AH}(t:rf .empty=CE)(y:rf .ud=g)(x:rf .full=f)(u:rf .Uh=c)(q:∃T s A M d,WT H T/\s≠0/\WJ X H T s A M/\A.wo=wo/\H dd=some (.tup (dV d))/\okD M d/\M.cells.length<=900/\(M.sw.phase="walk"->M.sw.grey.length<=10000)/\(0<=M.tells/\M.tells<4)/\M.names.length<=1000/\
 (∀r,zJ M d=.error r->∀H',aW H H'->Q .non H')/\
 (∀e M',zJ M d=.ok (e,M')->∀H' T' b a,jf s H H' T T'->WJ X H' T' s b M'->b.wo=wo->EvN H H' a e->Q (.ref a) H')):
  Bt CE f g c (ZL6 X rf) ⟨n,Q,bk,ct⟩ [some (.ref wo),some (.ref dd),none] H:=by
 obtain⟨T,s,A,M,d,w,v,j,rfl,h,od,hc,k,tl,nm,h1,h2⟩:=q;unfold Bt;walk_at"e";refine⟨_,dd,rfl,T,s,A,M,d,trivial,w,v,j,rfl,h,od,hc,k,tl,nm,λr p H' sm=>?_,λe M' l H' T' b a st m i o=>?_⟩
 ·refine⟨?_,?_⟩
  ·cases r
   ·exact .inr (.inr (.inl (by rw[x])))
   ·exact .inl (by rw[t])
   ·exact .inr (.inl (by rw[y]))
   ·exact .inr (.inr (.inr (by rw[u])))
  ·walk_at"e";exact h1 r p H' sm
 ·walk_at"e";exact h2 e M' l H' T' b a st m i o
end
def RwO(H:Hp)(l:AH)(a:List Au):Prop:=∃ls:AE,H l=some (.lst (ls.map V.ref))/\ls.length=a.length/\∀(j:Nat) r x,ls[j]? =some r->a[j]? =some x->H r=some (.lst (x.map oV))
theorem RwO.same{H H':Hp}{l:AH}{a:List Au}(s:aW H H')(h:RwO H l a):RwO H' l a:=by
 obtain⟨ls,h1,h2,h3⟩:=h;exact⟨ls,s _ _ h1,h2,λj r x b c=>s _ _ (h3 j r x b c)⟩
def allB:Int->Bool:=λ_=>true
def Z11q (H:Hp)(l:AH)(c:Int)(Q:VK):Prop:=∃b,RwO H l b/\b.length<=30/\(∀x∈b,x.length<=100)/\
 ∀a H',aW H H'->H a=none->H' a=some (.lst ((jA allB (Ui c b 0) []).map V.int))->Q (.ref a) H'
def Lq(K:aB):Sp:=λvs H Q E=>∃l a,vs=[.ref l,.int a]/\Z11q H l a Q
theorem Zfa(b:Int)(m:Au):∀(l:List Au) (k:Nat),Ui b (l++[m]) k=Ui b l k++if b / 2 ^ (k+l.length) % 2=1 then m else []
 | [],k=>by
  show(if b / 2 ^ k % 2=1 then m++[]else [])=_;rw[List.append_nil];rfl
 | a::l,k=>by
  have e:k+(a::l).length=k+1+l.length:=by rw[List.length_cons];omega
  rw[e,List.cons_append];unfold Ui;rw[Zfa b m l (k+1)];split
  ·rw[List.append_assoc]
  ·rfl
theorem sZ(P:Int->Bool):∀(l:Au) (acc:AD),(jA P l acc).length<=acc.length+l.length
 | [],acc=>Nat.le_refl _
 | none::l,acc=>by have:=sZ P l acc;rw[List.length_cons];show(jA P l acc).length<=_;omega
 | some b::l,acc=>by
  unfold jA;rw[List.length_cons];split
  ·have:=sZ P l (acc++[b]);rw[List.length_append,List.length_singleton]at this;omega
  ·have:=sZ P l acc;omega
theorem Rq(a:Int)(B:Nat):∀(l:List Au) (k:Nat),(∀x∈l,x.length<=B)->(Ui a l k).length<=l.length * B
 | [],_,_=>Nat.zero_le _
 | m::l,k,h=>by
  have h1:=Rq a B l (k+1) λx hx=>h x (by simp[hx]);have h2:=h m (by simp);rw[List.length_cons,Nat.succ_mul];unfold Ui;split
  ·rw[List.length_append];omega
  ·omega
theorem Zim(P:Int->Bool)(a:Au)(x:AA)(acc:AD):jA P (a++[x]) acc=jA P [x] (jA P a acc):=zO P a [x] acc
theorem Zlq{b:Int}{l:AD}:inV (.int b) (l.map V.int)=decide (b∈l):=Zfx
section
theorem XX{l:AH}{d:Int}(q:Z11q H l d Q):yI K ⟨n,Q,bk,ct⟩ [some (.ref l),some (.int d),none,none,none] H:=by
 obtain⟨e,⟨ls,o1,hl,o2⟩,h30,h100,q⟩:=q;unfold yI;walk_at"e";refine⟨aR (by simp),λa I=>?_⟩;generalize O:upd H a _=H1;obtain⟨M,B⟩:=nwO I O;have B:H1 a=some (.lst (([]:AD).map V.int)):=B;walk_at"e";refine jC (cB.of (M _ _ o1)) ?_;rw[aY,hl];walk_at"e";refine⟨_,rfl,by omega,by omega,?_⟩;refine forR (λk h p=>∃J m,h=[some (.ref l),some (.int d),some (.ref a),J,m]/\aW H p/\p a=some (.lst ((jA allB (Ui d (e.take k) 0) []).map V.int))) ⟨_,_,rfl,M,B⟩ ?_ ?_
 ·rintro k h p hk ⟨J,m,rfl,u,s⟩;have hk:k<e.length:=by omega
  obtain⟨x,hx⟩:∃x,e[k]? =some x:=⟨_,bM hk⟩;obtain⟨r,hr⟩:∃r,ls[k]? =some r:=⟨_,bM (by omega)⟩;have D:e.take (k+1)=e.take k++[x]:=by rw[List.take_add_one,hx];rfl
  have t:(e.take k).length=k:=by rw[List.length_take];omega
  have or:=o2 k r x hr hx;have R:=h100 x (List.mem_of_getElem? hx);have C:=Rq d 100 (e.take k) 0 λy hy=>h100 y (List.mem_of_mem_take hy);rw[t]at C;generalize g:jA allB (Ui d (e.take k) 0) []=acc at s;have S:acc.length<=k * 100:=by
   rw[<- g];have:=sZ allB (Ui d (e.take k) 0) [];rw[List.length_nil]at this;omega
  have N:((0:Int)+(k:Int)).toNat=k:=by omega
  walk_at"e";refine je (cB.of (u _ _ o1)) (v:=.ref r) ?_ ?_
  ·rw[Int.zero_add];exact iu (by rw[cF,hr];rfl)
  refine⟨r,rfl,⟨_,cB.of (u _ _ or)⟩,forL (x.map oV) (λi h w=>∃m,h=[some (.ref l),some (.int d),some (.ref a),some (.int ((0:Int)+k)),m]/\aW H w/\w a=some (.lst ((jA allB (if d / 2 ^ k % 2=1 then x.take i else []) acc).map V.int))) ⟨_,rfl,u,?_⟩ (λ_ _ _ _ ⟨_,_,z,_⟩=>cB.of (z _ _ or)) ?_ ?_⟩
  ·rw[List.take_zero];split<;>exact s
  ·rintro i y h w hy ⟨F,rfl,j,f⟩;rw[cF]at hy;obtain⟨b,hb,rfl⟩:=Option.map_eq_some_iff.mp hy;have A:x.take (i+1)=x.take i++[b]:=by rw[List.take_add_one,hb];rfl
   have T:i<x.length:=(dY hb).1;walk_at"e";rw[N,Zkw];refine uY (λz=>?_) (λz=>?_)
   ·rw[if_pos z]at f;rw[if_pos z,A,Zim];generalize L:jA allB (x.take i) acc=ac2 at f;have P:ac2.length<=k * 100+100:=by
     rw[<- L];have h1:=sZ allB (x.take i) acc;rw[List.length_take]at h1;omega
    cases b with
    | none=>
     rw[show oV none=V.non from rfl];walk_at"e";exact⟨_,rfl,j,f⟩
    | some b=>
     rw[show oV (some b)=V.int b from rfl];walk_at"e";refine⟨a,_,rfl,.inl (cB.of f),rfl,tR _,?_⟩;rw[Zlq]
     by_cases hm:b∈ac2
     ·have E:jA allB [some b] ac2=ac2:=by show(if allB b=true/\b∉ac2 then _ else _)=_;rw[if_neg (λy=>y.2 hm)];rfl
      rw[show(if true=true then !decide (b∈ac2)else decide (b∈ac2))=false from by simp[hm],E];walk_at"e";exact⟨_,rfl,j,f⟩
     ·have E:jA allB [some b] ac2=ac2++[b]:=by show(if allB b=true/\b∉ac2 then _ else _)=_;rw[if_pos ⟨rfl,hm⟩];rfl
      rw[show(if true=true then !decide (b∈ac2)else decide (b∈ac2))=true from by simp[hm],E];walk_at"e";refine⟨.inl ⟨rfl,_,cB.of f⟩,?_⟩;walk_at"e";refine⟨a,_,_,rfl,rfl,f,?_,?_⟩
      ·rw[aY];exact Nat.lt_of_le_of_lt (show _<=4000 by omega) (by decide)
      rw[show ac2.map V.int++[V.int b]=(ac2++[b]).map V.int from by rw[List.map_append];rfl];walk_at"e";exact⟨_,rfl,λc o hc=>by rw[aC (aD hc I)];exact j _ _ hc,aq⟩
   ·rw[if_neg z]at f;rw[if_neg z];walk_at"e";exact⟨_,rfl,j,f⟩
  ·rintro h w ⟨F,rfl,j,f⟩;rw[aY,List.take_length]at f;have:jA allB (Ui d (e.take (k+1)) 0) []=jA allB (if d / 2 ^ k % 2=1 then x else []) acc:=by
    rw[D,Zfa,zO,g,Nat.zero_add,t]
   refine⟨_,_,rfl,j,?_⟩;rw[this];exact f
 ·rintro h p ⟨J,m,rfl,u,s⟩;rw[List.take_of_length_le (by omega)]at s;walk_at"e";exact q a p u I s
end
def MkO(H:Hp)(d:AH)(f:Int->Option V)(k:Nat):Prop:=∃a:List (L2.Key×V),H d=some (.dK a)/\a.length<=k/\∀b:Int,oN a (Sum.inl b)=f b
theorem MkO.get{H:Hp}{d:AH}{f:Int->Option V}{k:Nat}(h:MkO H d f k){b:Int}{v:V}(e:f b=some v):Px H d (.int b) (some v):=by
 obtain⟨a,h1,_,h2⟩:=h;have:=Px.k (k:=Sum.inl b) h1;rw[h2 b,e]at this;exact this
theorem MkO.put{H:Hp}{d:AH}{f:Int->Option V}{k:Nat}(h:MkO H d f k)(hk:k<=100000)(b:Int)(v:V):∃H',Yd H d (.int b) v H'/\MkO H' d (λx=>if x=b then some v else f x) (k+1)/\∃o,H'=upd H d o:=by
 obtain⟨a,h1,h3,h2⟩:=h;refine⟨_,Yd.k (k:=Sum.inl b) (v:=v) h1 (Nat.lt_of_le_of_lt h3 (Nat.lt_of_le_of_lt hk (by decide))),⟨_,aq,?_,λx=>?_⟩,_,rfl⟩
 ·have:=Gf a (Sum.inl b) v;omega
 ·rw[Zoq,h2 x];dsimp only
  by_cases e:x=b
  ·rw[if_pos e,if_pos (by rw[e])]
  ·rw[if_neg e,if_neg (λz=>e (Sum.inl.inj z))]
theorem MkO.same{H H':Hp}{d:AH}{f:Int->Option V}{k:Nat}(s:aW H H')(h:MkO H d f k):MkO H' d f k:=by
 obtain⟨a,h1,h3,h2⟩:=h;exact⟨a,s _ _ h1,h3,h2⟩
def TpO(H:Hp)(l:AH)(a:List (Int×Int)):Prop:=∃ls:AE,H l=some (.lst (ls.map V.ref))/\ls.length=a.length/\∀(j:Nat) r x,ls[j]? =some r->a[j]? =some x->∃xs,H r=some (.tup (.int x.1::.int x.2::xs))
def dictOf(a:List (Int×Int))(b:Int):Option V:=(a.reverse.find? λx=>decide (x.2=b)).map λx=>V.int x.1
theorem Zgk(a:List (Int×Int))(x:Int×Int)(b:Int):dictOf (a++[x]) b=if b=x.2 then some (.int x.1)else dictOf a b:=by
 unfold dictOf;rw[List.reverse_append,List.reverse_singleton,List.singleton_append,List.find?_cons]
 by_cases e:b=x.2
 ·rw[if_pos e,decide_eq_true e.symm];rfl
 ·rw[if_neg e,decide_eq_false (λz=>e z.symm)]
theorem ZL3{x:V}{xs:List V}:XM (x::xs) 0=some x:=iu (show(x::xs)[0]? =some x from rfl)
theorem ZL2{x y:V}{xs:List V}:XM (x::y::xs) 1=some y:=iu (show(x::y::xs)[1]? =some y from rfl)
theorem Wh(ps:AD):(List.range ps.length).filterMap (λ(i:Nat)=>(ps[i]?).map V.int)=ps.map V.int:=by
 have e:(λ(i:Nat)=>(ps[i]?).map V.int)=λ(i:Nat)=>ps[i]?.bind (some ∘ V.int):=by funext i;cases ps[i]?<;>rfl
 rw[e,uZ,List.filterMap_eq_map]
def Z12q (H:Hp)(l:AH)(m:AH)(Q:VK):Prop:=∃(c:List (Int×Int)) (bs ps:AD),TpO H l c/\c.length<=1000/\H m=some (.lst (bs.map V.int))/\bs.length<=4000/\ps.length=bs.length/\(∀(j:Nat) b p,bs[j]? =some b->ps[j]? =some p->dictOf c b=some (.int p))/\
 ∀a H',aW H H'->H a=none->H' a=some (.lst (ps.map V.int))->Q (.ref a) H'
def pJ(K:aB):Sp:=λvs H Q E=>∃l m,vs=[.ref l,.ref m]/\Z12q H l m Q
section
theorem Vm{l m:AH}(q:Z12q H l m Q):vW K ⟨n,Q,bk,ct⟩ [some (.ref l),some (.ref m),none,none] H:=by
 obtain⟨e,bs,C,⟨ls,o1,hl,o2⟩,hb,om,P,t,hd,q⟩:=q;unfold vW;walk_at"e";intro d nd;have v:=aK nd (.dK []);have B:MkO (upd H d (.dK [])) d (dictOf []) 0:=⟨[],aq,Nat.le_refl _,λb=>rfl⟩;generalize upd H d (.dK [])=R at v B ⊢;walk_at"e";refine⟨l,rfl,⟨_,cB.of (v _ _ o1)⟩,forL (ls.map V.ref) (λi A k=>∃w,A=[some (.ref l),some (.ref m),some (.ref d),w]/\aW H k/\MkO k d (dictOf (e.take i)) i) ⟨_,rfl,v,B⟩ (λ_ _ _ _ ⟨_,_,z,_⟩=>cB.of (z _ _ o1)) ?_ ?_⟩
 ·rintro i y A k hy ⟨w,rfl,g,j⟩;rw[cF]at hy;obtain⟨r,hr,rfl⟩:=Option.map_eq_some_iff.mp hy;have I:i<ls.length:=(dY hr).1;obtain⟨x,hx⟩:∃x,e[i]? =some x:=⟨_,bM (by omega)⟩;have u:e.take (i+1)=e.take i++[x]:=by rw[List.take_add_one,hx];rfl
  obtain⟨S,f⟩:=o2 i r x hr hx;have f:=g _ _ f;walk_at"e";refine⟨r,_,0,_,rfl,rfl,gw.of f,ZL3,?_⟩;walk_at"e";refine⟨r,_,1,_,rfl,rfl,gw.of f,ZL2,?_⟩;obtain⟨N,M,L,o,F⟩:=j.put (by omega) x.2 (.int x.1);refine⟨d,N,rfl,M,?_⟩;refine⟨_,rfl,λc T hc=>?_,?_⟩
  ·rw[F,aC (aD hc nd)];exact g _ _ hc
  ·rw[u];obtain⟨s,J,E,O⟩:=L;exact⟨s,J,E,λb=>by rw[O b,Zgk]⟩
 ·rintro A k ⟨w,rfl,g,j⟩;rw[aY,List.take_of_length_le (by omega)]at j;walk_at"e";refine Ii ?_;walk_at"e";refine⟨_,rfl,⟨_,cB.of (g _ _ om)⟩,?_⟩;refine KD (cB.of (g _ _ om)) (λi=>(C[i]?).map V.int) (by rw[aY];omega) (λi x hx=>?_) ?_
  ·rw[cF]at hx;obtain⟨b,h,rfl⟩:=Option.map_eq_some_iff.mp hx;have I:i<bs.length:=(dY h).1;obtain⟨p,hp⟩:∃p,C[i]? =some p:=⟨_,bM (by omega)⟩;refine⟨λq hq=>?_,λy q hy hq=>?_⟩
   ·rw[hp]at hq;exact Cu hq
   ·rw[hp]at hy;cases hy;walk_at"c";walk_at"e";exact⟨d,_,rfl,j.get (hd i b p h hp),hq⟩
  ·intro a D;rw[aY,<- t,Wh];exact q a _ (g.trans (aK D _)) (g.free D) aq
end
def stL(S:Sw):AD:=[S.sense,S.turn,S.looked,S.walks,S.looks,S.passes]
def rP(X:Cs):Sp:=λvs H Q E=>∃sw,vs=[.ref sw]/\∃T s A M,WJ X H T s A M/\A.sw=sw/\M.sw.grey.length<=10000/\∀a H',aW H H'->H a=none->H' a=some (.lst ((stL M.sw).map V.int))->Q (.ref a) H'
structure Tc where
 p:Int
 b:Int
 bulk:Int
 load:Int
 fs:Au
 tone:Str
def Tc1(H:Hp)(r f:AH)(x:Tc):Prop:=H r=some (.tup [.int x.p,.int x.b,.int x.bulk,.int x.load,.ref f,.str x.tone])/\H f=some (.lst (x.fs.map oV))
def CtO(H:Hp)(l:AH)(a:List Tc):Prop:=∃ls:AE,H l=some (.lst (ls.map V.ref))/\ls.length=a.length/\∀(j:Nat) r x,ls[j]? =some r->a[j]? =some x->∃f,Tc1 H r f x
theorem CtO.same{H H':Hp}{l:AH}{a:List Tc}(s:aW H H')(h:CtO H l a):CtO H' l a:=by
 obtain⟨ls,h1,h2,h3⟩:=h;refine⟨ls,s _ _ h1,h2,λj r x c d=>?_⟩;obtain⟨f,z1,b⟩:=h3 j r x c d;exact⟨f,s _ _ z1,s _ _ b⟩
def Z13q (H:Hp)(g:AH)(l:AH)(d:AH)(Q:VK):Prop:=∃(a e:List Tc) (f:Int->Option V) (k:Nat),CtO H g e/\CtO H l a/\MkO H d f k/\e.length=a.length/\a.length<=1000/\(∀(j:Nat) x c,a[j]? =some x->e[j]? =some c->c.p=x.p/\c.b=x.b/\c.bulk=x.bulk/\c.load=x.load/\c.fs=x.fs/\f x.b=some (.str c.tone))/\
 ∀H',aW H H'->Q (.bl true) H'
def pK(K:aB):Sp:=λvs H Q E=>∃a l d,vs=[.ref a,.ref l,.ref d]/\Z13q H a l d Q
theorem Zlt(l:Au):(l.map oV).all qJ=true:=by
 rw[List.all_eq_true];intro v hv;obtain⟨x,_,rfl⟩:=List.mem_map.mp hv;exact Zvu x
section
theorem XN{sw:AH}(c:qm K X)(q:∃T s A M,WJ X H T s A M/\A.sw=sw/\M.sw.grey.length<=10000/\∀a H',aW H H'->H a=none->H' a=some (.lst ((stL M.sw).map V.int))->Q (.ref a) H'):yF K wI ⟨n,Q,bk,ct⟩ [some (.ref sw),none,none] H:=by
 obtain⟨T,s,A,M,j,rfl,I,q⟩:=q;obtain⟨J,os⟩:=j.js.os;have og:=j.js.og;unfold yF;walk_at"e";refine aH os c.cS c.n1 nU ?_;walk_at"e";refine aH os c.cS c.n5 qM ?_;walk_at"e";refine aH os c.cS c.n4 gn ?_;walk_at"e";refine⟨aR (by simp),λB n1=>?_⟩;generalize d:upd H B _=H1;obtain⟨o,D⟩:=nwO n1 d;have g:=o _ _ os;walk_at"e";refine aH g c.cS c.n8 uI ?_;walk_at"e";refine aH g c.cS c.n9 p7 ?_;walk_at"e";refine aH g c.cS c.n10 sr ?_;walk_at"e";refine⟨aR (by simp),λu n2=>?_⟩;generalize d:upd H1 u _=H2;obtain⟨m,C⟩:=nwO n2 d;have p:=m _ _ D;walk_at"e";refine⟨B,u,_,_,rfl,rfl,p,C,aR (by simp),λa n3=>?_⟩;rw[show([V.int M.sw.sense,.int M.sw.turn,.int M.sw.looked]++[V.int M.sw.walks,.int M.sw.looks,.int M.sw.passes])=(stL M.sw).map V.int from rfl];generalize d:upd H2 a _=H3;obtain⟨E,z⟩:=nwO n3 d;have f:=o.trans (m.trans E);have F:H a=none:=o.free (m.free n3);walk_at"e";refine aH (f _ _ os) c.cS c.n3 lC ?_;walk_at"e";refine⟨a,A.gr,_,_,rfl,rfl,z,f _ _ og,by rw[aY,aY];exact aR (by show 6+_<=_;omega),λb n4=>?_⟩;rw[<- List.map_append];generalize d:upd H3 b _=H4;obtain⟨w,t⟩:=nwO n4 d;have l:=w _ _ z;have i:=f.trans w;refine⟨b,rfl,⟨_,cB.of t⟩,forL ((stL M.sw++M.sw.grey).map V.int) (λ_ r h=>∃v,r=[some (.ref A.sw),some (.ref a),v]/\h=H4) ⟨_,rfl,rfl⟩ (λ_ _ _ _ ⟨_,_,e⟩=>by rw[e];exact cB.of t) ?_ ?_⟩
 ·rintro k x r h hk ⟨v,rfl,rfl⟩;obtain⟨y,_,rfl⟩:=List.mem_map.mp (List.mem_of_getElem? hk);walk_at"e";refine⟨_,rfl,?_⟩;walk_at"e";exact⟨_,rfl,rfl⟩
 ·rintro r h ⟨v,rfl,rfl⟩;walk_at"e";exact q a h i F l
theorem Vo{C l d:AH}(q:Z13q H C l d Q):vY K ⟨n,Q,bk,ct⟩ [some (.ref C),some (.ref l),some (.ref d),none] H:=by
 obtain⟨w,JX,f,kk,⟨s,o,O,M⟩,⟨ls,o1,hl,o2⟩,om,E,hb,hx,q⟩:=q;unfold vY;walk_at"e";refine Qw o ?_;walk_at"e";refine jC (cB.of o) ?_;walk_at"e";refine jC (cB.of o1) ?_;rw[aY,aY];walk_at"e";refine zX (λz=>absurd (by rw[O,hl,E]) z) (λ_=>?_);walk_at"e";refine jC (cB.of o1) ?_;rw[aY];walk_at"e";refine⟨_,rfl,by omega,by omega,?_⟩;refine forR (λk R t=>∃P,R=[some (.ref C),some (.ref l),some (.ref d),P]/\aW H t) ⟨_,rfl,λ_ _ h=>h⟩ ?_ ?_
 ·rintro k R t hk ⟨P,rfl,g⟩;have hk:k<ls.length:=by omega
  obtain⟨r,hr⟩:∃r,ls[k]? =some r:=⟨_,bM hk⟩;obtain⟨A,y⟩:∃r,s[k]? =some r:=⟨_,bM (by omega)⟩;obtain⟨x,ex⟩:∃x,w[k]? =some x:=⟨_,bM (by omega)⟩;obtain⟨L,u⟩:∃x,JX[k]? =some x:=⟨_,bM (by omega)⟩;obtain⟨F,t1,t2⟩:=o2 k r x hr ex;obtain⟨c,e,B⟩:=M k A L y u;obtain⟨e1,e2,e3,e4,e5,e6⟩:=hx k x L ex u;rw[e1,e2,e3,e4]at e;rw[e5]at B;have S:∀{v:Hp},aW H v->cB K v l (ls.map V.ref):=λz=>cB.of (z _ _ o1);have j:∀{v:Hp},aW H v->cB K v C (s.map V.ref):=λz=>cB.of (z _ _ o);have W:XM (ls.map V.ref) ((0:Int)+(k:Int))=some (.ref r):=by rw[Int.zero_add];exact iu (by rw[cF,hr];rfl)
  have i:XM (s.map V.ref) ((0:Int)+(k:Int))=some (.ref A):=by rw[Int.zero_add];exact iu (by rw[cF,y];rfl)
  walk_at"e";refine je (j g) i ?_;walk_at"e";refine Cv (g _ _ e) ?_;walk_at"e";refine je (j g) i ?_;walk_at"e";refine⟨A,_,rfl,.inr (gw.of (g _ _ e)),?_⟩;walk_at"e";refine zX (λz=>absurd rfl z) (λ_=>?_);walk_at"e";refine je (j g) i ?_;walk_at"e";refine⟨A,_,rfl,gw.of (g _ _ e),(show ¬ (HT.rW 6 0 none=0/\HT.rW 6 6 (some 5)=6) by decide),λJ N=>?_⟩;have X:=aK N (.tup [.int x.p,.int x.b,.int x.bulk,.int x.load,.ref c]);have U:upd t J (.tup [.int x.p,.int x.b,.int x.bulk,.int x.load,.ref c]) J=some (.tup [.int x.p,.int x.b,.int x.bulk,.int x.load,.ref c]):=aq;rw[show XH [V.int x.p,.int x.b,.int x.bulk,.int x.load,.ref c,.str L.tone] none (some 5)=[.int x.p,.int x.b,.int x.bulk,.int x.load,.ref c]from rfl];generalize upd t J (.tup [.int x.p,.int x.b,.int x.bulk,.int x.load,.ref c])=H3 at X U ⊢;have m:=g.trans X;walk_at"e";refine je (S m) W ?_;walk_at"e";refine⟨r,_,rfl,gw.of (m _ _ t1),(show ¬ (HT.rW 6 0 none=0/\HT.rW 6 6 (some 5)=6) by decide),λp2 I=>?_⟩;rw[show XH [V.int x.p,.int x.b,.int x.bulk,.int x.load,.ref F,.str x.tone] none (some 5)=[.int x.p,.int x.b,.int x.bulk,.int x.load,.ref F]from rfl];generalize Z:upd H3 p2 _=H4;obtain⟨T,Y⟩:=nwO I Z;have D:=T _ _ U;have a:=m.trans T;refine Zrm (.inr ⟨gw.of D,gw.of Y⟩) (.cons (.inl ⟨rfl,rfl⟩) (.cons (.inl ⟨rfl,rfl⟩) (.cons (.inl ⟨rfl,rfl⟩) (.cons (.inl ⟨rfl,rfl⟩) (.cons (.inr ⟨c,F,rfl,rfl,.inr ⟨_,_,.inl ⟨cB.of (a _ _ B),cB.of (a _ _ t2)⟩,Ld (Zlt _)⟩⟩) .nil))))) ?_;walk_at"e";refine je (j a) i ?_;walk_at"e";refine⟨A,_,5,_,rfl,rfl,gw.of (a _ _ e),rfl,?_⟩;walk_at"e";refine je (S a) W ?_;walk_at"e";refine⟨r,_,1,_,rfl,rfl,gw.of (a _ _ t1),rfl,?_⟩;refine⟨d,_,rfl,(om.same a).get e6,?_⟩;walk_at"e";refine zX (λz=>absurd rfl z) (λ_=>?_);walk_at"e";exact⟨_,rfl,a⟩
 ·rintro R t ⟨P,rfl,g⟩;walk_at"e";exact q t g
end
def Ze1(M:Wm)(t:Int×Ce):Tc:=⟨t.1,t.2.birth,t.2.bulk,t.2.load,t.2.fl.map (wW M),Dd M t.1 t.2⟩
def wZ(M:Wm):List Tc:=(jK M).map (Ze1 M)
section
variable {M M':Wm}{w0:Int}
theorem uy{t:Int×Ce}(h:t∈jK M):cellAt M t.1=some t.2:=by
 obtain⟨k,hk,e⟩:=List.getElem_of_mem h;obtain⟨a,h1⟩:=Zl7 (M:=M) (j:=k) (t:=t) (by rw[bM hk,e]);exact dm.mpr ⟨a,h1⟩
theorem Gp{i:Int}{c:Ce}(h:cellAt M i=some c):(i,c)∈jK M:=by
 obtain⟨a,h1⟩:=dm.mp h;unfold jK;refine List.mem_filterMap.mpr ⟨i.toNat,List.mem_range.mpr (dY h1).1,?_⟩;rw[h1];show some (((i.toNat:Nat):Int),c)=some (i,c);rw[show((i.toNat:Nat):Int)=i from by omega]
theorem Zot{g:Int->Ce->Ce}(hl:M'.cells.length=M.cells.length)(h:∀i,cellAt M' i=(cellAt M i).map (g i)):jK M'=(jK M).map λt=>(t.1,g t.1 t.2):=by
 unfold jK;rw[hl,List.map_filterMap];refine K5 λi _=>?_;have a:(0:Int)<=(i:Nat):=by omega
 have h1:=h (i:Nat);unfold cellAt at h1;rw[if_pos a,if_pos a,Int.toNat_natCast]at h1;rw[h1];cases (M.cells[i]?).join<;>rfl
theorem Zm6{g:Int->Ce->Ce}(h:∀i,cellAt M' i=(cellAt M i).map (g i))(hb:∀i c,(g i c).birth=c.birth):wW M'=wW M:=by
 funext x
 cases x with
 | none=>rfl
 | some i=>
  show(cellAt M' i).map _=(cellAt M i).map _;rw[h i];cases cellAt M i with
  | none=>rfl
  | some c=>exact congrArg some (hb i c)
def wY(S:Int)(acc:AD)(i:Int)(c:Ce):Ce:=if i∈acc then { c with tone:=S }else c
theorem Zx(S:Int)(acc:AD)(i:Int)(c:Ce):(wY S acc i c).birth=c.birth:=by unfold wY;split<;>rfl
theorem Zos(S:Int)(acc:AD)(i:Int)(c:Ce):(wY S acc i c).fl=c.fl:=by unfold wY;split<;>rfl
theorem Zhe(S:Int)(acc:AD)(i:Int)(c:Ce):(wY S acc i c).bulk=c.bulk:=by unfold wY;split<;>rfl
theorem Zhd(S:Int)(acc:AD)(i:Int)(c:Ce):(wY S acc i c).load=c.load:=by unfold wY;split<;>rfl
theorem NL.map{acc:AD}(nl:NL M M' acc)(i:Int):cellAt M' i=(cellAt M i).map (wY M.sw.sense acc i):=by
 rw[nl.at_ i];unfold wY;split
 ·rfl
 ·cases cellAt M i<;>rfl
theorem NL.len{acc:AD}(nl:NL M M' acc):M'.cells.length=M.cells.length:=by
 have:=congrArg List.length nl.nt.ce;rw[aY,aY]at this;exact this
theorem NL.told{acc:AD}(nl:NL M M' acc):wZ M'=(jK M).map λt=>{ Ze1 M t with tone:=Dd M' t.1 (wY M.sw.sense acc t.1 t.2) }:=by
 unfold wZ;rw[Zot nl.len nl.map,List.map_map];refine List.map_congr_left λt _=>?_;show Ze1 M' (t.1,wY M.sw.sense acc t.1 t.2)=_;unfold Ze1;dsimp only;rw[Zx,Zos,Zhe,Zhd,Zm6 nl.map (Zx _ _)]
theorem Zgj:∀(a:List (Int×Int)),(∀x∈a,∀y∈a,x.2=y.2->x.1=y.1)->∀{p b:Int},(p,b)∈a->dictOf a b=some (.int p):=by
 intro a hu p b hm;unfold dictOf;cases c:a.reverse.find? λ(x:Int×Int)=>decide (x.2=b)with
 | none=>
  have:=List.find?_eq_none.mp c (p,b) (List.mem_reverse.mpr hm);exact absurd (decide_eq_true rfl) this
 | some x=>
  have h1:x.2=b:=of_decide_eq_true (List.find?_some (p:=λ(x:Int×Int)=>decide (x.2=b)) c);have h2:=List.mem_reverse.mp (List.mem_of_find?_eq_some c);have h3:=hu x h2 (p,b) hm h1;show some (V.int x.1)=_;rw[h3]
theorem TB.dict(p:TB w0 M){i:Int}{c:Ce}(h:cellAt M i=some c):dictOf ((jK M).map λt=>(t.1,t.2.birth)) c.birth=some (.int i):=by
 refine Zgj _ (λx hx y hy e=>?_) (List.mem_map.mpr ⟨(i,c),Gp h,rfl⟩);obtain⟨t,a,rfl⟩:=List.mem_map.mp hx;obtain⟨u,hu,rfl⟩:=List.mem_map.mp hy;exact p.bu t.1 u.1 t.2 u.2 (uy a) (uy hu) e
end
def CtF(H0 H:Hp)(l:AH)(a:List Tc):Prop:=∃ls:AE,H l=some (.lst (ls.map V.ref))/\ls.length=a.length/\(∀(j:Nat) r x,ls[j]? =some r->a[j]? =some x->∃f,Tc1 H r f x/\H0 f=none/\H0 r=none)/\H0 l=none
def RwF(H0 H:Hp)(l:AH)(a:List Au):Prop:=∃ls:AE,H l=some (.lst (ls.map V.ref))/\ls.length=a.length/\(∀(j:Nat) r x,ls[j]? =some r->a[j]? =some x->H r=some (.lst (x.map oV)))/\H0 l=none/\∀r∈ls,H0 r=none
def Nw(H0 H H':Hp):Prop:=∀b o,H0 b=none->H b=some o->H' b=some o
theorem CtF.nw{H0 H H':Hp}{l:AH}{a:List Tc}(k:Nw H0 H H')(h:CtF H0 H l a):CtF H0 H' l a:=by
 obtain⟨ls,h1,h2,h3,h4⟩:=h;refine⟨ls,k _ _ h4 h1,h2,λj r x g e=>?_,h4⟩;obtain⟨f,⟨z1,d⟩,c,b⟩:=h3 j r x g e;exact⟨f,⟨k _ _ b z1,k _ _ c d⟩,c,b⟩
theorem CtF.o{H0 H:Hp}{l:AH}{a:List Tc}(h:CtF H0 H l a):CtO H l a:=by
 obtain⟨ls,h1,h2,h3,_⟩:=h;refine⟨ls,h1,h2,λj r x b c=>?_⟩;obtain⟨f,z,_⟩:=h3 j r x b c;exact⟨f,z⟩
theorem RwF.nw{H0 H H':Hp}{l:AH}{a:List Au}(k:Nw H0 H H')(h:RwF H0 H l a):RwF H0 H' l a:=by
 obtain⟨ls,h1,h2,h3,h4,h5⟩:=h;exact⟨ls,k _ _ h4 h1,h2,λj r x b c=>k _ _ (h5 r (List.mem_of_getElem? b)) (h3 j r x b c),h4,h5⟩
theorem RwF.o{H0 H:Hp}{l:AH}{a:List Au}(h:RwF H0 H l a):RwO H l a:=by
 obtain⟨ls,h1,h2,h3,_⟩:=h;exact⟨ls,h1,h2,h3⟩
theorem Nw.same{H0 H H':Hp}(s:aW H H'):Nw H0 H H':=λb o _ h=>s b o h
theorem Zti{K:aB}{H:Hp}{l j:AH}{a:List Au}(h:RwO H l a)(h':RwO H j a):∃xs m,cB K H l xs/\cB K H j m/\Al (Dq K H 6) xs m:=by
 obtain⟨ls,h1,h2,h3⟩:=h;obtain⟨p,b,d,e⟩:=h';refine⟨_,_,cB.of h1,cB.of b,Zm7 (by rw[aY,aY,h2,d]) λi u v n f=>?_⟩;rw[cF]at n f;obtain⟨r,hr,rfl⟩:=Option.map_eq_some_iff.mp n;obtain⟨k,c,rfl⟩:=Option.map_eq_some_iff.mp f;have g:i<a.length:=by rw[<- h2];exact(dY hr).1
 have z:=h3 i r a[i] hr (bM g);have o:=e i k a[i] c (bM g);exact .inr ⟨r,k,rfl,rfl,.inr ⟨_,_,.inl ⟨cB.of z,cB.of o⟩,Ld (Zlt _)⟩⟩
def RD(X:Cs):Sp:=λvs H Q E=>∃wo a,vs=[.ref wo,.int a]/\∃T A M hs k,WT H T/\WJ X H T 1 A M/\A.wo=wo/\KW M hs k/\TB a M/\HsB hs/\k<=900/\M.sw.phase≠"lost"/\
 ∀H' T' b M',Kp H H' T T'->WT H' T'->WJ X H' T' 1 b M'->b.wo=wo->KW M' hs k->TB a M'->Q (.bl true) H'
def Dt(a:List Tc)(b:Int):Option V:=(a.reverse.find? λx=>decide (x.b=b)).map λx=>V.str x.tone
theorem Zhf(a:List Tc)(x:Tc)(b:Int):Dt (a++[x]) b=if b=x.b then some (.str x.tone)else Dt a b:=by
 unfold Dt;rw[List.reverse_append,List.reverse_singleton,List.singleton_append,List.find?_cons]
 by_cases e:b=x.b
 ·rw[if_pos e,decide_eq_true e.symm];rfl
 ·rw[if_neg e,decide_eq_false (λz=>e z.symm)]
def Kq(z:Str)(f:Int->Option V)(bs:AD)(b:Int):Option V:=if b∈bs then some (.str z)else f b
theorem Zjd(z:Str)(f:Int->Option V)(bs:AD)(b0 b:Int):Kq z f (bs++[b0]) b=if b=b0 then some (.str z)else Kq z f bs b:=by
 unfold Kq
 by_cases e:b=b0
 ·rw[if_pos e,if_pos (by simp[e])]
 ·rw[if_neg e]
  by_cases a:b∈bs
  ·rw[if_pos a,if_pos (List.mem_append.mpr (.inl a))]
  ·rw[if_neg a,if_neg (λy=>?_)];rcases List.mem_append.mp y with y | y
   ·exact a y
   ·exact e (by simpa using y)
def lU(a:List Tc):AD:=(a.filter λ(x:Tc)=>decide (x.tone=("pale":Str))).map (·.b)
def inP(l:AD)(b:Int):Bool:=decide (b∈l)
def Z14q (H:Hp)(l:AH)(m:AH)(z:Str)(Q:VK):Prop:=∃(b:List Tc) (bs:AD),CtO H l b/\b.length<=1000/\H m=some (.lst (bs.map V.int))/\bs.length<=4000/\
 ∀a H',aW H H'->H a=none->MkO H' a (Kq z (Dt b) bs) 5000->Q (.ref a) H'
def vz(K:aB):Sp:=λvs H Q E=>∃l m z,vs=[.ref l,.ref m,.str z]/\Z14q H l m z Q
section
theorem Zd5{l m:AH}{z:Str}(q:Z14q H l m z Q):Bj K ⟨n,Q,bk,ct⟩ [some (.ref l),some (.ref m),some (.str z),none,none,none] H:=by
 obtain⟨a,bs,⟨ls,o1,hl,o2⟩,hb,om,O,q⟩:=q;unfold Bj;walk_at"e";intro d nd;have D:=aK nd (.dK []);have J:MkO (upd H d (.dK [])) d (Dt []) 0:=⟨[],aq,Nat.le_refl _,λb=>rfl⟩;generalize upd H d (.dK [])=P at D J ⊢;walk_at"e";refine⟨l,rfl,⟨_,cB.of (D _ _ o1)⟩,forL (ls.map V.ref) (λi k A=>∃v,k=[some (.ref l),some (.ref m),some (.str z),some (.ref d),v,none]/\aW H A/\MkO A d (Dt (a.take i)) i) ⟨_,rfl,D,J⟩ (λ_ _ _ _ ⟨_,_,y,_⟩=>cB.of (y _ _ o1)) ?_ ?_⟩
 ·rintro i y k A hy ⟨v,rfl,t,w⟩;rw[cF]at hy;obtain⟨r,hr,rfl⟩:=Option.map_eq_some_iff.mp hy;have L:i<ls.length:=(dY hr).1;obtain⟨x,hx⟩:∃x,a[i]? =some x:=⟨_,bM (by omega)⟩;have j:a.take (i+1)=a.take i++[x]:=by rw[List.take_add_one,hx];rfl
  obtain⟨R,f,_⟩:=o2 i r x hr hx;have f:=t _ _ f;walk_at"e";refine⟨r,_,5,_,rfl,rfl,gw.of f,rfl,?_⟩;walk_at"e";refine⟨r,_,1,_,rfl,rfl,gw.of f,rfl,?_⟩;obtain⟨F,C,⟨e,h,p,g⟩,o,B⟩:=w.put (by omega) x.b (.str x.tone);refine⟨d,F,rfl,C,_,rfl,λc N hc=>?_,e,h,p,λb=>?_⟩
  ·rw[B,aC (aD hc nd)];exact t _ _ hc
  ·rw[g b,j,Zhf]
 ·rintro k A ⟨v,rfl,t,w⟩;rw[aY,List.take_of_length_le (by omega)]at w;walk_at"e";refine⟨m,rfl,⟨_,cB.of (t _ _ om)⟩,forL (bs.map V.int) (λi k s=>∃I,k=[some (.ref l),some (.ref m),some (.str z),some (.ref d),v,I]/\aW H s/\MkO s d (Kq z (Dt a) (bs.take i)) (ls.length+i)) ⟨_,rfl,t,?_⟩ (λ_ _ _ _ ⟨_,_,y,_⟩=>cB.of (y _ _ om)) ?_ ?_⟩
  ·obtain⟨e,h,p,g⟩:=w;exact⟨e,h,by omega,λb=>by rw[g b];unfold Kq;rw[if_neg (by simp)]⟩
  ·rintro i y k s hy ⟨I,rfl,E,M⟩;rw[cF]at hy;obtain⟨b0,u,rfl⟩:=Option.map_eq_some_iff.mp hy;have L:i<bs.length:=(dY u).1;have j:bs.take (i+1)=bs.take i++[b0]:=by rw[List.take_add_one,u];rfl
   walk_at"e";obtain⟨F,C,⟨e,h,p,g⟩,o,B⟩:=M.put (by omega) b0 (.str z);refine⟨d,F,rfl,C,_,rfl,λc N hc=>?_,e,h,p,λb=>?_⟩
   ·rw[B,aC (aD hc nd)];exact E _ _ hc
   ·rw[g b,j,Zjd]
  ·rintro k s ⟨I,rfl,E,e,h,p,g⟩;rw[aY,List.take_length]at g;rw[aY]at p;walk_at"e";exact q d s E nd ⟨e,h,by omega,g⟩
end
theorem Ze0{M:Wm}:(jK M).length<=M.cells.length:=by
 unfold jK;exact Nat.le_trans (List.length_filterMap_le _ _) (by rw[List.length_range];exact Nat.le_refl _)
theorem Rh{M:Wm}:(wZ M).length=(jK M).length:=by unfold wZ;rw[aY]
theorem Zx1{M:Wm}{i:Nat}{t:Int×Ce}(h:(jK M)[i]? =some t):(wZ M)[i]? =some (Ze1 M t):=by unfold wZ;rw[cF,h];rfl
section
variable {M M':Wm}{w0:Int}
theorem N8(ph:M.sw.phase="walk")(i:Int)(c:Ce):Dd M i c=if c.tone=M.sw.sense then(if i∈M.sw.grey then("grey":Str)else("dark":Str))else("pale":Str):=by
 unfold Dd;rw[ph,if_neg (show ¬ ("walk":Str)="rest" by decide),if_neg (show ¬ ("walk":Str)="give" by decide)]
theorem YJ(ph:M.sw.phase="walk"){i:Int}{c:Ce}:Dd M i c=("pale":Str)↔c.tone≠M.sw.sense:=by
 rw[N8 ph]
 by_cases e:c.tone=M.sw.sense
 ·rw[if_pos e];constructor
  ·intro z;split at z
   ·exact absurd z (by decide)
   ·exact absurd z (by decide)
  ·exact λz=>absurd e z
 ·rw[if_neg e];exact⟨λ_=>e,λ_=>rfl⟩
theorem TB.Zl6(p:TB w0 M){t u:Int×Ce}(a:t∈jK M)(hu:u∈jK M)(e:t.2.birth=u.2.birth):t=u:=by
 have h1:=uy a;have h2:=uy hu;have h3:=p.bu t.1 u.1 t.2 u.2 h1 h2 e;rw[h3,h2]at h1;exact Prod.ext h3 (Option.some.inj h1).symm
theorem TB.ZCe(p:TB w0 M){t:Int×Ce}(c:t∈jK M):Dt (wZ M) t.2.birth=some (.str (Dd M t.1 t.2)):=by
 unfold Dt;cases a:(wZ M).reverse.find? λ(x:Tc)=>decide (x.b=t.2.birth)with
 | none=>
  have:=List.find?_eq_none.mp a (Ze1 M t) (List.mem_reverse.mpr (List.mem_map.mpr ⟨t,c,rfl⟩));exact absurd (decide_eq_true rfl) this
 | some x=>
  have h1:x.b=t.2.birth:=of_decide_eq_true (List.find?_some (p:=λ(x:Tc)=>decide (x.b=t.2.birth)) a);obtain⟨u,hu,rfl⟩:=List.mem_map.mp (List.mem_reverse.mp (List.mem_of_find?_eq_some a));rw[p.Zl6 hu c h1];rfl
theorem TB.ZAq(p:TB w0 M)(ph:M.sw.phase="walk"){i:Int}{c:Ce}(h:cellAt M i=some c):inP (lU (wZ M)) c.birth=oZ M i:=by
 unfold inP oZ;rw[h];show decide _=decide _;refine decide_eq_decide.mpr ⟨λz=>?_,λz=>?_⟩
 ·obtain⟨x,hx,e⟩:=List.mem_map.mp z;obtain⟨h1,h2⟩:=List.mem_filter.mp hx;obtain⟨u,hu,rfl⟩:=List.mem_map.mp h1;have h3:=p.Zl6 hu (Gp h) e;subst h3;exact(YJ ph).mp (of_decide_eq_true h2)
 ·exact List.mem_map.mpr ⟨Ze1 M (i,c),List.mem_filter.mpr ⟨List.mem_map.mpr ⟨(i,c),Gp h,rfl⟩,decide_eq_true ((YJ ph).mpr z)⟩,rfl⟩
end
theorem Zel:∀a:List Tc,a.filterMap (λ(x:Tc)=>if x.tone=("pale":Str)then some (V.int x.b)else none)=(lU a).map V.int
 | []=>rfl
 | x::l=>by
  have c:=Zel l;unfold lU at c ⊢;rw[List.filterMap_cons,List.filter_cons]
  by_cases e:x.tone=("pale":Str)
  ·rw[if_pos e,if_pos (decide_eq_true e),List.map_cons,List.map_cons,<- c]
  ·rw[if_neg e,if_neg (λz=>e (of_decide_eq_true z))];exact c
theorem Zcd(P:Int->Bool):∀l:AD,l.filterMap (λb=>if P b=true then some (V.int b)else none)=(l.filter P).map V.int
 | []=>rfl
 | x::l=>by
  rw[List.filterMap_cons,List.filter_cons]
  by_cases e:P x=true
  ·rw[if_pos e,if_pos e,List.map_cons,<- Zcd P l]
  ·rw[if_neg e,if_neg e];exact Zcd P l
def HD(M:Wm):AD:=jA (inP (lU (wZ M))) (Ui (bD M) (rowsOf M) 0) []
def HQ(M:Wm):Bool:=decide (bD M≠0/\(M.w=1\/HD M≠[]))
def RW:Sp:=λvs H Q E=>∃a lo h,vs=[.int a,.int lo,.int h]/\(a=0\/a=1\/a=2)/\0<=h/\h<=30/\Q (.int (FZ a.toNat lo h.toNat)) H
def Z15q (H:Hp)(l:AH)(Q:VK):Prop:=∃b:List Tc,CtO H l b/\b.length<=1000/\∀a,H a=none->Q (.ref a) (upd H a (.lst ((lU b).map V.int)))
def RK(K:aB):Sp:=λvs H Q E=>∃l,vs=[.ref l]/\Z15q H l Q
def Vp(X:Cs):Sp:=λvs H Q E=>∃wo a lc,vs=[.ref wo,.int a,.ref lc]/\∃T s A M,WJ X H T s A M/\A.wo=wo/\O8 M/\M.w=a/\CtO H lc (wZ M)/\
 ∀t lb H',aW H H'->H lb=none->H' t=some (.tup [.int (bD M),.ref lb,.bl (HQ M)])->H' lb=some (.lst ((HD M).map V.int))->Q (.ref t) H'
def vA(X:Cs):Sp:=λvs H Q E=>∃wo lo,vs=[.ref wo,.int lo]/\∃T s A M,WJ X H T s A M/\A.wo=wo/\M.sw.looked=lo/\Q (.bl true) H
section
theorem Zdi{b lo h:Int}(q:(b=0\/b=1\/b=2)/\0<=h/\h<=30/\Q (.int (FZ b.toNat lo h.toNat)) H):Bx ⟨n,Q,bk,ct⟩ [some (.int b),some (.int lo),some (.int h),none] H:=by
 obtain⟨f,o,h1,q⟩:=q;unfold Bx;walk_at"e";refine uY (λz=>?_) (λm=>?_)
 ·subst z;walk_at"e";exact q
 walk_at"e";refine uY (λz=>?_) (λk=>?_)
 ·subst z;walk_at"e";refine i_I (Zm1 (by omega) (by omega)) ?_;walk_at"e";rw[Int.one_mul];exact q
 have f:b=1:=by omega
 subst f;have q:Q (.int (lsE lo 0 h.toNat)) H:=q;walk_at"e";refine⟨h,rfl,by omega,by omega,?_⟩;refine forR (λi d c=>∃v,d=[some (.int 1),some (.int lo),some (.int h),v]/\c=H/\(i<=h.toNat->lsE lo 0 h.toNat=lsE lo i (h.toNat - i))) ⟨none,rfl,rfl,λ_=>rfl⟩ ?_ ?_
 ·rintro i d c l ⟨v,rfl,rfl,a⟩;have a:=a (by omega);have j:h.toNat - i=(h.toNat - (i+1))+1:=by omega
  rw[j]at a;have g:lsE lo i (h.toNat - (i+1)+1)=if lo / 2 ^ i % 2=0 then 2 ^ i else lsE lo (i+1) (h.toNat - (i+1)):=rfl
  rw[g]at a;have e:((0:Int)+(i:Int)).toNat=i:=by omega
  walk_at"e";rw[e,Zkw];refine uY (λz=>?_) (λz=>?_)
  ·rw[if_pos z]at a;walk_at"e";refine i_I (Zm1 (by omega) (by omega)) ?_;rw[e,Int.one_mul,<- a];exact q
  ·rw[if_neg z]at a;walk_at"e";exact⟨_,rfl,rfl,λ_=>a⟩
 ·rintro d c ⟨v,rfl,rfl,a⟩;have a:=a (Nat.le_refl _);rw[Nat.sub_self]at a;have a:lsE lo 0 h.toNat=0:=a;walk_at"e";rw[a]at q;exact q
theorem Zda{l:AH}(q:Z15q H l Q):Bp K ⟨n,Q,bk,ct⟩ [some (.ref l)] H:=by
 obtain⟨a,⟨ls,o1,hl,o2⟩,hb,q⟩:=q;unfold Bp;walk_at"e";refine Ii ?_;walk_at"e";refine⟨_,rfl,⟨_,cB.of o1⟩,?_⟩;refine KD (cB.of o1) (λi=>a[i]?.bind λ(x:Tc)=>if x.tone=("pale":Str)then some (V.int x.b)else none) (by rw[aY];omega) (λi y hy=>?_) ?_
 ·rw[cF]at hy;obtain⟨r,hr,rfl⟩:=Option.map_eq_some_iff.mp hy;have c:i<ls.length:=(dY hr).1;obtain⟨x,hx⟩:∃x,a[i]? =some x:=⟨_,bM (by omega)⟩;obtain⟨d,z,_⟩:=o2 i r x hr hx;refine⟨λq hq=>?_,λy q hy hq=>?_⟩
  ·walk_at"c";walk_at"e";refine⟨r,_,5,_,rfl,rfl,gw.of z,rfl,?_⟩;walk_at"e";rw[hx]at hq
   by_cases e:x.tone=("pale":Str)
   ·rw[show((some x).bind λx:Tc=>if x.tone=("pale":Str)then some (V.int x.b)else none)=some (V.int x.b)from if_pos e]at hq;rw[decide_eq_true e];exact hq
   ·rw[show((some x).bind λx:Tc=>if x.tone=("pale":Str)then some (V.int x.b)else none)=none from if_neg e]at hq;rw[decide_eq_false e];exact hq
  ·rw[hx]at hy;have hy:(if x.tone=("pale":Str)then some (V.int x.b)else none)=some y:=hy;split at hy
   ·cases hy;walk_at"c";walk_at"e";exact⟨r,_,1,_,rfl,rfl,gw.of z,rfl,hq⟩
   ·cases hy
 ·rw[aY,hl,uZ,Zel];exact q
theorem Zd7{wo:AH}{lo:Int}(f:qm K X)(q:∃T s A M,WJ X H T s A M/\A.wo=wo/\M.sw.looked=lo/\Q (.bl true) H):Bl K (o8 X) ⟨n,Q,bk,ct⟩ [some (.ref wo),some (.int lo),none,none] H:=by
 obtain⟨T,s,A,M,j,rfl,rfl,q⟩:=q;obtain⟨h,ow⟩:=j.jb.ow;have on:=j.jb.on;have lh:=j.jd.lh;have l5:=j.jd.l5;have g:((A.hs.map λp=>V.ref p.1).length:Int)=(M.hands.length:Int):=by rw[aY,lh]
 unfold Bl;walk_at"e";refine aH ow f.cW f.nWd dZ ?_;walk_at"e";refine jC (cB.of on) ?_;rw[g];walk_at"e";refine⟨_,rfl,by omega,by omega,?_⟩;refine forR (λk d b=>∃a c,d=[some (.ref A.wo),some (.int M.sw.looked),a,c]/\b=H) ⟨_,_,rfl,rfl⟩ ?_ ?_
 ·rintro k d b hk ⟨a,c,rfl,rfl⟩;have e:((0:Int)+(k:Int)).toNat=k:=by omega
  walk_at"e";refine⟨_,_,rfl,T,s,A,M,k,j,rfl,by omega,?_⟩;cases hb:dH M k with
  | true=>
   walk_at"e";refine zX (λz=>absurd rfl z) (λ_=>?_);walk_at"e";rw[e,Zkw];refine zX (λz=>absurd hb.symm z) (λ_=>?_);walk_at"e";exact⟨_,_,rfl,rfl⟩
  | false=>
   walk_at"e";refine zX (λ_=>?_) (λz=>by cases z);walk_at"e";refine zX (λz=>absurd rfl z) (λ_=>?_);walk_at"e";rw[e,Zkw];refine zX (λz=>absurd hb.symm z) (λ_=>?_);walk_at"e";exact⟨_,_,rfl,rfl⟩
 ·rintro d b ⟨a,c,rfl,rfl⟩;walk_at"e";exact q
theorem Zgr{wo lc:AH}{k:Int}(p:qm K X)(q:∃T s A M,WJ X H T s A M/\A.wo=wo/\O8 M/\M.w=k/\CtO H lc (wZ M)/\
 ∀t lb H',aW H H'->H lb=none->H' t=some (.tup [.int (bD M),.ref lb,.bl (HQ M)])->H' lb=some (.lst ((HD M).map V.int))->Q (.ref t) H'):
  Eu K RW (Lq K) (RK K) (nZ X) ⟨n,Q,bk,ct⟩ [some (.ref wo),some (.int k),some (.ref lc),none,none,none,none] H:=by
 obtain⟨T,s,A,M,j,rfl,ok,rfl,oc,q⟩:=q;obtain⟨dw,ow⟩:=j.jb.ow;obtain⟨ds,os⟩:=j.js.os;have lh:=j.jd.lh;have l5:=j.jd.l5;have W:=ok.cl;have ltl:=Ze0 (M:=M);have ltc:=Rh (M:=M);have U:M.w=0\/M.w=1\/M.w=2:=by
  obtain⟨dl,ol⟩:=j.jb.ol;rcases ol with ⟨e,_⟩ | ⟨e,_⟩ | ⟨e,_⟩
  ·exact .inl e
  ·exact .inr (.inl e)
  ·exact .inr (.inr e)
 have ml:(rowsOf M).length=M.hands.length:=by unfold rowsOf;rw[aY]
 have a:∀x∈rowsOf M,x.length<=100:=λx hx=>by
  unfold rowsOf at hx;obtain⟨m,hm,rfl⟩:=List.mem_map.mp hx;rw[aY];exact ok.hl m hm
 unfold Eu;walk_at"e";refine⟨_,rfl,T,s,A,M,j,rfl,by omega,λm hm=>by have:=ok.hl m hm;omega,λZ rs N r o1 h C _=>?_⟩;have or:RwO N Z (rowsOf M):=⟨rs,o1,h,C⟩;walk_at"e";refine aH (r _ _ ow) p.cW p.Rr bx ?_;walk_at"e";refine aH (r _ _ os) p.cS p.n4 gn ?_;walk_at"e";refine jC (cB.of o1) ?_;rw[aY,h,ml];walk_at"e";refine⟨_,_,_,rfl,U,by omega,by omega,?_⟩;rw[Int.toNat_natCast,show FZ M.w.toNat M.sw.looked M.hands.length=bD M from rfl];walk_at"e";refine⟨_,rfl,wZ M,oc.same r,by omega,λF D=>?_⟩;generalize B:upd N F _=H2;obtain⟨P,S⟩:=nwO D B;have v:=r.trans P;walk_at"e";refine Ii ?_;walk_at"e";refine⟨_,_,rfl,rowsOf M,or.same P,by omega,a,λlf J I R f=>?_⟩;have la:(jA allB (Ui (bD M) (rowsOf M) 0) []).length<=4000:=by
  have h1:=sZ allB (Ui (bD M) (rowsOf M) 0) [];have h2:=Rq (bD M) 100 (rowsOf M) 0 a;rw[List.length_nil]at h1;omega
 have O:(jA allB (Ui (bD M) (rowsOf M) 0) []).filter (inP (lU (wZ M)))=HD M:=xx (inP (lU (wZ M))) (Ui (bD M) (rowsOf M) 0) [];generalize jA allB (Ui (bD M) (rowsOf M) 0) []=fs at f la O;have l:=v.trans I;have Y:=I _ _ S;refine⟨_,rfl,⟨_,cB.of f⟩,?_⟩;refine KD (cB.of f) (λi=>fs[i]?.bind λb=>if inP (lU (wZ M)) b=true then some (V.int b)else none) (by rw[aY];omega) (λi y hy=>?_) ?_
 ·rw[cF]at hy;obtain⟨b,hb,rfl⟩:=Option.map_eq_some_iff.mp hy;refine⟨λq hq=>?_,λy q hy hq=>?_⟩
  ·walk_at"c";walk_at"e";refine⟨F,_,rfl,.inl (cB.of Y),rfl,tR _,?_⟩;rw[Zlq];rw[hb]at hq;have hq:q ((if inP (lU (wZ M)) b=true then some (V.int b)else none).isSome) J:=hq;rw[show(if false=true then !decide (b∈lU (wZ M))else decide (b∈lU (wZ M)))=inP (lU (wZ M)) b from rfl];cases hz:inP (lU (wZ M)) b with
   | true=>
    rw[hz]at hq;walk_at"e";exact hq
   | false=>
    rw[hz]at hq;walk_at"e";exact hq
  ·rw[hb]at hy;have hy:(if inP (lU (wZ M)) b=true then some (V.int b)else none)=some y:=hy;split at hy
   ·cases hy;walk_at"c";walk_at"e";exact hq
   ·cases hy
 ·rw[aY,uZ,Zcd,O];intro lb g;generalize B:upd J lb _=H4;obtain⟨s4,o⟩:=nwO g B;have c:=l.trans s4;have d:H lb=none:=l.free g;walk_at"e";refine zX (λz=>?_) (λz=>?_)
  ·walk_at"e";refine uY (λz1=>?_) (λz1=>?_)
   ·walk_at"e";refine⟨aR (by simp),λt nt=>?_⟩;refine q t lb _ (c.trans (aK nt _)) d ?_ (aK nt _ _ _ o);rw[show HQ M=true from decide_eq_true ⟨z,.inl z1⟩];exact aq
   ·walk_at"e";refine⟨aR (by simp),λe0 E=>?_⟩;have u:=aK E (.lst []);refine Zjx (cB.of (u _ _ o)) (ms:=[]) (cB.of aq) ?_;have L:=u _ _ o;generalize upd H4 e0 (.lst [])=H5 at u L ⊢;walk_at"e";refine⟨aR (by simp),λt nt=>?_⟩;refine q t lb _ (c.trans (u.trans (aK nt _))) d ?_ (aK nt _ _ _ L);have:HQ M=!decide (HD M=[]):=by
     unfold HQ
     by_cases e:HD M=[]
     ·rw[decide_eq_false (λy=>?_),decide_eq_true e]
      ·rfl
      ·rcases y.2 with y | y
       ·exact z1 y
       ·exact y e
     ·rw[decide_eq_true ⟨z,.inr e⟩,decide_eq_false e];rfl
    rw[this];exact aq
  ·walk_at"e";refine⟨aR (by simp),λt nt=>?_⟩;refine q t lb _ (c.trans (aK nt _)) d ?_ (aK nt _ _ _ o);rw[show HQ M=false from decide_eq_false (λy=>y.1 z)];exact aq
end
def oY(M N:Wm):Wm:={ N with sw:={ N.sw with looks:=N.sw.looks+1,looked:=if M.w=2 then N.sw.looked else Builtin.bitOr N.sw.looked (bD M) } }
section
variable {M M':Wm}{w0:Int}
theorem Zjm(p:TB w0 M)(ph:M.sw.phase="walk"):
  ∃acc,(iV (bD M) M.hands 0 M).2=gW M acc/\(iV (bD M) M.hands 0 M).1=acc.map (gh M)/\HD M=acc.map (gh M)/\
   NL M (gW M acc) acc/\∀i∈acc,∃d,cellAt M i=some d/\d.tone≠M.sw.sense:=by
 obtain⟨c,b⟩:=Zbi (M:=M) (nhL (bD M) M.hands 0) [] List.nodup_nil λi a=>(nomatch a);obtain⟨g,f⟩:=GQ (M:=M) ph (nhL (bD M) M.hands 0) [] List.nodup_nil λi a=>(nomatch a);have e:=Zqk (bD M) M.hands 0 M;have has:∀i∈ntP M (nhL (bD M) M.hands 0) [],∃d,cellAt M i=some d/\d.tone≠M.sw.sense:=λi a=>by
  have h1:=b i a;unfold oZ at h1;cases hc:cellAt M i with
  | none=>rw[hc]at h1;cases h1
  | some d=>
   rw[hc]at h1;exact⟨d,rfl,of_decide_eq_true h1⟩
 refine⟨ntP M (nhL (bD M) M.hands 0) [],by rw[e];exact g,by rw[e];exact f,?_,Zf1 ph _ _ rfl c b,has⟩;unfold HD rowsOf;rw[Zqi];exact Ez (M:=M) (P:=inP (lU (wZ M))) p.bu (λi d h=>p.ZAq ph h) (nhL (bD M) M.hands 0) [] λi a=>(nomatch a)
theorem Zop{acc:AD}(f:M.w=0\/M.w=1\/M.w=2)(c:(iV (bD M) M.hands 0 M).1=acc.map (gh M))(g:HD M=acc.map (gh M)):HQ M=false↔tU M:=by
 unfold HQ tU;rw[c,<- g,decide_eq_false_iff_not];have h:M.w=0->bD M=0:=λe=>by unfold bD;rw[e];rfl
 constructor
 ·intro z
  by_cases a:bD M=0
  ·exact .inl a
  ·rcases f with e | e | e
   ·exact absurd (h e) a
   ·exact absurd ⟨a,.inl e⟩ z
   ·refine .inr ⟨e,?_⟩
    by_cases d:HD M=[]
    ·exact d
    ·exact absurd ⟨a,.inr d⟩ z
 ·rintro(a | ⟨a,d⟩) ⟨z1,b⟩
  ·exact z1 a
  ·rcases b with z | z
   ·rw[a]at z;exact absurd z (by decide)
   ·exact z d
theorem Zjl(p:TB w0 M)(ph:M.sw.phase="walk")(f:M.sw.grey=[]){acc:AD}(has:∀i∈acc,∃d,cellAt M i=some d/\d.tone≠M.sw.sense)
  (c:M'.sw.phase="walk") (se:M'.sw.sense=M.sw.sense) (gr:M'.sw.grey=acc) {t:Int×Ce} (e:t∈jK M):
  Kq "grey" (Dt (wZ M)) (acc.map (gh M)) t.2.birth=some (.str (Dd M' t.1 (wY M.sw.sense acc t.1 t.2))):=by
 have b:=uy e;have a:∀i∈acc,∃d,cellAt M i=some d:=λi g=>by
  obtain⟨d,h,_⟩:=has i g;exact⟨d,h⟩
 rw[N8 c,se,gr];unfold Kq wY
 by_cases hm:t.1∈acc
 ·rw[if_pos ((xP p.bu a b).mpr hm),if_pos hm,if_pos rfl,if_pos hm]
 ·rw[if_neg (λz=>hm ((xP p.bu a b).mp z)),if_neg hm,p.ZCe e,N8 ph,f,if_neg hm,if_neg (show ¬ t.1∈[] by simp)]
theorem Zur{e:Ev}{lb:Int}{lw:AD}(r:u6 lb lw M e M')(ph:M.sw.phase="walk")(h:M.sw.grey=[])(f:¬ tU M):e=⟨"look",some (bD M),(iV (bD M) M.hands 0 M).1⟩/\M'=oY M (iV (bD M) M.hands 0 M).2:=by
 cases r with
 | begin a=>exact absurd (ph.symm.trans a) (by decide)
 | walk o n m a b j=>rw[h]at b;cases b
 | look N a b l g=>subst g;exact⟨rfl,rfl⟩
 | cut q k a b d=>exact absurd d f
 | lost q k i x c v a b d=>exact absurd d f
 | pass a=>exact absurd (ph.symm.trans a) (by decide)
 | back c a=>exact absurd (ph.symm.trans a) (by decide)
 | fin a=>exact absurd (ph.symm.trans a) (by decide)
 | again a=>exact absurd (ph.symm.trans a) (by decide)
theorem Zzs{e:Ev}{lb:Int}{lw:AD}(r:u6 lb lw M e M')(ph:M.sw.phase="walk")(f:M.sw.grey=[])(d:tU M):e.word="cut"\/e.word="lost":=by
 cases r with
 | begin a=>exact absurd (ph.symm.trans a) (by decide)
 | walk m l k a b g=>rw[f]at b;cases b
 | look N a b j=>exact absurd d j
 | cut q h a b d=>exact .inl rfl
 | lost q h i x c v a b d=>exact .inr rfl
 | pass a=>exact absurd (ph.symm.trans a) (by decide)
 | back c a=>exact absurd (ph.symm.trans a) (by decide)
 | fin a=>exact absurd (ph.symm.trans a) (by decide)
 | again a=>exact absurd (ph.symm.trans a) (by decide)
end
section
theorem Zx6{H0:Hp}{T:Tg}{A:Wa}{M N:Wm}{w0:Int}{acc:AD}{lc lr ls ld:AH}{U I:Int}{v8 v9 P:Option V}(L:qm K X)(w:WT H T)(j:WJ X H T 1 A (oY M N))(ok:O8 (oY M N))(R:O8 M)
  (p:TB w0 M) (E:M.sw.phase="walk") (hg:M.sw.grey=[]) (nl:NL M N acc) (has:∀i∈acc,∃d,cellAt M i=some d/\d.tone≠M.sw.sense)
  (oc:CtF H0 H lc (wZ M)) (or:RwF H0 H lr (rowsOf M)) (os:H ls=some (.lst ((stL (oY M N).sw).map V.int)))
  (ob:H ld=some (.lst ((acc.map (gh M)).map V.int))) (la:acc.length<=4000)
  (q:∀H',aW H H'->Q (.bl true) H'):
  m7 K (pK K) (pJ K) (vA X) (rP X) (vz K) (nZ X) (CQ X) ⟨n,Q,bk,ct⟩ [some (.ref A.wo),some (.int U),some (.ref A.sw),some (.ref lc),some (.ref lr),some (.ref ls),some (.int I),some (.ref ld),v8,v9,P] H:=by
 have hcl:=ok.cl;have ZLk:=R.cl;have ltl:=Ze0 (M:=M);have F:=Rh (M:=M);have ph:(oY M N).sw.phase="walk":=by show N.sw.phase=_;rw[nl.sw];exact E
 have gr:(oY M N).sw.grey=acc:=by show N.sw.grey=_;rw[nl.sw,hg];rfl
 have se:(oY M N).sw.sense=M.sw.sense:=by show N.sw.sense=_;rw[nl.sw]
 have hgl:=ok.gl ph;have Z:wZ (oY M N)=wZ N:=rfl;unfold m7;walk_at"e";refine⟨_,_,_,rfl,wZ M,acc.map (gh M),oc.o,by omega,ob,by rw[aY];omega,λd H1 sa nd od=>?_⟩;walk_at"e";refine⟨_,rfl,T,1,A,oY M N,j.same sa,rfl,by omega,λc hc=>by have:=ok.fl c hc;omega,λl rs H2 sb o1 hl hr _=>?_⟩;have s1:=sa.trans sb;have C:CtO H2 l (wZ (oY M N)):=⟨rs,o1,by rw[hl];exact Rh.symm,λi r x g e=>by
  unfold wZ at e;rw[cF]at e;obtain⟨t,s,rfl⟩:=Option.map_eq_some_iff.mp e;obtain⟨fa,z,_⟩:=hr i r t g s;exact⟨fa,z⟩⟩
 rw[Z]at C;walk_at"e";refine⟨_,_,_,rfl,wZ M,wZ N,_,_,C,(oc.nw (Nw.same s1)).o,od.same sb,?_,by omega,λi x x' g e=>?_,λH3 s2=>?_⟩
 ·rw[nl.told,aY,F]
 ·rw[nl.told,cF]at e;unfold wZ at g;rw[cF]at g;obtain⟨t,s,rfl⟩:=Option.map_eq_some_iff.mp g;rw[s]at e;cases e;exact⟨rfl,rfl,rfl,rfl,rfl,Zjl (M':=oY M N) p E hg has ph se gr (List.mem_of_getElem? s)⟩
 have u:=s1.trans s2;have er:rowsOf (oY M N)=rowsOf M:=by
  show N.hands.map (λm=>m.2.map (wW N))=_;rw[nl.nt.hd,Zm6 nl.map (Zx _ _)];rfl
 walk_at"e";refine⟨_,rfl,T,1,A,oY M N,j.same u,rfl,by omega,λm hm=>by have:=ok.hl m hm;omega,λl2 W H4 s3 o3 B y _=>?_⟩;rw[er]at B y;have k:=u.trans s3;obtain⟨xs,ys,a1,a2,al⟩:=Zti (K:=K) (show RwO H4 l2 (rowsOf M)from⟨W,o3,B,y⟩) (or.nw (Nw.same k)).o;walk_at"e";refine Zrm (.inl ⟨a1,a2⟩) al ?_;have J:=j.same k;obtain⟨ds,h⟩:=J.js.os;have D:=J.js.og;rw[ph]at h;rw[gr]at D;walk_at"e";refine aH h L.cS L.n2 fX ?_;walk_at"e";refine zX (λz=>absurd rfl z) (λ_=>?_);walk_at"e";refine⟨_,rfl,T,1,A,oY M N,J,rfl,by omega,λa H5 O na oa=>?_⟩;have f:=k.trans O;walk_at"e";refine Zjx (cB.of oa) (cB.of (f _ _ os)) ?_;rw[decide_eq_true rfl];walk_at"e";refine je (cB.of (f _ _ os)) (v:=.int (oY M N).sw.looked) rfl ?_;walk_at"e";refine⟨_,_,rfl,T,1,A,oY M N,J.same O,rfl,rfl,?_⟩;walk_at"e";refine aH (O _ _ h) L.cS L.n3 lC ?_;walk_at"e";obtain⟨S,c1,c2,c3,_⟩:=oc.nw (Nw.same f);refine⟨_,_,rfl,(jK M).map (λt=>(t.1,t.2.birth)),acc.map (gh M),acc,⟨S,c1,by rw[c2,F,aY],λi r x g e=>?_⟩,by rw[aY];omega,f _ _ ob,by rw[aY];omega,by rw[aY],λi b x g e=>?_,λa2 H7 s6 na2 Y=>?_⟩
 ·rw[cF]at e;obtain⟨t,s,rfl⟩:=Option.map_eq_some_iff.mp e;obtain⟨fa,⟨z,_⟩,_⟩:=c3 i r (Ze1 M t) g (Zx1 s);exact⟨_,z⟩
 ·rw[cF,e]at g;obtain⟨c,hc,_⟩:=has x (List.mem_of_getElem? e);cases g;rw[CJ hc];exact p.dict hc
 ·refine Zz1 (cB.of (s6 _ _ (O _ _ D))) (cB.of Y) ?_;rw[decide_eq_true rfl];exact q _ (f.trans s6)
theorem Zx7{H0 r:Hp}{T:Tg}{A:Wa}{M N:Wm}{w0:Int}{acc:AD}{lc I ls ld:AH}{a:Int}{L O y:Option V}(U:qm K X)(w:WT H T)(j:WJ X H T 1 A (oY M N))(ok:O8 (oY M N))(E:O8 M)
  (p:TB w0 M) (S:M.w=a) (hw:a=1\/a=2) (C:M.sw.phase="walk") (R:M.sw.grey=[]) (nl:NL M N acc) (has:∀i∈acc,∃d,cellAt M i=some d/\d.tone≠M.sw.sense)
  (oc:CtF H0 r lc (wZ M)) (or:RwF H0 r I (rowsOf M)) (D:Nw H0 r H) (l:r ls=none) (os:H ls=some (.lst ((stL M.sw).map V.int))) (s:T ls=(2,0))
  (ob:H ld=some (.lst ((acc.map (gh M)).map V.int))) (J:ld≠ls) (W:acc.length<=4000)
  (q:∀H',jf 2 H H' T T->WJ X H' T 1 A (oY M N)->Q (.bl true) H'):
  qw K (pK K) (pJ K) (vA X) (rP X) (vz K) (nZ X) (CQ X) ⟨n,Q,bk,ct⟩ [some (.ref A.wo),some (.int a),some (.ref A.sw),some (.ref lc),some (.ref I),some (.ref ls),some (.int (bD M)),some (.ref ld),L,O,y] H:=by
 have u:stL (oY M N).sw=[M.sw.sense,M.sw.turn,if M.w=2 then M.sw.looked else Builtin.bitOr M.sw.looked (bD M),M.sw.walks,M.sw.looks+1,M.sw.passes]:=by
  show [N.sw.sense,N.sw.turn,if M.w=2 then N.sw.looked else Builtin.bitOr N.sw.looked (bD M),N.sw.walks,N.sw.looks+1,N.sw.passes]=_;rw[nl.sw]
 have fin:∀c,jf 2 H c T T->c ls=some (.lst ((stL (oY M N).sw).map V.int))->(∀b o,b≠ls->H b=some o->c b=some o)->
   m7 K (pK K) (pJ K) (vA X) (rP X) (vz K) (nZ X) (CQ X) ⟨n,Q,bk,ct⟩ [some (.ref A.wo),some (.int a),some (.ref A.sw),some (.ref lc),some (.ref I),some (.ref ls),some (.int (bD M)),some (.ref ld),L,O,y] c:=λc st f g=>by
  have m:Nw H0 r c:=λb o h0 h=>g b o (aD h l) (D b o h0 h);have P:=j.other st (by decide) (by decide);exact Zx6 U st.wt P ok E p C R nl has (oc.nw m) (or.nw m) f (g _ _ J ob) W λH' B=>q H' ⟨λb o h t=>B _ _ (st.kp b o h t),λb o h=>by
   obtain⟨Z,Y⟩:=st.al b o h;exact⟨Z,B _ _ Y⟩,st.tg,st.wt.same B⟩ (P.same B)
 unfold qw;walk_at"e";refine Zz9 (k:=4) (x:=M.sw.looks) rfl os rfl ?_;have e:jf 2 H (upd H ls (.lst (((stL M.sw).map V.int).set 4 (.int (M.sw.looks+1))))) T T:=jf.upd w os (by rw[s]);have f:upd H ls (.lst (((stL M.sw).map V.int).set 4 (.int (M.sw.looks+1)))) ls=some (.lst [.int M.sw.sense,.int M.sw.turn,.int M.sw.looked,.int M.sw.walks,.int (M.sw.looks+1),.int M.sw.passes]):=aq;have g:∀b o,b≠ls->H b=some o->upd H ls (.lst (((stL M.sw).map V.int).set 4 (.int (M.sw.looks+1)))) b=some o:=λb o l hb=>by rw[aC l];exact hb
 generalize upd H ls (.lst (((stL M.sw).map V.int).set 4 (.int (M.sw.looks+1))))=c at e f g ⊢;walk_at"e";refine uY (λz=>?_) (λz=>?_)
 ·walk_at"e";refine je (cB.of f) (v:=.int M.sw.looked) rfl ?_;walk_at"e";refine⟨ls,_,2,2,rfl,rfl,f,rfl,?_⟩;have F:jf 2 c (upd c ls (.lst ((stL (oY M N).sw).map V.int))) T T:=jf.upd e.wt f (by rw[s]);rw[show([V.int M.sw.sense,.int M.sw.turn,.int M.sw.looked,.int M.sw.walks,.int (M.sw.looks+1),.int M.sw.passes].set 2 (.int (Builtin.bitOr M.sw.looked (bD M))))=(stL (oY M N).sw).map V.int from by
   rw[u,if_neg (by rw[S,z];decide)];rfl]
  walk_at"e";exact fin _ (e.trans F) aq λb o l hb=>by rw[aC l];exact g b o l hb
 ·walk_at"e";refine fin _ e ?_ g;rw[u,if_pos (by omega)];exact f
theorem WJ.ZAk{H0:Hp}{T:Tg}{A:Wa}{M:Wm}{s:Nat}{l:AH}{v:Nat×Nat}(j:WJ X H0 T s A M)(a:aW H0 H)(c:H0 l=none):WJ X H (ji T l v) s A M:=
 j.mv (H':=H) (T':=ji T l v) ⟨λb o h _ _=>a b o h,λb o h=>jg (aD h c)⟩ λb o h _=>a b o h
theorem Zx8{H0 r:Hp}{T:Tg}{A:Wa}{M:Wm}{hs:Qz}{k:Nat}{lc lr ls ld:AH}{d:Int}(Tx:qm K X)(s0:aW H0 r)(sb:aW r H)(w:WT H0 T)(j:WJ X H0 T 1 A M)(kw:KW M hs k)(hb:HsB hs)(hk:k<=900)(p:TB d M)
  (ph:M.sw.phase="walk") (hg:M.sw.grey=[])
  (oc:CtF H0 r lc (wZ M)) (or:RwF H0 r lr (rowsOf M)) (nb:r ls=none) (os:H ls=some (.lst ((stL M.sw).map V.int))) (ob:H ld=some (.lst ((HD M).map V.int))) (S:r ld=none) (v:ld≠ls)
  (q:∀H' T' A' M',Kp H0 H' T T'->WT H' T'->WJ X H' T' 1 A' M'->A'.wo=A.wo->KW M' hs k->TB d M'->Q (.bl true) H'):
  qQ K (Hl K) (pK K) (pJ K) (vA X) (rP X) (vz K) (nZ X) (bU X Ziu) (CQ X) ⟨n,Q,bk,ct⟩ [some (.ref A.wo),some (.int d),some (.ref A.sw),some (.ref lc),some (.ref lr),some (.ref ls),some (.int (bD M)),some (.ref ld),some (.bl (HQ M)),none,none] H:=by
 have ok:=kw.ok hb hk;have i:=s0.trans sb;have y:H0 ls=none:=s0.free nb;have hw:M.w=0\/M.w=1\/M.w=2:=by
  obtain⟨dl,ol⟩:=j.jb.ol;rcases ol with ⟨e,_⟩ | ⟨e,_⟩ | ⟨e,_⟩
  ·exact .inl e
  ·exact .inr (.inl e)
  ·exact .inr (.inr e)
 obtain⟨s,f1,f2,P,f4,f5⟩:=Zjm p ph;have Z:=Zop hw f2 P;have la:s.length<=4000:=by
  have C:∀x∈rowsOf M,x.length<=100:=λx hx=>by
   unfold rowsOf at hx;obtain⟨m,hm,rfl⟩:=List.mem_map.mp hx;rw[aY];exact ok.hl m hm
  have ml:(rowsOf M).length=M.hands.length:=by unfold rowsOf;rw[aY]
  have l5:=j.jd.l5;have lh:=j.jd.lh;have h1:=sZ (inP (lU (wZ M))) (Ui (bD M) (rowsOf M) 0) [];have h2:=Rq (bD M) 100 (rowsOf M) 0 C;have h3:HD M=jA (inP (lU (wZ M))) (Ui (bD M) (rowsOf M) 0) []:=rfl;rw[<- h3,P,aY,List.length_nil]at h1;omega
 rw[P]at ob;have j1:WJ X H (ji T ls (2,0)) 1 A M:=j.ZAk i y;have w1:WT H (ji T ls (2,0)):=λb hb=>by
  rw[jg (λz=>by rw[z,os]at hb;cases hb)];exact w b (i.free hb)
 unfold qQ;walk_at"e";refine⟨_,rfl,ji T ls (2,0),1,A,M,0,[],w1,by decide,j1,rfl,ok,trivial,λz=>absurd (ph.symm.trans z) (by decide),λe M' J F I A3 ev st j3 aw evn lo=>?_⟩;have l:=kw.step J;have p3:=p.step J;have B:Kp H0 F T I:=(Kp.tag y i).trans (Kp.stp st ⟨by decide,by decide⟩);obtain⟨le,nle,L,ole⟩:=evn;obtain⟨f,U⟩:=aw;cases c:HQ M with
 | false=>
  have hz:=Zzs J ph hg (Z.mp c);walk_at"e";refine Cv L ?_;walk_at"e";refine⟨ev,_,rfl,.inr (gw.of L),?_⟩;walk_at"e";refine uY (λ_=>?_) (λz=>absurd rfl z);walk_at"e";refine⟨ev,_,0,_,rfl,rfl,gw.of L,rfl,?_⟩;walk_at"e";refine⟨aR (by simp),λtt N=>?_⟩;refine⟨tt,_,rfl,.inr (gw.of aq),rfl,rfl,?_⟩;rw[show(if false=true then !inV (.str e.word) [.str "cut",.str "lost"]else inV (.str e.word) [.str "cut",.str "lost"])=true from by
   rcases hz with hz | hz<;>rw[hz]<;>decide]
  have E:=aK N (.tup [.str "cut",.str "lost"]);exact q _ I A3 M' (B.trans (Kp.same E)) (st.wt.same E) (j3.same E) f l p3
 | true=>
  obtain⟨e1,e2⟩:=Zur J ph hg (λz=>by rw[Z.mpr z]at c;cases c);rw[f2]at e1;rw[f1]at e2;subst e1 e2;have g:∀b o,H b=some o->(ji T ls (2,0) b).1≠1->F b=some o:=λb o h t=>st.kp b o h t;have W:I ls=(2,0):=(st.tg _ _ os).trans iw;have O:=g _ _ os (by rw[iw];decide);have u:=g _ _ ob (by rw[jg v,w ld (s0.free S)];decide);have nw3:Nw H0 r F:=λb o h0 h=>g b o (sb _ _ h) (by rw[jg (aD h nb),w b h0];decide);have Y:d=1\/d=2:=by
   have ew:=p.ww;rcases hw with e | e | e
   ·have:tU M:=.inl (by unfold bD;rw[e];rfl);rw[Z.mpr this]at c;cases c
   ·exact .inl (by rw[<- ew];exact e)
   ·exact .inr (by rw[<- ew];exact e)
  walk_at"e";refine Rz (cB.of u) λl4 n4=>?_;generalize R:upd F l4 _=H4;obtain⟨E,g4⟩:=nwO n4 R;walk_at"e";refine⟨aR (by simp),λt5 n5=>?_⟩;generalize R:upd H4 t5 _=H5;obtain⟨s5,g5⟩:=nwO n5 R;have a:=E.trans s5;walk_at"e";refine⟨_,_,rfl,"look",bD M,le,l4,s.map (gh M),a _ _ L,g5,a _ _ ole,s5 _ _ g4,?_⟩;walk_at"e";rw[<- f,<- U];refine Zx7 Tx (st.wt.same a) (j3.same a) (l.ok hb hk) ok p p.ww Y ph hg f4 f5 oc or (λb o h0 h=>a _ _ (nw3 b o h0 h)) nb (a _ _ O) W (a _ _ u) v la λH' D j'=>?_;exact q H' I A3 _ (B.trans ((Kp.same a).trans (Kp.stp D ⟨by decide,by decide⟩))) D.wt j' f l p3
theorem Zx9{H0:Hp}{T:Tg}{A:Wa}{M:Wm}{hs:Qz}{k:Nat}{lc r:AH}{c:Int}(v:qm K X)(i:aW H0 H)(w:WT H0 T)(j:WJ X H0 T 1 A M)(m:KW M hs k)(hb:HsB hs)(hk:k<=900)(p:TB c M)
  (ph:M.sw.phase="walk") (l:M.sw.grey=[]) (oc:CtF H0 H lc (wZ M)) (or:RwF H0 H r (rowsOf M))
  (q:∀H' T' s M',Kp H0 H' T T'->WT H' T'->WJ X H' T' 1 s M'->s.wo=A.wo->KW M' hs k->TB c M'->Q (.bl true) H'):
  qR K (Vp X) (Hl K) (pK K) (pJ K) (vA X) (rP X) (vz K) (nZ X) (bU X Ziu) (CQ X) ⟨n,Q,bk,ct⟩ [some (.ref A.wo),some (.int c),some (.ref A.sw),some (.ref lc),some (.ref r),none,none,none,none,none,none] H:=by
 have ok:=m.ok hb hk;unfold qR;walk_at"e";refine⟨_,rfl,T,1,A,M,j.same i,rfl,by rw[l];decide,λls x y g f=>?_⟩;walk_at"e";refine⟨aR (by simp),λB d=>?_⟩;refine Zz2 (cB.of (aK d _ _ _ f)) (cB.of aq) ?_;rw[decide_eq_false (λz=>nomatch z)];have h:=aK d (.lst []);have b:=h _ _ f;generalize upd x B (.lst [])=D at h b ⊢;have a:=y.trans h;walk_at"e";refine⟨_,_,_,rfl,T,1,A,M,j.same (i.trans a),rfl,ok,p.ww,(oc.nw (Nw.same a)).o,λt ld E u e C old=>?_⟩;walk_at"e";refine⟨t,_,rfl,gw.of C,rfl,_,_,rfl,_,_,rfl,_,_,rfl,rfl,?_⟩;exact Zx8 v i (a.trans u) w j m hb hk p ph l oc or g (u _ _ b) old (a.free e) (aD b e).symm q
theorem Zd6{wo:AH}{f:Int}(d:qm K X)(q:∃T A M hs k,WT H T/\WJ X H T 1 A M/\A.wo=wo/\KW M hs k/\TB f M/\HsB hs/\k<=900/\M.sw.phase≠"lost"/\
 ∀H' T' I M',Kp H H' T T'->WT H' T'->WJ X H' T' 1 I M'->I.wo=wo->KW M' hs k->TB f M'->Q (.bl true) H'):
  Bk K (Vp X) (Hl K) (pK K) (pJ K) (vA X) (rP X) (vz K) (nZ X) (bU X Ziu) (CQ X) ⟨n,Q,bk,ct⟩ [some (.ref wo),some (.int f),none,none,none,none,none,none,none,none,none] H:=by
 obtain⟨T,A,M,hs,k,w,j,rfl,o,p,hb,hk,ph,q⟩:=q;have ok:=o.ok hb hk;have P:=ok.cl;have l5:=j.jd.l5;have lh:=j.jd.lh;obtain⟨dw,ow⟩:=j.jb.ow;obtain⟨ds,os⟩:=j.js.os;have og:=j.js.og;unfold Bk;walk_at"e";refine aH ow d.cW d.Rr bx ?_;walk_at"e";refine aH os d.cS d.n2 fX ?_;walk_at"e";refine zX (λ_=>?_) (λR=>?_)
 ·walk_at"e";refine⟨_,rfl,T,1,A,M,0,[],w,by decide,j,rfl,ok,trivial,λz=>absurd z ph,λe M' r g y u L st v D B lo=>?_⟩;walk_at"e";exact q g y u M' (Kp.stp st ⟨by decide,by decide⟩) st.wt v D.1 (o.step r) (p.step r)
 walk_at"e";refine aH os d.cS d.n3 lC ?_;walk_at"e";refine⟨aR (by simp),λe0 h=>?_⟩;refine Zjx (cB.of (aK h _ _ _ og)) (ms:=[]) (cB.of aq) ?_;have b:=aK h (.lst []);generalize upd H e0 (.lst [])=H1 at b ⊢;walk_at"e";refine zX (λ_=>?_) (λV=>?_)
 ·walk_at"e";refine⟨_,rfl,T,1,A,M,0,[],w.same b,by decide,j.same b,rfl,ok,trivial,λz=>absurd z ph,λe M' r g y u L st v D B lo=>?_⟩;walk_at"e";exact q g y u M' ((Kp.same b).trans (Kp.stp st ⟨by decide,by decide⟩)) st.wt v D.1 (o.step r) (p.step r)
 walk_at"e";refine⟨_,rfl,T,1,A,M,j.same b,rfl,by omega,λc hc=>by have:=ok.fl c hc;omega,λlc rs Z s2 o1 hl hr nl=>?_⟩;have oc:CtF H Z lc (wZ M):=⟨rs,o1,by rw[hl];exact Rh.symm,λi r x W s=>by
  unfold wZ at s;rw[cF]at s;obtain⟨t,U,rfl⟩:=Option.map_eq_some_iff.mp s;obtain⟨Y,z,N,O⟩:=hr i r t W U;exact⟨Y,z,b.free N,b.free O⟩,b.free nl⟩
 have a:=b.trans s2;walk_at"e";refine⟨_,rfl,T,1,A,M,j.same a,rfl,by omega,λm hm=>by have:=ok.hl m hm;omega,λS E g J o2 C F l=>?_⟩;have or:RwF H g S (rowsOf M):=⟨E,o2,C,F,a.free l.1,λr hr=>a.free (l.2.1 r hr)⟩;walk_at"e";exact Zx9 d (a.trans J) w j o hb hk p R V (oc.nw (Nw.same J)) or q
end
section
theorem Zyc{a:AH}(Tx:qm K X)(q:∃ns:AD,cB K H a (ns.map V.int)/\ns.length<=63/\∀H',Q (.bl true) H'):
  Zih K X.W (vD X) (rQ K) (RT X rf) (RQ K) (RP X) (Zdj K) (RG K) (RD X) ⟨n,Q,bk,ct⟩ [some (.ref a),none,none,none,none] H:=by
 obtain⟨l,hS,S,h⟩:=q;unfold Zih;walk_at"e";refine⟨a,0,rfl,l,hS,by decide,λz0=>?_⟩;walk_at"e";generalize z0 % 12=way;refine⟨a,rfl,l,hS,λlh hs H1 s1 nlh ho hb=>?_⟩;walk_at"e";refine⟨a,rfl,l,s1.seq hS,λroom=>?_⟩;walk_at"e";refine⟨_,rfl,λki lk w t H2 t0 t1 ew s2 nki nlk kd=>?_⟩;have s02:=s1.trans s2;have I:=ho.same s2;obtain⟨ts,olh,al⟩:=id I;have lts:=al.length;have n5:=hb.n5;walk_at"e";refine Rz (cB.of olh) λL ZCo=>?_;generalize zz:upd H2 L _=H3;obtain⟨s3,g3⟩:=nwO ZCo zz;have g:=kd.same s3;have ho3:=I.same s3;have s03:=s02.trans s3;walk_at"e";intro wo u c ndx ned;have C:aW H3 (upd (upd H3 u (.own wo)) wo (.ins X.W u [])):=λb o hb=>by rw[aC (aD hb c),aC (aD hb ndx)];exact hb
 have g7:upd (upd H3 u (.own wo)) wo (.ins X.W u []) wo=some (.ins X.W u []):=aq;generalize upd (upd H3 u (.own wo)) wo (.ins X.W u [])=H7 at C g7 ⊢;have F:=g.same C;have nkw:ki≠wo:=by
  obtain⟨⟨_,e⟩,_⟩:=g;exact aD e c
 have nlw:lk≠wo:=by
  obtain⟨_,⟨_,e⟩⟩:=g;rcases e with ⟨_,e⟩ | ⟨_,e⟩ | ⟨_,e⟩
  ·exact aD e c
  ·exact aD e c
  ·exact aD e c
 refine⟨wo,_,ki,L,rfl,u,λ_=>(0,0),1,lk,w,t,ts,hs,g7,λ_ _=>rfl,by decide,F,rfl,rfl,nkw,nlw,C _ _ g3,Zm7 lts λi x m e1 e2=>?_,by omega,λH8 T8 A8 k8 t8 w8 aw8 j8=>⟨rfl,?_⟩⟩
 ·obtain⟨x',e3,z⟩:=al.get e2;rw[e1]at e3;cases e3;have:=hb.sb m (List.mem_of_getElem? e2);exact⟨C _ _ (s3 _ _ z),by omega,by omega⟩
 have P:aW H3 H8:=λb o hb=>k8 b o (C _ _ hb) (aD hb c);have s08:aW H H8:=s03.trans P;have ho8:=ho3.same P;have p0:KW (Zfc room hs w t) hs 0:=KW.new t0 t1;have R:TB (way % 3) (Zfc room hs w t):=by rw[<- ew];exact TB.new
 generalize Zfc room hs w t=M at j8 p0 R;clear k8 t8 C g7 F g;walk_at"e";refine⟨a,lh,rfl,l,hs,s08.seq hS,S,ho8,hb,λJ H9 s9 rl=>?_⟩;obtain⟨_,nlr,D,N,lvs,E⟩:=rl;have Z:∀v∈D,v=.non\/∃t d,v=.ref t/\T8 t=(0,0)/\H9 t=some (.tup (dV d))/\okR hs d:=λv hv=>by
  rcases E v hv with z | ⟨t,d,e,f,o,k⟩
  ·exact .inl z
  ·exact .inr ⟨t,d,e,w8 _ f,o,k⟩
 refine⟨J,rfl,⟨_,cB.of N⟩,forL D (λi σ B=>∃T A M v4,σ=[some (.ref a),some (.int way),some (.ref lh),some (.ref wo),v4]/\WT B T/\WJ X B T 1 A M/\A.wo=wo/\KW M hs i/\TB (way % 3) M/\B J=some (.lst D)/\T J=(0,0)/\∀v∈D,v=.non\/∃t d,v=.ref t/\T t=(0,0)/\B t=some (.tup (dV d))/\okR hs d) ⟨T8,A8,M,_,rfl,w8.same s9,j8.same s9,aw8,p0,R,N,w8 _ nlr,Z⟩ (λ_ _ _ _ ⟨_,_,_,_,_,_,_,_,_,_,z,_⟩=>cB.of z) ?_ ?_⟩
 ·rintro i x σ B hi ⟨T,A,M,v4,rfl,w,j,U,p,tb,ol,tl,Z⟩;have hil:=(dY hi).1;obtain⟨dw,ow⟩:=j.jb.ow;obtain⟨ds,os⟩:=j.js.os;rw[U]at ow;have kp:∀{H':Hp}{s:Tg},Kp B H' T s->H' J=some (.lst D)/\s J=(0,0)/\∀v∈D,v=.non\/∃t d,v=.ref t/\s t=(0,0)/\H' t=some (.tup (dV d))/\okR hs d:=λ{H' s} k=>by
   refine⟨k.k _ _ ol (.inl (by rw[tl])),(k.tg _ _ ol).trans tl,λv hv=>?_⟩;rcases Z v hv with z | ⟨t,d,e,f,o,kk⟩
   ·exact .inl z
   ·exact .inr ⟨t,d,e,(k.tg _ _ o).trans f,k.k _ _ o (.inl (by rw[f])),kk⟩
  walk_at"e";refine aH ow Tx.cW Tx.Rr bx ?_;walk_at"e";refine aH os Tx.cS Tx.n2 fX ?_;walk_at"e";refine uY (λ_=>?_) (λph=>?_)
  ·walk_at"e";exact h _
  ·rcases Z x (List.mem_of_getElem? hi)with rfl | ⟨t,d,rfl,tt,ot,od⟩
   ·walk_at"e";refine⟨_,_,rfl,T,A,M,hs,i,w,j,U,p,tb,hb,by omega,ph,λH' s A' M' k w' j' y p' tb'=>?_⟩;walk_at"e";obtain⟨O,Y,k3⟩:=kp k;exact⟨s,A',M',_,rfl,w',j',y,p'.mono (by omega),tb',O,Y,k3⟩
   ·have ok:=p.ok hb (by omega);have hcl:=ok.cl;have hnl:=ok.nl;walk_at"e";refine⟨_,t,rfl,T,1,A,M,d,w,by decide,j,U,ot,p.okD od,hcl,λz=>by have:=ok.gl z;omega,p.tl,by omega,λr er H' sm=>?_,λe M' he H' s A' av st j' y ev=>?_⟩
    ·walk_at"e";obtain⟨O,Y,k3⟩:=kp (Kp.same sm);exact⟨T,A,M,_,rfl,w.same sm,j.same sm,U,p.mono (by omega),tb,O,Y,k3⟩
    ·walk_at"e";obtain⟨O,Y,k3⟩:=kp (Kp.stp st ⟨by decide,by decide⟩);exact⟨s,A',M',_,rfl,st.wt,j',y,p.deed od he,tb.deed he,O,Y,k3⟩
 ·rintro σ B ⟨T,A,M,v4,rfl,w,j,U,p,tb,ol,tl,Z⟩;walk_at"e";exact h _
end
def top(i:Nat):Stmt:=PySem.Challenge.pw_greywalk_k26_hands_looked_at.main.body.getD i (.Pass ⟨0,0,0,0⟩)
abbrev uN:Stmt:=inClass (top 8) 0
abbrev Ba:Stmt:=inClass (top 8) 1
abbrev sS:Stmt:=inClass (top 8) 2
abbrev uL:Stmt:=inClass (top 9) 0
abbrev xq:Stmt:=inClass (top 9) 1
abbrev IV:Stmt:=inClass (top 9) 2
abbrev Em:Stmt:=inClass (top 9) 3
abbrev El:Stmt:=inClass (top 9) 4
abbrev Az:Stmt:=inClass (top 9) 5
abbrev MN:Stmt:=top 10
abbrev Iz:Stmt:=top 11
abbrev Ms:Stmt:=top 13
abbrev SQ:Stmt:=top 14
abbrev uM:Stmt:=inClass (top 16) 0
abbrev qt:Stmt:=inClass (top 17) 0
abbrev sH:Stmt:=inClass (top 18) 0
abbrev Zic:Stmt:=top 19
abbrev yq:Stmt:=top 20
abbrev DP:Stmt:=top 21
abbrev DG:Stmt:=top 22
abbrev DK:Stmt:=top 23
abbrev Ak:Stmt:=top 24
abbrev Mu:Stmt:=top 25
abbrev Ag:Stmt:=top 26
abbrev Dz:Stmt:=top 27
abbrev Zag:Stmt:=top 28
abbrev Zib:Stmt:=top 29
abbrev Iu:Stmt:=top 30
abbrev Zid:Stmt:=top 31
abbrev Zaf:Stmt:=top 32
abbrev Mr:Stmt:=top 33
abbrev Aj:Stmt:=top 35
abbrev vN:Stmt:=top 36
abbrev vL:Stmt:=top 37
abbrev Zi9:Stmt:=top 38
abbrev yp:Stmt:=top 39
abbrev Zpd:Stmt:=top 40
abbrev Am:Stmt:=top 41
abbrev Iv:Stmt:=top 42
abbrev Ah:Stmt:=top 43
abbrev vM:Stmt:=top 44
abbrev Ai:Stmt:=top 45
abbrev s_end:Stmt:=top 46
abbrev sG:Stmt:=top 47
abbrev Zia:Stmt:=top 49
abbrev S7:Stmt:=top 53
abbrev qu:Stmt:=inClass (top 54) 2
abbrev pM:Stmt:=inClass (top 54) 3
abbrev uJ:Stmt:=inClass (top 54) 4
abbrev sJ:Stmt:=inClass (top 55) 2
abbrev sO:Stmt:=inClass (top 56) 2
abbrev sI:Stmt:=inClass (top 57) 2
abbrev Ay:Stmt:=inClass (top 57) 3
abbrev uK:Stmt:=inClass (top 58) 0
abbrev Ir:Stmt:=top 60
abbrev MK:Stmt:=top 61
abbrev DN:Stmt:=top 62
abbrev yl:Stmt:=top 63
abbrev ym:Stmt:=top 64
abbrev My:Stmt:=top 65
abbrev S6:Stmt:=top 66
abbrev S5:Stmt:=top 67
abbrev MJ:Stmt:=top 68
abbrev MF:Stmt:=top 69
abbrev Mz:Stmt:=top 70
abbrev Iw:Stmt:=top 71
abbrev Mw:Stmt:=top 72
abbrev Mx:Stmt:=top 73
abbrev Mv:Stmt:=top 74
abbrev yo:Stmt:=top 75
abbrev Zxi:Stmt:=top 77
abbrev Ej:Stmt:=top 79
abbrev Eh:Stmt:=top 80
abbrev DQ:Stmt:=top 81
abbrev Aq:Stmt:=top 82
abbrev Ea:Stmt:=top 83
abbrev Ef:Stmt:=top 84
abbrev Ec:Stmt:=top 85
abbrev Ed:Stmt:=top 86
abbrev Ei:Stmt:=top 87
abbrev Aw:Stmt:=top 88
abbrev Ao:Stmt:=top 89
abbrev DY:Stmt:=top 90
abbrev yt:Stmt:=top 91
abbrev Av:Stmt:=top 92
abbrev Eg:Stmt:=top 93
abbrev Ar:Stmt:=top 94
abbrev DR:Stmt:=top 95
abbrev yu:Stmt:=top 96
abbrev yr:Stmt:=top 97
abbrev An:Stmt:=top 98
abbrev Ek:Stmt:=top 99
abbrev Eb:Stmt:=top 100
abbrev IK:Stmt:=top 101
abbrev DX:Stmt:=top 102
abbrev DW:Stmt:=top 103
abbrev SX:Stmt:=top 104
structure Hh(P:AL)(w:AN)(K:aB)(mg:As)(base:Heap)(n:Nat)(f:AH)(fd:AK)(ps:AG)(sp:Sp):Prop where
 g:wO P w K mg base (G.Vu P w) n f fd ps sp
 b:Binds K fd ps []
 k:W.keepIn K (.ref f)=true
theorem hh{P:AL}{w:AN}{K:aB}{mg:As}{base:Heap}{n:Nat}{f:AH}{fd:AK}{ps:AG}{sp:Sp}(g:wO P w K mg base (G.Vu P w) n f fd ps sp)(b:Binds K fd ps [])(k:W.keepIn K (.ref f)=true):Hh P w K mg base n f fd ps sp:=⟨g,b,k⟩
abbrev lB(P:AL)(w:AN)(K:aB)(mg:As)(base:Heap)(n:Nat)(f:AH)(fd:AK)(ps:AG)(sp:Sp):Prop:=wO P w K mg base (G.Vu P w) n f fd ps sp
theorem fP{X:Cx}{n k:Nat}{f:AH}{fd:AK}{ps:AG}{sp:Sp}{x:Str}{e:AM}{c:AF}{t:TA}{p a:Pos}(h:Hh X.prog X.w X.K X.mg X.base n f fd ps sp)(hr:Room k X.A)(hm:X.mg x=some (.ref f))(m:PA X (e::c) t)(hn:n<=k:=by decide)(j:X.env.kindOf x=some .globalImplicit:=by rfl)(i:(x == ("__debug__":Str))=false:=by decide)(l:starEach (e::c) X.env=(false,eval e X.env)::starEach c X.env:=by rfl)(d:(backTo a (starEach c X.env)).any (·.1)=false:=by rfl):PE X (.Call (.Name x p) (e::c) [] a) (aQ sp [] E0 t):=xG h.g (hr.mono hn) j hm h.k h.b .nil G.gk m i l d
theorem cX{N P:AG}{h:Scope}(a:h.kind=.function:=by rfl)(b:h.isCoroutine=false:=by rfl)(c:h.isGenerator=false:=by rfl)(d:N.Nodup:=by decide +kernel)(e:N.take P.length=P:=by rfl)(f:∀x∈P,h.names.lookup x=some .local\/h.names.lookup x=some .cell:=by decide +kernel)(g:∀y∈h.names,y.2≠.free:=by decide +kernel):aP N P h:=⟨a,b,c,d,e,f,g⟩
structure Txt(w:AN)(K:aB)(mg:As)(bB bw mH bK fG dO fH gD lN fO aL aU bV bC dG gf dN dD iQ lH jG jF gb iY eZ oF pZ dF cM dj zA fU iK jD eE jl oG jj jV ur zz ie wF uq oE gZ cV cT zx gK Ik jm mF gY cU jk Ij bY zy o5 bR bZ cN dJ dM dI ig dB eO lg jE gH fQ iD jN jM iI iH iG fJ iB iC iy gJ XF gq eF iM jr j6 kj j9 kh kJ jw jq jZ fV ju kE jt jW gO gM jo kO j7 mG jY jX:AH):Prop where
 Yx:G.Tab K w mg "STEPS" [("rest",cV),("walk",cT),("give",cU),("lost",bY)]
 Yy:G.Tab K w mg "DEEDS" [("make",iD),("get",jN),("put",jM),("copy",iI),("drop",iH),("give",iG),("write",fJ),("read",iB),("name",iC),("seek",iy)]
 di:Im K bB
 Zr1:mg "Cell"=some (.ref bB)
 Rv:Mk K bB dG
 dX:bL K bB "birth"
 mY:bL K bB "bulk"
 mX:bL K bB "tone"
 jU:bL K bB "load"
 fc:bL K bB "fields"
 RB:G.EqD K bB
 cR:Im K bw
 Zqx:mg "Heap"=some (.ref bw)
 Rt:Mk K bw dD
 oU:bL K bw "room"
 bN:bL K bw "cells"
 jB:bL K bw "used"
 mW:bL K bw "born"
 Zm4:Im K mH
 Zqy:mg "Hand"=some (.ref mH)
 Ru:Mk K mH dF
 xO:bL K mH "name"
 vp:bL K mH "slots"
 Vh:Im K bK
 YQ:mg "Sweeper"=some (.ref bK)
 Ck:Mk K bK cM
 qe:bL K bK "sense"
 qg:bL K bK "phase"
 rG:bL K bK "grey"
 pG:bL K bK "looked"
 rD:bL K bK "turn"
 vm:bL K bK "at"
 rE:bL K bK "stop"
 qd:bL K bK "walks"
 qi:bL K bK "looks"
 pF:bL K bK "passes"
 rF:bL K bK "loss"
 Zgl:Im K fG
 Zll:mg "World"=some (.ref fG)
 Kg:Mk K fG dj
 vh:bL K fG "heap"
 vg:bL K fG "kind"
 uf:bL K fG "hands"
 ue:bL K fG "names"
 qb:bL K fG "sweeper"
 Gn:Im K dO
 Zlm:mg "First"=some (.ref dO)
 YH:G.Mk0 K dO
 Lg:Im K fH
 Zr0:mg "Each"=some (.ref fH)
 Zfe:G.Mk0 K fH
 Lf:Im K gD
 Zqw:mg "Last"=some (.ref gD)
 Zfd:G.Mk0 K gD
 Zm3:Im K lN
 Zbm:mg "Kind"=some (.ref lN)
 GR:Mk K lN dB
 rH:bL K lN "looking"
 vo:bL K lN "tells"
 Qo:mg "GreyError"=some (.ref fO)
 Qp:mg "EmptySlot"=some (.ref aL)
 YS:mg "NoField"=some (.ref aU)
 Zqz:mg "Full"=some (.ref bV)
 Zfh:mg "NoName"=some (.ref bC)
 wX:G.Zss K aL
 Zu:G.Zss K bV
 GD:G.Zss K aU
 Jz:G.Zss K bC
 lO:W.exmOne K (.ref aL) (.ref fO)=some true
 mK:W.exmOne K (.ref aU) (.ref fO)=some true
 pI:W.exmOne K (.ref bV) (.ref fO)=some true
 nF:W.exmOne K (.ref bC) (.ref fO)=some true
 zV:Meth K fH "at_begin" bR
 yZ:Meth K fH "stays" cN
 wu:Meth K dO "next_look" bZ
 wj:Meth K dO "stays" cN
 zU:Meth K gD "at_begin" bR
 N7:Meth K bB "__init__" dG
 ug:Meth K bB "units" gf
 xU:Meth K bB "has_field" dN
 N5:Meth K bw "__init__" dD
 Kl:Meth K bw "make" iQ
 P0:Meth K bw "lay" lH
 Ko:Meth K bw "back" jG
 Km:Meth K bw "free" jF
 yX:Meth K bw "there" gb
 tQ:mg "cell_at"=some (.ref iY)
 nj:mg "birth_at"=some (.ref eZ)
 YL:mg "reached"=some (.ref oF)
 Up:mg "onward"=some (.ref pZ)
 N6:Meth K mH "__init__" dF
 Hu:Meth K bK "__init__" cM
 Kh:Meth K fG "__init__" dj
 Zqt:mg "held"=some (.ref zA)
 uh:mg "births_held"=some (.ref fU)
 xV:mg "births_at"=some (.ref iK)
 Gd:mg "looked_at"=some (.ref jD)
 mZ:mg "has_sense"=some (.ref eE)
 Ks:mg "is_walking"=some (.ref jl)
 YM:mg "mark_of"=some (.ref oG)
 Cm:mg "told_cells"=some (.ref jj)
 Qa:mg "told_cell"=some (.ref jV)
 Zlk:mg "begin"=some (.ref ur)
 Zqs:mg "note"=some (.ref zz)
 tO:mg "note_all"=some (.ref ie)
 Zji:mg "gone"=some (.ref wF)
 Zlj:mg "roots"=some (.ref uq)
 YK:mg "root_of"=some (.ref oE)
 Cq:mg "note_hands"=some (.ref gZ)
 Uo:mg "step_at_rest"=some (.ref cV)
 Ul:mg "step_in_walk"=some (.ref cT)
 Zqr:mg "walk"=some (.ref zx)
 Ib:mg "look_or_cut"=some (.ref gK)
 Zwn:mg "cut"=some (.ref Ik)
 Ku:mg "first_loss"=some (.ref jm)
 Uq:mg "given_up"=some (.ref mF)
 Cp:mg "told_again"=some (.ref gY)
 Um:mg "step_in_give"=some (.ref cU)
 Kr:mg "pass_place"=some (.ref jk)
 Zwm:mg "end"=some (.ref Ij)
 Oa:mg "step_when_lost"=some (.ref bY)
 Zjh:mg "step"=some (.ref zy)
 Ur:mg "all_of"=some (.ref o5)
 Hv:Meth K fH "at_begin" bR
 Gb:Meth K dO "next_look" bZ
 NT:Meth K fH "stays" cN
 xR:Meth K dO "at_begin" dJ
 xT:Meth K fH "next_look" dM
 xQ:Meth K gD "next_look" dI
 yW:Meth K gD "stays" ig
 NZ:Meth K lN "__init__" dB
 lF:mg "slots_of"=some (.ref eO)
 zW:mg "cell_in"=some (.ref lg)
 Ge:mg "fields_in"=some (.ref jE)
 HY:mg "told_as_old"=some (.ref gH)
 za:mg "told_as_new"=some (.ref fQ)
 Zna:mg "do_make"=some (.ref iD)
 Zqv:mg "do_get"=some (.ref jN)
 Zqu:mg "do_put"=some (.ref jM)
 Znd:mg "do_copy"=some (.ref iI)
 Znc:mg "do_drop"=some (.ref iH)
 Znb:mg "do_give"=some (.ref iG)
 Zjj:mg "do_write"=some (.ref fJ)
 Zn8:mg "do_read"=some (.ref iB)
 Zn9:mg "do_name"=some (.ref iC)
 Zn7:mg "do_seek"=some (.ref iy)
 Ia:mg "place_named"=some (.ref gJ)
 ZAx:mg "do"=some (.ref XF)
 m5:mg "_law_cell"=some (.ref gq)
 cZ:mg "_law_draw"=some (.ref eF)
 xW:mg "_law_word"=some (.ref iM)
 Kw:mg "_law_hands"=some (.ref jr)
 Qg:mg "_law_room"=some (.ref j6)
 Qk:mg "_law_kind"=some (.ref kj)
 Qi:mg "_law_made"=some (.ref j9)
 Qj:mg "_law_load"=some (.ref kh)
 Qm:mg "_law_deed"=some (.ref kJ)
 KC:mg "_law_deeds"=some (.ref jw)
 Kv:mg "_law_start"=some (.ref jq)
 Qf:mg "_law_rows"=some (.ref jZ)
 um:mg "_law_number"=some (.ref fV)
 Kz:mg "_law_event"=some (.ref ju)
 Ql:mg "_law_hand"=some (.ref kE)
 Ky:mg "_law_first"=some (.ref jt)
 Qc:mg "_law_with"=some (.ref jW)
 Ig:mg "_law_marked"=some (.ref gO)
 Ie:mg "_law_places"=some (.ref gM)
 Cr:mg "_law_state"=some (.ref jo)
 Qn:mg "_law_bits"=some (.ref kO)
 Qh:mg "_law_pale"=some (.ref j7)
 Us:mg "_law_due"=some (.ref mG)
 Qe:mg "_law_seen"=some (.ref jY)
 Qd:mg "_law_step"=some (.ref jX)
 Zt:mg "bool"=none
 qG:mg "enumerate"=none
 Zl5:mg "int"=none
 gP:mg "isinstance"=none
 jT:mg "len"=none
 vJ:mg "list"=none
 pB:mg "range"=none
 Zl4:mg "str"=none
 Gz:mg "tuple"=none
 Zws:G.GC mg "NEW" (.int 2)
 Zwr:G.GC mg "OLD" (.int 1)
abbrev uX:AG:=["self","birth","many","bulk","tone"]
abbrev tK:AG:=["self","field"]
abbrev uV:AG:=["self","room"]
abbrev Fz:AG:=["self","many","bulk","tone"]
abbrev Jp:AG:=["self","cell"]
abbrev FJ:AG:=["self","place"]
abbrev qH:AG:=["heap","place"]
abbrev mz:AG:=["heap","place"]
abbrev Ng:AG:=["heap","rows"]
abbrev Tt:AG:=["heap","places","way"]
abbrev uW:AG:=["self","name","many"]
abbrev tD:AG:=["self","room","kind","hands"]
abbrev uz:AG:=["heap","places"]
abbrev xK:AG:=["world","hand"]
abbrev lY:AG:=["world","cell"]
abbrev Nh:AG:=["world","place"]
abbrev Fb:AG:=["world","place"]
abbrev Zis:AG:=["world","place"]
abbrev qy:AG:=["world","places"]
abbrev Zaq:AG:=["world","place","birth"]
abbrev Nf:AG:=["world","place","birth"]
abbrev vf:AG:=["world","hands"]
abbrev qz:AG:=["self","hands"]
abbrev pR:AG:=["self","looked","hands"]
abbrev tG:AG:=["self","hands"]
abbrev tH:AG:=["self","looked","hands"]
abbrev tE:AG:=["self","looked","hands"]
abbrev uU:AG:=["self","looking","tells"]
abbrev lE:AG:=["world","hand"]
abbrev vI:AG:=["world","hand","slot"]
abbrev xM:AG:=["world","hand","slot","field"]
abbrev yR:AG:=["world","place"]
abbrev t7:AG:=["world","hand","place"]
abbrev Nm:AG:=["world","deed"]
abbrev Tv:AG:=["world","deed"]
abbrev Tu:AG:=["world","deed"]
abbrev Nr:AG:=["world","deed"]
abbrev Nq:AG:=["world","deed"]
abbrev Np:AG:=["world","deed"]
abbrev Jm:AG:=["world","deed"]
abbrev Nj:AG:=["world","deed"]
abbrev Nk:AG:=["world","deed"]
abbrev Ni:AG:=["world","deed"]
abbrev yS:AG:=["world","word"]
abbrev Zxp:AG:=["world","deed"]
abbrev qI:AG:=["_law_script","_law_k"]
abbrev lZ:AG:=["_law_cell_here","_law_prime","_law_many"]
abbrev uA:AG:=["_law_cell_here","_law_w"]
abbrev BW:AG:=["_law_script"]
abbrev Fl:AG:=["_law_script"]
abbrev Fv:AG:=["_law_number_here"]
abbrev Fq:AG:=["_law_n","_law_h","_law_s"]
abbrev Ft:AG:=["_law_n"]
abbrev Fx:AG:=["_law_n","_law_hands_here","_law_seed"]
abbrev Ca:AG:=["_law_n","_law_hands_here","_law_seed"]
abbrev BV:AG:=["_law_hands_here","_law_cell_here","_law_seed"]
abbrev Fj:AG:=["_law_script","_law_hands_here"]
abbrev uc:AG:=["_law_found"]
abbrev BZ:AG:=["_law_found","_law_due_here"]
abbrev Fw:AG:=["_law_world","_law_deed_here"]
abbrev BX:AG:=["_law_rows_here","_law_bits_here"]
abbrev Fe:AG:=["_law_cells","_law_births","_law_mark"]
abbrev yV:AG:=["_law_after","_law_before","_law_marks"]
abbrev yU:AG:=["_law_cells","_law_births"]
abbrev BR:AG:=["_law_sweeper"]
abbrev Fy:AG:=["_law_way","_law_looked","_law_hands_here"]
abbrev Fp:AG:=["_law_cells"]
abbrev Jo:AG:=["_law_world","_law_way","_law_cells"]
abbrev Fg:AG:=["_law_world","_law_looked"]
abbrev Ff:AG:=["_law_world","_law_way"]
theorem Mq:aP ["self","birth","many","bulk","tone"] uX (aG uN):=cX
theorem Wf:aP ["self"] ["self"] (aG Ba):=cX
theorem JW:aP ["self","field"] tK (aG sS):=cX
theorem Mm:aP ["self","room"] uV (aG uL):=cX
theorem Zac:aP ["self","many","bulk","tone","cell"] Fz (aG xq):=cX
theorem Zed:aP ["self","cell","place"] Jp (aG IV):=cX
theorem Zae:aP ["self","place","cell"] FJ (aG Em):=cX
theorem Zad:aP ["self"] ["self"] (aG El):=cX
theorem We:aP ["self"] ["self"] (aG Az):=cX
theorem Zi7:aP ["heap","place"] qH (aG MN):=cX
theorem Zeb:aP ["heap","place","cell"] mz (aG Iz):=cX
theorem Zhx:aP ["heap","rows","queue","number","row","listed","taken","place","way"] Ng (aG Ms):=cX
theorem Zml:aP ["heap","places","way"] Tt (aG SQ):=cX
theorem Mp:aP ["self","name","many"] uW (aG uM):=cX
theorem Hq:aP ["self"] ["self"] (aG qt):=cX
theorem JR:aP ["self","room","kind","hands"] tD (aG sH):=cX
theorem Zt9:aP ["world"] ["world"] (aG Zic):=cX
theorem Sx:aP ["world"] ["world"] (aG yq):=cX
theorem Z6:aP ["heap","places"] uz (aG DP):=cX
theorem Z3:aP ["world","hand"] xK (aG DG):=cX
theorem Z4:aP ["world","cell"] lY (aG DK):=cX
theorem V4:aP ["world"] ["world"] (aG Ak):=cX
theorem Zhy:aP ["world","place","sweeper","toned"] Nh (aG Mu):=cX
theorem V0:aP ["world"] ["world"] (aG Ag):=cX
theorem Z2:aP ["world","place","cell","fields"] Fb (aG Dz):=cX
theorem Zpa:aP ["world","sweeper"] ["world"] (aG Zag):=cX
theorem Zt8:aP ["world","place","sweeper","cell"] Zis (aG Zib):=cX
theorem Ze8:aP ["world","places","births","place","birth"] qy (aG Iu):=cX
theorem Zta:aP ["world","place","birth","cell"] Zaq (aG Zid):=cX
theorem Zp9:aP ["world"] ["world"] (aG Zaf):=cX
theorem Zhw:aP ["world","place","birth"] Nf (aG Mr):=cX
theorem V3:aP ["world","hands","noted","number","hand"] vf (aG Aj):=cX
theorem Q3:aP ["world","noted"] ["world"] (aG vN):=cX
theorem QX:aP ["world"] ["world"] (aG vL):=cX
theorem Zt6:aP ["world","sweeper","cell"] ["world"] (aG Zi9):=cX
theorem Sv:aP ["world","sweeper","looking","hands","noted"] ["world"] (aG yp):=cX
theorem Zxh:aP ["world","sweeper","loss","births"] ["world"] (aG Zpd):=cX
theorem V5:aP ["world","place","way","cell"] ["world"] (aG Am):=cX
theorem Ze9:aP ["world","heap"] ["world"] (aG Iv):=cX
theorem V1:aP ["event"] ["event"] (aG Ah):=cX
theorem QZ:aP ["world"] ["world"] (aG vM):=cX
theorem V2:aP ["world","sweeper","place","cell"] ["world"] (aG Ai):=cX
theorem Zxg:aP ["world","sweeper"] ["world"] (aG s_end):=cX
theorem JQ:aP ["world"] ["world"] (aG sG):=cX
theorem Zt7:aP ["world","act"] ["world"] (aG Zia):=cX
theorem Zmo:aP ["hands"] ["hands"] (aG S7):=cX
theorem Hr:aP ["self","hands"] qz (aG qu):=cX
theorem Dy:aP ["self","looked","hands"] pR (aG pM):=cX
theorem Mj:aP ["self"] ["self"] (aG uJ):=cX
theorem JT:aP ["self","hands"] tG (aG sJ):=cX
theorem JV:aP ["self","looked","hands","hand"] tH (aG sO):=cX
theorem JS:aP ["self","looked","hands"] tE (aG sI):=cX
theorem Wd:aP ["self"] ["self"] (aG Ay):=cX
theorem Ml:aP ["self","looking","tells"] uU (aG uK):=cX
theorem Ze7:aP ["world","hand"] lE (aG Ir):=cX
theorem Zi6:aP ["world","hand","slot","cell"] vI (aG MK):=cX
theorem Z5:aP ["world","hand","slot","field","cell"] xM (aG DN):=cX
theorem Sq:aP ["world","place"] yR (aG yl):=cX
theorem Ss:aP ["world","hand","place"] t7 (aG ym):=cX
theorem Zi2:aP ["world","deed","slots","many","bulk","place"] Nm (aG My):=cX
theorem Zmn:aP ["world","deed","hand","source","field","place"] Tv (aG S6):=cX
theorem Zmm:aP ["world","deed","hand","field","fields","old","new","noted"] Tu (aG S5):=cX
theorem Zi5:aP ["world","deed","slots","place"] Nr (aG MJ):=cX
theorem Zi4:aP ["world","deed","slots","place"] Nq (aG MF):=cX
theorem Zi3:aP ["world","deed","giver","taker","place","noted"] Np (aG Mz):=cX
theorem Zea:aP ["world","deed","cell","before"] Jm (aG Iw):=cX
theorem Zi0:aP ["world","deed","cell"] Nj (aG Mw):=cX
theorem Zi1:aP ["world","deed","hand","slot","birth"] Nk (aG Mx):=cX
theorem Zhz:aP ["world","deed","place","noted"] Ni (aG Mv):=cX
theorem Su:aP ["world","word","place","birth"] yS (aG yo):=cX
theorem ZAj:aP ["world","deed","act"] Zxp (aG Zxi):=cX
theorem Zaa:aP ["_law_script","_law_k"] qI (aG Ej):=cX
theorem Za8:aP ["_law_cell_here","_law_prime","_law_many"] lZ (aG Eh):=cX
theorem Z7:aP ["_law_cell_here","_law_w","_law_letters","_law_size","_law_at","_law_rest","_law_sign"] uA (aG DQ):=cX
theorem V8:aP ["_law_script","_law_cell_here","_law_hands_here","_law_h","_law_many"] BW (aG Aq):=cX
theorem Za2:aP ["_law_script","_law_cell_here"] Fl (aG Ea):=cX
theorem Za6:aP ["_law_number_here"] Fv (aG Ef):=cX
theorem Za4:aP ["_law_n","_law_h","_law_s","_law_many","_law_bulk"] Fq (aG Ec):=cX
theorem Za5:aP ["_law_n","_law_load_here"] Ft (aG Ed):=cX
theorem Za9:aP ["_law_n","_law_hands_here","_law_seed","_law_h","_law_s","_law_t","_law_f","_law_what","_law_g","_law_word_here"] Fx (aG Ei):=cX
theorem Wc:aP ["_law_n","_law_hands_here","_law_seed","_law_deed_here"] Ca (aG Aw):=cX
theorem V7:aP ["_law_hands_here","_law_cell_here","_law_seed","_law_rows_here","_law_h","_law_way"] BV (aG Ao):=cX
theorem Za1:aP ["_law_script","_law_hands_here","_law_rows_here","_law_seed","_law_k","_law_cell_here","_law_n"] Fj (aG DY):=cX
theorem SJ:aP ["_law_found"] uc (aG yt):=cX
theorem Wb:aP ["_law_found","_law_due_here","_law_number_here"] BZ (aG Av):=cX
theorem Za7:aP ["_law_world","_law_deed_here","_law_event_here"] Fw (aG Eg):=cX
theorem V9:aP ["_law_rows_here","_law_bits_here","_law_births","_law_h","_law_birth"] BX (aG Ar):=cX
theorem Z8:aP ["_law_cells","_law_births","_law_mark","_law_marks","_law_cell_here","_law_birth"] Fe (aG DR):=cX
theorem SM:aP ["_law_after","_law_before","_law_marks","_law_k"] yV (aG yu):=cX
theorem Sy:aP ["_law_cells","_law_births","_law_at","_law_cell_here"] yU (aG yr):=cX
theorem V6:aP ["_law_sweeper","_law_told","_law_number_here"] BR (aG An):=cX
theorem Zab:aP ["_law_way","_law_looked","_law_hands_here","_law_h"] Fy (aG Ek):=cX
theorem Za3:aP ["_law_cells"] Fp (aG Eb):=cX
theorem Zec:aP ["_law_world","_law_way","_law_cells","_law_rows_here","_law_bits_here","_law_pale_here","_law_births"] Jo (aG IK):=cX
theorem Za0:aP ["_law_world","_law_looked","_law_h","_law_found"] Fg (aG DX):=cX
theorem Z9:aP ["_law_world","_law_way","_law_sweeper","_law_cells","_law_rows_here","_law_state_here","_law_bits_here","_law_due_here","_law_wanted","_law_event_here","_law_marks"] Ff (aG DW):=cX
theorem Zxf:aP ["_law_script","_law_way","_law_hands_here","_law_world","_law_row"] ["_law_script"] (aG SX):=cX
section
variable {X:Cx}
theorem jL{a b:AM}{d e:TE}{c:Pos}{r:R2}(hr:IxR X r)(f:PE X a d)(hb:PE X b e)(hs:Zdn b:=by exact λ_ _=>rfl):PE X (.Subscript a b c) (bA r d e):=Zwk hr f hb hs
theorem pdg{o i:AM}{b ty:TE}{a:Pos}{k:Nat}(hr:Room k X.A)(c:PE X o b)(d:PE X i ty)(hs:Zw9 i:=by exact λ_ _=>rfl):PE X (.Subscript o i a) (R5 b ty):=Zu7 (wA hr) c d hs
theorem nW{a b:AM}{e f:TE}{d:Pos}{c:CmpOp}{r:R2}(g:zK X (compareOp c) r)(h:PE X a e)(hb:PE X b f)(hm:behindInMarks c b=false:=by exact wg _):PT X (.Compare a [c] [b] d) (bQ (bA r e f)):=Zto g h hb hm
theorem fZ(i:Nat){x:Str}{e:AM}{c:TE}{a b:Pos}(f:X.N.Nodup)(g:PE X e c)(h:X.N[i]? =some x:=by rfl)(hx:Loc X.env.scope x:=by exact Or.inl rfl)(hs:swapsWith e (some (.Name x a)) b.line X.env=pure false:=by rfl)(d:X.fn x=true\/X.env.scope.names.lookup x=some .local:=by first | exact .inl rfl | exact .inr rfl | assumption):PS X (.Assign [.Name x a] e b) (bH c (aN i)):=Ti f h hx g hs d
end
structure PAw(X:Cx)(es:AF)(t:TA):Prop where
 h:PA X es t
structure PSw(X:Cx)(st:List Stmt)(t:TS):Prop where
 h:PSs X st t
structure PPw(X:Cx)(pos:Pos)(keys:List (Option AM))(values:AF)(trs:List (TE×TE)):Prop where
 h:PPs X pos keys values trs
structure PEw(X:Cx)(e:AM)(t:TE):Prop where
 h:PE X e t
section
variable {X:Cx}
theorem Zu8:PAw X [] aF:=⟨au⟩
theorem zP{e es te t}(a:PE X e te)(hr:PAw X es t)(hs:starEach (e::es) X.env=(false,eval e X.env)::starEach es X.env:=by rfl):PAw X (e::es) (aj te t):=⟨aa a hr.h hs⟩
theorem Th{st rest t u}(h1:PS X st t)(h2:PSw X rest u):PSw X (st::rest) (aO t u):=⟨ao h1 h2.h⟩
theorem Ztp{st t}(h1:PS X st t):PSw X [st] t:=⟨aA h1⟩
theorem Ztq{i:Nat}{x:Str}{es t b tb p q pos' pos rest u}(c:X.N.Nodup)(d:X.N[i]? =some x)(hx:Loc X.env.scope x)(h:PAw X es t)(hb:PE X b tb)(hp:Zdn b)(h2:PSw X rest u)(hs:swapsWith (.Subscript (.List es p) b q) (some (.Name x pos')) pos.line X.env=pure false:=by rfl)(a:X.fn x=true\/X.env.scope.names.lookup x=some .local:=by first | exact .inl rfl | exact .inr rfl | assumption):PSw X (.Assign [.Name x pos'] (.Subscript (.List es p) b q) pos::rest) (aO (bH (bA (mU X.K) (gQ t) tb) (aN i)) u):=⟨ao (Ti c d hx (Zwk dg (cY h.h) hb hp) hs a) h2.h⟩
end
open PySem.Spec PyProof.Rows in
theorem ZKz{P:AL}{w:AN}{K:aB}{mg:As}{base:Heap}{x a:Str}{st:Stmt}{f:AH}{fd:AK}{N ps:AG}{sp:Sp}{k:Nat}(F:jx K x a st f fd)(S:aP N ps (aG st))(len:∀vs H Q E,sp vs H Q E->vs.length=ps.length)
  (c:∀(b:AI) (A:Around) (outer:List Env) (s:AJ) (H:Hp) (vs:List V) (Q:VK) (E:XK),Room k (A.deeper (envOfC a (aG st) s.heap.objs.size f b))->sp vs H Q E->
   ∃t,PSw (O5 (Vu P w) P w K mg base N a (aG st) f b A outer s H E).nox (lQ st) t/\t { nx:=λ_ H'=>Q .non H',rt:=Q } (start N vs) H):wO P w K mg base (Vu P w) (k+1) f fd ps sp:=
 G.fok F S len λb A outer s H vs Q E hr h=>let ⟨t,p,q⟩:=c b A outer s H vs Q E hr h;⟨t,p.h,q⟩
set_option hygiene false in
local macro_rules | `(tactic| walk_at "ok")=>`(tactic| (refine G.fok F sc (λvs H Q E h=>?_) (λcdv A outer s H vs Q E hr h=>?_);· (first | (obtain ⟨_,rfl,_⟩:=h;rfl) | (obtain ⟨_,_,rfl,_⟩:=h;rfl) | (obtain ⟨_,_,_,rfl,_⟩:=h;rfl) | (obtain ⟨_,_,_,_,rfl,_⟩:=h;rfl) | (obtain ⟨_,_,_,_,_,rfl,_⟩:=h;rfl) | (obtain ⟨_,_,_,_,_,_,rfl,_⟩:=h;rfl) | (obtain ⟨_,_,_,_,_,_,_,rfl,_⟩:=h;rfl))))
set_option hygiene false in
local macro_rules | `(tactic| walk_at "okw")=>`(tactic| (refine ZKz F sc (λvs H Q E h=>?_) (λcdv A outer s H vs Q E hr h=>?_);· (first | (obtain ⟨_,rfl,_⟩:=h;rfl) | (obtain ⟨_,_,rfl,_⟩:=h;rfl) | (obtain ⟨_,_,_,rfl,_⟩:=h;rfl) | (obtain ⟨_,_,_,_,rfl,_⟩:=h;rfl) | (obtain ⟨_,_,_,_,_,rfl,_⟩:=h;rfl) | (obtain ⟨_,_,_,_,_,_,rfl,_⟩:=h;rfl) | (obtain ⟨_,_,_,_,_,_,_,rfl,_⟩:=h;rfl))))
set_option hygiene false in
local macro_rules | `(tactic| walk_at "okX")=>`(tactic| (refine G.ZL0 F sc (λvs H Q E h=>?_) (λcdv A outer s H vs Q E hr h=>?_);· (first | (obtain ⟨_,rfl,_⟩:=h;rfl) | (obtain ⟨_,_,rfl,_⟩:=h;rfl) | (obtain ⟨_,_,_,rfl,_⟩:=h;rfl) | (obtain ⟨_,_,_,_,rfl,_⟩:=h;rfl) | (obtain ⟨_,_,_,_,_,rfl,_⟩:=h;rfl) | (obtain ⟨_,_,_,_,_,_,rfl,_⟩:=h;rfl) | (obtain ⟨_,_,_,_,_,_,_,rfl,_⟩:=h;rfl))))
set_option hygiene false in
local macro_rules | `(tactic| walk_at "okDX")=>`(tactic| (refine G.ZBw F sc (λvs H Q E h=>?_) (λcdv A outer s H vs Q E hr h=>?_);· (first | (obtain ⟨_,rfl,_⟩:=h;rfl) | (obtain ⟨_,_,rfl,_⟩:=h;rfl) | (obtain ⟨_,_,_,rfl,_⟩:=h;rfl) | (obtain ⟨_,_,_,_,rfl,_⟩:=h;rfl) | (obtain ⟨_,_,_,_,_,rfl,_⟩:=h;rfl) | (obtain ⟨_,_,_,_,_,_,rfl,_⟩:=h;rfl) | (obtain ⟨_,_,_,_,_,_,_,rfl,_⟩:=h;rfl))))
section
variable (P:AL){w:AN}{K:aB}{mg:As}(base:Heap){fO aL aU bV bC dG gf dN dD iQ lH jG jF gb iY eZ oF pZ dF cM dj zA fU iK jD eE jl oG jj jV ur zz ie wF uq oE gZ cV cT zx gK Ik jm mF gY cU jk Ij bY zy o5 bR bZ cN dJ dM dI ig dB eO lg jE gH fQ iD jN jM iI iH iG fJ iB iC iy gJ XF gq eF iM jr j6 kj j9 kh kJ jw jq jZ fV ju kE jt jW gO gM jo kO j7 mG jY jX:AH}(XQ:Cs)(T:Txt w K mg XQ.C XQ.H XQ.D XQ.S XQ.W XQ.F XQ.E XQ.L XQ.K fO aL aU bV bC dG gf dN dD iQ lH jG jF gb iY eZ oF pZ dF cM dj zA fU iK jD eE jl oG jj jV ur zz ie wF uq oE gZ cV cT zx gK Ik jm mF gY cU jk Ij bY zy o5 bR bZ cN dJ dM dI ig dB eO lg jE gH fQ iD jN jM iI iH iG fJ iB iC iy gJ XF gq eF iM jr j6 kj j9 kh kJ jw jq jZ fV ju kE jt jW gO gM jo kO j7 mG jY jX)
include T
theorem pU:qm K XQ:=⟨⟨T.di,T.dX,T.mY,T.mX,T.jU,T.fc,T.cR,T.oU,T.bN,T.jB,T.mW,T.RB⟩,T.Zgl,T.vh,T.vg,T.uf,T.ue,T.qb,T.Zm4,T.xO,T.vp,T.Zm3,T.rH,T.vo,T.Vh,T.qe,T.qg,T.rG,T.pG,T.rD,T.vm,T.rE,T.qd,T.qi,T.pF,T.rF⟩
theorem NB{fd:AK}(F:jx K "__init__" "Cell.__init__" uN dG fd):lB P w K mg base 1 dG fd uX (yf XQ.C):=by
 have sc:=Mq;have tx:=pU _ T;walk_at "ok"
 ·refine⟨sY K,(ao (cI (pv 0) (pv 1) rfl)
   (ao (cI (pv 0) (pv 3) rfl)
   (ao (cI (pv 0) (pv 4) rfl)
   (ao (cI (pv 0) (az) rfl)
   (aA (cI (pv 0) (aZ Tw (cY (aa (gj) au)) (pv 2)) rfl)))))),?_⟩
  obtain⟨z0,z1,z2,z3,z4,rfl,q⟩:=h;exact Py tx.c q
theorem WL{fd:AK}(F:jx K "units" "Cell.units" Ba gf fd):lB P w K mg base 1 gf fd ["self"] (nJ XQ.C):=by
 have sc:=Wf;have tx:=pU _ T;walk_at "ok"
 ·refine⟨yN K,(aA (aM (aZ mC (aZ mC (az) (cz G.cL (by rfl) T.jT G.boot_len (aa (aJ (pv 0) rfl) au))) (aJ (pv 0) rfl)))),?_⟩;obtain⟨z0,rfl,q⟩:=h;exact Ye tx.c q
theorem Ke{fd:AK}(F:jx K "has_field" "Cell.has_field" sS dN fd):lB P w K mg base 1 dN fd tK (xY XQ):=by
 have sc:=JW;have tx:=pU _ T;walk_at "ok"
 ·refine⟨qZ K,(aA (aM (Zq4 ZAr HX (az) (pv 1) (cz G.cL (by rfl) T.jT G.boot_len (aa (aJ (pv 0) rfl) au))))),?_⟩;obtain⟨z0,z1,rfl,q⟩:=h;exact Lz tx q
theorem Ny{fd:AK}(F:jx K "__init__" "Heap.__init__" uL dD fd):lB P w K mg base 1 dD fd uV (yc XQ.H):=by
 have sc:=Mm;have tx:=pU _ T;walk_at "ok"
 ·refine⟨sW K,(ao (cI (pv 0) (pv 1) rfl)
   (ao (cI (pv 0) (cY au) rfl)
   (ao (cI (pv 0) (az) rfl)
   (aA (cI (pv 0) (az) rfl))))),?_⟩
  obtain⟨z0,z1,rfl,q⟩:=h;exact Pb tx.c q
theorem Zbe{fd:AK}{O3 zq Zd0 Zg8:AK}(F:G.ZAa K "make" "Heap.make" xq iQ fd)(Dj:Hh P w K mg base 1 dG O3 uX (yf XQ.C))(nP:Hh P w K mg base 1 gf zq ["self"] (nJ XQ.C))(QC:Hh P w K mg base 1 jF Zd0 ["self"] (yd XQ.H))(Vt:Hh P w K mg base 1 lH Zg8 Jp (CV K XQ.H)):lB P w K mg base 3 iQ fd Fz (xZ K XQ.C XQ.H bV):=by
 have sc:=Zac;have tx:=pU _ T;walk_at "okDX"
 ·refine⟨By K XQ.C bV XQ.H (yf XQ.C) (nJ XQ.C) (yd XQ.H) (CV K XQ.H) E,(ao (fZ 4 sc.nd (BP T.Rv Dj.g (hr.mono (by decide)) rfl T.Zr1 Dj.b .nil G.gk (aa (aZ mC (aJ (pv 0) rfl) (az)) (aa (pv 1) (aa (pv 2) (aa (pv 3) au))))))
   (ao (cA (nW Zli (nY (pv 4) T.di T.ug nP.g (hr.mono (by decide)) nP.b .nil G.gk) (nY (pv 0) T.cR T.Km QC.g (hr.mono (by decide)) QC.b .nil G.gk)) (aA (G.J0 rfl rfl T.Zqz T.Zu (aa (bI) au) (λ_ _ _ _ _ _ _ I hx hE=>G.Zan I hx hE))) bh)
   (ao (cI (pv 0) (aJ (pv 4) rfl) rfl)
   (ao (cI (pv 0) (aZ mC (aJ (pv 0) rfl) (nY (pv 4) T.di T.ug nP.g (hr.mono (by decide)) nP.b .nil G.gk)) rfl)
   (aA (aM (tZ (pv 0) T.cR T.P0 Vt.g (hr.mono (by decide)) Vt.b .nil G.gk (aa (pv 4) au)))))))),?_⟩
  obtain⟨z0,z1,z2,z3,rfl,q⟩:=h;exact Zdo tx.c q
theorem Zex{fd:AK}(F:jx K "lay" "Heap.lay" IV lH fd):lB P w K mg base 1 lH fd Jp (CV K XQ.H):=by
 have sc:=Zed;have tx:=pU _ T;walk_at "ok"
 ·refine⟨Ew K,(ao (cA (nW (G.Zmx (wA hr)) (gj) (aJ (pv 0) rfl) (by with_unfolding_all rfl)) (ao (rz (HS PySem.F.plainAttrs_list PySem.F.slot_list_append PySem.F.type_list_append tM (aJ (pv 0) rfl) (aa (pv 1) au)))
   (aA (aM (aZ Cd (cz G.cL (by rfl) T.jT G.boot_len (aa (aJ (pv 0) rfl) au)) (az))))) bh)
   (ao (fZ 2 sc.nd (HS PySem.F.plainAttrs_list PySem.F.slot_list_index PySem.F.type_list_index (G.Zn5 (wA hr)) (aJ (pv 0) rfl) (aa (gj) au)))
   (ao (vZ (pv 1) (yQ (aJ (pv 0) rfl) (pv 2) set_list))
   (aA (aM (pv 2)))))),?_⟩
  obtain⟨z0,z1,rfl,q⟩:=h;exact Zgu tx.c q
theorem Zbg{fd:AK}(F:jx K "back" "Heap.back" Em jG fd){zq:AK}(nP:Hh P w K mg base 1 gf zq ["self"] (nJ XQ.C)):lB P w K mg base 2 jG fd FJ (uF XQ.C XQ.H):=by
 have sc:=Zae;have tx:=pU _ T;walk_at "ok"
 ·refine⟨BK K XQ.C (nJ XQ.C),(ao (fZ 2 sc.nd (jL dg (aJ (pv 0) rfl) (pv 1)))
   (ao (cI (pv 0) (aZ Cd (aJ (pv 0) rfl) (nY (pv 2) T.di T.ug nP.g (hr.mono (by decide)) nP.b .nil G.gk)) rfl)
   (ao (vZ (gj) (yQ (aJ (pv 0) rfl) (pv 1) set_list))
   (aA (aM (aJ (pv 2) rfl)))))),?_⟩
  obtain⟨z0,z1,rfl,q⟩:=h;exact Zdq tx.c q
theorem Zbf{fd:AK}(F:jx K "free" "Heap.free" El jF fd):lB P w K mg base 1 jF fd ["self"] (yd XQ.H):=by
 have sc:=Zad;have tx:=pU _ T;walk_at "ok"
 ·refine⟨BJ K,(aA (aM (aZ Cd (aJ (pv 0) rfl) (aJ (pv 0) rfl)))),?_⟩;obtain⟨z0,rfl,q⟩:=h;exact Zdp tx.c q
theorem WK{fd:AK}(F:jx K "there" "Heap.there" Az gb fd):lB P w K mg base 1 gb fd ["self"] (nH XQ.H):=by
 have sc:=We;have tx:=pU _ T;walk_at "ok"
 ·refine⟨yM K,(aA (aM (G.J3 (cns:=["self"]) [0] (oA rfl T.pB (aa (cz G.cL (by rfl) T.jT G.boot_len (aa (aJ (pv 0) rfl) au)) au)) (λ_ _ _ _ _=>(G.Tp (nW G.zQ (jL dg (aJ (pv 1) rfl) (pv 0)) (gj)))) (λ_ _ _ _ _=>(pv 0)) rfl rfl (by repeat (first | exact trivial | refine⟨rfl,?_⟩)) (by repeat (first | exact trivial | refine⟨rfl,?_⟩)) rfl (by decide +kernel) rfl (by decide +kernel) (by decide +kernel) rfl (by decide +kernel)))),?_⟩;obtain⟨z0,rfl,q⟩:=h;exact X6 tx.c q
theorem Zj8{fd:AK}(F:jx K "cell_at" "cell_at" MN iY fd):lB P w K mg base 1 iY fd qH (d9 XQ.H):=by
 have sc:=Zi7;have tx:=pU _ T;walk_at "ok"
 ·refine⟨Jl K,(ao (cA (PW.pt (q8 (nW G.GK (pv 1) (gj)) (q8 (nW HX (pv 1) (az)) (pQ (nW ZAs (pv 1) (cz G.cL (by rfl) T.jT G.boot_len (aa (aJ (pv 0) rfl) au))))))) (aA (aM (gj))) bh)
   (aA (aM (jL dg (aJ (pv 0) rfl) (pv 1))))),?_⟩
  obtain⟨z0,z1,rfl,q⟩:=h;exact Zkr tx q
theorem Zev{fd:AK}(F:jx K "birth_at" "birth_at" Iz eZ fd){lG:AK}(mR:Hh P w K mg base 1 iY lG qH (d9 XQ.H)):lB P w K mg base 2 eZ fd mz (cP XQ):=by
 have sc:=Zeb;have tx:=pU _ T;walk_at "ok"
 ·refine⟨Et K (d9 XQ.H),(ao (fZ 2 sc.nd (fP mR hr T.tQ (aa (pv 0) (aa (pv 1) au))))
   (ao (cA (nW G.GK (pv 2) (gj)) (aA (aM (gj))) bh)
   (aA (aM (aJ (pv 2) rfl))))),?_⟩
  obtain⟨z0,z1,rfl,q⟩:=h;exact Zgn tx q
theorem Ziy{fd:AK}(F:jx K "reached" "reached" Ms oF fd){Zo6:AK}(Zgw:Hh P w K mg base 2 pZ Zo6 Tt (Gs K XQ.C XQ.H)):lB P w K mg base 3 oF fd Ng (Hi K XQ.C XQ.H):=by
 have sc:=Zhx;have tx:=pU _ T;walk_at "ok"
 ·refine⟨Bc K (Gs K XQ.C XQ.H),(ao (fZ 2 sc.nd (cY au))
   (ao (mQ PassesOwn.never rfl (G.Zao rfl T.qG (aa (pv 1) au)) (Tn rfl (oR (d8 (i:=3) sc.nd rfl (Or.inl rfl)) (oR (d8 (i:=4) sc.nd rfl (Or.inl rfl)) J2)))
   (aA (rz (HS PySem.F.plainAttrs_list PySem.F.slot_list_extend PySem.F.type_list_extend NQ (pv 2) (aa (fP Zgw hr T.Up (aa (pv 0) (aa (pv 4) (aa (cJ (aa (pv 3) au)) au)))) au)))))
   (ao (fZ 5 sc.nd (J4))
   (ao (fZ 6 sc.nd (az))
   (ao (Zpp PassesOwn.never (nW HX (pv 6) (cz G.cL (by rfl) T.jT G.boot_len (aa (pv 2) au))) (ao (fZ 7 sc.nd (jL bO (jL dg (pv 2) (pv 6)) (az)))
   (ao (fZ 8 sc.nd (jL bO (jL dg (pv 2) (pv 6)) (az)))
   (ao (fZ 6 sc.nd (aZ mC (pv 6) (az)))
   (aA (cA (Zpo (G.Ziq (wA hr) (pv 7) (pv 5))) (ao (J1 (wA hr) (pv 5) (pv 7) (pv 8) rfl)
   (aA (rz (HS PySem.F.plainAttrs_list PySem.F.slot_list_extend PySem.F.type_list_extend NQ (pv 2) (aa (fP Zgw hr T.Up (aa (pv 0) (aa (aJ (jL dg (aJ (pv 0) rfl) (pv 7)) rfl) (aa (pv 8) au)))) au))))) bh))))))
   (aA (aM (vH (G.Zku rfl) (by rfl) T.vJ G.boot_list (aa (G.Zq3 (pv 5)) au))))))))),?_⟩
  obtain⟨z0,z1,z2,z3,z4,rfl,q⟩:=h;exact Zig tx q
theorem Zmz{fd:AK}(F:jx K "onward" "onward" SQ pZ fd){lG:AK}(mR:Hh P w K mg base 1 iY lG qH (d9 XQ.H)):lB P w K mg base 2 pZ fd Tt (Gs K XQ.C XQ.H):=by
 have sc:=Zml;walk_at "ok"
 ·refine⟨GJ K (d9 XQ.H),(aA (aM (G.Zio (cns:=["heap","way"]) [0,2] (G.Zao rfl T.qG (aa (pv 1) au)) (λ_ _ _ _ _=>(G.Tp (nW G.zQ (fP mR hr T.tQ (aa (pv 2) (aa (pv 1) au))) (gj)))) (λ_ _ _ _ _=>(cJ (aa (pv 1) (aa (aZ Zua (pv 3) (cJ (aa (pv 0) au))) au)))) rfl rfl (by repeat (first | exact trivial | refine⟨rfl,?_⟩)) (by repeat (first | exact trivial | refine⟨rfl,?_⟩)) rfl (by decide +kernel) rfl (by decide +kernel) (by decide +kernel) rfl rfl (by decide +kernel)))),?_⟩;obtain⟨z0,z1,z2,z3,z4,z5,rfl,q⟩:=h;exact Zmy q
theorem Nz{fd:AK}(F:jx K "__init__" "Hand.__init__" uM dF fd):lB P w K mg base 1 dF fd uW (ye XQ.D):=by
 have sc:=Mp;have tx:=pU _ T;walk_at "ok"
 ·refine⟨sX K,(ao (cI (pv 0) (pv 1) rfl)
   (aA (cI (pv 0) (aZ Tw (cY (aa (gj) au)) (pv 2)) rfl))),?_⟩
  obtain⟨z0,z1,z2,rfl,q⟩:=h;exact Pg tx q
theorem Hs{fd:AK}(F:jx K "__init__" "Sweeper.__init__" qt cM fd):lB P w K mg base 1 cM fd ["self"] (rR XQ.S):=by
 have sc:=Hq;have tx:=pU _ T;walk_at "ok"
 ·refine⟨pO K,(ao (cI (pv 0) (az) rfl)
   (ao (cI (pv 0) (bI) rfl)
   (ao (cI (pv 0) (cY au) rfl)
   (ao (cI (pv 0) (az) rfl)
   (ao (cI (pv 0) (az) rfl)
   (ao (cI (pv 0) (az) rfl)
   (ao (cI (pv 0) (az) rfl)
   (ao (cI (pv 0) (az) rfl)
   (ao (cI (pv 0) (az) rfl)
   (ao (cI (pv 0) (az) rfl)
   (aA (cI (pv 0) (gj) rfl)))))))))))),?_⟩
  obtain⟨z0,rfl,q⟩:=h;exact HH tx q
theorem J9{fd:AK}{O2 O1 Hz:AK}(F:jx K "__init__" "World.__init__" sH dj fd)(Di:Hh P w K mg base 1 dF O2 uW (ye XQ.D))(Dh:Hh P w K mg base 1 dD O1 uV (yc XQ.H))(wN:Hh P w K mg base 1 cM Hz ["self"] (rR XQ.S)):lB P w K mg base 3 dj fd tD (vD XQ):=by
 have sc:=JR;have tx:=pU _ T;walk_at "ok"
 ·refine⟨qU K XQ.D XQ.H XQ.S (ye XQ.D) (yc XQ.H) (rR XQ.S),(ao (cI (pv 0) (BP T.Rt Dh.g (hr.mono (by decide)) rfl T.Zqx Dh.b .nil G.gk (aa (pv 1) au)) rfl)
   (ao (cI (pv 0) (pv 2) rfl)
   (ao (cI (pv 0) (G.Zio (cns:=[]) [] (jR (pv 3)) (λ_ _ _ _ _=>G.EY) (λ_ _ _ _ _=>(BP T.Ru Di.g (hr.mono (by decide)) rfl T.Zqy Di.b .nil G.gk (aa (pv 0) (aa (pv 1) au)))) rfl rfl (by repeat (first | exact trivial | refine⟨rfl,?_⟩)) (by repeat (first | exact trivial | refine⟨rfl,?_⟩)) rfl (by decide +kernel) rfl (by decide +kernel) (by decide +kernel) rfl rfl (by decide +kernel)) rfl)
   (ao (cI (pv 0) (J4) rfl)
   (aA (cI (pv 0) (Zq1 T.Ck wN.g (hr.mono (by decide)) rfl T.YQ wN.b .nil G.gk) rfl)))))),?_⟩
  obtain⟨z0,z1,z2,z3,rfl,q⟩:=h;exact Ln tx q
theorem Zug{fd:AK}(F:jx K "held" "held" Zic zA fd):lB P w K mg base 1 zA fd ["world"] (Zdl XQ):=by
 have sc:=Zt9;have tx:=pU _ T;walk_at "ok"
 ·refine⟨Zal K,(aA (aM (G.J3 (cns:=[]) [] (jR (aJ (pv 0) rfl)) (λ_ _ _ _ _=>G.EY) (λ_ _ _ _ _=>(vH G.CG (by rfl) T.vJ G.boot_list (aa (aJ (pv 0) rfl) au))) rfl rfl (by repeat (first | exact trivial | refine⟨rfl,?_⟩)) (by repeat (first | exact trivial | refine⟨rfl,?_⟩)) rfl (by decide +kernel) rfl (by decide +kernel) (by decide +kernel) rfl (by decide +kernel)))),?_⟩;obtain⟨z0,rfl,q⟩:=h;exact Zvg tx q
theorem TX{fd:AK}(F:jx K "births_held" "births_held" yq fU fd){rK:AK}(uG:Hh P w K mg base 3 iK rK uz (kW XQ)):lB P w K mg base 4 fU fd ["world"] (nZ XQ):=by
 have sc:=Sx;have tx:=pU _ T;walk_at "ok"
 ·refine⟨vV K (kW XQ),(aA (aM (G.J3 (cns:=["world"]) [0] (jR (aJ (pv 0) rfl)) (λ_ _ _ _ _=>G.EY) (λ_ _ _ _ _=>(fP uG hr T.xV (aa (aJ (pv 1) rfl) (aa (aJ (pv 0) rfl) au)))) rfl rfl (by repeat (first | exact trivial | refine⟨rfl,?_⟩)) (by repeat (first | exact trivial | refine⟨rfl,?_⟩)) rfl (by decide +kernel) rfl (by decide +kernel) (by decide +kernel) rfl (by decide +kernel)))),?_⟩;obtain⟨z0,rfl,q⟩:=h;exact Vl tx q
theorem Zay{fd:AK}(F:jx K "births_at" "births_at" DP iK fd){eY:AK}(gm:Hh P w K mg base 2 eZ eY mz (cP XQ)):lB P w K mg base 3 iK fd uz (kW XQ):=by
 have sc:=Z6;have tx:=pU _ T;walk_at "ok"
 ·refine⟨Bg K (cP XQ),(aA (aM (G.J3 (cns:=["heap"]) [0] (jR (pv 1)) (λ_ _ _ _ _=>G.EY) (λ_ _ _ _ _=>(fP gm hr T.nj (aa (pv 1) (aa (pv 0) au)))) rfl rfl (by repeat (first | exact trivial | refine⟨rfl,?_⟩)) (by repeat (first | exact trivial | refine⟨rfl,?_⟩)) rfl (by decide +kernel) rfl (by decide +kernel) (by decide +kernel) rfl (by decide +kernel)))),?_⟩;obtain⟨z0,z1,rfl,q⟩:=h;exact Zd3 tx q
theorem Zav{fd:AK}(F:jx K "looked_at" "looked_at" DG jD fd):lB P w K mg base 1 jD fd xK (o8 XQ):=by
 have sc:=Z3;have tx:=pU _ T;walk_at "ok"
 ·refine⟨Bd K,(aA (aM (p8 iU (aZ FN (aZ Nt (aJ (aJ (pv 0) rfl) rfl) (pv 1)) (az)) (az) (wg _)))),?_⟩;obtain⟨z0,z1,rfl,q⟩:=h;exact Zbn tx q
theorem Zaw{fd:AK}(F:jx K "has_sense" "has_sense" DK eE fd):lB P w K mg base 1 eE fd lY (cQ XQ):=by
 have sc:=Z4;have tx:=pU _ T;walk_at "ok"
 ·refine⟨Be K,(aA (aM (p8 iU (aJ (pv 1) rfl) (aJ (aJ (pv 0) rfl) rfl) (wg _)))),?_⟩;obtain⟨z0,z1,rfl,q⟩:=h;exact Zch tx q
theorem Wr{fd:AK}(F:jx K "is_walking" "is_walking" Ak jl fd):lB P w K mg base 1 jl fd ["world"] (vB XQ):=by
 have sc:=V4;have tx:=pU _ T;walk_at "ok"
 ·refine⟨yD K,(aA (aM (p8 GP (aJ (aJ (pv 0) rfl) rfl) (cJ (aa (bI) (aa (bI) au))) (by with_unfolding_all rfl)))),?_⟩;obtain⟨z0,rfl,q⟩:=h;exact W5 tx q
theorem Ziz{fd:AK}(F:jx K "mark_of" "mark_of" Mu oG fd){fB:AK}(gA:Hh P w K mg base 1 eE fB lY (cQ XQ)):lB P w K mg base 2 oG fd Nh (Hj XQ):=by
 have sc:=Zhy;have tx:=pU _ T;walk_at "ok"
 ·refine⟨Jb K (cQ XQ),(ao (fZ 2 sc.nd (aJ (pv 0) rfl))
   (ao (fZ 3 sc.nd (fP gA hr T.mZ (aa (pv 0) (aa (jL dg (aJ (aJ (pv 0) rfl) rfl) (pv 1)) au))))
   (ao (cA (nW iU (aJ (pv 2) rfl) (bI)) (aA (aM (bI))) bh)
   (ao (cA (nW iU (aJ (pv 2) rfl) (bI)) (aA (aM (Zej (jz (pv 3)) (bI) (bI)))) bh)
   (ao (cA (oH (jz (pv 3))) (aA (aM (bI))) bh)
   (aA (aM (Zej (nW GP (pv 1) (aJ (pv 2) rfl) (by with_unfolding_all rfl)) (bI) (bI))))))))),?_⟩
  obtain⟨z0,z1,rfl,q⟩:=h;exact Zjc tx q
theorem Wl{fd:AK}{zp Zcl:AK}(F:jx K "told_cells" "told_cells" Ag jj fd)(rT:Hh P w K mg base 1 gb zp ["self"] (nH XQ.H))(Zgv:Hh P w K mg base 4 jV Zcl Fb (xX XQ)):lB P w K mg base 5 jj fd ["world"] (CQ XQ):=by
 have sc:=V0;have tx:=pU _ T;walk_at "ok"
 ·refine⟨yw K XQ.H (nH XQ.H) (xX XQ),(aA (aM (G.J3 (cns:=["world"]) [0] (jR (nY (aJ (pv 0) rfl) T.cR T.yX rT.g (hr.mono (by decide)) rT.b .nil G.gk)) (λ_ _ _ _ _=>G.EY) (λ_ _ _ _ _=>(fP Zgv hr T.Qa (aa (pv 1) (aa (pv 0) au)))) rfl rfl (by repeat (first | exact trivial | refine⟨rfl,?_⟩)) (by repeat (first | exact trivial | refine⟨rfl,?_⟩)) rfl (by decide +kernel) rfl (by decide +kernel) (by decide +kernel) rfl (by decide +kernel)))),?_⟩;obtain⟨z0,rfl,q⟩:=h;exact VB tx q
theorem Zau{fd:AK}{rK Zk7:AK}(F:jx K "told_cell" "told_cell" Dz jV fd)(uG:Hh P w K mg base 3 iK rK uz (kW XQ))(Zoo:Hh P w K mg base 2 oG Zk7 Nh (Hj XQ)):lB P w K mg base 4 jV fd Fb (xX XQ):=by
 have sc:=Z2;have tx:=pU _ T;walk_at "ok"
 ·refine⟨Bb K (kW XQ) (Hj XQ),(ao (fZ 2 sc.nd (jL dg (aJ (aJ (pv 0) rfl) rfl) (pv 1)))
   (ao (fZ 3 sc.nd (fP uG hr T.xV (aa (aJ (pv 0) rfl) (aa (aJ (pv 2) rfl) au))))
   (aA (aM (cJ (aa (pv 1) (aa (aJ (pv 2) rfl) (aa (aJ (pv 2) rfl) (aa (aJ (pv 2) rfl) (aa (pv 3) (aa (fP Zoo hr T.YM (aa (pv 0) (aa (pv 1) au))) au))))))))))),?_⟩
  obtain⟨z0,z1,rfl,q⟩:=h;exact Zy tx q
theorem Zqa{fd:AK}{K9 HB:AK}(F:jx K "begin" "begin" Zag ur fd)(z8:Hh P w K mg base 2 dJ K9 tG (pq 0))(nO:Hh P w K mg base 1 bR HB qz (pq 1)):lB P w K mg base 3 ur fd ["world"] (RX XQ):=by
 have sc:=Zpa;have tx:=pU _ T;walk_at "ok"
 ·refine⟨Tf K XQ.E XQ.F XQ.L (pq 0) (pq 1),(ao (fZ 1 sc.nd (aJ (pv 0) rfl))
   (ao (cI (pv 1) (aZ Cd (az) (aJ (pv 1) rfl)) rfl)
   (ao (cI (pv 1) (aZ mC (aJ (pv 1) rfl) (az)) rfl)
   (ao (cI (pv 1) (bI) rfl)
   (ao (cI (pv 1) (cY au) rfl)
   (ao (cI (pv 1) (G.xF (tZ (aJ (aJ (pv 0) rfl) rfl) T.Gn T.xR z8.g (hr.mono (by decide)) z8.b .nil G.gk (aa (cz G.cL (by rfl) T.jT G.boot_len (aa (aJ (pv 0) rfl) au)) au)) (G.xF (tZ (aJ (aJ (pv 0) rfl) rfl) T.Lg T.zV nO.g (hr.mono (by decide)) nO.b .nil G.gk (aa (cz G.cL (by rfl) T.jT G.boot_len (aa (aJ (pv 0) rfl) au)) au)) (tZ (aJ (aJ (pv 0) rfl) rfl) T.Lf T.zU nO.g (hr.mono (by decide)) nO.b .nil G.gk (aa (cz G.cL (by rfl) T.jT G.boot_len (aa (aJ (pv 0) rfl) au)) au)))) rfl)
   (ao (cI (pv 1) (az) rfl)
   (ao (cI (pv 1) (az) rfl)
   (aA (cI (pv 1) (az) rfl)))))))))),?_⟩
  obtain⟨z0,rfl,q⟩:=h;exact Zsn tx q
theorem Zuf{fd:AK}{lG fB:AK}(F:jx K "note" "note" Zib zz fd)(mR:Hh P w K mg base 1 iY lG qH (d9 XQ.H))(gA:Hh P w K mg base 1 eE fB lY (cQ XQ)):lB P w K mg base 2 zz fd Zis (Zdk XQ):=by
 have sc:=Zt8;have tx:=pU _ T;walk_at "ok"
 ·refine⟨Zak K (d9 XQ.H) (cQ XQ),(ao (fZ 2 sc.nd (aJ (pv 0) rfl))
   (ao (fZ 3 sc.nd (fP mR hr T.tQ (aa (aJ (pv 0) rfl) (aa (pv 1) au))))
   (ao (cA (PW.pt (q8 (nW HW (aJ (pv 2) rfl) (bI)) (q8 (nW G.GK (pv 3) (gj)) (pQ (jz (fP gA hr T.mZ (aa (pv 0) (aa (pv 3) au)))))))) (aA (aM (gj))) bh)
   (ao (cI (pv 3) (aJ (pv 2) rfl) rfl)
   (ao (rz (HS PySem.F.plainAttrs_list PySem.F.slot_list_append PySem.F.type_list_append tM (aJ (pv 2) rfl) (aa (pv 1) au)))
   (aA (aM (aJ (pv 3) rfl)))))))),?_⟩
  obtain⟨z0,z1,rfl,q⟩:=h;exact Zul tx q
theorem Zes{fd:AK}(F:jx K "note_all" "note_all" Iu ie fd){Zvx:AK}(ZA6:Hh P w K mg base 2 zz Zvx Zis (Zdk XQ)):lB P w K mg base 3 ie fd qy (fK XQ):=by
 have sc:=Ze8;have tx:=pU _ T;walk_at "ok"
 ·refine⟨Ep K (Zdk XQ),(ao (fZ 2 sc.nd (cY au))
   (ao (mQ PassesOwn.never rfl (jR (pv 1)) (d8 (i:=3) sc.nd rfl (Or.inl rfl))
   (ao (fZ 4 sc.nd (fP ZA6 hr T.Zqs (aa (pv 0) (aa (pv 3) au))))
   (aA (cA (nW G.zQ (pv 4) (gj)) (aA (rz (HS PySem.F.plainAttrs_list PySem.F.slot_list_append PySem.F.type_list_append tM (pv 2) (aa (pv 4) au)))) bh))))
   (aA (aM (pv 2))))),?_⟩
  obtain⟨z0,z1,rfl,q⟩:=h;exact Zez tx q
theorem Zuh{fd:AK}{lG fB:AK}(F:jx K "gone" "gone" Zid wF fd)(mR:Hh P w K mg base 1 iY lG qH (d9 XQ.H))(gA:Hh P w K mg base 1 eE fB lY (cQ XQ)):lB P w K mg base 2 wF fd Zaq (Jv XQ):=by
 have sc:=Zta;have tx:=pU _ T;walk_at "ok"
 ·refine⟨Zam K (d9 XQ.H) (cQ XQ),(ao (fZ 3 sc.nd (fP mR hr T.tQ (aa (aJ (pv 0) rfl) (aa (pv 1) au))))
   (ao (cA (PW.pt (q8 (nW G.GK (pv 3) (gj)) (pQ (nW HW (aJ (pv 3) rfl) (pv 2))))) (aA (aM (pL))) bh)
   (aA (aM ((Nb (p8 iU (aJ (aJ (pv 0) rfl) rfl) (bI) (wg _)) (M8 (Zq0 (fP gA hr T.mZ (aa (pv 0) (aa (pv 3) au))))))))))),?_⟩
  obtain⟨z0,z1,z2,rfl,q⟩:=h;exact Zvq tx q
theorem Zq9{fd:AK}{Zvy Zk5:AK}(F:jx K "roots" "roots" Zaf uq fd)(ZA8:Hh P w K mg base 1 zA Zvy ["world"] (Zdl XQ))(Zom:Hh P w K mg base 3 oE Zk5 Nf (Hg XQ)):lB P w K mg base 4 uq fd ["world"] (RJ XQ):=by
 have sc:=Zp9;have tx:=pU _ T;walk_at "ok"
 ·refine⟨Te K (Zdl XQ) (Hg XQ) H,(aA (aM (aZ rB (fP ZA8 hr T.Zqt (aa (pv 0) au)) (cY (aa (G.Zu5 (G.Zio (cns:=["world"]) [0] (G.Zty (G.Zmv (aJ (pv 0) rfl))) (λ_ _ _ _ _=>G.EY) (λ_ _ _ _ _=>(fP Zom hr T.YK (aa (pv 2) (aa (pv 0) (aa (pv 1) au))))) rfl rfl (by repeat (first | exact trivial | refine⟨rfl,?_⟩)) (by repeat (first | exact trivial | refine⟨rfl,?_⟩)) rfl (by decide +kernel) rfl (by decide +kernel) (by decide +kernel) rfl rfl (by decide +kernel))) au))))),?_⟩;obtain⟨z0,rfl,q⟩:=h;exact Zpe tx q
theorem Zix{fd:AK}{Zcm fB Xr:AK}(F:jx K "root_of" "root_of" Mr oE fd)(Zl0:Hh P w K mg base 2 wF Zcm Zaq (Jv XQ))(gA:Hh P w K mg base 1 eE fB lY (cQ XQ))(Zds:Hh P w K mg base 1 jl Xr ["world"] (vB XQ)):lB P w K mg base 3 oE fd Nf (Hg XQ):=by
 have sc:=Zhw;have tx:=pU _ T;walk_at "ok"
 ·refine⟨IW K (Jv XQ) (cQ XQ) (vB XQ),(ao (cA (jz (fP Zl0 hr T.Zji (aa (pv 0) (aa (pv 1) (aa (pv 2) au))))) (aA (aM (gj))) bh)
   (ao (cA (PW.pt (M6 (jz (fP Zds hr T.Ks (aa (pv 0) au))) (JZ (oH (jz (fP gA hr T.mZ (aa (pv 0) (aa (jL dg (aJ (aJ (pv 0) rfl) rfl) (pv 1)) au)))))))) (aA (aM (gj))) bh)
   (aA (aM (pv 1))))),?_⟩
  obtain⟨z0,z1,z2,rfl,q⟩:=h;exact Zif tx q
theorem Wq{fd:AK}(F:jx K "note_hands" "note_hands" Aj gZ fd){mj:AK}(nM:Hh P w K mg base 3 ie mj qy (fK XQ)):lB P w K mg base 4 gZ fd vf (mq XQ):=by
 have sc:=V3;have tx:=pU _ T;walk_at "ok"
 ·refine⟨yC K (fK XQ),(ao (fZ 2 sc.nd (cY au))
   (ao (mQ PassesOwn.never rfl (G.Zao rfl T.qG (aa (aJ (pv 0) rfl) au)) (Tn rfl (oR (d8 (i:=3) sc.nd rfl (Or.inl rfl)) (oR (d8 (i:=4) sc.nd rfl (Or.inl rfl)) J2)))
   (aA (cA (nW iU (aZ FN (aZ Nt (pv 1) (pv 3)) (az)) (az)) (aA (rz (HS PySem.F.plainAttrs_list PySem.F.slot_list_extend PySem.F.type_list_extend NQ (pv 2) (aa (fP nM hr T.tO (aa (pv 0) (aa (aJ (pv 4) rfl) au))) au)))) bh)))
   (aA (aM (pv 2))))),?_⟩
  obtain⟨z0,z1,rfl,q⟩:=h;exact WM tx q
theorem Q6{fd:AK}{Zs7 zm:AK}(F:jx K "step_at_rest" "step_at_rest" vN cV fd)(Zwc:Hh P w K mg base 3 ur Zs7 ["world"] (RX XQ))(CZ:Hh P w K mg base 4 gZ zm vf (mq XQ)):lB P w K mg base 5 cV fd ["world"] (bU XQ (Ro "rest")):=by
 have sc:=Q3;have tx:=pU _ T;walk_at "ok"
 ·refine⟨uQ K (RX XQ) (mq XQ),(ao (rz (fP Zwc hr T.Zlk (aa (pv 0) au)))
   (ao (fZ 1 sc.nd (fP CZ hr T.Cq (aa (pv 0) (aa (aJ (aJ (pv 0) rfl) rfl) au))))
   (aA (aM (cJ (aa (bI) (aa (aJ (aJ (pv 0) rfl) rfl) (aa (pv 1) au)))))))),?_⟩
  obtain⟨z0,rfl,q⟩:=h;exact QS tx q
theorem Q4{fd:AK}{Vb Zvv:AK}(F:jx K "step_in_walk" "step_in_walk" vL cT fd)(X8:Hh P w K mg base 7 gK Vb ["world"] (bU XQ Zeo))(ZA5:Hh P w K mg base 4 zx Zvv ["world"] (bU XQ Zem)):lB P w K mg base 8 cT fd ["world"] (bU XQ (Ro "walk")):=by
 have sc:=QX;have tx:=pU _ T;walk_at "ok"
 ·refine⟨uO K (bU XQ Zeo) (bU XQ Zem),(ao (cA (Zei (aJ (aJ (pv 0) rfl) rfl) (λ_=>rfl)) (aA (aM (fP ZA5 hr T.Zqr (aa (pv 0) au)))) bh)
   (aA (aM (fP X8 hr T.Ib (aa (pv 0) au))))),?_⟩
  obtain⟨z0,rfl,q⟩:=h;exact QL tx q
theorem Zud{fd:AK}(F:jx K "walk" "walk" Zi9 zx fd){mj:AK}(nM:Hh P w K mg base 3 ie mj qy (fK XQ)):lB P w K mg base 4 zx fd ["world"] (bU XQ Zem):=by
 have sc:=Zt6;have tx:=pU _ T;walk_at "ok"
 ·refine⟨Zai K (fK XQ),(ao (fZ 1 sc.nd (aJ (pv 0) rfl))
   (ao (fZ 2 sc.nd (jL dg (aJ (aJ (pv 0) rfl) rfl) (HS PySem.F.plainAttrs_list PySem.F.slot_list_pop PySem.F.type_list_pop Zqn (aJ (pv 1) rfl) (aa (az) au))))
   (ao (cI (pv 1) (aZ mC (aJ (pv 1) rfl) (az)) rfl)
   (aA (aM (cJ (aa (bI) (aa (aJ (pv 2) rfl) (aa (fP nM hr T.tO (aa (pv 0) (aa (aJ (pv 2) rfl) au))) au))))))))),?_⟩
  obtain⟨z0,rfl,q⟩:=h;exact Zsv tx q
theorem TV{fd:AK}{La K8 XD Gm OD Zzk zm:AK}(F:jx K "look_or_cut" "look_or_cut" yp gK fd)(z9:Hh P w K mg base 1 dM La tH (iR 1))(z7:Hh P w K mg base 2 dI K8 tE (iR 2))(vG:Hh P w K mg base 1 ig XD ["self"] (tV (.bl false)))(u9:Hh P w K mg base 1 bZ Gm pR (iR 0))(iT:Hh P w K mg base 1 cN OD ["self"] (tV (.bl true)))(ZCb:Hh P w K mg base 6 Ik Zzk ["world"] (bU XQ Zit))(CZ:Hh P w K mg base 4 gZ zm vf (mq XQ)):lB P w K mg base 7 gK fd ["world"] (bU XQ Zeo):=by
 have sc:=Sv;have tx:=pU _ T;walk_at "ok"
 ·refine⟨vU K XQ.E XQ.F XQ.L (iR 1) (iR 2) (tV (.bl false)) (iR 0) (tV (.bl true)) (bU XQ Zit) (mq XQ),(ao (fZ 1 sc.nd (aJ (pv 0) rfl))
   (ao (fZ 2 sc.nd (aJ (aJ (pv 0) rfl) rfl))
   (ao (fZ 3 sc.nd (G.xF (tZ (pv 2) T.Gn T.wu u9.g (hr.mono (by decide)) u9.b .nil G.gk (aa (aJ (pv 1) rfl) (aa (cz G.cL (by rfl) T.jT G.boot_len (aa (aJ (pv 0) rfl) au)) au))) (G.xF (tZ (pv 2) T.Lg T.xT z9.g (hr.mono (by decide)) z9.b .nil G.gk (aa (aJ (pv 1) rfl) (aa (cz G.cL (by rfl) T.jT G.boot_len (aa (aJ (pv 0) rfl) au)) au))) (tZ (pv 2) T.Lf T.xQ z7.g (hr.mono (by decide)) z7.b .nil G.gk (aa (aJ (pv 1) rfl) (aa (cz G.cL (by rfl) T.jT G.boot_len (aa (aJ (pv 0) rfl) au)) au))))))
   (ao (fZ 4 sc.nd (fP CZ hr T.Cq (aa (pv 0) (aa (pv 3) au))))
   (ao (cA (PW.pt (q8 (nW iU (pv 3) (az)) (pQ (oH (PW.pt (q8 (jz (G.xF (nY (pv 2) T.Gn T.wj iT.g (hr.mono (by decide)) iT.b .nil G.gk) (G.xF (nY (pv 2) T.Lg T.yZ iT.g (hr.mono (by decide)) iT.b .nil G.gk) (nY (pv 2) T.Lf T.yW vG.g (hr.mono (by decide)) vG.b .nil G.gk)))) (pQ (Zei (pv 4) (λ_=>rfl))))))))) (aA (aM (fP ZCb hr T.Zwn (aa (pv 0) au)))) bh)
   (ao (cI (pv 1) (aZ mC (aJ (pv 1) rfl) (az)) rfl)
   (ao (cA (jz (G.xF (nY (pv 2) T.Gn T.wj iT.g (hr.mono (by decide)) iT.b .nil G.gk) (G.xF (nY (pv 2) T.Lg T.yZ iT.g (hr.mono (by decide)) iT.b .nil G.gk) (nY (pv 2) T.Lf T.yW vG.g (hr.mono (by decide)) vG.b .nil G.gk)))) (aA (cI (pv 1) (aZ Zwl (aJ (pv 1) rfl) (pv 3)) rfl)) bh)
   (aA (aM (cJ (aa (bI) (aa (pv 3) (aa (pv 4) au))))))))))))),?_⟩
  obtain⟨z0,rfl,q⟩:=h;exact Ut tx q
theorem Zxy{fd:AK}{rK Xu Zg5 zj:AK}(F:jx K "cut" "cut" Zpd Ik fd)(uG:Hh P w K mg base 3 iK rK uz (kW XQ))(Zdt:Hh P w K mg base 5 jm Xu ["world"] (vC XQ))(Zl1:Hh P w K mg base 2 mF Zg5 ["world"] (CT XQ))(CW:Hh P w K mg base 1 gY zj ["event"] (nG K)):lB P w K mg base 6 Ik fd ["world"] (bU XQ Zit):=by
 have sc:=Zxh;have tx:=pU _ T;walk_at "ok"
 ·refine⟨Zij K (kW XQ) (vC XQ) (CT XQ) (nG K),(ao (fZ 1 sc.nd (aJ (pv 0) rfl))
   (ao (cI (pv 1) (cz G.cL (by rfl) T.jT G.boot_len (aa (aJ (aJ (pv 0) rfl) rfl) au)) rfl)
   (ao (cI (pv 1) (az) rfl)
   (ao (fZ 2 sc.nd (fP Zdt hr T.Ku (aa (pv 0) au)))
   (ao (cA (nW G.zQ (pv 2) (gj)) (ao (cI (pv 1) (bI) rfl)
   (ao (cI (pv 1) (pv 2) rfl)
   (aA (aM (fP CW hr T.Cp (aa (pv 2) au)))))) bh)
   (ao (cI (pv 1) (bI) rfl)
   (ao (fZ 3 sc.nd (fP uG hr T.xV (aa (aJ (pv 0) rfl) (aa (fP Zl1 hr T.Uq (aa (pv 0) au)) au))))
   (aA (aM (cJ (aa (bI) (aa (cz G.cL (by rfl) T.jT G.boot_len (aa (pv 3) au)) (aa (pv 3) au))))))))))))),?_⟩
  obtain⟨z0,rfl,q⟩:=h;exact Zzr tx q
theorem Ws{fd:AK}{fB Zk6 Zs6:AK}(F:jx K "first_loss" "first_loss" Am jm fd)(gA:Hh P w K mg base 1 eE fB lY (cQ XQ))(Zon:Hh P w K mg base 3 oF Zk6 Ng (Hi K XQ.C XQ.H))(Zwb:Hh P w K mg base 4 uq Zs6 ["world"] (RJ XQ)):lB P w K mg base 5 jm fd ["world"] (vC XQ):=by
 have sc:=V5;have tx:=pU _ T;walk_at "ok"
 ·refine⟨yE K (cQ XQ) (Hi K XQ.C XQ.H) (RJ XQ),(ao (mQ PassesOwn.never rfl (jR (fP Zon hr T.YL (aa (aJ (pv 0) rfl) (aa (fP Zwb hr T.Zlj (aa (pv 0) au)) au)))) (Tn rfl (oR (d8 (i:=1) sc.nd rfl (Or.inl rfl)) (oR (d8 (i:=2) sc.nd rfl (Or.inl rfl)) J2)))
   (ao (fZ 3 sc.nd (jL dg (aJ (aJ (pv 0) rfl) rfl) (pv 1)))
   (aA (cA (oH (jz (fP gA hr T.mZ (aa (pv 0) (aa (pv 3) au))))) (aA (aM (cJ (aa (bI) (aa (aJ (pv 3) rfl) (aa (vH Lh (by rfl) T.vJ G.boot_list (aa (pv 2) au)) au)))))) bh))))
   (aA (aM (gj)))),?_⟩
  obtain⟨z0,rfl,q⟩:=h;exact Xo tx q
theorem Zet{fd:AK}{zp fB:AK}(F:jx K "given_up" "given_up" Iv mF fd)(rT:Hh P w K mg base 1 gb zp ["self"] (nH XQ.H))(gA:Hh P w K mg base 1 eE fB lY (cQ XQ)):lB P w K mg base 2 mF fd ["world"] (CT XQ):=by
 have sc:=Ze9;have tx:=pU _ T;walk_at "ok"
 ·refine⟨Er K XQ.H (nH XQ.H) (cQ XQ),(ao (Ti (i:=1) sc.nd rfl (Or.inr rfl) (aJ (pv 0) rfl))
   (aA (aM (G.J3 (cns:=["world","heap"]) [0,1] (jR (nY (pv 1) T.cR T.yX rT.g (hr.mono (by decide)) rT.b .nil G.gk)) (λ_ _ _ _ _=>(G.Tp (oH (jz (fP gA hr T.mZ (aa (pv 1) (aa (jL dg (aJ (pv 2) rfl) (pv 0)) au))))))) (λ_ _ _ _ _=>(pv 0)) rfl rfl (by repeat (first | exact trivial | refine⟨rfl,?_⟩)) (by repeat (first | exact trivial | refine⟨rfl,?_⟩)) rfl (by decide +kernel) rfl (by decide +kernel) (by decide +kernel) rfl (by decide +kernel))))),?_⟩
  obtain⟨z0,rfl,q⟩:=h;exact Zg2 tx q
theorem Wn{fd:AK}(F:jx K "told_again" "told_again" Ah gY fd):lB P w K mg base 1 gY fd ["event"] (nG K):=by
 have sc:=V1;walk_at "ok"
 ·refine⟨yx K,(aA (aM (cJ (aa (jL bO (pv 0) (az)) (aa (jL bO (pv 0) (az)) (aa (vH G.CG (by rfl) T.vJ G.boot_list (aa (jL bO (pv 0) (az)) au)) au)))))),?_⟩;obtain⟨z0,rfl,q⟩:=h;exact VD q
theorem Q5{fd:AK}{Zzj Xq:AK}(F:jx K "step_in_give" "step_in_give" vM cU fd)(ZCa:Hh P w K mg base 1 Ij Zzj ["world"] (bU XQ pEnd))(Zdr:Hh P w K mg base 3 jk Xq ["world"] (bU XQ Zen)):lB P w K mg base 4 cU fd ["world"] (bU XQ (Ro "give")):=by
 have sc:=QZ;have tx:=pU _ T;walk_at "ok"
 ·refine⟨uP K (bU XQ pEnd) (bU XQ Zen),(ao (cA (nW HX (aJ (aJ (pv 0) rfl) rfl) (aJ (aJ (pv 0) rfl) rfl)) (aA (aM (fP Zdr hr T.Kr (aa (pv 0) au)))) bh)
   (aA (aM (fP ZCa hr T.Zwm (aa (pv 0) au))))),?_⟩
  obtain⟨z0,rfl,q⟩:=h;exact QM tx q
theorem Wo{fd:AK}{Zd1 lG fB:AK}(F:jx K "pass_place" "pass_place" Ai jk fd)(QD:Hh P w K mg base 2 jG Zd1 FJ (uF XQ.C XQ.H))(mR:Hh P w K mg base 1 iY lG qH (d9 XQ.H))(gA:Hh P w K mg base 1 eE fB lY (cQ XQ)):lB P w K mg base 3 jk fd ["world"] (bU XQ Zen):=by
 have sc:=V2;have tx:=pU _ T;walk_at "ok"
 ·refine⟨yz K XQ.H (uF XQ.C XQ.H) (d9 XQ.H) (cQ XQ),(ao (fZ 1 sc.nd (aJ (pv 0) rfl))
   (ao (fZ 2 sc.nd (aJ (pv 1) rfl))
   (ao (cI (pv 1) (aZ mC (pv 2) (az)) rfl)
   (ao (cI (pv 1) (aZ mC (aJ (pv 1) rfl) (az)) rfl)
   (ao (fZ 3 sc.nd (fP mR hr T.tQ (aa (aJ (pv 0) rfl) (aa (pv 2) au))))
   (ao (cA (PW.pt (q8 (nW G.GK (pv 3) (gj)) (pQ (jz (fP gA hr T.mZ (aa (pv 0) (aa (pv 3) au))))))) (aA (aM (cJ (aa (bI) (aa (pv 2) (aa (cY au) au)))))) bh)
   (aA (aM (cJ (aa (bI) (aa (tZ (aJ (pv 0) rfl) T.cR T.Ko QD.g (hr.mono (by decide)) QD.b .nil G.gk (aa (pv 2) au)) (aa (cY (aa (pv 2) au)) au)))))))))))),?_⟩
  obtain⟨z0,rfl,q⟩:=h;exact Wk tx q
theorem Zxv{fd:AK}(F:jx K "end" "end" s_end Ij fd):lB P w K mg base 1 Ij fd ["world"] (bU XQ pEnd):=by
 have sc:=Zxg;have tx:=pU _ T;walk_at "ok"
 ·refine⟨Zii K,(ao (fZ 1 sc.nd (aJ (pv 0) rfl))
   (ao (cI (pv 1) (bI) rfl)
   (aA (aM (cJ (aa (bI) (aa (aJ (pv 1) rfl) (aa (cY (aa (aJ (pv 1) rfl) (aa (aJ (pv 1) rfl) (aa (aJ (pv 1) rfl) au)))) au)))))))),?_⟩
  obtain⟨z0,rfl,q⟩:=h;exact Zzn tx q
theorem J8{fd:AK}(F:jx K "step_when_lost" "step_when_lost" sG bY fd){zj:AK}(CW:Hh P w K mg base 1 gY zj ["event"] (nG K)):lB P w K mg base 2 bY fd ["world"] (bU XQ (Ro "lost")):=by
 have sc:=JQ;have tx:=pU _ T;walk_at "ok"
 ·refine⟨qP K (nG K),(aA (aM (fP CW hr T.Cp (aa (aJ (aJ (pv 0) rfl) rfl) au)))),?_⟩;obtain⟨z0,rfl,q⟩:=h;exact JG tx q
theorem Zue{fd:AK}{Rg Rc Rb K6:AK}(F:jx K "step" "step" Zia zy fd)(wM:Hh P w K mg base 5 cV Rg ["world"] (bU XQ (Ro "rest")))(wL:Hh P w K mg base 4 cU Rc ["world"] (bU XQ (Ro "give")))(wK:Hh P w K mg base 8 cT Rb ["world"] (bU XQ (Ro "walk")))(tW:Hh P w K mg base 2 bY K6 ["world"] (bU XQ (Ro "lost"))):lB P w K mg base 9 zy fd ["world"] (bU XQ Ziu):=by
 have sc:=Zt7;have tx:=pU _ T;walk_at "ok"
 ·refine⟨Zaj K cV cU cT bY (bU XQ (Ro "rest")) (bU XQ (Ro "give")) (bU XQ (Ro "walk")) (bU XQ (Ro "lost")),(ao (fZ 1 sc.nd (G.Zpz T.Yx rfl (aJ (aJ (pv 0) rfl) rfl) (λ_ _=>rfl)))
   (aA (aM (G.Zek (k:=8) (G.Vy.cons (by decide) wM.g wM.b wM.k (G.Vy.cons (by decide) wK.g wK.b wK.k (G.Vy.cons (by decide) wL.g wL.b wL.k (G.Vy.cons (by decide) tW.g tW.b tW.k G.Vy.nil)))) (hr.mono (by decide)) rfl (Or.inl rfl) G.gk (aa (pv 0) au))))),?_⟩
  obtain⟨z0,rfl,q⟩:=h;exact Zt0 tx q
theorem Zn2{fd:AK}(F:jx K "all_of" "all_of" S7 o5 fd):lB P w K mg base 1 o5 fd ["hands"] (wJ):=by
 have sc:=Zmo;walk_at "ok"
 ·refine⟨M5,(aA (aM (aZ Cd (aZ Zar (az) (pv 0)) (az)))),?_⟩;obtain⟨z0,rfl,q⟩:=h;exact Zoh q
theorem Ht{fd:AK}(F:jx K "at_begin" "Looking.at_begin" qu bR fd):lB P w K mg base 1 bR fd qz (pq 1):=by
 have sc:=Hr;walk_at "ok"
 ·refine⟨pP,(aA (aM (az))),?_⟩;obtain⟨z0,z1,rfl,q⟩:=h;exact HN q
theorem FP{fd:AK}(F:jx K "next_look" "Looking.next_look" pM bZ fd):lB P w K mg base 1 bZ fd pR (iR 0):=by
 have sc:=Dy;walk_at "ok"
 ·refine⟨oO,(aA (aM (az))),?_⟩;obtain⟨z0,z1,z2,rfl,q⟩:=h;exact Gv q
theorem Nv{fd:AK}(F:jx K "stays" "Looking.stays" uJ cN fd):lB P w K mg base 1 cN fd ["self"] (tV (.bl true)):=by
 have sc:=Mj;walk_at "ok"
 ·refine⟨sU,(aA (aM (pL))),?_⟩;obtain⟨z0,rfl,q⟩:=h;exact O9 q
theorem Kc{fd:AK}(F:jx K "at_begin" "First.at_begin" sJ dJ fd){Oz:AK}(Vs:Hh P w K mg base 1 o5 Oz ["hands"] (wJ)):lB P w K mg base 2 dJ fd tG (pq 0):=by
 have sc:=JT;walk_at "ok"
 ·refine⟨qX (wJ),(aA (aM (fP Vs hr T.Ur (aa (pv 1) au)))),?_⟩;obtain⟨z0,z1,rfl,q⟩:=h;exact Lx q
theorem Kd{fd:AK}(F:jx K "next_look" "Each.next_look" sO dM fd):lB P w K mg base 1 dM fd tH (iR 1):=by
 have sc:=JV;walk_at "ok"
 ·refine⟨qY,(ao (mQ PassesOwn.never rfl (oA rfl T.pB (aa (pv 2) au)) (d8 (i:=3) sc.nd rfl (Or.inl rfl))
   (aA (cA (nW iU (aZ FN (aZ Nt (pv 1) (pv 3)) (az)) (az)) (aA (aM (aZ Zar (az) (pv 3)))) bh)))
   (aA (aM (az)))),?_⟩
  obtain⟨z0,z1,z2,rfl,q⟩:=h;exact Ly q
theorem Ka{fd:AK}(F:jx K "next_look" "Last.next_look" sI dI fd){Oz:AK}(Vs:Hh P w K mg base 1 o5 Oz ["hands"] (wJ)):lB P w K mg base 2 dI fd tE (iR 2):=by
 have sc:=JS;walk_at "ok"
 ·refine⟨qW (wJ),(aA (aM (fP Vs hr T.Ur (aa (pv 2) au)))),?_⟩;obtain⟨z0,z1,z2,rfl,q⟩:=h;exact Lr q
theorem Wz{fd:AK}(F:jx K "stays" "Last.stays" Ay ig fd):lB P w K mg base 1 ig fd ["self"] (tV (.bl false)):=by
 have sc:=Wd;walk_at "ok"
 ·refine⟨yL,(aA (aM (pL))),?_⟩;obtain⟨z0,rfl,q⟩:=h;exact X5 q
theorem Nx{fd:AK}(F:jx K "__init__" "Kind.__init__" uK dB fd):lB P w K mg base 1 dB fd uU (uE XQ.K):=by
 have sc:=Ml;have tx:=pU _ T;walk_at "ok"
 ·refine⟨sV K,(ao (cI (pv 0) (pv 1) rfl)
   (aA (cI (pv 0) (pv 2) rfl))),?_⟩
  obtain⟨z0,z1,z2,rfl,q⟩:=h;exact Pa tx q
theorem Zer{fd:AK}(F:jx K "slots_of" "slots_of" Ir eO fd):lB P w K mg base 1 eO fd lE (cu XQ):=by
 have sc:=Ze7;have tx:=pU _ T;walk_at "ok"
 ·refine⟨Eo K,(aA (aM (aJ (jL dg (aJ (pv 0) rfl) (pv 1)) rfl))),?_⟩;obtain⟨z0,z1,rfl,q⟩:=h;exact Ze6 tx q
theorem Zj7{fd:AK}{lG dU:AK}(F:jx K "cell_in" "cell_in" MK lg fd)(mR:Hh P w K mg base 1 iY lG qH (d9 XQ.H))(eU:Hh P w K mg base 1 eO dU lE (cu XQ)):lB P w K mg base 2 lg fd vI (lq XQ aL):=by
 have sc:=Zi6;have tx:=pU _ T;walk_at "okX"
 ·refine⟨Jk K aL (d9 XQ.H) (cu XQ) E,(ao (fZ 3 sc.nd (fP mR hr T.tQ (aa (aJ (pv 0) rfl) (aa (jL dg (fP eU hr T.lF (aa (pv 0) (aa (pv 1) au))) (pv 2)) au))))
   (ao (cA (nW G.GK (pv 3) (gj)) (aA (G.J0 rfl rfl T.Qp T.wX (aa (bI) au) (λ_ _ _ _ _ _ _ I hx hE=>G.Zan I hx hE))) bh)
   (aA (aM (pv 3))))),?_⟩
  obtain⟨z0,z1,z2,rfl,q⟩:=h;exact Zkq tx q
theorem Zax{fd:AK}{Lb qC:AK}(F:jx K "fields_in" "fields_in" DN jE fd)(Aa:Hh P w K mg base 1 dN Lb tK (xY XQ))(iZ:Hh P w K mg base 2 lg qC vI (lq XQ aL)):lB P w K mg base 3 jE fd xM (o9 XQ aL aU):=by
 have sc:=Z5;have tx:=pU _ T;walk_at "okX"
 ·refine⟨Bf K XQ.C aU (xY XQ) (lq XQ aL) E,(ao (fZ 4 sc.nd (xG iZ.g (hr.mono (by decide)) rfl T.zW iZ.k iZ.b .nil G.J7 (aa (pv 0) (aa (pv 1) (aa (pv 2) au)))))
   (ao (cA (oH (jz (tZ (pv 4) T.di T.xU Aa.g (hr.mono (by decide)) Aa.b .nil G.gk (aa (pv 3) au)))) (aA (G.J0 rfl rfl T.YS T.GD (aa (bI) au) (λ_ _ _ _ _ _ _ I hx hE=>G.Zan I hx hE))) bh)
   (aA (aM (aJ (pv 4) rfl))))),?_⟩
  obtain⟨z0,z1,z2,z3,rfl,q⟩:=h;exact Zck tx q
theorem TF{fd:AK}(F:jx K "told_as_old" "told_as_old" yl gH fd):lB P w K mg base 1 gH fd yR (CP XQ):=by
 have sc:=Sq;have tx:=pU _ T;walk_at "ok"
 ·refine⟨vP K,(ao (cA (nW iU (aZ FN (aJ (aJ (pv 0) rfl) rfl) (T.Zwr.pe rfl)) (az)) (aA (aM (cY au))) bh)
   (aA (aM (cY (aa (pv 1) au))))),?_⟩
  obtain⟨z0,z1,rfl,q⟩:=h;exact R0 tx q
theorem TJ{fd:AK}(F:jx K "told_as_new" "told_as_new" ym fQ fd){Cw:AK}(Gw:Hh P w K mg base 1 jD Cw xK (o8 XQ)):lB P w K mg base 2 fQ fd t7 (qF XQ):=by
 have sc:=Ss;have tx:=pU _ T;walk_at "ok"
 ·refine⟨vQ K (o8 XQ),(ao (cA (PW.pt (q8 (nW iU (aZ FN (aJ (aJ (pv 0) rfl) rfl) (T.Zws.pe rfl)) (az)) (pQ (jz (fP Gw hr T.Gd (aa (pv 0) (aa (pv 1) au))))))) (aA (aM (cY au))) bh)
   (aA (aM (cY (aa (pv 2) au))))),?_⟩
  obtain⟨z0,z1,z2,rfl,q⟩:=h;exact R1 tx q
theorem Zj3{fd:AK}{Zcz eY dU:AK}(F:jx K "do_make" "do_make" My iD fd)(QB:Hh P w K mg base 3 iQ Zcz Fz (xZ K XQ.C XQ.H bV))(gm:Hh P w K mg base 2 eZ eY mz (cP XQ))(eU:Hh P w K mg base 1 eO dU lE (cu XQ)):lB P w K mg base 4 iD fd Nm (cC XQ (Dl bV aL aU bC) Ol):=by
 have sc:=Zi2;have tx:=pU _ T;walk_at "okX"
 ·refine⟨Jg K XQ.H (xZ K XQ.C XQ.H bV) (cP XQ) (cu XQ) E,(ao (fZ 2 sc.nd (fP eU hr T.lF (aa (pv 0) (aa (jL bO (pv 1) (az)) au))))
   (ao (fZ 3 sc.nd (jL bO (pv 1) (az)))
   (ao (fZ 4 sc.nd (jL bO (pv 1) (az)))
   (ao (fZ 5 sc.nd (tZ (aJ (pv 0) rfl) T.cR T.Kl QB.g (hr.mono (by decide)) QB.b .nil G.J7 (aa (pv 3) (aa (pv 4) (aa (aJ (aJ (pv 0) rfl) rfl) au)))))
   (ao (vZ (pv 5) (yQ (pv 2) (jL bO (pv 1) (az)) set_list))
   (aA (aM (cJ (aa (bI) (aa (fP gm hr T.nj (aa (aJ (pv 0) rfl) (aa (pv 5) au))) (aa (cY au) au))))))))))),?_⟩
  obtain⟨z0,z1,rfl,q⟩:=h;exact Zkj tx rfl q
theorem Zn1{fd:AK}{eY Cy dU:AK}(F:jx K "do_get" "do_get" S6 jN fd)(gm:Hh P w K mg base 2 eZ eY mz (cP XQ))(pA:Hh P w K mg base 3 jE Cy xM (o9 XQ aL aU))(eU:Hh P w K mg base 1 eO dU lE (cu XQ)):lB P w K mg base 4 jN fd Tv (cC XQ (Dl bV aL aU bC) YZ):=by
 have sc:=Zmn;have tx:=pU _ T;walk_at "okX"
 ·refine⟨MT K (cP XQ) (o9 XQ aL aU) (cu XQ) E,(ao (fZ 2 sc.nd (jL bO (pv 1) (az)))
   (ao (fZ 3 sc.nd (jL bO (pv 1) (az)))
   (ao (fZ 4 sc.nd (jL bO (pv 1) (az)))
   (ao (fZ 5 sc.nd (jL dg (xG pA.g (hr.mono (by decide)) rfl T.Ge pA.k pA.b .nil G.J7 (aa (pv 0) (aa (pv 2) (aa (pv 3) (aa (pv 4) au))))) (pv 4)))
   (ao (vZ (pv 5) (yQ (fP eU hr T.lF (aa (pv 0) (aa (pv 2) au))) (jL bO (pv 1) (az)) set_list))
   (aA (aM (cJ (aa (bI) (aa (fP gm hr T.nj (aa (aJ (pv 0) rfl) (aa (pv 5) au))) (aa (cY au) au))))))))))),?_⟩
  obtain⟨z0,z1,rfl,q⟩:=h;exact Zoa tx rfl rfl q
theorem Zn0{fd:AK}{eY Cy mj dU wB U9:AK}(F:jx K "do_put" "do_put" S5 jM fd)(gm:Hh P w K mg base 2 eZ eY mz (cP XQ))(pA:Hh P w K mg base 3 jE Cy xM (o9 XQ aL aU))(nM:Hh P w K mg base 3 ie mj qy (fK XQ))(eU:Hh P w K mg base 1 eO dU lE (cu XQ))(zF:Hh P w K mg base 2 fQ wB t7 (qF XQ))(X7:Hh P w K mg base 1 gH U9 yR (CP XQ)):lB P w K mg base 4 jM fd Tu (cC XQ (Dl bV aL aU bC) YX):=by
 have sc:=Zmm;have tx:=pU _ T;walk_at "okX"
 ·refine⟨MP K (cP XQ) (o9 XQ aL aU) (fK XQ) (cu XQ) (qF XQ) (CP XQ) E,(ao (fZ 2 sc.nd (jL bO (pv 1) (az)))
   (ao (fZ 3 sc.nd (jL bO (pv 1) (az)))
   (ao (fZ 4 sc.nd (xG pA.g (hr.mono (by decide)) rfl T.Ge pA.k pA.b .nil G.J7 (aa (pv 0) (aa (pv 2) (aa (jL bO (pv 1) (az)) (aa (pv 3) au))))))
   (ao (fZ 5 sc.nd (jL dg (pv 4) (pv 3)))
   (ao (fZ 6 sc.nd (jL dg (fP eU hr T.lF (aa (pv 0) (aa (pv 2) au))) (jL bO (pv 1) (az))))
   (ao (vZ (pv 6) (yQ (pv 4) (pv 3) set_list))
   (ao (fZ 7 sc.nd (fP nM hr T.tO (aa (pv 0) (aa (aZ rB (fP X7 hr T.HY (aa (pv 0) (aa (pv 5) au))) (fP zF hr T.za (aa (pv 0) (aa (pv 2) (aa (pv 6) au))))) au))))
   (aA (aM (cJ (aa (bI) (aa (fP gm hr T.nj (aa (aJ (pv 0) rfl) (aa (pv 5) au))) (aa (pv 7) au))))))))))))),?_⟩
  obtain⟨z0,z1,rfl,q⟩:=h;exact Zo9 tx rfl rfl q
theorem Zj6{fd:AK}{eY dU:AK}(F:jx K "do_copy" "do_copy" MJ iI fd)(gm:Hh P w K mg base 2 eZ eY mz (cP XQ))(eU:Hh P w K mg base 1 eO dU lE (cu XQ)):lB P w K mg base 3 iI fd Nr (cC XQ (Dl bV aL aU bC) Ou):=by
 have sc:=Zi5;have tx:=pU _ T;walk_at "ok"
 ·refine⟨Jj K (cP XQ) (cu XQ),(ao (fZ 2 sc.nd (fP eU hr T.lF (aa (pv 0) (aa (jL bO (pv 1) (az)) au))))
   (ao (fZ 3 sc.nd (jL dg (pv 2) (jL bO (pv 1) (az))))
   (ao (vZ (pv 3) (yQ (pv 2) (jL bO (pv 1) (az)) set_list))
   (aA (aM (cJ (aa (bI) (aa (fP gm hr T.nj (aa (aJ (pv 0) rfl) (aa (pv 3) au))) (aa (cY au) au))))))))),?_⟩
  obtain⟨z0,z1,rfl,q⟩:=h;exact Zkm tx q
theorem Zj5{fd:AK}{eY dU:AK}(F:jx K "do_drop" "do_drop" MF iH fd)(gm:Hh P w K mg base 2 eZ eY mz (cP XQ))(eU:Hh P w K mg base 1 eO dU lE (cu XQ)):lB P w K mg base 3 iH fd Nq (cC XQ (Dl bV aL aU bC) Ot):=by
 have sc:=Zi4;have tx:=pU _ T;walk_at "ok"
 ·refine⟨Ji K (cP XQ) (cu XQ),(ao (fZ 2 sc.nd (fP eU hr T.lF (aa (pv 0) (aa (jL bO (pv 1) (az)) au))))
   (ao (fZ 3 sc.nd (jL dg (pv 2) (jL bO (pv 1) (az))))
   (ao (vZ (gj) (yQ (pv 2) (jL bO (pv 1) (az)) set_list))
   (aA (aM (cJ (aa (bI) (aa (fP gm hr T.nj (aa (aJ (pv 0) rfl) (aa (pv 3) au))) (aa (cY au) au))))))))),?_⟩
  obtain⟨z0,z1,rfl,q⟩:=h;exact Zkl tx q
theorem Zj4{fd:AK}{eY mj dU wB:AK}(F:jx K "do_give" "do_give" Mz iG fd)(gm:Hh P w K mg base 2 eZ eY mz (cP XQ))(nM:Hh P w K mg base 3 ie mj qy (fK XQ))(eU:Hh P w K mg base 1 eO dU lE (cu XQ))(zF:Hh P w K mg base 2 fQ wB t7 (qF XQ)):lB P w K mg base 4 iG fd Np (cC XQ (Dl bV aL aU bC) Oq):=by
 have sc:=Zi3;have tx:=pU _ T;walk_at "ok"
 ·refine⟨Jh K (cP XQ) (fK XQ) (cu XQ) (qF XQ),(ao (fZ 2 sc.nd (jL bO (pv 1) (az)))
   (ao (fZ 3 sc.nd (jL bO (pv 1) (az)))
   (ao (fZ 4 sc.nd (jL dg (fP eU hr T.lF (aa (pv 0) (aa (pv 2) au))) (jL bO (pv 1) (az))))
   (ao (vZ (pv 4) (yQ (fP eU hr T.lF (aa (pv 0) (aa (pv 3) au))) (jL bO (pv 1) (az)) set_list))
   (ao (fZ 5 sc.nd (fP nM hr T.tO (aa (pv 0) (aa (fP zF hr T.za (aa (pv 0) (aa (pv 2) (aa (pv 4) au)))) au))))
   (aA (aM (cJ (aa (bI) (aa (fP gm hr T.nj (aa (aJ (pv 0) rfl) (aa (pv 4) au))) (aa (pv 5) au))))))))))),?_⟩
  obtain⟨z0,z1,rfl,q⟩:=h;exact Zkk tx q
theorem Zeu{fd:AK}(F:jx K "do_write" "do_write" Iw fJ fd){qC:AK}(iZ:Hh P w K mg base 2 lg qC vI (lq XQ aL)):lB P w K mg base 3 fJ fd Jm (cC XQ (Dl bV aL aU bC) GX):=by
 have sc:=Zea;have tx:=pU _ T;walk_at "okX"
 ·refine⟨Es K (lq XQ aL) E,(ao (fZ 2 sc.nd (xG iZ.g (hr.mono (by decide)) rfl T.zW iZ.k iZ.b .nil G.J7 (aa (pv 0) (aa (jL bO (pv 1) (az)) (aa (jL bO (pv 1) (az)) au)))))
   (ao (fZ 3 sc.nd (aJ (pv 2) rfl))
   (ao (cI (pv 2) (jL bO (pv 1) (az)) rfl)
   (aA (aM (cJ (aa (bI) (aa (pv 3) (aa (cY au) au))))))))),?_⟩
  obtain⟨z0,z1,rfl,q⟩:=h;exact Zgf tx rfl q
theorem Zj1{fd:AK}(F:jx K "do_read" "do_read" Mw iB fd){qC:AK}(iZ:Hh P w K mg base 2 lg qC vI (lq XQ aL)):lB P w K mg base 3 iB fd Nj (cC XQ (Dl bV aL aU bC) Oj):=by
 have sc:=Zi0;have tx:=pU _ T;walk_at "okX"
 ·refine⟨Je K (lq XQ aL) E,(ao (fZ 2 sc.nd (xG iZ.g (hr.mono (by decide)) rfl T.zW iZ.k iZ.b .nil G.J7 (aa (pv 0) (aa (jL bO (pv 1) (az)) (aa (jL bO (pv 1) (az)) au)))))
   (aA (aM (cJ (aa (bI) (aa (aJ (pv 2) rfl) (aa (cY au) au))))))),?_⟩
  obtain⟨z0,z1,rfl,q⟩:=h;exact Zkh tx rfl q
theorem Zj2{fd:AK}{qC dU:AK}(F:jx K "do_name" "do_name" Mx iC fd)(iZ:Hh P w K mg base 2 lg qC vI (lq XQ aL))(eU:Hh P w K mg base 1 eO dU lE (cu XQ)):lB P w K mg base 3 iC fd Nk (cC XQ (Dl bV aL aU bC) isName):=by
 have sc:=Zi1;have tx:=pU _ T;walk_at "okX"
 ·refine⟨Jf K (lq XQ aL) (cu XQ) E,(ao (fZ 2 sc.nd (jL bO (pv 1) (az)))
   (ao (fZ 3 sc.nd (jL bO (pv 1) (az)))
   (ao (fZ 4 sc.nd (aJ (xG iZ.g (hr.mono (by decide)) rfl T.zW iZ.k iZ.b .nil G.J7 (aa (pv 0) (aa (pv 2) (aa (pv 3) au)))) rfl))
   (ao (J1 (wA hr) (aJ (pv 0) rfl) (jL bO (pv 1) (az)) (cJ (aa (jL dg (fP eU hr T.lF (aa (pv 0) (aa (pv 2) au))) (pv 3)) (aa (pv 4) au))) rfl)
   (aA (aM (cJ (aa (bI) (aa (pv 4) (aa (cY au) au)))))))))),?_⟩
  obtain⟨z0,z1,rfl,q⟩:=h;exact Zki tx rfl q
theorem Zj0{fd:AK}{eY mj Va dU:AK}(F:jx K "do_seek" "do_seek" Mv iy fd)(gm:Hh P w K mg base 2 eZ eY mz (cP XQ))(nM:Hh P w K mg base 3 ie mj qy (fK XQ))(zG:Hh P w K mg base 3 gJ Va yS (uv XQ bC))(eU:Hh P w K mg base 1 eO dU lE (cu XQ)):lB P w K mg base 4 iy fd Ni (cC XQ (Dl bV aL aU bC) Oi):=by
 have sc:=Zhz;have tx:=pU _ T;walk_at "okX"
 ·refine⟨Jc K (cP XQ) (fK XQ) (uv XQ bC) (cu XQ) E,(ao (fZ 2 sc.nd (xG zG.g (hr.mono (by decide)) rfl T.Ia zG.k zG.b .nil G.J7 (aa (pv 0) (aa (jL bO (pv 1) (az)) au))))
   (ao (vZ (pv 2) (yQ (fP eU hr T.lF (aa (pv 0) (aa (jL bO (pv 1) (az)) au))) (jL bO (pv 1) (az)) set_list))
   (ao (fZ 3 sc.nd (fP nM hr T.tO (aa (pv 0) (aa (cY (aa (pv 2) au)) au))))
   (aA (aM (cJ (aa (bI) (aa (fP gm hr T.nj (aa (aJ (pv 0) rfl) (aa (pv 2) au))) (aa (pv 3) au))))))))),?_⟩
  obtain⟨z0,z1,rfl,q⟩:=h;exact Zkg tx rfl q
theorem TQ{fd:AK}(F:jx K "place_named" "place_named" yo gJ fd){Zcm:AK}(Zl0:Hh P w K mg base 2 wF Zcm Zaq (Jv XQ)):lB P w K mg base 3 gJ fd yS (uv XQ bC):=by
 have sc:=Su;have tx:=pU _ T;walk_at "okX"
 ·refine⟨vR K bC (Jv XQ) E,(ao (cA (Zpo (Zmw (wA hr) (pv 1) (aJ (pv 0) rfl))) (aA (G.J0 rfl rfl T.Zfh T.Jz (aa (bI) au) (λ_ _ _ _ _ _ _ I hx hE=>G.Zan I hx hE))) bh)
   (ao (fZ 2 sc.nd (jL bO (pdg hr (aJ (pv 0) rfl) (pv 1)) (az)))
   (ao (fZ 3 sc.nd (jL bO (pdg hr (aJ (pv 0) rfl) (pv 1)) (az)))
   (ao (cA (jz (fP Zl0 hr T.Zji (aa (pv 0) (aa (pv 2) (aa (pv 3) au))))) (aA (aM (gj))) bh)
   (aA (aM (pv 2))))))),?_⟩
  obtain⟨z0,z1,rfl,q⟩:=h;exact Tj tx q
theorem ZAt{fd:AK}{Zke Zkd Zo8 Zkc Zkb Zka Zo7 Zk9 Zk8 Zg6:AK}(F:jx K "do" "do" Zxi XF fd)(Pu:Hh P w K mg base 3 iI Zke Nr (cC XQ (Dl bV aL aU bC) Ou))(Pr:Hh P w K mg base 3 iH Zkd Nq (cC XQ (Dl bV aL aU bC) Ot))(Vr:Hh P w K mg base 4 jN Zo8 Tv (cC XQ (Dl bV aL aU bC) YZ))(Pq:Hh P w K mg base 4 iG Zkc Np (cC XQ (Dl bV aL aU bC) Oq))(Pn:Hh P w K mg base 4 iD Zkb Nm (cC XQ (Dl bV aL aU bC) Ol))(Pk:Hh P w K mg base 3 iC Zka Nk (cC XQ (Dl bV aL aU bC) isName))(Vq:Hh P w K mg base 4 jM Zo7 Tu (cC XQ (Dl bV aL aU bC) YX))(Pj:Hh P w K mg base 3 iB Zk9 Nj (cC XQ (Dl bV aL aU bC) Oj))(Ph:Hh P w K mg base 4 iy Zk8 Ni (cC XQ (Dl bV aL aU bC) Oi))(Jx:Hh P w K mg base 3 fJ Zg6 Jm (cC XQ (Dl bV aL aU bC) GX)):lB P w K mg base 5 XF fd Zxp (cC XQ (Dl bV aL aU bC) (λ_=>True)):=by
 have sc:=ZAj;have tx:=pU _ T;walk_at "okX"
 ·refine⟨Zpf K iI iH jN iG iD iC jM iB iy fJ (cC XQ (Dl bV aL aU bC) Ou) (cC XQ (Dl bV aL aU bC) Ot) (cC XQ (Dl bV aL aU bC) YZ) (cC XQ (Dl bV aL aU bC) Oq) (cC XQ (Dl bV aL aU bC) Ol) (cC XQ (Dl bV aL aU bC) isName) (cC XQ (Dl bV aL aU bC) YX) (cC XQ (Dl bV aL aU bC) Oj) (cC XQ (Dl bV aL aU bC) Oi) (cC XQ (Dl bV aL aU bC) GX) E,(ao (fZ 2 sc.nd (G.Zpz T.Yy rfl (jL bO (pv 1) (az)) (λ_ _=>rfl)))
   (aA (aM (G.Zek (k:=4) (G.Vy.cons (by decide) Pn.g Pn.b Pn.k (G.Vy.cons (by decide) Vr.g Vr.b Vr.k (G.Vy.cons (by decide) Vq.g Vq.b Vq.k (G.Vy.cons (by decide) Pu.g Pu.b Pu.k (G.Vy.cons (by decide) Pr.g Pr.b Pr.k (G.Vy.cons (by decide) Pq.g Pq.b Pq.k (G.Vy.cons (by decide) Jx.g Jx.b Jx.k (G.Vy.cons (by decide) Pj.g Pj.b Pj.k (G.Vy.cons (by decide) Pk.g Pk.b Pk.k (G.Vy.cons (by decide) Ph.g Ph.b Ph.k G.Vy.nil)))))))))) (hr.mono (by decide)) rfl (Or.inl rfl) G.J7 (aa (pv 0) (aa (pv 1) au)))))),?_⟩
  obtain⟨z0,z1,rfl,q⟩:=h;exact ZC1 tx q
theorem Zbc{fd:AK}(F:jx K "_law_cell" "_law_cell" Ej gq fd):lB P w K mg base 1 gq fd qI (rQ K):=by
 have sc:=Zaa;walk_at "ok"
 ·refine⟨Bw K,(ao (cA (nW HX (pv 1) (cz G.cL (by rfl) T.jT G.boot_len (aa (pv 0) au))) (aA (aM (jL dg (pv 0) (pv 1)))) bh)
   (aA (aM (az)))),?_⟩
  obtain⟨z0,z1,rfl,q⟩:=h;exact Zdh q
theorem Zba{fd:AK}(F:jx K "_law_draw" "_law_draw" Eh eF fd):lB P w K mg base 1 eF fd lZ (jJ):=by
 have sc:=Za8;walk_at "ok"
 ·refine⟨Bu,(aA (aM (aZ gB (aZ gB (aZ Nu (aZ gB (pv 0) (pv 1)) (az)) (pv 1)) (pv 2)))),?_⟩;obtain⟨z0,z1,z2,rfl,q⟩:=h;exact Zdf q
theorem Zaz{fd:AK}(F:jx K "_law_word" "_law_word" DQ iM fd):lB P w K mg base 1 iM fd uA (rO):=by
 have sc:=Z7;walk_at "ok"
 ·refine⟨Bh,(ao (fZ 2 sc.nd (bI))
   (ao (fZ 3 sc.nd (aZ mC (az) (aZ gB (pv 0) (az))))
   (ao (fZ 4 sc.nd (aZ gB (aZ rA (pv 0) (az)) (pv 3)))
   (ao (fZ 5 sc.nd (jL Zre (pv 2) (aZ gB (aZ rA (pv 0) (az)) (az))))
   (ao (fZ 6 sc.nd (jL Zre (pv 2) (aZ gB (aZ mC (aZ rA (pv 0) (az)) (aZ Nu (az) (pv 1))) (az))))
   (aA (aM (aZ Tz (aZ Tz (aZ G.Zlg (pv 5) (pv 4)) (pv 6)) (aZ G.Zlg (pv 5) (aZ Cd (aZ Cd (pv 3) (az)) (pv 4))))))))))),?_⟩
  obtain⟨z0,z1,rfl,q⟩:=h;exact Zd4 q
theorem Wv{fd:AK}{nD fD rM:AK}(F:jx K "_law_hands" "_law_hands" Aq jr fd)(kY:Hh P w K mg base 1 gq nD qI (rQ K))(cj:Hh P w K mg base 1 eF fD lZ (jJ))(uH:Hh P w K mg base 1 iM rM uA (rO)):lB P w K mg base 2 jr fd BW (RQ K):=by
 have sc:=V8;walk_at "ok"
 ·refine⟨yH K (rQ K) (jJ) (rO),(ao (fZ 1 sc.nd (fP kY hr T.m5 (aa (pv 0) (aa (az) au))))
   (ao (fZ 2 sc.nd (cY au))
   (ao (mQ PassesOwn.never rfl (oA rfl T.pB (aa (aZ mC (az) (fP cj hr T.cZ (aa (pv 1) (aa (az) (aa (az) au))))) au)) (d8 (i:=3) sc.nd rfl (Or.inl rfl))
   (ao (fZ 4 sc.nd (az))
   (ao (cA (nW iU (aZ gB (pv 1) (az)) (az)) (aA (fZ 4 sc.nd (aZ mC (az) (fP cj hr T.cZ (aa (aZ mC (pv 1) (aZ Nu (aZ Nu (az) (pv 3)) (pv 3))) (aa (az) (aa (az) au))))))) bh)
   (aA (rz (HS PySem.F.plainAttrs_list PySem.F.slot_list_append PySem.F.type_list_append tM (pv 2) (aa (cJ (aa (fP uH hr T.xW (aa (pv 1) (aa (pv 3) au))) (aa (pv 4) au))) au)))))))
   (aA (aM (pv 2)))))),?_⟩
  obtain⟨z0,rfl,q⟩:=h;exact XS q
theorem Zb4{fd:AK}{nD fD:AK}(F:jx K "_law_room" "_law_room" Ea j6 fd)(kY:Hh P w K mg base 1 gq nD qI (rQ K))(cj:Hh P w K mg base 1 eF fD lZ (jJ)):lB P w K mg base 2 j6 fd Fl (Zdj K):=by
 have sc:=Za2;walk_at "ok"
 ·refine⟨Bo (rQ K) (jJ),(ao (fZ 1 sc.nd (fP kY hr T.m5 (aa (pv 0) (aa (az) au))))
   (ao (cA (nW iU (fP cj hr T.cZ (aa (pv 1) (aa (az) (aa (az) au)))) (az)) (aA (aM (aZ mC (az) (aZ gB (aZ rA (pv 1) (az)) (az))))) bh)
   (aA (aM (aZ Cd (aZ Zas (az) (az)) (aZ gB (pv 1) (aZ Zas (az) (az)))))))),?_⟩
  obtain⟨z0,rfl,q⟩:=h;exact Zd9 q
theorem Zb8{fd:AK}(F:jx K "_law_kind" "_law_kind" Ef kj fd){OJ:AK}(lW:Hh P w K mg base 1 dB OJ uU (uE XQ.K)):lB P w K mg base 3 kj fd Fv (RP XQ):=by
 have sc:=Za6;walk_at "ok"
 ·refine⟨Bs XQ.E XQ.F XQ.K XQ.L (uE XQ.K),(ao (cA (nW iU (aZ gB (pv 0) (az)) (az)) (aA (aM (BP T.GR lW.g (hr.mono (by decide)) rfl T.Zbm lW.b .nil G.gk (aa (G.M9 T.YH rfl T.Zlm) (aa (aZ gB (aZ rA (pv 0) (az)) (az)) au))))) bh)
   (ao (cA (nW iU (aZ gB (pv 0) (az)) (az)) (aA (aM (BP T.GR lW.g (hr.mono (by decide)) rfl T.Zbm lW.b .nil G.gk (aa (G.M9 T.Zfe rfl T.Zr0) (aa (aZ gB (aZ rA (pv 0) (az)) (az)) au))))) bh)
   (aA (aM (BP T.GR lW.g (hr.mono (by decide)) rfl T.Zbm lW.b .nil G.gk (aa (G.M9 T.Zfd rfl T.Zqw) (aa (aZ gB (aZ rA (pv 0) (az)) (az)) au))))))),?_⟩
  obtain⟨z0,rfl,q⟩:=h;exact Zdd q
theorem Zb6{fd:AK}(F:jx K "_law_made" "_law_made" Ec j9 fd){fD:AK}(cj:Hh P w K mg base 1 eF fD lZ (jJ)):lB P w K mg base 2 j9 fd Fq (RM):=by
 have sc:=Za4;walk_at "okw"
 ·refine⟨Bq K (jJ),(Ztq (i:=3) sc.nd rfl (Or.inl rfl) (zP (az) (zP (az) (zP (az) (zP (az) (zP (az) (zP (az) Zu8)))))) (fP cj hr T.cZ (aa (pv 0) (aa (az) (aa (az) au)))) (λ_ _=>rfl)
   (Th (fZ 4 sc.nd (az))
   (Th (cA (nW iU (aZ gB (pv 0) (az)) (az)) (aA (fZ 4 sc.nd (aZ gB (pv 0) (az)))) bh)
   (Th (cA (nW iU (aZ gB (pv 0) (az)) (az)) (aA (fZ 4 sc.nd (aZ gB (pv 0) (aZ mC (aZ Zas (az) (az)) (az))))) bh)
   (Ztp (aM (cJ (aa (bI) (aa (pv 1) (aa (pv 2) (aa (pv 3) (aa (pv 4) au)))))))))))),?_⟩
  obtain⟨z0,z1,z2,rfl,q⟩:=h;exact Zdb q
theorem Zb7{fd:AK}(F:jx K "_law_load" "_law_load" Ed kh fd):lB P w K mg base 1 kh fd Ft (RN):=by
 have sc:=Za5;walk_at "ok"
 ·refine⟨Br,(ao (fZ 1 sc.nd (aZ gB (pv 0) (aZ Zas (az) (az))))
   (ao (cA (nW iU (aZ gB (aZ rA (pv 0) (az)) (az)) (az)) (aA (aM (ZAo Zwv (pv 1)))) bh)
   (aA (aM (pv 1))))),?_⟩
  obtain⟨z0,rfl,q⟩:=h;exact Zdc q
theorem Zbb{fd:AK}{fD Zcu Zct rM:AK}(F:jx K "_law_deed" "_law_deed" Ei kJ fd)(cj:Hh P w K mg base 1 eF fD lZ (jJ))(Zh4:Hh P w K mg base 1 kh Zcu Ft (RN))(Zh3:Hh P w K mg base 2 j9 Zct Fq (RM))(uH:Hh P w K mg base 1 iM rM uA (rO)):lB P w K mg base 3 kJ fd Fx (RV K):=by
 have sc:=Za9;walk_at "ok"
 ·refine⟨Bv K (jJ) (RN) (RM) (rO),(ao (fZ 3 sc.nd (fP cj hr T.cZ (aa (pv 0) (aa (az) (aa (cz G.cL (by rfl) T.jT G.boot_len (aa (pv 1) au)) au)))))
   (ao (fZ 4 sc.nd (fP cj hr T.cZ (aa (pv 0) (aa (az) (aa (jL bO (jL dg (pv 1) (pv 3)) (az)) au)))))
   (ao (fZ 5 sc.nd (fP cj hr T.cZ (aa (pv 0) (aa (az) (aa (jL bO (jL dg (pv 1) (pv 3)) (az)) au)))))
   (ao (fZ 6 sc.nd (fP cj hr T.cZ (aa (pv 0) (aa (az) (aa (jL dg (cY (aa (az) (aa (az) au))) (aZ rA (aZ gB (pv 0) (az)) (az))) au)))))
   (ao (fZ 7 sc.nd (fP cj hr T.cZ (aa (pv 0) (aa (az) (aa (az) au)))))
   (ao (cA (nW HX (pv 7) (az)) (aA (aM (fP Zh3 hr T.Qi (aa (pv 0) (aa (pv 3) (aa (pv 4) au)))))) bh)
   (ao (cA (nW HX (pv 7) (az)) (aA (aM (cJ (aa (bI) (aa (pv 3) (aa (pv 4) (aa (pv 5) (aa (pv 6) au)))))))) bh)
   (ao (cA (nW HX (pv 7) (az)) (aA (aM (cJ (aa (bI) (aa (pv 3) (aa (pv 5) (aa (pv 6) (aa (pv 4) au)))))))) bh)
   (ao (cA (nW iU (pv 7) (az)) (aA (aM (cJ (aa (bI) (aa (pv 3) (aa (pv 4) (aa (pv 5) au))))))) bh)
   (ao (cA (nW iU (pv 7) (az)) (aA (aM (cJ (aa (bI) (aa (pv 3) (aa (pv 4) au)))))) bh)
   (ao (cA (nW HX (pv 7) (az)) (ao (fZ 8 sc.nd (fP cj hr T.cZ (aa (pv 0) (aa (az) (aa (cz G.cL (by rfl) T.jT G.boot_len (aa (pv 1) au)) au)))))
   (aA (aM (cJ (aa (bI) (aa (pv 3) (aa (pv 4) (aa (pv 8) (aa (fP cj hr T.cZ (aa (pv 0) (aa (az) (aa (jL bO (jL dg (pv 1) (pv 8)) (az)) au)))) au))))))))) bh)
   (ao (cA (nW iU (pv 7) (az)) (aA (aM (cJ (aa (bI) (aa (pv 3) (aa (pv 5) (aa (fP Zh4 hr T.Qj (aa (pv 0) au)) au))))))) bh)
   (ao (fZ 9 sc.nd (fP uH hr T.xW (aa (pv 2) (aa (fP cj hr T.cZ (aa (pv 0) (aa (az) (aa (az) au)))) au))))
   (ao (cA (nW HX (pv 7) (az)) (aA (aM (cJ (aa (bI) (aa (pv 3) (aa (pv 5) (aa (pv 9) au))))))) bh)
   (aA (aM (cJ (aa (bI) (aa (pv 3) (aa (pv 4) (aa (pv 9) au))))))))))))))))))))),?_⟩
  obtain⟨z0,z1,z2,rfl,q⟩:=h;exact Zdg q
theorem Wy{fd:AK}{Zcx fD:AK}(F:jx K "_law_deeds" "_law_deeds" Aw jw fd)(Zh7:Hh P w K mg base 3 kJ Zcx Fx (RV K))(cj:Hh P w K mg base 1 eF fD lZ (jJ)):lB P w K mg base 4 jw fd Ca (Gu K):=by
 have sc:=Wc;walk_at "ok"
 ·refine⟨yK K (RV K) (jJ),(ao (fZ 3 sc.nd (fP Zh7 hr T.Qm (aa (pv 0) (aa (pv 1) (aa (pv 2) au)))))
   (ao (cA (PW.pt (M6 (nW iU (jL bO (pv 3) (az)) (bI)) (JZ (nW iU (aZ gB (aZ rA (pv 0) (az)) (az)) (az))))) (aA (aM (cY (aa (pv 3) (aa (cJ (aa (bI) (aa (jL bO (pv 3) (az)) (aa (jL bO (pv 3) (az)) au)))) au))))) bh)
   (ao (cA (PW.pt (M6 (nW iU (jL bO (pv 3) (az)) (bI)) (JZ (nW iU (aZ gB (aZ rA (pv 0) (az)) (az)) (az))))) (aA (aM (cY (aa (pv 3) (aa (cJ (aa (bI) (aa (jL bO (pv 3) (az)) (aa (jL bO (pv 3) (az)) (aa (jL bO (pv 3) (az)) (aa (fP cj hr T.cZ (aa (pv 0) (aa (az) (aa (az) au)))) au)))))) au))))) bh)
   (aA (aM (cY (aa (pv 3) au))))))),?_⟩
  obtain⟨z0,z1,z2,rfl,q⟩:=h;exact X4 q
theorem Wu{fd:AK}{fD rM:AK}(F:jx K "_law_start" "_law_start" Ao jq fd)(cj:Hh P w K mg base 1 eF fD lZ (jJ))(uH:Hh P w K mg base 1 iM rM uA (rO)):lB P w K mg base 2 jq fd BV (Lp K):=by
 have sc:=V7;walk_at "ok"
 ·refine⟨yG K (jJ) (rO),(ao (fZ 3 sc.nd (cY au))
   (ao (mQ PassesOwn.never rfl (oA rfl T.pB (aa (cz G.cL (by rfl) T.jT G.boot_len (aa (pv 0) au)) au)) (d8 (i:=4) sc.nd rfl (Or.inl rfl))
   (ao (fZ 3 sc.nd (aZ rB (pv 3) (cY (aa (cJ (aa (bI) (aa (pv 4) (aa (az) (aa (az) (aa (az) au)))))) (aa (cJ (aa (bI) (aa (pv 4) (aa (az) (aa (az) (aa (az) au)))))) au)))))
   (aA (fZ 3 sc.nd (aZ rB (pv 3) (cY (aa (cJ (aa (bI) (aa (pv 4) (aa (az) (aa (aZ gB (pv 4) (az)) (aa (az) au)))))) (aa (cJ (aa (bI) (aa (pv 4) (aa (az) au)))) au))))))))
   (ao (fZ 5 sc.nd (fP cj hr T.cZ (aa (pv 1) (aa (az) (aa (az) au)))))
   (ao (cA (nW Zli (pv 5) (az)) (aA (fZ 3 sc.nd (aZ rB (pv 3) (G.J3 (cns:=[]) [] (oA rfl T.pB (aa (cz G.cL (by rfl) T.jT G.boot_len (aa (pv 0) au)) au)) (λ_ _ _ _ _=>G.EY) (λ_ _ _ _ _=>(cJ (aa (bI) (aa (pv 0) (aa (az) (aa (az) (aa (az) au))))))) rfl rfl (by repeat (first | exact trivial | refine⟨rfl,?_⟩)) (by repeat (first | exact trivial | refine⟨rfl,?_⟩)) rfl (by decide +kernel) rfl (by decide +kernel) (by decide +kernel) rfl (by decide +kernel))))) bh)
   (ao (fZ 3 sc.nd (aZ rB (pv 3) (aZ Tw (cY (aa (gj) au)) (aZ mC (az) (fP cj hr T.cZ (aa (pv 1) (aa (az) (aa (az) au))))))))
   (ao (mQ PassesOwn.never rfl (oA rfl T.pB (aa (cz G.cL (by rfl) T.jT G.boot_len (aa (pv 0) au)) au)) (d8 (i:=4) sc.nd rfl (Or.inl rfl))
   (ao (cA (nW iU (pv 5) (az)) (aA (fZ 3 sc.nd (aZ rB (pv 3) (cY (aa (cJ (aa (bI) (aa (pv 4) (aa (az) (aa (az) (aa (aZ gB (pv 4) (az)) au)))))) (aa (cJ (aa (bI) (aa (pv 4) (aa (az) (aa (aZ gB (pv 4) (az)) (aa (az) au)))))) au)))))) bh)
   (ao (cA (nW Zli (pv 5) (az)) (aA (fZ 3 sc.nd (aZ rB (pv 3) (cY (aa (cJ (aa (bI) (aa (pv 4) (aa (az) (aa (az) (aa (az) au)))))) (aa (cJ (aa (bI) (aa (pv 4) (aa (az) (aa (az) (aa (az) au)))))) (aa (cJ (aa (bI) (aa (pv 4) (aa (az) au)))) au))))))) bh)
   (aA (cA (nW iU (pv 5) (az)) (aA (fZ 3 sc.nd (aZ rB (pv 3) (cY (aa (cJ (aa (bI) (aa (pv 4) (aa (az) (aa (fP uH hr T.xW (aa (pv 2) (aa (aZ gB (pv 4) (az)) au))) au))))) (aa (cJ (aa (bI) (aa (pv 4) (aa (az) au)))) au)))))) bh)))))
   (aA (aM (pv 3))))))))),?_⟩
  obtain⟨z0,z1,z2,rfl,q⟩:=h;exact XR q
theorem Zb3{fd:AK}{nD XC fD Xw:AK}(F:jx K "_law_rows" "_law_rows" DY jZ fd)(kY:Hh P w K mg base 1 gq nD qI (rQ K))(Zdy:Hh P w K mg base 4 jw XC Ca (Gu K))(cj:Hh P w K mg base 1 eF fD lZ (jJ))(Zdu:Hh P w K mg base 2 jq Xw BV (Lp K)):lB P w K mg base 5 jZ fd Fj (RG K):=by
 have sc:=Za1;walk_at "ok"
 ·refine⟨Bm K (rQ K) (Gu K) (jJ) (Lp K),(ao (fZ 2 sc.nd (cY au))
   (ao (cA (nW Zli (fP cj hr T.cZ (aa (fP kY hr T.m5 (aa (pv 0) (aa (az) au))) (aa (az) (aa (az) au)))) (az)) (aA (fZ 2 sc.nd (fP Zdu hr T.Kv (aa (pv 1) (aa (fP kY hr T.m5 (aa (pv 0) (aa (az) au))) (aa (fP kY hr T.m5 (aa (pv 0) (aa (az) au))) au)))))) bh)
   (ao (fZ 3 sc.nd (fP kY hr T.m5 (aa (pv 0) (aa (az) au))))
   (ao (fZ 4 sc.nd (az))
   (ao (mQ PassesOwn.never rfl (jR (Tq Zt4 (pv 0) (Rn (az)) (Rn (az)))) (d8 (i:=5) sc.nd rfl (Or.inl rfl))
   (ao (fZ 6 sc.nd (aZ mC (pv 5) (aZ Nu (aZ Nu (pv 4) (pv 4)) (az))))
   (ao (cA (nW iU (fP cj hr T.cZ (aa (pv 6) (aa (az) (aa (az) au)))) (az)) (aA (fZ 2 sc.nd (aZ rB (pv 2) (aZ Tw (cY (aa (gj) au)) (aZ mC (az) (fP cj hr T.cZ (aa (pv 6) (aa (az) (aa (az) au))))))))) (aA (fZ 2 sc.nd (aZ rB (pv 2) (fP Zdy hr T.KC (aa (pv 6) (aa (pv 1) (aa (pv 3) au))))))))
   (aA (Zxo (i:=4) sc.nd rfl (Or.inl rfl) (az) Zrg)))))
   (aA (aM (aZ rB (pv 2) (aZ Tw (cY (aa (gj) au)) (aZ mC (az) (fP cj hr T.cZ (aa (pv 3) (aa (az) (aa (az) au)))))))))))))),?_⟩
  obtain⟨z0,z1,rfl,q⟩:=h;exact Zd8 q
theorem T7{fd:AK}(F:jx K "_law_number" "_law_number" yt fV fd):lB P w K mg base 1 fV fd uc (wI):=by
 have sc:=SJ;walk_at "ok"
 ·refine⟨vX,(aA (aM ((Nb (cz G.uD (by rfl) T.gP G.boot_isinstance (aa (pv 0) (aa (xH rfl T.Zl5 G.boot_int rfl) au))) (M8 (Zq0 (cz G.uD (by rfl) T.gP G.boot_isinstance (aa (pv 0) (aa (xH rfl T.Zt G.boot_bool rfl) au))))))))),?_⟩;obtain⟨z0,rfl,q⟩:=h;exact Vn q
theorem Wx{fd:AK}(F:jx K "_law_event" "_law_event" Av ju fd){wD:AK}(ux:Hh P w K mg base 1 fV wD uc (wI)):lB P w K mg base 2 ju fd BZ (Hl K):=by
 have sc:=Wb;walk_at "ok"
 ·refine⟨yJ K (wI),(ao (cA (PW.pt (q8 (oH (jz (cz G.uD (by rfl) T.gP G.boot_isinstance (aa (pv 0) (aa (xH rfl T.Gz G.boot_tuple rfl) au))))) (q8 (nW HW (cz G.cL (by rfl) T.jT G.boot_len (aa (pv 0) au)) (az)) (pQ (oH (jz (cz G.uD (by rfl) T.gP G.boot_isinstance (aa (jL bO (pv 0) (az)) (aa (xH rfl T.Zl4 G.boot_str rfl) au))))))))) (aA (aM (pL))) bh)
   (ao (cA (PW.pt (q8 (oH (jz (fP ux hr T.um (aa (jL bO (pv 0) (az)) au)))) (pQ (oH (jz (cz G.uD (by rfl) T.gP G.boot_isinstance (aa (jL bO (pv 0) (az)) (aa (xH rfl T.vJ G.boot_list rfl) au)))))))) (aA (aM (pL))) bh)
   (ao (mQ PassesOwn.never rfl (jR (jL bO (pv 0) (az))) (d8 (i:=2) sc.nd rfl (Or.inl rfl))
   (aA (cA (oH (jz (fP ux hr T.um (aa (pv 2) au)))) (aA (aM (pL))) bh)))
   (aA (aM (p8 (G.Zxs hr.units) (pv 0) (pv 1) (wg _))))))),?_⟩
  obtain⟨z0,z1,rfl,q⟩:=h;exact X3 q
theorem Zb9{fd:AK}(F:jx K "_law_hand" "_law_hand" Eg kE fd){ZBx:AK}(ZA9:Hh P w K mg base 5 XF ZBx Zxp (cC XQ (Dl bV aL aU bC) (λ_=>True))):lB P w K mg base 6 kE fd Fw (RT XQ (Dl bV aL aU bC)):=by
 have sc:=Za7;walk_at "ok"
 ·refine⟨Bt aL bV aU bC (cC XQ (Dl bV aL aU bC) (λ_=>True)),(ao (fZ 2 sc.nd (gj))
   (ao (G.Zxn ⟨rfl,rfl⟩ rfl T.Qo (λcls h=>by rcases h with rfl | rfl | rfl | rfl<;>first | exact T.lO | exact T.mK | exact T.pI | exact T.nF) (λEx pn xe hx=>(aA (fZ 2 sc.nd (G.Zq5 ZA9.g (hr.mono (by decide)) rfl T.ZAx ZA9.k ZA9.b .nil hx (aa (pv 0) (aa (pv 1) au)))))) (λea pn=>(aA (fZ 2 sc.nd (gj)))))
   (aA (aM (pv 2))))),?_⟩
  obtain⟨z0,z1,rfl,q⟩:=h;exact Zde rfl rfl rfl rfl q
theorem Ww{fd:AK}(F:jx K "_law_first" "_law_first" Ar jt fd):lB P w K mg base 1 jt fd BX (Lq K):=by
 have sc:=V9;walk_at "ok"
 ·refine⟨yI K,(ao (fZ 2 sc.nd (cY au))
   (ao (mQ PassesOwn.never rfl (oA rfl T.pB (aa (cz G.cL (by rfl) T.jT G.boot_len (aa (pv 0) au)) au)) (d8 (i:=3) sc.nd rfl (Or.inl rfl))
   (aA (mQ PassesOwn.never rfl (jR (jL dg (pv 0) (pv 3))) (d8 (i:=4) sc.nd rfl (Or.inl rfl))
   (aA (cA (PW.pt (M6 (nW iU (aZ FN (aZ Nt (pv 1) (pv 3)) (az)) (az)) (M6 (nW G.zQ (pv 4) (gj)) (JZ (nW Zat (pv 4) (pv 2) (by with_unfolding_all rfl)))))) (aA (rz (HS PySem.F.plainAttrs_list PySem.F.slot_list_append PySem.F.type_list_append tM (pv 2) (aa (pv 4) au)))) bh)))))
   (aA (aM (pv 2))))),?_⟩
  obtain⟨z0,z1,rfl,q⟩:=h;exact XX q
theorem Zb0{fd:AK}(F:jx K "_law_with" "_law_with" DR jW fd):lB P w K mg base 1 jW fd Fe (vz K):=by
 have sc:=Z8;walk_at "ok"
 ·refine⟨Bj K,(ao (fZ 3 sc.nd (J4))
   (ao (mQ PassesOwn.never rfl (jR (pv 0)) (d8 (i:=4) sc.nd rfl (Or.inl rfl))
   (aA (J1 (wA hr) (pv 3) (jL bO (pv 4) (az)) (jL bO (pv 4) (az)) rfl)))
   (ao (mQ PassesOwn.never rfl (jR (pv 1)) (d8 (i:=5) sc.nd rfl (Or.inl rfl))
   (aA (J1 (wA hr) (pv 3) (pv 5) (pv 2) rfl)))
   (aA (aM (pv 3)))))),?_⟩
  obtain⟨z0,z1,z2,rfl,q⟩:=h;exact Zd5 q
theorem T9{fd:AK}(F:jx K "_law_marked" "_law_marked" yu gO fd):lB P w K mg base 1 gO fd yV (pK K):=by
 have sc:=SM;walk_at "ok"
 ·refine⟨vY K,(ao (cA (PW.pt (q8 (oH (jz (cz G.uD (by rfl) T.gP G.boot_isinstance (aa (pv 0) (aa (xH rfl T.vJ G.boot_list rfl) au))))) (pQ (nW HW (cz G.cL (by rfl) T.jT G.boot_len (aa (pv 0) au)) (cz G.cL (by rfl) T.jT G.boot_len (aa (pv 1) au)))))) (aA (aM (pL))) bh)
   (ao (mQ PassesOwn.never rfl (oA rfl T.pB (aa (cz G.cL (by rfl) T.jT G.boot_len (aa (pv 1) au)) au)) (d8 (i:=3) sc.nd rfl (Or.inl rfl))
   (ao (cA (PW.pt (q8 (oH (jz (cz G.uD (by rfl) T.gP G.boot_isinstance (aa (jL dg (pv 0) (pv 3)) (aa (xH rfl T.Gz G.boot_tuple rfl) au))))) (pQ (nW HW (cz G.cL (by rfl) T.jT G.boot_len (aa (jL dg (pv 0) (pv 3)) au)) (az))))) (aA (aM (pL))) bh)
   (aA (cA (PW.pt (q8 (nW (G.Zq7 hr.units) (Tq Zp8 (jL dg (pv 0) (pv 3)) Zlf (Rn (az))) (Tq Zp8 (jL dg (pv 1) (pv 3)) Zlf (Rn (az)))) (pQ (nW HW (jL bO (jL dg (pv 0) (pv 3)) (az)) (pdg hr (pv 2) (jL bO (jL dg (pv 1) (pv 3)) (az))))))) (aA (aM (pL))) bh))))
   (aA (aM (pL))))),?_⟩
  obtain⟨z0,z1,z2,rfl,q⟩:=h;exact Vo q
theorem TY{fd:AK}(F:jx K "_law_places" "_law_places" yr gM fd):lB P w K mg base 1 gM fd yU (pJ K):=by
 have sc:=Sy;walk_at "ok"
 ·refine⟨vW K,(ao (Ti (i:=2) sc.nd rfl (Or.inr rfl) (J4))
   (ao (mQ PassesOwn.never rfl (jR (pv 0)) (d8 (i:=3) sc.nd rfl (Or.inl rfl))
   (aA (J1 (wA hr) (pv 2) (jL bO (pv 3) (az)) (jL bO (pv 3) (az)) rfl)))
   (aA (aM (G.J3 (cns:=["_law_at"]) [2] (jR (pv 1)) (λ_ _ _ _ _=>G.EY) (λ_ _ _ _ _=>(pdg hr (pv 1) (pv 0))) rfl rfl (by repeat (first | exact trivial | refine⟨rfl,?_⟩)) (by repeat (first | exact trivial | refine⟨rfl,?_⟩)) rfl (by decide +kernel) rfl (by decide +kernel) (by decide +kernel) rfl (by decide +kernel)))))),?_⟩
  obtain⟨z0,z1,rfl,q⟩:=h;exact Vm q
theorem Wt{fd:AK}(F:jx K "_law_state" "_law_state" An jo fd){wD:AK}(ux:Hh P w K mg base 1 fV wD uc (wI)):lB P w K mg base 2 jo fd BR (rP XQ):=by
 have sc:=V6;have tx:=pU _ T;walk_at "ok"
 ·refine⟨yF K (wI),(ao (fZ 1 sc.nd (cY (aa (aJ (pv 0) rfl) (aa (aJ (pv 0) rfl) (aa (aJ (pv 0) rfl) au)))))
   (ao (fZ 1 sc.nd (aZ rB (pv 1) (cY (aa (aJ (pv 0) rfl) (aa (aJ (pv 0) rfl) (aa (aJ (pv 0) rfl) au))))))
   (ao (mQ PassesOwn.never rfl (jR (aZ rB (pv 1) (aJ (pv 0) rfl))) (d8 (i:=2) sc.nd rfl (Or.inl rfl))
   (aA (cA (oH (jz (fP ux hr T.um (aa (pv 2) au)))) (aA (aM (cY au))) bh)))
   (aA (aM (pv 1)))))),?_⟩
  obtain⟨z0,rfl,q⟩:=h;exact XN tx q
theorem Zbd{fd:AK}(F:jx K "_law_bits" "_law_bits" Ek kO fd):lB P w K mg base 1 kO fd Fy (RW):=by
 have sc:=Zab;walk_at "ok"
 ·refine⟨Bx,(ao (cA (nW iU (pv 0) (az)) (aA (aM (az))) bh)
   (ao (cA (nW iU (pv 0) (az)) (aA (aM (aZ Cd (aZ Zar (az) (pv 2)) (az)))) bh)
   (ao (mQ PassesOwn.never rfl (oA rfl T.pB (aa (pv 2) au)) (d8 (i:=3) sc.nd rfl (Or.inl rfl))
   (aA (cA (nW iU (aZ FN (aZ Nt (pv 1) (pv 3)) (az)) (az)) (aA (aM (aZ Zar (az) (pv 3)))) bh)))
   (aA (aM (az)))))),?_⟩
  obtain⟨z0,z1,z2,rfl,q⟩:=h;exact Zdi q
theorem Zb5{fd:AK}(F:jx K "_law_pale" "_law_pale" Eb j7 fd):lB P w K mg base 1 j7 fd Fp (RK K):=by
 have sc:=Za3;walk_at "ok"
 ·refine⟨Bp K,(aA (aM (G.J3 (cns:=[]) [] (jR (pv 0)) (λ_ _ _ _ _=>(G.Tp (nW iU (jL bO (pv 0) (az)) (bI)))) (λ_ _ _ _ _=>(jL bO (pv 0) (az))) rfl rfl (by repeat (first | exact trivial | refine⟨rfl,?_⟩)) (by repeat (first | exact trivial | refine⟨rfl,?_⟩)) rfl (by decide +kernel) rfl (by decide +kernel) (by decide +kernel) rfl (by decide +kernel)))),?_⟩;obtain⟨z0,rfl,q⟩:=h;exact Zda q
theorem Zew{fd:AK}{Zcy Xy Zcs wC:AK}(F:jx K "_law_due" "_law_due" IK mG fd)(Zh8:Hh P w K mg base 1 kO Zcy Fy (RW))(Zdw:Hh P w K mg base 1 jt Xy BX (Lq K))(Zh2:Hh P w K mg base 1 j7 Zcs Fp (RK K))(uw:Hh P w K mg base 4 fU wC ["world"] (nZ XQ)):lB P w K mg base 5 mG fd Jo (Vp XQ):=by
 have sc:=Zec;have tx:=pU _ T;walk_at "ok"
 ·refine⟨Eu K (RW) (Lq K) (RK K) (nZ XQ),(ao (fZ 3 sc.nd (fP uw hr T.uh (aa (pv 0) au)))
   (ao (fZ 4 sc.nd (fP Zh8 hr T.Qn (aa (pv 1) (aa (aJ (aJ (pv 0) rfl) rfl) (aa (cz G.cL (by rfl) T.jT G.boot_len (aa (pv 3) au)) au)))))
   (ao (Ti (i:=5) sc.nd rfl (Or.inr rfl) (fP Zh2 hr T.Qh (aa (pv 2) au)))
   (ao (G.Zpq (iz:=6) (cns:=["_law_pale_here"]) [5] (jR (fP Zdw hr T.Ky (aa (pv 3) (aa (pv 4) au)))) (λ_ _ _ _ _=>(G.Tp (nW GP (pv 0) (pv 1) (by with_unfolding_all rfl)))) (λ_ _ _ _ _=>(pv 0)) rfl rfl (by repeat (first | exact trivial | refine⟨rfl,?_⟩)) (by repeat (first | exact trivial | refine⟨rfl,?_⟩)) rfl (by decide +kernel) rfl (by decide +kernel) (by decide +kernel) rfl (by decide +kernel) sc.nd rfl (Or.inl rfl) (Or.inr rfl) rfl)
   (aA (aM (cJ (aa (pv 4) (aa (pv 6) (aa ((Nb (p8 HW (pv 4) (az) (wg _)) (M8 ((ZAp (p8 iU (pv 1) (az) (wg _)) (M8 (p8 (G.Ziv (wA hr)) (pv 6) (cY au) (wg _)))))))) au)))))))))),?_⟩
  obtain⟨z0,z1,z2,rfl,q⟩:=h;exact Zgr tx q
theorem Zb2{fd:AK}(F:jx K "_law_seen" "_law_seen" DX jY fd){Cw:AK}(Gw:Hh P w K mg base 1 jD Cw xK (o8 XQ)):lB P w K mg base 2 jY fd Fg (vA XQ):=by
 have sc:=Za0;have tx:=pU _ T;walk_at "ok"
 ·refine⟨Bl K (o8 XQ),(ao (mQ PassesOwn.never rfl (oA rfl T.pB (aa (cz G.cL (by rfl) T.jT G.boot_len (aa (aJ (pv 0) rfl) au)) au)) (d8 (i:=2) sc.nd rfl (Or.inl rfl))
   (ao (fZ 3 sc.nd (fP Gw hr T.Gd (aa (pv 0) (aa (pv 2) au))))
   (aA (cA (PW.pt (q8 (PW.pt (M6 (nW G.Zlh (pv 3) (pL)) (JZ (nW G.Zlh (pv 3) (pL))))) (pQ (nW HW (pv 3) (p8 iU (aZ FN (aZ Nt (pv 1) (pv 2)) (az)) (az) (wg _)))))) (aA (aM (pL))) bh))))
   (aA (aM (pL)))),?_⟩
  obtain⟨z0,z1,rfl,q⟩:=h;exact Zd7 tx q
theorem Zb1{fd:AK}{Zg7 Xz Vd Vc Zcp Xv Zcn wC Zvw Xp:AK}(F:jx K "_law_step" "_law_step" DW jX fd)(Zl2:Hh P w K mg base 5 mG Zg7 Jo (Vp XQ))(Zdx:Hh P w K mg base 2 ju Xz BZ (Hl K))(Yc:Hh P w K mg base 1 gO Vd yV (pK K))(Yb:Hh P w K mg base 1 gM Vc yU (pJ K))(Zgz:Hh P w K mg base 2 jY Zcp Fg (vA XQ))(Lw:Hh P w K mg base 2 jo Xv BR (rP XQ))(Zgx:Hh P w K mg base 1 jW Zcn Fe (vz K))(uw:Hh P w K mg base 4 fU wC ["world"] (nZ XQ))(Zsr:Hh P w K mg base 9 zy Zvw ["world"] (bU XQ Ziu))(Ls:Hh P w K mg base 5 jj Xp ["world"] (CQ XQ)):lB P w K mg base 10 jX fd Ff (RD XQ):=by
 have sc:=Z9;have tx:=pU _ T;walk_at "ok"
 ·refine⟨Bk K (Vp XQ) (Hl K) (pK K) (pJ K) (vA XQ) (rP XQ) (vz K) (nZ XQ) (bU XQ Ziu) (CQ XQ),(ao (fZ 2 sc.nd (aJ (pv 0) rfl))
   (ao (cA (PW.pt (q8 (nW HW (aJ (pv 2) rfl) (bI)) (pQ (nW (G.Ziv (wA hr)) (aJ (pv 2) rfl) (cY au))))) (ao (rz (fP Zsr hr T.Zjh (aa (pv 0) au)))
   (aA (aM (pL)))) bh)
   (ao (fZ 3 sc.nd (fP Ls hr T.Cm (aa (pv 0) au)))
   (ao (fZ 4 sc.nd (fP uw hr T.uh (aa (pv 0) au)))
   (ao (fZ 5 sc.nd (fP Lw hr T.Cr (aa (pv 2) au)))
   (ao (cA (nW (G.Zq8 (wA hr)) (pv 5) (cY au)) (aA (aM (pL))) bh)
   (ao (vZ (fP Zl2 hr T.Us (aa (pv 0) (aa (pv 1) (aa (pv 3) au)))) (Tn rfl (oR (d8 (i:=6) sc.nd rfl (Or.inl rfl)) (oR (d8 (i:=7) sc.nd rfl (Or.inl rfl)) (oR (d8 (i:=8) sc.nd rfl (Or.inl rfl)) J2)))))
   (ao (fZ 9 sc.nd (fP Zsr hr T.Zjh (aa (pv 0) au)))
   (ao (cA (oH (jz (pv 8))) (aA (aM ((Nb (cz G.uD (by rfl) T.gP G.boot_isinstance (aa (pv 9) (aa (xH rfl T.Gz G.boot_tuple rfl) au))) (Nb (p8 iU (cz G.cL (by rfl) T.jT G.boot_len (aa (pv 9) au)) (az) (wg _)) (M8 (p8 GP (jL bO (pv 9) (az)) (cJ (aa (bI) (aa (bI) au))) (by with_unfolding_all rfl)))))))) bh)
   (ao (cA (oH (jz (fP Zdx hr T.Kz (aa (pv 9) (aa (cJ (aa (bI) (aa (pv 6) (aa (vH G.CG (by rfl) T.vJ G.boot_list (aa (pv 7) au)) au)))) au))))) (aA (aM (pL))) bh)
   (ao (Ztr ((pv 5)) ((az)) G.Zs1 ((az)) Zrg set_list)
   (ao (cA (nW iU (pv 1) (az)) (aA (vZ (aZ Zwl (jL dg (pv 5) (az)) (pv 6)) (yQ (pv 5) (az) set_list))) bh)
   (ao (fZ 10 sc.nd (fP Zgx hr T.Qc (aa (pv 3) (aa (pv 7) (aa (bI) au)))))
   (ao (cA (PW.pt (q8 (oH (jz (fP Yc hr T.Ig (aa (fP Ls hr T.Cm (aa (pv 0) au)) (aa (pv 3) (aa (pv 10) au)))))) (pQ (nW (G.Zq7 hr.units) (fP uw hr T.uh (aa (pv 0) au)) (pv 4))))) (aA (aM (pL))) bh)
   (ao (cA (PW.pt (q8 (nW HW (aJ (pv 2) rfl) (bI)) (pQ (nW (G.Ziv (wA hr)) (fP Lw hr T.Cr (aa (pv 2) au)) (pv 5))))) (aA (aM (pL))) bh)
   (aA (aM ((Nb (fP Zgz hr T.Qe (aa (pv 0) (aa (jL dg (pv 5) (az)) au))) (M8 (p8 (G.Zq8 (wA hr)) (aJ (pv 2) rfl) (fP Yb hr T.Ie (aa (pv 3) (aa (pv 7) au))) (wg _)))))))))))))))))))))),?_⟩
  obtain⟨z0,z1,rfl,q⟩:=h;exact Zd6 tx q
theorem Zxu{fl:AH}{fd:AK}{K7 nD Zcw Xx Zcv Zcr Zcq Zco:AK}(F:jx K "law" "law" SX fl fd)(z6:Hh P w K mg base 3 dj K7 tD (vD XQ))(kY:Hh P w K mg base 1 gq nD qI (rQ K))(Zh6:Hh P w K mg base 6 kE Zcw Fw (RT XQ (Dl bV aL aU bC)))(Zdv:Hh P w K mg base 2 jr Xx BW (RQ K))(Zh5:Hh P w K mg base 3 kj Zcv Fv (RP XQ))(Zh1:Hh P w K mg base 2 j6 Zcr Fl (Zdj K))(Zh0:Hh P w K mg base 5 jZ Zcq Fj (RG K))(Zgy:Hh P w K mg base 10 jX Zco Ff (RD XQ)):lB P w K mg base 11 fl fd ["_law_script"] (Zm8 K):=by
 have sc:=Zxf;have tx:=pU _ T;walk_at "ok"
 ·refine⟨Zih K XQ.W (vD XQ) (rQ K) (RT XQ (Dl bV aL aU bC)) (RQ K) (RP XQ) (Zdj K) (RG K) (RD XQ),(ao (fZ 1 sc.nd (aZ gB (fP kY hr T.m5 (aa (pv 0) (aa (az) au))) (az)))
   (ao (fZ 2 sc.nd (fP Zdv hr T.Kw (aa (pv 0) au)))
   (ao (fZ 3 sc.nd (BP T.Kg z6.g (hr.mono (by decide)) rfl T.Zll z6.b .nil G.gk (aa (fP Zh1 hr T.Qg (aa (pv 0) au)) (aa (fP Zh5 hr T.Qk (aa (pv 1) au)) (aa (vH G.CG (by rfl) T.vJ G.boot_list (aa (pv 2) au)) au)))))
   (ao (mQ PassesOwn.never rfl (jR (fP Zh0 hr T.Qf (aa (pv 0) (aa (pv 2) au)))) (d8 (i:=4) sc.nd rfl (Or.inl rfl))
   (ao (cA (nW iU (aJ (aJ (pv 3) rfl) rfl) (bI)) (aA (aM (pL))) bh)
   (aA (cA (nW G.zQ (pv 4) (gj)) (aA (rz (fP Zh6 hr T.Ql (aa (pv 3) (aa (pv 4) au))))) (aA (cA (oH (jz (fP Zgy hr T.Qd (aa (pv 3) (aa (aZ gB (pv 1) (az)) au))))) (aA (aM (pL))) bh))))))
   (aA (aM (pL))))))),?_⟩
  obtain⟨z0,rfl,q⟩:=h;exact Zyc tx q
end
abbrev Fi(K:aB)(c:AH)(s:Str)(f:AH):Prop:=W.findIn K (.ref c) s=some (some (.ref f))
abbrev Fo(K:aB)(c:AH)(s:Str):Prop:=W.findIn K (.ref c) s=some none
abbrev Ns(K:aB)(s:Str)(f:AH):Prop:=W.nsIn K mainGlobals s=some (some (.ref f))
abbrev Ki(K:aB)(f:AH):Prop:=W.keepIn K (.ref f)=true
abbrev Ci(K:aB)(c:AI)(s:Str):Prop:=W.codeIn K c s=true
abbrev Lk(K:aB)(f:AH)(a b:Str)(s:Stmt)(d:AI)(oc:AI)(od:Option AH)(kV dc pm:AI)(an:Option AH)(cd ct:AI)(sl:Array AB):Prop:=K.lookup f=some ⟨oc,od,.func (W.fnOf a b (oK s) (lQ s) (aG s) d kV dc pm an cd ct),sl⟩
def lA(K:aB)(x q:Str)(s:Stmt)(f:AH):Prop:=∃oc od kV d b c a ct sl,Lk K f x q s .none oc od kV d b c a ct sl/\Ci K a q/\Ki K f
theorem fgm{K:aB}{x q:Str}{s:Stmt}{f:AH}{oc:AI}{od:Option AH}{kV e b:AI}{d:Option AH}{a ct:AI}{sl:Array AB}(l:Lk K f x q s .none oc od kV e b d a ct sl)(c:Ci K a q)(k:Ki K f):lA K x q s f:=⟨oc,od,kV,e,b,d,a,ct,sl,l,c,k⟩
theorem fg{K:aB}{x q:Str}{s:Stmt}{f:AH}(h:lA K x q s f):∃fd,jx K x q s f fd/\Ki K f:=by
 obtain⟨oc,od,kV,d,e,b,a,ct,sl,l,c,k⟩:=h;exact⟨_,Zs2 l c k,k⟩
theorem HF{K:aB}{x a:Str}{st:Stmt}{f:AH}{fd:AK}(F:jx K x a st f fd)(a0:Str)(h:∀(kV b g:AI) (e:Option AH) (c ct d:AI),bindArgs (W.fnOf x a (oK st) (lQ st) (aG st) .none kV b g e c ct) ⟨[d],[]⟩=pure (([a0]:AG).zip [d]):=by intros;rfl):Binds K fd [a0] []:=F.binds λkV b g e c ct us hl=>match us,hl with | [d],_=>h kV b g e c ct d
theorem Ad{K:aB}{x a:Str}{st:Stmt}{f:AH}{fd:AK}(F:jx K x a st f fd)(a0 j:Str)(h:∀(kV b i:AI) (g:Option AH) (c ct e d:AI),bindArgs (W.fnOf x a (oK st) (lQ st) (aG st) .none kV b i g c ct) ⟨[e,d],[]⟩=pure (([a0,j]:AG).zip [e,d]):=by intros;rfl):Binds K fd [a0,j] []:=F.binds λkV b i g c ct us hl=>match us,hl with | [e,d],_=>h kV b i g c ct e d
theorem bd3{K:aB}{x a:Str}{st:Stmt}{f:AH}{fd:AK}(F:jx K x a st f fd)(a0 l k:Str)(h:∀(kV b j:AI) (i:Option AH) (c ct g e d:AI),bindArgs (W.fnOf x a (oK st) (lQ st) (aG st) .none kV b j i c ct) ⟨[g,e,d],[]⟩=pure (([a0,l,k]:AG).zip [g,e,d]):=by intros;rfl):Binds K fd [a0,l,k] []:=F.binds λkV b j i c ct us hl=>match us,hl with | [g,e,d],_=>h kV b j i c ct g e d
theorem bd4{K:aB}{x a:Str}{st:Stmt}{f:AH}{fd:AK}(F:jx K x a st f fd)(a0 n l m:Str)(h:∀(kV b k:AI) (j:Option AH) (c ct i e d g:AI),bindArgs (W.fnOf x a (oK st) (lQ st) (aG st) .none kV b k j c ct) ⟨[i,e,d,g],[]⟩=pure (([a0,n,l,m]:AG).zip [i,e,d,g]):=by intros;rfl):Binds K fd [a0,n,l,m] []:=F.binds λkV b k j c ct us hl=>match us,hl with | [i,e,d,g],_=>h kV b k j c ct i e d g
theorem bd5{K:aB}{x a:Str}{st:Stmt}{f:AH}{fd:AK}(F:jx K x a st f fd)(a0 o m n p:Str)(h:∀(kV b l:AI) (k:Option AH) (c ct j g d i e:AI),bindArgs (W.fnOf x a (oK st) (lQ st) (aG st) .none kV b l k c ct) ⟨[j,g,d,i,e],[]⟩=pure (([a0,o,m,n,p]:AG).zip [j,g,d,i,e]):=by intros;rfl):Binds K fd [a0,o,m,n,p] []:=F.binds λkV b l k c ct us hl=>match us,hl with | [j,g,d,i,e],_=>h kV b l k c ct j g d i e
theorem all_mk{l:W.OpenLaw}{w:AN}{K:aB}{h:Heap}{mg:As}{fa fl g f u c j q m t x P aL aU bV bC dG gf dN dD iQ lH jG jF gb iY eZ oF pZ dF cM dj zA fU iK jD eE jl oG jj jV ur zz ie wF uq oE gZ cV cT zx gK Ik jm mF gY cU jk Ij bY zy o5 N bZ O dJ dM dI ig dB eO lg jE gH fQ iD jN jM iI iH iG fJ iB iC iy gJ XF gq eF iM jr j6 kj j9 kh kJ jw jq jZ fV ju kE jt jW gO gM jo kO j7 mG jY jX:AH}(k:K.In h)(p:h.Ns mainGlobals mg)(hfa:mg "law"=some (.ref fa))
  {od5 an5 to5 ZCi ZC8:Option AH}
  {sl5 ts5 ZCh:Array AB}
  {oc5 kV5 dc5 pm5 cd5 ct5 tc5 E A ZCj ZB2 ZC3 ZAn F ZC5 Zwg Zwf:AI}
  {td5 Ve Vf:AH}
  {tn5 Zgc Zgd:Nat}
  {Y7 Y6 Y5 Y4 Zh Zg Zf Ze Zd Zc Zb Za Y9 Y8:Int}
  {Ym Yl Yk Yj Yw Yv Yu Yt Ys Yr Yq Yp Yo Yn:Tok}
  (ZA1:Ns K "Cell" g)
  (Zzx:Ns K "Heap" f)
  (Zzy:Ns K "Hand" u)
  (Zoi:Ns K "Sweeper" c)
  (Zw7:Ns K "World" j)
  (Zw8:Ns K "First" q)
  (ZA0:Ns K "Each" m)
  (Zzv:Ns K "Last" t)
  (Zzw:Ns K "Kind" x)
  (Zgp:Ns K "GreyError" P)
  (Zgq:Ns K "EmptySlot" aL)
  (Zoj:Ns K "NoField" aU)
  (Zzz:Ns K "Full" bV)
  (Zso:Ns K "NoName" bC)
  (a1:Fi K g "__init__" dG)
  (i1:W.isFn K (.ref dG)=true)
  (a2:Fi K g "units" gf)
  (i2:W.isFn K (.ref gf)=true)
  (a3:Fi K g "has_field" dN)
  (i3:W.isFn K (.ref dN)=true)
  (a4:Fi K f "__init__" dD)
  (i4:W.isFn K (.ref dD)=true)
  (a5:Fi K f "make" iQ)
  (i5:W.isFn K (.ref iQ)=true)
  (l5:Lk K iQ "make" "Heap.make" xq (.ref td5) oc5 od5 kV5 dc5 pm5 an5 cd5 ct5 sl5)
  (t5:K.lookup td5=some ⟨tc5,to5,.seq #[E,A] tn5,ts5⟩)
  (ZLa:RelV (.int 0) E)
  (ZL9:RelV (.int 0) A)
  (c5:Ci K cd5 "Heap.make")
  (k5:Ki K iQ)
  (a6:Fi K f "lay" lH)
  (i6:W.isFn K (.ref lH)=true)
  (a7:Fi K f "back" jG)
  (i7:W.isFn K (.ref jG)=true)
  (a8:Fi K f "free" jF)
  (i8:W.isFn K (.ref jF)=true)
  (a9:Fi K f "there" gb)
  (i9:W.isFn K (.ref gb)=true)
  (a10:Ns K "cell_at" iY)
  (a11:Ns K "birth_at" eZ)
  (a12:Ns K "reached" oF)
  (a13:Ns K "onward" pZ)
  (a14:Fi K u "__init__" dF)
  (i14:W.isFn K (.ref dF)=true)
  (a15:Fi K c "__init__" cM)
  (i15:W.isFn K (.ref cM)=true)
  (a16:Fi K j "__init__" dj)
  (i16:W.isFn K (.ref dj)=true)
  (a17:Ns K "held" zA)
  (a18:Ns K "births_held" fU)
  (a19:Ns K "births_at" iK)
  (a20:Ns K "looked_at" jD)
  (a21:Ns K "has_sense" eE)
  (a22:Ns K "is_walking" jl)
  (a23:Ns K "mark_of" oG)
  (a24:Ns K "told_cells" jj)
  (a25:Ns K "told_cell" jV)
  (a26:Ns K "begin" ur)
  (a27:Ns K "note" zz)
  (a28:Ns K "note_all" ie)
  (a29:Ns K "gone" wF)
  (a30:Ns K "roots" uq)
  (a31:Ns K "root_of" oE)
  (a32:Ns K "note_hands" gZ)
  (a33:Ns K "step_at_rest" cV)
  (a34:Ns K "step_in_walk" cT)
  (a35:Ns K "walk" zx)
  (a36:Ns K "look_or_cut" gK)
  (a37:Ns K "cut" Ik)
  (a38:Ns K "first_loss" jm)
  (a39:Ns K "given_up" mF)
  (a40:Ns K "told_again" gY)
  (a41:Ns K "step_in_give" cU)
  (a42:Ns K "pass_place" jk)
  (a43:Ns K "end" Ij)
  (a44:Ns K "step_when_lost" bY)
  (a45:Ns K "step" zy)
  (a46:Ns K "all_of" o5)
  (a47:Fi K m "at_begin" N)
  (J:W.isFn K (.ref N)=true)
  (a48:Fi K q "next_look" bZ)
  (i48:W.isFn K (.ref bZ)=true)
  (a49:Fi K m "stays" O)
  (I:W.isFn K (.ref O)=true)
  (a50:Fi K q "at_begin" dJ)
  (i50:W.isFn K (.ref dJ)=true)
  (a51:Fi K m "next_look" dM)
  (i51:W.isFn K (.ref dM)=true)
  (a52:Fi K t "next_look" dI)
  (i52:W.isFn K (.ref dI)=true)
  (a53:Fi K t "stays" ig)
  (i53:W.isFn K (.ref ig)=true)
  (a54:Fi K x "__init__" dB)
  (i54:W.isFn K (.ref dB)=true)
  (a55:Ns K "slots_of" eO)
  (a56:Ns K "cell_in" lg)
  (a57:Ns K "fields_in" jE)
  (a58:Ns K "told_as_old" gH)
  (a59:Ns K "told_as_new" fQ)
  (a60:Ns K "do_make" iD)
  (a61:Ns K "do_get" jN)
  (a62:Ns K "do_put" jM)
  (a63:Ns K "do_copy" iI)
  (a64:Ns K "do_drop" iH)
  (a65:Ns K "do_give" iG)
  (a66:Ns K "do_write" fJ)
  (a67:Ns K "do_read" iB)
  (a68:Ns K "do_name" iC)
  (a69:Ns K "do_seek" iy)
  (a70:Ns K "place_named" gJ)
  (a71:Ns K "do" XF)
  (a72:Ns K "_law_cell" gq)
  (a73:Ns K "_law_draw" eF)
  (a74:Ns K "_law_word" iM)
  (a75:Ns K "_law_hands" jr)
  (a76:Ns K "_law_room" j6)
  (a77:Ns K "_law_kind" kj)
  (a78:Ns K "_law_made" j9)
  (a79:Ns K "_law_load" kh)
  (a80:Ns K "_law_deed" kJ)
  (a81:Ns K "_law_deeds" jw)
  (a82:Ns K "_law_start" jq)
  (a83:Ns K "_law_rows" jZ)
  (a84:Ns K "_law_number" fV)
  (a85:Ns K "_law_event" ju)
  (a86:Ns K "_law_hand" kE)
  (a87:Ns K "_law_first" jt)
  (a88:Ns K "_law_with" jW)
  (a89:Ns K "_law_marked" gO)
  (a90:Ns K "_law_places" gM)
  (a91:Ns K "_law_state" jo)
  (a92:Ns K "_law_bits" kO)
  (a93:Ns K "_law_pale" j7)
  (a94:Ns K "_law_due" mG)
  (a95:Ns K "_law_seen" jY)
  (a96:Ns K "_law_step" jX)
  (a97:Ns K "law" fl)
  (l97:Lk K fl "law" "law" SX .none ZCj ZCi ZB2 ZC3 ZAn ZC8 F ZC5 ZCh)
  (c97:Ci K F "law")
  (k97:Ki K fl)
  (Zql:Ns K "STEPS" Ve)
  (Zr5:K.lookup Ve=some ⟨.type "dict",none,.dict #[⟨Y7,.str "rest" Ym,.ref cV⟩,⟨Y6,.str "walk" Yl,.ref cT⟩,⟨Y5,.str "give" Yk,.ref cU⟩,⟨Y4,.str "lost" Yj,.ref bY⟩] Zgc,#[]⟩)
  (Znp:Y7=hashStr w "rest")
  (Zno:Y6=hashStr w "walk")
  (Znn:Y5=hashStr w "give")
  (Znm:Y4=hashStr w "lost")
  (Zqm:Ns K "DEEDS" Vf)
  (Zr6:K.lookup Vf=some ⟨.type "dict",none,.dict #[⟨Zh,.str "make" Yw,.ref iD⟩,⟨Zg,.str "get" Yv,.ref jN⟩,⟨Zf,.str "put" Yu,.ref jM⟩,⟨Ze,.str "copy" Yt,.ref iI⟩,⟨Zd,.str "drop" Ys,.ref iH⟩,⟨Zc,.str "give" Yr,.ref iG⟩,⟨Zb,.str "write" Yq,.ref fJ⟩,⟨Za,.str "read" Yp,.ref iB⟩,⟨Y9,.str "name" Yo,.ref iC⟩,⟨Y8,.str "seek" Yn,.ref iy⟩] Zgd,#[]⟩)
  (Znz:Zh=hashStr w "make")
  (Zny:Zg=hashStr w "get")
  (Znx:Zf=hashStr w "put")
  (Znw:Ze=hashStr w "copy")
  (Znv:Zd=hashStr w "drop")
  (Znu:Zc=hashStr w "give")
  (Znt:Zb=hashStr w "write")
  (Zns:Za=hashStr w "read")
  (Znr:Y9=hashStr w "name")
  (Znq:Y8=hashStr w "seek")
  (Zu4:W.plainGet K g Str.empty=true)
  (Zvm:W.hasDictIn K g=true)
  (Ztx:W.plainOver K g=true)
  (Ztg:W.findIn K (.ref g) "__setattr__"=some (some (.builtin "object.__setattr__")))
  (Rv:W.makesIn K g=true)
  (Zv0:Ki K g)
  (dX:Fo K g "birth")
  (mY:Fo K g "bulk")
  (mX:Fo K g "tone")
  (jU:Fo K g "load")
  (fc:Fo K g "fields")
  (Zsc:W.findIn K (.ref g) "__eq__"=some (some (.builtin "object.__eq__")))
  (Zsb:W.mroIn K g (.type "object")=some true)
  (Zu1:W.plainGet K f Str.empty=true)
  (Zvj:W.hasDictIn K f=true)
  (Ztu:W.plainOver K f=true)
  (Ztd:W.findIn K (.ref f) "__setattr__"=some (some (.builtin "object.__setattr__")))
  (Rt:W.makesIn K f=true)
  (Zux:Ki K f)
  (oU:Fo K f "room")
  (bN:Fo K f "cells")
  (jB:Fo K f "used")
  (mW:Fo K f "born")
  (Zu2:W.plainGet K u Str.empty=true)
  (Zvk:W.hasDictIn K u=true)
  (Ztv:W.plainOver K u=true)
  (Zte:W.findIn K (.ref u) "__setattr__"=some (some (.builtin "object.__setattr__")))
  (Ru:W.makesIn K u=true)
  (Zuy:Ki K u)
  (xO:Fo K u "name")
  (vp:Fo K u "slots")
  (Zin:W.plainGet K c Str.empty=true)
  (Zk1:W.hasDictIn K c=true)
  (Zik:W.plainOver K c=true)
  (Zi8:W.findIn K (.ref c) "__setattr__"=some (some (.builtin "object.__setattr__")))
  (Ck:W.makesIn K c=true)
  (Zjr:Ki K c)
  (qe:Fo K c "sense")
  (qg:Fo K c "phase")
  (rG:Fo K c "grey")
  (pG:Fo K c "looked")
  (rD:Fo K c "turn")
  (vm:Fo K c "at")
  (rE:Fo K c "stop")
  (qd:Fo K c "walks")
  (qi:Fo K c "looks")
  (pF:Fo K c "passes")
  (rF:Fo K c "loss")
  (Zpw:W.plainGet K j Str.empty=true)
  (Zrv:W.hasDictIn K j=true)
  (Zpr:W.plainOver K j=true)
  (Zpb:W.findIn K (.ref j) "__setattr__"=some (some (.builtin "object.__setattr__")))
  (Kg:W.makesIn K j=true)
  (Zrc:Ki K j)
  (vh:Fo K j "heap")
  (vg:Fo K j "kind")
  (uf:Fo K j "hands")
  (ue:Fo K j "names")
  (qb:Fo K j "sweeper")
  (Zpx:W.plainGet K q Str.empty=true)
  (Zrw:W.hasDictIn K q=true)
  (Zps:W.plainOver K q=true)
  (Zpc:W.findIn K (.ref q) "__setattr__"=some (some (.builtin "object.__setattr__")))
  (Zqo:W.makesIn K q=true)
  (Zrd:Ki K q)
  (Zqb:W.findIn K (.ref q) "__init__"=some (some (.builtin "object.__init__")))
  (Zu3:W.plainGet K m Str.empty=true)
  (Zvl:W.hasDictIn K m=true)
  (Ztw:W.plainOver K m=true)
  (Ztf:W.findIn K (.ref m) "__setattr__"=some (some (.builtin "object.__setattr__")))
  (Zuq:W.makesIn K m=true)
  (Zuz:Ki K m)
  (Zuj:W.findIn K (.ref m) "__init__"=some (some (.builtin "object.__init__")))
  (Ztz:W.plainGet K t Str.empty=true)
  (Zvh:W.hasDictIn K t=true)
  (Zts:W.plainOver K t=true)
  (Ztb:W.findIn K (.ref t) "__setattr__"=some (some (.builtin "object.__setattr__")))
  (Zup:W.makesIn K t=true)
  (Zuv:Ki K t)
  (Zui:W.findIn K (.ref t) "__init__"=some (some (.builtin "object.__init__")))
  (Zu0:W.plainGet K x Str.empty=true)
  (Zvi:W.hasDictIn K x=true)
  (Ztt:W.plainOver K x=true)
  (Ztc:W.findIn K (.ref x) "__setattr__"=some (some (.builtin "object.__setattr__")))
  (GR:W.makesIn K x=true)
  (Zuw:Ki K x)
  (rH:Fo K x "looking")
  (vo:Fo K x "tells")
  (wX:W.excIn K aL [.type "ValueError",.type "Exception",.type "BaseException",.type "object"] "ValueError.__new__"=true)
  (Zu:W.excIn K bV [.type "ValueError",.type "Exception",.type "BaseException",.type "object"] "ValueError.__new__"=true)
  (GD:W.excIn K aU [.type "ValueError",.type "Exception",.type "BaseException",.type "object"] "ValueError.__new__"=true)
  (Jz:W.excIn K bC [.type "ValueError",.type "Exception",.type "BaseException",.type "object"] "ValueError.__new__"=true)
  (lO:W.exmOne K (.ref aL) (.ref P)=some true)
  (mK:W.exmOne K (.ref aU) (.ref P)=some true)
  (pI:W.exmOne K (.ref bV) (.ref P)=some true)
  (nF:W.exmOne K (.ref bC) (.ref P)=some true)
  (Ow:Fi K m "at_begin" N)
  (Xi:Fi K m "stays" O)
  (Js:Fi K q "next_look" bZ)
  (U5:Fi K q "stays" O)
  (Ov:Fi K t "at_begin" N)
  (Zt:W.nsIn K mainGlobals "bool"=some none)
  (qG:W.nsIn K mainGlobals "enumerate"=some none)
  (Zl5:W.nsIn K mainGlobals "int"=some none)
  (gP:W.nsIn K mainGlobals "isinstance"=some none)
  (jT:W.nsIn K mainGlobals "len"=some none)
  (vJ:W.nsIn K mainGlobals "list"=some none)
  (pB:W.nsIn K mainGlobals "range"=some none)
  (Zl4:W.nsIn K mainGlobals "str"=some none)
  (Gz:W.nsIn K mainGlobals "tuple"=some none)
  (Zzh:W.nsIn K mainGlobals "NEW"=some (some Zwg))
  (Zzf:RelV (.int 2) Zwg)
  (Zzg:W.nsIn K mainGlobals "OLD"=some (some Zwf))
  (Zze:RelV (.int 1) Zwf)
  (g1:lA K "__init__" "Cell.__init__" uN dG)
  (g2:lA K "units" "Cell.units" Ba gf)
  (g3:lA K "has_field" "Cell.has_field" sS dN)
  (g4:lA K "__init__" "Heap.__init__" uL dD)
  (g6:lA K "lay" "Heap.lay" IV lH)
  (g7:lA K "back" "Heap.back" Em jG)
  (g8:lA K "free" "Heap.free" El jF)
  (g9:lA K "there" "Heap.there" Az gb)
  (g10:lA K "cell_at" "cell_at" MN iY)
  (g11:lA K "birth_at" "birth_at" Iz eZ)
  (g12:lA K "reached" "reached" Ms oF)
  (g13:lA K "onward" "onward" SQ pZ)
  (g14:lA K "__init__" "Hand.__init__" uM dF)
  (g15:lA K "__init__" "Sweeper.__init__" qt cM)
  (g16:lA K "__init__" "World.__init__" sH dj)
  (g17:lA K "held" "held" Zic zA)
  (g18:lA K "births_held" "births_held" yq fU)
  (g19:lA K "births_at" "births_at" DP iK)
  (g20:lA K "looked_at" "looked_at" DG jD)
  (g21:lA K "has_sense" "has_sense" DK eE)
  (g22:lA K "is_walking" "is_walking" Ak jl)
  (g23:lA K "mark_of" "mark_of" Mu oG)
  (g24:lA K "told_cells" "told_cells" Ag jj)
  (g25:lA K "told_cell" "told_cell" Dz jV)
  (g26:lA K "begin" "begin" Zag ur)
  (g27:lA K "note" "note" Zib zz)
  (g28:lA K "note_all" "note_all" Iu ie)
  (g29:lA K "gone" "gone" Zid wF)
  (g30:lA K "roots" "roots" Zaf uq)
  (g31:lA K "root_of" "root_of" Mr oE)
  (g32:lA K "note_hands" "note_hands" Aj gZ)
  (g33:lA K "step_at_rest" "step_at_rest" vN cV)
  (g34:lA K "step_in_walk" "step_in_walk" vL cT)
  (g35:lA K "walk" "walk" Zi9 zx)
  (g36:lA K "look_or_cut" "look_or_cut" yp gK)
  (g37:lA K "cut" "cut" Zpd Ik)
  (g38:lA K "first_loss" "first_loss" Am jm)
  (g39:lA K "given_up" "given_up" Iv mF)
  (g40:lA K "told_again" "told_again" Ah gY)
  (g41:lA K "step_in_give" "step_in_give" vM cU)
  (g42:lA K "pass_place" "pass_place" Ai jk)
  (g43:lA K "end" "end" s_end Ij)
  (g44:lA K "step_when_lost" "step_when_lost" sG bY)
  (g45:lA K "step" "step" Zia zy)
  (g46:lA K "all_of" "all_of" S7 o5)
  (g47:lA K "at_begin" "Looking.at_begin" qu N)
  (g48:lA K "next_look" "Looking.next_look" pM bZ)
  (g49:lA K "stays" "Looking.stays" uJ O)
  (g50:lA K "at_begin" "First.at_begin" sJ dJ)
  (g51:lA K "next_look" "Each.next_look" sO dM)
  (g52:lA K "next_look" "Last.next_look" sI dI)
  (g53:lA K "stays" "Last.stays" Ay ig)
  (g54:lA K "__init__" "Kind.__init__" uK dB)
  (g55:lA K "slots_of" "slots_of" Ir eO)
  (g56:lA K "cell_in" "cell_in" MK lg)
  (g57:lA K "fields_in" "fields_in" DN jE)
  (g58:lA K "told_as_old" "told_as_old" yl gH)
  (g59:lA K "told_as_new" "told_as_new" ym fQ)
  (g60:lA K "do_make" "do_make" My iD)
  (g61:lA K "do_get" "do_get" S6 jN)
  (g62:lA K "do_put" "do_put" S5 jM)
  (g63:lA K "do_copy" "do_copy" MJ iI)
  (g64:lA K "do_drop" "do_drop" MF iH)
  (g65:lA K "do_give" "do_give" Mz iG)
  (g66:lA K "do_write" "do_write" Iw fJ)
  (g67:lA K "do_read" "do_read" Mw iB)
  (g68:lA K "do_name" "do_name" Mx iC)
  (g69:lA K "do_seek" "do_seek" Mv iy)
  (g70:lA K "place_named" "place_named" yo gJ)
  (g71:lA K "do" "do" Zxi XF)
  (g72:lA K "_law_cell" "_law_cell" Ej gq)
  (g73:lA K "_law_draw" "_law_draw" Eh eF)
  (g74:lA K "_law_word" "_law_word" DQ iM)
  (g75:lA K "_law_hands" "_law_hands" Aq jr)
  (g76:lA K "_law_room" "_law_room" Ea j6)
  (g77:lA K "_law_kind" "_law_kind" Ef kj)
  (g78:lA K "_law_made" "_law_made" Ec j9)
  (g79:lA K "_law_load" "_law_load" Ed kh)
  (g80:lA K "_law_deed" "_law_deed" Ei kJ)
  (g81:lA K "_law_deeds" "_law_deeds" Aw jw)
  (g82:lA K "_law_start" "_law_start" Ao jq)
  (g83:lA K "_law_rows" "_law_rows" DY jZ)
  (g84:lA K "_law_number" "_law_number" yt fV)
  (g85:lA K "_law_event" "_law_event" Av ju)
  (g86:lA K "_law_hand" "_law_hand" Eg kE)
  (g87:lA K "_law_first" "_law_first" Ar jt)
  (g88:lA K "_law_with" "_law_with" DR jW)
  (g89:lA K "_law_marked" "_law_marked" yu gO)
  (g90:lA K "_law_places" "_law_places" yr gM)
  (g91:lA K "_law_state" "_law_state" An jo)
  (g92:lA K "_law_bits" "_law_bits" Ek kO)
  (g93:lA K "_law_pale" "_law_pale" Eb j7)
  (g94:lA K "_law_due" "_law_due" IK mG)
  (g95:lA K "_law_seen" "_law_seen" DX jY)
  (g96:lA K "_law_step" "_law_step" DW jX)
  :∃fd:AK,(∀(s:AJ) (v:AI),BindsTo s fd ⟨[v],[]⟩ [("_law_script",v)])/\∀base:Heap,K.In base->base.Ns mainGlobals mg->wO l.prog w K mg base (G.Vu l.prog w) 11 fa fd ["_law_script"] (Zm8 K):=by
 have e:=hfa.symm.trans (W.mg_of k p a97);cases e;have b:∀{s:Str}{v:AI},W.nsIn K mainGlobals s=some (some v)->mg s=some v:=λh=>W.mg_of k p h
 let a:Cs:=⟨j,f,g,x,u,c,q,m,t⟩
 obtain⟨_,F1,k1⟩:=fg g1;obtain⟨_,F2,k2⟩:=fg g2;obtain⟨_,F3,k3⟩:=fg g3;obtain⟨_,F4,k4⟩:=fg g4;obtain⟨_,F6,k6⟩:=fg g6;obtain⟨_,F7,k7⟩:=fg g7;obtain⟨_,F8,k8⟩:=fg g8;obtain⟨_,F9,k9⟩:=fg g9;obtain⟨_,F10,k10⟩:=fg g10;obtain⟨_,F11,k11⟩:=fg g11;obtain⟨_,F12,k12⟩:=fg g12;obtain⟨_,F13,k13⟩:=fg g13;obtain⟨_,F14,k14⟩:=fg g14;obtain⟨_,F15,k15⟩:=fg g15;obtain⟨_,F16,k16⟩:=fg g16;obtain⟨_,F17,k17⟩:=fg g17;obtain⟨_,F18,k18⟩:=fg g18;obtain⟨_,F19,k19⟩:=fg g19;obtain⟨_,F20,k20⟩:=fg g20;obtain⟨_,F21,k21⟩:=fg g21;obtain⟨_,F22,k22⟩:=fg g22;obtain⟨_,F23,Hw⟩:=fg g23;obtain⟨_,F24,k24⟩:=fg g24;obtain⟨_,F25,k25⟩:=fg g25;obtain⟨_,F26,k26⟩:=fg g26;obtain⟨_,F27,k27⟩:=fg g27;obtain⟨_,F28,k28⟩:=fg g28;obtain⟨_,F29,k29⟩:=fg g29;obtain⟨_,F30,k30⟩:=fg g30;obtain⟨_,F31,k31⟩:=fg g31;obtain⟨_,F32,k32⟩:=fg g32;obtain⟨_,F33,k33⟩:=fg g33;obtain⟨_,F34,W4⟩:=fg g34;obtain⟨_,F35,k35⟩:=fg g35;obtain⟨_,F36,k36⟩:=fg g36;obtain⟨_,F37,k37⟩:=fg g37;obtain⟨_,F38,k38⟩:=fg g38;obtain⟨_,F39,k39⟩:=fg g39;obtain⟨_,F40,k40⟩:=fg g40;obtain⟨_,F41,k41⟩:=fg g41;obtain⟨_,F42,k42⟩:=fg g42;obtain⟨_,F43,k43⟩:=fg g43;obtain⟨_,F44,k44⟩:=fg g44;obtain⟨_,F45,k45⟩:=fg g45;obtain⟨_,F46,k46⟩:=fg g46;obtain⟨_,F47,z⟩:=fg g47;obtain⟨_,F48,M⟩:=fg g48;obtain⟨_,F49,C⟩:=fg g49;obtain⟨_,F50,X⟩:=fg g50;obtain⟨_,F51,k51⟩:=fg g51;obtain⟨_,F52,k52⟩:=fg g52;obtain⟨_,F53,k53⟩:=fg g53;obtain⟨_,F54,k54⟩:=fg g54;obtain⟨_,F55,k55⟩:=fg g55;obtain⟨_,R,k56⟩:=fg g56;obtain⟨_,Z,k57⟩:=fg g57;obtain⟨_,F58,k58⟩:=fg g58;obtain⟨_,F59,k59⟩:=fg g59;obtain⟨_,F60,k60⟩:=fg g60;obtain⟨_,F61,k61⟩:=fg g61;obtain⟨_,S,k62⟩:=fg g62;obtain⟨_,F63,k63⟩:=fg g63;obtain⟨_,F64,k64⟩:=fg g64;obtain⟨_,F65,k65⟩:=fg g65;obtain⟨_,F66,k66⟩:=fg g66;obtain⟨_,F67,k67⟩:=fg g67;obtain⟨_,F68,k68⟩:=fg g68;obtain⟨_,F69,k69⟩:=fg g69;obtain⟨_,F70,k70⟩:=fg g70;obtain⟨_,F71,k71⟩:=fg g71;obtain⟨_,F72,k72⟩:=fg g72;obtain⟨_,F73,k73⟩:=fg g73;obtain⟨_,F74,k74⟩:=fg g74;obtain⟨_,F75,k75⟩:=fg g75;obtain⟨_,F76,k76⟩:=fg g76;obtain⟨_,F77,k77⟩:=fg g77;obtain⟨_,Q,k78⟩:=fg g78;obtain⟨_,F79,k79⟩:=fg g79;obtain⟨_,F80,k80⟩:=fg g80;obtain⟨_,F81,k81⟩:=fg g81;obtain⟨_,F82,k82⟩:=fg g82;obtain⟨_,F83,k83⟩:=fg g83;obtain⟨_,F84,k84⟩:=fg g84;obtain⟨_,F85,k85⟩:=fg g85;obtain⟨_,F86,k86⟩:=fg g86;obtain⟨_,F87,k87⟩:=fg g87;obtain⟨_,F88,k88⟩:=fg g88;obtain⟨_,F89,k89⟩:=fg g89;obtain⟨_,F90,k90⟩:=fg g90;obtain⟨_,Y,k91⟩:=fg g91;obtain⟨_,F92,k92⟩:=fg g92;obtain⟨_,U,k93⟩:=fg g93;obtain⟨_,F94,k94⟩:=fg g94;obtain⟨_,F95,k95⟩:=fg g95;obtain⟨_,F96,k96⟩:=fg g96;have T:Txt w K mg g f u c j q m t x P aL aU bV bC dG gf dN dD iQ lH jG jF gb iY eZ oF pZ dF cM dj zA fU iK jD eE jl oG jj jV ur zz ie wF uq oE gZ cV cT zx gK Ik jm mF gY cU jk Ij bY zy o5 N bZ O dJ dM dI ig dB eO lg jE gH fQ iD jN jM iI iH iG fJ iB iC iy gJ XF gq eF iM jr j6 kj j9 kh kJ jw jq jZ fV ju kE jt jW gO gM jo kO j7 mG jY jX:={
  Yx:=⟨Ve,_,_,Zgc,W.mg_of k p Zql,Zr5,⟨rfl,rfl,rfl⟩,rfl,Znp,⟨Ym,rfl⟩,rfl,Zno,⟨Yl,rfl⟩,rfl,Znn,⟨Yk,rfl⟩,rfl,Znm,⟨Yj,rfl⟩,rfl,trivial⟩
  Yy:=⟨Vf,_,_,Zgd,W.mg_of k p Zqm,Zr6,⟨rfl,rfl,rfl⟩,rfl,Znz,⟨Yw,rfl⟩,rfl,Zny,⟨Yv,rfl⟩,rfl,Znx,⟨Yu,rfl⟩,rfl,Znw,⟨Yt,rfl⟩,rfl,Znv,⟨Ys,rfl⟩,rfl,Znu,⟨Yr,rfl⟩,rfl,Znt,⟨Yq,rfl⟩,rfl,Zns,⟨Yp,rfl⟩,rfl,Znr,⟨Yo,rfl⟩,rfl,Znq,⟨Yn,rfl⟩,rfl,trivial⟩
  di:=⟨Zu4,Zvm,Ztx,Ztg⟩
  Zr1:=b ZA1
  Rv:=⟨Rv,a1,i1,Zv0⟩
  dX:=dX
  mY:=mY
  mX:=mX
  jU:=jU
  fc:=fc
  RB:=⟨Zsc,Zsb⟩
  cR:=⟨Zu1,Zvj,Ztu,Ztd⟩
  Zqx:=b Zzx
  Rt:=⟨Rt,a4,i4,Zux⟩
  oU:=oU
  bN:=bN
  jB:=jB
  mW:=mW
  Zm4:=⟨Zu2,Zvk,Ztv,Zte⟩
  Zqy:=b Zzy
  Ru:=⟨Ru,a14,i14,Zuy⟩
  xO:=xO
  vp:=vp
  Vh:=⟨Zin,Zk1,Zik,Zi8⟩
  YQ:=b Zoi
  Ck:=⟨Ck,a15,i15,Zjr⟩
  qe:=qe
  qg:=qg
  rG:=rG
  pG:=pG
  rD:=rD
  vm:=vm
  rE:=rE
  qd:=qd
  qi:=qi
  pF:=pF
  rF:=rF
  Zgl:=⟨Zpw,Zrv,Zpr,Zpb⟩
  Zll:=b Zw7
  Kg:=⟨Kg,a16,i16,Zrc⟩
  vh:=vh
  vg:=vg
  uf:=uf
  ue:=ue
  qb:=qb
  Gn:=⟨Zpx,Zrw,Zps,Zpc⟩
  Zlm:=b Zw8
  YH:=⟨Zqo,Zqb,Zrd⟩
  Lg:=⟨Zu3,Zvl,Ztw,Ztf⟩
  Zr0:=b ZA0
  Zfe:=⟨Zuq,Zuj,Zuz⟩
  Lf:=⟨Ztz,Zvh,Zts,Ztb⟩
  Zqw:=b Zzv
  Zfd:=⟨Zup,Zui,Zuv⟩
  Zm3:=⟨Zu0,Zvi,Ztt,Ztc⟩
  Zbm:=b Zzw
  GR:=⟨GR,a54,i54,Zuw⟩
  rH:=rH
  vo:=vo
  Qo:=b Zgp
  Qp:=b Zgq
  YS:=b Zoj
  Zqz:=b Zzz
  Zfh:=b Zso
  wX:=wX
  Zu:=Zu
  GD:=GD
  Jz:=Jz
  lO:=lO
  mK:=mK
  pI:=pI
  nF:=nF
  zV:=⟨Ow,J,z⟩
  yZ:=⟨Xi,I,C⟩
  wu:=⟨Js,i48,M⟩
  wj:=⟨U5,I,C⟩
  zU:=⟨Ov,J,z⟩
  N7:=⟨a1,i1,k1⟩
  ug:=⟨a2,i2,k2⟩
  xU:=⟨a3,i3,k3⟩
  N5:=⟨a4,i4,k4⟩
  Kl:=⟨a5,i5,k5⟩
  P0:=⟨a6,i6,k6⟩
  Ko:=⟨a7,i7,k7⟩
  Km:=⟨a8,i8,k8⟩
  yX:=⟨a9,i9,k9⟩
  tQ:=b a10
  nj:=b a11
  YL:=b a12
  Up:=b a13
  N6:=⟨a14,i14,k14⟩
  Hu:=⟨a15,i15,k15⟩
  Kh:=⟨a16,i16,k16⟩
  Zqt:=b a17
  uh:=b a18
  xV:=b a19
  Gd:=b a20
  mZ:=b a21
  Ks:=b a22
  YM:=b a23
  Cm:=b a24
  Qa:=b a25
  Zlk:=b a26
  Zqs:=b a27
  tO:=b a28
  Zji:=b a29
  Zlj:=b a30
  YK:=b a31
  Cq:=b a32
  Uo:=b a33
  Ul:=b a34
  Zqr:=b a35
  Ib:=b a36
  Zwn:=b a37
  Ku:=b a38
  Uq:=b a39
  Cp:=b a40
  Um:=b a41
  Kr:=b a42
  Zwm:=b a43
  Oa:=b a44
  Zjh:=b a45
  Ur:=b a46
  Hv:=⟨a47,J,z⟩
  Gb:=⟨a48,i48,M⟩
  NT:=⟨a49,I,C⟩
  xR:=⟨a50,i50,X⟩
  xT:=⟨a51,i51,k51⟩
  xQ:=⟨a52,i52,k52⟩
  yW:=⟨a53,i53,k53⟩
  NZ:=⟨a54,i54,k54⟩
  lF:=b a55
  zW:=b a56
  Ge:=b a57
  HY:=b a58
  za:=b a59
  Zna:=b a60
  Zqv:=b a61
  Zqu:=b a62
  Znd:=b a63
  Znc:=b a64
  Znb:=b a65
  Zjj:=b a66
  Zn8:=b a67
  Zn9:=b a68
  Zn7:=b a69
  Ia:=b a70
  ZAx:=b a71
  m5:=b a72
  cZ:=b a73
  xW:=b a74
  Kw:=b a75
  Qg:=b a76
  Qk:=b a77
  Qi:=b a78
  Qj:=b a79
  Qm:=b a80
  KC:=b a81
  Kv:=b a82
  Qf:=b a83
  um:=b a84
  Kz:=b a85
  Ql:=b a86
  Ky:=b a87
  Qc:=b a88
  Ig:=b a89
  Ie:=b a90
  Cr:=b a91
  Qn:=b a92
  Qh:=b a93
  Us:=b a94
  Qe:=b a95
  Qd:=b a96
  Zt:=W.mg_none_of k p Zt
  qG:=W.mg_none_of k p qG
  Zl5:=W.mg_none_of k p Zl5
  gP:=W.mg_none_of k p gP
  jT:=W.mg_none_of k p jT
  vJ:=W.mg_none_of k p vJ
  pB:=W.mg_none_of k p pB
  Zl4:=W.mg_none_of k p Zl4
  Gz:=W.mg_none_of k p Gz
  Zws:=⟨_,W.mg_of k p Zzh,Zzf⟩
  Zwr:=⟨_,W.mg_of k p Zzg,Zze⟩
 }
 have b1:=bd5 F1 "self" "birth" "many" "bulk" "tone";have b2:=HF F2 "self";have b3:=Ad F3 "self" "field";have b4:=Ad F4 "self" "room";have F5:=G.Zvr (st:=xq) l5 c5 k5;have b5:=G.Zkx (ps:=["self","many","bulk","tone"]) (ds:=[]) l5 t5 λus hl=>match us,hl with | [_,_,_,_],_=>⟨_,rfl,rfl⟩
 have ZLc:=G.Zkx (ps:=["self","many","bulk","tone"]) (ds:=[A]) l5 t5 λus hl=>match us,hl with | [_,_,_],_=>⟨_,rfl,rfl⟩
 have ZLb:=G.Zkx (ps:=["self","many","bulk","tone"]) (ds:=[E,A]) l5 t5 λus hl=>match us,hl with | [_,_],_=>⟨_,rfl,rfl⟩
 have b6:=Ad F6 "self" "cell";have b7:=Ad F7 "self" "place";have b8:=HF F8 "self";have b9:=HF F9 "self";have b10:=Ad F10 "heap" "place";have b11:=Ad F11 "heap" "place";have b12:=Ad F12 "heap" "rows";have b13:=bd3 F13 "heap" "places" "way";have b14:=bd3 F14 "self" "name" "many";have b15:=HF F15 "self";have b16:=bd4 F16 "self" "room" "kind" "hands";have b17:=HF F17 "world";have b18:=HF F18 "world";have b19:=Ad F19 "heap" "places";have b20:=Ad F20 "world" "hand";have b21:=Ad F21 "world" "cell";have b22:=HF F22 "world";have b23:=Ad F23 "world" "place";have b24:=HF F24 "world";have b25:=Ad F25 "world" "place";have b26:=HF F26 "world";have b27:=Ad F27 "world" "place";have b28:=Ad F28 "world" "places";have b29:=bd3 F29 "world" "place" "birth";have b30:=HF F30 "world";have b31:=bd3 F31 "world" "place" "birth";have b32:=Ad F32 "world" "hands";have b33:=HF F33 "world";have b34:=HF F34 "world";have b35:=HF F35 "world";have b36:=HF F36 "world";have b37:=HF F37 "world";have b38:=HF F38 "world";have b39:=HF F39 "world";have b40:=HF F40 "event";have b41:=HF F41 "world";have b42:=HF F42 "world";have b43:=HF F43 "world";have b44:=HF F44 "world";have b45:=HF F45 "world";have b46:=HF F46 "hands";have b47:=Ad F47 "self" "hands";have b48:=bd3 F48 "self" "looked" "hands";have b49:=HF F49 "self";have b50:=Ad F50 "self" "hands";have b51:=bd3 F51 "self" "looked" "hands";have b52:=bd3 F52 "self" "looked" "hands";have b53:=HF F53 "self";have b54:=bd3 F54 "self" "looking" "tells";have b55:=Ad F55 "world" "hand";have b56:=bd3 R "world" "hand" "slot";have b57:=bd4 Z "world" "hand" "slot" "field";have b58:=Ad F58 "world" "place";have b59:=bd3 F59 "world" "hand" "place";have b60:=Ad F60 "world" "deed";have b61:=Ad F61 "world" "deed";have b62:=Ad S "world" "deed";have b63:=Ad F63 "world" "deed";have b64:=Ad F64 "world" "deed";have b65:=Ad F65 "world" "deed";have b66:=Ad F66 "world" "deed";have b67:=Ad F67 "world" "deed";have b68:=Ad F68 "world" "deed";have b69:=Ad F69 "world" "deed";have b70:=Ad F70 "world" "word";have b71:=Ad F71 "world" "deed";have b72:=Ad F72 "_law_script" "_law_k";have b73:=bd3 F73 "_law_cell_here" "_law_prime" "_law_many";have b74:=Ad F74 "_law_cell_here" "_law_w";have b75:=HF F75 "_law_script";have b76:=HF F76 "_law_script";have b77:=HF F77 "_law_number_here";have b78:=bd3 Q "_law_n" "_law_h" "_law_s";have b79:=HF F79 "_law_n";have b80:=bd3 F80 "_law_n" "_law_hands_here" "_law_seed";have b81:=bd3 F81 "_law_n" "_law_hands_here" "_law_seed";have b82:=bd3 F82 "_law_hands_here" "_law_cell_here" "_law_seed";have b83:=Ad F83 "_law_script" "_law_hands_here";have b84:=HF F84 "_law_found";have b85:=Ad F85 "_law_found" "_law_due_here";have b86:=Ad F86 "_law_world" "_law_deed_here";have b87:=Ad F87 "_law_rows_here" "_law_bits_here";have b88:=bd3 F88 "_law_cells" "_law_births" "_law_mark";have b89:=bd3 F89 "_law_after" "_law_before" "_law_marks";have b90:=Ad F90 "_law_cells" "_law_births";have b91:=HF Y "_law_sweeper";have b92:=bd3 F92 "_law_way" "_law_looked" "_law_hands_here";have b93:=HF U "_law_cells";have b94:=bd3 F94 "_law_world" "_law_way" "_law_cells";have b95:=Ad F95 "_law_world" "_law_looked";have b96:=Ad F96 "_law_world" "_law_way";have F97:=Zs2 (st:=SX) l97 c97 k97;refine⟨W.fnOf "law" "law" (oK SX) (lQ SX) (aG SX) .none ZB2 ZC3 ZAn ZC8 F ZC5,λs v=>.of_eq rfl,λbase _ _=>?_⟩;have G1:=hh (w:=w) (NB l.prog base a T F1 ) b1 k1;have G2:=hh (w:=w) (WL l.prog base a T F2 ) b2 k2;have G3:=hh (w:=w) (Ke l.prog base a T F3 ) b3 k3;have G4:=hh (w:=w) (Ny l.prog base a T F4 ) b4 k4;have G6:=hh (w:=w) (Zex l.prog base a T F6 ) b6 k6;have G8:=hh (w:=w) (Zbf l.prog base a T F8 ) b8 k8;have G9:=hh (w:=w) (WK l.prog base a T F9 ) b9 k9;have r:=hh (w:=w) (Zj8 l.prog base a T F10 ) b10 k10;have G14:=hh (w:=w) (Nz l.prog base a T F14 ) b14 k14
 have G15:=hh (w:=w) (Hs l.prog base a T F15 ) b15 k15;have G17:=hh (w:=w) (Zug l.prog base a T F17 ) b17 k17;have G20:=hh (w:=w) (Zav l.prog base a T F20 ) b20 k20;have o:=hh (w:=w) (Zaw l.prog base a T F21 ) b21 k21;have G22:=hh (w:=w) (Wr l.prog base a T F22 ) b22 k22;have V:=hh (w:=w) (Wn l.prog base a T F40 ) b40 k40;have G43:=hh (w:=w) (Zxv l.prog base a T F43 ) b43 k43;have G46:=hh (w:=w) (Zn2 l.prog base a T F46 ) b46 k46;have G47:=hh (w:=w) (Ht l.prog base a T F47 ) b47 z;have G48:=hh (w:=w) (FP l.prog base a T F48 ) b48 M;have G49:=hh (w:=w) (Nv l.prog base a T F49 ) b49 C;have G51:=hh (w:=w) (Kd l.prog base a T F51 ) b51 k51;have G53:=hh (w:=w) (Wz l.prog base a T F53 ) b53 k53;have G54:=hh (w:=w) (Nx l.prog base a T F54 ) b54 k54;have d:=hh (w:=w) (Zer l.prog base a T F55 ) b55 k55;have G58:=hh (w:=w) (TF l.prog base a T F58 ) b58 k58;have D:=hh (w:=w) (Zbc l.prog base a T F72 ) b72 k72;have n:=hh (w:=w) (Zba l.prog base a T F73 ) b73 k73;have L:=hh (w:=w) (Zaz l.prog base a T F74 ) b74 k74;have G79:=hh (w:=w) (Zb7 l.prog base a T F79 ) b79 k79;have G84:=hh (w:=w) (T7 l.prog base a T F84 ) b84 k84;have G87:=hh (w:=w) (Ww l.prog base a T F87 ) b87 k87;have G88:=hh (w:=w) (Zb0 l.prog base a T F88 ) b88 k88;have G89:=hh (w:=w) (T9 l.prog base a T F89 ) b89 k89;have G90:=hh (w:=w) (TY l.prog base a T F90 ) b90 k90;have G92:=hh (w:=w) (Zbd l.prog base a T F92 ) b92 k92;have G93:=hh (w:=w) (Zb5 l.prog base a T U ) b93 k93;have G7:=hh (w:=w) (Zbg l.prog base a T F7 G2) b7 k7;have i:=hh (w:=w) (Zev l.prog base a T F11 r) b11 k11;have G13:=hh (w:=w) (Zmz l.prog base a T F13 r) b13 k13;have G23:=hh (w:=w) (Ziz l.prog base a T F23 o) b23 Hw;have G27:=hh (w:=w) (Zuf l.prog base a T F27 r o) b27 k27;have G29:=hh (w:=w) (Zuh l.prog base a T F29 r o) b29 k29;have G39:=hh (w:=w) (Zet l.prog base a T F39 G9 o) b39 k39;have G44:=hh (w:=w) (J8 l.prog base a T F44 V) b44 k44;have G50:=hh (w:=w) (Kc l.prog base a T F50 G46) b50 X;have G52:=hh (w:=w) (Ka l.prog base a T F52 G46) b52 k52;have B:=hh (w:=w) (Zj7 l.prog base a T R r d) b56 k56;have G59:=hh (w:=w) (TJ l.prog base a T F59 G20) b59 k59;have G75:=hh (w:=w) (Wv l.prog base a T F75 D n L) b75 k75;have G76:=hh (w:=w) (Zb4 l.prog base a T F76 D n) b76 k76;have G78:=hh (w:=w) (Zb6 l.prog base a T Q n) b78 k78;have G82:=hh (w:=w) (Wu l.prog base a T F82 n L) b82 k82;have G85:=hh (w:=w) (Wx l.prog base a T F85 G84) b85 k85;have G91:=hh (w:=w) (Wt l.prog base a T Y G84) b91 k91;have G95:=hh (w:=w) (Zb2 l.prog base a T F95 G20) b95 k95;have G5:=hh (w:=w) (Zbe l.prog base a T F5 G1 G2 G8 G6) b5 k5;have G12:=hh (w:=w) (Ziy l.prog base a T F12 G13) b12 k12;have G16:=hh (w:=w) (J9 l.prog base a T F16 G14 G4 G15) b16 k16;have H:=hh (w:=w) (Zay l.prog base a T F19 i) b19 k19;have G26:=hh (w:=w) (Zqa l.prog base a T F26 G50 G47) b26 k26;have y:=hh (w:=w) (Zes l.prog base a T F28 G27) b28 k28;have G31:=hh (w:=w) (Zix l.prog base a T F31 G29 o G22) b31 k31;have G42:=hh (w:=w) (Wo l.prog base a T F42 G7 r o) b42 k42;have G57:=hh (w:=w) (Zax l.prog base a T Z G3 B) b57 k57;have G63:=hh (w:=w) (Zj6 l.prog base a T F63 i d) b63 k63;have G64:=hh (w:=w) (Zj5 l.prog base a T F64 i d) b64 k64;have G66:=hh (w:=w) (Zeu l.prog base a T F66 B) b66 k66;have G67:=hh (w:=w) (Zj1 l.prog base a T F67 B) b67 k67
 have G68:=hh (w:=w) (Zj2 l.prog base a T F68 B d) b68 k68;have G70:=hh (w:=w) (TQ l.prog base a T F70 G29) b70 k70;have G77:=hh (w:=w) (Zb8 l.prog base a T F77 G54) b77 k77;have G80:=hh (w:=w) (Zbb l.prog base a T F80 n G79 G78 L) b80 k80;have G18:=hh (w:=w) (TX l.prog base a T F18 H) b18 k18;have G25:=hh (w:=w) (Zau l.prog base a T F25 H G23) b25 k25;have G30:=hh (w:=w) (Zq9 l.prog base a T F30 G17 G31) b30 k30;have G32:=hh (w:=w) (Wq l.prog base a T F32 y) b32 k32;have G35:=hh (w:=w) (Zud l.prog base a T F35 y) b35 k35;have G41:=hh (w:=w) (Q5 l.prog base a T F41 G43 G42) b41 k41;have G60:=hh (w:=w) (Zj3 l.prog base a T F60 G5 i d) b60 k60;have G61:=hh (w:=w) (Zn1 l.prog base a T F61 i G57 d) b61 k61;have G62:=hh (w:=w) (Zn0 l.prog base a T S i G57 y d G59 G58) b62 k62;have G65:=hh (w:=w) (Zj4 l.prog base a T F65 i y d G59) b65 k65;have G69:=hh (w:=w) (Zj0 l.prog base a T F69 i y G70 d) b69 k69;have G81:=hh (w:=w) (Wy l.prog base a T F81 G80 n) b81 k81;have G24:=hh (w:=w) (Wl l.prog base a T F24 G9 G25) b24 k24;have G33:=hh (w:=w) (Q6 l.prog base a T F33 G26 G32) b33 k33;have G38:=hh (w:=w) (Ws l.prog base a T F38 o G12 G30) b38 k38;have G71:=hh (w:=w) (ZAt l.prog base a T F71 G63 G64 G61 G65 G60 G68 G62 G67 G69 G66) b71 k71;have G83:=hh (w:=w) (Zb3 l.prog base a T F83 D G81 n G82) b83 k83;have G94:=hh (w:=w) (Zew l.prog base a T F94 G92 G87 G93 G18) b94 k94;have G37:=hh (w:=w) (Zxy l.prog base a T F37 H G38 G39 V) b37 k37;have G86:=hh (w:=w) (Zb9 l.prog base a T F86 G71) b86 k86;have G36:=hh (w:=w) (TV l.prog base a T F36 G51 G52 G53 G48 G49 G37 G32) b36 k36;have G34:=hh (w:=w) (Q4 l.prog base a T F34 G36 G35) b34 W4;have G45:=hh (w:=w) (Zue l.prog base a T F45 G33 G41 G34 G44) b45 k45;have G96:=hh (w:=w) (Zb1 l.prog base a T F96 G94 G85 G89 G90 G95 G91 G88 G18 G45 G24) b96 k96;exact Zxu _ _ a T F97 G16 D G86 G75 G77 G76 G83 G96
theorem walk{l:W.OpenLaw}{q:AL}{b:AG}{i:(As)->Heap->Prop}{e:AN->Heap->Prop}{d:DefRec}{K:Params->aB}(hn:l.most=some 63)(c:d.params.defaults=[])
  (j:∀(w:AN) (h:Heap),e w h->(K w.params).In h)
  (F:∀(w:AN) (mg:As) (fa:AH) (h:Heap),(K w.params).In h->h.Ns mainGlobals mg->mg d.name=some (.ref fa)->
   ∃fd:AK,(∀(s:AJ) (u:AI),BindsTo s fd ⟨[u],[]⟩ [("_law_script",u)])/\∀base:Heap,(K w.params).In base->base.Ns mainGlobals mg->wO l.prog w (K w.params) mg base (G.Vu l.prog w) 11 fa fd ["_law_script"] (Zm8 (K w.params))):
  W.WalkO q b i e l.row.toRowW d [] (λf vs=>PySem.call f vs):=
 L2.Zsw (n:=63) (k:=11) (x:="_law_script") (CX:=λw=>G.Vu l.prog w) (sp:=λw=>Zm8 (K w.params)) hn (by decide) c ⟨rfl,by decide,by decide⟩ j F (λ_ _ a ns hl _ g=>⟨a,rfl,ns,g,hl,λ_=>rfl⟩) λ_ _ _ _ _ z=>by
  obtain⟨_,_,_,_,_,_,_,_,_,_,_,_,z⟩:=z;exact z
end K26
namespace PySem.W.Fast
def tw8926880702828136864:=0
def tw7298985847179678883:=0
def tw13457394176234027013:=0
def tw14607541419342541669:=0
def tw9923828334058261318:=0
def tw3460945207426793479:=0
def tw6259264581782541511:=0
def tw9915118204242675305:=0
def tw17738406535025241546:=0
def tw11741740293343078090:=0
def tw4908309192647976874:=0
def tw10524811909319974411:=0
def tw6860570619107563981:=0
def tw13125950120830635630:=0
def tw6585644841232543727:=0
def tw15763567853746855760:=0
def tw16362692678960620627:=0
def tw6749364582596880437:=0
def tw15594550837963967638:=0
def tw11866413897422503767:=0
def tw12320684864299495896:=0
def tw11781613502331622521:=0
def tw18198991895401944316:=0
def tw8723717465205684764:=0
def tw8254432520519265246:=0
def tw10947188943141469279:=0
def tw5357607578340268394:=0
def tw10919155268619266269:=0
def tw16848807728439300994:=0
def tw4888640706225632961:=0
def tw12911322187927667855:=0
def tw9285455749869235935:=0
def tw5432702444823318401:=0
def tw7919154498091608472:=0
def tw17809074441034658348:=0
def tw8169028472169377218:=0
def tw462769233805170119:=0
def tw10953247139664494042:=0
def tw18002621790225719119:=0
def tw11535402214934687834:=0
def tw15674391870526262147:=0
def tw9797181404766995889:=0
def tw11196327826929697331:=0
def tw738292653553510627:=0
def tw18184722123460661606:=0
def tw14928851091819284039:=0
def tw14679899284317011426:=0
def tw12152948225764989949:=0
def tw10862110850133873026:=0
def tw3184116579172917464:=0
def tw10477308594525037903:=0
def tw4989053739939880122:=0
def tw8295515836711395056:=0
def tw5067205666505797108:=0
def tw15801746966610278778:=0
def tw14407983925762822821:=0
def tw10394750816118345917:=0
def tw5005321489676225213:=0
def tw17017527165764982619:=0
def tw11828892602940911591:=0
def tw8153378013223370235:=0
def tw1355373159134818405:=0
def tw13701457633361011368:=0
def tw14867863926616399895:=0
def tw7566591759793320145:=0
def tw4953782291786763087:=0
def tw7549890909357571914:=0
def tw3659888563792540360:=0
def tw16461367799455640973:=0
def tw5725327786245053855:=0
def tw11509149392669915122:=0
def tw10718966708677386405:=0
def tw5039501629836913651:=0
def tw6876327043109714416:=0
def tw2260313433123803332:=0
def tw4204123163700002713:=0
def tw5171424554859673220:=0
def tw5212259439750426329:=0
def tw14749503257200011354:=0
def tw6555800661394753922:=0
def tw10089890416762924388:=0
def tw4041661788423163804:=0
def tw6922627513169263528:=0
def tw2477983740347039259:=0
def tw14097270875539134810:=0
def tw12887306018805377923:=0
def tw17409320491874959554:=0
def tw6427441222153552975:=0
def tw3330489163249244518:=0
def tw8174872862424396090:=0
def tw14450743463896626212:=0
def tw4085005320564031965:=0
def tw17999198563987606014:=0
def tw4653275390044124860:=0
def tw16039760099129158543:=0
def tw14366411982549073551:=0
def tw2410106572643534673:=0
def tw459339906720343626:=0
def tw13786157335982764116:=0
def tw15803446260770519898:=0
def tw14774154074589004369:=0
def tw5663910577391924654:=0
def tw16526655735224436098:=0
def tw4754315998697014467:=0
def tw263992908540925976:=0
def tw5146716558491609498:=0
def tw8419721340527811590:=0
def tw6637694987531273932:=0
def tw10422342602376770489:=0
def tw10943902971772009786:=0
def tw2720913684800153723:=0
def tw10836484102949272312:=0
def tw2951521781559291610:=0
def tw6852865198658166385:=0
def tw17485350411197622067:=0
def tw1334137354991041357:=0
def tw2610183605638539034:=0
def tw13430374384048292239:=0
def tw14245320168014547478:=0
def tw14211870385684377766:=0
def tw17386018848038556182:=0
def tw6162903115225127951:=0
def tw13011705210720585128:=0
def tw14717806193394896936:=0
def tw9275288227215976618:=0
def tw10760766264857537995:=0
def tw16200383410069000367:=0
def tw6502381705721895752:=0
def tw13002630624684787557:=0
def tw15176989918802956497:=0
def tw2646745702707323501:=0
def tw7234046774969222468:=0
def tw1056573577173768232:=0
def tw13345237848209606834:=0
def tw1058310568157038982:=0
def tw8135084384104449381:=0
def tw2143829779183012060:=0
def tw13431852749225320846:=0
def tw5202852290117911915:=0
def tw8794951858830094465:=0
def tw305052779084076656:=0
def tw9688354153945073560:=0
def tw6548246843139847830:=0
def tw5499166735667558559:=0
def tw4027231193058993472:=0
def tw5382804372851826645:=0
def tw7034357213817004938:=0
def tw15130092568313388592:=0
def tw16043988963652942052:=0
def tw9497675758504312195:=0
def tw13437579231414586448:=0
def tw4284757165687429512:=0
def tw16520841171780506223:=0
def tw8801472082970269175:=0
def tw14638180564923587025:=0
def tw8282912963506129261:=0
def tw8891475158637192236:=0
def tw8328608486257408569:=0
def tw12635206308195979133:=0
def tw12593200208769763076:=0
def tw6153954670112391817:=0
def tw5334660834155375664:=0
def tw7551158104324894554:=0
def tw4267416536642874536:=0
def tw14273719036182428910:=0
def tw13427077521893935991:=0
def tw13198074861436324457:=0
def tw6408868606484287613:=0
def tw10060713001531400307:=0
def tw3206709029329094573:=0
def tw8953845817161342365:=0
def tw15857936477053864200:=0
def tw16712094445821246914:=0
def tw9481095318340419093:=0
def tw8711838929550856789:=0
def tw15477784102317922378:=0
def tw17807061890820269951:=0
def tw9756014646957998608:=0
def tw7987390764128694208:=0
def tw1988934292805100163:=0
def tw1320868905742620433:=0
def tw13807805209636591860:=0
def tw18233959821225525206:=0
def tw4927916005835450385:=0
def tw3757882764255853628:=0
def tw5487476643407588568:=0
def tw12779105134807719575:=0
def tw7983186680937989850:=0
def tw17555433266839680816:=0
def tw18054621318611246741:=0
def tw14735358512690325384:=0
def tw391878514216756629:=0
def tw14647757237611540543:=0
def tw13565595161724360160:=0
def tw16480462666388920021:=0
def tw2926160883840152879:=0
def tw10624127614581837816:=0
def tw10007559174089379107:=0
def tw11826171772244693293:=0
def tw1712224993280036477:=0
def tw7728338371240145089:=0
def tw4228519648478479038:=0
def tw4426432548734854751:=0
def tw6714699141915887989:=0
def tw5306497892206095974:=0
def tw11510446216337975418:=0
def tw2153554851761254432:=0
def tw16640552866020282564:=0
def tw15134508026267840119:=0
def tw10897013249001591012:=0
def tw4265707418439011408:=0
def tw3388541440546347586:=0
def tw12601738676870657076:=0
def tw17914834284283508905:=0
def tw302441151267207805:=0
def tw1486303902256367489:=0
def tw10057613039063978398:=0
def tw11784204165300921267:=0
def tw2976664454246029185:=0
def tw9594346560563207886:=0
def tw2988871400246556294:=0
def tw14320639329088271460:=0
def tw18039786746555654201:=0
def tw3910180064842518127:=0
def tw3689217048828411714:=0
def tw6573341248526641600:=0
def tw12093000947769991440:=0
def tw10135292354584202458:=0
def tw8233895376081649124:=0
def tw615224890522466235:=0
def tw16056898953464680943:=0
def tw1546473613423088373:=0
def tw2018389884846430059:=0
def tw6101211994574789933:=0
def tw17867289021592299573:=0
def tw6917359868729253705:=0
def tw2648707689729849068:=0
def tw18231847793135496500:=0
def tw16300560287596371561:=0
def tw7322057230627658730:=0
def tw522348978156928856:=0
def tw7719522927578427252:=0
def tw943226861706114410:=0
def tw1435501578251531626:=0
def tw17245172483920749557:=0
def tw11075052743855223398:=0
def tw155403470267932359:=0
def tw3665971193929484750:=0
def tw12968892085399292159:=0
def tw16151561694672409621:=0
def tw6722470209199811914:=0
def tw236299391730995612:=0
def tw16045055094577449848:=0
def tw12789480776008548012:=0
def tw2401764150942800833:=0
def tw591469244138271033:=0
def tw17827684692673976617:=0
def tw4044902946593999322:=0
def tw13285455485467036136:=0
def tw12500405518918785777:=0
def tw16192067499845949062:=0
def tw12428095443713525865:=0
def tw10004760508755520336:=0
def tw5743923921345637788:=0
def tw15876508081029482822:=0
def tw5887690497245672662:=0
def tw11600660705709898778:=0
def tw2192590808511643330:=0
def tw8653697399751042863:=0
def tw13568542887187015537:=0
def tw6240717660128892594:=0
def tw7142047850133042629:=0
def tw1514035093233470976:=0
def tw13245889328066346537:=0
def tw2224056534518532194:=0
def tw15627137337411880738:=0
def tw17786640995300298910:=0
def tw8808054244930108692:=0
def tw10707986874076778576:=0
def tw10144891079689385901:=0
def tw6224812750596336373:=0
def tw17147559919255071259:=0
def tw10554445170352322409:=0
def tw16837920376424790931:=0
def tw12043624255549612026:=0
def tw16349393136200741817:=0
def tw11540671470746913210:=0
def tw9362206472026755055:=0
def tw1079753550532169980:=0
def tw5110294440736633818:=0
def tw8796070230933887043:=0
def tw8840154735029316963:=0
def tw15136926350411733645:=0
def tw10172918328721002957:=0
def tw5277900739189049303:=0
def tw1881127056250469036:=0
def tw5535426359989038279:=0
def tw2844867893362619083:=0
def tw10897974951146906701:=0
def tw7548472502975645923:=0
def tw16158914228331839326:=0
def tw2304114773322140675:=0
def tw2718561867509803450:=0
def tw16679578473445701163:=0
def tw18209068483964279262:=0
def tw4833089137994915082:=0
def tw8610280624312003103:=0
def tw4754400202783859294:=0
def tw8283836239970989954:=0
def tw10650550470629989513:=0
def tw13471884722245888283:=0
def tw284318569549513232:=0
def tw18139654743857292560:=0
def tw16094852926620988228:=0
def tw6389081482510936780:=0
def tw13369742900337479095:=0
def tw9115176087415868923:=0
def tw14096580158098238195:=0
def tw18422383025664093614:=0
def tw17104929721263868101:=0
def tw14389258114889102403:=0
def tw14088572373707295342:=0
def tw18158359633738260599:=0
def tw12071001696008682098:=0
def tw18290609406662311135:=0
def tw8782887546694006130:=0
def tw4422801915046328893:=0
def tw16104766440999184683:=0
def tw10026701588534115232:=0
def tw221728528151857191:=0
def tw9304607363744477840:=0
def tw11473162884896698677:=0
end PySem.W.Fast
open PySem PySem.W PyProof.Rows
set_option maxRecDepth 100000 in
set_option maxHeartbeats 0 in
theorem PySem.Challenge.cw_greywalk_k26_hands_looked_at_holds : PySem.Challenge.rw_greywalk_k26_hands_looked_at.Holds := by
 w_on;o_law;k_head;(case hw=>w_witness2)
 k_fill
 refine K26.walk (l:=PySem.Challenge.rw_greywalk_k26_hands_looked_at) rfl rfl (fun w h Y=>PySem.W.kIn_of Y) ?F
 case F=>
  intro w mg fa h KX G hmg
  refine' K26.all_mk KX G hmg ?h0 ?h1 ?h2 ?h3 ?h4 ?h5 ?h6 ?h7 ?h8 ?h9 ?h10 ?h11 ?h12 ?h13 ?h14 ?h15 ?h16 ?h17 ?h18 ?h19 ?h20 ?h21 ?h22 ?h23 ?h24 ?h25 ?h26 ?h27 ?h28 ?h29 ?h30 ?h31 ?h32 ?h33 ?h34 ?h35 ?h36 ?h37 ?h38 ?h39 ?h40 ?h41 ?h42 ?h43 ?h44 ?h45 ?h46 ?h47 ?h48 ?h49 ?h50 ?h51 ?h52 ?h53 ?h54 ?h55 ?h56 ?h57 ?h58 ?h59 ?h60 ?h61 ?h62 ?h63 ?h64 ?h65 ?h66 ?h67 ?h68 ?h69 ?h70 ?h71 ?h72 ?h73 ?h74 ?h75 ?h76 ?h77 ?h78 ?h79 ?h80 ?h81 ?h82 ?h83 ?h84 ?h85 ?h86 ?h87 ?h88 ?h89 ?h90 ?h91 ?h92 ?h93 ?h94 ?h95 ?h96 ?h97 ?h98 ?h99 ?h100 ?ZKy ?ZKx ?ZKw ?ZKv ?ZKu ?ZKt ?ZKs ?ZKr ?ZKq ?ZKp ?ZKo ?ZKn ?ZKm ?ZKl ?ZKk ?ZKj ?ZKi ?ZKh ?ZKg ?ZKf ?ZKe ?ZKd ?ZKc ?ZKb ?ZKa ?ZK9 ?ZK8 ?ZK7 ?ZK6 ?ZK5 ?ZK4 ?ZK3 ?ZK2 ?ZK1 ?ZK0 ?ZJz ?ZJy ?ZJx ?ZJw ?ZJv ?ZJu ?ZJt ?ZJs ?ZJr ?ZJq ?ZJp ?ZJo ?ZJn ?ZJm ?ZJl ?ZJk ?ZJj ?ZJi ?ZJh ?ZJg ?ZJf ?ZJe ?ZJd ?ZJc ?ZJb ?ZJa ?ZJ9 ?ZJ8 ?ZJ7 ?ZJ6 ?ZJ5 ?ZJ4 ?ZJ3 ?ZJ2 ?ZJ1 ?ZJ0 ?ZIz ?ZIy ?ZIx ?ZIw ?ZIv ?ZIu ?ZIt ?ZIs ?ZIr ?ZIq ?ZIp ?ZIo ?ZIn ?ZIm ?ZIl ?ZIk ?ZIj ?ZIi ?ZIh ?ZIg ?ZIf ?ZIe ?ZId ?ZIc ?ZIb ?ZIa ?ZI9 ?ZI8 ?ZI7 ?ZI6 ?ZI5 ?ZI4 ?ZI2 ?ZI1 ?ZI0 ?ZHz ?ZHy ?ZHx ?ZHw ?ZHv ?ZHu ?ZHt ?ZHs ?ZHr ?ZHq ?ZHp ?ZHo ?ZHn ?ZHm ?ZHl ?ZHk ?ZHj ?ZHi ?ZHh ?ZHg ?ZHf ?ZHe ?ZHd ?ZHc ?ZHb ?ZHa ?ZH9 ?ZH8 ?ZH7 ?ZH6 ?ZH5 ?ZH4 ?ZH3 ?ZH2 ?ZH1 ?ZH0 ?ZGz ?ZGy ?ZGx ?ZGw ?ZGv ?ZGu ?ZGt ?ZGs ?ZGr ?ZGq ?ZGp ?ZGn ?ZGm ?ZGl ?ZGk ?ZGj ?ZGi ?ZGh ?ZGg ?ZGf ?ZGe ?ZGd ?ZGc ?ZGb ?ZGa ?ZG9 ?ZG8 ?ZG7 ?ZG6 ?ZG5 ?ZG4 ?ZG3 ?ZG2 ?ZG1 ?ZG0 ?ZFz ?ZFy ?ZFx ?ZFw ?ZFv ?ZFu ?ZFt ?ZFs ?ZFr ?ZFq ?ZFp ?ZFo ?ZFn ?ZFm ?ZFl ?ZFk ?ZFj ?ZFi ?ZFh ?ZFg ?ZFf ?ZFe ?ZFd ?ZFc ?ZFb ?ZFa ?ZF9 ?ZF8 ?ZF7 ?ZF6 ?ZF5 ?ZF4 ?ZF3 ?ZF2 ?ZF1 ?ZF0 ?ZEz ?ZEy ?ZEx ?ZEw ?ZEv ?ZEu ?ZEt ?ZEs ?ZEr ?ZEq ?ZEp ?ZEo ?ZEn ?ZEm ?ZEl ?ZEk ?ZEj ?ZEi ?ZEh ?ZEg ?ZEf ?ZEe ?ZEd ?ZEc ?ZEb ?ZEa ?ZE9 ?ZE8 ?ZE7 ?ZE6 ?ZE5 ?ZE4 ?ZE3 ?ZE1 ?ZE0 ?ZDz ?ZDy ?ZDx ?ZDw ?ZDv ?ZDu ?ZDt ?ZDs ?ZDr ?ZDq ?ZDp ?ZDo ?ZDn ?ZDm ?ZDl ?ZDk ?ZDj ?ZDi
  case h0 | h1 | h2 | h3 | h4 | h5 | h6 | h7 | h8 | h9 | h10 | h11 | h12 | h13 | h14 | h15 | h16 | h17 | h18 | h19 | h20 | h21 | h22 | h23 | h24 | h25=>(show _=_;k_is)
  case h26 | h27=>first | exact rfl | exact ⟨_,rfl⟩
  case h28 | h29 | h30 | h31 | h32 | h33 | h34 | h35 | h36 | h37 | h38 | h39 | h40 | h41 | h42 | h43 | h44 | h45 | h46 | h47 | h48 | h49 | h50 | h51 | h52 | h53 | h54 | h55 | h56 | h57 | h58 | h59 | h60 | h61 | h62 | h63 | h64 | h65 | h66 | h67 | h68 | h69 | h70 | h71 | h72 | h73 | h74 | h75 | h76 | h77 | h78 | h79 | h80 | h81 | h82 | h83 | h84 | h85 | h86 | h87 | h88 | h89 | h90 | h91 | h92 | h93 | h94 | h95 | h96 | h97 | h98 | h99 | h100 | ZKy | ZKx | ZKw | ZKv | ZKu | ZKt | ZKs | ZKr | ZKq | ZKp | ZKo | ZKn | ZKm | ZKl | ZKk | ZKj | ZKi | ZKh | ZKg | ZKf | ZKe | ZKd | ZKc | ZKb | ZKa | ZK9 | ZK8 | ZK7 | ZK6 | ZK5 | ZK4 | ZK3 | ZK2 | ZK1 | ZK0 | ZJz | ZJy | ZJx | ZJw | ZJv | ZJu=>(show _=_;k_is)
  case ZJt | ZJs | ZJr | ZJq=>exact rfl
  case ZJp | ZJo=>(show _=_;k_is)
  case ZJn | ZJm | ZJl | ZJk | ZJj | ZJi | ZJh | ZJg | ZJf | ZJe=>exact rfl
  case ZJd | ZJc | ZJb | ZJa | ZJ9 | ZJ8 | ZJ7 | ZJ6 | ZJ5 | ZJ4 | ZJ3 | ZJ2 | ZJ1 | ZJ0 | ZIz | ZIy | ZIx | ZIw | ZIv | ZIu | ZIt | ZIs | ZIr | ZIq | ZIp | ZIo | ZIn | ZIm | ZIl | ZIk | ZIj | ZIi | ZIh | ZIg | ZIf | ZIe | ZId | ZIc | ZIb | ZIa | ZI9 | ZI8 | ZI7 | ZI6 | ZI5 | ZI4 | ZI2 | ZI1 | ZI0 | ZHz | ZHy | ZHx | ZHw | ZHv | ZHu | ZHt | ZHs | ZHr | ZHq | ZHp | ZHo | ZHn | ZHm | ZHl | ZHk | ZHj | ZHi | ZHh | ZHg | ZHf | ZHe | ZHd | ZHc | ZHb | ZHa | ZH9 | ZH8 | ZH7 | ZH6 | ZH5 | ZH4 | ZH3 | ZH2 | ZH1 | ZH0 | ZGz | ZGy | ZGx=>(show _=_;k_is)
  case ZGw | ZGv | ZGu | ZGt=>k_exc
  case ZGs | ZGr | ZGq | ZGp=>kts_exm
  case ZGn | ZGm | ZGl | ZGk | ZGj | ZGi | ZGh | ZGg | ZGf | ZGe | ZGd | ZGc | ZGb | ZGa | ZG9=>(show _=_;k_is)
  case ZG8=>first | exact rfl | exact ⟨_,rfl⟩
  case ZG7=>(show _=_;k_is)
  case ZG6=>first | exact rfl | exact ⟨_,rfl⟩
  case ZG5 | ZG4 | ZG3 | ZG2 | ZG1 | ZG0 | ZFz | ZFy | ZFx | ZFw | ZFv | ZFu | ZFt | ZFs | ZFr | ZFq | ZFp | ZFo | ZFn | ZFm | ZFl | ZFk | ZFj | ZFi | ZFh | ZFg | ZFf | ZFe | ZFd | ZFc | ZFb | ZFa | ZF9 | ZF8 | ZF7 | ZF6 | ZF5 | ZF4 | ZF3 | ZF2 | ZF1 | ZF0 | ZEz | ZEy | ZEx | ZEw | ZEv | ZEu | ZEt | ZEs | ZEr | ZEq | ZEp | ZEo | ZEn | ZEm | ZEl | ZEk | ZEj | ZEi | ZEh | ZEg | ZEf | ZEe | ZEd | ZEc | ZEb | ZEa | ZE9 | ZE8 | ZE7 | ZE6 | ZE5 | ZE4 | ZE3 | ZE1 | ZE0 | ZDz | ZDy | ZDx | ZDw | ZDv | ZDu | ZDt | ZDs | ZDr | ZDq | ZDp | ZDo | ZDn | ZDm | ZDl | ZDk | ZDj | ZDi=>(refine' K26.fgm ?l ?c ?k;(case l=>show _=_;k_is);(case c=>show _=_;k_is);(case k=>show _=_;k_is))
#print axioms PySem.Challenge.cw_greywalk_k26_hands_looked_at_holds
