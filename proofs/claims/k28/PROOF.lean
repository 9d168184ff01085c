import PyProof.Rows.All
import Lean
import KE.KTryMore
import KE.KItemsList
import KE.KItem
import KE.RegKTryMore
import KE.KDictList
import PySem.Challenge.RW_greywalk_k28_places_passed
set_option Elab.async false
set_option linter.all false
set_option compiler.extract_closed false
set_option maxRecDepth 100000
set_option hygiene false
local macro_rules|`(γ)=>`(by decide +kernel)
local macro_rules|`(δ)=>`(by omega)
local macro_rules|`(ε)=>`(by decide)
local macro_rules|`(ζ)=>`(by simp)
local macro_rules|`(η)=>`(by rfl)
local macro_rules|`(↑$x)=>`(some (.ref $x))
local macro_rules|`(θ $x $y*)=>`(aj $x (θ $y*))
local macro_rules|`(θ $x)=>`(aj $x aB)
local macro_rules|`(ι $x*)=>`(Hh P w K mg base $x*)
local macro_rules|`(μ $x*)=>`(lE P w K mg base $x*)
local macro_rules|`(ν)=>`(St->Hp->Prop)
local macro_rules|`(ξ)=>`(⟨n,Q,bk,ct⟩)
local macro_rules|`(ο)=>`(aG (pv 0) rfl)
local macro_rules|`(π)=>`(ak 0)
local macro_rules|`(ρ)=>`(rI (λ_ j=>0<j) λi j=>.int (i % j))
local macro_rules|`(ς)=>`(model X.prog X.w)
local macro_rules|`(τ)=>`(tC (.int 1))
local macro_rules|`(υ)=>`(tC (.int 0))
local macro_rules|`(χ)=>`(ak 1)
local macro_rules|`(ψ)=>`(pv 1)
local macro_rules|`(ω)=>`(by repeat (first | exact trivial | refine⟨rfl,?_⟩))
local macro_rules|`(Γ)=>`(Nat.le_refl _)
local macro_rules|`(Δ)=>`(ak 2)
local macro_rules|`(Θ)=>`(pv 2)
local macro_rules|`(Ξ)=>`(pv 0)
local macro_rules|`(Φ)=>`(Dy bU aL aV bD)
local macro_rules|`(Ψ)=>`(ak 3)
local macro_rules|`(Ω)=>`(cI se ph gr lo b at_ st d ls a c)
local macro_rules|`(ac)=>`(aX K π "heap")
local macro_rules|`(ad)=>`(pU λi j=>.int (i+j))
local macro_rules|`(ae)=>`(model prog w)
local macro_rules|`(af)=>`(jk bJ ψ (az))
local macro_rules|`(ag)=>`(λz=>nomatch z)
local macro_rules|`(ah)=>`(pv 3)
local macro_rules|`(ai)=>`(aX K π "sweeper")
abbrev Ap:=PySem.Value->PySem.Shared->Prop
abbrev As:=PySem.Str->Option PySem.Value
abbrev At:=List (PySem.Addr×PySem.Obj)
abbrev Au:=List (Option Int)
abbrev AA:=Option Int
abbrev AB:=Option PySem.Value
abbrev AC:=List PySem.Value
abbrev AD:=List Int
abbrev AE:=List PySem.Addr
abbrev AF:=List PySem.Expr
abbrev AG:=List PySem.Str
abbrev AH:=PySem.Addr
abbrev AI:=PySem.Value
abbrev AJ:=PySem.Shared
abbrev AK:=PySem.FuncData
abbrev AL:=PySem.Program
abbrev AM:=PySem.Expr
abbrev AN:=PySem.World
abbrev aC:=PySem.W.Frag
theorem bK{a:Type}{l:List a}{i:Nat}(h:i<l.length):l[i]? =some l[i]:=List.getElem?_eq_getElem h
theorem cZ{b:Type}{l:List b}{i:Nat}{a:b}(h:l[i]? =some a):∃h:i<l.length,l[i]=a:=List.getElem?_eq_some_iff.mp h
theorem cF{a b:Type}{f:a->b}{l:List a}{i:Nat}:(l.map f)[i]? =l[i]?.map f:=List.getElem?_map
theorem bB{a b:Type}{l:List a}(f:a->b):(l.map f).length=l.length:=List.length_map f
namespace L2
open PySem PySem.Spec PyProof.Rows
abbrev Key:=Sum Int Str
def Ks:Key->AI->Bool
 | .inl k,v=>Value.isInt k v
 | .inr x,v=>Value.isStrOf x v
def ZAm(w:AN):Key->Int
 | .inl k=>hashInt k
 | .inr x=>hashStr w x
theorem fH:∀{k:Key}{v:AI},Ks k v=true->(∃i t,k=Sum.inl i/\v=Value.int i t)\/(∃x t,k=Sum.inr x/\v=Value.str x t)
 | .inl i,v,h=>by
  obtain⟨t,e⟩:=Value.isInt_shape (k:=i) (v:=v) h;exact .inl ⟨i,t,rfl,e⟩
 | .inr x,v,h=>by
  obtain⟨t,e⟩:=Value.isStrOf_shape (x:=x) (v:=v) h;exact .inr ⟨x,t,rfl,e⟩
theorem Zna(i:Int)(t:Tok):Ks (.inl i) (.int i t)=true:=by simp[Ks,Value.isInt]
theorem Zn9(x:Str)(t:Tok):Ks (.inr x) (.str x t)=true:=by simp[Ks,Value.isStrOf]
theorem Zy4(a b:Int):decide ((Sum.inl a:Key)=Sum.inl b)=(a == b):=by
 by_cases e:a=b
 ·subst e;simp
 ·have h:¬ (Sum.inl a:Key)=Sum.inl b:=λq=>e (Sum.inl.inj q);rw[decide_eq_false h];exact(beq_eq_false_iff_ne.mpr e).symm
theorem Zy1(a b:Str):decide ((Sum.inr a:Key)=Sum.inr b)=decide (a=b):=by
 by_cases e:a=b
 ·subst e;simp
 ·have h:¬ (Sum.inr a:Key)=Sum.inr b:=λq=>e (Sum.inr.inj q);rw[decide_eq_false h,decide_eq_false e]
theorem Zy3(a:Int)(b:Str):decide ((Sum.inl a:Key)=Sum.inr b)=false:=decide_eq_false (λq=>nomatch q)
theorem Zy2(a:Str)(b:Int):decide ((Sum.inr a:Key)=Sum.inl b)=false:=decide_eq_false (λq=>nomatch q)
def eG(prog:AL)(w:AN):PySem.KeyKind prog w Key where
  is:=Ks
  hash:=ZAm w
  inj:=λv a b d hb=>by
    rcases fH d with ⟨i,t,rfl,rfl⟩ | ⟨x,t,rfl,rfl⟩
    · rcases fH hb with ⟨j,u,rfl,e⟩ | ⟨y,u,rfl,e⟩
      · injection e with c _;rw[c]
      · exact nomatch e
    · rcases fH hb with ⟨j,u,rfl,e⟩ | ⟨y,u,rfl,e⟩
      · exact nomatch e
      · injection e with c _;rw[c]
  byValue:=λk v h=>by
    rcases fH h with ⟨i,t,rfl,rfl⟩ | ⟨x,t,rfl,rfl⟩<;>rfl
  pyHash:=λhv h=>by
    rcases fH hv with ⟨i,t,rfl,rfl⟩ | ⟨x,t,rfl,rfl⟩
    · exact wpAny_pyHash_int h
    · exact wpAny_pyHash_str h
  eqBool:=λhu hv h=>by
    rcases fH hu with ⟨i,t,rfl,rfl⟩ | ⟨x,t,rfl,rfl⟩
    · rcases fH hv with ⟨j,u,rfl,rfl⟩ | ⟨y,u,rfl,rfl⟩
      · rw[Zy4]at h;exact wpAny_eqBool_int h
      · rw[Zy3]at h;exact SeqAt.EqAt.int_str i t y u _ _ _ _ h
    · rcases fH hv with ⟨j,u,rfl,rfl⟩ | ⟨y,u,rfl,rfl⟩
      · rw[Zy2]at h;exact SeqAt.EqAt.str_int x t j u _ _ _ _ h
      · rw[Zy1]at h;exact wpAny_eqBool_str h
  «strs»:=λk x t v h=>by
    rcases fH h with ⟨i,u,rfl,e⟩ | ⟨y,u,rfl,e⟩
    · exact nomatch e
    · injection e with c _
      subst c;cases v<;>rfl
theorem Zfa(prog:AL)(w:AN)(i:Int)(t:Tok):(eG prog w).is (.inl i) (.int i t)=true:=Zna i t
theorem Zf9(prog:AL)(w:AN)(x:Str)(t:Tok):(eG prog w).is (.inr x) (.str x t)=true:=Zn9 x t
inductive V where
 | non | bl (b:Bool) | int (i:Int) | str (x:Str) | byt (b:Array UInt8) | flt (b:UInt64) | ref (a:AH) | ty (n:String)
 deriving DecidableEq
def RelV:V->AI->Prop
 | .non,u=>u=Value.none
 | .bl b,u=>u=Value.bool b
 | .int i,u=>∃t,u=Value.int i t
 | .str x,u=>∃t,u=Value.str x t
 | .byt b,u=>∃t,u=Value.bytes b t
 | .flt b,u=>∃t,u=Value.float b t
 | .ref a,u=>u=Value.ref a
 | .ty n,u=>u=Value.type n
abbrev Vals:List V->AC->Prop:=Paired RelV
theorem Vals.length{xs:List V}{us:AC}(r:Vals xs us):xs.length=us.length:=Paired.length r
theorem Vals.get:∀{xs:List V}{us:AC}{i:Nat}{x:V},Vals xs us->xs[i]? =some x->∃u,us[i]? =some u/\RelV x u
 | _,_,_,_,.nil,e=>by simp at e
 | _,_,0,_,.cons r _,e=>by simp at e;subst e;exact⟨_,rfl,r⟩
 | _,_,i+1,x,.cons _ t,e=>by
  obtain⟨u,h1,h2⟩:=Vals.get (i:=i) (x:=x) t (by simpa using e);exact⟨u,by simpa using h1,h2⟩
theorem Vals.set{x:V}{u:AI}(r:RelV x u):∀{xs:List V}{us:AC} (i:Nat),Vals xs us->Vals (xs.set i x) (us.set i u)
 | _,_,_,.nil=>.nil
 | _,_,0,.cons _ t=>.cons r t
 | _,_,i+1,.cons q t=>.cons q (Vals.set r i t)
theorem Vals.append:∀{xs b:List V}{us a:AC},Vals xs us->Vals b a->Vals (xs++b) (us++a)
 | _,_,_,_,.nil,s=>s
 | _,_,_,_,.cons r t,s=>.cons r (Vals.append t s)
theorem Vals.take:∀{xs:List V}{us:AC} (n:Nat),Vals xs us->Vals (xs.take n) (us.take n)
 | _,_,0,_=>.nil
 | _,_,_+1,.nil=>.nil
 | _,_,n+1,.cons r t=>.cons r (Vals.take n t)
theorem Vals.drop:∀{xs:List V}{us:AC} (n:Nat),Vals xs us->Vals (xs.drop n) (us.drop n)
 | _,_,0,r=>r
 | _,_,_+1,.nil=>.nil
 | _,_,n+1,.cons _ t=>Vals.drop n t
def Dw:Option V->AB->Prop
 | some v,some u=>RelV v u
 | none,none=>True
 | _,_=>False
def KV{a:Type}:List (a×V)->List (a×AI)->Prop:=Paired λ(p:a×V) (q:a×AI)=>p.1=q.1/\RelV p.2 q.2
def kV:Key->V
 | .inl i=>.int i
 | .inr x=>.str x
inductive HO where
  | lst (xs:List V)
  | tup (xs:List V)
  | dK (kvs:List (Key×V)) | dT (kvs:List (List Key×V))
  | set (S:Int->Bool) (n:Nat)
  | ins (C dx:AH) (fs:List (Str×V))
  | own (x:AH)
  | xd (fs:List (Str×V))
  | met (f x:AH)
  | rng (lo hi:Int)
  | Aq (o:Obj) (u:HO)
  | R0 (ps:Array AI)
  | ext (φ:Heap->Prop)
abbrev Hp:=AH->Option HO
def upd(H:Hp)(a:AH)(o:HO):Hp:=λb=>if b=a then some o else H b
theorem aq{H:Hp}{a:AH}{o:HO}:upd H a o a=some o:=by unfold upd;rw[if_pos rfl]
theorem aD{H:Hp}{a b:AH}{o:HO}(h:b≠a):upd H a o b=H b:=by unfold upd;rw[if_neg h]
theorem fM{H:Hp}{a:AH}{o u:HO}:upd (upd H a o) a u=upd H a u:=by
 funext b;unfold upd;split<;>rfl
theorem qe{H:Hp}{a b:AH}{o u:HO}(h:H a=some o)(h':H b=some u)(d:o≠u):a≠b:=by
 intro e;subst e;rw[h]at h';exact d (Option.some.inj h')
theorem aH{H:Hp}{a b:AH}{o:HO}(h:H a=some o)(h':H b=none):a≠b:=by
 intro e;subst e;rw[h]at h';cases h'
section
variable (P:AL)(w:AN)
def lO(H:Hp)(h:Heap)(a:AH):HO->Prop
 | .lst xs=>xs.length<=sizeLine/\∃(b:AC) (n:Nat),Vals xs b/\h.get? a=some { cls:=.type "list",data:=.seq b.toArray n }
 | .tup xs=>xs.length<=sizeLine/\∃b:AC,Vals xs b/\IsTup h a b.toArray
 | .dK c=>c.length<=sizeLine/\(a == sysModules)=false/\∃vs,KV c vs/\h.DictOf (eG P w) a vs
 | .dT c=>c.length<=sizeLine/\(a == sysModules)=false/\∃xs:List (List Key×AH×AI),
   Paired (λ(p:List Key×V) (q:List Key×AH×AI)=>p.1=q.1/\H q.2.1=some (.tup (p.1.map kV))/\RelV p.2 q.2.2) c xs/\
   ∃o g j,h.get? a=some o/\o.ExactDict/\o.data=.dict g j/\g.toList=xs.map (entryOfKey (tupleKind (eG P w)))/\(xs.map (·.1)).Nodup
 | .set S n=>h.SetOf (intKind P w) a S n
 | .ins C dx fs=>H dx=some (.own a)/\fs.length<=1000/\dx≠a/\h.get? a=some (W.instObj C dx)/\
   ∃d,h.Ns1 dx d/\(∀f,Dw (fs.lookup f) (d f))/\PySem.Within d (fs.map (·.1))
 | .own _=>∃o,h.get? a=some o
 | .xd fs=>∃d,h.Ns1 a d/\∀f,Dw (fs.lookup f) (d f)
 | .rng lo i=>∃t u v,h.get? a=some { cls:=.type "range",data:=.fields #[.int lo t,.int i u,.int 1 v] }
 | .Aq o u=>h.get? a=some o/\lO H h a u
 | .R0 ps=>h.get? a=some { cls:=.none,data:=.fields ps }
 | .met f x=>h.get? a=some (W.methodObj (.ref f) (.ref x))
 | .ext e=>e h/\(∃o,h.get? a=some o)/\∀h1 h2:Heap,e h1->(∀o,h1.get? a=some o->h2.get? a=some o)->e h2
def Gy(H:Hp)(h:Heap):Prop:=∀a o,H a=some o->lO P w H h a o
end
section
variable {P:AL}{w:AN}{H H':Hp}{h h':Heap}{a:AH}{o:HO}
theorem lO.lt(x:lO P w H h a o):a<h.objs.size:=by
 cases o with
 | lst c=>obtain⟨_,_,_,_,e⟩:=x;exact Heap.lt_size e
 | tup c=>obtain⟨_,_,_,p⟩:=x;exact p.lt
 | dK b=>obtain⟨_,_,_,_,o,_,_,e,_⟩:=x;exact Heap.lt_size e
 | dT b=>obtain⟨_,_,_,_,o,_,_,e,_⟩:=x;exact Heap.lt_size e
 | set S n=>obtain⟨o,_,_,_,e,_⟩:=x;exact Heap.lt_size e
 | ins C i fs=>obtain⟨_,_,_,e,_⟩:=x;exact Heap.lt_size e
 | own y=>obtain⟨_,e⟩:=x;exact Heap.lt_size e
 | xd fs=>obtain⟨_,⟨_,_,_,e,_⟩,_⟩:=x;exact Heap.lt_size e
 | rng lo g=>obtain⟨_,_,_,e⟩:=x;exact Heap.lt_size e
 | Aq ob u=>obtain⟨e,_⟩:=x;exact Heap.lt_size e
 | R0 j=>exact Heap.lt_size (show h.get? a=some _ from x)
 | met f y=>exact Heap.lt_size (show h.get? a=some _ from x)
 | ext d=>obtain⟨_,⟨_,e⟩,_⟩:=x;exact Heap.lt_size e
theorem Paired.Zxw{g e:Type}{F G:g->e->Prop}:∀{d:List g}{c:List e},Paired F d c->(∀a b,F a b->G a b)->Paired G d c
 | _,_,.nil,_=>.nil
 | _,_,.cons r t,f=>.cons (f _ _ r) (Paired.Zxw t f)
theorem lO.stay(x:lO P w H h a o)(k:∀b u,(b=a\/H b=some (.own a))->h.get? b=some u->h'.get? b=some u)
  (B:∀b,H b=some (.own a)->H' b=some (.own a)) (E:∀b xs,H b=some (.tup xs)->H' b=some (.tup xs)):lO P w H' h' a o:=by
 induction o with
 | lst xs=>obtain⟨z,j,n,r,e⟩:=x;exact⟨z,j,n,r,k _ _ (.inl rfl) e⟩
 | tup xs=>obtain⟨z,j,r,ob,e,c⟩:=x;exact⟨z,j,r,ob,k _ _ (.inl rfl) e,c⟩
 | dK m=>obtain⟨z,y,A,r,ob,g,i,e,c⟩:=x;exact⟨z,y,A,r,ob,g,i,k _ _ (.inl rfl) e,c⟩
 | dT m=>
  obtain⟨z,y,xs,r,ob,g,i,e,c⟩:=x;exact⟨z,y,xs,Paired.Zxw r λp q z=>⟨z.1,E _ _ z.2.1,z.2.2⟩,ob,g,i,k _ _ (.inl rfl) e,c⟩
 | set S n=>obtain⟨ob,g,i,t,e,c⟩:=x;exact⟨ob,g,i,t,k _ _ (.inl rfl) e,c⟩
 | ins C J fs=>
  obtain⟨d,z,ne,e,l,⟨od,g,i,D,c⟩,r⟩:=x;exact⟨B _ d,z,ne,k _ _ (.inl rfl) e,l,⟨od,g,i,k _ _ (.inr d) D,c⟩,r⟩
 | own y=>obtain⟨ob,e⟩:=x;exact⟨ob,k _ _ (.inl rfl) e⟩
 | xd fs=>obtain⟨l,⟨od,g,i,e,c⟩,r⟩:=x;exact⟨l,⟨od,g,i,k _ _ (.inl rfl) e,c⟩,r⟩
 | rng lo I=>obtain⟨t,u,v,e⟩:=x;exact⟨t,u,v,k _ _ (.inl rfl) e⟩
 | Aq ob u ih=>obtain⟨e,q⟩:=x;exact⟨k _ _ (.inl rfl) e,ih q⟩
 | R0 s=>
  have e:h.get? a=some { cls:=.none,data:=.fields s }:=x;show h'.get? a=some { cls:=.none,data:=.fields s };exact k a _ (.inl rfl) e
 | met f y=>
  have e:h.get? a=some (W.methodObj (.ref f) (.ref y)):=x;show h'.get? a=some (W.methodObj (.ref f) (.ref y));exact k a _ (.inl rfl) e
 | ext F=>obtain⟨p,⟨o,e⟩,st⟩:=x;exact⟨st _ _ p λo q=>k _ _ (.inl rfl) q,⟨o,k _ _ (.inl rfl) e⟩,st⟩
theorem Gy.lt(x:Gy P w H h)(e:H a=some o):a<h.objs.size:=(x a o e).lt
theorem Gy.fresh(x:Gy P w H h)(e:h.objs.size<=a):H a=none:=by
 cases q:H a with
 | none=>rfl
 | some u=>exact absurd (Nat.lt_of_lt_of_le (x.lt q) e) (Nat.lt_irrefl _)
theorem Gy.kept(x:Gy P w H h)(k:∀b u,h.get? b=some u->h'.get? b=some u):Gy P w H h':=λa o e=>
 (x a o e).stay (λb u _ q=>k b u q) (λ_ q=>q) λ_ _ q=>q
theorem Gy.laid(x:Gy P w H h)(k:∀b u,h.get? b=some u->h'.get? b=some u)(hp:h.objs.size<=a)(new:lO P w (upd H a o) h' a o):Gy P w (upd H a o) h':=λb u e=>by
 have hn:=x.fresh hp
 by_cases hb:b=a
 ·subst hb;rw[aq]at e;cases e;exact new
 ·rw[aD hb]at e;exact(x b u e).stay (λc v _ q=>k c v q) (λc q=>by rw[aD (aH q hn)];exact q) λc xs q=>by rw[aD (aH q hn)];exact q
end
def Rd(H:Hp)(a:AH)(u:HO):Prop:=H a=some u\/∃o,H a=some (.Aq o u)
theorem Rd.ok{P:AL}{w:AN}{H:Hp}{h:Heap}{a:AH}{u:HO}(r:Rd H a u)(x:Gy P w H h):lO P w H h a u:=by
 rcases r with r | ⟨o,r⟩
 ·exact x a u r
 ·obtain⟨_,q⟩:=x a _ r;exact q
def Mut:Option HO->Prop
 | some (.lst _)=>True
 | some (.dK _)=>True
 | some (.dT _)=>True
 | some (.set _ _)=>True
 | some (.ins _ _ _)=>True
 | some (.ext _)=>True
 | _=>False
section
variable {P:AL}{w:AN}{H:Hp}{h h':Heap}{x e:AH}{o':HO}
theorem Gy.write(ok:Gy P w H h)(f:Mut (H x))(l:e=x\/H e=some (.own x))(k:∀b u,b≠e->h.get? b=some u->h'.get? b=some u)(i:∃u,h'.get? e=some u)
  (new:lO P w (upd H x o') h' x o'):Gy P w (upd H x o') h':=λb u q=>by
 have d:∀c y,H c=some (.own y)->c≠x:=λc y r z=>by subst z;rw[r]at f;exact f
 have j:∀c g,H c=some (.tup g)->c≠x:=λc g r z=>by subst z;rw[r]at f;exact f
 by_cases hb:b=x
 ·subst hb;rw[aq]at q;cases q;exact new
 ·rw[aD hb]at q
  by_cases a:b=e
  ·have m:H b=some (.own x):=by
    rcases l with z | z
    ·exact absurd (a.trans z) hb
    ·rw[a];exact z
   rw[q]at m;cases m;obtain⟨v,hv⟩:=i;exact⟨v,by rw[a];exact hv⟩
  ·refine(ok b u q).stay (λc v hc r=>k c v ?_ r) (λc r=>by rw[aD (d c b r)];exact r) λc g r=>by rw[aD (j c g r)];exact r
   rcases hc with rfl | hc
   ·exact a
   ·rintro rfl;rcases l with z | z
    ·exact d c b hc z
    ·rw[hc]at z;cases z;exact hb rfl
end
structure Un(fs ex:AE)(H H':Hp)(h h':Heap):Prop where
 keep:∀b o,h.get? b=some o->H b=none->b∉fs->b∉ex->h'.get? b=some o
 slot:∀b o,h.get? b=some o->H b=none->b∈fs->b∉ex->∃sl,h'.get? b=some { o with slots:=sl }
 free:∀b o,h.get? b=some o->H b=none->b∉ex->H' b=none
 there:∀b o,h.get? b=some o->b∉ex->∃o',h'.get? b=some o'
 tups:∀b xs,H b=some (.tup xs)->H' b=some (.tup xs)
 Oh:∀b o u,H b=some (.Aq o u)->H' b=some (.Aq o u)
 Qq:∀b ps,H b=some (.R0 ps)->∃more,H' b=some (.R0 (ps++more))
section
variable {fs fs' ex ex':AE}{H H1 H2:Hp}{h h1 h2 h':Heap}{a x e:AH}{o:HO}
theorem Un.any(u:Un fs ex H H1 h h1){b:AH}{ob:Obj}(q:h.get? b=some ob)(n:H b=none)(hx:b∉ex):∃sl,h1.get? b=some { ob with slots:=sl }:=by
 by_cases hb:b∈fs
 ·exact u.slot b ob q n hb hx
 ·exact⟨ob.slots,u.keep b ob q n hb hx⟩
theorem Un.kept(k:∀b u,h.get? b=some u->h'.get? b=some u):Un fs ex H H h h':=
 ⟨λb ob q _ _ _=>k b ob q,λb ob q _ _ _=>⟨ob.slots,k b ob q⟩,λ_ _ _ n _=>n,λb ob q _=>⟨ob,k b ob q⟩,λ_ _ q=>q,λ_ _ _ q=>q,λ_ ps q=>⟨#[],by rw[q];simp⟩⟩
theorem Un.refl:Un fs ex H H h h:=Un.kept λ_ _ q=>q
theorem Un.laid(k:∀b u,h.get? b=some u->h'.get? b=some u)(hp:h.objs.size<=a)(hn:H a=none):Un fs ex H (upd H a o) h h' where
 keep:=λb u q _ _ _=>k b u q
 slot:=λb u q _ _ _=>⟨u.slots,k b u q⟩
 free:=λb u q n _=>by rw[aD (Nat.ne_of_lt (Nat.lt_of_lt_of_le (Heap.lt_size q) hp))];exact n
 there:=λb u q _=>⟨u,k b u q⟩
 tups:=λb xs q=>by rw[aD (aH q hn)];exact q
 Oh:=λb u xs q=>by rw[aD (aH q hn)];exact q
 Qq:=λb ps q=>⟨#[],by rw[aD (aH q hn),q];simp⟩
theorem Un.write(c:Mut (H x))(f:e=x\/H e=some (.own x))(k:∀b u,b≠e->h.get? b=some u->h'.get? b=some u)(d:∃u,h'.get? e=some u):Un fs ex H (upd H x o) h h':=by
 have hx:∀b,H b=none->b≠x:=λb n z=>by subst z;rw[n]at c;exact c
 have hb:∀b,H b=none->b≠e:=λb n z=>by
  subst z;rcases f with r | r
  ·exact hx b n r
  ·rw[n]at r;cases r
 have hm:∀b u,H b=some u->¬ Mut (some u)->b≠x:=λb u q nm z=>by subst z;rw[q]at c;exact nm c
 refine⟨λb u q n _ _=>k b u (hb b n) q,λb u q n _ _=>⟨u.slots,k b u (hb b n) q⟩,λb u q n _=>by rw[aD (hx b n)];exact n,λb u q _=>?_,
  λb g q=>by rw[aD (hm b _ q λz=>z)];exact q,λb u g q=>by rw[aD (hm b _ q λz=>z)];exact q,λb i q=>⟨#[],by rw[aD (hm b _ q λz=>z),q];simp⟩⟩
 by_cases a:b=e
 ·subst a;exact d
 ·exact⟨u,k b u a q⟩
end
def trk(h:Heap)(H:Hp):AE:=(List.range h.objs.size).filter λa=>(H a).isSome
def Zcl(h:Heap)(H:Hp):Heap:=W.hideAll h (trk h H)
theorem Znt(h:Heap)(H:Hp):(Zcl h H).objs.size=h.objs.size:=W.hideAll_size _ _
theorem Zro{h:Heap}{H:Hp}{b:AH}{o:Obj}(e:h.get? b=some o)(n:H b=none):(Zcl h H).get? b=some o:=
 W.hideAll_get _ e λhm=>by
  have q:(H b).isSome=true:=(List.mem_filter.mp hm).2;rw[n]at q;simp at q
theorem Zuh{h:Heap}{H:Hp}{b:AH}{o:Obj}(e:(Zcl h H).get? b=some o):h.get? b=some o/\H b=none:=by
 have a:h.get? b=some o:=W.of_hideAll (trk h H) e;refine⟨a,?_⟩;cases q:H b with
 | none=>rfl
 | some x=>
  have hm:b∈trk h H:=List.mem_filter.mpr ⟨List.mem_range.mpr (Heap.lt_size a),by simp[q]⟩;have z:(Zcl h H).get? b=none:=W.hideAll_none (trk h H) hm;rw[z]at e;cases e
def Zw2(g h:Heap)(L:AH):At:=(List.range h.objs.size).filterMap λa=>if a=L\/(g.get? a).isSome=true then none else(h.get? a).map λo=>(a,o)
def rest(g h:Heap)(L d:AH):At:=(Zw2 g h L).filter λp=>decide (p.1≠d)
structure Mod(K:aC)(mg:As)(base:Heap):Prop where
 kin:K.In base
 glob:base.Ns mainGlobals mg
 blt:∃mb,base.Ns builtinsNs mb/\∀x:Str,x≠"__name__"->mb x=bootBuiltins x
 nolimit:base.NoLimit
structure Cx where
 prog:AL
 w:AN
 K:aC
 mg:Str->AB
 base:Heap
 A:Around
 N:AG
 s₀:AJ
 H₀:Hp
 env:Env
 outer:List Env
 stack:List Env
 ex:AE
 fn:Str->Bool
 calm:Bool
 pn:At
 xe:AI->AJ->Prop
def frs(l:List Env):AE:=l.filterMap (·.frame)
abbrev Cx.fs(X:Cx):AE:=frs X.outer
def Vis(a:Scope)(x:Str):Prop:=a.names.lookup x=some .local\/a.names.lookup x=some .cell\/a.names.lookup x=some .free
def Loc(a:Scope)(x:Str):Prop:=a.names.lookup x=some .local\/a.names.lookup x=some .cell
def Look(env:Env)(h:Heap)(m:As)(x:Str)(u:AI):Prop:=
 (env.kindOf x=some .local/\m x=some u)\/((env.kindOf x=some .cell\/env.kindOf x=some .free)/\∃c,env.cells.lookup x=some c/\h.IsCell c (some u))
structure Cx.Ok(X:Cx):Prop where
 mod:Mod X.K X.mg X.base
 kind:X.env.scope.kind=.function
 glob:X.env.globals=mainGlobals
 blt:X.env.builtins=builtinsNs
 above:X.s₀.heap.objs.size<=X.env.locals
 inj:∀x y c,X.env.cells.lookup x=some c->X.env.cells.lookup y=some c->x=y
 has:∀x,(X.env.kindOf x=some .cell\/X.env.kindOf x=some .free)->∃c,X.env.cells.lookup x=some c
 cab:∀x c,X.fn x=true->X.env.cells.lookup x=some c->X.s₀.heap.objs.size<=c
 hd:X.calm=true->X.A.handled=none
 frames:X.A.frames=some X.stack
 stk:X.stack=X.outer\/(X.stack=X.env::X.outer/\X.env.frame=some X.env.locals)
 exf:∀b∈X.ex,b≠X.env.locals/\∀x c,X.env.cells.lookup x=some c->c≠b
 bs:∀b o,X.base.get? b=some o->X.s₀.heap.get? b=some o/\X.H₀ b=none
 bsz:X.base.objs.size<=X.s₀.heap.objs.size
 Zf3:∀b o,X.base.get? b=some o->b∉X.ex
 Zk8:∀b∈X.ex,b∉X.fs
 CT:X.s₀.heap.FunFrames X.base X.outer
 frf:∀b∈X.fs,X.H₀ b=none
structure Inv(X:Cx)(pins:At)(σ:List (Option V))(H:Hp)(s:AJ):Prop where
 ok:X.Ok
 os:s.os=X.s₀.os
 bare:AllBare s.gens
 base:Un X.fs X.ex X.H₀ H X.s₀.heap s.heap
 loc:∃m,s.heap.Ns X.env.locals m/\∀(i:Nat) (x:Str) (v:V),X.N[i]? =some x->σ[i]? =some (some v)->Vis X.env.scope x->∃u,RelV v u/\Look X.env s.heap m x u
 cell:∀x c,X.env.cells.lookup x=some c->∃v,s.heap.IsCell c v
 free:H X.env.locals=none
 wX:∀x c,X.env.cells.lookup x=some c->H c=none
 pin:∀p∈X.pn++pins,s.heap.get? p.1=some p.2/\H p.1=none/\p.1≠X.env.locals/\p.1∉X.fs/\∀v,p.2.data≠.cell v
 hok:Gy X.prog X.w H s.heap
 len:σ.length=X.N.length
section
variable {X:Cx}{pins:At}{σ:List (Option V)}{H H':Hp}{s:AJ}{h':Heap}
theorem Cx.Ok.ZC9(ok:X.Ok){b:AH}{o:Obj}(e:X.base.get? b=some o):b∉X.fs:=λhb=>by
 have:=(ok.CT.mem hb).1;rw[e]at this;cases this
theorem Inv.bs(I:Inv X pins σ H s):∀b o,X.base.get? b=some o->s.heap.get? b=some o/\H b=none:=λb o e=>
 ⟨I.base.keep b o (I.ok.bs b o e).1 (I.ok.bs b o e).2 (I.ok.ZC9 e) (I.ok.Zf3 b o e),I.base.free b o (I.ok.bs b o e).1 (I.ok.bs b o e).2 (I.ok.Zf3 b o e)⟩
theorem Inv.bk(I:Inv X pins σ H s):∀b o,X.base.get? b=some o->s.heap.get? b=some o:=λb o e=>(I.bs b o e).1
theorem Inv.mod(I:Inv X pins σ H s):Mod X.K X.mg X.base:=I.ok.mod
theorem Inv.Gg(I:Inv X pins σ H s):X.K.In s.heap:=I.ok.mod.kin.keeps I.bk
theorem Inv.lt(I:Inv X pins σ H s):X.env.locals<s.heap.objs.size:=let ⟨_,hn,_⟩:=I.loc;hn.lt
theorem Inv.sz(I:Inv X pins σ H s):X.s₀.heap.objs.size<=s.heap.objs.size:=Nat.le_trans I.ok.above (Nat.le_of_lt I.lt)
theorem Inv.ZC8(I:Inv X pins σ H s){a:AH}(h:s.heap.objs.size<=a):a∉X.fs:=λhb=>by
 obtain⟨_,o,b,_⟩:=I.ok.CT.mem hb;exact absurd (Nat.lt_of_lt_of_le (Heap.lt_size b) (Nat.le_trans I.sz h)) (Nat.lt_irrefl _)
theorem Inv.cne(I:Inv X pins σ H s):∀x c,X.env.cells.lookup x=some c->c≠X.env.locals:=λx c e z=>by
 obtain⟨v,o,d,hd⟩:=I.cell x c e;obtain⟨m,⟨f,g,h,a,b,_⟩,_⟩:=I.loc;rw[z,a]at d;cases d;rw[b]at hd;cases hd
theorem Inv.CT(I:Inv X pins σ H s):s.heap.FunFrames X.base X.outer:=by
 have all:∀(l:List Env),(∀b∈frs l,b∈X.fs)->X.s₀.heap.FunFrames X.base l->s.heap.FunFrames X.base l:=by
  intro l
  induction l with
  | nil=>intro _ _;trivial
  | cons env r ih=>
   intro hs hl;obtain⟨hk,⟨L,o,a,hn,d,hd⟩,hr⟩:=hl;have c:L∈X.fs:=hs L (by unfold frs;rw[List.filterMap_cons,a];exact List.mem_cons_self);obtain⟨sl,e⟩:=I.base.slot L o d (I.ok.frf L c) c λz=>I.ok.Zk8 L z c;exact⟨hk,⟨L,_,a,hn,e,hd⟩,ih (λb hb=>hs b (by unfold frs;rw[List.filterMap_cons,a];exact List.mem_cons_of_mem _ hb)) hr⟩
 exact all X.outer (λ_ hb=>hb) I.ok.CT
theorem Inv.stack(I:Inv X pins σ H s):s.heap.FunFrames X.base X.stack:=by
 rcases I.ok.stk with e | ⟨e,a⟩
 ·rw[e];exact I.CT
 ·rw[e];obtain⟨m,hn,_⟩:=I.loc;refine .cons (by rw[I.ok.kind];decide) a hn ?_ I.CT;exact Heap.get?_none_of_le (Nat.le_trans I.ok.bsz I.ok.above)
theorem Inv.Lx(I:Inv X pins σ H s):∀b∈frs X.stack,b∈X.env.locals::X.fs:=λb hb=>by
 rcases I.ok.stk with e | ⟨e,a⟩
 ·rw[e]at hb;exact List.mem_cons_of_mem _ hb
 ·rw[e]at hb;unfold frs at hb;rw[List.filterMap_cons,a]at hb;exact hb
theorem Inv.ZQ(I:Inv X pins σ H s):∀b∈frs X.stack,H b=none:=λb hb=>by
 rcases List.mem_cons.mp (I.Lx b hb)with e | hb
 ·rw[e];exact I.free
 ·obtain⟨_,o,a,_⟩:=I.ok.CT.mem hb;exact I.base.free b o a (I.ok.frf b hb) λz=>I.ok.Zk8 b z hb
theorem Inv.step{g':Array GenState}{t':Nat}{d':Drawn}{ch:AE}(I:Inv X pins σ H s)
  (g:∀b∈ch,(b∈X.ex\/X.s₀.heap.objs.size<=b)/\b≠X.env.locals/\(∀x c,X.env.cells.lookup x=some c->c≠b)/\∀p∈X.pn++pins,p.1≠b)
  (keep:∀b o,b≠X.env.locals->b∉X.fs->b∉ch->s.heap.get? b=some o->H b=none->h'.get? b=some o)
  (slot:∀b o,b≠X.env.locals->b∈X.fs->b∉ch->s.heap.get? b=some o->H b=none->∃sl,h'.get? b=some { o with slots:=sl }) (free:∀b o,b∉ch->s.heap.get? b=some o->H b=none->H' b=none)
  (there:∀b o,b∉ch->s.heap.get? b=some o->∃y,h'.get? b=some y)
  (tups:∀b xs,H b=some (.tup xs)->H' b=some (.tup xs)) (Oh:∀b o u,H b=some (.Aq o u)->H' b=some (.Aq o u)) (Qq:∀b ps,H b=some (.R0 ps)->∃B,H' b=some (.R0 (ps++B)))
  (ns:∀m,s.heap.Ns X.env.locals m->h'.Ns X.env.locals m) (hok:Gy X.prog X.w H' h') (F:AllBare g'):
  Inv X pins σ H' { s with heap:=h',gens:=g',drawn:=d',toks:=t' }:=by
 have C:∀b o,X.s₀.heap.get? b=some o->b≠X.env.locals:=λb o e=>Nat.ne_of_lt (Nat.lt_of_lt_of_le (Heap.lt_size e) I.ok.above);have h:∀b o,X.s₀.heap.get? b=some o->b∉X.ex->b∉ch:=λb o e hx hb=>by
  rcases(g b hb).1 with z | z
  ·exact hx z
  ·exact absurd (Nat.lt_of_lt_of_le (Heap.lt_size e) z) (Nat.lt_irrefl _)
 have f:∀x c,X.env.cells.lookup x=some c->∀v,s.heap.IsCell c v->h'.IsCell c v:=λx c e v ⟨o,t,hd⟩=>by
  have a:c∉ch:=λz=>(g c z).2.2.1 x c e rfl
  by_cases hc:c∈X.fs
  ·obtain⟨sl,q⟩:=slot c o (I.cne x c e) hc a t (I.wX x c e);exact⟨_,q,hd⟩
  ·exact⟨o,keep c o (I.cne x c e) hc a t (I.wX x c e),hd⟩
 refine⟨I.ok,I.os,F,⟨λb o e n hb hx=>?_,λb o e n hb hx=>?_,λb o e n hx=>?_,λb o e hx=>?_,λb xs e=>tups b xs (I.base.tups b xs e),λb o xs e=>Oh b o xs (I.base.Oh b o xs e),λb ps e=>?_⟩,?_,λx c e=>?_,?_,λx c e=>?_,λp hp=>?_,hok,I.len⟩
 ·exact keep b o (C b o e) hb (h b o e hx) (I.base.keep b o e n hb hx) (I.base.free b o e n hx)
 ·obtain⟨sl,j⟩:=I.base.slot b o e n hb hx;obtain⟨D,A⟩:=slot b _ (C b o e) hb (h b o e hx) j (I.base.free b o e n hx);exact⟨D,A⟩
 ·obtain⟨y,j⟩:=I.base.there b o e hx;exact free b y (h b o e hx) j (I.base.free b o e n hx)
 ·obtain⟨y,j⟩:=I.base.there b o e hx;exact there b y (h b o e hx) j
 ·obtain⟨K,j⟩:=I.base.Qq b ps e;obtain⟨J,A⟩:=Qq b _ j;exact⟨K++J,by rw[A,Array.append_assoc]⟩
 ·obtain⟨m,hn,hl⟩:=I.loc;refine⟨m,ns m hn,λi x v j A e3=>?_⟩;obtain⟨u,r,l⟩:=hl i x v j A e3;refine⟨u,r,?_⟩;rcases l with l | ⟨k,c,e,z⟩
  ·exact .inl l
  ·exact .inr ⟨k,c,e,f x c e _ z⟩
 ·obtain⟨v,z⟩:=I.cell x c e;exact⟨v,f x c e v z⟩
 ·obtain⟨m,⟨o,_,_,t,_⟩,_⟩:=I.loc;exact free _ o (λz=>(g _ z).2.1 rfl) t I.free
 ·obtain⟨v,o,t,hd⟩:=I.cell x c e;exact free c o (λz=>(g c z).2.2.1 x c e rfl) t (I.wX x c e)
 ·obtain⟨e,n,ne,E,d⟩:=I.pin p hp;have a:p.1∉ch:=λz=>(g p.1 z).2.2.2 p hp rfl;exact⟨keep p.1 p.2 ne E a e n,free p.1 p.2 a e n,ne,E,d⟩
theorem Inv.un{t':Nat}(I:Inv X pins σ H s)(u:Un X.fs [] H H' s.heap h')(hok:Gy X.prog X.w H' h'):Inv X pins σ H' { s with heap:=h',toks:=t' }:=by
 obtain⟨m,⟨o,i,j,f,r⟩,_⟩:=id I.loc;obtain⟨sl,g⟩:=u.any f I.free ζ;exact I.step (g':=s.gens) (d':=s.drawn) (ch:=[]) (λ_ z=>nomatch z) (λb o _ hb _ e n=>u.keep b o e n hb ζ) (λb o _ hb _ e n=>u.slot b o e n hb ζ) (λb o _ e n=>u.free b o e n ζ) (λb o _ e=>u.there b o e ζ) u.tups u.Oh u.Qq (λk hm=>by
  obtain⟨l,c,d,a,h⟩:=hm;rw[f]at a;cases a;exact⟨_,c,d,g,h⟩) hok I.bare
theorem Inv.call{g':Array GenState}{t':Nat}{d':Drawn}{ch:AE}(I:Inv X pins σ H s)(u:Un (frs X.stack) ch H H' s.heap h')(hok:Gy X.prog X.w H' h')(j:AllBare g')
  (d:∀b∈ch,(b∈X.ex\/X.s₀.heap.objs.size<=b)/\b≠X.env.locals/\(∀x c,X.env.cells.lookup x=some c->c≠b)/\∀p∈X.pn++pins,p.1≠b):
  Inv X pins σ H' { s with heap:=h',gens:=g',drawn:=d',toks:=t' }:=by
 obtain⟨m,⟨o,l,q,i,r⟩,_⟩:=id I.loc;obtain⟨sl,g⟩:=u.any i I.free λz=>(d _ z).2.1 rfl;exact I.step (ch:=ch) d (λb o g hb hc e n=>u.keep b o e n (λz=>(List.mem_cons.mp (I.Lx b z)).elim g hb) hc) (λb o _ _ hc e n=>u.any e n hc) (λb o hc e n=>u.free b o e n hc) (λb o hc e=>u.there b o e hc) u.tups u.Oh u.Qq (λt hm=>by
  obtain⟨v,f,h,a,k⟩:=hm;rw[i]at a;cases a;exact⟨_,f,h,g,k⟩) hok j
theorem Inv.turned{t':Nat}{a:AH}(I:Inv X pins σ H s)(k:∀b o,b≠a->s.heap.get? b=some o->h'.get? b=some o)(hn:H a=none)(f:a≠X.env.locals)
  (h1:a∈X.ex\/X.s₀.heap.objs.size<=a) (h2:∀x c,X.env.cells.lookup x=some c->c≠a) (h3:∀p∈X.pn++pins,p.1≠a):Inv X pins σ H { s with heap:=h',toks:=t' }:=by
 have d:∀b u,H b=some u->b≠a:=λb u e z=>by rw[z,hn]at e;cases e
 refine I.step (g':=s.gens) (d':=s.drawn) (ch:=[a]) (λb hb=>?_) (λb o _ _ hc e _=>k b o (λz=>hc (by simp[z])) e) (λb o _ _ hc e _=>⟨o.slots,k b o (λz=>hc (by simp[z])) e⟩) (λ_ _ _ _ n=>n)
  (λb o hc e=>⟨o,k b o (λz=>hc (by simp[z])) e⟩) (λ_ _ e=>e) (λ_ _ _ e=>e) (λb j e=>⟨#[],by rw[e];simp⟩) (λm hm=>?_) (λb u e=>?_) I.bare
 ·have e:b=a:=by simpa using hb
  subst e;exact⟨h1,f,h2,h3⟩
 ·obtain⟨o,g,h,i,r⟩:=hm;exact⟨o,g,h,k _ o (Ne.symm f) i,r⟩
 ·refine(I.hok b u e).stay (λc v hc q=>k c v ?_ q) (λ_ q=>q) λ_ _ q=>q;rcases hc with z | z
  ·rw[z];exact d b u e
  ·exact d c _ z
theorem Inv.tok(I:Inv X pins σ H s)(t:Nat):Inv X pins σ H { s with toks:=t }:=I.un (h':=s.heap) (t':=t) Un.refl I.hok
theorem Inv.kept{t':Nat}(I:Inv X pins σ H s)(k:∀b u,s.heap.get? b=some u->h'.get? b=some u):Inv X pins σ H { s with heap:=h',toks:=t' }:=I.un (Un.kept k) (I.hok.kept k)
theorem Inv.laid{a:AH}{o:HO}{t':Nat}(I:Inv X pins σ H s)(k:∀b u,s.heap.get? b=some u->h'.get? b=some u)(hp:s.heap.objs.size<=a)(new:lO X.prog X.w (upd H a o) h' a o):
  Inv X pins σ (upd H a o) { s with heap:=h',toks:=t' }:=I.un (Un.laid k hp (I.hok.fresh hp)) (I.hok.laid k hp new)
theorem Inv.write{x e:AH}{o:HO}{t':Nat}(I:Inv X pins σ H s)(c:Mut (H x))(d:e=x\/H e=some (.own x))(k:∀b u,b≠e->s.heap.get? b=some u->h'.get? b=some u)(a:∃u,h'.get? e=some u)
  (new:lO X.prog X.w (upd H x o) h' x o):Inv X pins σ (upd H x o) { s with heap:=h',toks:=t' }:=I.un (Un.write c d k a) (I.hok.write c d k a new)
theorem Inv.GQ{a:At}(I:Inv X pins σ H s)(h:∀p∈a,s.heap.get? p.1=some p.2/\H p.1=none/\p.1≠X.env.locals/\p.1∉X.fs/\∀v,p.2.data≠.cell v):Inv X a σ H s:=
 ⟨I.ok,I.os,I.bare,I.base,I.loc,I.cell,I.free,I.wX,λp hp=>(List.mem_append.mp hp).elim (λz=>I.pin p (List.mem_append_left _ z)) (h p),I.hok,I.len⟩
theorem Zf5{N:AG}(e:N.Nodup){i j:Nat}{x:Str}(a:N[i]? =some x)(b:N[j]? =some x):i=j:=by
 obtain⟨h1,c⟩:=cZ a;obtain⟨h2,d⟩:=cZ b;exact(List.getElem_inj e).mp (c.trans d.symm)
theorem Zm9{M:Model}{A:Around}{E:Ap}{i:Nat}{x:Str}{v:V}{u:AI}{Q:Unit->AJ->Prop}(I:Inv X pins σ H s)(hN:X.N.Nodup)(F:X.N[i]? =some x)(hx:Loc X.env.scope x)(r:RelV v u)
  (h:∀s',Inv X pins (σ.set i (some v)) H s'->(∃a,Heap.SameBut a s.heap s'.heap/\(a=X.env.locals\/X.env.cells.lookup x=some a))->Q () s') (hf:X.fn x=true\/X.env.scope.names.lookup x=some .local:=by first | exact .inl rfl | exact .inr rfl | assumption):wpAny M A (storeName X.env x u) Q E s:=by
 obtain⟨m,hn,hl⟩:=id I.loc;have K:(X.env.scope.kind == .class || (X.env.scope.kind == .module && X.env.locals != X.env.globals))=false:=by rw[I.ok.kind];rfl
 have B:i < σ.length:=by rw[I.len];exact(cZ F).1
 have cne:=I.cne;have f:∀{a:AH}{h':Heap},(∃o,s.heap.get? a=some o/\H a=none)->Heap.SameBut a s.heap h'->Gy X.prog X.w H h':=λ{a h'} ha hs b ob e=>by
  obtain⟨_,_,l⟩:=ha;refine(I.hok b ob e).stay (λc P hc q=>(hs.2 c ?_).trans q) (λ_ q=>q) λ_ _ q=>q;rintro rfl;rcases hc with rfl | hc
  ·rw[l]at e;cases e
  ·rw[l]at hc;cases hc
 rcases hx with hk | hk
 ·refine wpAny_storeName_local hk hn (λh' S hs=>?_) K;obtain⟨oL,_,_,hoL,_⟩:=id hn;refine h _ ⟨I.ok,I.os,I.bare,⟨λb o e n hb hx=>?_,λb o e n hb hx=>?_,I.base.free,λb o e hx=>?_,I.base.tups,I.base.Oh,I.base.Qq⟩,⟨_,S,λj y U g t e3=>?_⟩,λy c e=>?_,I.free,I.wX,λp hp=>?_,f ⟨oL,hoL,I.free⟩ hs,by simpa using I.len⟩ ⟨_,hs,.inl rfl⟩
  ·exact(hs.2 b (Nat.ne_of_lt (Nat.lt_of_lt_of_le (Heap.lt_size e) I.ok.above))).trans (I.base.keep b o e n hb hx)
  ·obtain⟨sl,g⟩:=I.base.slot b o e n hb hx;exact⟨sl,(hs.2 b (Nat.ne_of_lt (Nat.lt_of_lt_of_le (Heap.lt_size e) I.ok.above))).trans g⟩
  ·obtain⟨Y,g⟩:=I.base.there b o e hx;exact⟨Y,(hs.2 b (Nat.ne_of_lt (Nat.lt_of_lt_of_le (Heap.lt_size e) I.ok.above))).trans g⟩
  ·by_cases D:j=i
   ·subst D;rw[F]at g;cases g;rw[List.getElem?_set_self B]at t;cases t;exact⟨u,r,.inl ⟨hk,ζ⟩⟩
   ·rw[List.getElem?_set_ne (Ne.symm D)]at t;obtain⟨W,Z,q⟩:=hl j y U g t e3;refine⟨W,Z,?_⟩;rcases q with ⟨k,e⟩ | ⟨k,c,e,z⟩
    ·refine .inl ⟨k,?_⟩;have:y≠x:=λe=>D (Zf5 hN g (e ▸ F));simp[this,e]
    ·exact .inr ⟨k,c,e,z.sameBut hs (cne y c e)⟩
  ·obtain⟨P,z⟩:=I.cell y c e;exact⟨P,z.sameBut hs (cne y c e)⟩
  ·obtain⟨e,n,ne,nf,d⟩:=I.pin p hp;exact⟨(hs.2 p.1 ne).trans e,n,ne,nf,d⟩
 ·have C:X.fn x=true:=by
   rcases hf with z | z
   ·exact z
   ·rw[z]at hk;cases hk
  obtain⟨c,hc⟩:=I.ok.has x (.inl hk);obtain⟨P,z⟩:=I.cell x c hc;refine wpAny_storeName_cell I.ok.kind hk hc z (λh' J hs=>?_);obtain⟨oc,L,T⟩:=id z;refine h { s with heap:=h' } ⟨I.ok,I.os,I.bare,⟨λb o e n hb hx=>?_,λb o e n hb hx=>?_,I.base.free,λb o e hx=>?_,I.base.tups,I.base.Oh,I.base.Qq⟩,⟨m,hn.sameBut hs (Ne.symm (cne x c hc)),λj y U g t e3=>?_⟩,λy R e=>?_,I.free,I.wX,λp hp=>?_,f ⟨oc,L,I.wX x c hc⟩ hs,by simpa using I.len⟩ ⟨c,hs,.inr hc⟩
  ·exact(hs.2 b (Nat.ne_of_lt (Nat.lt_of_lt_of_le (Heap.lt_size e) (I.ok.cab x c C hc)))).trans (I.base.keep b o e n hb hx)
  ·obtain⟨sl,g⟩:=I.base.slot b o e n hb hx;exact⟨sl,(hs.2 b (Nat.ne_of_lt (Nat.lt_of_lt_of_le (Heap.lt_size e) (I.ok.cab x c C hc)))).trans g⟩
  ·obtain⟨Y,g⟩:=I.base.there b o e hx;exact⟨Y,(hs.2 b (Nat.ne_of_lt (Nat.lt_of_lt_of_le (Heap.lt_size e) (I.ok.cab x c C hc)))).trans g⟩
  ·by_cases D:j=i
   ·subst D;rw[F]at g;cases g;rw[List.getElem?_set_self B]at t;cases t;exact⟨u,r,.inr ⟨.inl hk,c,hc,J⟩⟩
   ·rw[List.getElem?_set_ne (Ne.symm D)]at t;obtain⟨W,Z,q⟩:=hl j y U g t e3;refine⟨W,Z,?_⟩;rcases q with q | ⟨k,R,e,z'⟩
    ·exact .inl q
    ·refine .inr ⟨k,R,e,z'.sameBut hs ?_⟩;rintro rfl;exact D (Zf5 hN g (I.ok.inj _ _ _ e hc ▸ F))
  ·by_cases O:R=c
   ·subst O;exact⟨_,J⟩
   ·obtain⟨w2,z2⟩:=I.cell y R e;exact⟨w2,z2.sameBut hs O⟩
  ·obtain⟨e,n,ne,nf,d⟩:=I.pin p hp;refine⟨(hs.2 p.1 ?_).trans e,n,ne,nf,d⟩;intro q;rw[q,L]at e;have q':oc=p.2:=Option.some.inj e;exact d P (by rw[<- q'];exact T)
theorem Jy{M:Model}{A:Around}{E:Ap}{i:Nat}{x:Str}{v:V}{u:AI}{Q:Unit->AJ->Prop}(I:Inv X pins σ H s)(d:X.N.Nodup)(a:X.N[i]? =some x)(hx:Loc X.env.scope x)(r:RelV v u)
  (h:∀s',Inv X pins (σ.set i (some v)) H s'->Q () s') (c:X.fn x=true\/X.env.scope.names.lookup x=some .local:=by first | exact .inl rfl | exact .inr rfl | assumption):wpAny M A (storeName X.env x u) Q E s:=
 Zm9 I d a hx r (λs' b _=>h s' b) c
theorem Inv.call'{s':AJ}{ch:AE}(I:Inv X pins σ H s)(f:s'.os=s.os)(u:Un (frs X.stack) ch H H' s.heap s'.heap)(hok:Gy X.prog X.w H' s'.heap)(d:AllBare s'.gens)
  (a:∀b∈ch,(b∈X.ex\/X.s₀.heap.objs.size<=b)/\b≠X.env.locals/\(∀x c,X.env.cells.lookup x=some c->c≠b)/\∀p∈X.pn++pins,p.1≠b):Inv X pins σ H' s':=by
 obtain⟨h',g',d',t',g⟩:=s';have e:g=s.os:=f;subst e;exact I.call (g':=g') (t':=t') (d':=d') u hok d a
end
abbrev XK:=AI->Option AH->Hp->Prop
abbrev St:=List (Option V)
abbrev VK:=V->Hp->Prop
abbrev TE:=St->Hp->VK->Prop
abbrev TT:=St->Hp->(Bool->Hp->Prop)->Prop
abbrev TA:=St->Hp->(List V->Hp->Prop)->Prop
structure Ends where
 nx:ν
 rt:VK
 bk:ν:=λ_ _=>False
 ct:ν:=λ_ _=>False
abbrev TS:=Ends->ν
def EP(X:Cx)(a:At)(σ:St)(Q:VK)(u:AI)(s':AJ):Prop:=∃v H',Inv X a σ H' s'/\RelV v u/\Q v H'
def TP(X:Cx)(a:At)(σ:St)(Q:Bool->Hp->Prop)(b:Bool)(s':AJ):Prop:=∃H',Inv X a σ H' s'/\Q b H'
def AP(X:Cx)(a:At)(σ:St)(Q:List V->Hp->Prop)(us:AC)(s':AJ):Prop:=∃vs H',Inv X a σ H' s'/\Vals vs us/\Q vs H'
def SP(X:Cx)(b:At)(D:Ends)(f:Flow)(s':AJ):Prop:=
 match f with
 | .next=>∃ a H',Inv X b a H' s'/\D.nx a H'
 | .brk=>∃ a H',Inv X b a H' s'/\D.bk a H'
 | .cont=>∃ a H',Inv X b a H' s'/\D.ct a H'
 | .ret u=>∃v a H',Inv X b a H' s'/\RelV v u/\D.rt v H'
def PE(X:Cx)(e:AM)(t:TE):Prop:=
 ∀(a:At) (s:AJ) (σ:St) (H:Hp) (Q:VK),Inv X a σ H s->t σ H Q->wpAny ς X.A (eval e X.env) (EP X a σ Q) X.xe s
def PT(X:Cx)(e:AM)(t:TT):Prop:=
 ∀(a:At) (s:AJ) (σ:St) (H:Hp) (Q:Bool->Hp->Prop),Inv X a σ H s->t σ H Q->wpAny ς X.A (isTrue e X.env (eval e X.env)) (TP X a σ Q) X.xe s
def PW(X:Cx)(e:AM)(t:TT):Prop:=
 ∀(b:Sem AI) (a:At) (s:AJ) (σ:St) (H:Hp) (Q:Bool->Hp->Prop),Inv X a σ H s->t σ H Q->wpAny ς X.A (isTrue e X.env b) (TP X a σ Q) X.xe s
theorem PW.pt{X:Cx}{e:AM}{t:TT}(h:PW X e t):PT X e t:=h _
def PA(X:Cx)(c:AF)(t:TA):Prop:=
 ∀(b:Pos) (a:At) (s:AJ) (σ:St) (H:Hp) (Q:List V->Hp->Prop),Inv X a σ H s->t σ H Q->wpAny ς X.A (spliced (backTo b (starEach c X.env))) (AP X a σ Q) X.xe s
def PS(X:Cx)(st:Stmt)(t:TS):Prop:=
 ∀(a:At) (s:AJ) (σ:St) (H:Hp) (D:Ends),Inv X a σ H s->t D σ H->wpAny ς X.A (exec st X.env) (SP X a D) X.xe s
def PSs(X:Cx)(st:List Stmt)(t:TS):Prop:=
 ∀(a:At) (s:AJ) (σ:St) (H:Hp) (D:Ends),Inv X a σ H s->t D σ H->wpAny ς X.A (execs st X.env) (SP X a D) X.xe s
theorem jL{c:Type}{t:Sem c}{Q b:c->AJ->Prop}{M:Model}{A:Around}{E:Ap}{s:AJ}(h:wpAny M A t Q E s)(d:∀a s,Q a s->b a s):wpAny M A t b E s:=wpAny_mono h d λ_ _ x=>x
section
variable {X:Cx}
def ak(i:Nat):TE:=λσ H Q=>∃v,σ[i]? =some (some v)/\Q v H
def tC(v:V):TE:=λ_ H Q=>Q v H
theorem Zpt{i:Nat}{x:Str}{f:Pos}(j:X.N[i]? =some x)(hv:Vis X.env.scope x)(hd:(x == ("__debug__":Str))=false:=by decide)(d:(x == ("__classdict__":Str))=false:=by decide):PE X (.Name x f) (ak i):=by
 intro b s g H Q I h;obtain⟨v,e,h⟩:=h;obtain⟨m,hn,hl⟩:=I.loc;obtain⟨u,r,l⟩:=hl i x v j e hv;have fin:EP X b g Q u s:=⟨v,H,I,r,h⟩;rcases l with ⟨hk,hm⟩ | ⟨hk,c,hc,a⟩
 ·exact wpAny_Name (wpAny_loadName_local I.ok.kind hk hn hm fin) hd
 ·rcases hk with hk | hk
  ·exact wpAny_Name (wpAny_loadName_cell I.ok.kind hk hc a fin) hd
  ·exact wpAny_Name (wpAny_loadName_free I.ok.kind hk hc a fin d) hd
theorem az{i j pos}:PE X (.Constant (.int i) j pos) (tC (.int i)):=λ_ _ _ H _ I h=>wpAny_Constant_int ⟨.int i,H,I.tok _,⟨_,rfl⟩,h⟩
theorem nA{b j pos}:PE X (.Constant (.bool b) j pos) (tC (.bl b)):=λ_ _ _ H _ I h=>Constant_bool ⟨.bl b,H,I,rfl,h⟩
theorem fD{j pos}:PE X (.Constant .none j pos) (tC .non):=λ_ _ _ H _ I h=>Constant_none ⟨.non,H,I,rfl,h⟩
theorem bH{x j pos}:PE X (.Constant (.str x) j pos) (tC (.str x)):=λ_ _ _ H _ I h=>Calls.Constant_str ⟨.str x,H,I.tok _,⟨_,rfl⟩,h⟩
def Gl(X:Cx)(x:Str):Prop:=X.env.kindOf x=some .globalImplicit
theorem vM{E:Ap}{a:At}{s:AJ}{σ:St}{H:Hp}{x:Str}{u:AI}{b:Pos}{Q:Ap}(I:Inv X a σ H s)(c:Gl X x)(hm:X.mg x=some u)(h:Q u s)
  (hd:(x == ("__debug__":Str))=false:=by decide):wpAny ς X.A (eval (.Name x b) X.env) Q E s:=
 Calls.Name_function_global I.ok.kind c (Calls.loadGlobal_global (by rw[I.ok.glob];exact I.mod.glob.keeps I.bk) hm h) hd
theorem Uw{E:Ap}{a:At}{s:AJ}{σ:St}{H:Hp}{x:Str}{u:AI}{b:Pos}{Q:Ap}(I:Inv X a σ H s)(c:Gl X x)(hm:X.mg x=none)(hv:bootBuiltins x=some u)(h:Q u s)
  (hn:x≠"__name__":=by decide) (hd:(x == ("__debug__":Str))=false:=by decide):wpAny ς X.A (eval (.Name x b) X.env) Q E s:=by
 obtain⟨d,h1,h2⟩:=I.mod.blt;exact Calls.Name_function_global I.ok.kind c (Calls.loadGlobal_builtin (by rw[I.ok.glob];exact I.mod.glob.keeps I.bk) hm (by rw[I.ok.blt];exact h1.keeps I.bk) ((h2 x hn).trans hv) h) hd
theorem Zu4{x:Str}{v:V}{u:AI}{a:Pos}(b:Gl X x)(hm:X.mg x=some u)(r:RelV v u)(hd:(x == ("__debug__":Str))=false:=by decide):PE X (.Name x a) (tC v):=
 λ_ _ _ H _ I h=>vM I b hm ⟨v,H,I,r,h⟩ hd
theorem Cj{x:Str}{v:V}{u:AI}{a:Pos}(b:Gl X x)(hm:X.mg x=none)(hv:bootBuiltins x=some u)(r:RelV v u)(hn:x≠"__name__":=by decide)(hd:(x == ("__debug__":Str))=false:=by decide):PE X (.Name x a) (tC v):=
 λ_ _ _ H _ I h=>Uw I b hm hv ⟨v,H,I,r,h⟩ hn hd
variable {a b:AM}{ta tb:TE}{pos:Pos}
def PC(X:Cx)(f:CmpOp)(a b:AM)(t:TE):Prop:=
 ∀(c:At) (s:AJ) (σ:St) (H:Hp) (Q:VK),Inv X c σ H s->t σ H Q->
  wpAny ς X.A (eval a X.env) (λv e=>wpAny ς X.A (eval b X.env) (λu d=>wpAny ς X.A (compareOp f v u) (EP X c σ Q) X.xe d) X.xe e) X.xe s
theorem Zqg(b:AM){a:CmpOp}(h:a≠.In)(h2:a≠.NotIn):behindInMarks a b=false:=by
 have d:(a == CmpOp.In)=false:=by cases a<;>first | rfl | exact absurd rfl h
 have c:(a == CmpOp.NotIn)=false:=by cases a<;>first | rfl | exact absurd rfl h2
 cases b<;>simp[behindInMarks,d,c]
def tB(t:TE):TT:=λσ H Q=>t σ H λx a=>∃c,x=.bl c/\Q c a
theorem Zpl{f:CmpOp}{t:TE}(h:PC X f a b t)(h1:behindInMarks f b=false:=by first | exact Zqg _ ε ε | rfl):PT X (.Compare a [f] [b] pos) (tB t):=by
 intro e s g H Q I i;refine wpAny_isTrue_Compare1 (jL (h e s g H _ I i) λv j h1=>jL h1 λu l h2=>jL h2 λc k qb=>?_) h1;obtain⟨x,H1,I1,r1,q1⟩:=qb;obtain⟨d,rfl,q⟩:=q1;cases r1;exact wpAny_truthy_bool ⟨H1,I1,q⟩
theorem gO{e:AM}{t:TE}(h:PE X e t)(f:∀a,isTrue e X.env a=(do let v <- a;standAt e.pos;holding [v] (truthy v)):=by intro _;rfl):PT X e (tB t):=by
 intro b s c H Q I g;refine isTrue_plain (jL (h b s c H _ I g) λv i qb=>?_) (f _);obtain⟨x,H1,I1,r1,q1⟩:=qb;obtain⟨d,rfl,q⟩:=q1;cases r1;exact wpAny_truthy_bool ⟨H1,I1,q⟩
variable {tA tB':TT}{rest:AF}
def R4(t u:TT):TT:=λσ H Q=>t σ H λc a=>if c=true then u σ a Q else Q false a
def Hq(t u:TT):TT:=λσ H Q=>t σ H λc a=>if c=true then Q true a else u σ a Q
def uL(t:TT):TT:=λσ H Q=>t σ H λc a=>Q (!c) a
theorem GK(d:PT X a tA):PW X (.BoolOp .And [a] pos) tA:=by
 intro g b s f H Q I h;refine isTrue_and (jL (d b s f H Q I h) λc i e=>?_);cases c with
 | true=>exact isTrue_and_nil e
 | false=>exact e
theorem m7(d:PT X a tA):PW X (.BoolOp .Or [a] pos) tA:=by
 intro g b s f H Q I h;refine isTrue_or (jL (d b s f H Q I h) λc i e=>?_);cases c with
 | false=>exact isTrue_or_nil e
 | true=>exact e
theorem MJ(i:PT X a tA)(hb:PW X (.BoolOp .And (b::rest) pos) tB'):PW X (.BoolOp .And (a::b::rest) pos) (R4 tA tB'):=by
 intro g d s f H Q I h;refine isTrue_and (jL (i d s f H _ I h) λc j qb=>?_);obtain⟨e,I1,q1⟩:=qb;cases c with
 | true=>exact hb g d j f e Q I1 q1
 | false=>exact⟨e,I1,q1⟩
theorem nj(i:PT X a tA)(hb:PW X (.BoolOp .Or (b::rest) pos) tB'):PW X (.BoolOp .Or (a::b::rest) pos) (Hq tA tB'):=by
 intro g d s f H Q I h;refine isTrue_or (jL (i d s f H _ I h) λc j qb=>?_);obtain⟨e,I1,q1⟩:=qb;cases c with
 | true=>exact⟨e,I1,q1⟩
 | false=>exact hb g d j f e Q I1 q1
theorem mH(d:PT X a tA):PT X (.UnaryOp .Not a pos) (uL tA):=by
 intro b s f H Q I h;exact isTrue_not (d b s f H (λc e=>Q (!c) e) I h)
def R3(ta tb:TE):TE:=λσ H Q=>ta σ H λx a=>∃c,x=.bl c/\if c=true then tb σ a Q else Q (.bl false) a
def Zl1(ta:TE):TE:=λσ H Q=>ta σ H λx a=>∃c,x=.bl c/\Q (.bl (!c)) a
theorem Zax{op}{t:TE}(h:PE X a t):PE X (.BoolOp op [a] pos) t:=λb s σ H Q I c=>BoolOp_one (h b s σ H Q I c)
theorem Tt(i:PE X a ta)(hb:PE X (.BoolOp .And (b::rest) pos) tb):PE X (.BoolOp .And (a::b::rest) pos) (R3 ta tb):=by
 intro d s f H Q I h;refine BoolOp_and (jL (i d s f H _ I h) λv g qb=>?_);obtain⟨x,H1,I1,r1,e⟩:=qb;obtain⟨c,rfl,e⟩:=e;cases r1;refine wpAny_truthy_bool ?_;cases c with
 | true=>exact hb d g f H1 Q I1 e
 | false=>exact⟨.bl false,H1,I1,rfl,e⟩
theorem Zpv(e:PE X a ta):PE X (.UnaryOp .Not a pos) (Zl1 ta):=by
 intro b s f H Q I h;refine UnaryOp_ (jL (e b s f H _ I h) λv g qb=>?_);obtain⟨x,H1,I1,r1,d⟩:=qb;obtain⟨c,rfl,d⟩:=d;cases r1;exact not_of (wpAny_truthy_bool ⟨.bl (!c),H1,I1,rfl,d⟩)
def tIf(t:TT)(ta tb:TE):TE:=λσ H Q=>t σ H λc a=>if c=true then ta σ a Q else tb σ a Q
theorem Tp{c:AM}(hc:PT X c tA)(j:PE X a ta)(hb:PE X b tb):PE X (.IfExp c a b pos) (tIf tA ta tb):=by
 intro e s f H Q I h;refine wpAny_IfExp (jL (hc e s f H _ I h) λd i qb=>?_);obtain⟨g,I1,q1⟩:=qb;cases d with
 | true=>exact j e i f g Q I1 q1
 | false=>exact hb e i f g Q I1 q1
end
def cB(K:aC)(H:Hp)(a:AH)(xs:List V):Prop:=
 Rd H a (.lst xs)\/
  ∃(o:Obj) (b:Array AI) (n:Nat),K.lookup a=some o/\o.cls=.type "list"/\o.dict=none/\o.data=.seq b n/\b.size<=sizeLine/\Vals xs b.toList
def fY(K:aC)(H:Hp)(a:AH)(xs:List V):Prop:=
 Rd H a (.tup xs)\/
  ∃(o:Obj) (b:Array AI) (n:Nat),K.lookup a=some o/\o.cls=.type "tuple"/\o.data=.seq b n/\b.size<=sizeLine/\Vals xs b.toList
def ZKs:AI->Option V
 | .none=>some .non
 | .bool b=>some (.bl b)
 | .int i _=>some (.int i)
 | .str x _=>some (.str x)
 | .bytes b _=>some (.byt b)
 | .float b _=>some (.flt b)
 | .ref a=>↑a
 | .type n=>some (.ty n)
 | _=>none
theorem RelV.abs{x:V}{u:AI}(r:RelV x u):ZKs u=some x:=by
 cases x with
 | non=>cases r;rfl
 | bl _=>cases r;rfl
 | int _=>obtain⟨t,rfl⟩:=r;rfl
 | str _=>obtain⟨t,rfl⟩:=r;rfl
 | byt _=>obtain⟨t,rfl⟩:=r;rfl
 | flt _=>obtain⟨t,rfl⟩:=r;rfl
 | ref _=>cases r;rfl
 | ty _=>cases r;rfl
theorem RelV.inj{x y:V}{u:AI}(r:RelV x u)(q:RelV y u):x=y:=Option.some.inj (r.abs.symm.trans q.abs)
theorem Vals.inj:∀{xs a:List V}{us:AC},Vals xs us->Vals a us->xs=a
 | _,_,_,.nil,.nil=>rfl
 | _,_,_,.cons r t,.cons b t'=>by rw[r.inj b,Vals.inj t t']
section
variable {X:Cx}{pins:At}{σ:St}{H:Hp}{s:AJ}{a:AH}{xs ys:List V}
theorem cB.of{K:aC}(h:H a=some (.lst xs)):cB K H a xs:=.inl (.inl h)
theorem fY.of{K:aC}(h:H a=some (.tup xs)):fY K H a xs:=.inl (.inl h)
theorem Inv.list(I:Inv X pins σ H s)(h:cB X.K H a xs):∃b:AC,Vals xs b/\PlainL s.heap a b.toArray/\xs.length<=sizeLine:=by
 rcases h with h | ⟨o,b,n,hk,hc,hd,hs,hz,r⟩
 ·obtain⟨z,b,n,r,e⟩:=h.ok I.hok;exact⟨b,r,⟨_,n,e,rfl,rfl,rfl⟩,z⟩
 ·refine⟨b.toList,r,⟨o,n,I.Gg a o hk,hc,hd,by simpa using hs⟩,?_⟩;have e:=r.length;simp only[Array.length_toList]at e;omega
theorem Inv.tuple(I:Inv X pins σ H s)(h:fY X.K H a xs):∃b:AC,Vals xs b/\IsTup s.heap a b.toArray/\xs.length<=sizeLine:=by
 rcases h with h | ⟨o,b,n,hk,hc,hs,hz,r⟩
 ·obtain⟨z,b,r,p⟩:=h.ok I.hok;exact⟨b,r,p,z⟩
 ·refine⟨b.toList,r,⟨o,I.Gg a o hk,hc,n,by simpa using hs⟩,?_⟩;have e:=r.length;simp only[Array.length_toList]at e;omega
theorem Inv.Zfd(I:Inv X pins σ H s)(h:cB X.K H a xs)(h':cB X.K H a ys):xs=ys:=by
 obtain⟨c,r,⟨o,n,e,_,_,d⟩,_⟩:=I.list h;obtain⟨b,j,⟨k,l,g,_,_,f⟩,_⟩:=I.list h';rw[e]at g;cases g;rw[d]at f
 injection f with i _
 have:c=b:=by simpa using congrArg Array.toList i
 subst this;exact r.inj j
end
abbrev Cx.wish(X:Cx)(E:Ap):Cx:={ X with xe:=E }
abbrev Cx.nox(X:Cx):Cx:=X.wish λ_ _=>False
theorem Cx.Ok.wish{X:Cx}(ok:X.Ok)(E:Ap):(X.wish E).Ok:=
 ⟨ok.mod,ok.kind,ok.glob,ok.blt,ok.above,ok.inj,ok.has,ok.cab,ok.hd,ok.frames,ok.stk,ok.exf,ok.bs,ok.bsz,ok.Zf3,ok.Zk8,ok.CT,ok.frf⟩
theorem Cx.Ok.DN{X:Cx}{E:Ap}(ok:(X.wish E).Ok):X.Ok:=
 ⟨ok.mod,ok.kind,ok.glob,ok.blt,ok.above,ok.inj,ok.has,ok.cab,ok.hd,ok.frames,ok.stk,ok.exf,ok.bs,ok.bsz,ok.Zf3,ok.Zk8,ok.CT,ok.frf⟩
section
variable {X:Cx}{pins:At}{σ:St}{H:Hp}{s:AJ}{E:Ap}
theorem Inv.wish(I:Inv X pins σ H s)(E:Ap):Inv (X.wish E) pins σ H s:=⟨I.ok.wish E,I.os,I.bare,I.base,I.loc,I.cell,I.free,I.wX,I.pin,I.hok,I.len⟩
theorem Inv.DN(I:Inv (X.wish E) pins σ H s):Inv X pins σ H s:=⟨I.ok.DN,I.os,I.bare,I.base,I.loc,I.cell,I.free,I.wX,I.pin,I.hok,I.len⟩
theorem SP.DN{D:Ends}{f:Flow}{s':AJ}(h:SP (X.wish E) pins D f s'):SP X pins D f s':=by
 cases f with
 | next=>obtain⟨a,b,I,q⟩:=h;exact⟨a,b,I.DN,q⟩
 | brk=>obtain⟨a,b,I,q⟩:=h;exact⟨a,b,I.DN,q⟩
 | cont=>obtain⟨a,b,I,q⟩:=h;exact⟨a,b,I.DN,q⟩
 | ret u=>obtain⟨v,a,b,I,r,q⟩:=h;exact⟨v,a,b,I.DN,r,q⟩
theorem PSs.nox{st:List Stmt}{t:TS}(h:PSs X.nox st t):PSs X st t:=λpins s σ H D I a=>
 wpAny_mono (h pins s σ H D (I.wish _) a) (λ_ _ q=>q.DN) λ_ _ z=>False.elim z
end
section
variable {X:Cx}{st:Stmt}{rest:List Stmt}{t u:TS}{e:AM}{te:TE}{pos:Pos}
def bQ:TS:=λD σ H=>D.nx σ H
def aN(t u:TS):TS:=λD σ H=>t { D with nx:=u D } σ H
theorem bh:PSs X [] bQ:=λ_ _ σ H _ I h=>wpAny_execs_nil ⟨σ,H,I,h⟩
theorem ao(h1:PS X st t)(h2:PSs X rest u):PSs X (st::rest) (aN t u):=by
 intro a s c H D I h;refine wpAny_execs_cons (jL (h1 a s c H { D with nx:=u D } I h) λf g q=>?_);cases f with
 | next=>
  obtain⟨b,e,d,q⟩:=q;exact h2 a g b e D d q
 | ret v=>exact q
 | brk=>exact q
 | cont=>exact q
theorem aA(h1:PS X st t):PSs X [st] t:=by
 intro a s b H D I h;refine wpAny_execs_cons (jL (h1 a s b H D I h) λf c q=>?_);cases f with
 | next=>exact wpAny_execs_nil q
 | ret v=>exact q
 | brk=>exact q
 | cont=>exact q
theorem Inv.quiet{a:At}{σ:St}{H:Hp}{s:AJ}(I:Inv X a σ H s):interactive X.env=false:=by simp[interactive,I.ok.kind]
def vm(te:TE):TS:=λD σ H=>te σ H λ_ a=>D.nx σ a
theorem qj(c:PE X e te)(hs:swapsWith e none pos.line X.env=pure false:=by rfl):PS X (.Expr e pos) (vm te):=by
 intro a s b H D I h;exact wpAny_Expr_any (jL (c a s b H _ I h) (by rintro v d ⟨x,H1,I1,r1,q1⟩;exact⟨b,H1,I1,q1⟩)) I.quiet hs
def bG(te:TE):TS:=λD σ H=>te σ H D.rt
theorem aM(c:PE X e te):PS X (.Return (some e) pos) (bG te):=by
 intro a s b H D I h;exact wpAny_Return_some (jL (c a s b H _ I h) (by rintro v d ⟨x,H1,I1,r1,q1⟩;exact⟨x,b,H1,I1,r1,q1⟩))
def dD(c:TT)(t u:TS):TS:=λD σ H=>c σ H λb a=>if b=true then t D σ a else u D σ a
theorem bZ{c:AM}{a b:List Stmt}{tc:TT}(hc:PT X c tc)(j:PSs X a t)(hb:PSs X b u):PS X (.If c a b pos) (dD tc t u):=by
 intro e s f H D I h;refine wpAny_If (jL (hc e s f H _ I h) λd i qb=>?_);obtain⟨g,I1,q1⟩:=qb;cases d with
 | true=>exact j e i f g D I1 q1
 | false=>exact hb e i f g D I1 q1
end
abbrev TG:=V->St->Hp->(ν)->Prop
abbrev TGs:=List V->St->Hp->(ν)->Prop
def PG(X:Cx)(a:AM)(t:TG):Prop:=
 ∀(b:At) (s:AJ) (σ:St) (H:Hp) (v:V) (u:AI) (Q:ν),Inv X b σ H s->RelV v u->t v σ H Q->
  wpAny ς X.A (assign a X.env u) (λ_ s'=>∃ c H',Inv X b c H' s'/\Q c H') X.xe s
def PGs(X:Cx)(ts:AF)(t:TGs):Prop:=
 ∀(a:At) (s:AJ) (σ:St) (H:Hp) (vs:List V) (us:AC) (Q:ν),Inv X a σ H s->Vals vs us->t vs σ H Q->
  wpAny ς X.A (assignInOrder ((assignEach ts X.env).map (·.2)) us) (λ_ s'=>∃ b H',Inv X a b H' s'/\Q b H') X.xe s
abbrev Zog:=V->V->V->Hp->(Hp->Prop)->Prop
def Zzp(X:Cx)(t:Zog):Prop:=
 ∀(a:At) (s:AJ) (σ:St) (H:Hp) (o i v:V) (b c u:AI) (Q:Hp->Prop),Inv X a σ H s->RelV o b->RelV i c->RelV v u->t o i v H Q->
  wpAny ς X.A (setItem b c u) (λ_ s'=>∃H',Inv X a σ H' s'/\Q H') X.xe s
abbrev TIp:=V->V->Hp->VK->Prop
def PIp(X:Cx)(b:Operator)(t:TIp):Prop:=
 ∀(a:At) (s:AJ) (σ:St) (H:Hp) (x y:V) (v u:AI) (Q:VK),Inv X a σ H s->RelV x v->RelV y u->t x y H Q->
  wpAny ς X.A (inplaceOp b v u) (EP X a σ Q) X.xe s
section
variable {X:Cx}{pos:Pos}
def aO(i:Nat):TG:=λv σ H Q=>Q (σ.set i (some v)) H
theorem fu{i:Nat}{x:Str}(e:X.N.Nodup)(b:X.N[i]? =some x)(hx:Loc X.env.scope x)(d:X.fn x=true\/X.env.scope.names.lookup x=some .local:=by first | exact .inl rfl | exact .inr rfl | assumption):PG X (.Name x pos) (aO i):=by
 intro a s g H v u Q I r h;exact wpAny_assign_Name (Jy I e b hx r (λf c=>⟨_,H,c,h⟩) d)
def Zny:TGs:=λvs σ H Q=>vs=[]/\Q σ H
def Gk(t:TG)(u:TGs):TGs:=λvs σ H Q=>∃v r,vs=v::r/\t v σ H λa H'=>u r a H' Q
theorem JW:PGs X [] Zny:=by
 intro a s b H c us Q I r h;obtain⟨e,h⟩:=h;subst e;cases r;exact assignInOrder_nil ⟨b,H,I,h⟩
theorem qd{e:AM}{b:AF}{t:TG}{u:TGs}(h1:PG X e t)(h2:PGs X b u)
  (hs:(assignEach (e::b) X.env).map (·.2)=assign e X.env::(assignEach b X.env).map (·.2):=by rfl):PGs X (e::b) (Gk t u):=by
 intro a s f H j us Q I r h;obtain⟨v,k,g,h⟩:=h;subst g;cases r with
 | cons r d=>
  rw[hs];refine assignInOrder_cons (jL (h1 a s f H _ _ _ I r h) λ_ i qb=>?_);obtain⟨c,H1,I1,q1⟩:=qb;exact h2 a i c H1 _ _ Q I1 d q1
def Znx(K:aC)(n:Nat)(t:TGs):TG:=λv σ H Q=>∃a xs,v=.ref a/\fY K H a xs/\xs.length=n/\t xs σ H Q
theorem Tj{d:AF}{k:Nat}{t:TGs}{n:Nat}(hc:X.calm=true)(h:PGs X d t)
  (hn:(assignEach d X.env).length=n:=by rfl) (f:(assignEach d X.env).findIdx? (·.1)=none:=by rfl):PG X (.Tuple d k pos) (Znx X.K n t):=by
 intro c s i H v u Q I r g;obtain⟨a,x,q,hq,hl,g⟩:=g;subst q;cases r;obtain⟨l,j,w,hz⟩:=I.tuple hq;refine assign_Tuple_tuple (I.ok.hd hc) w (by simp[hn,<- hl,j.length]) f λp hx=>?_;have m:Inv X c i H { s with heap:=p }:=I.kept (t':=s.toks) λb o e=>hx b o (Nat.ne_of_lt (Heap.lt_size e)) e;exact h c _ i H x _ Q m (by simpa using j) g
def Vd(to d:TE)(t:Zog):TG:=λv σ H Q=>to σ H λo c=>d σ c λi a=>t o i v a λb=>Q σ b
theorem Cd{o i:AM}{to e:TE}{t:Zog}(j:PE X o to)(f:PE X i e)(hs:Zzp X t)
  (m:∀v,assign (.Subscript o i pos) X.env v=(do
   let b <- holding [v] (eval o X.env)
   let c <- holding [v,b] (eval i X.env)
   standAt pos
   holding [v,b,c] (setItem b c v)
   release [v,b,c] []):=by intro _;rfl):PG X (.Subscript o i pos) (Vd to e t):=by
 intro a s d H v u Q I r h;rw[m];refine wpAny_bind (wpAny_holding (jL (j a s d H _ I h) λb k qb=>?_));obtain⟨x,H1,I1,r1,q1⟩:=qb;refine wpAny_bind (wpAny_holding (jL (f a k d H1 _ I1 q1) λc l qb=>?_));obtain⟨y,H2,I2,r2,q2⟩:=qb;refine wpAny_bind (wpAny_standAt (wpAny_bind (wpAny_holding (jL (hs a l d H2 x y v b c u _ I2 r1 r2 r q2) λ_ n qb=>?_))));obtain⟨g,I3,q3⟩:=qb;exact wpAny_release ⟨d,g,I3,q3⟩
def bF(a:TE)(g:TG):TS:=λD σ H=>a σ H λx b=>g x σ b D.nx
theorem zA{tg e:AM}{b:TE}{g:TG}(f:PE X e b)(d:PG X tg g)(hs:swapsWithSole [tg] e pos.line X.env=pure false:=by rfl)(j:swappedStores [tg] e X.env=pure none:=by rfl)
  (h1:(assignEach [tg] X.env).map (·.2)=[assign tg X.env]:=by rfl):PS X (.Assign [tg] e pos) (bF b g):=by
 intro a s c H D I h;refine wpAny_Assign_stores (jL (f a s c H _ I h) λv i qb=>?_) hs j;obtain⟨x,H1,I1,r1,q1⟩:=qb;rw[h1];exact jL (d a i c H1 x v _ I1 r1 q1) λ_ k q=>q
theorem Zic{i:Nat}{x:Str}{e:AM}{c:TE}{a:Pos}(k:X.N.Nodup)(g:X.N[i]? =some x)(hx:Loc X.env.scope x)(l:PE X e c)(hs:swapsWith e (some (.Name x a)) pos.line X.env=pure false:=by rfl)(d:X.fn x=true\/X.env.scope.names.lookup x=some .local:=by first | exact .inl rfl | exact .inr rfl | assumption):
  PS X (.Assign [.Name x a] e pos) (bF c (aO i)):=by
 intro b s j H D I h;refine wpAny_Assign_Name (jL (l b s j H _ I h) λv m qb=>?_) hs;obtain⟨y,H1,I1,r1,q1⟩:=qb;exact Jy I1 k g hx r1 (λn f=>⟨_,H1,f,q1⟩) d
def Zwy(i:Nat)(b:TE)(d:TIp):TS:=λD σ H=>∃x,σ[i]? =some (some x)/\b σ H λy c=>d x y c λz a=>D.nx (σ.set i (some z)) a
theorem Zxc{i:Nat}{x:Str}{e:AM}{o:TE}{j:Operator}{t:TIp}{g:Pos}(C:X.N.Nodup)(p:X.N[i]? =some x)(hx:Loc X.env.scope x)(F:PE X e o)(E:PIp X j t)(B:X.fn x=true\/X.env.scope.names.lookup x=some .local:=by first | exact .inl rfl | exact .inr rfl | assumption):
  PS X (.AugAssign (.Name x g) j e pos) (Zwy i o t):=by
 intro a s q H D I h;obtain⟨v,J,h⟩:=h;obtain⟨m,hn,hl⟩:=I.loc;have n:Vis X.env.scope x:=by rcases hx with k | k;exact .inl k;exact .inr (.inl k)
 obtain⟨u,r,l⟩:=hl i x v p J n;refine wpAny_AugAssign_Name ?_;have go:wpAny ς X.A (eval e X.env) (λw d=>wpAny ς X.A (inplaceOp j u w) (λr f=>wpAny ς X.A (storeName X.env x r) (λ_=>SP X a D .next) X.xe f) X.xe d) X.xe s:=by
  refine jL (F a s q H _ I h) λw K qb=>?_;obtain⟨y,H1,I1,r1,q1⟩:=qb;refine jL (E a K q H1 v y u w _ I1 r r1 q1) λz P qb=>?_;obtain⟨M,H2,I2,r2,q2⟩:=qb;exact Jy I2 C p hx r2 (λO L=>⟨_,H2,L,q2⟩) B
 rcases l with ⟨hk,hm⟩ | ⟨hk,c,hc,b⟩
 ·exact wpAny_loadName_local I.ok.kind hk hn hm go
 ·rcases hk with hk | hk
  ·exact wpAny_loadName_cell I.ok.kind hk hc b go
  ·rcases hx with k | k
   ·have:X.env.scope.names.lookup x=some .free:=hk;rw[k]at this;cases this
   ·have:X.env.scope.names.lookup x=some .free:=hk;rw[k]at this;cases this
def Zp0(to k d:TE)(a:V->V->Hp->VK->Prop)(b:TIp)(c:Zog):TS:=λD σ H=>to σ H λo g=>k σ g λi e=>a o i e λx f=>d σ f λy l=>b x y l λz h=>c o i z h λj=>D.nx σ j
def ZBu(X:Cx)(t:V->V->Hp->VK->Prop):Prop:=
 ∀(a:At) (s:AJ) (σ:St) (H:Hp) (o i:V) (c b:AI) (Q:VK),Inv X a σ H s->RelV o c->RelV i b->t o i H Q->
  wpAny ς X.A (getItem c b) (EP X a σ Q) X.xe s
theorem Ztp{o i e:AM}{to q n:TE}{f:V->V->Hp->VK->Prop}{j:TIp}{k:Zog}{p:Operator}{g:Pos}(y:PE X o to)(u:PE X i q)(x:ZBu X f)(B:PE X e n)(hp:PIp X p j)(hs:Zzp X k)
  (J:∀b d new,augStore i b d new=(do holding [new,b,d] (setItem b d new);release [new,b,d] [];pure .next):=by intros;rfl):PS X (.AugAssign (.Subscript o i g) p e pos) (Zp0 to q n f j k):=by
 intro a s c H D I h;refine wpAny_AugAssign_SubscriptAny (jL (y a s c H _ I h) λb C qb=>?_) J;obtain⟨l,H1,I1,r1,q1⟩:=qb;refine jL (u a C c H1 _ I1 q1) λd K qb=>?_;obtain⟨m,H2,I2,r2,q2⟩:=qb;refine jL (x a K c H2 l m b d _ I2 r1 r2 q2) λold E qb=>?_;obtain⟨w,H3,I3,r3,q3⟩:=qb;refine jL (B a E c H3 _ I3 q3) λv F qb=>?_;obtain⟨A,H4,I4,r4,q4⟩:=qb;refine jL (hp a F c H4 w A old v _ I4 r3 r4 q4) λnew r qb=>?_;obtain⟨t,H5,I5,r5,q5⟩:=qb;exact jL (hs a r c H5 l m t b d new _ I5 r1 r2 r5 q5) (by rintro _ L ⟨z,I6,q6⟩;exact⟨c,z,I6,q6⟩)
def ipI(f:Int->Int->Int):TIp:=λx y H Q=>∃i j,x=.int i/\y=.int j/\Q (.int (f i j)) H
theorem Zrb:PIp X .Add (ipI λi j=>i+j):=by
 intro a s f H x y v u Q I c b h;obtain⟨i,j,d,e,q⟩:=h;subst d;subst e;obtain⟨t,rfl⟩:=c;obtain⟨g,rfl⟩:=b;exact iadd_int ⟨.int _,H,I.tok _,⟨_,rfl⟩,q⟩
end
section
variable {X:Cx}{pos:Pos}
def Zou(c:TT)(f:TS):TS:=λD σ H=>∃W:Nat->ν,(∃m,W m σ H)/\∀m σ H,W m σ H->
 c σ H λb e=>if b=true then ∃N:ν,(∀ a H',N a H'->∃d,d<m/\W d a H')/\f { D with nx:=N,ct:=N,bk:=D.nx } σ e else D.nx σ e
theorem Zpm{c:AM}{g:List Stmt}{tc:TT}{u:TS}(hp:PassesOwn ς X.A X.env X.xe)(hc:PT X c tc)(hb:PSs X g u):PS X (.While c g [] pos) (Zou tc u):=by
 intro a s x H D I h;obtain⟨W,⟨z,w0⟩,turn⟩:=h;refine wpAny_While (codeAny_whileLoop (λn E=>∃ i t,Inv X a i t E/\W n i t) ?_ z ⟨x,H,I,w0⟩);rintro n B ⟨e,q,y,C⟩;refine wpAny_passesOwn hp (jL (hc a B e q _ y (turn n e q C)) λb F qb=>?_);obtain⟨p,I2,l⟩:=qb;cases b with
 | true=>
  obtain⟨N,r,l⟩:=l;rw[if_pos rfl];refine wpAny_passesOwn hp (jL (hb a F e p _ I2 l) λf J k=>?_);cases f with
  | next=>
   obtain⟨d,j,o,n3⟩:=k;obtain⟨m,hm,w3⟩:=r d j n3;exact⟨m,hm,d,j,o,w3⟩
  | cont=>
   obtain⟨d,j,o,n3⟩:=k;obtain⟨m,hm,w3⟩:=r d j n3;exact⟨m,hm,d,j,o,w3⟩
  | brk=>exact k
  | ret v=>exact k
 | false=>
  rw[if_neg Bool.false_ne_true];exact wpAny_execs_nil ⟨e,p,I2,l⟩
end
structure It where
 go:Nat->Hp->Prop
 yld:Nat->Hp->V->Hp->Prop
 stop:Nat->Hp->Prop
def vR(X:Cx)(a:At)(H:Hp)(b:AH):Prop:=
 H b=none/\b≠X.env.locals/\b∉X.fs/\(b∈X.ex\/X.s₀.heap.objs.size<=b)/\(∀x c,X.env.cells.lookup x=some c->c≠b)/\∀p∈X.pn++a,p.1≠b
theorem Inv.Zjx{X:Cx}{a:At}{σ:St}{H H':Hp}{s:AJ}{b:AH}(I:Inv X a σ H s)(hb:s.heap.objs.size<=b)(hn:H' b=none):vR X a H' b:=by
 refine⟨hn,Nat.ne_of_gt (Nat.lt_of_lt_of_le I.lt hb),I.ZC8 hb,.inr (Nat.le_trans I.sz hb),λx c e z=>?_,λp hp z=>?_⟩
 ·obtain⟨v,q⟩:=I.cell x c e;exact absurd (Nat.lt_of_lt_of_le q.lt (by rw[z];exact hb)) (Nat.lt_irrefl _)
 ·exact absurd (Nat.lt_of_lt_of_le (Heap.lt_size (I.pin p hp).1) (by rw[z];exact hb)) (Nat.lt_irrefl _)
structure Turn(P:AL)(w:AN)(K:aC)(tg:AM)(J:It)(fp:AE)(it:AH)(tn:Nat->Heap->Prop):Prop where
  mem:it∈fp
  obj:∀i h,tn i h->∀b∈fp,∃o,h.get? b=some o/\∀v,o.data≠.cell v
  keep:∀i h h',tn i h->(∀b∈fp,∀o,h.get? b=some o->h'.get? b=some o)->tn i h'
  item:∀(X:Cx),X.prog=P->X.w=w->X.K=K->X.calm=true->∀(i:Nat) (pins:At) (s:AJ) (σ:St) (H:Hp) (E:Ap),Inv X pins σ H s->(∀b∈fp,vR X pins H b)->tn i s.heap->J.go i H->
    wpAny (model P w) X.A (pyNext (.ref it)) (λr s1=>∃u,r=some u/\
      wpAny (model P w) X.A (letOwnedTupleGo tg (.ref it) u) (λ_ s2=>∃x H',Inv X pins σ H' s2/\RelV x u/\J.yld i H x H'/\tn (i+1) s2.heap/\∀b∈fp,H' b=none) E s1) E s
  done:∀(X:Cx),X.prog=P->X.w=w->X.K=K->X.calm=true->∀(i:Nat) (pins:At) (s:AJ) (σ:St) (H:Hp) (E:Ap),Inv X pins σ H s->(∀b∈fp,vR X pins H b)->tn i s.heap->J.stop i H->
    wpAny (model P w) X.A (pyNext (.ref it)) (λr s1=>r=none/\Inv X pins σ H s1) E s
  self:∀(A:Around) (i:Nat) (s:AJ) (Q:Ap) (E:Ap),tn i s.heap->Q (.ref it) s->wpAny (model P w) A (pyIter (.ref it)) Q E s
abbrev TI:=St->Hp->(It->Hp->Prop)->Prop
def PIE(X:Cx)(a:At)(σ:St)(tg:AM)(R:It->Hp->Prop)(c:AI)(f:AJ):Prop:=
 ∃(e:AH) (d:AE) (tn:Nat->Heap->Prop) (J:It) (H':Hp),c=.ref e/\Inv X a σ H' f/\Turn X.prog X.w X.K tg J d e tn/\tn 0 f.heap/\(∀b∈d,vR X a H' b)/\R J H'
def PI(X:Cx)(tg iter:AM)(c:TI):Prop:=
 ∀(a:At) (s:AJ) (σ:St) (H:Hp) (R:It->Hp->Prop),Inv X a σ H s->c σ H R->
  wpAny ς X.A (eval iter X.env) (λv b=>wpAny ς X.A (pyIter v) (PIE X a σ tg R) X.xe b) X.xe s
theorem Zrv{M:Model}{A:Around}{E:Ap}{s:AJ}{tg:AM}{b:AH}{u:AI}{o:Obj}{n:String}{vs:Array AI}{Q:Unit->AJ->Prop}(c:s.heap.get? b=some o)(hc:o.cls=.type n)(hd:o.data=.fields vs)
    (hn:["enumerate","zip","dict_itemiterator","dict_reverseitemiterator","odict_iterator","itertools.zip_longest","itertools.pairwise"].contains n=false) (a:Q () s):wpAny M A (letOwnedTupleGo tg (.ref b) u) Q E s:=by
  unfold letOwnedTupleGo;cases tg<;>first
    | exact wpAny_pure a
    | (cases u<;>first
        | exact wpAny_pure a
        | (refine wpAny_bind (wpAny_load c ?_)
           rw[hc,hd];show wpAny M A (if (["enumerate","zip","dict_itemiterator","dict_reverseitemiterator","odict_iterator","itertools.zip_longest","itertools.pairwise"].contains n && vs[0]? == some (rawInt _))=true then _ else _) Q E s;rw[if_neg (by intro h;rw[hn,Bool.false_and]at h;cases h)];exact wpAny_pure a))
def Itl(K:aC)(a:AH):It:=
 ⟨λi H=>∃xs x,cB K H a xs/\xs[i]? =some x,λi H x H'=>H'=H/\∀xs,cB K H a xs->xs[i]? =some x,λi H=>∃xs,cB K H a xs/\xs.length<=i⟩
def Itr(lo:Int)(n:Nat):It:=⟨λi _=>i<n,λi H x H'=>H'=H/\x=.int (lo+i),λi _=>n<=i⟩
theorem Zm3{P:AL}{w:AN}{K:aC}{tg:AM}(a g:AH):Turn P w K tg (Itl K a) [g] g (λi h=>h.IsListIter g a i) where
  mem:=ζ
  obj:=λi h st b hb=>by
    have e:b=g:=by simpa using hb
    subst e;obtain⟨o,e,c,d⟩:=st;exact⟨o,e,λv z=>by rw[d]at z;cases z⟩
  keep:=λi h m st k=>st.at λo e=>k g ζ o e
  item:=by
    intro X C J y hc i f s L H E I l st t;subst C J y;obtain⟨Q,x,hq,hx⟩:=t;obtain⟨q,F,p,hz⟩:=I.list hq;obtain⟨u,hu,M⟩:=F.get hx;obtain⟨n,D,N,B,r,A⟩:=l g ζ;refine wpAny_pyNext_list_item st p.isList (x:=u) (by simpa using hu) λm j sb=>?_;have O:Inv X f L H { s with heap:=m }:=I.turned (t':=s.toks) (λb o hb e=>(sb.2 b hb).trans e) n D B r A;obtain⟨o,e,c,d⟩:=id j;exact⟨u,rfl,Zrv (s:={ s with heap:=m }) e c d ε ⟨x,H,O,M,⟨rfl,λS hy=>by rw[I.Zfd hy hq];exact hx⟩,j,λb hb=>(l b hb).1⟩⟩
  done:=by
    intro X C J y hc i f s L H E I l st t;subst C J y;obtain⟨Q,hq,hx⟩:=t;obtain⟨q,F,p,hz⟩:=I.list hq;obtain⟨n,D,N,B,r,A⟩:=l g ζ;have hl:=F.length;exact wpAny_pyNext_list_end (I.ok.hd hc) st p.isList (by simp;omega) λm R=>⟨rfl,I.turned (t':=s.toks) (λb o hb e=>R b o hb e) n D B r A⟩
  self:=λ_ _ _ _ _ st h=>wpAny_pyIter_listiter st h
theorem Zh2{P:AL}{w:AN}{K:aC}{tg:AM}(a:AH)(lo:Int)(n:Nat):Turn P w K tg (Itr lo n) [a] a (λi h=>IsRangeIter h a (lo+(i:Nat) * 1) ((n:Int) - (i:Nat)) 1) where
  mem:=ζ
  obj:=λi h st b hb=>by
    have e:b=a:=by simpa using hb
    subst e;exact⟨_,st,λv z=>by
      have B:Data.fields _=Data.cell v:=z;cases B⟩
  keep:=λi h g st k=>k a ζ _ st
  item:=by
    intro X u y p hc i c s A H E I f st m;subst u y p;obtain⟨j,x,C,r,l,q⟩:=f a ζ;have W:=Walks.range (prog:=X.prog) (w:=X.w) (I.ok.hd hc) a lo 1 n;refine W.item i s _ _ m st λv g tk hv d kk=>?_;obtain⟨t,rfl⟩:=hv;have D:Inv X c A H { s with heap:=g,toks:=tk }:=I.turned (λb o hb e=>kk b o (by simpa using hb) e) j x r l q;refine⟨_,rfl,Zrv (s:={ s with heap:=g,toks:=tk }) (n:="range_iterator") d rfl rfl ε ⟨.int (lo+i),H,D,⟨t,?_⟩,⟨rfl,rfl⟩,d,λb hb=>(f b hb).1⟩⟩;rw[Int.mul_one]
  done:=by
    intro X u y p hc i c s A H E I f st m;subst u y p;obtain⟨j,x,C,r,l,q⟩:=f a ζ;exact wpAny_pyNext_range_end (I.ok.hd hc) st (by have:n<=i:=m;omega) λg F=>⟨rfl,I.turned (t':=s.toks) (λb o hb e=>F b o hb e) j x r l q⟩
  self:=λ_ _ _ _ _ st h=>wpAny_pyIter_rangeiter st h
section
variable {X:Cx}{tg:AM}
def pW(K:aC)(tl:TE):TI:=λσ H R=>tl σ H λx b=>∃a,x=.ref a/\(∃xs,cB K b a xs)/\R (Itl K a) b
theorem jN{l:AM}{tl:TE}(hl:PE X l tl):PI X tg l (pW X.K tl):=by
 intro c s g H R I h;refine jL (hl c s g H _ I h) λv d qb=>?_;obtain⟨x,H1,I1,r1,q1⟩:=qb;obtain⟨a,e,⟨j,hq⟩,q⟩:=q1;subst e;cases r1;obtain⟨f,i,p,hz⟩:=I1.list hq;refine wpAny_pyIter_list p.isList ?_;refine⟨d.heap.objs.size,[d.heap.objs.size],_,_,H1,rfl,I1.kept (t':=d.toks) λb o e=>Heap.get?_push_of_some _ e,Zm3 a _,⟨_,Heap.get?_push_size _ rfl,rfl,rfl⟩,λb hb=>?_,q⟩;have e:b=d.heap.objs.size:=by simpa using hb
 subst e;exact I1.Zjx Γ (I1.hok.fresh Γ)
theorem Zpb{c:At}{σ:St}{H:Hp}{s:AJ}{R:It->Hp->Prop}{E:Ap}{lo a:Int}{t u v:Tok}{tk:Nat}(I:Inv X c σ H s)(h1:-(2 ^ 62)<=lo)(h2:lo<2 ^ 62)(h3:-(2 ^ 62)<=a)(h4:a<2 ^ 62)
  (q:R (Itr lo (a - lo).toNat) H):wpAny ς X.A (pyIter (.ref s.heap.objs.size)) (PIE X c σ tg R) E { s with heap:=s.heap.push { cls:=.type "range",data:=.fields #[.int lo t,.int a u,.int 1 v] },toks:=tk }:=by
 refine wpAny_pyIter_range (IsRange.new ..) (small_one h1 h2 h3 h4) ?_;have d:Inv X c σ H { s with heap:=s.heap.push { cls:=.type "range",data:=.fields #[.int lo t,.int a u,.int 1 v] },toks:=tk }:=I.kept λb o e=>Heap.get?_push_of_some _ e;refine⟨(s.heap.push { cls:=.type "range",data:=.fields #[.int lo t,.int a u,.int 1 v] }).objs.size,[(s.heap.push { cls:=.type "range",data:=.fields #[.int lo t,.int a u,.int 1 v] }).objs.size],_,_,H,rfl,
  d.kept (t':=tk) λb o e=>Heap.get?_push_of_some _ e,Zh2 _ lo (a - lo).toNat,?_,λb hb=>?_,q⟩
 ·have f:lo+((0:Nat):Int) * 1=lo:=ζ
  have g:(((a - lo).toNat:Nat):Int) - ((0:Nat):Int)=Builtin.Range.rangeSize lo a 1:=by rw[rangeSize_one];split<;>omega
  show IsRangeIter _ _ (lo+((0:Nat):Int) * 1) ((((a - lo).toNat:Nat):Int) - ((0:Nat):Int)) 1;rw[f,g];exact Heap.get?_push_size _ rfl
 ·have e:b=(s.heap.push { cls:=.type "range",data:=.fields #[.int lo t,.int a u,.int 1 v] }).objs.size:=by simpa using hb
  subst e;exact d.Zjx Γ (d.hok.fresh Γ)
def KJ(a:TA):TI:=λσ H R=>a σ H λvs b=>∃j:Int,vs=[.int j]/\-(2 ^ 62)<=j/\j<2 ^ 62/\R (Itr 0 j.toNat) b
theorem tK{a:AM}{f:TA}{p c:Pos}(i:Gl X "range")(hm:X.mg "range"=none)(l:PA X [a] f)(hs:starEach [a] X.env=[(false,eval a X.env)]:=by rfl):PI X tg (.Call (.Name "range" p) [a] [] c) (KJ f):=by
 intro b s k H R I h;refine Call_ (Uw I i hm boot_range (PyProof.Rows.callWith_type1 (jL (l c b s k H _ I h) λus o qb=>?_) hs rfl));obtain⟨n,H1,I1,r1,d⟩:=qb;obtain⟨j,e,d,m,q⟩:=d;subst e;cases r1 with
 | cons r g=>
  cases g;obtain⟨t,rfl⟩:=r;exact call_range_1 (Zpb I1 δ δ d m (by simpa using q))
def yD(d:TI)(g:TG)(h:TS):TS:=λD σ H=>d σ H λJ f=>∃W:Nat->Nat->ν,(∃m,W 0 m σ f)/\∀i m σ H,W i m σ H->
 (J.stop i H/\D.nx σ H)\/(J.go i H/\∃N:ν,(∀ a H',N a H'->∃c,c<m/\W (i+1) c a H')/\∀x H',J.yld i H x H'->g x σ H' λb e=>h { D with nx:=N,ct:=N,bk:=D.nx } b e)
def Jh(a:AE)(h:Heap):At:=a.filterMap λb=>(h.get? b).map λo=>(b,o)
theorem wQ{a:AE}{h:Heap}{b:AH}{o:Obj}(hb:b∈a)(e:h.get? b=some o):(b,o)∈Jh a h:=List.mem_filterMap.mpr ⟨b,hb,by rw[e];rfl⟩
theorem YJ{a:AE}{h:Heap}{p:AH×Obj}(hp:p∈Jh a h):p.1∈a/\h.get? p.1=some p.2:=by
 obtain⟨b,hb,e⟩:=List.mem_filterMap.mp hp;cases q:h.get? b with
 | none=>rw[q]at e;cases e
 | some o=>
  rw[q]at e;have c:(b,o)=p:=Option.some.inj e;subst c;exact⟨hb,q⟩
theorem Inv.pinned{a:At}{σ:St}{H:Hp}{s:AJ}{c:AE}(I:Inv X a σ H s)(h:∀b∈c,vR X a H b)(i:∀b∈c,∃o,s.heap.get? b=some o/\∀v,o.data≠.cell v):Inv X (a++Jh c s.heap) σ H s:=
 I.GQ λp hp=>(List.mem_append.mp hp).elim (λz=>I.pin p (List.mem_append_right _ z)) λz=>by
  obtain⟨hb,e⟩:=YJ z;obtain⟨g,k,j,_⟩:=h p.1 hb;obtain⟨o,f,d⟩:=i p.1 hb;rw[e]at f;cases f;exact⟨e,g,k,j,d⟩
theorem Inv.Jx{a pl:At}{σ:St}{H:Hp}{s:AJ}(I:Inv X (a++pl) σ H s):Inv X a σ H s:=I.GQ λp hp=>I.pin p (List.mem_append_right _ (List.mem_append_left _ hp))
theorem nT{iter:AM}{z:List Stmt}{Q:TI}{g:TG}{S:TS}{P:Pos}(hp:PassesOwn ς X.A X.env X.xe)(hc:X.calm=true)(hi:PI X tg iter Q)(hg:PG X tg g)(hb:PSs X z S)
  (hs:∀x,foldedSetIterable iter X.env x=pure x:=by intro _;rfl):PS X (.For tg iter z [] P) (yD Q g S):=by
 intro c s Z H D I h;refine wpAny_For (jL (hi c s Z H _ I h) λv s1 h1=>jL h1 λitv s2 h2=>?_) hs;obtain⟨it,E,tn,J,H2,e,I2,T,O,R,W,⟨m0,w0⟩,turn⟩:=h2;subst e;have j:∀{t:Hp},(∀b∈E,t b=none)->∀b∈E,vR X c t b:=λhn b hb=>⟨hn b hb,(R b hb).2⟩;refine codeAny_forLoop_any (λn U=>∃i p t,Inv X c p t U/\tn i U.heap/\(∀b∈E,t b=none)/\W i n p t) ?_ m0 ⟨0,Z,H2,I2,O,λb hb=>(R b hb).1,w0⟩;rintro n s3 ⟨i,q,F,V,C,B,w3⟩;rcases turn i n q F w3 with ⟨stop,qn⟩ | ⟨go,N,hN,step⟩
 ·refine wpAny_passesOwn hp (jL (T.done X rfl rfl rfl hc i c s3 q F X.xe V (j B) C stop) λr s4 qb=>?_);obtain⟨hr,I4⟩:=qb;subst hr;exact wpAny_execs_nil ⟨q,F,I4,qn⟩
 ·refine wpAny_passesOwn hp (jL (T.item X rfl rfl rfl hc i c s3 q F X.xe V (j B) C go) λr s4 qb=>?_);obtain⟨u,hr,h4⟩:=qb;subst hr;refine wpAny_passesOwn hp (jL h4 λ_ Y qb=>?_);obtain⟨x,H5,I5,r5,y5,st5,fr5⟩:=qb;have K:=I5.pinned (j fr5) (T.obj _ _ st5);refine wpAny_passesOwn hp (jL (hg _ Y q H5 x u _ K r5 (step x H5 y5)) λ_ s6 qb=>?_);obtain⟨L,H6,I6,q6⟩:=qb;refine wpAny_passesOwn hp (jL (hb _ s6 L H6 _ I6 q6) λf M y=>?_);have again:∀{a:St}{l:Hp},Inv X (c++Jh E Y.heap) a l M->N a l->∃m,m<n/\∃i p t,Inv X c p t M/\tn i M.heap/\(∀b∈E,t b=none)/\W i m p t:=λ{a l} k n7=>by
   obtain⟨m',hm,w7⟩:=hN a l n7;refine⟨m',hm,i+1,a,l,k.Jx,T.keep _ _ _ st5 λb hb o e=>(k.pin (b,o) (List.mem_append_right _ (List.mem_append_right _ (wQ hb e)))).1,λb hb=>?_,w7⟩;obtain⟨o,e,d⟩:=T.obj _ _ st5 b hb;exact(k.pin (b,o) (List.mem_append_right _ (List.mem_append_right _ (wQ hb e)))).2.1
  cases f with
  | next=>obtain⟨a,l,k,n7⟩:=y;exact again k n7
  | cont=>obtain⟨a,l,k,n7⟩:=y;exact again k n7
  | brk=>obtain⟨a,l,k,y⟩:=y;exact⟨a,l,k.Jx,y⟩
  | ret v=>obtain⟨x7,a,l,k,r7,y⟩:=y;exact⟨x7,a,l,k.Jx,r7,y⟩
end
theorem Zs0{K:aC}{a:AH}{xs:List V}{g:TG}{j:TS}{D:Ends}{σ:St}{H:Hp}(Pv:Nat->ν)(k:Pv 0 σ H)(hl:∀i σ H,i<=xs.length->Pv i σ H->cB K H a xs)
  (hs:∀i x σ H,xs[i]? =some x->Pv i σ H->g x σ H λc f=>j { D with nx:=Pv (i+1),ct:=Pv (i+1),bk:=D.nx } c f) (hd:∀ σ H,Pv xs.length σ H->D.nx σ H):
  ∃W:Nat->Nat->ν,(∃m,W 0 m σ H)/\∀i m σ H,W i m σ H->
   ((Itl K a).stop i H/\D.nx σ H)\/((Itl K a).go i H/\∃N:ν,(∀ b H',N b H'->∃h,h<m/\W (i+1) h b H')/\∀x H',(Itl K a).yld i H x H'->g x σ H' λc f=>j { D with nx:=N,ct:=N,bk:=D.nx } c f):=by
 refine⟨λi m σ H=>m=xs.length - i/\i<=xs.length/\Pv i σ H,⟨xs.length,ζ,Nat.zero_le _,k⟩,?_⟩;rintro i m σ H ⟨rfl,l,p⟩;have q:=hl i σ H l p
 by_cases d:i<xs.length
 ·refine .inr ⟨⟨xs,xs[i],q,by simp[d]⟩,Pv (i+1),λb H' n=>⟨xs.length - (i+1),δ,rfl,d,n⟩,λx H' y=>?_⟩;obtain⟨e,y⟩:=y;subst e;exact hs i x σ _ (y xs q) p
 ·have e:i=xs.length:=δ
  subst e;exact .inl ⟨⟨xs,q,Nat.le_refl _⟩,hd σ H p⟩
theorem Znz{lo:Int}{n:Nat}{g:TG}{h:TS}{D:Ends}{σ:St}{H:Hp}(Pv:Nat->ν)(j:Pv 0 σ H)
  (hs:∀i σ H,i<n->Pv i σ H->g (.int (lo+i)) σ H λc d=>h { D with nx:=Pv (i+1),ct:=Pv (i+1),bk:=D.nx } c d) (hd:∀ σ H,Pv n σ H->D.nx σ H):
  ∃W:Nat->Nat->ν,(∃m,W 0 m σ H)/\∀i m σ H,W i m σ H->
   ((Itr lo n).stop i H/\D.nx σ H)\/((Itr lo n).go i H/\∃N:ν,(∀ a H',N a H'->∃f,f<m/\W (i+1) f a H')/\∀x H',(Itr lo n).yld i H x H'->g x σ H' λc d=>h { D with nx:=N,ct:=N,bk:=D.nx } c d):=by
 refine⟨λi m σ H=>m=n - i/\i<=n/\Pv i σ H,⟨n,ζ,Nat.zero_le _,j⟩,?_⟩;rintro i m σ H ⟨rfl,l,p⟩
 by_cases b:i<n
 ·refine .inr ⟨b,Pv (i+1),λa H' k=>⟨n - (i+1),δ,rfl,b,k⟩,λx H' y=>?_⟩;obtain⟨e,y⟩:=y;subst e y;exact hs i σ _ b p
 ·have e:i=n:=δ
  subst e;exact .inl ⟨Nat.le_refl _,hd σ H p⟩
abbrev R2:=V->V->Hp->VK->Prop
def Ag(X:Cx)(f:AI->AI->Sem AI)(r:R2):Prop:=
 ∀(a:At) (s:AJ) (σ:St) (H:Hp) (x y:V) (v u:AI) (Q:VK),Inv X a σ H s->RelV x v->RelV y u->r x y H Q->
  wpAny ς X.A (f v u) (EP X a σ Q) X.xe s
def UnR(X:Cx)(f:AI->Sem AI)(r:V->Hp->VK->Prop):Prop:=
 ∀(a:At) (s:AJ) (σ:St) (H:Hp) (x:V) (v:AI) (Q:VK),Inv X a σ H s->RelV x v->r x H Q->
  wpAny ς X.A (f v) (EP X a σ Q) X.xe s
def Lp(X:Cx)(f:AI)(r:List V->Hp->VK->Prop):Prop:=
 ∀(a:At) (s:AJ) (σ:St) (H:Hp) (xs:List V) (us:AC) (Q:VK),Inv X a σ H s->Vals xs us->r xs H Q->
  wpAny ς X.A (call f us) (EP X a σ Q) X.xe s
def ZKt(X:Cx)(r:V->Hp->(Bool->Hp->Prop)->Prop):Prop:=
 ∀(a:At) (s:AJ) (σ:St) (H:Hp) (x:V) (v:AI) (Q:Bool->Hp->Prop),Inv X a σ H s->RelV x v->r x H Q->
  wpAny ς X.A (truthy v) (TP X a σ Q) X.xe s
def bx(r:R2)(b c:TE):TE:=λσ H Q=>b σ H λx d=>c σ d λy a=>r x y a Q
def tUn(r:V->Hp->VK->Prop)(a:TE):TE:=λσ H Q=>a σ H λx b=>r x b Q
def rI(C:Int->Int->Prop)(g:Int->Int->V):R2:=λx y H Q=>∃i j,x=.int i/\y=.int j/\C i j/\Q (g i j) H
def pU(g:Int->Int->V):R2:=λx y H Q=>∃i j,x=.int i/\y=.int j/\Q (g i j) H
def rU(g:Int->V):V->Hp->VK->Prop:=λx H Q=>∃i,x=.int i/\Q (g i) H
section
variable {X:Cx}{a b c:AM}{ta tb tc:TE}{pos:Pos}
theorem Zzh(m:PE X a ta)(hb:PE X b tb){c:At}{s:AJ}{σ:St}{H:Hp}{R:V->V->Hp->Prop}(I:Inv X c σ H s)
  (h:ta σ H λx j=>tb σ j λy d=>R x y d) {Q:Ap}{f:AI->AI->Sem AI}
  (k:∀v u i x y d,Inv X c σ d i->RelV x v->RelV y u->R x y d->wpAny ς X.A (f v u) Q X.xe i):
  wpAny ς X.A (eval a X.env) (λv g=>wpAny ς X.A (eval b X.env) (λu e=>wpAny ς X.A (f v u) Q X.xe e) X.xe g) X.xe s:=by
 refine jL (m c s σ H _ I h) λv l qb=>?_;obtain⟨x,j,I1,r1,q1⟩:=qb;refine jL (hb c l σ j _ I1 q1) λu i qb=>?_;obtain⟨y,d,I2,r2,q2⟩:=qb;exact k v u i x y d I2 r1 r2 q2
theorem bz{d:Operator}{r:R2}(k:Ag X (binaryOp d) r)(m:PE X a ta)(hb:PE X b tb):PE X (.BinOp a d b pos) (bx r ta tb):=by
 intro c s i H Q I h;exact wpAny_BinOp (Zzh m hb I h λv u l x y g e j f q=>k c l i g x y v u Q e j f q)
theorem Zwe{d:UnaryOp}{r:V->Hp->VK->Prop}(g:UnR X (unaryOp d) r)(f:PE X a ta):PE X (.UnaryOp d a pos) (tUn r ta):=by
 intro b s c H Q I h;exact UnaryOp_ (jL (f b s c H _ I h) (by rintro v e ⟨x,H1,I1,r1,q1⟩;exact g b e c H1 x v Q I1 r1 q1))
theorem opI{f:AI->AI->Sem AI}{C:Int->Int->Prop}{g:Int->Int->Int}
  (rule:∀(i j:Int) (t u:Tok) (s:AJ) (Q:Ap) (E:Ap),C i j->Q (.int (g i j) s.toks) { s with toks:=s.toks+1 }->wpAny ς X.A (f (.int i t) (.int j u)) Q E s):
  Ag X f (rI C λi j=>.int (g i j)):=by
 intro a s e H x y v u Q I c b h;obtain⟨i,j,rfl,rfl,hc,q⟩:=h;obtain⟨t,rfl⟩:=c;obtain⟨d,rfl⟩:=b;exact rule i j t d s _ _ hc ⟨.int (g i j),H,I.tok _,⟨_,rfl⟩,q⟩
theorem Zu8{f:AI->AI->Sem AI}{g:Int->Int->Int}
  (rule:∀(i j:Int) (t u:Tok) (s:AJ) (Q:Ap) (E:Ap),Q (.int (g i j) s.toks) { s with toks:=s.toks+1 }->wpAny ς X.A (f (.int i t) (.int j u)) Q E s):
  Ag X f (pU λi j=>.int (g i j)):=by
 intro a s e H x y v u Q I c b h;obtain⟨i,j,rfl,rfl,q⟩:=h;obtain⟨t,rfl⟩:=c;obtain⟨d,rfl⟩:=b;exact rule i j t d s _ _ ⟨.int (g i j),H,I.tok _,⟨_,rfl⟩,q⟩
theorem Zu9{f:AI->AI->Sem AI}{g:Int->Int->Bool}
  (rule:∀(i j:Int) (t u:Tok) (s:AJ) (Q:Ap) (E:Ap),Q (.bool (g i j)) s->wpAny ς X.A (f (.int i t) (.int j u)) Q E s):
  Ag X f (pU λi j=>.bl (g i j)):=by
 intro a s e H x y v u Q I c b h;obtain⟨i,j,rfl,rfl,q⟩:=h;obtain⟨t,rfl⟩:=c;obtain⟨d,rfl⟩:=b;exact rule i j t d s _ _ ⟨.bl (g i j),H,I,rfl,q⟩
def Pb(i j:Int):Prop:=0<j/\j<1073741824
def Ze1(i j:Int):Prop:=0<=j/\j<=1000000/\i.natAbs<2 ^ 64
def VH(i j:Int):Prop:=(-(2 ^ 64)<i/\i<2 ^ 64)\/(-(2 ^ 64)<j/\j<2 ^ 64)
theorem VH.ok{i j:Int}(h:VH i j):IntMulOk i j:=by
 rcases h with ⟨h1,h2⟩ | ⟨h1,h2⟩
 ·exact .of_left (intBits_le_64 h1 h2)
 ·exact .of_right (intBits_le_64 h1 h2)
theorem Zh1(k:Nat):(0:Int)<=2 ^ k:=by
 rw[two_pow_cast];exact Int.natCast_nonneg _
theorem lX:Ag X (binaryOp .Add) ad:=Zu8 λ_ _ _ _ _ _ _ q=>add_int q
theorem wN:Ag X (binaryOp .Sub) (pU λi j=>.int (i - j)):=Zu8 λ_ _ _ _ _ _ _ q=>sub_int q
theorem Ng:Ag X (binaryOp .Mult) (rI VH λi j=>.int (i * j)):=opI λ_ _ _ _ _ _ _ hc q=>mul_int q hc.ok
theorem rF:Ag X (binaryOp .FloorDiv) (rI Pb λi j=>.int (i / j)):=opI λi j _ _ _ _ _ hc q=>by
 have h1:(0:Int)<j:=hc.1;have h2:j<1073741824:=hc.2;exact floordiv_int δ (by rw[Int.fdiv_eq_ediv_of_nonneg i δ];exact q) (.inl (PyProof.noPylong_small δ))
theorem gP:Ag X (binaryOp .Mod) ρ:=opI λi j _ _ _ _ _ hc q=>by
 have h1:(0:Int)<j:=hc;exact mod_int' δ (by rw[Int.fmod_eq_emod_of_nonneg i δ];exact q)
theorem Zb0:Ag X (binaryOp .Pow) (rI Ze1 λi j=>.int (i ^ j.toNat)):=opI λ_ _ _ _ _ _ _ hc q=>pow_int_small hc.1 hc.2.1 hc.2.2 q
theorem Zq4:Ag X (binaryOp .LShift) (rI Ze1 λi j=>.int (i * 2 ^ j.toNat)):=opI λ_ _ _ _ _ _ _ hc q=>lshift_int_small hc.1 hc.2.1 hc.2.2 q
theorem Zik:Ag X (binaryOp .RShift) (rI (λ_ j=>0<=j) λi j=>.int (i / 2 ^ j.toNat)):=opI λi j _ _ _ _ _ hc q=>
 rshift_int hc (by rw[Int.fdiv_eq_ediv_of_nonneg i (Zh1 _)];exact q)
theorem TJ:Ag X (binaryOp .BitAnd) (pU λi j=>.int (Builtin.bitAnd i j)):=Zu8 λ_ _ _ _ _ _ _ q=>and_int q
theorem ZA9:Ag X (binaryOp .BitOr) (pU λi j=>.int (Builtin.bitOr i j)):=Zu8 λ_ _ _ _ _ _ _ q=>or_int q
theorem unI{f:AI->Sem AI}{g:Int->Int}
  (rule:∀(i:Int) (t:Tok) (s:AJ) (Q:Ap) (E:Ap),Q (.int (g i) s.toks) { s with toks:=s.toks+1 }->wpAny ς X.A (f (.int i t)) Q E s):
  UnR X f (rU λi=>.int (g i)):=by
 intro a s c H x v Q I b h;obtain⟨i,rfl,q⟩:=h;obtain⟨t,rfl⟩:=b;exact rule i t s _ _ ⟨.int (g i),H,I.tok _,⟨_,rfl⟩,q⟩
theorem Zom:UnR X (unaryOp .USub) (rU λi=>.int (-i)):=unI λ_ _ _ _ _ q=>neg_int q
end
def ZA2:V->V->Bool
 | .non,.non=>true | .non,.int _=>true | .int _,.non=>true | .non,.bl _=>true | .bl _,.non=>true | .non,.str _=>true | .str _,.non=>true
 | .int _,.int _=>true | .bl _,.bl _=>true | .str _,.str _=>true | .byt _,.byt _=>true
 | .int _,.str _=>true | .str _,.int _=>true | .bl _,.str _=>true | .str _,.bl _=>true
 | _,_=>false
def xV:R2:=λx y H Q=>ZA2 x y=true/\Q (.bl (decide (x=y))) H
def Rk:R2:=λx y H Q=>ZA2 x y=true/\Q (.bl (!decide (x=y))) H
theorem Zlq{i j:Int}:decide (V.int i=V.int j)=(i == j):=by
 rw[Bool.eq_iff_iff];simp
theorem Zsg{i j:Bool}:decide (V.bl i=V.bl j)=(i == j):=by
 rw[Bool.eq_iff_iff];simp
theorem Zlp{i j:Str}:decide (V.str i=V.str j)=(i == j):=by
 rw[Bool.eq_iff_iff];simp
theorem Zlr{i j:Array UInt8}:decide (V.byt i=V.byt j)=(i.toList == j.toList):=by
 rw[Bool.eq_iff_iff];cases i;cases j;simp
section
variable {X:Cx}{a b c:AM}{ta tb tc:TE}{pos:Pos}
theorem eX{a:At}{σ:St}{H:Hp}{s:AJ}{Q:VK}{k b:Bool}(I:Inv X a σ H s)(q:Q (.bl k) H)(e:k=b):EP X a σ Q (.bool b) s:=by
 subst e;exact⟨.bl k,H,I,rfl,q⟩
theorem jD:Ag X (compareOp .Eq) xV:=by
 intro d s e H x y v u Q I c a h;obtain⟨hs,q⟩:=h;cases x with
 | non=>
  cases c;cases y with
  | non=>cases a;exact PySem.EqNone.eq_none_none (eX I q ζ)
  | bl j=>cases a;exact PySem.EqNone.eq_none_bool (eX I q ζ)
  | int j=>obtain⟨b,rfl⟩:=a;exact PySem.EqNone.eq_none_int (eX I q ζ)
  | str j=>obtain⟨b,rfl⟩:=a;exact PySem.EqNone.eq_none_str (eX I q ζ)
  | _=>exact absurd (show false=true from hs) Bool.false_ne_true
 | bl i=>
  cases c;cases y with
  | non=>cases a;exact PySem.EqNone.eq_bool_none (eX I q ζ)
  | bl j=>cases a;exact eq_bool (eX I q Zsg)
  | str j=>obtain⟨b,rfl⟩:=a;exact PySem.EqMixed.eq_bool_str (eX I q ζ)
  | _=>exact absurd (show false=true from hs) Bool.false_ne_true
 | int i=>
  obtain⟨t,rfl⟩:=c;cases y with
  | non=>cases a;exact PySem.EqNone.eq_int_none (eX I q ζ)
  | int j=>obtain⟨b,rfl⟩:=a;exact eq_int (eX I q Zlq)
  | str j=>obtain⟨b,rfl⟩:=a;exact PySem.EqMixed.eq_int_str (eX I q ζ)
  | _=>exact absurd (show false=true from hs) Bool.false_ne_true
 | str i=>
  obtain⟨t,rfl⟩:=c;cases y with
  | non=>cases a;exact PySem.EqNone.eq_str_none (eX I q ζ)
  | bl j=>cases a;exact PySem.EqMixed.eq_str_bool (eX I q ζ)
  | int j=>obtain⟨b,rfl⟩:=a;exact PySem.EqMixed.eq_str_int (eX I q ζ)
  | str j=>obtain⟨b,rfl⟩:=a;exact eq_str (eX I q Zlp)
  | _=>exact absurd (show false=true from hs) Bool.false_ne_true
 | byt i=>
  obtain⟨t,rfl⟩:=c;cases y with
  | byt j=>obtain⟨b,rfl⟩:=a;exact W.eq_bytes (eX I q Zlr)
  | _=>exact absurd (show false=true from hs) Bool.false_ne_true
 | _=>cases y<;>exact absurd (show false=true from hs) Bool.false_ne_true
theorem uD:Ag X (compareOp .NotEq) Rk:=by
 intro d s e H x y v u Q I c a h;obtain⟨hs,q⟩:=h;cases x with
 | non=>
  cases c;cases y with
  | non=>cases a;exact PySem.EqNone.ne_none_none (eX I q ζ)
  | bl j=>cases a;exact PySem.EqNone.ne_none_bool (eX I q ζ)
  | int j=>obtain⟨b,rfl⟩:=a;exact PySem.EqNone.ne_none_int (eX I q ζ)
  | str j=>obtain⟨b,rfl⟩:=a;exact PySem.EqNone.ne_none_str (eX I q ζ)
  | _=>exact absurd (show false=true from hs) Bool.false_ne_true
 | bl i=>
  cases c;cases y with
  | non=>cases a;exact PySem.EqNone.ne_bool_none (eX I q ζ)
  | bl j=>cases a;exact ne_bool (eX I q (congrArg not Zsg))
  | str j=>obtain⟨b,rfl⟩:=a;exact PySem.EqMixed.ne_bool_str (eX I q ζ)
  | _=>exact absurd (show false=true from hs) Bool.false_ne_true
 | int i=>
  obtain⟨t,rfl⟩:=c;cases y with
  | non=>cases a;exact PySem.EqNone.ne_int_none (eX I q ζ)
  | int j=>obtain⟨b,rfl⟩:=a;exact ne_int (eX I q (congrArg not Zlq))
  | str j=>obtain⟨b,rfl⟩:=a;exact PySem.EqMixed.ne_int_str (eX I q ζ)
  | _=>exact absurd (show false=true from hs) Bool.false_ne_true
 | str i=>
  obtain⟨t,rfl⟩:=c;cases y with
  | non=>cases a;exact PySem.EqNone.ne_str_none (eX I q ζ)
  | bl j=>cases a;exact PySem.EqMixed.ne_str_bool (eX I q ζ)
  | int j=>obtain⟨b,rfl⟩:=a;exact PySem.EqMixed.ne_str_int (eX I q ζ)
  | str j=>obtain⟨b,rfl⟩:=a;exact ne_str (eX I q (congrArg not Zlp))
  | _=>exact absurd (show false=true from hs) Bool.false_ne_true
 | byt i=>
  obtain⟨t,rfl⟩:=c;cases y with
  | byt j=>obtain⟨b,rfl⟩:=a;exact W.ne_bytes (eX I q (congrArg not Zlr))
  | _=>exact absurd (show false=true from hs) Bool.false_ne_true
 | _=>cases y<;>exact absurd (show false=true from hs) Bool.false_ne_true
theorem HR:Ag X (compareOp .Lt) (pU λi j=>.bl (decide (i<j))):=Zu9 λ_ _ _ _ _ _ _ q=>lt_int q
theorem ZAa:Ag X (compareOp .LtE) (pU λi j=>.bl (decide (i<=j))):=Zu9 λ_ _ _ _ _ _ _ q=>le_int q
theorem Zlc:Ag X (compareOp .Gt) (pU λi j=>.bl (decide (j<i))):=Zu9 λ_ _ _ _ _ _ _ q=>gt_int q
theorem ZAb:Ag X (compareOp .GtE) (pU λi j=>.bl (decide (j<=i))):=Zu9 λ_ _ _ _ _ _ _ q=>ge_int q
theorem Zxg:Ag X (compareOp .Is) (λx y H Q=>y=.non/\Q (.bl (decide (x=.non))) H):=by
 intro a s d H x y v u Q I b c h;obtain⟨rfl,q⟩:=h;cases c;refine is_none_gen (eX I q ?_);cases x<;>first
  | (cases b;rfl)
  | (obtain⟨t,rfl⟩:=b;rfl)
theorem Zu7:Ag X (compareOp .IsNot) (λx y H Q=>y=.non/\Q (.bl (!decide (x=.non))) H):=by
 intro a s d H x y v u Q I b c h;obtain⟨rfl,q⟩:=h;cases c;refine isnot_none_gen (eX I q ?_);cases x<;>first
  | (cases b;rfl)
  | (obtain⟨t,rfl⟩:=b;rfl)
def isObj:HO->Bool
 | .lst _=>true
 | .ins _ _ _=>true
 | _=>false
theorem Np{c:At}{s:AJ}{σ:St}{H:Hp}{a:AH}{o:HO}(I:Inv X c σ H s)(h:H a=some o)(p:isObj o=true):∃ob,s.heap.get? a=some ob/\ob.cls≠.type "tuple":=by
 cases o with
 | lst d=>
  obtain⟨_,b,n,_,e⟩:d.length<=sizeLine/\∃(b:AC) (n:Nat),Vals d b/\s.heap.get? a=some { cls:=.type "list",data:=.seq b.toArray n }:=I.hok a _ h;exact⟨_,e,(by show Value.type "list"≠.type "tuple";decide +kernel)⟩
 | ins C f fs=>
  have x:=I.hok a _ h;obtain⟨_,_,_,e,_⟩:=x;exact⟨_,e,(by show Value.ref C≠.type "tuple";exact λz=>by cases z)⟩
 | _=>exact absurd (show false=true from p) Bool.false_ne_true
theorem zG(b:AM){a:CmpOp}(h:a≠.In:=by decide)(h2:a≠.NotIn:=by decide):behindInMarks a b=false:=by
 have d:(a == CmpOp.In)=false:=by cases a<;>first | rfl | exact absurd rfl h
 have c:(a == CmpOp.NotIn)=false:=by cases a<;>first | rfl | exact absurd rfl h2
 cases b<;>simp[behindInMarks,d,c]
theorem ug{d:CmpOp}{r:R2}(k:Ag X (compareOp d) r)(m:PE X a ta)(hb:PE X b tb)(hm:behindInMarks d b=false):PE X (.Compare a [d] [b] pos) (bx r ta tb):=by
 intro c s i H Q I h;exact wpAny_Compare1 (Zzh m hb I h λv u l x y g e j f q=>k c l i g x y v u Q e j f q) hm
def bI(t:TE):TT:=λσ H Q=>t σ H λx H'=>∃k,x=.bl k/\Q k H'
theorem Ztm{g:CmpOp}{r:R2}(i:Ag X (compareOp g) r)(m:PE X a ta)(hb:PE X b tb)(hm:behindInMarks g b=false):PT X (.Compare a [g] [b] pos) (bI (bx r ta tb)):=by
 intro d s f H Q I h;refine wpAny_isTrue_Compare1 (jL (m d s f H _ I h) λv j ⟨x,H1,I1,r1,q1⟩=>jL (hb d j f H1 _ I1 q1) λu l ⟨y,H2,I2,r2,q2⟩=>
  jL (i d l f H2 x y v u _ I2 r1 r2 q2) λc n ⟨z,H3,I3,r3,k,e,q3⟩=>?_) hm
 subst e;cases r3;exact wpAny_truthy_bool ⟨H3,I3,q3⟩
def Zh8(r c:R2)(ta tb tc:TE):TE:=λσ H Q=>ta σ H λx d=>tb σ d λy b=>r x y b λz a=>∃k,z=.bl k/\
 (if k=true then tc σ a λe f=>c y e f Q else Q (.bl false) a)
theorem Zq0{j g:CmpOp}{r m:R2}(p:Ag X (compareOp j) r)(l:Ag X (compareOp g) m)(B:PE X a ta)(hb:PE X b tb)(hc:PE X c tc)
  (hm:lastMarks [j,g] [b,c]=false:=by with_unfolding_all rfl):PE X (.Compare a [j,g] [b,c] pos) (Zh8 r m ta tb tc):=by
 intro f s i H Q I h;refine Compare_chain (jL (B f s i H _ I h) λv q ⟨x,H1,I1,r1,q1⟩=>chain_link (jL (hb f q i H1 _ I1 q1) λu A ⟨y,H2,I2,r2,q2⟩=>
  jL (p f A i H2 x y v u _ I2 r1 r2 q2) λd t ⟨z,H3,I3,r3,k,e,q3⟩=>?_)) hm
 subst e;cases r3;refine wpAny_truthy_bool ?_;cases k with
 | false=>exact ite_ff ⟨.bl false,H3,I3,rfl,q3⟩
 | true=>exact ite_tt (chain_last (jL (hc f t i H3 _ I3 q3) (by rintro o w ⟨n,H4,I4,r4,q4⟩;exact l f w i H4 y n u o Q I4 r2 r4 q4)))
def Zsn(K:aC)(x:V)(H:Hp)(k:Bool):Prop:=
 match x with
 | .non=>k=false
 | .bl b=>k=b
 | .int i=>k=(i != 0)
 | .str y=>y.length<=sizeLine/\k=((y.length:Int) != 0)
 | .byt y=>y.size<=sizeLine/\k=((y.size:Int) != 0)
 | .ref p=>(∃xs,cB K H p xs/\k=!xs.isEmpty)\/(∃xs,fY K H p xs/\k=!xs.isEmpty)\/∃a,H p=some (.dK a)/\k=!a.isEmpty
 | _=>False
theorem Zjk{b:Type}{a:List (b×V)}{vs:List (b×AI)}(r:KV a vs):(!vs.isEmpty)=!a.isEmpty:=by
 cases r<;>rfl
theorem U6{xs:List V}{a:AC}(r:Vals xs a):(!a.toArray.isEmpty)=!xs.isEmpty:=by
 cases r<;>simp
theorem Jl:(sizeLine:Nat)<2 ^ 63:=by rw[sizeLine_eq];decide
theorem Zwu:ZKt X (λx H Q=>∃k,Zsn X.K x H k/\Q k H):=by
 intro o s z H x v Q I g h;obtain⟨k,e,q⟩:=h;have hl:=Jl;have hs:sizeLine=16777216:=sizeLine_eq;cases x with
 | non=>
  cases g;have a:k=false:=e;subst a;exact truthy_none ⟨H,I,q⟩
 | bl b=>
  cases g;have a:k=b:=e;subst a;exact wpAny_truthy_bool ⟨H,I,q⟩
 | int i=>
  obtain⟨t,rfl⟩:=g;have a:k=(i != 0):=e;subst a;exact PySem.P.truthy_int ⟨H,I,q⟩
 | str y=>
  obtain⟨t,rfl⟩:=g;obtain⟨hy,a⟩:y.length<=sizeLine/\k=((y.length:Int) != 0):=e;subst a;exact PySem.P.truthy_str δ ⟨H,I.tok _,q⟩
 | byt y=>
  obtain⟨t,rfl⟩:=g;obtain⟨hy,a⟩:y.size<=sizeLine/\k=((y.size:Int) != 0):=e;subst a;exact W.truthy_bytes δ ⟨H,I.tok _,q⟩
 | ref p=>
  cases g;have a:(∃f,cB X.K H p f/\k=!f.isEmpty)\/(∃f,fY X.K H p f/\k=!f.isEmpty)\/∃c,H p=some (.dK c)/\k=!c.isEmpty:=e;rcases a with ⟨f,hx,a⟩ | ⟨f,hx,a⟩ | ⟨c,hx,a⟩
  ·subst a;obtain⟨n,r,l,hz⟩:=I.list hx;have d:=r.length;exact wpAny_truthy_list l.isList (by simp only[List.size_toArray];omega) ⟨H,I.tok _,by rw[U6 r];exact q⟩
  ·subst a;obtain⟨n,r,l,hz⟩:=I.tuple hx;have d:=r.length;exact truthy_tuple l (by simp only[List.size_toArray];omega) ⟨H,I.tok _,by rw[U6 r];exact q⟩
  ·subst a;obtain⟨hz,u,j,r,m⟩:c.length<=sizeLine/\(p == sysModules)=false/\∃j,KV c j/\s.heap.DictOf (eG X.prog X.w) p j:=I.hok p _ hx;have d:c.length=j.length:=Paired.length r;exact wpAny_truthy_dict u m δ ⟨H,I.tok _,by rw[Zjk r];exact q⟩
 | _=>exact(show False from e).elim
theorem Zej(e:PE X a ta)(f:∀b,isTrue a X.env b=(do let v <- b;standAt a.pos;holding [v] (truthy v))):
  PT X a (λσ H Q=>ta σ H λx H'=>∃k,Zsn X.K x H' k/\Q k H'):=by
 intro c s σ H Q I h;exact isTrue_plain (jL (e c s σ H _ I h) (by rintro v d ⟨x,H1,I1,r1,q1⟩;exact Zwu c d σ H1 x v Q I1 r1 q1)) (f _)
theorem TQ:Ag X (binaryOp .Add) (λx y H Q=>∃i j,x=.str i/\y=.str j/\i.length+j.length<=sizeLine/\Q (.str (i++j)) H):=by
 intro a s e H x y v u Q I c b h;obtain⟨i,j,rfl,rfl,hz,q⟩:=h;obtain⟨t,rfl⟩:=c;obtain⟨d,rfl⟩:=b;exact add_str (λd tk=>⟨.str (i++j),H,I.tok _,⟨_,rfl⟩,q⟩) hz
theorem vals1{x:V}{us:AC}(r:Vals [x] us):∃u,us=[u]/\RelV x u:=by
 cases r with
 | cons b a=>cases a;exact⟨_,rfl,b⟩
theorem vals2{x y:V}{us:AC}(r:Vals [x,y] us):∃u a,us=[u,a]/\RelV x u/\RelV y a:=by
 cases r with
 | cons e c=>
  cases c with
  | cons b d=>cases d;exact⟨_,_,rfl,e,b⟩
end
structure Zkt(h:Heap)(x dx C:AH)(mA:As):Prop where
 obj:h.get? x=some (W.instObj C dx)
 ns:h.Ns1 dx mA
 ne:dx≠x
theorem Zn8{h:Heap}{dx:AH}{c:As}(n:h.Ns1 dx c):∃od,h.get? dx=some od/\∀name,W.lookIn name od=some (c name):=by
 obtain⟨o,d,i,f,hd,hk,_,hm⟩:=n;refine⟨o,f,λname=>?_⟩;have e:=hm name;unfold nsFind findBy at e;rw[<- Array.find?_toList]at e;unfold W.lookIn;rw[hd];dsimp only;split
 ·rename_i y q
  rw[q]at e;exact congrArg some e
 ·rename_i q
  rw[q]at e;have a:d.toList.any (·.refKey)=false:=by
   rw[List.any_eq_false];intro y hy;obtain⟨z,t,b⟩:=hk y (Array.mem_toList_iff.mp hy);simp[DictEntry.refKey,b]
  have g:¬ d.toList.any (·.refKey)=true:=by rw[a];exact Bool.false_ne_true
  rw[if_neg g];exact congrArg some e
theorem Zkt.look{h:Heap}{x dx C:AH}{a:As}(I:Zkt h x dx C a):∃od,W.InstAt h x (W.instObj C dx) C (some od)/\∀name,W.lookIn name od=some (a name):=
 let ⟨od,ho,hl⟩:=Zn8 I.ns
 ⟨od,⟨I.obj,rfl,rfl,ho⟩,hl⟩
section
variable {prog:AL}{w:AN}{A:Around}{E:Ap}{s:AJ}{K:aC}{x dx C f:AH}{mA:As}{name:Str}{v:AI}
theorem get_map{a:Bool}{Q:Ap}(X:K.In s.heap)(I:Zkt s.heap x dx C mA)(d:W.plainGet K C name=true)(hh:W.hasDictIn K C=true)
  (c:W.findIn K (.ref C) name=some none) (hv:mA name=some v) (b:W.handedIn v=true) (h:Q v { s with toks:=s.toks+1 }):
  wpAny ae A (getAttr (.ref x) name a) Q E s:=by
 obtain⟨od,J,hl⟩:=I.look;exact W.get_value X J (W.plainGet_of d).1 (W.findObj_own hh c rfl (by rw[hl,hv])) b h
theorem Zrw{pl:Sem Bool}{Q:AI×AC->AJ->Prop}(X:K.In s.heap)(I:Zkt s.heap x dx C mA)(a:W.plainGet K C name=true)
  (b:W.findIn K (.ref C) name=some (↑f)) (c:W.isFn K (.ref f)=true) (hv:mA name=none) (h:Q (.ref f,[.ref x]) s):
  wpAny ae A (getMethod (.ref x) name pl) Q E s:=by
 obtain⟨od,J,hl⟩:=I.look;exact W.method_fn X J (W.plainGet_of a).1 (W.plainGet_of a).2 b (beq_iff_eq.mp c) (by show(W.lookIn name od).map (·.isSome)=some false;rw[hl,hv];rfl) h
theorem Zt3{ns:AG}{Q:Unit->AJ->Prop}(X:K.In s.heap)(I:Zkt s.heap x dx C mA)
  (hs:W.findIn K (.ref C) "__setattr__"=some (some (.builtin "object.__setattr__"))) (hp:W.plainOver K C=true) (k:W.takerIn K C name=some none) (hh:W.hasDictIn K C=true)
  (m:PySem.Within mA ns) (hsz:ns.length<=sizeLine)
  (h:∀h',Zkt h' x dx C (λy=>if y=name then some v else mA y)->Heap.SameBut dx s.heap h'->Q () { s with heap:=h',toks:=s.toks+2 }):
  wpAny ae A (setAttr (.ref x) name v) Q E s:=by
 obtain⟨od,J,hl⟩:=I.look;refine W.set_plain X J hs (W.osa_open (s:={ s with toks:=s.toks+1 }) (r:=none) X J hp k λb=>?_);obtain⟨n,hc,f⟩:=W.any_some hh;have hx:s.heap.get? x=some ⟨.ref C,some dx,.plain,#[]⟩:=I.obj;refine wpAny_bind (wpAny_pure (wpAny_bind (wpAny_bind (wpAny_loadPart hx (wpAny_bind (W.Looks.here (s:={ s with toks:=s.toks+1 }) (W.looks_clsIn X hc) ?_))))));rw[f];refine wpAny_pure (a:=some dx) (wpAny_bind (wpAny_pure (wpAny_bind ?_)));refine wpAny_nsSet1 (s:={ s with toks:=s.toks+1 }) I.ns λh' c d=>?_;obtain⟨o,l,j,i,e,g⟩:=c.count (PySem.Within.cons name v m);refine wpAny_bind (wpAny_lookBehind i (by rw[e];exact pastItsLine_dict (Nat.le_trans g (by rw[List.length_cons];omega))) ?_);exact wpAny_pure (h _ ⟨(d.2 _ (Ne.symm I.ne)).trans I.obj,c,I.ne⟩ d)
theorem Zqo{R:Result->AJ->Prop}{vs:AC}{a:List (Str×AI)}(X:K.In s.heap)(hm:W.makesIn K C=true)
  (b:W.findIn K (.ref C) "__init__"=some (↑f)) (c:W.typeIn K (.ref f)=some (.type "function"))
  (h:codeAny ae (A.under (.builtin "type.__call__" ⟨.ref C::vs,a⟩)) (.call (.ref f) ⟨.ref (s.heap.objs.size+1)::vs,a⟩) (W.InitBack (s.heap.objs.size+1) R)
   { s with heap:=(s.heap.push W.emptyDict).push (W.instObj C s.heap.objs.size) }):
  codeAny ae A (.call (.ref C) ⟨vs,a⟩) R s:=by
 obtain⟨hh,g,d,t,os⟩:=s;exact W.make_core (W.makes_of X hm) (W.looks_findIn X b) (λself=>W.bind_fn X self c) (.inl rfl) h
theorem Zmz{R:Result->AJ->Prop}(X:K.In s.heap)(hm:W.makesIn K C=true)
  (a:W.findIn K (.ref C) "__init__"=some (some (.builtin "object.__init__")))
  (hb:∀self,W.Looks ae s.heap (bindSpecial (.builtin "object.__init__") self) (.builtin "object.__init__",[self]))
  (h:codeAny ae (A.under (.builtin "type.__call__" ⟨[.ref C],[]⟩)) (.call (.builtin "object.__init__") ⟨[.ref (s.heap.objs.size+1)],[]⟩) (W.InitBack (s.heap.objs.size+1) R)
   { s with heap:=(s.heap.push W.emptyDict).push (W.instObj C s.heap.objs.size) }):
  codeAny ae A (.call (.ref C) ⟨[],[]⟩) R s:=by
 obtain⟨hh,g,d,t,os⟩:=s;exact W.make_core (W.makes_of X hm) (W.looks_findIn X a) hb (.inr ⟨rfl,rfl⟩) h
end
def cJ(f:Str)(v:V):List (Str×V)->List (Str×V)
 | []=>[(f,v)]
 | (g,x)::r=>if g=f then(g,v)::r else(g,x)::cJ f v r
theorem Qe(f g:Str)(v:V):∀fs:List (Str×V),(cJ f v fs).lookup g=if g=f then some v else fs.lookup g
 | []=>by
  show List.lookup g [(f,v)]=_
  by_cases h:g=f
  ·have hb:(g == f)=true:=beq_iff_eq.mpr h;simp only[List.lookup,hb,if_pos h]
  ·have hb:(g == f)=false:=beq_eq_false_iff_ne.mpr h;simp only[List.lookup,hb,if_neg h]
 | (k,x)::r=>by
  have ih:=Qe f g v r;rw[show cJ f v ((k,x)::r)=(if k=f then(k,v)::r else(k,x)::cJ f v r)from rfl]
  by_cases hk:k=f
  ·rw[if_pos hk]
   by_cases h:g=k
   ·have hb:(g == k)=true:=beq_iff_eq.mpr h;simp only[List.lookup,hb,if_pos (h.trans hk)]
   ·have hb:(g == k)=false:=beq_eq_false_iff_ne.mpr h;simp only[List.lookup,hb,if_neg (λe:g=f=>h (e.trans hk.symm))]
  ·rw[if_neg hk]
   by_cases h:g=k
   ·have hb:(g == k)=true:=beq_iff_eq.mpr h;simp only[List.lookup,hb,if_neg (λe:g=f=>hk (h.symm.trans e))]
   ·have hb:(g == k)=false:=beq_eq_false_iff_ne.mpr h;simp only[List.lookup,hb];exact ih
theorem NQ(f:Str)(v:V):∀fs:List (Str×V),f∈(cJ f v fs).map (·.1)/\∀g,g∈fs.map (·.1)->g∈(cJ f v fs).map (·.1)
 | []=>⟨by simp[cJ],λg h=>by simp at h⟩
 | (k,x)::r=>by
  obtain⟨a,b⟩:=NQ f v r;rw[show cJ f v ((k,x)::r)=(if k=f then(k,v)::r else(k,x)::cJ f v r)from rfl]
  by_cases hk:k=f
  ·rw[if_pos hk];subst hk;exact⟨ζ,λg h=>by simpa using h⟩
  ·rw[if_neg hk];refine⟨?_,λg h=>?_⟩
   ·rw[List.map_cons];exact List.mem_cons_of_mem _ a
   ·rw[List.map_cons]at h ⊢;rcases List.mem_cons.mp h with e | e
    ·exact List.mem_cons.mpr (.inl e)
    ·exact List.mem_cons_of_mem _ (b g e)
theorem Qg(f:Str)(v:V):∀fs:List (Str×V),(cJ f v fs).length<=fs.length+1
 | []=>by simp[cJ]
 | (k,x)::r=>by
  have ih:=Qg f v r;rw[show cJ f v ((k,x)::r)=(if k=f then(k,v)::r else(k,x)::cJ f v r)from rfl]
  by_cases hk:k=f
  ·rw[if_pos hk,List.length_cons,List.length_cons];omega
  ·rw[if_neg hk,List.length_cons,List.length_cons];omega
theorem Dw.some_of{v:V}{o:AB}(r:Dw (some v) o):∃u,o=some u/\RelV v u:=by
 cases o with
 | none=>exact(show False from r).elim
 | some u=>exact⟨u,rfl,r⟩
theorem Dw.none_of{o:AB}(r:Dw none o):o=none:=by
 cases o with
 | none=>rfl
 | some u=>exact(show False from r).elim
theorem Znv{v:V}{u:AI}(r:RelV v u):W.handedIn u=true:=by
 cases v with
 | non=>cases (show u=Value.none from r);rfl
 | bl b=>cases (show u=Value.bool b from r);rfl
 | int i=>obtain⟨t,e⟩:=(show ∃t,u=Value.int i t from r);cases e;rfl
 | str x=>obtain⟨t,e⟩:=(show ∃t,u=Value.str x t from r);cases e;rfl
 | byt b=>obtain⟨t,e⟩:=(show ∃t,u=Value.bytes b t from r);cases e;rfl
 | flt b=>obtain⟨t,e⟩:=(show ∃t,u=Value.float b t from r);cases e;rfl
 | ref a=>cases (show u=Value.ref a from r);rfl
 | ty n=>cases (show u=Value.type n from r);rfl
section
variable {P:AL}{w:AN}{H H':Hp}{h h':Heap}{a C dx:AH}{fs fs':List (Str×V)}
theorem Rz(hok:Gy P w H h)(e:H a=some (.ins C dx fs)):∃b,Zkt h a dx C b/\(∀f,Dw (fs.lookup f) (b f))/\PySem.Within b (fs.map (·.1))/\fs.length<=1000/\H dx=some (.own a):=by
 obtain⟨d,z,ne,ob,b,n,r,q⟩:=(show lO P w H h a (.ins C dx fs)from hok a _ e);exact⟨b,⟨ob,n,ne⟩,r,q,z,d⟩
end
structure Ij(K:aC)(C:AH):Prop where
 pg:W.plainGet K C Str.empty=true
 hd:W.hasDictIn K C=true
 po:W.plainOver K C=true
 sa:W.findIn K (.ref C) "__setattr__"=some (some (.builtin "object.__setattr__"))
theorem Ij.get{K:aC}{C:AH}(c:Ij K C)(f:Str):W.plainGet K C f=true:=c.pg
def bN(K:aC)(C:AH)(f:Str):Prop:=W.findIn K (.ref C) f=some none
theorem bN.taker{K:aC}{C:AH}{f:Str}(n:bN K C f):W.takerIn K C f=some none:=by
 unfold W.takerIn;rw[show W.findIn K (.ref C) f=some none from n];rfl
structure Con(K:aC)(C:AH)(f:Str)(v:V)(u:AI):Prop where
 at_:W.findIn K (.ref C) f=some (some u)
 rel:RelV v u
 get:W.specialIn K u "__get__"=some none
 cp:W.copiedNames.contains f=false
structure Meth(K:aC)(C:AH)(m:Str)(f:AH):Prop where
 at_:W.findIn K (.ref C) m=some (↑f)
 fn:W.isFn K (.ref f)=true
 kp:W.keepIn K (.ref f)=true
section
variable {X:Cx}{pins:At}{σ:St}{H:Hp}{s:AJ}{a C dx:AH}{fs:List (Str×V)}{f:Str}{v:V}{A:Around}{E:Ap}
theorem Zjv{b:Bool}{Q:Ap}(I:Inv X pins σ H s)(e:H a=some (.ins C dx fs))(c:Ij X.K C)(n:bN X.K C f)(l:fs.lookup f=some v)
  (h:∀u s',Inv X pins σ H s'->RelV v u->Q u s'):wpAny ς A (getAttr (.ref a) f b) Q E s:=by
 obtain⟨g,O,r,_,_,_⟩:=Rz I.hok e;obtain⟨u,hu,d⟩:=Dw.some_of (v:=v) (o:=g f) (by rw[<- l];exact r f);exact get_map I.Gg O (c.get f) c.hd n hu (Znv d) (h u _ (I.tok _) d)
theorem Vc{m:Str}{g:AH}{pl:Sem Bool}{Q:AI×AC->AJ->Prop}(I:Inv X pins σ H s)(e:H a=some (.ins C dx fs))(c:Ij X.K C)(k:Meth X.K C m g)(l:fs.lookup m=none)
  (h:Q (.ref g,[.ref a]) s):wpAny ς A (getMethod (.ref a) m pl) Q E s:=by
 obtain⟨b,O,r,_,_,_⟩:=Rz I.hok e;have hn:b m=none:=Dw.none_of (by rw[<- l];exact r m);exact Zrw I.Gg O (c.get m) k.at_ k.fn hn h
theorem Zhn{y:V}{u:AI}{Q:Unit->AJ->Prop}(I:Inv X pins σ H s)(e:H a=some (.ins C dx fs))(c:Ij X.K C)(n:bN X.K C f)(hl:fs.length<1000)(l:RelV y u)
  (h:∀s',Inv X pins σ (upd H a (.ins C dx (cJ f y fs))) s'->Q () s'):wpAny ς A (setAttr (.ref a) f u) Q E s:=by
 obtain⟨i,O,r,j,_,k⟩:=Rz I.hok e;have hz:(fs.map (·.1)).length<=sizeLine:=by rw[bB,sizeLine_eq];omega
 refine Zt3 I.Gg O c.sa c.po n.taker c.hd j hz λp d sb=>h _ ?_;have hd:∃o,p.get? dx=some o:=let ⟨o,_,_,e',_⟩:=d.ns;⟨o,e'⟩
 refine I.write (x:=a) (e:=dx) (by rw[e];exact True.intro) (.inr k) (λb q hb z=>(sb.2 b hb).trans z) hd ?_;refine⟨by rw[aD O.ne];exact k,?_,O.ne,d.obj,_,d.ns,λg=>?_,λg m=>?_⟩
 ·have:=Qg f y fs;omega
 ·show Dw ((cJ f y fs).lookup g) (if g=f then some u else i g);rw[Qe]
  by_cases q:g=f
  ·rw[if_pos q,if_pos q];exact l
  ·rw[if_neg q,if_neg q];exact r g
 ·by_cases q:g=f
  ·rw[q];exact(NQ f y fs).1
  ·refine(NQ f y fs).2 g (j g λz=>m ?_);show(if g=f then some u else i g)=none;rw[if_neg q];exact z
theorem Inv.made(I:Inv X pins σ H s):Inv X pins σ (upd (upd H s.heap.objs.size (.own (s.heap.objs.size+1))) (s.heap.objs.size+1) (.ins C s.heap.objs.size []))
  { s with heap:=(s.heap.push W.emptyDict).push (W.instObj C s.heap.objs.size) }:=by
 have c:(s.heap.push W.emptyDict).get? s.heap.objs.size=some W.emptyDict:=Heap.get?_push_size s.heap rfl;have g:((s.heap.push W.emptyDict).push (W.instObj C s.heap.objs.size)).get? (s.heap.objs.size+1)=some (W.instObj C s.heap.objs.size):=by
  have:=Heap.get?_push_size (s.heap.push W.emptyDict) (o:=W.instObj C s.heap.objs.size) rfl
  rwa [Heap.size_push]at this
 have e3:(s.heap.push W.emptyDict).Ns s.heap.objs.size (λ_=>none):=⟨W.emptyDict,#[],_,c,rfl,(λe f=>absurd f ζ),λ_=>rfl⟩;have d:=I.laid (a:=s.heap.objs.size) (o:=.own (s.heap.objs.size+1)) (h':=s.heap.push W.emptyDict) (t':=s.toks) (λb u q=>Heap.get?_push_of_some _ q) Γ ⟨_,c⟩;refine d.laid (a:=s.heap.objs.size+1) (o:=.ins C s.heap.objs.size []) (t':=s.toks) (λb u q=>Heap.get?_push_of_some _ q) (Nat.le_of_eq (Heap.size_push _ _)) ?_;have ne:s.heap.objs.size≠s.heap.objs.size+1:=Nat.ne_of_lt (Nat.lt_succ_self _);refine⟨by rw[aD ne,aq],Nat.zero_le _,ne,g,λ_=>none,(Heap.Ns1.of_empty e3).at λo q=>Heap.get?_push_of_some _ q,λ_=>True.intro,λy hy=>absurd rfl hy⟩
theorem Zw0{prog:AL}{w:AN}{env:Env}{e:AM}{f:Str}{b:Pos}{s:AJ}{Q:Ap}(hb:attributeBase e f env (eval e env)=eval e env)
  (h:wpAny ae A (eval e env) (λo a=>wpAny ae A (getAttr o f true) Q E a) E s):wpAny ae A (eval (.Attribute e f b) env) Q E s:=
 Attribute_any_ h (by rw[arm_eval_Attribute,hb])
end
def aX(K:aC)(c:TE)(f:Str):TE:=λσ H Q=>c σ H λx b=>∃a C dx fs v,x=.ref a/\b a=some (.ins C dx fs)/\Ij K C/\bN K C f/\fs.lookup f=some v/\Q v b
def iM(K:aC)(c d:TE)(f:Str):TS:=λD σ H=>d σ H λy e=>c σ e λx b=>∃a C dx fs,x=.ref a/\b a=some (.ins C dx fs)/\Ij K C/\bN K C f/\fs.length<1000/\
 D.nx σ (upd b a (.ins C dx (cJ f y fs)))
section
variable {X:Cx}{o e value:AM}{f:Str}{pos pos' tpos:Pos}{ta tv:TE}
theorem aG(i:PE X e ta)(hb:attributeBase e f X.env (eval e X.env)=eval e X.env):PE X (.Attribute e f pos) (aX X.K ta f):=by
 intro b s g H Q I h;refine Zw0 hb (jL (i b s g H _ I h) λu o qb=>?_);obtain⟨x,H1,I1,rx,a,C,dx,fs,v,ex,ea,c,n,l,q⟩:=qb;subst ex;obtain rfl:u=Value.ref a:=rx;exact Zjv I1 ea c n l λm k j d=>⟨v,H1,j,d,q⟩
theorem cL(i:PE X o ta)(hv:PE X value tv)(hs:swapsWith value (some (.Attribute o f pos')) pos.line X.env=pure false):PS X (.Assign [.Attribute o f pos'] value pos) (iM X.K ta tv f):=by
 intro b s d H D I h;refine plainObj_wpAny_Assign_Attribute (jL (hv b s d H _ I h) λu g ⟨y,H1,I1,ry,q⟩=>jL (i b g d H1 _ I1 q) λe m qb=>?_) hs;obtain⟨x,H2,I2,rx,a,C,dx,fs,ex,ea,c,n,l,q2⟩:=qb;subst ex;obtain rfl:e=Value.ref a:=rx;exact Zhn I2 ea c n l ry λk j=>⟨d,_,j,q2⟩
end
section
variable {X:Cx}{pins:At}{σ:St}{H:Hp}{s:AJ}{A:Around}{E:Ap}{Q:Ap}{c:AI}{b:Bool}
inductive Ox(K:aC)(H:Hp):V->AI->Prop where
 | non:Ox K H .non (.type "NoneType")
 | bl (x:Bool):Ox K H (.bl x) (.type "bool")
 | int (i:Int):Ox K H (.int i) (.type "int")
 | str (x:Str):Ox K H (.str x) (.type "str")
 | flt (x:UInt64):Ox K H (.flt x) (.type "float")
 | lst {a:AH}{xs:List V} (e:H a=some (.lst xs)):Ox K H (.ref a) (.type "list")
 | Aq {a:AH}{o:Obj}{xs:List V} (e:H a=some (.Aq o (.lst xs))):Ox K H (.ref a) (.type "list")
 | tup {a:AH}{xs:List V} (e:H a=some (.tup xs)):Ox K H (.ref a) (.type "tuple")
 | dK {a:AH}{kvs:List (Key×V)} (e:H a=some (.dK kvs)):Ox K H (.ref a) (.type "dict")
 | dT {a:AH}{kvs:List (List Key×V)} (e:H a=some (.dT kvs)):Ox K H (.ref a) (.type "dict")
 | ins {a C dx:AH}{fs:List (Str×V)} (e:H a=some (.ins C dx fs)) (cl:Ij K C) (ha:W.findIn K (.ref C) "__class__"=some (some (.builtin "object.__class__")))
   (hn:W.specialIn K (.builtin "object.__class__") "__get__"=some (some (.builtin "getset_descriptor.__get__"))) (htk:W.takesIn K (.builtin "object.__class__")=some true)
   (hm:W.mroIn K C (.type "object")=some true):Ox K H (.ref a) (.ref C)
theorem Znb{x:V}{u t:AI}(I:Inv X pins σ H s)(d:RelV x u)(ty:Ox X.K H x t)(e:W.kitOne X.K t c=some b)(h:∀tk,Q (.bool b) { s with toks:=tk }):
  wpAny ς A (call (.builtin "isinstance") [u,c]) Q E s:=by
 cases ty with
 | non=>cases (show u=Value.none from d);exact W.kia_one W.kitx_none I.Gg True.intro e ag h
 | bl y=>cases (show u=Value.bool y from d);exact W.kia_one W.kitx_bool I.Gg True.intro e ag h
 | int i=>obtain⟨t,q⟩:=(show ∃t,u=Value.int i t from d);cases q;exact W.kia_one W.kitx_int I.Gg True.intro e ag h
 | str y=>obtain⟨t,q⟩:=(show ∃t,u=Value.str y t from d);cases q;exact W.kia_one W.kitx_str I.Gg True.intro e ag h
 | flt y=>obtain⟨t,q⟩:=(show ∃t,u=Value.float y t from d);cases q;exact W.kia_one W.kitx_float I.Gg True.intro e ag h
 | @lst a j f=>
  cases (show u=Value.ref a from d);obtain⟨_,_,n,_,h1⟩:=(show lO X.prog X.w H s.heap a (.lst j)from I.hok a _ f);exact W.kia_one W.kitx_list I.Gg ⟨_,h1,rfl⟩ e ag h
 | @Aq a ob j f=>
  cases (show u=Value.ref a from d);obtain⟨_,_,_,n,_,h1⟩:=(show lO X.prog X.w H s.heap a (.Aq ob (.lst j))from I.hok a _ f);exact W.kia_one W.kitx_list I.Gg ⟨_,h1,rfl⟩ e ag h
 | @tup a j f=>
  cases (show u=Value.ref a from d);obtain⟨_,_,_,p⟩:=(show lO X.prog X.w H s.heap a (.tup j)from I.hok a _ f);obtain⟨o,h1,h2,_⟩:=p;exact W.kia_one W.kitx_tuple I.Gg ⟨o,h1,h2⟩ e ag h
 | @dK a g f=>
  cases (show u=Value.ref a from d);obtain⟨_,_,v,_,p⟩:=(show lO X.prog X.w H s.heap a (.dK g)from I.hok a _ f);obtain⟨o,l,m,h1,h2,_⟩:=p;exact W.kia_one W.kitx_dict I.Gg ⟨o,h1,h2.1⟩ e ag h
 | @dT a g f=>
  cases (show u=Value.ref a from d);obtain⟨_,_,j,_,o,l,m,h1,h2,_⟩:=(show lO X.prog X.w H s.heap a (.dT g)from I.hok a _ f);exact W.kia_one W.kitx_dict I.Gg ⟨o,h1,h2.1⟩ e ag h
 | @ins a C D fs f cl r hn k hm=>
  cases (show u=Value.ref a from d);obtain⟨B,O,_⟩:=Rz I.hok f;obtain⟨od,J,_⟩:=O.look;exact W.kia_one (W.kitx_own (cl.get _) cl.hd r hn k hm) I.Gg J e ag h
end
structure Room(k:Nat)(A:Around):Prop where
 hd:A.handled=none
 dp:A.depth+3 * k+5<recursionLimit
 un:A.units+16 * k+200<cLine
theorem Room.mono{j k:Nat}{A:Around}(r:Room k A)(h:j<=k):Room j A:=⟨r.hd,by have:=r.dp;omega,by have:=r.un;omega⟩
theorem Room.deeper{k:Nat}{A:Around}(r:Room (k+1) A)(env:Env):Room k (A.deeper env):=
 ⟨r.hd,by have:=r.dp;show A.depth+1+3 * k+5<_;omega,by have:=r.un;show A.units+3+16 * k+200<_;omega⟩
theorem Zj8{A:Around}{C:AH}{us:AC}{a:List (Str×AI)}:(A.under (.builtin "type.__call__" ⟨.ref C::us,a⟩)).depth=A.depth+1:=by
 first | rfl | simp[Around.under,Code.weight,Code.isCreation,Code.isGuard,Code.isCaller,Code.frames,Code.isFrame,guardIds]
theorem Zj7{A:Around}{C:AH}{us:AC}{a:List (Str×AI)}:(A.under (.builtin "type.__call__" ⟨.ref C::us,a⟩)).units=A.units+1:=by
 first | rfl | simp[Around.under,Code.cUnits,Code.frames,Code.isFrame]
theorem Room.make{k:Nat}{A:Around}(r:Room (k+1) A)(C:AH)(us:AC)(a:List (Str×AI)):Room k (A.under (.builtin "type.__call__" ⟨.ref C::us,a⟩)):=
 ⟨r.hd,by have:=r.dp;rw[Zj8];omega,by have:=r.un;rw[Zj7];omega⟩
theorem Room.depth{k:Nat}{A:Around}(r:Room k A):A.depth<recursionLimit:=by have:=r.dp;omega
theorem Room.units{k:Nat}{A:Around}(r:Room k A):A.units+64<cLine:=by have:=r.un;omega
def aB:TA:=λ_ H Q=>Q [] H
def aj(b:TE)(c:TA):TA:=λσ H Q=>b σ H λx d=>c σ d λxs a=>Q (x::xs) a
section
variable {X:Cx}{e:AM}{es:AF}{te:TE}{t:TA}{pos:Pos}
theorem au:PA X [] aB:=λ_ _ _ _ H Q I h=>Calls.spliced_nil ⟨[],H,I,.nil,h⟩
theorem aa(c:PE X e te)(hr:PA X es t)(hs:starEach (e::es) X.env=(false,eval e X.env)::starEach es X.env:=by rfl):PA X (e::es) (aj te t):=by
 intro pos a s b H Q I h;rw[hs];show wpAny _ _ (spliced ((false,eval e X.env)::backTo pos (starEach es X.env))) _ _ s;refine Calls.spliced_cons (jL (c a s b H _ I h) λu d qb=>?_);obtain⟨x,H1,I1,r1,q1⟩:=qb;exact jL (hr pos a d b H1 _ I1 q1) (by rintro us g ⟨f,H2,I2,r2,q2⟩;exact⟨x::f,H2,I2,.cons r1 r2,q2⟩)
def gj(t:TA):TE:=λσ H Q=>t σ H λxs a=>xs.length<=sizeLine/\∀p,a p=none->Q (.ref p) (upd a p (.tup xs))
def fO(t:TA):TE:=λσ H Q=>t σ H λxs a=>xs.length<=sizeLine/\∀p,a p=none->Q (.ref p) (upd a p (.lst xs))
theorem cM{x1}(h:PA X es t):PE X (.Tuple es x1 pos) (gj t):=by
 intro a s f H Q I hq;refine wpAny_Tuple_spliced (jL (h pos a s f H _ I hq) λus c ⟨g,H1,I1,r,z,q⟩=>⟨by rw[<- r.length];exact z,?_⟩);have d:H1 c.heap.objs.size=none:=I1.hok.fresh Γ;refine⟨.ref c.heap.objs.size,upd H1 c.heap.objs.size (.tup g),I1.laid (t':=c.toks) (λb u e=>Heap.get?_push_of_some _ e) Γ ?_,rfl,q _ d⟩;exact⟨z,us,r,⟨_,Heap.get?_push_size _ rfl,rfl,_,rfl⟩⟩
theorem cG(h:PA X es t):PE X (.List es pos) (fO t):=by
 intro a s f H Q I hq;refine wpAny_List_spliced (jL (h pos a s f H _ I hq) λus c ⟨g,H1,I1,r,z,q⟩=>⟨by rw[<- r.length];exact z,?_⟩);have d:H1 c.heap.objs.size=none:=I1.hok.fresh Γ;refine⟨.ref c.heap.objs.size,upd H1 c.heap.objs.size (.lst g),I1.laid (t':=c.toks) (λb u e=>Heap.get?_push_of_some _ e) Γ ?_,rfl,q _ d⟩;exact⟨z,us,0,r,Heap.get?_push_size _ rfl⟩
end
abbrev Sp:=List V->Hp->VK->XK->Prop
abbrev CXT:=List Env->Hp->AJ->XK->AI->AJ->Prop
structure Zkx(P:AL)(w:AN)(K:aC)(mg:As)(base:Heap)(A:Around)(outer:List Env)(s:AJ)(H:Hp):Prop where
 frames:A.frames=some outer
 mod:Mod K mg base
 bs:∀b o,base.get? b=some o->s.heap.get? b=some o/\H b=none
 bsz:base.objs.size<=s.heap.objs.size
 CT:s.heap.FunFrames base outer
 frf:∀b∈frs outer,H b=none
 hok:Gy P w H s.heap
 bare:AllBare s.gens
def CE(outer:List Env)(P:AL)(w:AN)(H:Hp)(s:AJ)(Q:VK)(u:AI)(s':AJ):Prop:=
 ∃v H',s'.os=s.os/\AllBare s'.gens/\Un (frs outer) [] H H' s.heap s'.heap/\Gy P w H' s'.heap/\RelV v u/\Q v H'
def CR(CX:CXT)(outer:List Env)(P:AL)(w:AN)(H:Hp)(s:AJ)(Q:VK)(E:XK)(r:Result)(s':AJ):Prop:=
 match r with
 | .ok (.ret u)=>CE outer P w H s Q u s'
 | .ok _=>False
 | .error e=>CX outer H s E e s'
structure xJ(P:AL)(w:AN)(K:aC)(mg:As)(base:Heap)(CX:CXT)(k:Nat)(f:AH)(fd:AK)(ps:AG)(sp:Sp):Prop where
 len:∀vs H Q E,sp vs H Q E->vs.length=ps.length
 run:∀(A:Around) (outer:List Env) (s:AJ) (H:Hp) (args:Args) (us:AC) (vs:List V) (Q:VK) (E:XK),Room k A->Zkx P w K mg base A outer s H->BindsTo s fd args (ps.zip us)->Vals vs us->sp vs H Q E->
  codeAny (model P w) A (.call (.ref f) args) (CR CX outer P w H s Q E) s
theorem Zkx.make{P:AL}{w:AN}{K:aC}{mg:As}{base:Heap}{A:Around}{outer:List Env}{s:AJ}{H:Hp}(e:Zkx P w K mg base A outer s H)(C:AH)(us:AC)(a:List (Str×AI)):
  Zkx P w K mg base (A.under (.builtin "type.__call__" ⟨.ref C::us,a⟩)) outer s H:=⟨by first | exact e.frames | (simpa[Around.under,Code.envs,Code.isFrame,pushEnvs]using e.frames),e.mod,e.bs,e.bsz,e.CT,e.frf,e.hok,e.bare⟩
section
variable {X:Cx}{pins:At}{σ:St}{H:Hp}{s s':AJ}
theorem Inv.env0(I:Inv X pins σ H s):Zkx X.prog X.w X.K X.mg X.base X.A X.stack s H:=
 ⟨I.ok.frames,I.ok.mod,I.bs,Nat.le_trans I.ok.bsz I.sz,I.stack,I.ZQ,I.hok,I.bare⟩
theorem Inv.after{Q:VK}{u:AI}(I:Inv X pins σ H s)(h:CE X.stack X.prog X.w H s Q u s'):EP X pins σ Q u s':=by
 obtain⟨v,c,os,bare,un,hok,r,q⟩:=h;obtain⟨hh,g,d,t,a⟩:=s';obtain rfl:a=s.os:=os;exact⟨v,c,I.call (h':=hh) (g':=g) (d':=d) (t':=t) (ch:=[]) un hok bare (λb z=>absurd z ζ),r,q⟩
end
def aQ(sp:Sp)(xM:List V)(E:XK)(t:TA):TE:=λσ H Q=>t σ H λvs a=>sp (vs++xM) a Q E
def mR(C:AH)(m:Str)(sp:Sp)(xM:List V)(E:XK)(d:TE)(t:TA):TE:=λσ H Q=>d σ H λx b=>∃a dx fs,x=.ref a/\b a=some (.ins C dx fs)/\fs.lookup m=none/\
 t σ b λvs c=>sp (x::(vs++xM)) c Q E
def Dm(C:AH)(sp:Sp)(xM:List V)(E:XK)(t:TA):TE:=λσ H Q=>t σ H λvs a=>∀x dx,a x=none->a dx=none->dx≠x->
 sp (.ref x::(vs++xM)) (upd (upd a dx (.own x)) x (.ins C dx [])) (λv b=>v=.non/\Q (.ref x) b) E
def Binds(K:aC)(fd:AK)(ps:AG)(ds:AC):Prop:=
 ∀(s:AJ) (us:AC),K.In s.heap->(us++ds).length=ps.length->BindsTo s fd ⟨us,[]⟩ (ps.zip (us++ds))
theorem Binds.all{K:aC}{fd:AK}{ps:AG}(h:∀us:AC,us.length=ps.length->bindArgs fd ⟨us,[]⟩=pure (ps.zip us)):Binds K fd ps []:=λs us _ hl=>by
 rw[List.append_nil]at hl ⊢;exact .of_eq (h us hl)
def Passes(CX:CXT)(X:Cx)(E:XK):Prop:=∀(a:At) (σ:St) (H:Hp) (s:AJ) (e:AI) (s':AJ),Inv X a σ H s->CX X.stack H s E e s'->X.xe e s'
section
variable {X:Cx}{CX:CXT}{k:Nat}{f C:AH}{fd:AK}{ps:AG}{sp:Sp}{xM:List V}{ds:AC}{E:XK}{x m:Str}{p pos apos:Pos}{e o:AM}{es:AF}{ta:TE}{t:TA}
theorem Zam{a:At}{σ:St}{H:Hp}{s:AJ}{Q:VK}{us:AC}{vs:List V}(F:xJ X.prog X.w X.K X.mg X.base CX k f fd ps sp)(hr:Room k X.A)(hb:Binds X.K fd ps ds)(hd:Vals xM ds)(hx:Passes CX X E)
  (I:Inv X a σ H s) (r:Vals vs us) (h:sp (vs++xM) H Q E):wpAny ς X.A (call (.ref f) us) (EP X a σ Q) X.xe s:=by
 have b:Vals (vs++xM) (us++ds):=r.append hd;have hl:(us++ds).length=ps.length:=by rw[<- b.length];exact F.len _ _ _ _ h
 refine wpAny_call (codeAny_mono (F.run X.A X.stack s H ⟨us,[]⟩ (us++ds) (vs++xM) Q E hr I.env0 (hb s us I.Gg hl) b h) λr c hq=>?_);cases r with
 | error e=>exact hx a σ H s e c I hq
 | ok fl=>
  cases fl with
  | ret u=>exact I.after hq
  | next=>exact False.elim hq
  | brk=>exact False.elim hq
  | cont=>exact False.elim hq
theorem xX(F:xJ X.prog X.w X.K X.mg X.base CX k f fd ps sp)(hr:Room k X.A)(d:Gl X x)(hm:X.mg x=↑f)(hk:W.keepIn X.K (.ref f)=true)(hb:Binds X.K fd ps ds)(hd:Vals xM ds)(hx:Passes CX X E)
  (j:PA X (e::es) t) (c:(x == ("__debug__":Str))=false:=by decide) (i:starEach (e::es) X.env=(false,eval e X.env)::starEach es X.env:=by rfl) (b:(backTo pos (starEach es X.env)).any (·.1)=false:=by rfl):
  PE X (.Call (.Name x p) (e::es) [] pos) (aQ sp xM E t):=by
 intro a s g H Q I h;refine wpAny_Call_Name_kw (vM I d hm ?_ c);refine W.callWith_K (h₀:=X.base) I.ok.mod.kin hk (jL (j pos a s g H _ I h) λus m ⟨l,H1,I1,r,q⟩=>⟨I1.Gg,?_⟩) i b;exact Zam F hr hb hd hx I1 r q
theorem uf{pl:Sem Bool}(j:PE X o ta)(c:Ij X.K C)(hm:Meth X.K C m f)(F:xJ X.prog X.w X.K X.mg X.base CX k f fd ps sp)(hr:Room k X.A)(hb:Binds X.K fd ps ds)(hd:Vals xM ds)(hx:Passes CX X E)(p:PA X (e::es) t)
  (d:starEach (e::es) X.env=(false,eval e X.env)::starEach es X.env:=by rfl) (g:(backTo pos (starEach es X.env)).any (·.1)=false:=by rfl)
  (v:eval (.Call (.Attribute o m apos) (e::es) [] pos) X.env=(do
   let ov <- eval o X.env
   standAt apos.atName
   let (f,first) <- holding [ov] (getMethod ov m pl)
   callWith pos f first (backTo pos (starEach (e::es) X.env)) (backToKw pos (keywordEach [] X.env))):=by rfl):
  PE X (.Call (.Attribute o m apos) (e::es) [] pos) (mR C m sp xM E ta t):=by
 intro b s i H Q I h;refine W.methodCall_KW (pl:=pl) (jL (j b s i H _ I h) λu n qb=>?_) v;obtain⟨x,H1,I1,rx,a,dx,fs,ex,ea,l,q⟩:=qb;subst ex;obtain rfl:u=Value.ref a:=rx;refine Vc I1 ea c hm l ?_;refine W.callWith_K (first:=[.ref a]) (h₀:=X.base) I.ok.mod.kin hm.kp (jL (p pos b n i H1 _ I1 q) λus y ⟨vs,H2,I2,r,q2⟩=>⟨I2.Gg,?_⟩) d g;exact Zam (us:=.ref a::us) (vs:=.ref a::vs) F hr hb hd hx I2 (.cons rfl r) q2
theorem oN{pl:Sem Bool}(e:PE X o ta)(c:Ij X.K C)(hm:Meth X.K C m f)(F:xJ X.prog X.w X.K X.mg X.base CX k f fd ps sp)(hr:Room k X.A)(hb:Binds X.K fd ps ds)(hd:Vals xM ds)(hx:Passes CX X E)
  (g:eval (.Call (.Attribute o m apos) [] [] pos) X.env=(do
   let ov <- eval o X.env
   standAt apos.atName
   let (f,first) <- holding [ov] (getMethod ov m pl)
   callWith pos f first (backTo pos (starEach [] X.env)) (backToKw pos (keywordEach [] X.env))):=by rfl):
  PE X (.Call (.Attribute o m apos) [] [] pos) (mR C m sp xM E ta aB):=by
 intro b s d H Q I h;refine W.methodCall_KW (pl:=pl) (jL (e b s d H _ I h) λu i qb=>?_) g;obtain⟨x,H1,I1,rx,a,dx,fs,ex,ea,l,q⟩:=qb;subst ex;obtain rfl:u=Value.ref a:=rx;refine Vc I1 ea c hm l ?_;exact W.callWith_K0 (first:=[.ref a]) I1.Gg hm.kp (Zam (us:=[.ref a]) (vs:=[.ref a]) F hr hb hd hx I1 (.cons rfl .nil) q)
structure Mk(K:aC)(C f:AH):Prop where
 makes:W.makesIn K C=true
 init:W.findIn K (.ref C) "__init__"=some (↑f)
 fn:W.isFn K (.ref f)=true
 kp:W.keepIn K (.ref C)=true
theorem Zef{b:At}{σ:St}{H:Hp}{s:AJ}{Q:VK}{us:AC}{vs:List V}(M:Mk X.K C f)(F:xJ X.prog X.w X.K X.mg X.base CX k f fd ps sp)(hr:Room (k+1) X.A)(hb:Binds X.K fd ps ds)(hd:Vals xM ds)
  (hx:Passes CX X E) (I:Inv X b σ H s) (r:Vals vs us)
  (h:∀x dx,H x=none->H dx=none->dx≠x->sp (.ref x::(vs++xM)) (upd (upd H dx (.own x)) x (.ins C dx [])) (λv i=>v=.non/\Q (.ref x) i) E):
  wpAny ς X.A (call (.ref C) us) (EP X b σ Q) X.xe s:=by
 have hq:=h (s.heap.objs.size+1) s.heap.objs.size (I.hok.fresh (Nat.le_succ _)) (I.hok.fresh Γ) (Nat.ne_of_lt (Nat.lt_succ_self _));have c:=Inv.made (C:=C) I;have d:Vals (V.ref (s.heap.objs.size+1)::(vs++xM)) (Value.ref (s.heap.objs.size+1)::(us++ds)):=.cons rfl (r.append hd);have hl:(Value.ref (s.heap.objs.size+1)::us++ds).length=ps.length:=by
  have e:=d.length;rw[F.len _ _ _ _ hq]at e;exact e.symm
 refine wpAny_call (Zqo (f:=f) I.Gg M.makes M.init (beq_iff_eq.mp M.fn) (codeAny_mono (F.run _ X.stack _ _ ⟨Value.ref (s.heap.objs.size+1)::us,[]⟩ (Value.ref (s.heap.objs.size+1)::(us++ds)) _ _ E (hr.make C us [])
  (c.env0.make C us []) (hb _ (Value.ref (s.heap.objs.size+1)::us) c.Gg hl) d hq) λr l a=>?_))
 cases r with
 | error e=>exact hx b σ _ _ e l c a
 | ok fl=>
  cases fl with
  | ret u=>
   obtain⟨v,j,m,o,n,g⟩:=c.after a;subst n;exact⟨o,⟨V.ref (s.heap.objs.size+1),j,m,rfl,g⟩⟩
  | next=>exact False.elim a
  | brk=>exact False.elim a
  | cont=>exact False.elim a
theorem Cg(M:Mk X.K C f)(F:xJ X.prog X.w X.K X.mg X.base CX k f fd ps sp)(hr:Room (k+1) X.A)(d:Gl X x)(hm:X.mg x=↑C)(hb:Binds X.K fd ps ds)(hd:Vals xM ds)(hx:Passes CX X E)
  (j:PA X (e::es) t) (c:(x == ("__debug__":Str))=false:=by decide) (i:starEach (e::es) X.env=(false,eval e X.env)::starEach es X.env:=by rfl) (b:(backTo pos (starEach es X.env)).any (·.1)=false:=by rfl):
  PE X (.Call (.Name x p) (e::es) [] pos) (Dm C sp xM E t):=by
 intro a s g H Q I h;refine wpAny_Call_Name_kw (vM I d hm ?_ c);refine W.callWith_K (h₀:=X.base) I.ok.mod.kin M.kp (jL (j pos a s g H _ I h) λus m ⟨l,H1,I1,r,q⟩=>⟨I1.Gg,?_⟩) i b;exact Zef M F hr hb hd hx I1 r q
theorem Zpw(M:Mk X.K C f)(F:xJ X.prog X.w X.K X.mg X.base CX k f fd ps sp)(hr:Room (k+1) X.A)(c:Gl X x)(hm:X.mg x=↑C)(hb:Binds X.K fd ps ds)(hd:Vals xM ds)(hx:Passes CX X E)
  (a:(x == ("__debug__":Str))=false:=by decide):PE X (.Call (.Name x p) [] [] pos) (Dm C sp xM E aB):=by
 intro b s d H Q I h;refine wpAny_Call_Name_kw (vM I c hm ?_ a);exact W.callWith_K0 I.Gg M.kp (Zef (us:=[]) M F hr hb hd hx I .nil h)
end
section
variable {X:Cx}{CX:CXT}{k:Nat}{f C:AH}{fd:AK}{ps ks:AG}{sp:Sp}{E:XK}{x m:Str}{p pos apos kpos:Pos}{e o:AM}{es:AF}{kws:List Keyword}{te ta:TE}{t tk:TA}{nm:Option Str}
structure ZKv(K:aC)(fd:AK)(ps ks:AG)(g:AC->AC->AC)(gV:List V->List V->List V):Prop where
 to:∀(s:AJ) (us ws:AC),K.In s.heap->(g us ws).length=ps.length->BindsTo s fd ⟨us,ks.zip ws⟩ (ps.zip (g us ws))
 rel:∀{vs:List V}{us:AC}{zs:List V}{ws:AC},Vals vs us->Vals zs ws->Vals (gV vs zs) (g us ws)
variable {g:AC->AC->AC}{gV:List V->List V->List V}
end
structure aP(N P:AG)(sc:Scope):Prop where
 kind:sc.kind=.function
 co:sc.isCoroutine=false
 gen:sc.isGenerator=false
 nd:N.Nodup
 pre:N.take P.length=P
 par:∀x∈P,sc.names.lookup x=some .local\/sc.names.lookup x=some .cell
 Zxo:∀y∈sc.names,y.2≠.free
theorem Zw{kindOf:Str->Option NameKind}{x:Str}:∀{binds:List (Str×AI)}{m:As},(∀v,(x,v)∉binds)->bindL kindOf binds m x=m x
 | [],_,_=>rfl
 | (n,v)::r,m,h=>by
  unfold bindL;rw[Zw λw a=>h w (List.mem_cons_of_mem _ a)];split
  ·have:x≠n:=by rintro rfl;exact h v List.mem_cons_self
   simp[this]
  ·rfl
theorem Zy{kindOf:Str->Option NameKind}{x:Str}:∀{binds:List (Str×AI)}{m:As},(∀v,(x,v)∉binds)->bindC kindOf binds m x=m x
 | [],_,_=>rfl
 | (n,v)::r,m,h=>by
  unfold bindC;rw[Zy λw a=>h w (List.mem_cons_of_mem _ a)];split
  ·rfl
  ·have:x≠n:=by rintro rfl;exact h v List.mem_cons_self
   simp[this]
theorem Zx{kindOf:Str->Option NameKind}{x:Str}{v:AI}:∀{P:AG}{vs:AC}{i:Nat}{m:As},P.Nodup->P[i]? =some x->vs[i]? =some v->kindOf x=some .local->
  bindL kindOf (P.zip vs) m x=some v
 | [],_,_,_,_,h,_,_=>by simp at h
 | _::_,[],_,_,_,_,h,_=>by simp at h
 | p::P,w::vs,0,m,nd,h1,h2,hk=>by
  simp at h1 h2;subst h1;subst h2;show bindL kindOf ((p,w)::P.zip vs) m p=_;unfold bindL;rw[Zw λv hv=>(List.nodup_cons.mp nd).1 (List.of_mem_zip hv).1,if_pos hk];simp
 | p::P,w::vs,i+1,m,nd,h1,h2,hk=>by
  show bindL kindOf ((p,w)::P.zip vs) m x=_;unfold bindL;exact Zx (i:=i) (List.nodup_cons.mp nd).2 (by simpa using h1) (by simpa using h2) hk
theorem Zz{kindOf:Str->Option NameKind}{x:Str}{v:AI}:∀{P:AG}{vs:AC}{i:Nat}{m:As},P.Nodup->P[i]? =some x->vs[i]? =some v->kindOf x≠some .local->
  bindC kindOf (P.zip vs) m x=some v
 | [],_,_,_,_,h,_,_=>by simp at h
 | _::_,[],_,_,_,_,h,_=>by simp at h
 | p::P,w::vs,0,m,nd,h1,h2,hk=>by
  simp at h1 h2;subst h1;subst h2;show bindC kindOf ((p,w)::P.zip vs) m p=_;unfold bindC;rw[Zy λv hv=>(List.nodup_cons.mp nd).1 (List.of_mem_zip hv).1,if_neg hk];simp
 | p::P,w::vs,i+1,m,nd,h1,h2,hk=>by
  show bindC kindOf ((p,w)::P.zip vs) m x=_;unfold bindC;exact Zz (i:=i) (List.nodup_cons.mp nd).2 (by simpa using h1) (by simpa using h2) hk
def start(N:AG)(vs:List V):St:=vs.map some++List.replicate (N.length - vs.length) none
def Ou(CX:CXT)(P:AL)(w:AN)(K:aC)(mg:As)(base:Heap)(N:AG)(b:Str)(a:Scope)(f:AH)(d:AI)(A:Around)(outer:List Env)(s:AJ)(H:Hp)(E:XK):Cx where
 prog:=P
 w:=w
 K:=K
 mg:=mg
 base:=base
 A:=A.deeper (envOfC b a s.heap.objs.size f d)
 N:=N
 s₀:=s
 H₀:=H
 env:=envOfC b a s.heap.objs.size f d
 outer:=outer
 stack:=envOfC b a s.heap.objs.size f d::outer
 ex:=[]
 calm:=true
 fn:=λ_=>true
 pn:=[]
 xe:=λe s'=>wpAny (model P w) (A.deeper (envOfC b a s.heap.objs.size f d)) (leaving (envOfC b a s.heap.objs.size f d) e) (λ_ c=>CX outer H s E e c) (λg c=>CX outer H s E g c) s'
theorem Zge{a:Scope}{n:Nat}{x:Str}(h:a.names.lookup x=some .cell):∃c,(cellsFrom n a.names []).lookup x=some c:=by
 have q:=W.cellsFrom_some a.names n [] (.inl h);exact Option.isSome_iff_exists.mp q
theorem Zne{CX:CXT}{P:AL}{w:AN}{K:aC}{mg:As}{base:Heap}{N ps:AG}{g:Str}{d:Scope}{f:AH}{o:AI}{A:Around}{outer:List Env}{s B:AJ}{H:Hp}{E:XK}{us:AC}{vs:List V}
  (S:aP N ps d) (hd:A.handled=none) (j:Zkx P w K mg base A outer s H) (hl:vs.length=ps.length) (r:Vals vs us)
  (x:InCallC s s.heap.objs.size (bindL (envOfC g d s.heap.objs.size f o).kindOf (ps.zip us) λ_=>none) (cellsFrom (s.heap.objs.size+1) d.names []) (bindC (envOfC g d s.heap.objs.size f o).kindOf (ps.zip us) λ_=>none) B):
  Inv (Ou CX P w K mg base N g d f o A outer s H E) [] (start N vs) H B:=by
 have C:ps.length<=N.length:=by have:=congrArg List.length S.pre;rw[List.length_take]at this;omega
 obtain⟨h1,tk,rfl,hk⟩:=x.done;have l:∀b:AH,b∉(Ou CX P w K mg base N g d f o A outer s H E).ex:=λb z=>absurd (show b∈([]:AE)from z) ζ;refine⟨⟨j.mod,S.kind,rfl,rfl,Nat.le_refl _,λy z c h1 h2=>?_,λy hy=>?_,λy c _ h=>?_,λ_=>hd,Around.frames_deeper j.frames,.inr ⟨rfl,rfl⟩,λb z=>absurd z (l b),j.bs,j.bsz,λb _ _=>l b,λb z=>absurd z (l b),j.CT,j.frf⟩,
  rfl,j.bare,Un.kept hk,⟨_,x.toInCall.ns,λi y v h1 h2 h3=>?_⟩,λy c h=>⟨_,x.cell y c h⟩,j.hok.fresh Γ,λy c h=>?_,λp hp=>absurd (show p∈([]:At)from hp) ζ,j.hok.kept hk,?_⟩
 ·exact name_of_addr x.apart (PySem.mem_of_lookup h1) (PySem.mem_of_lookup h2)
 ·have hy:d.names.lookup y=some .cell\/d.names.lookup y=some .free:=hy;rcases hy with hy | hy
  ·exact Zge hy
  ·exact absurd rfl (S.Zxo _ (PySem.mem_of_lookup hy))
 ·exact Nat.le_of_lt (x.above y c (PySem.mem_of_lookup h))
 ·have t:i<vs.length:=by
   unfold start at h2
   by_cases t:i<vs.length
   ·exact t
   ·rw[List.getElem?_append_right (by simpa using t)]at h2;rw[List.getElem?_replicate]at h2;split at h2<;>cases h2
  have D:vs[i]? =some v:=by
   unfold start at h2;rw[List.getElem?_append_left (by simpa using t),cF]at h2;cases e:vs[i]? with
   | none=>rw[e]at h2;cases h2
   | some a=>rw[e]at h2;cases h2;rfl
  obtain⟨u,hu,F⟩:=r.get D;have hp:ps[i]? =some y:=by
   rw[<- S.pre,List.getElem?_take_of_lt δ];exact h1
  have m:ps.Nodup:=by rw[<- S.pre];exact S.nd.sublist (List.take_sublist _ _)
  refine⟨u,F,?_⟩;rcases S.par y (List.mem_of_getElem? hp)with k | k
  ·exact .inl ⟨k,Zx m hp hu k⟩
  ·obtain⟨c,e⟩:=Zge (n:=s.heap.objs.size+1) k;refine .inr ⟨.inl k,c,e,?_⟩;have q:=x.cell y c e;rw[Zz m hp hu (by show d.names.lookup y≠_;rw[k];decide)]at q;exact q
 ·exact j.hok.fresh (Nat.le_of_lt (x.above y c (PySem.mem_of_lookup h)))
 ·unfold start;show _=N.length;rw[List.length_append,bB,List.length_replicate];omega
theorem Zs1{CX:CXT}{P:AL}{w:AN}{K:aC}{mg:As}{base:Heap}{k:Nat}{f:AH}{name c:Str}{g:Arguments}{h:List Stmt}{a:Scope}{dV kV p O d ct oc:AI}{T od:Option AH}
  {C:Array AB}{N ps:AG}{sp:Sp} (lk:K.lookup f=some ⟨oc,od,.func (W.fnOf name c g h a dV kV p O T d ct),C⟩) (L:W.codeIn K d c=true) (S:aP N ps a)
  (len:∀vs H Q E,sp vs H Q E->vs.length=ps.length)
  (j:∀(A:Around) (outer:List Env) (s:AJ) (H:Hp) (vs:List V) (Q:VK) (E:XK),Room k (A.deeper (envOfC c a s.heap.objs.size f d))->sp vs H Q E->
   ∃t,PSs (Ou CX P w K mg base N c a f d A outer s H E) h t/\t { nx:=λ_ H'=>Q .non H',rt:=Q } (start N vs) H):
  xJ P w K mg base CX (k+1) f (W.fnOf name c g h a dV kV p O T d ct) ps sp:=by
 refine⟨len,λA outer s H U us vs Q E hr m hb r z=>?_⟩;have hl:=len _ _ _ _ z;have R:K.In s.heap:=m.mod.kin.keeps λb o e=>(m.bs b o e).1;have F:s.heap.NoLimit:=m.mod.nolimit.keeps λb o e=>(m.bs b o e).1;have l:∀y∈ps.zip us,a.names.lookup y.1=some .local\/(a.names.lookup y.1=some .cell/\((cellsFrom (s.heap.objs.size+1) a.names []).lookup y.1).isSome=true):=λ⟨n,v⟩ hy=>by
  rcases S.par n (List.of_mem_zip hy).1 with q | q
  ·exact .inl q
  ·exact .inr ⟨q,W.cellsFrom_some _ _ _ (.inl q)⟩
 refine codeAny_call_function hr.depth (R _ _ lk) rfl S.co S.gen rfl (W.codeRec_of R L) (hb _ _ _ _ ?_);refine wpAny_newFunctionEnv_cells S.kind l λenv Y M x=>?_;subst Y;refine⟨F.keeps x.toInCall.keep,codeAny_func ?_⟩;obtain⟨t,X,hq⟩:=j A outer s H vs Q E (hr.deeper _) z;have I:Inv (Ou CX P w K mg base N c a f d A outer s H E) [] (start N vs) H M:=Zne S hr.hd m hl r x;refine wpAny_mono (X [] M (start N vs) H _ I hq) (λfl D hs=>?_) λe D hs=>hs;have fin:∀{i:St}{H':Hp}{v:V}{u:AI},Inv (Ou CX P w K mg base N c a f d A outer s H E) [] i H' D->RelV v u->Q v H'->CE outer P w H s Q u D:=
  λ{i H' v u} J B q=>⟨v,H',J.os,J.bare,J.base,J.hok,B,q⟩
 cases fl with
 | ret u=>
  obtain⟨v,i,H',J,B,q⟩:=hs;exact fin J B q
 | next=>
  obtain⟨i,H',J,q⟩:=hs;exact fin (v:=V.non) (u:=Value.none) J rfl q
 | brk=>
  obtain⟨_,_,_,q⟩:=hs;exact False.elim q
 | cont=>
  obtain⟨_,_,_,q⟩:=hs;exact False.elim q
section
variable {X:Cx}{x:Str}{p pos:Pos}{e:AM}{es:AF}{t:TA}{id T:String}{r:List V->Hp->VK->Prop}
def z8(r:List V->Hp->VK->Prop)(t:TA):TE:=λσ H Q=>t σ H λvs a=>r vs a Q
theorem cR(hc:Lp X (.builtin id) r)(g:Gl X x)(hm:X.mg x=none)(hv:bootBuiltins x=some (.builtin id))(k:PA X (e::es) t)(hn:x≠"__name__":=by decide)(c:(x == ("__debug__":Str))=false:=by decide)
  (i:starEach (e::es) X.env=(false,eval e X.env)::starEach es X.env:=by rfl) (b:(backTo pos (starEach es X.env)).any (·.1)=false:=by rfl):PE X (.Call (.Name x p) (e::es) [] pos) (z8 r t):=by
 intro a s d H Q I h;refine wpAny_Call_Name_kw (Uw I g hm hv ?_ hn c);exact PyProof.Rows.callWith_builtin1 (jL (k pos a s d H _ I h) (by rintro us j ⟨f,H1,I1,r1,q1⟩;exact hc a j d H1 f us Q I1 r1 q1)) i b
theorem vU(hc:Lp X (.type T) r)(g:Gl X x)(hm:X.mg x=none)(hv:bootBuiltins x=some (.type T))(k:PA X (e::es) t)(hn:x≠"__name__":=by decide)(c:(x == ("__debug__":Str))=false:=by decide)
  (i:starEach (e::es) X.env=(false,eval e X.env)::starEach es X.env:=by rfl) (b:(backTo pos (starEach es X.env)).any (·.1)=false:=by rfl):PE X (.Call (.Name x p) (e::es) [] pos) (z8 r t):=by
 intro a s d H Q I h;refine wpAny_Call_Name_kw (Uw I g hm hv ?_ hn c);exact PyProof.Rows.callWith_type1 (jL (k pos a s d H _ I h) (by rintro us j ⟨f,H1,I1,r1,q1⟩;exact hc a j d H1 f us Q I1 r1 q1)) i b
end
end L2
namespace HT
open PySem PyProof.Rows
section
open PySem.SeqAt
open PySem.AutoSeq1 (wpAny_loadPart')
open PySem.MeetsSeq PySem.MeetsSeq2 PySem.MeetsSeq3
end
section
variable {prog:AL}{w:AN}{A:Around}{E:Ap}{s:AJ}
theorem Zvz{t b:AH}{vs a:AC}{Q:Ap}(o:IsTup s.heap t vs.toArray)(hb:IsTup s.heap b a.toArray)(hv:vs≠[])
  (h1:a=[]->Q (.ref t) s) (h2:a≠[]->Q (.ref s.heap.objs.size) { s with heap:=s.heap.push { cls:=.type "tuple",data:=.seq (vs++a).toArray } })
  (hsz:vs.length+a.length<=sizeLine):wpAny ae A (binaryOp .Add (.ref t) (.ref b)) Q E s:=by
 obtain⟨⟨p,l,m,sl⟩,i,hc,n,hd⟩:=id o;obtain⟨⟨k,d,data2,f⟩,c,h,n2,g⟩:=id hb;simp only at hc hd h g;subst hc hd h g;have e:vs.toArray++a.toArray=(vs++a).toArray:=ζ
 by_cases j:a=[]
 ·exact concat_meets ⟨_,i,rfl⟩ ⟨_,c,rfl⟩ noFill_tuple_add seq_tuple_add PySem.F.slot_tuple_add PySem.F.entry_tuple_add (PySem.F.args_tuple_add_2 _ _)
   (tuple_addW1 t b vs.toArray a.toArray n n2 l d sl f (by simpa using hv) (by simp[j])) ⟨i,c,h1 j⟩
 ·refine concat_meets ⟨_,i,rfl⟩ ⟨_,c,rfl⟩ noFill_tuple_add seq_tuple_add PySem.F.slot_tuple_add PySem.F.entry_tuple_add (PySem.F.args_tuple_add_2 _ _)
   (tuple_addW2 t b vs.toArray a.toArray n n2 l d sl f (by simpa using hv) (by simpa using j) (by rw[List.size_toArray,List.size_toArray];exact hsz)) ⟨i,c,?_⟩
  rw[e];exact h2 j
def qU(n d:Nat):AA->Nat
 | none=>d
 | some v=>if v<0 then(v+(n:Int)).toNat else min v.toNat n
theorem Zx7(n d:Nat)(hd:d<=n)(o:AA):qU n d o<=n:=by
 cases o with
 | none=>exact hd
 | some v=>
  show(if v<0 then(v+(n:Int)).toNat else min v.toNat n)<=n
  by_cases hv:v<0
  ·rw[if_pos hv];omega
  ·rw[if_neg hv];exact Nat.min_le_right _ _
theorem Zlu(v:Int)(n d:Nat):(if v<0 then max (v+(n:Int)) 0 else min v (n:Int))=((qU n d (some v):Nat):Int):=by
 show(if v<0 then max (v+(n:Int)) 0 else min v (n:Int))=(((if v<0 then(v+(n:Int)).toNat else min v.toNat n):Nat):Int)
 by_cases hv:v<0
 ·simp only[if_pos hv];omega
 ·simp only[if_neg hv];omega
theorem Zks(lo a:AA)(n:Nat):Builtin.Slice.sliceAdjust lo a 1 (n:Int)=(((qU n 0 lo:Nat):Int),((qU n n a:Nat):Int)):=by
 have h1:¬ ((1:Int)<0):=δ
 unfold Builtin.Slice.sliceAdjust;simp only[h1,if_false];refine Prod.ext ?_ ?_
 ·cases lo with
  | none=>rfl
  | some v=>exact Zlu v n 0
 ·cases a with
  | none=>rfl
  | some v=>exact Zlu v n n
theorem Zie(i j:Nat):Builtin.Slice.slicePlaces (i:Int) (j:Int) 1=j - i:=by
 unfold Builtin.Slice.slicePlaces;have h1:(1:Int) > 0:=δ
 simp only[h1,if_true,Int.ediv_one];split<;>omega
theorem Sh{v:AI}{o:AA}{Q:AA->AJ->Prop}(p:IsPart v o)(h:Q o s):wpAny ae A (Builtin.Slice.slicePartIndex v) Q E s:=by
 cases p with
 | none=>exact slicePart_none h
 | int i t=>exact slicePart_int h
theorem LQ{sl:AH}{d e:AI}{lo b:AA}{n:Nat}{Q:Int×Int×Nat->AJ->Prop}(hs:s.heap.IsSliceOf sl d e .none)(pl:IsPart d lo)(g:IsPart e b)
  (h:Q (((qU n 0 lo:Nat):Int),1,qU n n b - qU n 0 lo) s):wpAny ae A (Builtin.Slice.sliceApplied (.ref sl) (pure (n:Int))) Q E s:=by
 obtain⟨os,a,f,c⟩:=id hs;unfold Builtin.Slice.sliceApplied Builtin.Slice.sliceFields;refine wpAny_bind (wpAny_bind (wpAny_field a c (x:=d) rfl (wpAny_bind (wpAny_field a c (x:=e) rfl (wpAny_bind (wpAny_field a c (x:=.none) rfl (wpAny_pure ?_)))))));refine wpAny_bind (slicePart_none ?_);show wpAny _ _ (if ((1:Int) == 0)=true then _ else _) _ _ s;rw[if_neg ε];refine wpAny_bind (Sh pl (wpAny_bind (Sh g (wpAny_bind (wpAny_pure ?_)))));show wpAny _ _ (match Builtin.Slice.sliceAdjust lo b 1 (n:Int)with | (lo,b)=>pure (lo,(1:Int),Builtin.Slice.slicePlaces lo b 1)) _ _ s;rw[Zks lo b n];show wpAny _ _ (pure (((qU n 0 lo:Nat):Int),(1:Int),Builtin.Slice.slicePlaces ((qU n 0 lo:Nat):Int) ((qU n n b:Nat):Int) 1)) _ _ s;rw[Zie];exact wpAny_pure h
theorem Zpq(xs:Array AI)(i k:Nat):((List.range k).filterMap λ(m:Nat)=>xs[((i:Int)+(m:Int) * 1).toNat]?).toArray=((xs.toList.drop i).take k).toArray:=by
 have e:(λ(m:Nat)=>xs[((i:Int)+(m:Int) * 1).toNat]?)=λm=>xs[i+m]? :=by
  funext m
  have:((i:Int)+(m:Int) * 1).toNat=i+m:=δ
  rw[this]
 rw[e];have:=pick_run xs i k;rw[List.filterMap_map]at this;have a:((λx=>xs[x]?) ∘ λx=>i+x)=λm=>xs[i+m]? :=rfl;rw[a]at this;rw[this]
theorem KN{t sl:AH}{a:Array AI}{j k:AI}{lo b:AA}{Q:Ap}(d:IsTup s.heap t a)(hs:s.heap.IsSliceOf sl j k .none)(pl:IsPart j lo)(l:IsPart k b)
  (o:¬ (qU a.size 0 lo=0/\qU a.size a.size b=a.size))
  (h:Q (.ref s.heap.objs.size) { s with heap:=s.heap.push { cls:=.type "tuple",data:=.seq ((a.toList.drop (qU a.size 0 lo)).take (qU a.size a.size b - qU a.size 0 lo)).toArray } })
  (hsz:a.size<=sizeLine):wpAny ae A (getItem (.ref t) (.ref sl)) Q E s:=by
 have c:sizeOk (.seq ((a.toList.drop (qU a.size 0 lo)).take (qU a.size a.size b - qU a.size 0 lo)).toArray):=by
  show((a.toList.drop (qU a.size 0 lo)).take (qU a.size a.size b - qU a.size 0 lo)).toArray.size<=sizeLine;rw[List.size_toArray,List.length_take,List.length_drop,Array.length_toList];omega
 have u:qU a.size a.size b<=a.size:=Zx7 _ _ Γ b;obtain⟨os,e,g,n⟩:=id hs;have i:s.TypeIs (.ref sl) "slice":=⟨os,e,g⟩;unfold getItem
 try with_reducible refine wpAny_holding ?_
 first | refine wpAny_bind (wpAny_pure ?_) | skip
 refine wpAny_bind (wpAny_sequenceKey d.typeIs ε ?_);refine wpAny_bind (wpAny_callSpecial?_slot (name:=Str.ofString "__getitem__") d.typeIs PyProof.Rows.slot_tuple_getitem
  (wpAny_call_entry PyProof.Rows.slot_tuple_getitem d.typeIs entry_tuple_getitem ?_ (args_tuple_getitem _ _)))
 show wpAny _ _ (Builtin.Tuple.tupleItemsOf (.ref t) >>= _) _ _ s;refine wpAny_bind (tupleItemsOf_ d ?_);refine wpAny_bind (wpAny_typeOf i ?_);rw[if_pos ε];refine wpAny_bind (LQ hs pl l ?_);have f:¬ ((((qU a.size 0 lo:Nat):Int) == 0 && (1:Int) == 1 && (qU a.size a.size b - qU a.size 0 lo) == a.size)=true):=by
  intro q;rw[Bool.and_eq_true,Bool.and_eq_true]at q;have p:((qU a.size 0 lo:Nat):Int)=0:=eq_of_beq q.1.1;have r:qU a.size a.size b - qU a.size 0 lo=a.size:=eq_of_beq q.2;exact o ⟨δ,δ⟩
 show wpAny _ _ (if (((qU a.size 0 lo:Nat):Int) == 0 && (1:Int) == 1 && (qU a.size a.size b - qU a.size 0 lo) == a.size)=true then _ else _) _ _ s;rw[if_neg f,Zpq]
 first
  | exact wpAny_bind (m:=Builtin.Tuple.tupleExact _) (wpAny_newObj_type (wpAny_pure ⟨_,rfl,wpAny_pure h⟩) c)
  | exact wpAny_bind (m:=Builtin.Tuple.tupleExact _) (wpAny_newObj_type (wpAny_bind (wpAny_pure (wpAny_pure ⟨_,rfl,wpAny_pure h⟩))) c)
  | exact wpAny_bind (wpAny_bind (m:=Builtin.Tuple.tupleExact _) (wpAny_newObj_type (wpAny_pure (wpAny_pure ⟨_,rfl,wpAny_pure h⟩)) c))
  | exact wpAny_bind (wpAny_bind (m:=Builtin.Tuple.tupleExact _) (wpAny_newObj_type (wpAny_pure ⟨_,rfl,wpAny_pure h⟩) c))
end
end HT
namespace L2
open PySem PySem.Spec PyProof.Rows
abbrev TO:=St->Hp->(AA->Hp->Prop)->Prop
def PO(X:Cx)(e:Option AM)(t:TO):Prop:=
 ∀(a:At) (s:AJ) (σ:St) (H:Hp) (Q:AA->Hp->Prop),Inv X a σ H s->t σ H Q->
  wpAny ς X.A (evalPart e X.env) (λu s'=>∃o H',Inv X a σ H' s'/\IsPart u o/\Q o H') X.xe s
def GF:TO:=λ_ H Q=>Q none H
def Pk(t:TE):TO:=λσ H Q=>t σ H λx a=>∃i,x=.int i/\Q (some i) a
section
variable {X:Cx}{e:AM}{te:TE}{lo hi:Option AM}{tl th:TO}{pos p2:Pos}
theorem Rp:PO X none GF:=by
 intro a s b H Q I h;rw[evalPart_none];exact wpAny_pure ⟨none,H,I,.none,h⟩
theorem GP(h:PE X e te):PO X (some e) (Pk te):=by
 intro a s b H Q I c;rw[evalPart_some];refine jL (h a s b H _ I c) λu d qb=>?_;obtain⟨x,H1,I1,r1,q1⟩:=qb;obtain⟨i,rfl,q⟩:=q1;obtain⟨t,rfl⟩:=r1;exact⟨some i,H1,I1,.int i t,q⟩
def SlR(X:Cx)(r:V->AA->AA->Hp->VK->Prop):Prop:=
 ∀(a:At) (s:AJ) (σ:St) (H:Hp) (x:V) (v b c:AI) (lo hi:AA) (sl:AH) (Q:VK),Inv X a σ H s->RelV x v->s.heap.IsSliceOf sl b c .none->IsPart b lo->IsPart c hi->r x lo hi H Q->
  ∃T id,typeLookup (.type T) "__getitem__"=pure (some (.builtin id))/\s.TypeIs v T/\wpAny ς X.A (getItem v (.ref sl)) (EP X a σ Q) X.xe s
def tSl(r:V->AA->AA->Hp->VK->Prop)(te:TE)(tl th:TO):TE:=λσ H Q=>te σ H λx c=>tl σ c λl a=>th σ a λu b=>r x l u b Q
theorem Ff{r:V->AA->AA->Hp->VK->Prop}(hr:SlR X r)(k:PE X e te)(hl:PO X lo tl)(hu:PO X hi th):PE X (.Subscript e (.Slice lo hi none p2) pos) (tSl r te tl th):=by
 intro a s d H Q I h;refine Subscript_ (jL (k a s d H _ I h) λv n qb=>?_);obtain⟨x,H1,I1,r1,q1⟩:=qb;refine wpAny_Slice (jL (hl a n d H1 _ I1 q1) λf o ⟨l,H2,I2,pl,q2⟩=>jL (hu a o d H2 _ I2 q2) λg c qb=>?_);obtain⟨u,H3,I3,pu,q3⟩:=qb;rw[evalPart_none];refine wpAny_pure ?_;have j:Inv X a d H3 { c with heap:=c.heap.push { cls:=.type "slice",data:=.fields #[f,g,.none] } }:=I3.kept (t':=c.toks) λb ob q=>Heap.get?_push_of_some _ q;obtain⟨T,id,m,p,i⟩:=hr a { c with heap:=c.heap.push { cls:=.type "slice",data:=.fields #[f,g,.none] } } d H3 x v f g l u c.heap.objs.size Q j r1 (Heap.IsSliceOf.new ..) pl pu q3;show wpAny ς X.A (subscriptTail e (.Slice lo hi none p2) v (.ref c.heap.objs.size)) (EP X a d Q) X.xe { c with heap:=c.heap.push { cls:=.type "slice",data:=.fields #[f,g,.none] } };exact tail_any (ops:=[.ref c.heap.objs.size,v]) p m i (by with_unfolding_all rfl)
def Rh(xs:List V)(lo hi:AA):List V:=(xs.drop (HT.qU xs.length 0 lo)).take (HT.qU xs.length xs.length hi - HT.qU xs.length 0 lo)
theorem Qk(xs:List V)(lo hi:AA):(Rh xs lo hi).length<=xs.length:=by
 unfold Rh;rw[List.length_take,List.length_drop];omega
def Zti(K:aC):V->AA->AA->Hp->VK->Prop:=λx lo hi H Q=>∃a xs,x=.ref a/\fY K H a xs/\
 ¬ (HT.qU xs.length 0 lo=0/\HT.qU xs.length xs.length hi=xs.length)/\∀p,H p=none->Q (.ref p) (upd H p (.tup (Rh xs lo hi)))
theorem Zhm:SlR X (Zti X.K):=by
 intro f s n H x v m p lo hi sl Q I k hs j i h;obtain⟨a,d,rfl,hx,l,q⟩:=h;cases k;obtain⟨e,r,g,hz⟩:=I.tuple hx;have c:e.toArray.size=d.length:=by rw[List.size_toArray];exact r.length.symm
 refine⟨"tuple",_,PyProof.Rows.slot_tuple_getitem.lookup,g.typeIs,?_⟩;refine HT.KN g hs j i (by rw[c];exact l) ?_ (by rw[c];exact hz);rw[c];refine⟨.ref s.heap.objs.size,_,I.laid (t':=s.toks) (o:=.tup (Rh d lo hi)) (λb ob q=>Heap.get?_push_of_some _ q) Γ ?_,rfl,q _ (I.hok.fresh Γ)⟩;exact⟨Nat.le_trans (Qk d lo hi) hz,_,(r.drop (HT.qU d.length 0 lo)).take (HT.qU d.length d.length hi - HT.qU d.length 0 lo),IsTup.new _ _⟩
def Zpf(K:aC):R2:=λx y H Q=>∃a b xs c,x=.ref a/\y=.ref b/\fY K H a xs/\fY K H b c/\xs≠[]/\xs.length+c.length<=sizeLine/\
 (c=[]->Q (.ref a) H)/\(c≠[]->∀p,H p=none->Q (.ref p) (upd H p (.tup (xs++c))))
theorem Vals.Zbn{xs:List V}{us:AC}(r:Vals xs us):us=[]↔xs=[]:=by
 cases r with
 | nil=>simp
 | cons _ _=>simp
theorem Zld:Ag X (binaryOp .Add) (Zpf X.K):=by
 intro e s t H x y v u Q I k i h;obtain⟨a,b,r,g,rfl,rfl,n,hb,hx,hz,l,p⟩:=h;cases k;cases i;obtain⟨j,d,m,_⟩:=I.tuple n;obtain⟨f,c,p2,_⟩:=I.tuple hb;refine HT.Zvz m p2 (λz=>hx (d.Zbn.mp z)) (λz=>⟨.ref a,H,I,rfl,l (c.Zbn.mp z)⟩) (λz=>?_) (by rw[<- d.length,<- c.length];exact hz);refine⟨.ref s.heap.objs.size,_,I.laid (t':=s.toks) (o:=.tup (r++g)) (λb ob q=>Heap.get?_push_of_some _ q) Γ ?_,rfl,p (λw=>z (c.Zbn.mpr w)) _ (I.hok.fresh Γ)⟩;exact⟨by rw[List.length_append];exact hz,_,d.append c,IsTup.new _ _⟩
end
def ixN(n:Nat)(i:Int):Option Nat:=if 0<=i then(if i<n then some i.toNat else none)else if -(n:Int)<=i then some (i+n).toNat else none
def XM{a:Type}(xs:List a)(i:Int):Option a:=(ixN xs.length i).bind λj=>xs[j]?
theorem Zll{n:Nat}{i:Int}{j:Nat}(h:ixN n i=some j):seqIndex? i n=some j/\j<n/\-(n:Int)<=i/\i<n:=by
 unfold ixN at h
 by_cases a:0<=i
 ·rw[if_pos a]at h
  by_cases h1:i<n
  ·rw[if_pos h1]at h;have e:i.toNat=j:=Option.some.inj h;exact⟨by rw[seqIndex_of a h1,e],δ,δ,h1⟩
  ·rw[if_neg h1]at h;cases h
 ·rw[if_neg a]at h
  by_cases h1:-(n:Int)<=i
  ·rw[if_pos h1]at h;have e:(i+n).toNat=j:=Option.some.inj h;exact⟨by rw[seqIndex_neg δ h1,e],δ,h1,δ⟩
  ·rw[if_neg h1]at h;cases h
theorem RD{a:Type}{xs:List a}{i:Int}{v:a}(h:XM xs i=some v):∃j,seqIndex? i xs.length=some j/\xs[j]? =some v/\j<xs.length/\-(xs.length:Int)<=i/\i<xs.length:=by
 unfold XM at h;cases e:ixN xs.length i with
 | none=>rw[e]at h;cases h
 | some j=>
  rw[e]at h;obtain⟨h1,h2,h3,h4⟩:=Zll e;exact⟨j,h1,h,h2,h3,h4⟩
theorem jO{a:Type}{xs:List a}{j:Nat}{v:a}(h:xs[j]? =some v):XM xs (j:Int)=some v:=by
 have b:j<xs.length:=(cZ h).1;have e:ixN xs.length (j:Int)=some j:=by
  unfold ixN;rw[if_pos δ,if_pos δ];simp
 unfold XM;rw[e];exact h
theorem Zsl{a:Type}(xs:List a)(v:a):XM (xs++[v]) (-1)=some v:=by
 have hl:(xs++[v]).length=xs.length+1:=ζ
 have e:ixN (xs++[v]).length (-1)=some xs.length:=by
  unfold ixN;rw[hl,if_neg ε,if_pos δ];congr 1;omega
 unfold XM;rw[e];show(xs++[v])[xs.length]? =some v;simp
def Zdp(b:AM):Prop:=∀o i,subscripted b false o i=operate [o,i] (getItem o i)
def IxR(X:Cx)(r:R2):Prop:=
 ∀(c a:AM) (b:At) (s:AJ) (σ:St) (H:Hp) (x y:V) (v u:AI) (Q:VK),Inv X b σ H s->RelV x v->RelV y u->r x y H Q->
  subscripted a false v u=operate [v,u] (getItem v u)->wpAny ς X.A (subscriptTail c a v u) (EP X b σ Q) X.xe s
def MtR(X:Cx)(id:String)(r:V->List V->Hp->VK->Prop):Prop:=
 ∀(a:At) (s:AJ) (σ:St) (H:Hp) (x:V) (xs:List V) (v:AI) (us:AC) (Q:VK),Inv X a σ H s->RelV x v->Vals xs us->r x xs H Q->
  wpAny ς X.A (call (.builtin id) (v::us)) (EP X a σ Q) X.xe s
section
variable {X:Cx}{a b:AM}{ta tb:TE}{pos:Pos}
theorem Zwf{r:R2}(hr:IxR X r)(k:PE X a ta)(hb:PE X b tb)(hs:Zdp b):PE X (.Subscript a b pos) (bx r ta tb):=by
 intro c s g H Q I h;exact Subscript_ (Zzh k hb I h λv u j x y f d i e q=>hr a b c j g f x y v u Q d i e q (hs _ _))
def m6(K:aC):R2:=λx y H Q=>∃p xs i v,x=.ref p/\y=.int i/\cB K H p xs/\XM xs i=some v/\Q v H
def eE(K:aC):R2:=λx y H Q=>∃p xs i v,x=.ref p/\y=.int i/\fY K H p xs/\XM xs i=some v/\Q v H
def Zpd:R2:=λx y H Q=>∃z i c,x=.str z/\y=.int i/\z.length<=sizeLine/\XM z.cps.toList i=some c/\Q (.str ⟨#[c]⟩) H
theorem dm:IxR X (m6 X.K):=by
 intro g d a s l H x y v u Q I o n h hs;obtain⟨p,C,i,z,rfl,rfl,hq,A,q⟩:=h;cases o;obtain⟨t,rfl⟩:=n;obtain⟨c,r,b,hz⟩:=I.list hq;obtain⟨j,h1,h2,h3,h4,h5⟩:=RD A;obtain⟨w,m,e⟩:=r.get h2;have hl:=r.length;have hn:=Jl;have fin:EP X a l Q w s:=⟨z,H,I,e,q⟩
 by_cases k:0<=i
 ·have f:i.toNat=j:=by
   rw[seqIndex_of k h5]at h1;exact Option.some.inj h1
  exact item_listR b.isList k δ (by rw[f];simpa using m) fin hs
 ·have f:(i+(c.toArray.size:Int)).toNat=j:=by
   rw[seqIndex_neg δ h4]at h1;rw[List.size_toArray,<- hl];exact Option.some.inj h1
  exact subscriptTail_builtinR (x:=w) b.isList.typeIs slot_list_getitem.lookup
   (wpAny_getItem_list_neg (Q:=λr B=>r=w/\EP X a l Q r B) b.isList δ (by rw[List.size_toArray]<;>omega) δ (by rw[f];simpa using m) ⟨rfl,fin⟩) hs
theorem bJ:IxR X (eE X.K):=by
 intro d b a s f H x y v u Q I l g h hs;obtain⟨p,A,i,z,rfl,rfl,hq,m,q⟩:=h;cases l;obtain⟨t,rfl⟩:=g;obtain⟨k,r,e,hz⟩:=I.tuple hq;obtain⟨j,h1,h2,h3,h4,h5⟩:=RD m;obtain⟨w,o,c⟩:=r.get h2;have hl:=r.length;have hn:=Jl;have fin:EP X a f Q w s:=⟨z,H,I,c,q⟩;exact subscriptTail_builtinR (x:=w) e.typeIs slot_tuple_getitem.lookup
  (getItem_tuple (j:=j) (Q:=λr n=>r=w/\EP X a f Q r n) e δ δ (by rw[List.size_toArray,<- hl];exact h1) (by simpa using o) ⟨rfl,fin⟩) hs
theorem Zra:IxR X Zpd:=by
 intro b a d s m H x y v u Q I f e h hs;obtain⟨z,i,c,rfl,rfl,hz,g,q⟩:=h;obtain⟨t,rfl⟩:=f;obtain⟨n,rfl⟩:=e;obtain⟨j,h1,h2,h3,h4,h5⟩:=RD g;have hl:z.cps.toList.length=z.length:=by simp[Str.length]
 rw[hl]at h1 h4 h5;have hn:=Jl;exact tail_any (typeIs_str s z t) slot_str_getitem.lookup (getItem_str (c:=c) (by
  have k:decide (i < -(2 ^ 63:Int))=false:=decide_eq_false δ;have l:decide (i≥2 ^ 63)=false:=decide_eq_false δ;rw[k,l,Bool.or_false]) (by rw[h1];simpa using h2) ⟨.str ⟨#[c]⟩,H,I.tok _,⟨_,rfl⟩,q⟩) hs
theorem Zj6(a:AC)(n j:Nat)(u:AI):Obj.mapSeq (·.setIfInBounds j u) { cls:=.type "list",data:=.seq a.toArray n }={ cls:=.type "list",data:=.seq (a.set j u).toArray n }:=by
 simp[Obj.mapSeq]
theorem Inv.lst{b:At}{σ:St}{H:Hp}{s:AJ}{p:AH}{xs:List V}(I:Inv X b σ H s)(h:H p=some (.lst xs)):
  ∃(a:AC) (n:Nat),Vals xs a/\s.heap.get? p=some { cls:=.type "list",data:=.seq a.toArray n }/\xs.length<=sizeLine:=by
 obtain⟨z,a,n,r,e⟩:=I.hok p _ h;exact⟨a,n,r,e,z⟩
theorem Inv.Zxx{a:At}{σ:St}{H:Hp}{s:AJ}{p:AH}{xs d:List V}{c its':AC}{n g:Nat}{f:Obj->Obj}(I:Inv X a σ H s)(h:H p=some (.lst xs))
  (j:s.heap.get? p=some { cls:=.type "list",data:=.seq c.toArray n }) (i:f { cls:=.type "list",data:=.seq c.toArray n }={ cls:=.type "list",data:=.seq its'.toArray g }) (r:Vals d its') (hz:d.length<=sizeLine) (t:Nat):
  Inv X a σ (upd H p (.lst d)) { s with heap:=s.heap.update p f,toks:=t }:=by
 have e:(s.heap.update p f).get? p=some { cls:=.type "list",data:=.seq its'.toArray g }:=by
  rw[Heap.get?_update_self f j (by rw[i]<;>rfl),i]
 refine I.write (x:=p) (e:=p) (by rw[h];trivial) (.inl rfl) (λb u hb q=>(Heap.get?_update_other _ _ (Ne.symm hb)).trans q) ⟨_,e⟩ ?_;exact⟨hz,its',g,r,e⟩
def Dn:V->V->V->Hp->(Hp->Prop)->Prop:=λo i v H Q=>∃p xs k j,o=.ref p/\i=.int k/\H p=some (.lst xs)/\ixN xs.length k=some j/\Q (upd H p (.lst (xs.set j v)))
theorem set_list:Zzp X Dn:=by
 intro b s g H o i v y z u Q I f l m h;obtain⟨p,w,k,j,rfl,rfl,hp,x,q⟩:=h;cases f;obtain⟨t,rfl⟩:=l;obtain⟨a,n,r,c,hz⟩:=I.lst hp;obtain⟨h1,h2,h3,h4⟩:=Zll x;have hl:=r.length;have hn:=Jl;have e:Inv X b g (upd H p (.lst (w.set j v))) { s with heap:=s.heap.update p (Obj.mapSeq (·.setIfInBounds j u)) }:=
  I.Zxx hp c (Zj6 a n j u) (r.set m j) (by rw[List.length_set];exact hz) s.toks
 by_cases d:0<=k
 ·have hk:k.toNat=j:=by
   rw[seqIndex_of d h4]at h1;exact Option.some.inj h1
  exact W.ki_setAt c d δ (by rw[List.size_toArray,<- hl];exact h4) (by rw[hk];exact⟨_,e,q⟩)
 ·have hk:(k+(a.toArray.size:Int)).toNat=j:=by
   rw[seqIndex_neg δ h3]at h1;rw[List.size_toArray,<- hl];exact Option.some.inj h1
  exact W.ki_setBack c δ (by rw[List.size_toArray,<- hl];exact h3) δ (by rw[hk];exact⟨_,e,q⟩)
theorem Z9(lo a:AA)(n:Nat):(sliceBounds lo a none n).1=((HT.qU n 0 lo:Nat):Int)/\(sliceBounds lo a none n).2.1=((HT.qU n n a:Nat):Int)/\(sliceBounds lo a none n).2.2=1:=by
 refine⟨?_,?_,rfl⟩
 ·cases lo with
  | none=>simp[sliceBounds,HT.qU]
  | some i=>
   simp only[sliceBounds,HT.qU,Option.getD_none,show(1:Int) > 0 by decide,if_true]
   by_cases h:i<0
   ·simp only[h,if_true]<;>omega
   ·simp only[h,if_false]<;>omega
 ·cases a with
  | none=>simp[sliceBounds,HT.qU]
  | some i=>
   simp only[sliceBounds,HT.qU,Option.getD_none,show(1:Int) > 0 by decide,if_true]
   by_cases h:i<0
   ·simp only[h,if_true]<;>omega
   ·simp only[h,if_false]<;>omega
theorem V4(a:AC)(lo b:AA):slicePick a.toArray lo b none=((a.drop (HT.qU a.length 0 lo)).take (HT.qU a.length a.length b - HT.qU a.length 0 lo)).toArray:=by
 obtain⟨h1,h2,h3⟩:=Z9 lo b a.toArray.size;unfold slicePick;rw[h1,h2,h3];simp only[sliceRange_one,pick_run,List.size_toArray]<;>rfl
def Zx8(K:aC):V->AA->AA->Hp->VK->Prop:=λx lo b H Q=>∃a xs,x=.ref a/\cB K H a xs/\∀p,H p=none->Q (.ref p) (upd H p (.lst (Rh xs lo b)))
theorem Zl4:SlR X (Zx8 X.K):=by
 intro f s n H x v m p lo e sl Q I l hs j i h;obtain⟨a,c,rfl,hx,q⟩:=h;cases l;obtain⟨k,r,g,hz⟩:=I.list hx;have d:=r.length;refine⟨"list",_,slot_list_getitem.lookup,g.isList.typeIs,?_⟩;refine wpAny_getItem_list_slice g.isList hs j i .none ζ ?_ (by rw[List.size_toArray]<;>omega);rw[V4,<- d];refine⟨.ref s.heap.objs.size,_,I.laid (t':=s.toks) (o:=.lst (Rh c lo e)) (λb ob q=>Heap.get?_push_of_some _ q) Γ ?_,rfl,q _ (I.hok.fresh Γ)⟩;exact⟨Nat.le_trans (Qk c lo e) hz,_,0,(r.drop (HT.qU c.length 0 lo)).take (HT.qU c.length c.length e - HT.qU c.length 0 lo),Heap.get?_push_size _ rfl⟩
def qQ:V->Bool
 | .non=>true
 | .bl _=>true
 | .int _=>true
 | .str _=>true
 | _=>false
def Zq:V->V->Bool
 | .non,.non=>true
 | .bl a,.bl b=>a == b
 | .bl a,.int b=>(if a then 1 else 0) == b
 | .int a,.bl b=>a == (if b then 1 else 0)
 | .int a,.int b=>a == b
 | .str a,.str b=>a == b
 | _,_=>false
theorem CW{A:Around}{s:AJ}{y x:V}{u v:AI}(e:RelV y u)(c:RelV x v)(g:qQ y=true)(f:qQ x=true):SeqAt.EqAt A s u v (Zq y x):=by
 cases y with
 | non=>
  cases e;cases x with
  | non=>cases c;exact SeqAt.EqAt.same _
  | bl b=>cases c;exact SeqAt.EqAt.none_bool b
  | int b=>obtain⟨t,rfl⟩:=c;exact SeqAt.EqAt.none_int b t
  | str b=>obtain⟨t,rfl⟩:=c;exact SeqAt.EqAt.none_str b t
  | _=>exact absurd (show false=true from f) Bool.false_ne_true
 | bl a=>
  cases e;cases x with
  | non=>cases c;exact SeqAt.EqAt.bool_none a
  | bl b=>cases c;exact SeqAt.EqAt.bool_bool a b
  | int b=>obtain⟨t,rfl⟩:=c;exact SeqAt.EqAt.bool_int a b t
  | str b=>obtain⟨t,rfl⟩:=c;exact SeqAt.EqAt.bool_str a b t
  | _=>exact absurd (show false=true from f) Bool.false_ne_true
 | int a=>
  obtain⟨d,rfl⟩:=e;cases x with
  | non=>cases c;exact SeqAt.EqAt.int_none a d
  | bl b=>cases c;exact SeqAt.EqAt.int_bool a d b
  | int b=>obtain⟨t,rfl⟩:=c;exact SeqAt.EqAt.int_int a d b t
  | str b=>obtain⟨t,rfl⟩:=c;exact SeqAt.EqAt.int_str a d b t
  | _=>exact absurd (show false=true from f) Bool.false_ne_true
 | str a=>
  obtain⟨d,rfl⟩:=e;cases x with
  | non=>cases c;exact SeqAt.EqAt.str_none a d
  | bl b=>cases c;exact SeqAt.EqAt.str_bool a d b
  | int b=>obtain⟨t,rfl⟩:=c;exact SeqAt.EqAt.str_int a d b t
  | str b=>obtain⟨t,rfl⟩:=c;exact SeqAt.EqAt.str_str a d b t
  | _=>exact absurd (show false=true from f) Bool.false_ne_true
 | _=>exact absurd (show false=true from g) Bool.false_ne_true
def eqU(x:V)(u:AI):Bool:=match u with
 | .none=>Zq .non x
 | .bool b=>Zq (.bl b) x
 | .int i _=>Zq (.int i) x
 | .str z _=>Zq (.str z) x
 | _=>false
theorem Zs5{x y:V}{u:AI}(r:RelV y u)(f:qQ y=true):eqU x u=Zq y x:=by
 cases y with
 | non=>cases r;rfl
 | bl b=>cases r;rfl
 | int i=>obtain⟨t,rfl⟩:=r;rfl
 | str z=>obtain⟨t,rfl⟩:=r;rfl
 | _=>exact absurd (show false=true from f) Bool.false_ne_true
theorem Zda{x:V}:∀{xs:List V}{us:AC},Vals xs us->xs.all qQ=true->us.any (eqU x)=xs.any λy=>Zq y x
 | _,_,.nil,_=>rfl
 | y::xs,u::us,.cons r t,f=>by
  rw[List.all_cons,Bool.and_eq_true]at f;rw[List.any_cons,List.any_cons,Zs5 r f.1,Zda t f.2]
theorem Um{A:Around}{s:AJ}{x:V}{v:AI}(a:RelV x v)(b:qQ x=true):∀{xs:List V}{us:AC},Vals xs us->xs.all qQ=true->∀u∈us,SeqAt.EqAt A s u v (eqU x u)
 | _,_,.nil,_=>λu hu=>by cases hu
 | y::xs,u::us,.cons r t,f=>λc hu=>by
  rw[List.all_cons,Bool.and_eq_true]at f;rcases List.mem_cons.mp hu with rfl | hu
  ·rw[Zs5 r f.1];exact CW r a f.1 b
  ·exact Um a b t f.2 c hu
def inV(x:V)(xs:List V):Bool:=xs.any λy=>Zq y x
def rIn(K:aC)(a:Bool):R2:=λx y H Q=>∃p xs,y=.ref p/\(cB K H p xs\/fY K H p xs)/\qQ x=true/\xs.all qQ=true/\Q (.bl (if a then !inV x xs else inV x xs)) H
theorem YH:Ag X (compareOp .In) (rIn X.K false):=by
 intro f s i H x y v u Q I d g h;obtain⟨p,j,rfl,hq,e,fs,q⟩:=h;cases g;rcases hq with hq | hq
 ·obtain⟨a,r,b,hz⟩:=I.list hq;refine SeqAt.in_listAt (eqU x) b.isList (λw c=>Um d e r fs w (by simpa using c)) ⟨.bl _,H,I,rfl,?_⟩;rw[show a.toArray.any (eqU x)=a.any (eqU x) by simp,Zda r fs];exact q
 ·obtain⟨a,r,b,hz⟩:=I.tuple hq;refine SeqAt.in_tupleAt (eqU x) b (λw c=>Um d e r fs w (by simpa using c)) ⟨.bl _,H,I,rfl,?_⟩;rw[show a.toArray.any (eqU x)=a.any (eqU x) by simp,Zda r fs];exact q
theorem Zd8:Lp X (.builtin "len") (λxs H Q=>∃p b,xs=[.ref p]/\(cB X.K H p b\/fY X.K H p b)/\Q (.int b.length) H):=by
 intro f s i H xs us Q I r h;obtain⟨p,b,rfl,hq,q⟩:=h;obtain⟨u,rfl,g⟩:=vals1 r;cases g;have hn:=Jl;rcases hq with hq | hq
 ·obtain⟨d,e,c,hz⟩:=I.list hq;have a:=e.length;exact Calls.call_len_list c.isList (by simp only[List.size_toArray]<;>omega) ⟨.int b.length,H,I.tok _,⟨s.toks+1,by rw[List.size_toArray,a]⟩,q⟩
 ·obtain⟨d,e,c,hz⟩:=I.tuple hq;have a:=e.length;exact len_tuple c (by simp only[List.size_toArray]<;>omega) ⟨.int b.length,H,I.tok _,⟨s.toks+1,by rw[List.size_toArray,a]⟩,q⟩
theorem K8:Lp X (.type "list") (λxs H Q=>∃p d,xs=[.ref p]/\(cB X.K H p d\/fY X.K H p d)/\∀l,H l=none->Q (.ref l) (upd H l (.lst d))):=by
 intro i s v H xs us Q I r h;obtain⟨p,d,rfl,hq,q⟩:=h;obtain⟨u,rfl,x⟩:=vals1 r;cases x;have fin:∀(a:AC),Vals d a->d.length<=sizeLine->∀(c:Heap) (g:Nat),(∀b t,s.heap.get? b=some t->c.get? b=some t)->
   c.get? s.heap.objs.size=some { cls:=.type "list",dict:=none,data:=.seq a.toArray g,slots:=#[] }->EP X i v Q (.ref s.heap.objs.size) { s with heap:=c }:=λa f hz c g kp e=>
  ⟨.ref s.heap.objs.size,_,I.laid (t':=s.toks) kp Γ (show lO X.prog X.w _ c _ (.lst d)from⟨hz,a,g,f,e⟩),rfl,q _ (I.hok.fresh Γ)⟩
 rcases hq with hq | hq
 ·obtain⟨a,f,k,hz⟩:=I.list hq;have j:=f.length;obtain⟨o,m,hc,n,hd⟩:=k.isList;exact call_list_seq p (.inl rfl) m hc hd (λc g kp e=>fin a f hz c g kp e) (by simp only[List.size_toArray]<;>omega)
 ·obtain⟨a,f,k,hz⟩:=I.tuple hq;have j:=f.length;obtain⟨o,m,hc,n,hd⟩:=k;exact call_list_seq p (.inr rfl) m hc hd (λc g kp e=>fin a f hz c g kp e) (by simp only[List.size_toArray]<;>omega)
def tyV(K:aC)(T:String)(x:V)(H:Hp):Prop:=match x with
 | .str _=>T="str"
 | .int _=>T="int"
 | .ref p=>(T="list"/\∃xs,cB K H p xs)\/(T="tuple"/\∃o,K.lookup p=some o/\o.cls=.type "tuple"/\o.dict=none)\/
   (T="dict"/\((∃a,H p=some (.dK a))\/∃a,H p=some (.dT a)))\/(T="set"/\∃S n,H p=some (.set S n))
 | _=>False
theorem Zwr{b:At}{σ:St}{H:Hp}{s:AJ}{T:String}{x:V}{v:AI}(I:Inv X b σ H s)(r:RelV x v)(ty:tyV X.K T x H):
  s.TypeIs v T/\∀a,v=.ref a->∃ob,s.heap.get? a=some ob/\ob.dict=none:=by
 cases x with
 | str z=>
  obtain⟨t,rfl⟩:=r;cases (show T="str" from ty);exact⟨typeIs_str s z t,λ_ e=>nomatch e⟩
 | int i=>
  obtain⟨t,rfl⟩:=r;cases (show T="int" from ty);exact⟨typeIs_int s i t,λ_ e=>nomatch e⟩
 | ref p=>
  cases r;rcases ty with ⟨rfl,j,hq⟩ | ⟨rfl,o,hk,hc,hd⟩ | ⟨rfl,hk⟩ | ⟨rfl,S,n,hk⟩
  ·obtain⟨h,_,g,_⟩:=I.list hq;refine⟨g.isList.typeIs,λa e=>?_⟩;cases e;obtain⟨o,n,e,c,hd,_⟩:=g;exact⟨o,e,hd⟩
  ·refine⟨⟨o,I.Gg p o hk,hc⟩,λa e=>?_⟩;cases e;exact⟨o,I.Gg _ o hk,hd⟩
  ·have z:∃o,s.heap.get? p=some o/\o.ExactDict:=by
    rcases hk with ⟨f,hk⟩ | ⟨f,hk⟩
    ·obtain⟨_,_,_,_,o,_,_,e,ex,_⟩:=I.hok p _ hk;exact⟨o,e,ex⟩
    ·obtain⟨_,_,_,_,o,_,_,e,ex,_⟩:=I.hok p _ hk;exact⟨o,e,ex⟩
   obtain⟨o,e,ex⟩:=z;refine⟨⟨o,e,ex.1⟩,λa d=>?_⟩;cases d;exact⟨o,e,ex.2.1⟩
  ·obtain⟨o,_,_,_,e,ex,_⟩:=I.hok p _ hk;refine⟨⟨o,e,ex.1⟩,λa d=>?_⟩;cases d;exact⟨o,e,ex.2.1⟩
 | _=>exact False.elim ty
def tBM(K:aC)(T:String)(r:V->List V->Hp->VK->Prop)(to:TE)(t:TA):TE:=λσ H Q=>to σ H λx a=>tyV K T x a/\t σ a λxs b=>r x xs b Q
variable {o e:AM}{es:AF}{to:TE}{t:TA}{name:Str}{apos cpos:Pos}{T id:String}{r:V->List V->Hp->VK->Prop}
theorem Fg(u:PlainAttrs T)(slot:Slot T name id)(i:typeOf (.builtin id)=pure (.type "method_descriptor"))(hm:MtR X id r)(p:PE X o to)(y:PA X (e::es) t)
  (d:attributeBase o name X.env (eval o X.env)=eval o X.env:=by rfl)
  (f:((backTo cpos (starEach (e::es) X.env)).all (λx=>!x.1) && (backToKw cpos (keywordEach [] X.env)).all (λx=>x.1.isSome)
   && decide ((e::es).length+([]:List Keyword).length+(if ([]:List Keyword).isEmpty then 0 else 1)<30))=true:=by rfl)
  (c:(apos.endLine == cpos.line)=true:=by rfl) (hs:starEach (e::es) X.env=(false,eval e X.env)::starEach es X.env:=by rfl) (b:(backTo cpos (starEach es X.env)).any (·.1)=false:=by rfl):
  PE X (.Call (.Attribute o name apos) (e::es) [] cpos) (tBM X.K T r to t):=by
 intro a s g H Q I h;refine wpAny_Call_method_late d f c rfl (jL (p a s g H _ I h) λv q qb=>?_);obtain⟨x,H1,I1,r1,ty,q1⟩:=qb;obtain⟨h1,h2⟩:=Zwr I1 r1 ty;refine⟨T,id,u,slot,i,h1,h2,?_⟩;have j:=y cpos a q g H1 _ I1 q1;rw[hs]at j ⊢;refine Calls.callWith_builtin (by show(false || (backTo cpos (starEach es X.env)).any (·.1))=false;rw[b]<;>rfl) (Calls.evalArgs_plain ?_);exact jL j (by rintro us w ⟨k,m,l,n,z⟩;exact hm a w g m x k v us Q l r1 n z)
end
def MtM(X:Cx)(id:String)(r:V->List V->Hp->VK->Prop):Prop:=
 ∀(a:At) (s:AJ) (σ:St) (H:Hp) (x:V) (xs:List V) (v:AI) (us:AC) (Q:VK),Inv X a σ H s->RelV x v->Vals xs us->r x xs H Q->
  wpAny ς X.A (call (.builtin id) (v::us)) (EP X a σ Q) X.xe s
theorem Vals.one:∀{x:V}{us:AC},Vals [x] us->∃u,us=[u]/\RelV x u
 | _,_,.cons r .nil=>⟨_,rfl,r⟩
theorem Vals.eraseIdx:∀{xs:List V}{us:AC} (i:Nat),Vals xs us->Vals (xs.eraseIdx i) (us.eraseIdx i)
 | _,_,_,.nil=>.nil
 | _,_,0,.cons _ t=>t
 | _,_,i+1,.cons r t=>.cons r (Vals.eraseIdx i t)
theorem Vals.rep{xs:List V}{us:AC}(h:Vals xs us):∀k:Nat,Vals (List.replicate k xs).flatten (List.replicate k us).flatten
 | 0=>.nil
 | k+1=>by
  rw[List.replicate_succ,List.replicate_succ,List.flatten_cons,List.flatten_cons];exact Vals.append h (Vals.rep h k)
theorem Y4{a:Type}:∀(l:List a) (i:Nat),(l.eraseIdx i).length<=l.length
 | [],_=>Nat.le_refl _
 | _::_,0=>Nat.le_succ _
 | _::r,i+1=>Nat.succ_le_succ (Y4 r i)
theorem foldl_rep(a:AC):∀(k:Nat) (acc:AC),
  List.foldl (λb c=>b++c) acc.toArray (List.replicate k a.toArray)=(acc++(List.replicate k a).flatten).toArray
 | 0,acc=>ζ
 | k+1,acc=>by
  have e:acc.toArray++a.toArray=(acc++a).toArray:=ζ
  have d:(acc++a)++(List.replicate k a).flatten=acc++(List.replicate (k+1) a).flatten:=by
   rw[List.replicate_succ,List.flatten_cons,List.append_assoc]
  rw[<- d,<- foldl_rep a k (acc++a),<- e,List.replicate_succ,List.foldl_cons]
section
variable {X:Cx}{pins:At}{σ:St}{H:Hp}{s:AJ}{l b:AH}{xs ys zs:List V}
theorem Inv.Zxy{a its':AC}{n:Nat}{f:Array AI->Array AI}{t':Nat}(I:Inv X pins σ H s)(c:H l=some (.lst xs))
  (e:s.heap.get? l=some { cls:=.type "list",data:=.seq a.toArray n }) (b:f a.toArray=its'.toArray) (hv:Vals ys its') (hz:ys.length<=sizeLine):
  Inv X pins σ (upd H l (.lst ys)) { s with heap:=s.heap.update l (Obj.mapSeq f),toks:=t' }:=by
 have q:=PySem.IsL.update e f;rw[b]at q;refine I.write (x:=l) (e:=l) (by rw[c];exact trivial) (.inl rfl) (λd u hb hu=>(Heap.get?_update_other s.heap (Obj.mapSeq f) (Ne.symm hb)).trans hu) ⟨_,q⟩ ?_;exact⟨hz,its',_,hv,q⟩
theorem Inv.ZAk{a:AC}{t':Nat}(I:Inv X pins σ H s)(hv:Vals ys a)(hz:ys.length<=sizeLine):
  Inv X pins σ (upd H s.heap.objs.size (.lst ys)) { s with heap:=s.heap.push { cls:=.type "list",data:=.seq a.toArray },toks:=t' }:=
 I.laid (λ_ _ q=>Heap.get?_push_of_some _ q) Γ ⟨hz,a,0,hv,Heap.get?_push_size _ rfl⟩
theorem Inv.fresh(I:Inv X pins σ H s):H s.heap.objs.size=none:=I.hok.fresh Γ
theorem Inv.Zjd(I:Inv X pins σ H s)(b:H l=some (.lst xs)):xs.length<=sizeLine/\∃(a:AC) (n:Nat),Vals xs a/\xs.length=a.length/\s.heap.get? l=some { cls:=.type "list",data:=.seq a.toArray n }:=by
 obtain⟨z,a,n,r,e⟩:=I.hok l _ b;exact⟨z,a,n,r,r.length,e⟩
theorem Zey{n:Nat}(h:n<=sizeLine):Builtin.List.listTooLong n=false:=by
 unfold Builtin.List.listTooLong;exact decide_eq_false δ
end
section
variable {X:Cx}
def vB:V->List V->Hp->VK->Prop:=λx vs H Q=>∃l xs y,x=.ref l/\vs=[y]/\H l=some (.lst xs)/\xs.length<sizeLine/\Q .non (upd H l (.lst (xs++[y])))
theorem tV:MtM X "list.append" vB:=by
 intro c s j H x i v us Q I f g h;obtain⟨l,k,y,rfl,rfl,b,hz,q⟩:=h;cases f;obtain⟨u,rfl,d⟩:=g.one;obtain⟨z,a,n,r,hl,e⟩:=I.Zjd b;refine call_meets F.slot_list_append ⟨_,e,rfl⟩ F.entry_list_append (F.args_list_append_2 _ _) (PySem.list_append l a.toArray n u (by rw[List.size_toArray];omega)) ⟨e,?_⟩;refine⟨.non,_,I.Zxy (its':=a++[u]) b e ζ (r.append (.cons d .nil)) ?_,rfl,q⟩;rw[List.length_append,List.length_singleton];omega
def Rm:V->List V->Hp->VK->Prop:=λx vs H Q=>∃l b xs a,x=.ref l/\vs=[.ref b]/\H l=some (.lst xs)/\H b=some (.lst a)/\xs.length+a.length<=sizeLine/\Q .non (upd H l (.lst (xs++a)))
theorem Nr:MtM X "list.extend" Rm:=by
 intro i s B H x y v us Q I o w h;obtain⟨l,b,D,A,rfl,rfl,g,j,hz,q⟩:=h;cases o;obtain⟨u,rfl,m⟩:=w.one;cases m;obtain⟨z,c,n,r,hl,e⟩:=I.Zjd g;obtain⟨C,a,n2,k,p,t⟩:=I.Zjd j;have d:c.toArray.size+a.toArray.size<=sizeLine:=by rw[List.size_toArray,List.size_toArray];omega
 have f:¬ (!c.toArray.isEmpty && Builtin.List.listTooLong (c.toArray.size+a.toArray.size))=true:=by
  rw[Zey d,Bool.and_false];exact Bool.false_ne_true
 refine call_meets F.slot_list_extend ⟨_,e,rfl⟩ F.entry_list_extend (F.args_list_extend_2 _ _)
  (AutoSeq1.list_extend_list_list_0 l c.toArray n b a.toArray n2 f (by rw[List.size_toArray];omega) δ) ⟨e,t,?_⟩
 refine⟨.non,_,I.Zxy (its':=c++a) g e ζ (r.append k) ?_,rfl,q⟩;rw[List.length_append];omega
def Zpc:V->List V->Hp->VK->Prop:=λx vs H Q=>∃l xs i k y,x=.ref l/\vs=[.int i]/\H l=some (.lst xs)/\-(2 ^ 63)<=i/\i<2 ^ 63/\seqIndex? i xs.length=some k/\xs[k]? =some y/\Q y (upd H l (.lst (xs.eraseIdx k)))
theorem Zql:MtM X "list.pop" Zpc:=by
 intro d s A H x p v us Q I g j h;obtain⟨l,o,i,k,y,rfl,rfl,c,h1,h2,hk,hy,q⟩:=h;cases g;obtain⟨u,rfl,f⟩:=j.one;obtain⟨t,rfl⟩:=f;obtain⟨z,a,n,r,hl,e⟩:=I.Zjd c;obtain⟨w,m,b⟩:=r.get hy;refine call_meets F.slot_list_pop ⟨_,e,rfl⟩ F.entry_list_pop (F.args_list_pop_2 _ _)
  (MeetsSeq.list_pop_at l a.toArray n i t k w (fitsIndex_both h1 h2) (by rw[List.size_toArray,<- hl];exact hk) (by rw[<- Array.getElem?_toList];exact m) (by rw[List.size_toArray];omega)) ⟨e,?_⟩
 refine⟨y,_,I.Zxy (its':=a.eraseIdx k) c e ?_ (r.eraseIdx k) ?_,b,q⟩
 ·show a.toArray.eraseIdxIfInBounds k=(a.eraseIdx k).toArray;rw[List.eraseIdxIfInBounds_toArray]
 ·have:=Y4 o k;omega
def wK:R2:=λx y H Q=>∃l b xs a,x=.ref l/\y=.ref b/\H l=some (.lst xs)/\H b=some (.lst a)/\xs.length+a.length<=sizeLine/\∀p,H p=none->Q (.ref p) (upd H p (.lst (xs++a)))
theorem qJ:Ag X (binaryOp .Add) wK:=by
 intro d s w H x y v u Q I k i h;obtain⟨l,b,B,t,rfl,rfl,f,g,hz,q⟩:=h;cases k;cases i;obtain⟨z,c,n,r,hl,e⟩:=I.Zjd f;obtain⟨A,a,n2,j,m,o⟩:=I.Zjd g;refine PySem.P.add_list e o ?_ (by rw[List.size_toArray,List.size_toArray];omega);have p:c.toArray++a.toArray=(c++a).toArray:=ζ
 rw[p];exact⟨.ref _,_,I.ZAk (t':=s.toks) (r.append j) (by rw[List.length_append];omega),rfl,q _ I.fresh⟩
def Zei:R2:=λx y H Q=>∃l k xs,x=.ref l/\y=.int k/\H l=some (.lst xs)/\-(2 ^ 63)<=k/\k<2 ^ 63/\xs.length * k.toNat<=sizeLine/\
 ∀p,H p=none->Q (.ref p) (upd H p (.lst (List.replicate k.toNat xs).flatten))
theorem len_rep{a:Type}(xs:List a)(k:Nat):(List.replicate k xs).flatten.length=k * xs.length:=by
 induction k with
 | zero=>simp
 | succ k ih=>rw[List.replicate_succ,List.flatten_cons,List.length_append,ih,Nat.succ_mul,Nat.add_comm]
theorem TF:Ag X (binaryOp .Mult) Zei:=by
 intro p s E H x y v u Q I C B h;obtain⟨l,k,K,rfl,rfl,A,h1,h2,hz,q⟩:=h;cases C;obtain⟨t,rfl⟩:=B;obtain⟨z,b,n,r,hl,e⟩:=I.Zjd A;have f:b.toArray.size * k.toNat<=sizeLine:=by rw[List.size_toArray,<- hl];exact hz
 have c:¬ b.toArray.size * k.toNat > (2 ^ 63 - 1) / 8:=by
  have:(sizeLine:Nat)<=(2 ^ 63 - 1) / 8:=ε
  omega
 have g:¬ (!Builtin.List.listFitsIndex k)=true:=by
  rw[fitsIndex_both h1 h2];exact Bool.false_ne_true
 have o:¬ Builtin.List.listTooLong (b.toArray.size * k.toNat)=true:=by
  rw[Zey f];exact Bool.false_ne_true
 have d:List.foldl (λi j=>i++j) #[] (List.replicate (if b.toArray.isEmpty=true then 0 else k.toNat) b.toArray)=(List.replicate k.toNat b).flatten.toArray:=by
  have w:∀m:Nat,List.foldl (λi j=>i++j) #[] (List.replicate m b.toArray)=(List.replicate m b).flatten.toArray:=λm=>by
   have:=foldl_rep b m [];rw[List.nil_append]at this;exact this
  rw[w];cases b with
  | nil=>simp
  | cons a J=>rw[if_neg ζ]
 refine wpAny_binaryOp_repeat_ref (T:="list") (U:="int") ε ⟨_,e,rfl⟩ (λD=>typeIs_int D k t) noFill_list_mul F.fills_int_mul F.slot_int_rmul repeat_list F.slot_int_index.lookup
  (call_meets F.slot_int_rmul (typeIs_int s k t) F.entry_int_rmul (F.args_int_rmul_2 _ _) (int___rmul___int_list k t l b.toArray n)
   ⟨e,rfl,⟨_,e,rfl⟩,call_meets F.slot_list_mul ⟨_,e,rfl⟩ F.entry_list_mul (F.args_list_mul_2 _ _) (AutoListH.list___mul___list_int_3 l b.toArray n k t g c o) ⟨e,?_⟩⟩)
 rw[d];exact⟨.ref _,_,I.ZAk (t':=s.toks) (r.rep k.toNat) (by rw[len_rep,Nat.mul_comm];exact hz),rfl,q _ I.fresh⟩
end
section
variable {prog:AL}{w:AN}{A:Around}{E:Ap}{s:AJ}
end
section
variable {X:Cx}
end
end L2
namespace Att
open PySem PySem.W PySem.Calls PyProof.Rows
theorem Q4{P:Params}{h:Heap}:∀(ns:AD) (vs:AC),WellAll P h vs (ns.map WData.int)->IntsAre vs ns:=by
 intro ns
 induction ns with
 | nil=>
  intro vs w;rw[List.map_nil]at w;cases w;exact .nil
 | cons n ns ih=>
  intro vs w;rw[List.map_cons]at w;cases w with
  | cons a b=>
   cases a;exact .cons _ _ (ih _ b)
theorem Zmd{l:OpenLaw}{n:Nat}(hn:l.most=some n){P:Params}{h:Heap}{b:List WData}{c:AC}
  (e:l.row.toRowW.claim.pre b=true) (i:WellAll P h c b):
  ∃a vs ns,c=[Value.ref a]/\b=[WData.list (ns.map WData.int)]/\h.get? a=some { cls:=.type "list",data:=.seq vs.toArray }/\IntsAre vs ns/\ns.length<=n:=by
 have j:WShape.hasAll [] b [.list .int]=true:=(pre_splitW e).1;have hc:l.pre.holds [] { args:=b }=true:=(pre_splitW e).2;obtain⟨d,r,rfl,h1,h2⟩:=hasAllW_cons j;obtain rfl:=hasAllW_nil h2;obtain⟨s,rfl,h3⟩:=hasW_list h1;obtain⟨ns,rfl⟩:=items_int h3;have g:ns.length<=n:=by
  unfold OpenLaw.pre at hc;have h4:(WTm.not (.lt (.lit (.int (n:Int))) (.len (.arg 0)))).holds [] { args:=[.list (ns.map .int)] }=true:=by
   have h4:=(holds_andW hc).1;rw[hn]at h4;exact h4
  have h5:=condW_of h4 (w_not (w_lt w_lit (w_len_list (w_arg rfl))));rw[bB]at h5;refine Nat.le_of_not_lt λq=>?_;have p:(n:Int)<((ns.length:Nat):Int):=δ
  first
   | (rw[decide_eq_true p]at h5;exact absurd h5 ε)
   | (simp at h5;omega)
 cases i with
 | cons o m=>
  cases m;cases o with
  | list k f=>exact⟨_,_,ns,rfl,rfl,k,Q4 ns _ f,g⟩
theorem Zmm(l:OpenLaw)(a:List WData):l.row.toRowW.claim.post a (.bool true) a=true:=
 postW_of (r:=l.row.toRowW) (X:=(true == true))
  (show WShape.has [] (.bool true) .bool=true by first | rfl | decide | simp[WShape.has,WShape.arms,WShape.armsAll])
  (show(WTm.eq .res (.lit (.bool true))).value [] { args:=a,res:=some (.bool true),after:=a }=some (.bool (true == true))from w_eq_bool (w_res rfl) w_lit) rfl
theorem Zgh{l:OpenLaw}{n:Nat}{q:AL}{c:AG}{C:(As)->Heap->Prop}{A:AN->Heap->Prop}{d:DefRec}
  (hn:l.most=some n) (v:d.params.defaults=[])
  (call:∀(w:AN) (s₀ b:AJ) (mg t:As) (fa:AH) (o:Obj) (u k g:AI) (a:AH) (vs:AC) (ns:AD),
   Ground q c [] C w s₀ mg t b.heap->A w b.heap->
   b.heap.get? fa=some o->o.data=.func (docDef d.name d.params d.body d.scope u k g)->b.heap.CodeRec k d.name->mg d.name=↑fa->
   b.heap.get? a=some { cls:=.type "list",data:=.seq vs.toArray }->IntsAre vs ns->ns.length<=n->b.gens=#[]->
   codeAny (model l.prog w) callerA (.call (.ref fa) ⟨[.ref a],[]⟩) (λr s'=>r=.ok (.ret (.bool true))/\OldK b.heap s'.heap/\s'.os=b.os/\AllBare s'.gens) b):
  WalkO q c C A l.row.toRowW d [] (λf vs=>PySem.call f vs):=by
 intro w s₀ b mg t G Y fa o u k g dV kV F hd m B s E z y I i x H p D;obtain rfl:dV=.none:=Dflts.none B v;obtain rfl:kV=.none:=Dflts.noKw B;obtain⟨a,vs,ns,rfl,rfl,h,e,j⟩:=Zmd hn i p;refine enter_call (codeAny_mono (call w s₀ b mg t fa o u k g a vs ns G Y F (fd_plain hd) m s h e j E) λr s' hq=>?_);obtain⟨rfl,h2,h3,h4⟩:=hq;exact⟨.inl ⟨.bool true,.bool true,[],rfl,λ_=>rfl,.bool true,Zmm l _,λ_=>⟨List.Pairwise.nil,λ_ hm=>(nomatch hm)⟩⟩,h2,h3,h4⟩
section
variable {prog:AL}{w:AN}{A:Around}{E:Ap}{s:AJ}{K:Frag}
end
end Att
namespace L2
open PySem PySem.Spec PyProof.Rows
theorem Yh:∀{vs:AC}{ns:AD},IntsAre vs ns->Vals (ns.map V.int) vs
 | _,_,.nil=>.nil
 | _,_,.cons n t h=>.cons ⟨t,rfl⟩ (Yh h)
def Only(H:Hp):Prop:=∀b,H b=none\/∃o xs,H b=some (.Aq o (.lst xs))
theorem Zr6{P:AL}{w:AN}{K:aC}{mg M:As}{CX:CXT}{k:Nat}{fa a:AH}{fd:AK}{x:Str}{sp:Sp}{c:AJ}{vs:AC}{ns:AD}
  (U:K.In c.heap) (p:c.heap.Ns mainGlobals mg) (hb:c.heap.Ns builtinsNs M) (L:∀x:Str,x≠"__name__"->M x=bootBuiltins x) (D:c.heap.NoLimit) (hg:c.gens=#[])
  (E:c.heap.get? a=some { cls:=.type "list",data:=.seq vs.toArray }) (T:IntsAre vs ns) (hl:ns.length<=sizeLine) (hr:Room k callerA)
  (F:∀base:Heap,K.In base->base.Ns mainGlobals mg->xJ P w K mg base CX k fa fd [x] sp) (i:∀(s:AJ) (u:AI),BindsTo s fd ⟨[u],[]⟩ [(x,u)])
  (O:∀H:Hp,Only H->cB K H a (ns.map V.int)->sp [.ref a] H (λv _=>v=.bl true) λ_ _ _=>False)
  (J:∀H e s',CX [] H c (λ_ _ _=>False) e s'->False):
  codeAny (model P w) callerA (.call (.ref fa) ⟨[.ref a],[]⟩) (λr s'=>r=.ok (.ret (.bool true))/\OldK c.heap s'.heap/\s'.os=c.os/\AllBare s'.gens) c:=by
 have Q:=Yh T;have t:=T.length;have g:∀H:Hp,Only H->cB K H a (ns.map V.int)->Gy P w H c.heap->(∀b,H b≠none->b=a)->(H a≠none->K.lookup a=none)->
   codeAny (model P w) callerA (.call (.ref fa) ⟨[.ref a],[]⟩) (λr s'=>r=.ok (.ret (.bool true))/\OldK c.heap s'.heap/\s'.os=c.os/\AllBare s'.gens) c:=by
  intro H S hS hok R hK;have C:∀{b:AH}{o:Obj},c.heap.get? b=some o->H b=none->(Zcl c.heap H).get? b=some o:=λe n=>Zro e n;have I:∀{b:AH}{o:Obj}{l:Array DictEntry}{B:Nat},c.heap.get? b=some o->o.data=.dict l B->H b=none:=λ{b o l B} e d=>by
   cases q:H b with
   | none=>rfl
   | some u=>
    have N:b=a:=R b (by rw[q];simp);subst N;rw[E]at e;cases e;have d':Data.seq vs.toArray _=Data.dict l B:=d;cases d'
  have f:∀{b:AH}{m:As},c.heap.Ns b m->(Zcl c.heap H).Ns b m:=λ{b m} ⟨o,l,B,e,d,r⟩=>⟨o,l,B,C e (I e d),d,r⟩;have A:K.In (Zcl c.heap H):=λb o e=>C (U b o e) (by
   cases q:H b with
   | none=>rfl
   | some u=>
    have N:b=a:=R b (by rw[q];simp);subst N;rw[hK (by rw[q];simp)]at e;cases e)
  have Z:Mod K mg (Zcl c.heap H):=⟨A,f p,⟨M,f hb,L⟩,let ⟨mc,h1,h2⟩:=D;⟨mc,f h1,h2⟩⟩;have Y:Zkx P w K mg (Zcl c.heap H) callerA [] c H:=⟨rfl,Z,λb o e=>Zuh e,Nat.le_of_eq (Znt _ _),trivial,λb hb=>absurd (show b∈([]:AE)from hb) ζ,hok,.of_eq hg⟩;refine codeAny_mono ((F _ A (f p)).run callerA [] c H ⟨[.ref a],[]⟩ [.ref a] [.ref a] _ _ hr Y (i c (.ref a)) (.cons rfl .nil) (O H S hS)) λr s' h=>?_;cases r with
  | error e=>exact(J H e s' h).elim
  | ok fl=>
   cases fl with
   | next=>exact False.elim h
   | brk=>exact False.elim h
   | cont=>exact False.elim h
   | ret u=>
    obtain⟨v,H',os,bare,un,y,r',q⟩:=h;have X:v=.bl true:=q;subst X;obtain rfl:u=Value.bool true:=r';refine⟨rfl,OldK.of_keep λb o e=>?_,os,bare⟩;cases q:H b with
    | none=>exact un.keep b o e q (by intro z;exact absurd (show b∈([]:AE)from z) ζ) ζ
    | some u=>
     rcases S b with z | ⟨ob,xs,z⟩
     ·rw[q]at z;cases z
     ·have z2:=un.Oh b ob _ z;obtain⟨W,_⟩:=hok b _ z;obtain⟨e2,_⟩:=y b _ z2;rw[e]at W;cases W;exact e2
 cases hk:K.lookup a with
 | some o=>
  have e:=U a o hk;rw[E]at e;cases e;refine g (λ_=>none) (λ_=>.inl rfl) (.inr ⟨_,vs.toArray,_,hk,rfl,rfl,rfl,by rw[List.size_toArray,t];exact hl,by simpa using Q⟩) (λb u z=>by have j:(none:Option HO)=some u:=z;cases j) (λb z=>absurd rfl z) λz=>absurd rfl z
 | none=>
  refine g (λb=>if b=a then some (.Aq { cls:=.type "list",data:=.seq vs.toArray } (.lst (ns.map V.int)))else none) (λb=>?_) (.inl (.inr ⟨{ cls:=.type "list",data:=.seq vs.toArray },if_pos rfl⟩)) (λb u z=>?_) (λb z=>?_) λ_=>hk
  ·by_cases hb:b=a
   ·exact .inr ⟨_,_,if_pos hb⟩
   ·exact .inl (if_neg hb)
  ·by_cases hb:b=a
   ·have j:=(if_pos hb).symm.trans z;cases j;subst hb;exact⟨E,by rw[bB];exact hl,vs,_,Q,E⟩
   ·have j:=(if_neg hb).symm.trans z;cases j
  ·by_cases hb:b=a
   ·exact hb
   ·exact absurd (if_neg hb) z
theorem Zsv{l:W.OpenLaw}{n k:Nat}{q:AL}{j:AG}{L:(As)->Heap->Prop}{B:AN->Heap->Prop}{d:DefRec}{K:Params->aC}{CX:AN->CXT}{sp:AN->Sp}{x:Str}
  (hn:l.most=some n) (y:n<=sizeLine) (A:d.params.defaults=[]) (hr:Room k callerA)
  (M:∀(w:AN) (h:Heap),B w h->(K w.params).In h)
  (F:∀(w:AN) (mg:As) (fa:AH) (h:Heap),(K w.params).In h->h.Ns mainGlobals mg->mg d.name=↑fa->
   ∃fd:AK,(∀(s:AJ) (u:AI),BindsTo s fd ⟨[u],[]⟩ [(x,u)])/\
    ∀base:Heap,(K w.params).In base->base.Ns mainGlobals mg->xJ l.prog w (K w.params) mg base (CX w) k fa fd [x] (sp w))
  (r:∀(w:AN) (H:Hp) (a:AH) (ns:AD),ns.length<=n->Only H->cB (K w.params) H a (ns.map V.int)->sp w [.ref a] H (λv _=>v=.bl true) λ_ _ _=>False)
  (z:∀(w:AN) (H:Hp) (s:AJ) (e:AI) (s':AJ),CX w [] H s (λ_ _ _=>False) e s'->False):
  W.WalkO q j L B l.row.toRowW d [] (λf vs=>PySem.call f vs):=by
 refine Att.Zgh hn A λw s₀ p mg Q fa o S P O a vs ns G Y R hd E t m i c I=>?_;have C:=M w _ Y;obtain⟨fd,hb,J⟩:=F w mg fa _ C G.T.g t;exact Zr6 C G.T.g G.T.b G.T.builtins G.T.nolimit I m i (Nat.le_trans c y) hr J hb (λH D N=>r w H a ns c D N) λH e s'=>z w H p e s'
def inClass(s:Stmt)(j:Nat):Stmt:=match s with
 | .ClassDef _ _ _ a _ _ _ _ _ _ _=>a.getD j (.Pass ⟨0,0,0,0⟩)
 | _=>.Pass ⟨0,0,0,0⟩
def o5(s:Stmt):Arguments:=match s with
 | .FunctionDef _ a _ _ _ _ _ _ _ _=>a
 | _=>{ posonlyargs:=[],args:=[],vararg:=none,kwonlyargs:=[],kw_defaults:=[],kwarg:=none,defaults:=[] }
def lU(s:Stmt):List Stmt:=match s with
 | .FunctionDef _ _ b _ _ _ _ _ _ _=>b
 | _=>[]
def aJ(s:Stmt):Scope:=match s with
 | .FunctionDef _ _ _ _ _ _ a _ _ _=>a
 | _=>{ kind:=.function,names:=[],isGenerator:=false,isCoroutine:=false }
abbrev E0:XK:=λ_ _ _=>False
structure jJ(K:aC)(x qual:Str)(st:Stmt)(f:AH)(fd:AK):Prop where
 ex:∃(oc:AI) (od:Option AH) (kV doc pm:AI) (an:Option AH) (cdv ct:AI) (osl:Array AB),
  fd=W.fnOf x qual (o5 st) (lU st) (aJ st) .none kV doc pm an cdv ct/\K.lookup f=some ⟨oc,od,.func fd,osl⟩/\W.codeIn K cdv qual=true
 kp:W.keepIn K (.ref f)=true
section
variable {P:AL}{w:AN}{K:aC}{mg:As}{base:Heap}
theorem jJ.binds{x a:Str}{st:Stmt}{f:AH}{fd:AK}{ps:AG}(F:jJ K x a st f fd)
  (h:∀(kV c e:AI) (d:Option AH) (b ct:AI) (us:AC),us.length=ps.length->bindArgs (W.fnOf x a (o5 st) (lU st) (aJ st) .none kV c e d b ct) ⟨us,[]⟩=pure (ps.zip us)):Binds K fd ps []:=by
 obtain⟨oc,od,kV,c,e,d,b,ct,i,rfl,lk,g⟩:=F.ex;exact .all (h kV c e d b ct)
theorem Zry{x a:Str}{st:Stmt}{f:AH}{oc:AI}{od h:Option AH}{e:Array AB}{kV d g b ct:AI}(l:K.lookup f=some ⟨oc,od,.func (W.fnOf x a (o5 st) (lU st) (aJ st) .none kV d g h b ct),e⟩)
  (c:W.codeIn K b a=true) (k:W.keepIn K (.ref f)=true):jJ K x a st f (W.fnOf x a (o5 st) (lU st) (aJ st) .none kV d g h b ct):=⟨⟨oc,od,kV,d,g,h,b,ct,e,rfl,l,c⟩,k⟩
end
theorem wW{A:Around}{k:Nat}(hr:Room k A):A.units+1<cLine:=Nat.lt_of_le_of_lt (Nat.add_le_add_left (by decide:1<=64) _) hr.units
section
variable {X:Cx}
theorem pv(i:Nat){x:Str}{b:Pos}(c:X.N[i]? =some x:=by rfl)(hv:Vis X.env.scope x:=by first | exact Or.inl rfl | exact Or.inr (Or.inl rfl) | exact Or.inr (Or.inr rfl))(hd:(x == ("__debug__":Str))=false:=by decide)
  (a:(x == ("__classdict__":Str))=false:=by decide):PE X (.Name x b) (ak i):=Zpt c hv hd a
end
theorem Zuy{A B:Prop}(h:B):if false=true then A else B:=by
 rw[if_neg Bool.false_ne_true];exact h
theorem Zjj{A B:Prop}(h:A):if true=true then A else B:=by
 rw[if_pos rfl];exact h
theorem Zy7{c A B:Prop} [Decidable c](h1:c->A)(h2:¬ c->B):if c then A else B:=by
 by_cases h:c
 ·rw[if_pos h];exact h1 h
 ·rw[if_neg h];exact h2 h
def aU(H H':Hp):Prop:=∀b o,H b=some o->H' b=some o
theorem aU.refl(H:Hp):aU H H:=λ_ _ h=>h
theorem aU.trans{H e d:Hp}(a:aU H e)(b:aU e d):aU H d:=λc o h=>b c o (a c o h)
theorem aU.free{H H':Hp}(e:aU H H'){l:AH}(h:H' l=Option.none):H l=Option.none:=by
 cases q:H l with
 | none=>rfl
 | some o=>
  rw[e l o q]at h;cases h
theorem aU.seq{K:aC}{H H':Hp}{a:AH}{xs:List V}(e:aU H H')(h:cB K H a xs):cB K H' a xs:=by
 rcases h with (h | ⟨o,h⟩) | h
 ·exact .inl (.inl (e _ _ h))
 ·exact .inl (.inr ⟨o,e _ _ h⟩)
 ·exact .inr h
section
variable {X:Cx}{pins:At}{σ:List (Option V)}{H H':Hp}{s:AJ}{h':Heap}
end
section
variable {X:Cx}
variable {a b:AM}{ta tb:TE}{pos:Pos}
variable {tA tB':TT}{rest:AF}
end
section
variable {X:Cx}{a b c:AM}{ta tb tc:TE}{pos:Pos}
end
section
variable {prog:AL}{w:AN}{A:Around}{E:Ap}{s:AJ}{K:aC}{x dx C f:AH}{mA:As}{name:Str}{v:AI}
end
section
variable {X:Cx}{pins:At}{σ:St}{H:Hp}{s:AJ}{a C dx:AH}{fs:List (Str×V)}{f:Str}{v:V}{A:Around}{E:Ap}
end
section
variable {X:Cx}{CX:CXT}{k:Nat}{f C:AH}{fd:AK}{ps:AG}{sp:Sp}{xM:List V}{ds:AC}{E:XK}{x m:Str}{p pos apos:Pos}{e o:AM}{es:AF}{ta:TE}{t:TA}
end
section
variable {X:Cx}{x:Str}{p pos:Pos}{e:AM}{es:AF}{t:TA}{id T:String}{r:List V->Hp->VK->Prop}
end
section
variable {κ:Type} [DecidableEq κ]
def o9(a:List (κ×V))(k:κ):Option V:=(a.find? λkv=>decide (kv.1=k)).map (·.2)
def putK(a:List (κ×V))(k:κ)(v:V):List (κ×V):=
 if (a.any λkv=>decide (kv.1=k))=true then a.map (λkv=>if kv.1=k then(kv.1,v)else kv)else a++[(k,v)]
theorem oJ{p:κ×V}{r:List (κ×V)}{k:κ}(e:p.1=k):o9 (p::r) k=some p.2:=by simp[o9,List.find?_cons,e]
theorem oK{p:κ×V}{r:List (κ×V)}{k:κ}(e:¬ p.1=k):o9 (p::r) k=o9 r k:=by simp[o9,List.find?_cons,e]
theorem DK(k:κ):∀a:List (κ×V),(a.any λkv=>decide (kv.1=k))=(o9 a k).isSome
 | []=>rfl
 | p::r=>by
  rw[List.any_cons]
  by_cases e:p.1=k
  ·simp only[oJ e,decide_eq_true e,Bool.true_or,Option.isSome_some]
  ·rw[oK e,decide_eq_false e,Bool.false_or];exact DK k r
theorem Ze3(k j:κ)(y:V):∀a:List (κ×V),o9 (a.map λkv=>if kv.1=k then(kv.1,y)else kv) j=(o9 a j).map λx=>if j=k then y else x
 | []=>rfl
 | p::r=>by
  have ih:=Ze3 k j y r;rw[List.map_cons]
  by_cases h:p.1=k
  ·rw[if_pos h]
   by_cases e:p.1=j
   ·rw[oJ (p:=(p.1,y)) e,oJ e,Option.map_some,if_pos (e.symm.trans h)]
   ·rw[oK (p:=(p.1,y)) e,oK e,ih]
  ·rw[if_neg h]
   by_cases e:p.1=j
   ·rw[oJ (p:=p) e,oJ e,Option.map_some,if_neg (λz=>h (e.trans z))]
   ·rw[oK (p:=p) e,oK e,ih]
theorem Yi(k j:κ)(y:V):∀a:List (κ×V),o9 a k=none->o9 (a++[(k,y)]) j=if j=k then some y else o9 a j
 | [],_=>by
  by_cases e:k=j
  ·rw[if_pos e.symm];exact oJ (p:=(k,y)) e
  ·rw[if_neg (λz=>e z.symm)];exact oK (p:=(k,y)) e
 | p::r,hn=>by
  rw[List.cons_append];have hk:¬ p.1=k:=λz=>by rw[oJ z]at hn;cases hn
  rw[oK hk]at hn;have ih:=Yi k j y r hn
  by_cases e:p.1=j
  ·rw[oJ e,oJ e,if_neg (λz=>hk (e.trans z))]
  ·rw[oK e,oK e,ih]
theorem Zok(b:List (κ×V))(k j:κ)(y:V):o9 (putK b k y) j=if j=k then some y else o9 b j:=by
 unfold putK
 by_cases a:(b.any λc=>decide (c.1=k))=true
 ·rw[if_pos a,Ze3];rw[DK]at a
  by_cases e:j=k
  ·obtain⟨x,hx⟩:=Option.isSome_iff_exists.mp a;rw[if_pos e,e,hx,Option.map_some,if_pos rfl]
  ·rw[if_neg e];cases o9 b j with
   | none=>rfl
   | some x=>rw[Option.map_some,if_neg e]
 ·rw[if_neg a];refine Yi k j y b ?_;rw[DK]at a;cases q:o9 b k with
  | none=>rfl
  | some x=>rw[q]at a;exact(a rfl).elim
theorem Ge(a:List (κ×V))(k:κ)(v:V):(putK a k v).length<=a.length+1:=by
 unfold putK;split
 ·rw[bB];omega
 ·rw[List.length_append,List.length_cons,List.length_nil];omega
theorem Zpk{a:List (κ×V)}{k:κ}(v:V)(h:o9 a k=none):putK a k v=a++[(k,v)]:=by
 unfold putK;rw[DK,h];exact if_neg ε
theorem Dw.NZ{o:Option V}{u:AB}(r:Dw o u):o.isSome=u.isSome:=by
 cases o with
 | none=>cases u with
  | none=>rfl
  | some _=>exact(show False from r).elim
 | some _=>cases u with
  | none=>exact(show False from r).elim
  | some _=>rfl
theorem Dw.getD{o:Option V}{u:AB}{d:V}{d':AI}(r:Dw o u)(a:RelV d d'):RelV (o.getD d) (u.getD d'):=by
 cases o with
 | none=>cases u with
  | none=>exact a
  | some _=>exact(show False from r).elim
 | some _=>cases u with
  | none=>exact(show False from r).elim
  | some _=>exact r
theorem KV.val{a:List (κ×V)}{vs:List (κ×AI)}(r:KV a vs)(k:κ):Dw (o9 a k) (valueAt vs k):=by
 unfold KV at r
 induction r with
 | nil=>exact True.intro
 | @cons p q f c h t ih=>
  obtain⟨h1,h2⟩:=h
  by_cases e:p.1=k
  ·have d:q.1=k:=h1.symm.trans e;have b:valueAt (q::c) k=some q.2:=by simp[valueAt,List.find?_cons,d]
   rw[oJ e,b];exact h2
  ·have d:¬ q.1=k:=λz=>e (h1.trans z);have b:valueAt (q::c) k=valueAt c k:=by simp[valueAt,List.find?_cons,d]
   rw[oK e,b];exact ih
theorem KV.any{a:List (κ×V)}{vs:List (κ×AI)}(r:KV a vs)(k:κ):(a.any λkv=>decide (kv.1=k))=vs.any λkv=>decide (kv.1=k):=by
 unfold KV at r
 induction r with
 | nil=>rfl
 | cons h t ih=>rw[List.any_cons,List.any_cons,ih,h.1]
theorem KV.repl{a:List (κ×V)}{vs:List (κ×AI)}(r:KV a vs)(k:κ){y:V}{u:AI}(b:RelV y u):
  KV (a.map λkv=>if kv.1=k then(kv.1,y)else kv) (vs.map λkv=>if kv.1=k then(kv.1,u)else kv):=by
 unfold KV at r ⊢
 induction r with
 | nil=>exact .nil
 | @cons p q d c h t ih=>
  rw[List.map_cons,List.map_cons];refine .cons ?_ ih;obtain⟨h1,h2⟩:=h
  by_cases e:p.1=k
  ·rw[if_pos e,if_pos (h1.symm.trans e)];exact⟨h1,b⟩
  ·rw[if_neg e,if_neg (λz=>e (h1.trans z))];exact⟨h1,h2⟩
theorem KV.put{a:List (κ×V)}{vs:List (κ×AI)}(r:KV a vs)(k:κ){y:V}{u:AI}(b:RelV y u):KV (putK a k y) (stored vs k u):=by
 unfold putK stored;rw[r.any k]
 by_cases e:(vs.any λc=>decide (c.1=k))=true
 ·rw[if_pos e,if_pos e];exact r.repl k b
 ·rw[if_neg e,if_neg e];exact Paired.snoc r ⟨rfl,b⟩
theorem KV.length{a:List (κ×V)}{vs:List (κ×AI)}(r:KV a vs):a.length=vs.length:=Paired.length r
end
theorem Zfs{P:AL}{w:AN}{k:Key}{u:AI}(r:RelV (kV k) u):(eG P w).is k u=true:=by
 cases k with
 | inl i=>obtain⟨t,e⟩:=(show ∃t,u=Value.int i t from r);subst e;exact Zfa P w i t
 | inr x=>obtain⟨t,e⟩:=(show ∃t,u=Value.str x t from r);subst e;exact Zf9 P w x t
theorem Y6{P:AL}{w:AN}:∀{a:List Key}{us:AC},Vals (a.map kV) us->ItemsAre (eG P w) a us
 | [],_,r=>by rw[List.map_nil]at r;cases r;exact .nil
 | k::a,_,r=>by
  rw[List.map_cons]at r;cases r with
  | cons h t=>exact .cons (Zfs h) (Y6 t)
abbrev KT(H:Hp):List (List Key×V)->List (List Key×AH×AI)->Prop:=Paired λp q=>p.1=q.1/\H q.2.1=some (.tup (p.1.map kV))/\RelV p.2 q.2.2
theorem KT.val{H:Hp}{a:List (List Key×V)}{xs:List (List Key×AH×AI)}(r:KT H a xs)(k:List Key):Dw (o9 a k) ((atKey xs k).map (·.2)):=by
 induction r with
 | nil=>exact True.intro
 | @cons p q f c h t ih=>
  obtain⟨h1,_,h2⟩:=h
  by_cases e:p.1=k
  ·have d:q.1=k:=h1.symm.trans e;have b:atKey (q::c) k=some q.2:=by simp[atKey,List.find?_cons,d]
   rw[oJ e,b];exact h2
  ·have d:¬ q.1=k:=λz=>e (h1.trans z);have b:atKey (q::c) k=atKey c k:=by simp[atKey,List.find?_cons,d]
   rw[oK e,b];exact ih
theorem KT.repl{H:Hp}{a:List (List Key×V)}{xs:List (List Key×AH×AI)}(r:KT H a xs)(k:List Key){y:V}{u:AI}(b:RelV y u):
  KT H (a.map λkv=>if kv.1=k then(kv.1,y)else kv) (xs.map (putAt k u)):=by
 induction r with
 | nil=>exact .nil
 | @cons p q d c h t ih=>
  rw[List.map_cons,List.map_cons];refine .cons ?_ ih;obtain⟨h1,h2,h3⟩:=h;unfold putAt
  by_cases e:p.1=k
  ·rw[if_pos e,if_pos (h1.symm.trans e)];exact⟨h1,h2,b⟩
  ·rw[if_neg e,if_neg (λz=>e (h1.trans z))];exact⟨h1,h2,h3⟩
theorem KT.put{H:Hp}{a:List (List Key×V)}{xs:List (List Key×AH×AI)}(r:KT H a xs)(k:List Key){b:AH}{y:V}{u:AI}(hb:H b=some (.tup (k.map kV)))(c:RelV y u):
  KT H (putK a k y) (storedH xs k b u):=by
 have e:(a.any λd=>decide (d.1=k))=(atKey xs k).isSome:=by
  rw[DK,(r.val k).NZ,Option.isSome_map]
 unfold putK storedH;rw[e]
 by_cases q:(atKey xs k).isSome=true
 ·rw[if_pos q,if_pos q];exact r.repl k c
 ·rw[if_neg q,if_neg q];exact Paired.snoc r ⟨rfl,hb,c⟩
theorem KT.keeps{H H':Hp}{a:List (List Key×V)}{xs:List (List Key×AH×AI)}(r:KT H a xs)(d:∀b c,H b=some (.tup c)->H' b=some (.tup c)):KT H' a xs:=
 Paired.Zxw r λ_ _ z=>⟨z.1,d _ _ z.2.1,z.2.2⟩
section
variable {P:AL}{w:AN}{H:Hp}{h:Heap}{a:AH}
theorem Zwc{u:HO}(ok:Gy P w H h)(e:Rd H a u):lO P w H h a u:=e.ok ok
theorem Gp{b:List (Key×V)}(ok:Gy P w H h)(e:Rd H a (.dK b)):b.length<=sizeLine/\(a == sysModules)=false/\∃vs,KV b vs/\h.DictOf (eG P w) a vs:=
 show lO P w H h a (.dK b)from Zwc ok e
theorem Zwp{b:List (Key×V)}(ok:Gy P w H h)(e:H a=some (.dK b)):b.length<=sizeLine/\(a == sysModules)=false/\∃vs,KV b vs/\h.DictOf (eG P w) a vs:=Gp ok (.inl e)
theorem UJ{b:List Key}(ok:Gy P w H h)(e:H a=some (.tup (b.map kV))):(tupleKind (eG P w)).is h b a:=by
 obtain⟨_,c,r,o,h1,h2,n,h3⟩:=(show lO P w H h a (.tup (b.map kV))from ok a _ e);exact⟨o,c.toArray,n,h1,h2,h3,by simpa using Y6 r⟩
theorem Zt{b:List (List Key×V)}(ok:Gy P w H h)(e:Rd H a (.dT b)):b.length<=sizeLine/\(a == sysModules)=false/\
  ∃xs,KT H b xs/\h.DictOfH (tupleKind (eG P w)) a xs:=by
 obtain⟨z,y,xs,r,o,c,d,h1,h2,h3,h4,h5⟩:=(show lO P w H h a (.dT b)from Zwc ok e);refine⟨z,y,xs,r,o,c,d,h1,h2,h3,h4,λx hx=>?_,h5⟩;have all:∀{l:List (List Key×V)}{m:List (List Key×AH×AI)},KT H l m->∀x∈m,(tupleKind (eG P w)).is h x.1 x.2.1:=by
  intro l m q
  induction q with
  | nil=>intro x hx;exact nomatch hx
  | @cons p q g f hq t ih=>
   intro x hx;rcases List.mem_cons.mp hx with e | hx
   ·subst e;exact UJ ok (by rw[<- hq.1];exact hq.2.1)
   ·exact ih x hx
 exact all r x hx
theorem ZBi{b:List (List Key×V)}(ok:Gy P w H h)(e:H a=some (.dT b)):b.length<=sizeLine/\(a == sysModules)=false/\
  ∃xs,KT H b xs/\h.DictOfH (tupleKind (eG P w)) a xs:=Zt ok (.inl e)
end
def An(H:Hp)(a:AH)(y:V)(r:Option V):Prop:=
 (∃c k,Rd H a (.dK c)/\y=kV k/\r=o9 c k)\/∃c k b,Rd H a (.dT c)/\y=.ref b/\H b=some (.tup (k.map kV))/\r=o9 c k
def Yd(H:Hp)(a:AH)(y v:V)(H':Hp):Prop:=
 (∃c k,H a=some (.dK c)/\y=kV k/\c.length<sizeLine/\H'=upd H a (.dK (putK c k v)))\/
 ∃c k b,H a=some (.dT c)/\y=.ref b/\H b=some (.tup (k.map kV))/\c.length<sizeLine/\H'=upd H a (.dT (putK c k v))
theorem An.k{H:Hp}{a:AH}{b:List (Key×V)}{k:Key}(e:H a=some (.dK b)):An H a (kV k) (o9 b k):=.inl ⟨b,k,.inl e,rfl,rfl⟩
theorem Yd.k{H:Hp}{a:AH}{b:List (Key×V)}{k:Key}{v:V}(e:H a=some (.dK b))(hl:b.length<sizeLine):Yd H a (kV k) v (upd H a (.dK (putK b k v))):=.inl ⟨b,k,e,rfl,hl,rfl⟩
section
variable {X:Cx}{pins:At}{σ:St}{H:Hp}{s:AJ}{a:AH}{y v:V}{u r:AI}{o:Option V}{A:Around}{E:Ap}
theorem Inv.big(I:Inv X pins σ H s):sysModules<s.heap.objs.size:=by
 have h:mainGlobals<s.heap.objs.size:=(I.mod.glob.keeps I.bk).lt;exact Nat.lt_trans ε h
theorem Zob{Q:Ap}(hu:A.units+1<cLine)(I:Inv X pins σ H s)(g:An H a y (some v))(q:RelV y u)(h:∀d s',Inv X pins σ H s'->RelV v d->Q d s'):
  wpAny ς A (getItem (.ref a) u) Q E s:=by
 rcases g with ⟨j,k,e,f,l⟩ | ⟨j,k,b,e,f,t,l⟩
 ·subst f;obtain⟨z,hd,r,rel,i⟩:=Gp I.hok e;obtain⟨d,n,c⟩:=Dw.some_of (v:=v) (o:=valueAt r k) (by rw[l];exact rel.val k);exact wpAny_getItem_of (Zfs q) i.mapOf n (h d _ (I.tok _) c)
 ·subst f;cases (show u=Value.ref b from q);obtain⟨z,hd,x,rel,i⟩:=Zt I.hok e;obtain⟨d,n,c⟩:=Dw.some_of (v:=v) (o:=(atKey x k).map (·.2)) (by rw[l];exact rel.val k);obtain⟨p,hp,m⟩:=Option.map_eq_some_iff.mp n;refine wpAny_getItem_heap (tupleKind_room_in1 hu) (UJ I.hok t) i hp ?_;rw[m];exact h d _ (I.tok _) c
theorem Zlt{Q:Ap}(hu:A.units+1<cLine)(I:Inv X pins σ H s)(g:An H a y o)(i:RelV y u)(h:∀s',Inv X pins σ H s'->Q (.bool (!o.isSome)) s'):
  wpAny ς A (compareOp .NotIn u (.ref a)) Q E s:=by
 rcases g with ⟨f,k,e,c,l⟩ | ⟨f,k,b,e,c,j,l⟩
 ·subst c;obtain⟨z,hd,m,rel,d⟩:=Gp I.hok e;refine wpAny_notIn_of (Zfs i) hd d.mapOf ?_;rw[<- (rel.val k).NZ,<- l];exact h _ (I.tok _)
 ·subst c;cases (show u=Value.ref b from i);obtain⟨z,hd,n,rel,d⟩:=Zt I.hok e;refine wpAny_notIn_heap (tupleKind_room_in1 hu) (UJ I.hok j) hd d ?_;have q:=(rel.val k).NZ;rw[Option.isSome_map]at q;rw[<- q,<- l];exact h _ (I.tok _)
theorem Zls{h':Heap}{t':Nat}{ob:HO}(I:Inv X pins σ H s)(c:Mut (H a))(hs:Heap.SameBut a s.heap h')(d:∃q,h'.get? a=some q)(new:lO X.prog X.w (upd H a ob) h' a ob):
  Inv X pins σ (upd H a ob) { s with heap:=h',toks:=t' }:=
 I.write (x:=a) (e:=a) c (.inl rfl) (λb q hb z=>(hs.2 b hb).trans z) d new
theorem Zza{P:AL}{w:AN}{H':Hp}{h':Heap}{b:List (Key×V)}{vs:List (Key×AI)}(z:b.length<=sizeLine)(hd:(a == sysModules)=false)(rel:KV b vs)(dd:h'.DictOf (eG P w) a vs):
  lO P w H' h' a (.dK b):=⟨z,hd,vs,rel,dd⟩
theorem Zoa{H':Hp}{Q:Unit->AJ->Prop}(hu:A.units+1<cLine)(I:Inv X pins σ H s)(g:Yd H a y v H')(o:RelV y u)(t:RelV v r)(h:∀s',Inv X pins σ H' s'->Q () s'):
  wpAny ς A (setItem (.ref a) u r) Q E s:=by
 rcases g with ⟨d,k,e,j,l,i⟩ | ⟨d,k,b,e,j,x,l,i⟩
 ·subst j i;obtain⟨z,hd,B,rel,m⟩:=Zwp I.hok e;have hz:B.length<=sizeLine:=by rw[<- rel.length];exact z
  have hl:(putK d k v).length<=sizeLine:=by have:=Ge d k v;omega
  refine wpAny_setItem_pairs (hsz:=hz) (Zfs o) m λp f hs=>h _ ?_;have F:∃q,p.get? a=some q:=let ⟨q,_,_,hq,_⟩:=f;⟨q,hq⟩
  exact Zls I (by rw[e];exact True.intro) hs F (Zza hl hd (rel.put k t) f)
 ·subst j i;cases (show u=Value.ref b from o);obtain⟨z,hd,J,rel,m⟩:=ZBi I.hok e;have hz:J.length<=sizeLine:=by rw[<- Paired.length rel];exact z
  have hl:(putK d k v).length<=sizeLine:=by have:=Ge d k v;omega
  refine wpAny_setItem_heap (hsz:=hz) (tupleKind_room_in1 hu) (UJ I.hok x) m λp f hs=>h _ ?_;obtain⟨q,C,D,hq,h2,h3,h4,_,h5⟩:=f;refine Zls I (by rw[e];exact True.intro) hs ⟨q,hq⟩ ⟨hl,hd,_,(rel.put k x t).keeps λc K n=>?_,q,C,D,hq,h2,h3,h4,h5⟩;rw[aD (qe n e ag)];exact n
end
section
variable {X:Cx}{pins:At}{σ:St}{H:Hp}{s:AJ}{a:AH}{kvs:List (Key×V)}{k:Key}{u:AI}{A:Around}{E:Ap}
end
def Zw5(i:AM):Prop:=∀b a,subscripted i false b a=operate [b,a] (getItem b a)
theorem Zl2{prog:AL}{w:AN}{A:Around}{E:Ap}{s:AJ}{env:Env}{b a:AM}{k:Pos}{T id:String}{Q:Ap}
  (hl:typeLookup (.type T) "__getitem__"=pure (some (.builtin id))) (hs:Zw5 a)
  (h:wpAny ae A (eval b env) (λo f=>wpAny ae A (eval a env) (λi c=>c.TypeIs o T/\wpAny ae A (getItem o i) Q E c) E f) E s):
  wpAny ae A (eval (.Subscript b a k) env) Q E s:=by
 refine Subscript_ (wpAny_mono h (λo f g=>wpAny_mono g (λi c d=>?_) λ_ _ x=>x) λ_ _ x=>x);obtain⟨l,d⟩:=d;unfold subscriptTail;refine wpAny_bind ?_;rw[getitemInPython_of_ne l.not_modules];refine wpAny_bind (wpAny_specialOf l hl ?_);have fin:wpAny ae A (subscripted a false o i) (λr e=>wpAny ae A (letTemporaryGo b o r >>= λ_=>pure r) Q E e) E c:=by
  rw[hs o i];exact wpAny_operating (wpAny_mono d (λr e j=>wpAny_bind (wpAny_letTemporaryGo (wpAny_pure j))) λ_ _ x=>x)
 first
  | exact wpAny_pure (wpAny_bind fin)
  | exact wpAny_bind (wpAny_pure (wpAny_bind fin))
  | exact wpAny_bind fin
theorem Zgb{X:Cx}{c:At}{σ:St}{H:Hp}{s:AJ}{a:AH}{y:V}{o:Option V}(I:Inv X c σ H s)(g:An H a y o):s.TypeIs (.ref a) "dict":=by
 rcases g with ⟨f,k,e,_,_⟩ | ⟨f,k,b,e,_,_,_⟩
 ·obtain⟨_,_,h,_,d⟩:=Gp I.hok e;exact d.typeIs
 ·obtain⟨_,_,i,_,d⟩:=Zt I.hok e;exact d.typeIs
def R1(c ty:TE):TE:=λσ H Q=>c σ H λx d=>ty σ d λy b=>∃a v,x=.ref a/\An b a y (some v)/\Q v b
def ZL(ty c:TE):TE:=λσ H Q=>ty σ H λy d=>c σ d λx b=>∃a o,x=.ref a/\An b a y o/\Q (.bl (!o.isSome)) b
def YC(e ty f:TE):TS:=λD σ H=>f σ H λv g=>e σ g λx c=>ty σ c λy d=>∃a b,x=.ref a/\Yd d a y v b/\D.nx σ b
section
variable {X:Cx}{o i e value:AM}{pos pos' tpos:Pos}{td ty tv:TE}
theorem Zu5(hu:X.A.units+1<cLine)(f:PE X o td)(e:PE X i ty)(hs:Zw5 i):PE X (.Subscript o i pos) (R1 td ty):=by
 intro b s d H Q I h;refine Zl2 PySem.F.slot_dict_getitem.lookup hs (jL (f b s d H _ I h) λu j ⟨x,H1,I1,rx,q1⟩=>jL (e b j d H1 _ I1 q1) λm p qb=>?_);obtain⟨y,H2,I2,ry,a,v,ex,g,q2⟩:=qb;subst ex;obtain rfl:u=Value.ref a:=rx;exact⟨Zgb I2 g,Zob hu I2 g ry λl n k c=>⟨v,H2,k,c,q2⟩⟩
theorem Zmp(hu:X.A.units+1<cLine)(d:PE X i ty)(e:PE X o td):PC X .NotIn i o (ZL ty td):=by
 intro b s c H Q I h;refine jL (d b s c H _ I h) λk f ⟨y,H1,I1,ry,q1⟩=>jL (e b f c H1 _ I1 q1) λu m qb=>?_;obtain⟨x,H2,I2,rx,a,ov,ex,g,q2⟩:=qb;subst ex;obtain rfl:u=Value.ref a:=rx;exact Zlt hu I2 g ry λl j=>⟨.bl (!ov.isSome),H2,j,rfl,q2⟩
theorem Ro(hu:X.A.units+1<cLine)(e:PE X o td)(d:PE X i ty)(hv:PE X value tv)(hs:swapsWith value (some (.Subscript o i pos')) pos.line X.env=pure false):
  PS X (.Assign [.Subscript o i pos'] value pos) (YC td ty tv):=by
 intro b s c H D I h;refine wpAny_Assign_Subscript (jL (hv b s c H _ I h) λr j ⟨v,H1,I1,rv,q1⟩=>jL (e b j c H1 _ I1 q1) λu k ⟨x,H2,I2,rx,q2⟩=>jL (d b k c H2 _ I2 q2) λl m qb=>?_) hs;obtain⟨y,H3,I3,ry,a,H4,ex,g,q3⟩:=qb;subst ex;obtain rfl:u=Value.ref a:=rx;exact Zoa hu I3 g ry rv λn f=>⟨c,H4,f,q3⟩
end
theorem Zse{P:AL}{w:AN}{H:Hp}(h:Heap)(hb:sysModules<h.objs.size):lO P w H (h.push { cls:=.type "dict",data:=.dict #[] }) h.objs.size (.dK []):=
 ⟨Nat.zero_le _,beq_eq_false_iff_ne.mpr (Ne.symm (Nat.ne_of_lt hb)),[],.nil,Heap.DictOf.new h⟩
def ZM:TE:=λ_ H Q=>∀p,H p=none->Q (.ref p) (upd H p (.dK []))
section
variable {X:Cx}{pos:Pos}
theorem Tq:PE X (.Dict [] [] pos) ZM:=λb s σ H Q I h=>
 wpAny_Dict_empty ⟨.ref s.heap.objs.size,_,I.laid (a:=s.heap.objs.size) (o:=.dK []) (t':=s.toks) (λ_ _ q=>Heap.get?_push_of_some _ q) Γ (Zse s.heap I.big),rfl,h _ (I.hok.fresh Γ)⟩
end
def Zox:List (TE×TE)->St->Hp->(List (V×V)->Hp->Prop)->Prop
 | [],_,H,Q=>Q [] H
 | (tk,c)::r,σ,H,Q=>tk σ H λx d=>c σ d λy a=>Zox r σ a λps b=>Q ((x,y)::ps) b
abbrev VV:List (V×V)->List (AI×AI)->Prop:=Paired λp q=>RelV p.1 q.1/\RelV p.2 q.2
def PPs(X:Cx)(c:Pos)(keys:List (Option AM))(a:AF)(d:List (TE×TE)):Prop:=
 ∀(b:At) (s:AJ) (σ:St) (H:Hp) (Q:List (V×V)->Hp->Prop),Inv X b σ H s->Zox d σ H Q->
  wpAny ς X.A (evalPairs (pairTrees keys a X.env c)) (λvs s'=>∃ps H',Inv X b σ H' s'/\VV ps vs/\Q ps H') X.xe s
structure M1(X:Cx)(o:AM)(m:Str)(apos:Pos)(e:AM)(cpos:Pos):Prop where
 base:attributeBase o m X.env (eval o X.env)=eval o X.env
 few:((backTo cpos (starEach [e] X.env)).all (λx=>!x.1) && (backToKw cpos (keywordEach [] X.env)).all (λx=>x.1.isSome)
  && decide (([e]:AF).length+([]:List Keyword).length+(if ([]:List Keyword).isEmpty then 0 else 1)<30))=true
 line:(apos.endLine == cpos.line)=true
 trees:backTo cpos (starEach [e] X.env)=[(false,eval e X.env)]
structure M2(X:Cx)(o:AM)(m:Str)(apos:Pos)(e f:AM)(cpos:Pos):Prop where
 base:attributeBase o m X.env (eval o X.env)=eval o X.env
 few:((backTo cpos (starEach [e,f] X.env)).all (λx=>!x.1) && (backToKw cpos (keywordEach [] X.env)).all (λx=>x.1.isSome)
  && decide (([e,f]:AF).length+([]:List Keyword).length+(if ([]:List Keyword).isEmpty then 0 else 1)<30))=true
 line:(apos.endLine == cpos.line)=true
 trees:backTo cpos (starEach [e,f] X.env)=[(false,eval e X.env),(false,eval f X.env)]
def IsD(H:Hp)(a:AH):Prop:=(∃b,Rd H a (.dK b))\/∃b,Rd H a (.dT b)
theorem Zci{X:Cx}{f:At}{σ:St}{H:Hp}{s:AJ}{a:AH}(I:Inv X f σ H s)(d:IsD H a):
  s.TypeIs (.ref a) "dict"/\(∀b,Value.ref a=.ref b->∃ob,s.heap.get? b=some ob/\ob.dict=none)/\(a == sysModules)=false:=by
 rcases d with ⟨g,e⟩ | ⟨g,e⟩
 ·obtain⟨_,hd,h,_,c⟩:=Gp I.hok e;refine⟨c.typeIs,λb q=>?_,hd⟩;cases q;obtain⟨ob,_,_,h1,h2,_⟩:=c;exact⟨ob,h1,h2.2.1⟩
 ·obtain⟨_,hd,i,_,c⟩:=Zt I.hok e;refine⟨c.typeIs,λb q=>?_,hd⟩;cases q;obtain⟨ob,_,_,h1,h2,_⟩:=c;exact⟨ob,h1,h2.2.1⟩
section
variable {X:Cx}{pins:At}{σ:St}{H:Hp}{s:AJ}{a:AH}{y d:V}{u r:AI}{o:Option V}{A:Around}{E:Ap}
theorem Zzb{Q:Ap}(hu:A.units+1<cLine)(I:Inv X pins σ H s)(g:An H a y o)(m:RelV y u)(n:RelV d r)(h:∀j s',Inv X pins σ H s'->RelV (o.getD d) j->Q j s'):
  wpAny ς A (call (.builtin "dict.get") [.ref a,u,r]) Q E s:=by
 rcases g with ⟨i,k,e,f,l⟩ | ⟨i,k,b,e,f,p,l⟩
 ·subst f;obtain⟨z,hd,t,rel,c⟩:=Gp I.hok e;refine call_meetsIn PySem.F.slot_dict_get c.typeIs PySem.F.entry_dict_get (PySem.F.args_dict_get_3 _ _ _) (meets_dict_get_default (eG X.prog X.w) a (Zfs m) hd r) ⟨_,c.mapOf,h _ _ (I.tok _) ?_⟩;rw[l];exact(rel.val k).getD n
 ·subst f;cases (show u=Value.ref b from m);obtain⟨z,hd,q,rel,c⟩:=Zt I.hok e;refine call_meetsIn PySem.F.slot_dict_get c.typeIs PySem.F.entry_dict_get (PySem.F.args_dict_get_3 _ _ _) (meetsH_dict_get_default (tupleKind (eG X.prog X.w)) a b hd r) ⟨tupleKind_room_in1 hu,k,q,UJ I.hok p,c,h _ _ (I.tok _) ?_⟩;rw[l];exact(rel.val k).getD n
end
def Zh7(e ty f:TE):TE:=λσ H Q=>e σ H λx c=>∃a,x=.ref a/\IsD c a/\ty σ c λy d=>f σ d λz b=>∃o,An b a y o/\Q (o.getD z) b
section
variable {X:Cx}{o e f:AM}{apos cpos:Pos}{td ty tx:TE}
theorem Zpz(hu:X.A.units+1<cLine)(k:PE X o td)(n:PE X e ty)(j:PE X f tx)(m:M2 X o "get" apos e f cpos):PE X (.Call (.Attribute o "get" apos) [e,f] [] cpos) (Zh7 td ty tx):=by
 intro b s c H Q I h;refine wpAny_Call_method m.base m.few m.line PySem.F.plainAttrs_dict PySem.F.slot_dict_get PySem.F.type_dict_get (jL (k b s c H _ I h) λu p qb=>?_);obtain⟨x,H1,I1,rx,a,ex,d,q1⟩:=qb;subst ex;obtain rfl:u=Value.ref a:=rx;obtain⟨t1,t2,_⟩:=Zci I1 d;refine⟨t1,t2,?_⟩;rw[m.trees];refine Calls.callWith_builtin rfl (Calls.evalArgs_plain (Calls.spliced_cons (jL (n b p c H1 _ I1 q1) λt q ⟨y,H2,I2,ry,q2⟩=>
  Calls.spliced_cons (jL (j b q c H2 _ I2 q2) λB v ⟨z,H3,I3,rz,ov,g,q3⟩=>Calls.spliced_nil ?_))))
 exact Zzb hu I3 g ry rz λr w l i=>⟨_,H3,l,i,q3⟩
end
section
variable {X:Cx}{pins:At}{σ:St}{H:Hp}{s:AJ}{a:AH}{kvs:List (Key×V)}{A:Around}{E:Ap}
end
section
variable {X:Cx}{pins:At}{σ:St}{H:Hp}{s:AJ}{a:AH}{y:V}{u:AI}{A:Around}{E:Ap}
end
end L2
namespace Att
open PySem PySem.W PySem.Calls PyProof.Rows
section
variable {prog:AL}{w:AN}{A:Around}{E:Ap}{s:AJ}{K:Frag}
end
end Att
namespace L2
open PySem PySem.Spec PyProof.Rows
section
variable {X:Cx}
end
section
variable {κ:Type} [DecidableEq κ]
end
end L2
set_option maxHeartbeats 40000000
namespace G
open PySem L2
section
variable {D:Ends}{σ:St}{H H1:Hp}{Q:VK}{t u:TS}{ta tb tc te:TE}{n:ν}{r:VK}{b c:ν}
theorem Kz(h:t ⟨u ⟨n,r,b,c⟩,r,b,c⟩ σ H):aN t u ⟨n,r,b,c⟩ σ H:=h
theorem rN(h:n σ H):bQ ⟨n,r,b,c⟩ σ H:=h
theorem Zyq(h:te σ H λ_ H1=>n σ H1):vm te ⟨n,r,b,c⟩ σ H:=h
theorem U9(h:te σ H r):bG te ⟨n,r,b,c⟩ σ H:=h
theorem Zym{c':TT}(h:c' σ H λk H1=>if k=true then t ⟨n,r,b,c⟩ σ H1 else u ⟨n,r,b,c⟩ σ H1):dD c' t u ⟨n,r,b,c⟩ σ H:=h
theorem Va{g:TG}(h:te σ H λx H1=>g x σ H1 n):bF te g ⟨n,r,b,c⟩ σ H:=h
theorem i_C{v:V}(h:Q v H):tC v σ H Q:=h
theorem Zjm{f:R2}(h:ta σ H λx H1=>tb σ H1 λy a=>f x y a Q):bx f ta tb σ H Q:=h
theorem ZCp{f:V->Hp->VK->Prop}(h:ta σ H λx H1=>f x H1 Q):tUn f ta σ H Q:=h
def kB(q:Bool->Hp->Prop):VK:=λx H'=>∃k,x=.bl k/\q k H'
theorem i_B{k:Bool}{q:Bool->Hp->Prop}(h:q k H):kB q (.bl k) H:=⟨k,rfl,h⟩
theorem Zyb{q:Bool->Hp->Prop}(h:te σ H (kB q)):bI te σ H q:=h
theorem ZAt{q:Bool->Hp->Prop}(h:te σ H (kB q)):tB te σ H q:=h
theorem ZB6{t u:TT}{q:Bool->Hp->Prop}(h:t σ H λk H1=>if k=true then u σ H1 q else q false H1):R4 t u σ H q:=h
theorem ZAu{t u:TT}{q:Bool->Hp->Prop}(h:t σ H λk H1=>if k=true then q true H1 else u σ H1 q):Hq t u σ H q:=h
theorem Zwk{t:TT}{q:Bool->Hp->Prop}(h:t σ H λk H1=>q (!k) H1):uL t σ H q:=h
theorem Zyx(h:ta σ H (kB λk H1=>if k=true then tb σ H1 Q else Q (.bl false) H1)):R3 ta tb σ H Q:=h
theorem Zye(h:ta σ H (kB λk H1=>Q (.bl (!k)) H1)):Zl1 ta σ H Q:=h
theorem ZB1{t:TT}(h:t σ H λk H1=>if k=true then ta σ H1 Q else tb σ H1 Q):tIf t ta tb σ H Q:=h
theorem ZB7{g:Int->Int->V}{i j:Int}(h:Q (g i j) H):pU g (.int i) (.int j) H Q:=⟨i,j,rfl,rfl,h⟩
theorem i_I{C:Int->Int->Prop}{g:Int->Int->V}{i j:Int}(hc:C i j)(h:Q (g i j) H):rI C g (.int i) (.int j) H Q:=⟨i,j,rfl,rfl,hc,h⟩
theorem i_U{g:Int->V}{i:Int}(h:Q (g i) H):rU g (.int i) H Q:=⟨i,rfl,h⟩
theorem ZB5{i j:Int}(h:Q (.bl (decide (i=j))) H):xV (.int i) (.int j) H Q:=⟨rfl,by rw[show decide (V.int i=V.int j)=decide (i=j)from decide_eq_decide.mpr ⟨λe=>V.int.inj e,λe=>by rw[e]⟩];exact h⟩
theorem ZB4{i j:Str}(h:Q (.bl (decide (i=j))) H):xV (.str i) (.str j) H Q:=⟨rfl,by rw[show decide (V.str i=V.str j)=decide (i=j)from decide_eq_decide.mpr ⟨λe=>V.str.inj e,λe=>by rw[e]⟩];exact h⟩
theorem Zyp{j:Int}(h:Q (.bl false) H):xV .non (.int j) H Q:=⟨rfl,h⟩
theorem ZAx{i j:Int}(h:Q (.bl (!decide (i=j))) H):Rk (.int i) (.int j) H Q:=⟨rfl,by rw[show decide (V.int i=V.int j)=decide (i=j)from decide_eq_decide.mpr ⟨λe=>V.int.inj e,λe=>by rw[e]⟩];exact h⟩
theorem ZAw{i j:Str}(h:Q (.bl (!decide (i=j))) H):Rk (.str i) (.str j) H Q:=⟨rfl,by rw[show decide (V.str i=V.str j)=decide (i=j)from decide_eq_decide.mpr ⟨λe=>V.str.inj e,λe=>by rw[e]⟩];exact h⟩
theorem ZAy{i j:Bool}(h:Q (.bl (!decide (i=j))) H):Rk (.bl i) (.bl j) H Q:=⟨rfl,by rw[show decide (V.bl i=V.bl j)=decide (i=j)from decide_eq_decide.mpr ⟨λe=>V.bl.inj e,λe=>by rw[e]⟩];exact h⟩
def Tf:R2:=λx y H Q=>y=.non/\Q (.bl (decide (x=.non))) H
def xU:R2:=λx y H Q=>y=.non/\Q (.bl (!decide (x=.non))) H
theorem Zyl(h:Q (.bl true) H):Tf .non .non H Q:=⟨rfl,h⟩
theorem Zyk{i:Int}(h:Q (.bl false) H):Tf (.int i) .non H Q:=⟨rfl,h⟩
theorem Zyj{i:AH}(h:Q (.bl false) H):Tf (.ref i) .non H Q:=⟨rfl,h⟩
theorem Zv2(h:Q (.bl false) H):xU .non .non H Q:=⟨rfl,h⟩
theorem Zv1{i:Int}(h:Q (.bl true) H):xU (.int i) .non H Q:=⟨rfl,h⟩
theorem Zv0{i:AH}(h:Q (.bl true) H):xU (.ref i) .non H Q:=⟨rfl,h⟩
theorem Zjo{A B:Prop}(h:A):if true=true then A else B:=Zjj h
theorem Zck{A B:Prop}(h:B):if false=true then A else B:=Zuy h
theorem Zv8{A B:Prop}(h:B):if (!true)=true then A else B:=Zuy h
theorem Zv9{A B:Prop}(h:A):if (!false)=true then A else B:=Zjj h
theorem uE{p A B:Prop} [Decidable p](h1:p->A)(h2:¬ p->B):if decide p=true then A else B:=Zy7 (λe=>h1 (of_decide_eq_true e)) (λe=>h2 (λq=>e (decide_eq_true q)))
theorem xN{p A B:Prop} [Decidable p](h1:¬ p->A)(h2:p->B):if (!decide p)=true then A else B:=Zy7 (λe=>h1 (by simpa using e)) (λe=>h2 (by simpa using e))
theorem ZAv{q:List V->Hp->Prop}(h:q [] H):aB σ H q:=h
theorem Zyu{q:List V->Hp->Prop}{t:TA}(h:ta σ H λx H1=>t σ H1 λxs a=>q (x::xs) a):aj ta t σ H q:=h
theorem ZAz{t:TA}(h:t σ H λxs H1=>xs.length<=sizeLine/\∀p,H1 p=none->Q (.ref p) (upd H1 p (.lst xs))):fO t σ H Q:=h
theorem ZAq{t:TA}(h:t σ H λxs H1=>xs.length<=sizeLine/\∀p,H1 p=none->Q (.ref p) (upd H1 p (.tup xs))):gj t σ H Q:=h
theorem Zyv{t:TA}{sp:Sp}{xM:List V}{E:XK}(h:t σ H λvs H1=>sp (vs++xM) H1 Q E):aQ sp xM E t σ H Q:=h
theorem ZD3{t:TA}{f:List V->Hp->VK->Prop}(h:t σ H λvs H1=>f vs H1 Q):z8 f t σ H Q:=h
theorem Zyh{t:TA}{sp:Sp}{xM:List V}{E:XK}{C:AH}(h:t σ H λvs H1=>∀x dx,H1 x=none->H1 dx=none->dx≠x->sp (.ref x::(vs++xM)) (upd (upd H1 dx (.own x)) x (.ins C dx [])) (λv a=>v=.non/\Q (.ref x) a) E):Dm C sp xM E t σ H Q:=h
def ZAp(K:aC)(f:Str)(Q:VK):VK:=λx H1=>∃a C dx fs v,x=.ref a/\H1 a=some (.ins C dx fs)/\Ij K C/\bN K C f/\fs.lookup f=some v/\Q v H1
theorem ZB3{K:aC}{f:Str}(h:ta σ H (ZAp K f Q)):aX K ta f σ H Q:=h
theorem aF{K:aC}{f:Str}{a C dx:AH}{fs:List (Str×V)}{v:V}(h:H a=some (.ins C dx fs))(hc:Ij K C)(hn:bN K C f)(hl:fs.lookup f=some v)(q:Q v H):ZAp K f Q (.ref a) H:=⟨a,C,dx,fs,v,rfl,h,hc,hn,hl,q⟩
theorem Zyc{K:aC}{f:Str}{e:TE}(h:e σ H λy H1=>ta σ H1 λx d=>∃a C dx fs,x=.ref a/\d a=some (.ins C dx fs)/\Ij K C/\bN K C f/\fs.length<1000/\n σ (upd d a (.ins C dx (cJ f y fs)))):iM K ta e f ⟨n,r,b,c⟩ σ H:=h
theorem Zyg{C:AH}{m:Str}{sp:Sp}{xM:List V}{E:XK}{t:TA}(h:ta σ H λx H1=>∃a dx fs,x=.ref a/\H1 a=some (.ins C dx fs)/\fs.lookup m=none/\t σ H1 λvs b=>sp (x::(vs++xM)) b Q E):mR C m sp xM E ta t σ H Q:=h
theorem Zrg{q:AA->Hp->Prop}(h:q none H):GF σ H q:=h
def kI(q:Int->Hp->Prop):VK:=λx H1=>∃i,x=.int i/\q i H1
theorem Zyd{q:AA->Hp->Prop}(h:te σ H (kI λi=>q (some i))):Pk te σ H q:=h
theorem ZCr{i:Int}{q:Int->Hp->Prop}(h:q i H):kI q (.int i) H:=⟨i,rfl,h⟩
theorem ZCq{f:V->AA->AA->Hp->VK->Prop}{tl th:TO}(h:te σ H λx H1=>tl σ H1 λl a=>th σ a λu b=>f x l u b Q):tSl f te tl th σ H Q:=h
theorem ZD2{K:aC}{T:String}{f:V->List V->Hp->VK->Prop}{to:TE}{t:TA}(h:to σ H λx H1=>tyV K T x H1/\t σ H1 λxs a=>f x xs a Q):tBM K T f to t σ H Q:=h
theorem ZB2{e:TI}{g:TG}{tb:TS}(h:e σ H λJ H1=>∃W:Nat->Nat->ν,(∃m,W 0 m σ H1)/\∀i m σ H,W i m σ H->
 (J.stop i H/\n σ H)\/(J.go i H/\∃N:ν,(∀ a H',N a H'->∃f,f<m/\W (i+1) f a H')/\∀x H',J.yld i H x H'->g x σ H' λd j=>tb ⟨N,r,n,N⟩ d j)):yD e g tb ⟨n,r,b,c⟩ σ H:=h
theorem ZCu{K:aC}{R:It->Hp->Prop}(h:te σ H λx H1=>∃a,x=.ref a/\(∃xs,cB K H1 a xs)/\R (Itl K a) H1):pW K te σ H R:=h
theorem ZCt{ta:TA}{R:It->Hp->Prop}(h:ta σ H λvs H1=>∃j:Int,vs=[.int j]/\-(2 ^ 62)<=j/\j<2 ^ 62/\R (Itr 0 j.toNat) H1):KJ ta σ H R:=h
end
theorem ZCo{v:V}{l:St}{H:Hp}{Q:VK}(h:Q v H):ak 0 (some v::l) H Q:=⟨v,rfl,h⟩
theorem ZCn{a:Option V}{v:V}{l:St}{H:Hp}{Q:VK}(h:Q v H):ak 1 (a::some v::l) H Q:=⟨v,rfl,h⟩
theorem ZD1{a:Option V}{y:Option V}{v:V}{l:St}{H:Hp}{Q:ν}(h:Q (a::some v::l) H):aO 1 v (a::y::l) H Q:=h
theorem ZCm{b a:Option V}{v:V}{l:St}{H:Hp}{Q:VK}(h:Q v H):ak 2 (b::a::some v::l) H Q:=⟨v,rfl,h⟩
theorem Zyo{b a:Option V}{y:Option V}{v:V}{l:St}{H:Hp}{Q:ν}(h:Q (b::a::some v::l) H):aO 2 v (b::a::y::l) H Q:=h
theorem Zjl{b a c:Option V}{v:V}{l:St}{H:Hp}{Q:VK}(h:Q v H):ak 3 (b::a::c::some v::l) H Q:=⟨v,rfl,h⟩
theorem Zfw{b a c:Option V}{y:Option V}{v:V}{l:St}{H:Hp}{Q:ν}(h:Q (b::a::c::some v::l) H):aO 3 v (b::a::c::y::l) H Q:=h
theorem ZCl{b a c d:Option V}{v:V}{l:St}{H:Hp}{Q:VK}(h:Q v H):ak 4 (b::a::c::d::some v::l) H Q:=⟨v,rfl,h⟩
theorem Zva{b a c d:Option V}{y:Option V}{v:V}{l:St}{H:Hp}{Q:ν}(h:Q (b::a::c::d::some v::l) H):aO 4 v (b::a::c::d::y::l) H Q:=h
theorem ZCk{b a c e d:Option V}{v:V}{l:St}{H:Hp}{Q:VK}(h:Q v H):ak 5 (b::a::c::e::d::some v::l) H Q:=⟨v,rfl,h⟩
theorem ZD0{b a c e d:Option V}{y:Option V}{v:V}{l:St}{H:Hp}{Q:ν}(h:Q (b::a::c::e::d::some v::l) H):aO 5 v (b::a::c::e::d::y::l) H Q:=h
theorem ZCj{b a c f e d:Option V}{v:V}{l:St}{H:Hp}{Q:VK}(h:Q v H):ak 6 (b::a::c::f::e::d::some v::l) H Q:=⟨v,rfl,h⟩
theorem ZCz{b a c f e d:Option V}{y:Option V}{v:V}{l:St}{H:Hp}{Q:ν}(h:Q (b::a::c::f::e::d::some v::l) H):aO 6 v (b::a::c::f::e::d::y::l) H Q:=h
theorem ZCi{b a c g f d e:Option V}{v:V}{l:St}{H:Hp}{Q:VK}(h:Q v H):ak 7 (b::a::c::g::f::d::e::some v::l) H Q:=⟨v,rfl,h⟩
theorem ZCy{b a c g f d e:Option V}{y:Option V}{v:V}{l:St}{H:Hp}{Q:ν}(h:Q (b::a::c::g::f::d::e::some v::l) H):aO 7 v (b::a::c::g::f::d::e::y::l) H Q:=h
theorem ZCh{b a c g f d e i:Option V}{v:V}{l:St}{H:Hp}{Q:VK}(h:Q v H):ak 8 (b::a::c::g::f::d::e::i::some v::l) H Q:=⟨v,rfl,h⟩
theorem ZCx{b a c g f d e i:Option V}{y:Option V}{v:V}{l:St}{H:Hp}{Q:ν}(h:Q (b::a::c::g::f::d::e::i::some v::l) H):aO 8 v (b::a::c::g::f::d::e::i::y::l) H Q:=h
theorem ZCg{b a c i f d e j g:Option V}{v:V}{l:St}{H:Hp}{Q:VK}(h:Q v H):ak 9 (b::a::c::i::f::d::e::j::g::some v::l) H Q:=⟨v,rfl,h⟩
theorem ZCw{b a c i f d e j g:Option V}{y:Option V}{v:V}{l:St}{H:Hp}{Q:ν}(h:Q (b::a::c::i::f::d::e::j::g::some v::l) H):aO 9 v (b::a::c::i::f::d::e::j::g::y::l) H Q:=h
theorem aK{H:Hp}{p:AH}(h:H p=none)(o:HO):aU H (upd H p o):=λb u q=>by rw[aD (aH q h)];exact q
theorem nwO{H b:Hp}{a:AH}{o:HO}(n:H a=none)(h:upd H a o=b):aU H b/\b a=some o:=by
 subst h;exact⟨aK n o,aq⟩
def tyN(H:Hp):V->Option String
 | .non=>some "NoneType"
 | .bl _=>some "bool"
 | .int _=>some "int"
 | .str _=>some "str"
 | .ref a=>match H a with
  | some (.lst _)=>some "list"
  | some (.Aq _ (.lst _))=>some "list"
  | some (.tup _)=>some "tuple"
  | some (.dK _)=>some "dict"
  | some (.dT _)=>some "dict"
  | _=>none
 | _=>none
def xK(t n:String):Option Bool:=if ["int","bool","str","list","tuple","dict"].contains n then some (t == n || (t == "bool" && n == "int"))else none
def Ow:List V->Hp->VK->Prop:=λxs H Q=>∃x n t k,xs=[x,.ty n]/\tyN H x=some t/\xK t n=some k/\Q (.bl k) H
theorem Qi:xK "int" "int"=some true:=γ
theorem Ku:xK "int" "bool"=some false:=γ
theorem Zfu:xK "int" "str"=some false:=γ
theorem Zcc:xK "int" "list"=some false:=γ
theorem Xd:xK "int" "tuple"=some false:=γ
theorem Zcd:xK "int" "dict"=some false:=γ
theorem Zch:xK "bool" "int"=some true:=γ
theorem Xj:xK "bool" "bool"=some true:=γ
theorem Zcg:xK "bool" "str"=some false:=γ
theorem Xh:xK "bool" "list"=some false:=γ
theorem U5:xK "bool" "tuple"=some false:=γ
theorem Xi:xK "bool" "dict"=some false:=γ
theorem Zft:xK "str" "int"=some false:=γ
theorem Zc9:xK "str" "bool"=some false:=γ
theorem Qh:xK "str" "str"=some true:=γ
theorem Zc7:xK "str" "list"=some false:=γ
theorem Xa:xK "str" "tuple"=some false:=γ
theorem Zc8:xK "str" "dict"=some false:=γ
theorem Oa:xK "NoneType" "int"=some false:=γ
theorem Ky:xK "NoneType" "bool"=some false:=γ
theorem N8:xK "NoneType" "str"=some false:=γ
theorem Kv:xK "NoneType" "list"=some false:=γ
theorem Jm:xK "NoneType" "tuple"=some false:=γ
theorem Kw:xK "NoneType" "dict"=some false:=γ
theorem Zcb:xK "list" "int"=some false:=γ
theorem Xc:xK "list" "bool"=some false:=γ
theorem Zca:xK "list" "str"=some false:=γ
theorem Ib:xK "list" "list"=some true:=γ
theorem U3:xK "list" "tuple"=some false:=γ
theorem Xb:xK "list" "dict"=some false:=γ
theorem W9:xK "tuple" "int"=some false:=γ
theorem U0:xK "tuple" "bool"=some false:=γ
theorem W8:xK "tuple" "str"=some false:=γ
theorem UT:xK "tuple" "list"=some false:=γ
theorem Dp:xK "tuple" "tuple"=some true:=γ
theorem UW:xK "tuple" "dict"=some false:=γ
theorem Zcf:xK "dict" "int"=some false:=γ
theorem Xg:xK "dict" "bool"=some false:=γ
theorem Zce:xK "dict" "str"=some false:=γ
theorem Xe:xK "dict" "list"=some false:=γ
theorem U4:xK "dict" "tuple"=some false:=γ
theorem Xf:xK "dict" "dict"=some true:=γ
theorem Zjq{i:Int}{H:Hp}{Q:VK}(h:Q (.bl true) H):Ow [.int i,.ty "int"] H Q:=⟨_,_,_,_,rfl,rfl,Qi,h⟩
theorem Zfv{i:Int}{H:Hp}{Q:VK}(h:Q (.bl false) H):Ow [.int i,.ty "bool"] H Q:=⟨_,_,_,_,rfl,rfl,Ku,h⟩
theorem Zjp{i:Str}{H:Hp}{Q:VK}(h:Q (.bl true) H):Ow [.str i,.ty "str"] H Q:=⟨_,_,_,_,rfl,rfl,Qh,h⟩
theorem Qj{a:AH}{H:Hp}{Q:VK}{xs:List V}(hp:H a=some (.lst xs))(h:Q (.bl true) H):Ow [.ref a,.ty "list"] H Q:=⟨_,_,_,_,rfl,(by show(match H a with | some (.lst _)=>some "list" | some (.Aq _ (.lst _))=>some "list" | some (.tup _)=>some "tuple" | some (.dK _)=>some "dict" | some (.dT _)=>some "dict" | _=>none)=some "list";rw[hp]),Ib,h⟩
theorem KH{a:AH}{H:Hp}{Q:VK}{xs:List V}(hp:H a=some (.tup xs))(h:Q (.bl true) H):Ow [.ref a,.ty "tuple"] H Q:=⟨_,_,_,_,rfl,(by show(match H a with | some (.lst _)=>some "list" | some (.Aq _ (.lst _))=>some "list" | some (.tup _)=>some "tuple" | some (.dK _)=>some "dict" | some (.dT _)=>some "dict" | _=>none)=some "tuple";rw[hp]),Dp,h⟩
def mU(K:aC):List V->Hp->VK->Prop:=λxs H Q=>∃p a,xs=[.ref p]/\(cB K H p a\/fY K H p a)/\Q (.int a.length) H
theorem jU{K:aC}{a:AH}{H:Hp}{Q:VK}{xs:List V}(hp:cB K H a xs)(h:Q (.int xs.length) H):mU K [.ref a] H Q:=⟨a,xs,rfl,.inl hp,h⟩
theorem jg{K:aC}{a:AH}{H:Hp}{Q:VK}{xs:List V}{i:Int}{v:V}(hp:cB K H a xs)(b:XM xs i=some v)(h:Q v H):m6 K (.ref a) (.int i) H Q:=⟨a,xs,i,v,rfl,rfl,hp,b,h⟩
section
variable {K:aC}{a:AH}{xs:List V}{g:TG}{tb:TS}{σ:St}{H:Hp}{n:ν}{r:VK}
theorem forL(xs:List V)(Pv:Nat->ν)(f:Pv 0 σ H)(hl:∀i σ H,i<=xs.length->Pv i σ H->cB K H a xs)
  (hs:∀i x σ H,xs[i]? =some x->Pv i σ H->g x σ H λb d=>tb ⟨Pv (i+1),r,n,Pv (i+1)⟩ b d) (hd:∀ σ H,Pv xs.length σ H->n σ H):
  ∃W:Nat->Nat->ν,(∃m,W 0 m σ H)/\∀i m σ H,W i m σ H->
   ((Itl K a).stop i H/\n σ H)\/((Itl K a).go i H/\∃N:ν,(∀ c H',N c H'->∃e,e<m/\W (i+1) e c H')/\∀x H',(Itl K a).yld i H x H'->g x σ H' λb d=>tb ⟨N,r,n,N⟩ b d):=
 Zs0 (D:=⟨n,r,λ_ _=>False,λ_ _=>False⟩) Pv f hl hs hd
theorem forR{lo:Int}{k:Nat}(Pv:Nat->ν)(e:Pv 0 σ H)
  (hs:∀i σ H,i<k->Pv i σ H->g (.int (lo+i)) σ H λa c=>tb ⟨Pv (i+1),r,n,Pv (i+1)⟩ a c) (hd:∀ σ H,Pv k σ H->n σ H):
  ∃W:Nat->Nat->ν,(∃m,W 0 m σ H)/\∀i m σ H,W i m σ H->
   ((Itr lo k).stop i H/\n σ H)\/((Itr lo k).go i H/\∃N:ν,(∀ b H',N b H'->∃d,d<m/\W (i+1) d b H')/\∀x H',(Itr lo k).yld i H x H'->g x σ H' λa c=>tb ⟨N,r,n,N⟩ a c):=
 Znz (D:=⟨n,r,λ_ _=>False,λ_ _=>False⟩) Pv e hs hd
end
theorem aR{n:Nat}(h:n<=1000000):n<=sizeLine:=Nat.le_trans h ε
def Zpg:R2:=λx y H Q=>∃i j,x=.str i/\y=.str j/\i.length+j.length<=sizeLine/\Q (.str (i++j)) H
theorem Zrk{i j:Str}{H:Hp}{Q:VK}(hz:i.length+j.length<=sizeLine)(h:Q (.str (i++j)) H):Zpg (.str i) (.str j) H Q:=⟨i,j,rfl,rfl,hz,h⟩
theorem ZB0{z:Str}{i:Int}{c:Nat}{H:Hp}{Q:VK}(hz:z.length<=sizeLine)(a:XM z.cps.toList i=some c)(h:Q (.str ⟨#[c]⟩) H):Zpd (.str z) (.int i) H Q:=⟨z,i,c,rfl,rfl,hz,a,h⟩
theorem Zri{z:Str}{i:Int}{H:Hp}{Q:VK}(hz:z.length<=sizeLine)(a:0<=i)(h1:i<z.length)(h:∀c:Nat,Q (.str ⟨#[c]⟩) H):Zpd (.str z) (.int i) H Q:=by
 have hk:i.toNat<z.cps.toList.length:=by rw[Array.length_toList];exact(Int.toNat_lt a).mpr h1
 have b:i=((i.toNat:Nat):Int):=δ
 have q:XM z.cps.toList ((i.toNat:Nat):Int)=some z.cps.toList[i.toNat]:=jO (bK hk);rw[<- b]at q;exact ZB0 hz q (h _)
theorem str_len(z:Str):z.cps.toList.length=z.length:=Array.length_toList
def pick(σ:St)(j:Nat):Option V:=match σ[j]? with
 | some v=>v
 | none=>none
def tLC(f:TI)(a:List Nat)(tc:TT)(e:TE):TE:=λσ H Q=>f σ H λJ h=>∃W:Nat->Nat->List V->Hp->Prop,(∃m,W 0 m [] h)/\∀i m b H,W i m b H->
 (J.stop i H/\∀p,H p=none->Q (.ref p) (upd H p (.lst b)))\/
 (J.go i H/\b.length<sizeLine/\∀x H',J.yld i H x H'->tc (some x::a.map (pick σ)) H' λk d=>if k=true then e (some x::a.map (pick σ)) d (λy g=>∃c,c<m/\W (i+1) c (b++[y]) g)else ∃c,c<m/\W (i+1) c b d)
def xP:TT:=λ_ H Q=>Q true H
theorem Gh{σ:St}{H:Hp}{Q:Bool->Hp->Prop}(h:Q true H):xP σ H Q:=h
theorem Zvc{r d:R2}{b c tc:TE}{σ:St}{H:Hp}{Q:VK}(h:b σ H λx f=>c σ f λy e=>r x y e (kB λk a=>if k=true then tc σ a (λw g=>d y w g Q)else Q (.bl false) a)):Zh8 r d b c tc σ H Q:=h
def Zmj(z:Str)(n:Int):Str:=⟨(List.replicate n.toNat z.cps.toList).flatten.toArray⟩
def Zl7:R2:=λx y H Q=>∃z k,x=.str z/\y=.int k/\0<=k/\k<=1000/\z.length<=1000/\∀t:Str,t.length<=1000000->t=Zmj z k->Q (.str t) H
theorem Zre{z:Str}{k:Int}{H:Hp}{Q:VK}(a:0<=k)(h1:k<=1000)(h2:z.length<=1000)(h:∀t:Str,t.length<=1000000->t=Zmj z k->Q (.str t) H):Zl7 (.str z) (.int k) H Q:=⟨z,k,rfl,rfl,a,h1,h2,h⟩
structure EqD(K:aC)(C:AH):Prop where
 eq:W.findIn K (.ref C) "__eq__"=some (some (.builtin "object.__eq__"))
 ob:W.mroIn K C (.type "object")=some true
def Lq(C:AH)(E:XK)(a:TA):TS:=λ_ σ H=>a σ H λvs b=>vs.length<=100/\E (.ref C) none b
def Zh9(sp:Sp)(xM:List V)(E:St->XK)(t:TA):TE:=λσ H Q=>t σ H λvs a=>sp (vs++xM) a Q (E σ)
def Zww(d:AI->Prop)(c:(St->XK)->TS)(th:TS):TS:=λD σ H=>c (λb a _ H'=>d a/\th D b H') D σ H
section
variable {σ:St}{H:Hp}{Q:VK}{n:ν}{r:VK}{b c:ν}{te:TE}{t:TA}
theorem Zuz{C:AH}{E:XK}(h:t σ H λvs a=>vs.length<=100/\E (.ref C) none a):Lq C E t ⟨n,r,b,c⟩ σ H:=h
theorem Zvd{sp:Sp}{xM:List V}{E:St->XK}(h:t σ H λvs a=>sp (vs++xM) a Q (E σ)):Zh9 sp xM E t σ H Q:=h
theorem ZAr{f:AI->Prop}{e:(St->XK)->TS}{th:TS}(h:e (λd a _ H'=>f a/\th ⟨n,r,b,c⟩ d H') ⟨n,r,b,c⟩ σ H):Zww f e th ⟨n,r,b,c⟩ σ H:=h
end
theorem Zyn{to a:TE}{ts:Zog}{x:V}{σ:St}{H:Hp}{Q:ν}(h:to σ H λo d=>a σ d λi b=>ts o i x b λc=>Q σ c):Vd to a ts x σ H Q:=h
def Vr(K:aC):List V->Hp->VK->Prop:=λxs H Q=>∃(p:AH) (a:List V),xs=[.ref p]/\cB K H p a/\∀l,H l=none->Q (.ref l) (upd H l (.lst a))
theorem Zcj{K:aC}{H:Hp}{Q:VK}{p:AH}{a:List V}(h1:cB K H p a)(h:∀l,H l=none->Q (.ref l) (upd H l (.lst a))):Vr K [.ref p] H Q:=⟨p,a,rfl,h1,h⟩
def OkN(K:aC)(H:Hp)(xs:List V):Prop:=∀y∈xs,y=.non\/∃a C dx fs,y=.ref a/\H a=some (.ins C dx fs)/\Ij K C/\EqD K C
def Zx9(K:aC)(a:Bool):R2:=λx y H Q=>∃p xs,x=.non/\y=.ref p/\cB K H p xs/\OkN K H xs/\Q (.bl (if a then !decide (V.non∈xs)else decide (V.non∈xs))) H
theorem Zrf{K:aC}{H:Hp}{Q:VK}{p:AH}{xs:List V}(h1:cB K H p xs)(h2:OkN K H xs)(h:Q (.bl (!decide (V.non∈xs))) H):Zx9 K true .non (.ref p) H Q:=⟨p,xs,rfl,rfl,h1,h2,h⟩
def Zl8(K:aC):V->List V->Hp->VK->Prop:=λx vs H Q=>∃p xs,x=.ref p/\vs=[.non]/\cB K H p xs/\OkN K H xs/\V.non∈xs/\Q (.int (xs.idxOf V.non)) H
def eqL(xs a:List V):Bool:=xs.length == a.length && (xs.zip a).all λp=>Zq p.1 p.2
def Zau(K:aC)(b:Bool):R2:=λx y H Q=>∃p q xs a,x=.ref p/\y=.ref q/\cB K H p xs/\cB K H q a/\(xs.length=a.length->xs.all qQ=true/\a.all qQ=true)/\Q (.bl (if b then !eqL xs a else eqL xs a)) H
theorem Oi(ns:AD):(ns.map V.int).all qQ=true:=by
 rw[List.all_eq_true];intro x hx;obtain⟨i,_,rfl⟩:=List.mem_map.mp hx;rfl
theorem Zs6(ns:AD):∀d:AD,eqL (ns.map V.int) (d.map V.int)=decide (ns=d):=by
 induction ns with
 | nil=>
  intro d;cases d with
  | nil=>rfl
  | cons m d=>rfl
 | cons n ns ih=>
  intro d;cases d with
  | nil=>rfl
  | cons m d=>
   have:=ih d;unfold eqL at this ⊢;rw[List.map_cons,List.map_cons,List.zip_cons_cons,List.all_cons,List.length_cons,List.length_cons];have f:Zq (V.int n) (V.int m)=(n == m):=rfl;have g:((ns.map V.int).length+1 == (d.map V.int).length+1)=((ns.map V.int).length == (d.map V.int).length):=by
    rw[Bool.eq_iff_iff,beq_iff_eq,beq_iff_eq];omega
   dsimp only;rw[f,g];rw[Bool.eq_iff_iff]at this ⊢;simp only[Bool.and_eq_true,beq_iff_eq,decide_eq_true_eq]at this ⊢;constructor
   ·rintro⟨a,b,c⟩;rw[b,this.mp ⟨a,c⟩]
   ·intro e
    injection e with f g
    obtain⟨a,c⟩:=this.mpr g;exact⟨a,f,c⟩
theorem Zrh{K:aC}{H:Hp}{Q:VK}{p q:AH}{ns a:AD}(h1:cB K H p (ns.map V.int))(h2:cB K H q (a.map V.int))(h:Q (.bl (!decide (ns=a))) H):Zau K true (.ref p) (.ref q) H Q:=by
 refine⟨p,q,_,_,rfl,rfl,h1,h2,λ_=>⟨Oi _,Oi _⟩,?_⟩;rw[Zs6];exact h
theorem Zjr{K:aC}{H:Hp}{Q:VK}{p q:AH}{xs:List V}(h1:cB K H p xs)(h2:cB K H q [])(h:Q (.bl (decide (xs=[]))) H):Zau K false (.ref p) (.ref q) H Q:=by
 refine⟨p,q,_,_,rfl,rfl,h1,h2,λe=>?_,?_⟩
 ·have:xs=[]:=List.length_eq_zero_iff.mp e;subst this;exact⟨rfl,rfl⟩
 ·have e:eqL xs []=decide (xs=[]):=by cases xs<;>rfl
  show Q (.bl (eqL xs [])) H;rw[e];exact h
def Fm(S:AE)(H H':Hp):Prop:=∀b o,H b=some o->b∉S->H' b=some o
theorem Fm.same{H H':Hp}(a:Fm [] H H'):aU H H':=λc o h=>a c o h ag
def fz(S:AE)(H:Hp):Hp:=λb=>if b∈S then none else H b
theorem Zjn{x:V}{H:Hp}{Q:VK}(h:Q (.bl (!decide (x=.non))) H):xU x .non H Q:=⟨rfl,h⟩
def LCg(J:It)(a:List Nat)(tc:TT)(e:TE)(σ:St)(H:Hp)(Q:VK):Prop:=∃W:Nat->Nat->List V->Hp->Prop,(∃m,W 0 m [] H)/\∀i m b H,W i m b H->
 (J.stop i H/\∀p,H p=none->Q (.ref p) (upd H p (.lst b)))\/
 (J.go i H/\b.length<sizeLine/\∀x H',J.yld i H x H'->tc (some x::a.map (pick σ)) H' λk d=>if k=true then e (some x::a.map (pick σ)) d (λy f=>∃c,c<m/\W (i+1) c (b++[y]) f)else ∃c,c<m/\W (i+1) c b d)
theorem KD{c:TI}{a:List Nat}{tc:TT}{b:TE}{σ:St}{H:Hp}{Q:VK}(h:c σ H λJ d=>LCg J a tc b σ d Q):tLC c a tc b σ H Q:=h
theorem Zr3{J:It}{a:List Nat}{tc:TT}{h:TE}{σ:St}{H:Hp}{Q:VK}(k:Nat)(hz:k<=1000000)(g:Nat->Option V)
  (b:J.stop k H) (f:∀i,i<k->J.go i H) (hy:∀i x H',i<k->J.yld i H x H'->H'=H/\(∀q:Bool->Hp->Prop,q (g i).isSome H->tc (some x::a.map (pick σ)) H q)/\∀(y:V) (q:VK),g i=some y->q y H->h (some x::a.map (pick σ)) H q)
  (q:∀p,H p=none->Q (.ref p) (upd H p (.lst ((List.range k).filterMap g)))):
  LCg J a tc h σ H Q:=by
 refine⟨λi m j H'=>H'=H/\i<=k/\m=k - i/\j=(List.range i).filterMap g,⟨k,rfl,Nat.zero_le _,rfl,rfl⟩,?_⟩;rintro i m j _ ⟨rfl,l,rfl,rfl⟩
 by_cases hk:i=k
 ·subst hk;exact .inl ⟨b,q⟩
 ·have c:i<k:=δ
  refine .inr ⟨f i c,?_,λx H' y=>?_⟩
  ·refine Nat.lt_of_le_of_lt (Nat.le_trans (List.length_filterMap_le _ _) ?_) (show 1000000<sizeLine by decide);rw[List.length_range];omega
  ·obtain⟨rfl,h1,h2⟩:=hy i x H' c y;refine h1 _ ?_;have d:List.filterMap g (List.range (i+1))=List.filterMap g (List.range i)++(match g i with | some y=>[y] | none=>[]):=by
    rw[List.range_succ,List.filterMap_append];cases e:g i with
    | none=>rw[List.filterMap_cons_none e];rfl
    | some y=>rw[List.filterMap_cons_some e];rfl
   cases e:g i with
   | none=>
    rw[e]at d;dsimp only[Option.isSome];refine Zuy ⟨k - (i+1),δ,rfl,δ,rfl,?_⟩;rw[d,List.append_nil]
   | some y=>
    rw[e]at d;dsimp only[Option.isSome];refine Zjj (h2 y _ e ⟨k - (i+1),δ,rfl,δ,rfl,?_⟩);rw[d]
theorem Zcq(l:List Nat)(p:Nat->Bool)(f:Nat->V):l.filterMap (λi=>if p i=true then some (f i)else none)=(l.filter p).map f:=by
 induction l with
 | nil=>rfl
 | cons a l ih=>
  by_cases h:p a=true
  ·rw[List.filterMap_cons_some (by rw[if_pos h]),List.filter_cons_of_pos h,List.map_cons,ih]
  ·rw[List.filterMap_cons_none (by rw[if_neg h]),List.filter_cons_of_neg h,ih]
theorem Zr4{a:List Nat}{tc:TT}{g:TE}{σ:St}{H:Hp}{Q:VK}{n:Nat}{z:Int}(j:z.toNat=n)(p:Nat->Bool)(f:Nat->V)(hz:n<=1000000)
  (d:∀i,i<n->∀q:Bool->Hp->Prop,q (p i) H->tc (some (.int i)::a.map (pick σ)) H q)
  (c:∀i,i<n->p i=true->∀q:VK,q (f i) H->g (some (.int i)::a.map (pick σ)) H q)
  (q:∀l,H l=none->Q (.ref l) (upd H l (.lst (((List.range n).filter p).map f)))):
  LCg (Itr 0 z.toNat) a tc g σ H Q:=by
 subst j;refine Zr3 z.toNat hz (λi=>if p i=true then some (f i)else none) Γ (λi b=>b) (λi x o b y=>?_) ?_
 ·obtain⟨k,m⟩:=y;have ex:x=.int i:=by rw[m];simp
  refine⟨k,λq hq=>?_,λy q hy hq=>?_⟩
  ·rw[ex];refine d i b q ?_;cases e:p i with
   | true=>rw[e]at hq;exact hq
   | false=>rw[e]at hq;exact hq
  ·rw[ex];cases e:p i with
   | true=>
    rw[e]at hy;have h:f i=y:=by simpa using hy
    exact c i b e q (by rw[h];exact hq)
   | false=>rw[e]at hy;simp at hy
 ·rw[Zcq];exact q
theorem Ry{K:aC}{a:AH}{xs:List V}{b:List Nat}{tc:TT}{c:TE}{σ:St}{H:Hp}{Q:VK}(hs:cB K H a xs)(g:Nat->Option V)(hz:xs.length<=1000000)
  (hy:∀i x,xs[i]? =some x->(∀q:Bool->Hp->Prop,q (g i).isSome H->tc (some x::b.map (pick σ)) H q)/\∀(y:V) (q:VK),g i=some y->q y H->c (some x::b.map (pick σ)) H q)
  (q:∀p,H p=none->Q (.ref p) (upd H p (.lst ((List.range xs.length).filterMap g)))):
  LCg (Itl K a) b tc c σ H Q:=by
 refine Zr3 xs.length hz g ⟨xs,hs,Nat.le_refl _⟩ (λi d=>⟨xs,xs[i],hs,bK d⟩) (λi x h d y=>?_) q;obtain⟨e,f⟩:=y;exact⟨e,hy i x (f xs hs)⟩
theorem uw{n i:Nat}(h:i<n):ixN n (i:Int)=some i:=by
 unfold ixN;rw[if_pos δ,if_pos δ];simp
theorem Zux{n:Nat}{i:Int}(a:0<=i)(h:i.toNat<n):ixN n i=some i.toNat:=by
 have e:i=((i.toNat:Nat):Int):=δ
 have:=uw h;rw[<- e]at this;exact this
theorem qx{a:Type}{xs:List a}{i:Int}{v:a}(b:0<=i)(h:xs[i.toNat]? =some v):XM xs i=some v:=by
 have e:i=((i.toNat:Nat):Int):=δ
 have:=jO h;rw[<- e]at this;exact this
inductive Al{α β:Type}(P:α->β->Prop):List α->List β->Prop
 | nil:Al P [] []
 | cons {x:α}{y:β}{xs:List α}{ys:List β}:P x y->Al P xs ys->Al P (x::xs) (y::ys)
section
variable {α β:Type}{P P':α->β->Prop}{xs:List α}{ys:List β}
theorem Al.length(h:Al P xs ys):xs.length=ys.length:=by
 induction h with
 | nil=>rfl
 | cons _ _ ih=>rw[List.length_cons,List.length_cons,ih]
theorem Al.mono(h:Al P xs ys)(f:∀x y,P x y->P' x y):Al P' xs ys:=by
 induction h with
 | nil=>exact .nil
 | cons p _ ih=>exact .cons (f _ _ p) ih
theorem Al.get(h:Al P xs ys):∀{i:Nat}{y:β},ys[i]? =some y->∃x,xs[i]? =some x/\P x y:=by
 induction h with
 | nil=>intro i y e;simp at e
 | cons p _ ih=>
  intro i y e;cases i with
  | zero=>simp at e;subst e;exact⟨_,rfl,p⟩
  | succ i=>
   obtain⟨x,a,b⟩:=ih (i:=i) (y:=y) (by simpa using e);exact⟨x,by simpa using a,b⟩
end
theorem Q5{c d:Type}(f:c->Option d):∀l:List c,(List.range l.length).filterMap (λi=>l[i]?.bind f)=l.filterMap f:=by
 intro l
 induction l with
 | nil=>rfl
 | cons a l ih=>
  rw[List.length_cons,List.range_succ_eq_map];have e:List.filterMap (λi=>(a::l)[i]?.bind f) (List.map Nat.succ (List.range l.length))=l.filterMap f:=by
   rw[List.filterMap_map,<- ih];congr 1
  cases h:f a with
  | none=>rw[List.filterMap_cons_none (by simpa using h),List.filterMap_cons_none h,e]
  | some b=>rw[List.filterMap_cons_some (b:=b) (by simpa using h),List.filterMap_cons_some h,e]
abbrev Tg:=AH->Nat×Nat
def WT(H:Hp)(T:Tg):Prop:=∀b,H b=none->T b=(0,0)
structure iY(s:Nat)(H H':Hp)(T T':Tg):Prop where
 kp:∀b o,H b=some o->(T b).1≠s->H' b=some o
 al:∀b o,H b=some o->∃o',H' b=some o'
 tg:∀b o,H b=some o->T' b=T b
 wt:WT H' T'
def jC(T:Tg)(a:AH)(v:Nat×Nat):Tg:=λx=>if x=a then v else T x
theorem iB{T:Tg}{a:AH}{v:Nat×Nat}:jC T a v a=v:=by unfold jC;rw[if_pos rfl]
theorem jM{T:Tg}{a b:AH}{v:Nat×Nat}(h:b≠a):jC T a v b=T b:=by unfold jC;rw[if_neg h]
theorem WT.same{H H':Hp}{T:Tg}(w:WT H T)(s:aU H H'):WT H' T:=λb h=>w b (s.free h)
theorem iY.refl{s:Nat}{H:Hp}{T:Tg}(w:WT H T):iY s H H T T:=⟨λ_ _ h _=>h,λ_ o h=>⟨o,h⟩,λ_ _ _=>rfl,w⟩
theorem iY.same{s:Nat}{H H':Hp}{T:Tg}(w:WT H T)(e:aU H H'):iY s H H' T T:=⟨λb o h _=>e b o h,λb o h=>⟨o,e b o h⟩,λ_ _ _=>rfl,w.same e⟩
theorem iY.trans{s:Nat}{H f d:Hp}{T e c:Tg}(a:iY s H f T e)(b:iY s f d e c):iY s H d T c where
 kp:=λx o h n=>b.kp x o (a.kp x o h n) (by rw[a.tg x o h];exact n)
 al:=λx o h=>by
  obtain⟨o1,h1⟩:=a.al x o h;exact b.al x o1 h1
 tg:=λx o h=>by
  obtain⟨o1,h1⟩:=a.al x o h;rw[b.tg x o1 h1,a.tg x o h]
 wt:=b.wt
theorem iY.upd{s:Nat}{H:Hp}{T:Tg}{a:AH}{o c:HO}(w:WT H T)(f:H a=some o)(d:(T a).1=s):iY s H (L2.upd H a c) T T where
 kp:=λx u h n=>by
  have:x≠a:=λe=>n (by rw[e];exact d);rw[aD this];exact h
 al:=λx u h=>by
  by_cases e:x=a
  ·exact⟨c,by rw[e,aq]⟩
  ·exact⟨u,by rw[aD e];exact h⟩
 tg:=λ_ _ _=>rfl
 wt:=λb h=>w b (by
  by_cases e:b=a
  ·rw[e,aq]at h;cases h
  ·rw[aD e]at h;exact h)
theorem Ul{T:Tg}{a b:AH}{x y:Nat×Nat}(c:T a=x)(hb:T b=y)(h:x≠y):a≠b:=λe=>h (by rw[<- c,<- hb,e])
theorem Zr5{J:It}{b:List Nat}{tc:TT}{o:TE}{σ:St}{H:Hp}{Q:VK}(k:Nat)(hz:k<=1000000)(R:Nat->V->Hp->Prop)(mono:∀i y a f,R i y a->aU a f->R i y f)
  (d:∀H',aU H H'->J.stop k H') (l:∀i H',i<k->aU H H'->J.go i H')
  (hy:∀i x a H',i<k->aU H a->J.yld i a x H'->H'=a/\(∀q:Bool->Hp->Prop,q true a->tc (some x::b.map (pick σ)) a q)/\∀q:VK,(∀y f,aU a f->R i y f->q y f)->o (some x::b.map (pick σ)) a q)
  (q:∀c H',aU H H'->c.length=k->(∀(i:Nat) y,c[i]? =some y->R i y H')->∀p,H' p=none->Q (.ref p) (upd H' p (.lst c))):
  LCg J b tc o σ H Q:=by
 refine⟨λi m c H'=>aU H H'/\i<=k/\m=k - i/\c.length=i/\∀(j:Nat) y,c[j]? =some y->R j y H',⟨k,aU.refl _,Nat.zero_le _,rfl,rfl,λj y e=>by simp at e⟩,?_⟩;rintro i m c a ⟨h,v,rfl,hl,hr⟩
 by_cases hk:i=k
 ·subst hk;exact .inl ⟨d a h,q c a h hl hr⟩
 ·have g:i<k:=δ
  refine .inr ⟨l i a g h,Nat.lt_of_le_of_lt (show c.length<=1000000 by omega) (show 1000000<sizeLine by decide),λx H' y=>?_⟩;obtain⟨rfl,h1,h2⟩:=hy i x a H' g h y;refine h1 _ (Zjj (h2 _ λy f s r=>⟨k - (i+1),δ,h.trans s,δ,rfl,by rw[List.length_append,hl];rfl,λj z e=>?_⟩))
  by_cases u:j<c.length
  ·rw[List.getElem?_append_left u]at e;exact mono j z _ _ (hr j z e) s
  ·have n:=(cZ e).1;rw[List.length_append,List.length_singleton]at n;have t:j=c.length:=δ
   subst t;rw[List.getElem?_append_right Γ,Nat.sub_self]at e;cases e;rw[hl];exact r
theorem Zuo{b:List Nat}{tc:TT}{h:TE}{σ:St}{H:Hp}{Q:VK}{n:Nat}{z:Int}(j:z.toNat=n)(hz:n<=1000000)(R:Nat->V->Hp->Prop)(mono:∀i y a c,R i y a->aU a c->R i y c)
  (g:∀i a,∀q:Bool->Hp->Prop,q true a->tc (some (.int i)::b.map (pick σ)) a q)
  (f:∀(i:Nat) a,i<n->aU H a->∀q:VK,(∀y c,aU a c->R i y c->q y c)->h (some (.int i)::b.map (pick σ)) a q)
  (q:∀d H',aU H H'->d.length=n->(∀(i:Nat) y,d[i]? =some y->R i y H')->∀p,H' p=none->Q (.ref p) (upd H' p (.lst d))):LCg (Itr 0 z.toNat) b tc h σ H Q:=by
 subst j;refine Zr5 z.toNat hz R mono (λ_ _=>Nat.le_refl _) (λi _ e _=>e) (λi x a H' e m y=>?_) q;obtain⟨k,l⟩:=y;have ex:x=.int i:=by rw[l];simp
 subst ex;exact⟨k,g i a,λq hq=>f i a e m q hq⟩
theorem Zup{J:It}{d:List Nat}{tc:TT}{v:TE}{σ:St}{H:Hp}{Q:VK}(k:Nat)(hz:k<=1000000)(R:Nat->AH->Hp->Prop)(mono:∀i y c g,R i y c->aU c g->R i y g)(al:∀i y c,R i y c->∃o,c y=some o)
  (f:∀H',aU H H'->J.stop k H') (n:∀i H',i<k->aU H H'->J.go i H')
  (hy:∀i x c H',i<k->aU H c->J.yld i c x H'->H'=c/\(∀q:Bool->Hp->Prop,q true c->tc (some x::d.map (pick σ)) c q)/\∀q:VK,(∀r g,aU c g->c r=none->R i r g->q (.ref r) g)->v (some x::d.map (pick σ)) c q)
  (q:∀(rs:AE) H',aU H H'->rs.length=k->rs.Nodup->(∀r∈rs,H r=none)->(∀(i:Nat) r,rs[i]? =some r->R i r H')->∀p,H' p=none->Q (.ref p) (upd H' p (.lst (rs.map V.ref)))):
  LCg J d tc v σ H Q:=by
 refine⟨λi m E H'=>∃rs:AE,E=rs.map V.ref/\aU H H'/\i<=k/\m=k - i/\rs.length=i/\rs.Nodup/\(∀r∈rs,H r=none)/\∀(j:Nat) r,rs[j]? =some r->R j r H',⟨k,[],rfl,aU.refl _,Nat.zero_le _,rfl,rfl,List.nodup_nil,λr hr=>(nomatch hr),λj y e=>by simp at e⟩,?_⟩;rintro i m _ c ⟨rs,rfl,h,I,rfl,hl,nd,B,hr⟩
 by_cases hk:i=k
 ·subst hk;exact .inl ⟨f c h,q rs c h hl nd B hr⟩
 ·have l:i<k:=δ
  refine .inr ⟨n i c l h,Nat.lt_of_le_of_lt (show(rs.map V.ref).length<=1000000 by rw[bB];omega) (show 1000000<sizeLine by decide),λx H' y=>?_⟩;obtain⟨rfl,h1,h2⟩:=hy i x c H' l h y;refine h1 _ (Zjj (h2 _ λr g C w D=>⟨k - (i+1),δ,rs++[r],by rw[List.map_append];rfl,h.trans C,δ,rfl,by rw[List.length_append,hl];rfl,?_,λz hz=>?_,λj z e=>?_⟩))
  ·rw[List.nodup_append];refine⟨nd,ζ,λa F b hb e=>?_⟩;rw[List.mem_singleton.mp hb]at e;subst e;obtain⟨j,u,s⟩:=List.getElem_of_mem F;obtain⟨o,A⟩:=al j a _ (hr j a (by rw[bK u,s]));rw[w]at A;cases A
  ·rcases List.mem_append.mp hz with hz | hz
   ·exact B z hz
   ·rw[List.mem_singleton.mp hz];exact h.free w
  ·by_cases u:j<rs.length
   ·rw[List.getElem?_append_left u]at e;exact mono j z _ _ (hr j z e) C
   ·have t:=(cZ e).1;rw[List.length_append,List.length_singleton]at t;have s:j=rs.length:=δ
    subst s;rw[List.getElem?_append_right Γ,Nat.sub_self]at e;cases e;rw[hl];exact D
theorem Ux{K:aC}{a:AH}{xs:List V}{c:List Nat}{tc:TT}{g:TE}{σ:St}{H:Hp}{Q:VK}(hs:cB K H a xs)(hz:xs.length<=1000000)(R:Nat->AH->Hp->Prop)(mono:∀i y b d,R i y b->aU b d->R i y d)(al:∀i y b,R i y b->∃o,b y=some o)
  (f:∀x b,∀q:Bool->Hp->Prop,q true b->tc (some x::c.map (pick σ)) b q)
  (e:∀(i:Nat) x b,xs[i]? =some x->aU H b->∀q:VK,(∀r d,aU b d->b r=none->R i r d->q (.ref r) d)->g (some x::c.map (pick σ)) b q)
  (q:∀(rs:AE) H',aU H H'->rs.length=xs.length->rs.Nodup->(∀r∈rs,H r=none)->(∀(i:Nat) r,rs[i]? =some r->R i r H')->∀p,H' p=none->Q (.ref p) (upd H' p (.lst (rs.map V.ref)))):LCg (Itl K a) c tc g σ H Q:=by
 refine Zup xs.length hz R mono al (λH' s=>⟨xs,s.seq hs,Nat.le_refl _⟩) (λi H' h s=>⟨xs,xs[i],s.seq hs,bK h⟩) (λi x b H' h j y=>?_) q;obtain⟨k,l⟩:=y;exact⟨k,f x b,λq hq=>e i x b (l xs (j.seq hs)) j q hq⟩
end G
namespace G
open PySem L2 PySem.Spec PyProof.Rows
theorem boot_isinstance:bootBuiltins "isinstance"=some (.builtin "isinstance"):=γ
theorem boot_len:bootBuiltins "len"=some (.builtin "len"):=γ
theorem boot_int:bootBuiltins "int"=some (.type "int"):=γ
theorem boot_str:bootBuiltins "str"=some (.type "str"):=γ
theorem boot_bool:bootBuiltins "bool"=some (.type "bool"):=γ
theorem boot_list:bootBuiltins "list"=some (.type "list"):=γ
theorem boot_tuple:bootBuiltins "tuple"=some (.type "tuple"):=γ
structure Zzt(K:aC)(x qual:Str)(st:Stmt)(f:AH)(fd:AK):Prop where
 ex:∃(oc:AI) (od:Option AH) (dV kV doc pm:AI) (an:Option AH) (cdv ct:AI) (osl:Array AB),
  fd=W.fnOf x qual (o5 st) (lU st) (aJ st) dV kV doc pm an cdv ct/\K.lookup f=some ⟨oc,od,.func fd,osl⟩/\W.codeIn K cdv qual=true
 kp:W.keepIn K (.ref f)=true
section
variable {P:AL}{w:AN}{K:aC}{mg:As}{base:Heap}
theorem Zvo{x a:Str}{st:Stmt}{f:AH}{oc dV:AI}{od h:Option AH}{e:Array AB}{kV d g b ct:AI}(l:K.lookup f=some ⟨oc,od,.func (W.fnOf x a (o5 st) (lU st) (aJ st) dV kV d g h b ct),e⟩)
  (c:W.codeIn K b a=true) (k:W.keepIn K (.ref f)=true):Zzt K x a st f (W.fnOf x a (o5 st) (lU st) (aJ st) dV kV d g h b ct):=⟨⟨oc,od,dV,kV,d,g,h,b,ct,e,rfl,l,c⟩,k⟩
theorem Zkq{f c:AH}{oc tc:AI}{od b:Option AH}{d ts:Array AB}{fd:AK}{a:Array AI}{tn:Nat}{ps:AG}{ds:AC}(_:K.lookup f=some ⟨oc,od,.func fd,d⟩)(t:K.lookup c=some ⟨tc,b,.seq a tn,ts⟩)
  (h:∀us:AC,us.length+ds.length=ps.length->∃k,bindArgs fd ⟨us,[]⟩=seqItems? (.ref c) >>= k/\k (some a)=pure (ps.zip (us++ds))) (hd:fd.defaults=.ref c:=by rfl):Binds K fd ps ds:=by
 intro s us e hl;obtain⟨k,h1,h2⟩:=h us (by rw[List.length_append]at hl;exact hl);exact BindsTo.of_defaults hd (e _ _ t) rfl (by rw[h1,hd]) h2
end
section
variable {X:Cx}
theorem Cv:Ag X (compareOp .Is) Tf:=Zxg
theorem wO:Ag X (compareOp .IsNot) xU:=Zu7
theorem dj:Lp X (.builtin "len") (mU X.K):=Zd8
def kk(t n:String):Option Bool:=if (Value.type t == Value.type n)=true then some true else if W.kitMeta n=true then(fastBuiltinMro t).map (·.contains (.type n))else none
theorem Zy0(K:aC)(t n:String):W.kitOne K (.type t) (.type n)=kk t n:=rfl
theorem Zjh:kk "int" "int"=some true:=γ
theorem Zfm:kk "int" "bool"=some false:=γ
theorem Zjg:kk "int" "str"=some false:=γ
theorem Zfk:kk "int" "list"=some false:=γ
theorem Zc0:kk "int" "tuple"=some false:=γ
theorem Zfl:kk "int" "dict"=some false:=γ
theorem Zfq:kk "bool" "int"=some true:=γ
theorem Zc6:kk "bool" "bool"=some true:=γ
theorem Zfp:kk "bool" "str"=some false:=γ
theorem Zc4:kk "bool" "list"=some false:=γ
theorem W6:kk "bool" "tuple"=some false:=γ
theorem Zc5:kk "bool" "dict"=some false:=γ
theorem Zjf:kk "str" "int"=some false:=γ
theorem Zfh:kk "str" "bool"=some false:=γ
theorem Zje:kk "str" "str"=some true:=γ
theorem Zff:kk "str" "list"=some false:=γ
theorem Zbw:kk "str" "tuple"=some false:=γ
theorem Zfg:kk "str" "dict"=some false:=γ
theorem Q3:kk "NoneType" "int"=some false:=γ
theorem NP:kk "NoneType" "bool"=some false:=γ
theorem QZ:kk "NoneType" "str"=some false:=γ
theorem NB:kk "NoneType" "list"=some false:=γ
theorem Kr:kk "NoneType" "tuple"=some false:=γ
theorem NK:kk "NoneType" "dict"=some false:=γ
theorem Zfj:kk "list" "int"=some false:=γ
theorem Zbz:kk "list" "bool"=some false:=γ
theorem Zfi:kk "list" "str"=some false:=γ
theorem Zbx:kk "list" "list"=some true:=γ
theorem W4:kk "list" "tuple"=some false:=γ
theorem Zby:kk "list" "dict"=some false:=γ
theorem Zbv:kk "tuple" "int"=some false:=γ
theorem W3:kk "tuple" "bool"=some false:=γ
theorem Zbu:kk "tuple" "str"=some false:=γ
theorem W0:kk "tuple" "list"=some false:=γ
theorem Uy:kk "tuple" "tuple"=some true:=γ
theorem W2:kk "tuple" "dict"=some false:=γ
theorem Zfo:kk "dict" "int"=some false:=γ
theorem Zc3:kk "dict" "bool"=some false:=γ
theorem Zfn:kk "dict" "str"=some false:=γ
theorem Zc1:kk "dict" "list"=some false:=γ
theorem W5:kk "dict" "tuple"=some false:=γ
theorem Zc2:kk "dict" "dict"=some true:=γ
theorem Zws{H:Hp}{x:V}{t:String}(e:tyN H x=some t):t="int"\/t="bool"\/t="str"\/t="NoneType"\/t="list"\/t="tuple"\/t="dict":=by
 unfold tyN at e;split at e<;>(first | (cases e;simp) | (split at e<;>(first | (cases e;simp) | cases e)) | cases e)
theorem Zy8{t n:String}{k:Bool}(e:xK t n=some k):n="int"\/n="bool"\/n="str"\/n="list"\/n="tuple"\/n="dict":=by
 unfold xK at e
 by_cases h:(["int","bool","str","list","tuple","dict"].contains n)=true
 ·simpa using h
 ·rw[if_neg h]at e;cases e
theorem ZAl{H:Hp}{x:V}{t n:String}{k:Bool}(a:tyN H x=some t)(e:xK t n=some k):kk t n=some k:=by
 rcases Zws a with rfl | rfl | rfl | rfl | rfl | rfl | rfl<;>rcases Zy8 e with rfl | rfl | rfl | rfl | rfl | rfl
 ·rw[Qi]at e;rw[Zjh];exact e
 ·rw[Ku]at e;rw[Zfm];exact e
 ·rw[Zfu]at e;rw[Zjg];exact e
 ·rw[Zcc]at e;rw[Zfk];exact e
 ·rw[Xd]at e;rw[Zc0];exact e
 ·rw[Zcd]at e;rw[Zfl];exact e
 ·rw[Zch]at e;rw[Zfq];exact e
 ·rw[Xj]at e;rw[Zc6];exact e
 ·rw[Zcg]at e;rw[Zfp];exact e
 ·rw[Xh]at e;rw[Zc4];exact e
 ·rw[U5]at e;rw[W6];exact e
 ·rw[Xi]at e;rw[Zc5];exact e
 ·rw[Zft]at e;rw[Zjf];exact e
 ·rw[Zc9]at e;rw[Zfh];exact e
 ·rw[Qh]at e;rw[Zje];exact e
 ·rw[Zc7]at e;rw[Zff];exact e
 ·rw[Xa]at e;rw[Zbw];exact e
 ·rw[Zc8]at e;rw[Zfg];exact e
 ·rw[Oa]at e;rw[Q3];exact e
 ·rw[Ky]at e;rw[NP];exact e
 ·rw[N8]at e;rw[QZ];exact e
 ·rw[Kv]at e;rw[NB];exact e
 ·rw[Jm]at e;rw[Kr];exact e
 ·rw[Kw]at e;rw[NK];exact e
 ·rw[Zcb]at e;rw[Zfj];exact e
 ·rw[Xc]at e;rw[Zbz];exact e
 ·rw[Zca]at e;rw[Zfi];exact e
 ·rw[Ib]at e;rw[Zbx];exact e
 ·rw[U3]at e;rw[W4];exact e
 ·rw[Xb]at e;rw[Zby];exact e
 ·rw[W9]at e;rw[Zbv];exact e
 ·rw[U0]at e;rw[W3];exact e
 ·rw[W8]at e;rw[Zbu];exact e
 ·rw[UT]at e;rw[W0];exact e
 ·rw[Dp]at e;rw[Uy];exact e
 ·rw[UW]at e;rw[W2];exact e
 ·rw[Zcf]at e;rw[Zfo];exact e
 ·rw[Xg]at e;rw[Zc3];exact e
 ·rw[Zce]at e;rw[Zfn];exact e
 ·rw[Xe]at e;rw[Zc1];exact e
 ·rw[U4]at e;rw[W5];exact e
 ·rw[Xf]at e;rw[Zc2];exact e
theorem tyOf{K:aC}{H:Hp}{x:V}{t:String}(e:tyN H x=some t):Ox K H x (.type t):=by
 cases x with
 | non=>cases e;exact .non
 | bl y=>cases e;exact .bl y
 | int y=>cases e;exact .int y
 | str y=>cases e;exact .str y
 | byt y=>cases e
 | flt y=>cases e
 | ty y=>cases e
 | ref a=>
  have b:(match H a with | some (.lst _)=>some "list" | some (.Aq _ (.lst _))=>some "list" | some (.tup _)=>some "tuple" | some (.dK _)=>some "dict" | some (.dT _)=>some "dict" | _=>none)=some t:=e;split at b
  ·rename_i h;cases b;exact .lst h
  ·rename_i h;cases b;exact .Aq h
  ·rename_i h;cases b;exact .tup h
  ·rename_i h;cases b;exact .dK h
  ·rename_i h;cases b;exact .dT h
  ·cases b
theorem xq:Lp X (.builtin "isinstance") Ow:=by
 intro c s i H j us Q I r h;obtain⟨x,n,t,k,rfl,d,hk,q⟩:=h;obtain⟨u,e,rfl,f,g⟩:=vals2 r;have a:e=Value.type n:=g;subst a;exact Znb (t:=.type t) (b:=k) I f (tyOf d) ((Zy0 _ _ _).trans (ZAl d hk)) λtk=>⟨.bl k,H,I.tok _,rfl,q⟩
end
section
variable {X:Cx}
def GC(mg:As)(x:Str)(v:V):Prop:=∃u,mg x=some u/\RelV v u
theorem GC.pe{x:Str}{v:V}{a:Pos}(h:GC X.mg x v)(b:Gl X x)(hd:(x == ("__debug__":Str))=false:=by decide):PE X (.Name x a) (tC v):=by
 obtain⟨u,hm,r⟩:=h;exact Zu4 b hm r hd
end
section
variable {X:Cx}
theorem Zul(z:Str)(k:Int):Txt.mul z k=Zmj z k:=by
 unfold Txt.mul Zmj;have fl:∀(n:Nat) (a:List Nat),List.foldl (λb c=>b++c) a.toArray (List.replicate n z.cps)=(a++(List.replicate n z.cps.toList).flatten).toArray:=by
  intro n
  induction n with
  | zero=>intro a;simp
  | succ n ih=>
   intro a;rw[List.replicate_succ,List.replicate_succ,List.foldl_cons,List.flatten_cons];have e:a.toArray++z.cps=(a++z.cps.toList).toArray:=ζ
   rw[e,ih,List.append_assoc]
 split
 ·rename_i h
  have e:k.toNat=0:=δ
  rw[e];rfl
 ·rename_i h
  split
  ·rename_i h2
   rw[Bool.or_eq_true]at h2;rcases h2 with h2 | h2
   ·have e:k.toNat=1:=by have:=beq_iff_eq.mp h2;omega
    rw[e];simp
   ·have e:z.cps=#[]:=Array.eq_empty_of_size_eq_zero (beq_iff_eq.mp h2);obtain⟨d⟩:=z;dsimp only at e;subst e;have:∀n:Nat,(List.replicate n ([]:List Nat)).flatten=[]:=λn=>by
     induction n with
     | zero=>rfl
     | succ n ih=>rw[List.replicate_succ,List.flatten_cons,ih];rfl
    simp[this]
  ·have:=fl k.toNat [];simp only[List.nil_append]at this;show(⟨List.foldl (λb c=>b++c) #[] (List.replicate k.toNat z.cps)⟩:Str)=_;rw[this]
theorem S8(z:Str)(k:Int):(Zmj z k).length=k.toNat * z.length:=by
 show(List.toArray _).size=_;rw[List.size_toArray];have:∀n:Nat,(List.replicate n z.cps.toList).flatten.length=n * z.length:=λn=>by
  induction n with
  | zero=>simp
  | succ n ih=>rw[List.replicate_succ,List.flatten_cons,List.length_append,ih,str_len,Nat.succ_mul,Nat.add_comm]
 exact this _
theorem Zla:Ag X (binaryOp .Mult) Zl7:=by
 intro a s g H x y v u Q I c b h;obtain⟨z,k,rfl,rfl,f,h1,h2,q⟩:=h;obtain⟨t,rfl⟩:=c;obtain⟨i,rfl⟩:=b;have hb:k.toNat * z.length<=1000000:=Nat.le_trans (Nat.mul_le_mul (show k.toNat<=1000 by omega) h2) ε;refine SB.mul ⟨?_,λh3 _=>?_,λh3 _=>?_⟩ λd kk=>?_
 ·simp;omega
 ·intro z1;have:(z.length:Int)<=1000:=δ
  have e:(1000:Int)<(2 ^ 63 - 1) / k:=by
   have hk:0<k:=δ
   rw[Int.lt_iff_add_one_le,Int.le_ediv_iff_mul_le hk];omega
  omega
 ·unfold Builtin.Str.tooLong;have:z.length * k.toNat<=1000000:=by rw[Nat.mul_comm];exact hb
  simp;exact Nat.le_trans this ε
 ·rw[Zul];exact⟨.str (Zmj z k),H,I.tok _,⟨_,rfl⟩,q _ (by rw[S8];exact hb) rfl⟩
end
end G
namespace G
open PySem L2
end G
namespace G
open PySem L2 PySem.Spec PyProof.Rows
section
variable {X:Cx}{pins:At}{σ:L2.St}{H:Hp}{s:AJ}{acc:AH}{ys:List V}{its:AC}{n:Nat}
theorem adopt(I:Inv X pins σ H s)(f:vR X pins H acc)(h:s.heap.get? acc=some { cls:=.type "list",data:=.seq its.toArray n })(hv:Vals ys its)(hz:ys.length<=sizeLine):Inv X pins σ (upd H acc (.lst ys)) s:=by
 obtain⟨a,k,p,j,g,i⟩:=f;have ne:∀b u,H b=some u->b≠acc:=λb u e=>aH e a;refine I.step (h':=s.heap) (g':=s.gens) (t':=s.toks) (d':=s.drawn) (ch:=[acc]) (λb hb=>?_) (λ_ _ _ _ _ e _=>e) (λb o _ _ _ e _=>⟨o.slots,e⟩) (λb o hb e d=>?_) (λb o _ e=>⟨o,e⟩)
  (λb l e=>by rw[aD (ne b _ e)];exact e) (λb o u e=>by rw[aD (ne b _ e)];exact e) (λb r e=>⟨#[],by rw[aD (ne b _ e),e];simp⟩) (λm hm=>hm) (λb u e=>?_) I.bare
 ·have e:b=acc:=by simpa using hb
  subst e;exact⟨j,k,g,i⟩
 ·have e:b≠acc:=by simpa using hb
  rw[aD e];exact d
 ·by_cases hb:b=acc
  ·subst hb;rw[aq]at e;cases e;exact⟨hz,its,n,hv,h⟩
  ·rw[aD hb]at e;exact(I.hok b u e).stay (λ_ _ _ q=>q) (λc q=>by rw[aD (ne c _ q)];exact q) λc l q=>by rw[aD (ne c _ q)];exact q
theorem disown(I:Inv X pins σ (upd H acc (.lst ys)) s)(g:vR X pins H acc):Inv X pins σ H s:=by
 obtain⟨f,k,p,j,h,i⟩:=g;have back:∀b u,upd H acc (.lst ys) b=some u->u≠.lst ys->H b=some u:=λb u e a=>by
  by_cases hb:b=acc
  ·subst hb;rw[aq]at e;cases e;exact absurd rfl a
  ·rw[aD hb]at e;exact e
 refine I.step (h':=s.heap) (g':=s.gens) (t':=s.toks) (d':=s.drawn) (ch:=[acc]) (λb hb=>?_) (λ_ _ _ _ _ e _=>e) (λb o _ _ _ e _=>⟨o.slots,e⟩) (λb o hb e d=>?_) (λb o _ e=>⟨o,e⟩)
  (λb n e=>back b _ e ag) (λb o u e=>back b _ e ag) (λb r e=>⟨#[],by rw[back b _ e ag];simp⟩) (λm hm=>hm) (λb u e=>?_) I.bare
 ·have e:b=acc:=by simpa using hb
  subst e;exact⟨j,k,h,i⟩
 ·have e:b≠acc:=by simpa using hb
  rw[aD e]at d;exact d
 ·have hb:b≠acc:=aH e f;have l:upd H acc (.lst ys) b=some u:=by rw[aD hb];exact e
  exact(I.hok b u l).stay (λ_ _ _ q=>q) (λc q=>back c _ q ag) λc n q=>back c _ q ag
end
def PF(X:Cx)(b:AF)(t:TT):Prop:=
 ∀(a:At) (s:AJ) (σ:L2.St) (H:Hp) (Q:Bool->Hp->Prop),Inv X a σ H s->t σ H Q->
  wpAny ς X.A (forIn b true λc r=>if r=true then do let ok <- isTrue c X.env (eval c X.env);pure (ForInStep.yield ok)else pure (ForInStep.yield r)) (TP X a σ Q) X.xe s
theorem Fe{X:Cx}:PF X [] xP:=λ_ _ _ H _ I h=>wpAny_tests_nil ⟨H,I,h⟩
theorem Zaw{X:Cx}{c:AM}{t:TT}(h:PT X c t):PF X [c] t:=λa s σ H Q I q=>wpAny_tests_one (h a s σ H Q I q)
def Ov(X:Cx)(a:Scope)(cl:List (Str×AH))(N:AG)(C:AH)(s:AJ)(H:Hp)(ex:AE)(pn:At):Cx:=
 { X with N:=N,s₀:=s,H₀:=H,env:=compEnvC a cl C X.env,outer:=X.stack,ex:=ex,fn:=λ_=>false,pn:=pn,xe:=λ_ _=>False }
def AllIn(cells:List (Str×AH)):List (Str×AH)->Prop
 | []=>True
 | p::r=>cells.lookup p.1=some p.2/\AllIn cells r
theorem AllIn.get{cells:List (Str×AH)}:∀{cl:List (Str×AH)},AllIn cells cl->∀{x:Str}{c:AH},cl.lookup x=some c->cells.lookup x=some c
 | [],_,x,c,h=>by cases h
 | (y,d)::r,a,x,c,h=>by
  cases e:(x == y)with
  | true=>
   rw[List.lookup_cons,e]at h;have b:x=y:=beq_iff_eq.mp e;subst b;cases h;exact a.1
  | false=>
   rw[List.lookup_cons,e]at h;exact AllIn.get a.2 h
def Du(X:Cx):AG->List Nat->Prop
 | [],[]=>True
 | y::r,j::js=>X.N[j]? =some y/\X.env.kindOf y=some .cell/\Du X r js
 | _,_=>False
theorem Du.len{X:Cx}:∀{ns:AG}{js:List Nat},Du X ns js->ns.length=js.length
 | [],[],_=>rfl
 | [],_::_,h=>h.elim
 | _::_,[],h=>h.elim
 | _::r,_::js,h=>by rw[List.length_cons,List.length_cons,Du.len h.2.2]
theorem Du.get{X:Cx}{σ:L2.St}:∀{ns:AG}{js:List Nat},Du X ns js->∀{i:Nat}{x:Str}{v:V},ns[i]? =some x->(js.map (pick σ))[i]? =some (some v)->∃j:Nat,X.N[j]? =some x/\X.env.kindOf x=some .cell/\σ[j]? =some (some v)
 | [],_,_,i,x,v,h,_=>by simp at h
 | _::_,[],h,_,_,_,_,_=>h.elim
 | y::r,j::js,h,0,x,v,h1,h2=>by
  simp at h1 h2;subst h1;refine⟨j,h.1,h.2.1,?_⟩;unfold pick at h2;split at h2
  ·rename_i e;rw[e,h2]
  ·cases h2
 | y::r,j::js,h,i+1,x,v,h1,h2=>Du.get (i:=i) h.2.2 (by simpa using h1) (by simpa using h2)
theorem Zqz{x n:Str}{k:NameKind}{r:List (Str×NameKind)}(h:(x == n)=false):List.lookup x ((n,k)::r)=List.lookup x r:=by rw[List.lookup_cons,h]
theorem Zr0{x n:Str}{k:NameKind}{r:List (Str×NameKind)}(h:(x == n)=true):List.lookup x ((n,k)::r)=some k:=by rw[List.lookup_cons,h]
def S9(env:Env)(x:Str)(k:NameKind):NameKind:=if (k == NameKind.free && env.scope.kind == .function && env.kindOf x == some .cell)=true then .cell else k
theorem wV{env:Env}{x:Str}:∀{names:List (Str×NameKind)},
  (names.map λ(n,k)=>if (k == NameKind.free && env.scope.kind == .function && env.kindOf n == some .cell)then(n,NameKind.cell)else(n,k)).lookup x=(names.lookup x).map (S9 env x)
 | []=>rfl
 | (n,a)::r=>by
  have ih:=@wV env x r;show List.lookup x ((if (a == NameKind.free && env.scope.kind == .function && env.kindOf n == some .cell)=true then(n,NameKind.cell)else(n,a))::r.map λ(n,k)=>if (k == NameKind.free && env.scope.kind == .function && env.kindOf n == some .cell)then(n,NameKind.cell)else(n,k))=_;cases hx:x == n with
  | true=>
   have e:=beq_iff_eq.mp hx;subst e;rw[Zr0 (k:=a) hx]
   by_cases hc:(a == NameKind.free && env.scope.kind == .function && env.kindOf x == some .cell)=true
   ·rw[if_pos hc,Zr0 hx];show some NameKind.cell=some (S9 env x a);unfold S9;rw[if_pos hc]
   ·rw[if_neg hc,Zr0 hx];show some a=some (S9 env x a);unfold S9;rw[if_neg hc]
  | false=>
   rw[Zqz (k:=a) (r:=r) hx]
   by_cases hc:(a == NameKind.free && env.scope.kind == .function && env.kindOf n == some .cell)=true
   ·rw[if_pos hc,Zqz hx];exact ih
   ·rw[if_neg hc,Zqz hx];exact ih
theorem lookup_all{names:List (Str×NameKind)}{p:Str×NameKind->Bool}:∀{x:Str}{k:NameKind},names.all p=true->names.lookup x=some k->p (x,k)=true:=by
 induction names with
 | nil=>intro x k _ h;simp at h
 | cons y r ih=>
  intro x k a h;obtain⟨n,d⟩:=y;rw[List.all_cons,Bool.and_eq_true]at a;cases hx:x == n with
  | true=>
   rw[List.lookup_cons,hx]at h;have b:x=n:=beq_iff_eq.mp hx;have c:d=k:=Option.some.inj h;rw[b,<- c];exact a.1
  | false=>
   rw[List.lookup_cons,hx]at h;exact ih a.2 h
theorem Zgc{prog:AL}{w:AN}{A:Around}{R:Result->AJ->Prop}{s:AJ}{p a iter:AM}{q:AF}{e:Scope}{z:Pos}{C acc:AI}{env:Env}(I:Nat->AJ->Prop)
  (turn:∀n s,I n s->wpAny ae A (pyNext C) (λr f=>match r with
   | none=>R (.ok .next) f
   | some v=>wpAny ae A (letOwnedTupleGo a C v) (λ_ b=>wpAny ae A (assign a env v) (λ_ i=>
     wpAny ae A (forIn q true λc r=>if r=true then do let ok <- isTrue c env (eval c env);pure (ForInStep.yield ok)else pure (ForInStep.yield r)) (λok d=>
      if ok=true then wpAny ae A (eval p env) (λx j=>
       wpAny ae A (call (.builtin "list.append") [acc,x]) (λ_ l=>∃m,m<n/\I m l) (λ_ _=>False) j) (λ_ _=>False) d
      else ∃m,m<n/\I m d) (λ_ _=>False) i) (λ_ _=>False) b) (λ_ _=>False) f) (λ_ _=>False) s)
  (n:Nat) (h:I n s):
  codeAny ae A (.compLoop (.ListComp p [⟨a,iter,q,0⟩] e z) 0 C acc env) R s:=by
 refine codeAny_loop rfl I (λn s D=>?_) n h;show wpAny _ A ((compTurn (.ListComp p [⟨a,iter,q,0⟩] e z) 0 C acc env).onRaise (λx=>do noteFrame x env;theTreesLotGoes x)) _ _ s;refine wpAny_noted ?_;rw[compTurn_list];refine wpAny_bind (wpAny_standAt (wpAny_bind (wpAny_mono (turn n s D) (λr f k=>?_) λ_ _ g=>g.elim)));cases r with
 | none=>exact wpAny_pure k
 | some v=>
  refine wpAny_bind (wpAny_mono k (λ_ b t=>?_) λ_ _ g=>g.elim);refine wpAny_bind (wpAny_mono t (λ_ i y=>wpAny_bind (wpAny_mono y (λok d o=>?_) λ_ _ g=>g.elim)) λ_ _ g=>g.elim);cases ok with
  | false=>exact wpAny_pure ⟨rfl,o⟩
  | true=>
   exact wpAny_bind (wpAny_bind (wpAny_mono o (λx j B=>wpAny_bind (wpAny_mono B (λ_ l u=>wpAny_pure (wpAny_pure ⟨rfl,u⟩)) λ_ _ g=>g.elim)) λ_ _ g=>g.elim))
theorem Zlj{X:Cx}{elt iter tg:AM}{pos:Pos}{ifs:AF}{f:Scope}{cl:List (Str×AH)}{wi:TI}{tc:TT}{te:TE}{cns:AG}{ns:AG}{gt:TG}{R:It->L2.St->Hp->VK->Prop}{use:Option (AI->Sem Unit)}{Q0:Ap}{B:At}{s:AJ}{σ:L2.St}{H:Hp}{Q:VK}(t:List Nat)
  (hR:∀J σ H Q,R J σ H Q->∃W:Nat->Nat->List V->Hp->Prop,(∃m,W 0 m [] H)/\∀i m L H,W i m L H->
   (J.stop i H/\∀p,H p=none->Q (.ref p) (upd H p (.lst L)))\/
   (J.go i H/\L.length<sizeLine/\∀x H',J.yld i H x H'->∀vs:L2.St,vs.length=ns.length->∃us:L2.St,us.length=ns.length/\gt x (vs++t.map (pick σ)) H' (λσ2 H2=>σ2=us++t.map (pick σ)/\H2=H')/\tc (us++t.map (pick σ)) H' λk H2=>if k=true then te (us++t.map (pick σ)) H2 (λy H3=>∃m',m'<m/\W (i+1) m' (L++[y]) H3)else ∃m',m'<m/\W (i+1) m' L H2))
  (hi:PI X tg iter wi) (hg:∀C s H ex pn,PG (Ov X f cl (ns++cns) C s H ex pn) tg gt)
  (hf:∀C s H ex pn,PF (Ov X f cl (ns++cns) C s H ex pn) ifs tc) (he:∀C s H ex pn,PE (Ov X f cl (ns++cns) C s H ex pn) elt te) (hc:X.calm=true)
  (hclos:closureFor f X.env=pure cl) (hcl:AllIn X.env.cells cl) (hcap:Du X cns t)
  (U:f.kind=.function) (hcell:(f.names.all λp=>p.2 != .cell)=true) (hfree:(f.names.all λp=>p.2 != .free || (cl.lookup p.1).isSome)=true)
  (hcf:(cns.all λy=>f.names.lookup y == some .free)=true) (hnames:∀y∈f.names,y.2=.local->f.names.lookup y.1=some .local)
  (hs:∀v,foldedSetIterable iter X.env v=pure v)
  (I:Inv X B σ H s) (h:wi σ H λJ H1=>R J σ H1 Q)
  (hend:∀(acc C:AH) (s6:AJ) (m:As) r0,s6.heap.Ns C m->(∀{Hf:Hp},Hf C=none->vR X B Hf C)->(∀h',Heap.SameBut C s6.heap h'->EP X B σ (λv Hf=>Q v Hf/\Hf C=none) (.ref acc) { s6 with heap:=h' })->compPost ς X.A X.xe use Q0 (.ref acc) C (.ok r0) s6):
  wpAny ς X.A (comprehension (.ListComp elt [⟨tg,iter,ifs,0⟩] f pos) f X.env (firstIterPos [⟨tg,iter,ifs,0⟩] pos) (newList []) (firstAsync [⟨tg,iter,ifs,0⟩]) (firstIter [⟨tg,iter,ifs,0⟩] X.env) use) Q0 X.xe s:=by
 refine wpAny_comprehension_free rfl hs hclos U hnames (jL (hi B s σ H _ I h) λxv s1 h1=>jL h1 λitv s2 h2=>?_);obtain⟨it,Z,tn,J,H2,rfl,K,T,st2,f2,hr⟩:=h2;obtain⟨W,⟨m0,w0⟩,turn⟩:=hR _ _ _ _ hr;have hne:∀y∈f.names,y.2≠.cell:=λy hy e=>by
  have:=List.all_eq_true.mp hcell y hy;rw[e]at this;simp at this
 refine wpAny_newObj_type (wpAny_newFunctionEnv hne (by intro y hy;simp at hy) (λh₁ M P=>?_) U);dsimp only at M P ⊢;generalize F:s2.heap.objs.size=acc;generalize hH3:s2.heap.push { cls:=.type "list",dict:=none,data:=.seq ([]:AC).toArray }=h3 at M P ⊢;have hC:h3.objs.size=acc+1:=by rw[<- hH3,Heap.size_push,F]
 have E:∀b o,s2.heap.get? b=some o->h3.get? b=some o:=λb o e=>hH3 ▸ Heap.get?_push_of_some _ e;have N:∀b o,h3.get? b=some o->h₁.get? b=some o:=λb o e=>P.extBut b o (Nat.ne_of_lt (Heap.lt_size e)) (Heap.get?_push_of_some _ e);have ZC5:h3.get? acc=some { cls:=.type "list",dict:=none,data:=.seq ([]:AC).toArray }:=by
  rw[<- hH3,<- F];exact Heap.get?_push_size _ rfl
 have I3:Inv X B σ H2 { s2 with heap:=h3 }:=K.kept (t':=s2.toks) E;have Zz6:vR X B H2 acc:=K.Zjx (Nat.le_of_eq F) (K.hok.fresh (Nat.le_of_eq F));have fpl:∀b∈Z,b<acc:=λb hb=>by
  obtain⟨o,e,_⟩:=T.obj _ _ st2 b hb;rw[<- F];exact Heap.lt_size e
 have Zo3:∀b∈acc::Z,vR X B H2 b:=λb hb=>(List.mem_cons.mp hb).elim (λe=>e ▸ Zz6) (f2 b);have exC:∀b∈acc::Z,b≠h3.objs.size:=λb hb=>by
  rcases List.mem_cons.mp hb with e | hb
  ·rw[hC,e];exact Nat.ne_of_lt (Nat.lt_succ_self _)
  ·rw[hC];exact Nat.ne_of_lt (Nat.lt_succ_of_lt (fpl b hb))
 have Zha:∀b∈acc::Z,b∉frs X.stack:=λb hb hm=>by
  obtain⟨_,g1,g2,_⟩:=Zo3 b hb;exact(List.mem_cons.mp (K.Lx b hm)).elim g1 g2
 let Y:Cx:=Ov X f cl (ns++cns) h3.objs.size { s2 with heap:=h3 } H2 (acc::Z) (X.pn++B)
 have g:∀y c,cl.lookup y=some c->X.env.cells.lookup y=some c:=λy c e=>hcl.get e;have Zlk:∀y k,Y.env.kindOf y=some k->(k=.cell\/k=.free)->∃c,cl.lookup y=some c:=λy k e hk=>by
  have e0:(f.names.lookup y).map (S9 X.env y)=some k:=wV.symm.trans e;obtain⟨k0,e1,e2⟩:=Option.map_eq_some_iff.mp e0;have e3:=lookup_all hfree e1;have e4:=lookup_all hcell e1
  by_cases hf:k0=.free
  ·subst hf;rw[Bool.or_eq_true]at e3;rcases e3 with e3 | e3
   ·exact absurd rfl (bne_iff_ne.mp e3)
   ·exact Option.isSome_iff_exists.mp e3
  ·exfalso
   have e5:S9 X.env y k0=k0:=by
    unfold S9;rw[if_neg];intro z;rw[Bool.and_eq_true,Bool.and_eq_true]at z;exact hf (beq_iff_eq.mp z.1.1)
   rw[e5]at e2;subst e2;rcases hk with rfl | rfl
   ·simp at e4
   ·exact hf rfl
 have okY:Y.Ok:={
  mod:=K.ok.mod
  kind:=U
  glob:=K.ok.glob
  blt:=K.ok.blt
  above:=Nat.le_refl _
  inj:=λa b c e1 e2=>K.ok.inj a b c (g _ _ e1) (g _ _ e2)
  has:=λy hy=>hy.elim (λe=>Zlk y _ e (.inl rfl)) (λe=>Zlk y _ e (.inr rfl))
  cab:=λy c e=>nomatch e
  hd:=K.ok.hd
  frames:=K.ok.frames
  stk:=.inl rfl
  exf:=λb hb=>⟨exC b hb,λy c e=>(Zo3 b hb).2.2.2.2.1 y c (g _ _ e)⟩
  bs:=λb o e=>⟨E b o (K.bs b o e).1,(K.bs b o e).2⟩
  bsz:=by
   show X.base.objs.size<=h3.objs.size;rw[hC,<- F];exact Nat.le_succ_of_le (Nat.le_trans K.ok.bsz K.sz)
  Zf3:=λb o e hb=>by
   rcases(Zo3 b hb).2.2.2.1 with z | z
   ·exact K.ok.Zf3 b o e z
   ·exact absurd (Nat.lt_of_lt_of_le (Heap.lt_size e) (Nat.le_trans K.ok.bsz z)) (Nat.lt_irrefl _)
  Zk8:=Zha
  CT:=I3.stack
  frf:=I3.ZQ }
 have ZCf:(List.replicate ns.length none++t.map (pick σ):L2.St).length=(ns++cns).length:=by rw[List.length_append,List.length_append,List.length_replicate,bB,hcap.len]
 have I4:Inv Y [] (List.replicate ns.length none++t.map (pick σ)) H2 { s2 with heap:=h₁,toks:=s2.toks+([]:List (Str×AI)).length }:={
  ok:=okY
  os:=rfl
  bare:=K.bare
  base:=Un.kept N
  loc:=by
   refine⟨_,M,λi y v e1 e2 e3=>?_⟩
   by_cases hlt:i<ns.length
   ·have e2:(List.replicate ns.length none++t.map (pick σ):L2.St)[i]? =some (some v):=e2;rw[List.getElem?_append_left (by rw[List.length_replicate];exact hlt),List.getElem?_replicate,if_pos hlt]at e2;cases e2
   ·have e1':cns[i - ns.length]? =some y:=by
     have e1':(ns++cns)[i]? =some y:=e1;rw[List.getElem?_append_right δ]at e1';exact e1'
    have e2':(t.map (pick σ):L2.St)[i - ns.length]? =some (some v):=by
     have e2:(List.replicate ns.length none++t.map (pick σ):L2.St)[i]? =some (some v):=e2;rw[List.getElem?_append_right (by rw[List.length_replicate];omega),List.length_replicate]at e2;exact e2
    obtain⟨j,j1,j2,j3⟩:=hcap.get (σ:=σ) (i:=i - ns.length) (x:=y) (v:=v) e1' e2';obtain⟨m,hn,hl⟩:=K.loc;obtain⟨u,r,l⟩:=hl j y v j1 j3 (.inr (.inl j2));rcases l with ⟨l,_⟩ | ⟨_,c,l1,l2⟩
    ·rw[j2]at l;cases l
    ·refine⟨u,r,.inr ?_⟩;rcases e3 with e3 | e3 | e3
     ·exfalso
      have hm:y∈cns:=List.mem_of_getElem? e1';have hl:f.names.lookup y=some .free:=beq_iff_eq.mp (List.all_eq_true.mp hcf y hm);have e0:(f.names.lookup y).map (S9 X.env y)=some .local:=wV.symm.trans e3;rw[hl]at e0;have e5:S9 X.env y .free=.local:=Option.some.inj e0;unfold S9 at e5;split at e5<;>cases e5
     ·obtain⟨c',hc'⟩:=Zlk y _ e3 (.inl rfl);have:=g _ _ hc';rw[l1]at this;cases this;exact⟨.inl e3,c,hc',l2.keeps λb o e=>N _ _ (E _ _ e)⟩
     ·obtain⟨c',hc'⟩:=Zlk y _ e3 (.inr rfl);have:=g _ _ hc';rw[l1]at this;cases this;exact⟨.inr e3,c,hc',l2.keeps λb o e=>N _ _ (E _ _ e)⟩
  cell:=λy c e=>by
   obtain⟨v,z⟩:=K.cell y c (g _ _ e);exact⟨v,z.keeps λb o e=>N _ _ (E _ _ e)⟩
  free:=K.hok.fresh (by rw[F];show acc<=h3.objs.size;rw[hC];exact Nat.le_succ _)
  wX:=λy c e=>K.wX y c (g _ _ e)
  pin:=λp hp=>by
   have hp2:p∈(X.pn++B)++[]:=hp;have hp':p∈X.pn++B:=by rw[List.append_nil]at hp2;exact hp2
   obtain⟨p1,p2,p3,p4,p5⟩:=K.pin p hp';refine⟨N _ _ (E _ _ p1),p2,?_,λhm=>(List.mem_cons.mp (K.Lx _ hm)).elim p3 p4,p5⟩;exact Nat.ne_of_lt (by show p.1<h3.objs.size;exact Heap.lt_size (E _ _ p1))
  hok:=K.hok.kept λb u e=>N _ _ (E _ _ e)
  len:=ZCf }
 have fpY:∀{H':Hp}{pl:At}{b:AH},b∈acc::Z->H' b=none->(∀p∈pl,p.1≠b)->vR Y pl H' b:=λ{H' pl b} hb hn hp=>
  ⟨hn,exC b hb,Zha b hb,.inl hb,λy c e=>(Zo3 b hb).2.2.2.2.1 y c (g _ _ e),λp hm=>(List.mem_append.mp hm).elim (λz=>(Zo3 b hb).2.2.2.2.2 p z) (hp p)⟩
 have fin:∀{S:L2.St}{H':Hp}{O:AJ}{L:List V}{D:AC}{kk:Nat}{pl:At},Inv Y pl S H' O->H' acc=none->Vals L D->L.length<=sizeLine->
   O.heap.get? acc=some { cls:=.type "list",data:=.seq D.toArray kk }->(∀p,H' p=none->Q (.ref p) (upd H' p (.lst L)))->
   ∀h',Heap.SameBut h3.objs.size O.heap h'->EP X B σ (λv Hf=>Q v Hf/\Hf h3.objs.size=none) (.ref acc) { O with heap:=h' }:=λ{S H' O L D kk pl} J ha hv hz ho hq h' hs'=>by
  have ZBd:acc≠h3.objs.size:=exC acc (List.mem_cons_self);have Zfr:∀b o,b≠h3.objs.size->O.heap.get? b=some o->h'.get? b=some o:=λb o hb e=>hs'.extBut b o hb e;have ltC:∀b o,s2.heap.get? b=some o->b≠h3.objs.size:=λb o e=>Nat.ne_of_lt (Heap.lt_size (E b o e));have Zju:H' h3.objs.size=none:=J.free;have un:Un (frs X.stack) (acc::Z) H2 H' s2.heap h':={
   keep:=λb o e n hb hx=>Zfr b o (ltC b o e) (J.base.keep b o (E b o e) n hb hx)
   slot:=λb o e n hb hx=>by
    obtain⟨sl,q⟩:=J.base.slot b o (E b o e) n hb hx;exact⟨sl,Zfr b _ (ltC b o e) q⟩
   free:=λb o e n hx=>J.base.free b o (E b o e) n hx
   there:=λb o e hx=>by
    obtain⟨o',q⟩:=J.base.there b o (E b o e) hx;exact⟨o',Zfr b o' (ltC b o e) q⟩
   tups:=J.base.tups
   Oh:=J.base.Oh
   Qq:=J.base.Qq }
  have hok:Gy X.prog X.w H' h':=λb u e=>by
   refine(J.hok b u e).stay (λc v hc q=>Zfr c v ?_ q) (λ_ q=>q) λ_ _ q=>q;rintro rfl;rcases hc with rfl | hc
   ·rw[Zju]at e;cases e
   ·rw[Zju]at hc;cases hc
  have I5:Inv X B σ H' { O with heap:=h' }:=K.call' (ch:=acc::Z) J.os un hok J.bare λb hb=>by
   obtain⟨g0,g1,g2,g3,g4,g5⟩:=Zo3 b hb;exact⟨g3,g1,g4,g5⟩
  refine⟨.ref acc,_,adopt (acc:=acc) I5 ?_ (Zfr _ _ ZBd ho) hv hz,rfl,hq acc ha,by rw[aD ZBd.symm];exact Zju⟩;obtain⟨g0,g1,g2,g3,g4,g5⟩:=Zz6;exact⟨ha,g1,g2,g3,g4,g5⟩
 have loop:codeAny ς X.A (.compLoop (.ListComp elt [⟨tg,iter,ifs,0⟩] f pos) 0 (.ref it) (.ref acc) Y.env) (compPost ς X.A X.xe use Q0 (.ref acc) h3.objs.size)
   { s2 with heap:=h₁,toks:=s2.toks+([]:List (Str×AI)).length }:=by
  refine Zgc (λn O=>∃(i:Nat) (v:L2.St) (L:List V) (D:AC) (kk:Nat) (H':Hp),v.length=ns.length/\Inv Y [] (v++t.map (pick σ)) H' O/\tn i O.heap/\(∀b∈Z,H' b=none)/\H' acc=none/\Vals L D/\L.length<=sizeLine/\
   O.heap.get? acc=some { cls:=.type "list",data:=.seq D.toArray kk }/\W i n L H') ?_ m0 ⟨0,List.replicate ns.length none,[],[],0,H2,List.length_replicate,I4,T.keep _ _ _ st2 (λb _ o e=>N _ _ (E _ _ e)),λb hb=>(f2 b hb).1,Zz6.1,.nil,Nat.zero_le _,N _ _ ZC5,w0⟩
  rintro n s5 ⟨i,v,L,D,kk,H5,lv,I5,st5,fr5,ha5,hv5,hz5,ho5,w5⟩;have ZA8:Inv Y [(acc,{ cls:=.type "list",data:=.seq D.toArray kk })] (v++t.map (pick σ)) H5 s5:=I5.GQ λp hp=>by
   have e:p=(acc,{ cls:=.type "list",data:=.seq D.toArray kk }):=by simpa using hp
   subst e;exact⟨ho5,ha5,exC acc List.mem_cons_self,Zha acc List.mem_cons_self,λv=>by intro z;cases z⟩
  have fpA:∀{H':Hp},(∀b∈Z,H' b=none)->∀b∈Z,vR Y [(acc,{ cls:=.type "list",data:=.seq D.toArray kk })] H' b:=λhn b hb=>fpY (List.mem_cons_of_mem _ hb) (hn b hb) λp hp=>by
   have e:p=(acc,{ cls:=.type "list",data:=.seq D.toArray kk }):=by simpa using hp
   subst e;exact(Nat.ne_of_lt (fpl b hb)).symm
  rcases turn i n L H5 w5 with ⟨stop,qn⟩ | ⟨go,hlt,step⟩
  ·refine jL (T.done Y rfl rfl rfl hc i _ s5 _ H5 (λ_ _=>False) ZA8 (fpA fr5) st5 stop) λr s6 qb=>?_;obtain⟨hr,I6⟩:=qb;subst hr;obtain⟨m,hm,_⟩:=I6.loc;have ho6:=(I6.pin (acc,{ cls:=.type "list",data:=.seq D.toArray kk }) (List.mem_append_right _ List.mem_cons_self)).1;exact hend acc h3.objs.size s6 m _ hm (λhf=>K.Zjx (by rw[hC,F];exact Nat.le_succ _) hf) (fin I6 ha5 hv5 hz5 ho6 qn)
  ·refine jL (T.item Y rfl rfl rfl hc i _ s5 _ H5 (λ_ _=>False) ZA8 (fpA fr5) st5 go) λr s6 qb=>?_;obtain⟨u,hr,h6⟩:=qb;subst hr;refine jL h6 λ_ s7 qb=>?_;obtain⟨z,H7,I7,r7,y7,st7,fr7⟩:=qb;have I7':=I7.pinned (fpA fr7) (T.obj _ _ st7);obtain⟨us,lu,hgt,step⟩:=step z H7 y7 v lv;have pg:PG Y tg gt:=hg _ _ _ _ _;refine jL (pg _ s7 _ H7 z u (λσ2 H2'=>σ2=us++t.map (pick σ)/\H2'=H7) I7' r7 hgt) λ_ s8 qb=>?_;obtain⟨σ8,H8,I8,e8,e8'⟩:=qb;subst e8 e8';refine jL (hf _ _ _ _ _ _ s8 _ H8 _ I8 step) λok s9 qb=>?_;obtain⟨H9,I9,q9⟩:=qb;have stat:∀{H':Hp}{O:AJ}{S:L2.St},Inv Y ([(acc,{ cls:=.type "list",data:=.seq D.toArray kk })]++Jh Z s7.heap) S H' O->tn (i+1) O.heap/\(∀b∈Z,H' b=none)/\H' acc=none/\O.heap.get? acc=some { cls:=.type "list",data:=.seq D.toArray kk }:=λ{H' O S} J=>by
    have pa:=J.pin (acc,{ cls:=.type "list",data:=.seq D.toArray kk }) (List.mem_append_right _ (List.mem_append_left _ List.mem_cons_self));refine⟨T.keep _ _ _ st7 λb hb o e=>(J.pin (b,o) (List.mem_append_right _ (List.mem_append_right _ (wQ hb e)))).1,λb hb=>?_,pa.2.1,pa.1⟩;obtain⟨o,e,d⟩:=T.obj _ _ st7 b hb;exact(J.pin (b,o) (List.mem_append_right _ (List.mem_append_right _ (wQ hb e)))).2.1
   have Zwg:∀{H':Hp}{O:AJ}{S:L2.St}{pl:At},Inv Y pl S H' O->Inv Y [] S H' O:=λJ=>J.GQ λp hp=>nomatch hp;cases ok with
   | false=>
    obtain⟨m',hm,w9⟩:=q9;obtain⟨t1,t2,t3,t4⟩:=stat I9;exact⟨m',hm,i+1,us,L,D,kk,H9,lu,Zwg I9,t1,t2,t3,hv5,hz5,t4,w9⟩
   | true=>
    show wpAny _ _ (eval elt Y.env) _ _ s9;refine jL (he _ _ _ _ _ _ s9 _ H9 _ I9 q9) λy s10 qb=>?_;obtain⟨yv,H10,I10,r10,m',hm,w10⟩:=qb;obtain⟨t1,t2,t3,t4⟩:=stat I10;have ZKw:Inv Y (Jh Z s7.heap) (us++t.map (pick σ)) H10 s10:=I10.GQ λp hp=>I10.pin p (List.mem_append_right _ (List.mem_append_right _ hp));have fA:vR Y (Jh Z s7.heap) H10 acc:=fpY List.mem_cons_self t3 λp hp=>Nat.ne_of_lt (fpl _ (YJ hp).1);have Ja:=adopt ZKw fA t4 hv5 hz5;refine jL (tV (X:=Y) _ s10 _ _ (.ref acc) [yv] (.ref acc) [y] (λ_ H'=>H'=upd (upd H10 acc (.lst L)) acc (.lst (L++[yv]))) Ja rfl (.cons r10 .nil) ⟨acc,L,yv,rfl,rfl,aq,hlt,rfl⟩) λ_ s11 qb=>?_;obtain⟨_,H11,I11,_,e11⟩:=qb;rw[fM]at e11;subst e11;obtain⟨ZD4,its',kk',ZD5,ZD8⟩:=I11.hok acc _ aq;have Jd:=disown I11 fA;have ZC1:tn (i+1) s11.heap:=T.keep _ _ _ st7 λb hb o e=>(Jd.pin (b,o) (List.mem_append_right _ (wQ hb e))).1;exact⟨m',hm,i+1,us,L++[yv],its',kk',H10,lu,Zwg Jd,ZC1,t2,t3,ZD5,ZD4,ZD8,w10⟩
 exact codeAny_compStart_list loop (T.self X.A 0 _ _ _ (T.keep _ _ _ st2 (λb _ o e=>N _ _ (E _ _ e))) loop)
theorem Zpx{X:Cx}{j iter tg:AM}{z:Pos}{q:AF}{a:Scope}{cl:List (Str×AH)}{B:TI}{tc:TT}{E:TE}{cns:AG}{ns:AG}{gt:TG}{R:It->L2.St->Hp->VK->Prop}(b:List Nat)
  (hR:∀J σ H Q,R J σ H Q->∃W:Nat->Nat->List V->Hp->Prop,(∃m,W 0 m [] H)/\∀i m l H,W i m l H->
   (J.stop i H/\∀p,H p=none->Q (.ref p) (upd H p (.lst l)))\/
   (J.go i H/\l.length<sizeLine/\∀x H',J.yld i H x H'->∀vs:L2.St,vs.length=ns.length->∃us:L2.St,us.length=ns.length/\gt x (vs++b.map (pick σ)) H' (λA r=>A=us++b.map (pick σ)/\r=H')/\tc (us++b.map (pick σ)) H' λk r=>if k=true then E (us++b.map (pick σ)) r (λy F=>∃n,n<m/\W (i+1) n (l++[y]) F)else ∃n,n<m/\W (i+1) n l r))
  (N:PI X tg iter B) (P:∀C s H ex pn,PG (Ov X a cl (ns++cns) C s H ex pn) tg gt)
  (M:∀C s H ex pn,PF (Ov X a cl (ns++cns) C s H ex pn) q tc) (T:∀C s H ex pn,PE (Ov X a cl (ns++cns) C s H ex pn) j E) (hc:X.calm=true)
  (f:closureFor a X.env=pure cl) (w:AllIn X.env.cells cl) (o:Du X cns b)
  (g:a.kind=.function) (d:(a.names.all λp=>p.2 != .cell)=true) (e:(a.names.all λp=>p.2 != .free || (cl.lookup p.1).isSome)=true)
  (u:(cns.all λy=>a.names.lookup y == some .free)=true) (c:∀y∈a.names,y.2=.local->a.names.lookup y.1=some .local)
  (hs:∀v,foldedSetIterable iter X.env v=pure v):
  PE X (.ListComp j [⟨tg,iter,q,0⟩] a z) (λσ H Q=>B σ H λJ S=>R J σ S Q):=by
 intro D s σ H Q I h;rw[eval_ListComp];refine Zlj b hR N P M T hc f w o g d e u c hs I h λK C s6 m r0 hm fC fin=>⟨m,hm,λU t=>?_⟩;obtain⟨v,Z,L,O,Y,_⟩:=fin U t;exact⟨v,Z,L,O,Y⟩
theorem Tn{X:Cx}{n iter:AM}{x:Str}{B t:Pos}{o:AF}{a:Scope}{cl:List (Str×AH)}{A:TI}{tc:TT}{w:TE}{cns:AG}(b:List Nat)
  (I:PI X (.Name x B) iter A)
  (E:∀C s H ex pn,PF (Ov X a cl (x::cns) C s H ex pn) o tc) (K:∀C s H ex pn,PE (Ov X a cl (x::cns) C s H ex pn) n w) (hc:X.calm=true)
  (d:closureFor a X.env=pure cl) (r:AllIn X.env.cells cl) (k:Du X cns b)
  (f:a.kind=.function) (e:(a.names.all λp=>p.2 != .cell)=true) (j:(a.names.all λp=>p.2 != .free || (cl.lookup p.1).isSome)=true)
  (q:(cns.all λy=>a.names.lookup y == some .free)=true) (c:∀y∈a.names,y.2=.local->a.names.lookup y.1=some .local) (hx:a.names.lookup x=some .local) (u:(x::cns).Nodup)
  (hs:∀v,foldedSetIterable iter X.env v=pure v:=by intro _;rfl):
  PE X (.ListComp n [⟨.Name x B,iter,o,0⟩] a t) (tLC A b tc w):=by
 refine Zpx (ns:=[x]) (gt:=aO 0) b (λJ N H Q h=>?_) I (λC s H ex pn=>fu u rfl (.inl (lookup_relabel_local hx)) (.inr (lookup_relabel_local hx))) E K hc d r k f e j q c hs;obtain⟨W,w0,turn⟩:=h;refine⟨W,w0,λi m F H M=>(turn i m F H M).imp id λ⟨g,l,st⟩=>⟨g,l,λz L y D hv=>?_⟩⟩
 match D,hv with
 | [v],_=>exact⟨[some z],rfl,⟨rfl,rfl⟩,st z L y⟩
theorem Np{P:AL}{w:AN}{H:Hp}{h:Heap}{a:AH}{o:HO}(x:lO P w H h a o):∃ob,h.get? a=some ob:=by
 induction o with
 | lst c=>obtain⟨_,_,_,_,e⟩:=x;exact⟨_,e⟩
 | tup c=>obtain⟨_,_,_,ob,e,_⟩:=x;exact⟨ob,e⟩
 | dK b=>obtain⟨_,_,_,_,ob,_,_,e,_⟩:=x;exact⟨ob,e⟩
 | dT b=>obtain⟨_,_,_,_,ob,_,_,e,_⟩:=x;exact⟨ob,e⟩
 | set S n=>obtain⟨ob,_,_,_,e,_⟩:=x;exact⟨ob,e⟩
 | ins C i fs=>obtain⟨_,_,_,e,_⟩:=x;exact⟨_,e⟩
 | own y=>exact x
 | xd fs=>obtain⟨_,⟨ob,_,_,e,_⟩,_⟩:=x;exact⟨ob,e⟩
 | rng lo g=>obtain⟨_,_,_,e⟩:=x;exact⟨_,e⟩
 | Aq ob u ih=>exact⟨_,x.1⟩
 | R0 j=>exact⟨_,x⟩
 | met f y=>exact⟨_,x⟩
 | ext d=>obtain⟨_,e,_⟩:=x;exact e
theorem ZG{P:AL}{w:AN}{fs:AE}{H0 c:Hp}{f h1 h2:Heap}(u:Un fs [] H0 c f h1)(ok:Gy P w c h1)(k:∀b∈fs,c b=none)
  (kp:∀b o,h1.get? b=some o->((∃v,f.get? b=some v)\/∃v,c b=some v)->b∉fs->h2.get? b=some o) (sl:∀b o,h1.get? b=some o->b∈fs->∃z,h2.get? b=some { o with slots:=z }):
  Un fs [] H0 c f h2/\Gy P w c h2:=by
 refine⟨⟨λb o e n hb hx=>kp b o (u.keep b o e n hb hx) (.inl ⟨o,e⟩) hb,λb o e n hb hx=>?_,u.free,λb o e hx=>?_,u.tups,u.Oh,u.Qq⟩,λa o e=>?_⟩
 ·obtain⟨z,d⟩:=u.slot b o e n hb hx;obtain⟨j,g⟩:=sl b _ d hb;exact⟨j,g⟩
 ·obtain⟨h,d⟩:=u.there b o e hx
  by_cases hb:b∈fs
  ·obtain⟨z,g⟩:=sl b _ d hb;exact⟨_,g⟩
  ·exact⟨h,kp b h d (.inl ⟨o,e⟩) hb⟩
 ·refine(ok a o e).stay (λb v hb q=>?_) (λ_ q=>q) λ_ _ q=>q;have hs:∃v,c b=some v:=by
   rcases hb with z | z
   ·exact⟨o,by rw[z];exact e⟩
   ·exact⟨_,z⟩
  refine kp b v q (.inr hs) λz=>?_;obtain⟨l,i⟩:=hs;rw[k b z]at i;cases i
def VG(P:AL)(w:AN):CXT:=λouter H s E e s'=>
 ∃(c:AH) (a a0:AI) (B:Heap) (H':Hp),e=.ref c/\s'.os=s.os/\AllBare s'.gens/\Un (frs outer) [] H H' s.heap s'.heap/\Gy P w H' s'.heap/\Heap.FlyingW B outer c a a0 s'.heap/\
  (∀b o,s'.heap.get? b=some o->((∃v,s.heap.get? b=some v)\/∃v,H' b=some v)->b∉frs outer->B.get? b=some o)/\E a none H'
theorem gH{P:AL}{w:AN}{X:Cx}:Passes (VG P w) X E0:=λ_ _ _ _ _ _ _ h=>by
 obtain⟨_,_,_,_,_,_,_,_,_,_,_,_,z⟩:=h;exact z.elim
section
variable {P:AL}{w:AN}{K:aC}{mg:As}{base:Heap}{N:AG}{qual:Str}{scope:Scope}{f:AH}{cd:AI}{A:Around}{outer:List Env}{s:AJ}{H:Hp}{E:XK}
theorem JX:Passes (VG P w) (Ou (VG P w) P w K mg base N qual scope f cd A outer s H E) E:=by
 intro g u L D e j I h;obtain⟨F,m,a0,B,c,rfl,os,bare,un,ok,fl,r,t⟩:=h;have J:Inv (Ou (VG P w) P w K mg base N qual scope f cd A outer s H E) g u c j:=I.call' os un ok bare (λb z=>nomatch z);have y:∀b o,s.heap.get? b=some o->b≠(envOfC qual scope s.heap.objs.size f cd).locals:=λb o e=>Nat.ne_of_lt (Nat.lt_of_lt_of_le (Heap.lt_size e) I.ok.above);have l:∀b,((∃v,s.heap.get? b=some v)\/∃v,c b=some v)->b∉frs outer->b∉frs (envOfC qual scope s.heap.objs.size f cd::outer):=λb hb hn hm=>by
  rcases List.mem_cons.mp (J.Lx b hm)with z | z
  ·rcases hb with ⟨v,e⟩ | ⟨v,e⟩
   ·exact y b v e z
   ·rw[z]at e;have:=J.free;rw[e]at this;cases this
  ·exact hn z
 have k:∀b,((∃v,s.heap.get? b=some v)\/∃v,c b=some v)->(∃v,D.heap.get? b=some v)\/∃v,c b=some v:=λb hb=>by
  rcases hb with ⟨v,e⟩ | hb
  ·exact .inl (I.base.there b v e ag)
  ·exact .inr hb
 refine wpAny_leaves_onW I.ok.frames rfl fl λC a sm=>?_;have n:∀b o,j.heap.get? b=some o->b∈frs outer->∀p,o.data≠.fields p:=λb o e hb=>by
  obtain⟨_,M,d,hd⟩:=J.CT.mem hb;rw[e]at d;cases d;exact hd
 have i:∀b o,j.heap.get? b=some o->((∃v,s.heap.get? b=some v)\/∃v,c b=some v)->b∉frs outer->B.get? b=some o:=λb o e hb hn=>r b o e (k b hb) (l b hb hn);have U:=ZG (P:=P) (w:=w) (h2:=C) J.base J.hok (λb hb=>by
   obtain⟨_,o,x,_⟩:=J.ok.CT.mem hb;exact J.base.free b o x (J.ok.frf b hb) ag) (λb o e hb hn=>a.1 _ _ (i b o e hb hn)) λb o e hb=>sm b o e (n b o e hb)
 refine⟨F,m,a0,B,c,rfl,J.os,J.bare,U.1,U.2,a,λb o e hb hn=>?_,t⟩;have there:∃v,j.heap.get? b=some v:=by
  rcases hb with ⟨v,z⟩ | ⟨v,z⟩
  ·exact J.base.there b v z ag
  ·exact Np (J.hok b v z)
 obtain⟨v,z⟩:=there;have q:=i b v z hb hn;have:=a.1 _ _ q;rw[e]at this;cases this;exact q
theorem Zas{g:At}{σ:L2.St}{c:Hp}{a:AJ}{C e:AH}{vs:AC}{h1:Heap}(I:Inv (Ou (VG P w) P w K mg base N qual scope f cd A outer s H E) g σ c a)
  (hx:Heap.MadeExcOf a.heap h1 e (.ref C) vs) (l:E (.ref C) none c):(Ou (VG P w) P w K mg base N qual scope f cd A outer s H E).xe (.ref e) { a with heap:=h1 }:=by
 have p:∀b o,s.heap.get? b=some o->b≠(envOfC qual scope s.heap.objs.size f cd).locals:=λb o e=>Nat.ne_of_lt (Nat.lt_of_lt_of_le (Heap.lt_size e) I.ok.above);have i:∀b,((∃v,s.heap.get? b=some v)\/∃v,c b=some v)->b∉frs outer->b∉frs (envOfC qual scope s.heap.objs.size f cd::outer):=λb hb hn hm=>by
  rcases List.mem_cons.mp (I.Lx b hm)with z | z
  ·rcases hb with ⟨v,e⟩ | ⟨v,e⟩
   ·exact p b v e z
   ·rw[z]at e;have:=I.free;rw[e]at this;cases this
  ·exact hn z
 have r:a.heap.FunFrames (W.hideAll a.heap (frs (envOfC qual scope s.heap.objs.size f cd::outer))) (envOfC qual scope s.heap.objs.size f cd::outer):=
  W.funFrames_hide I.stack λenv n b hb=>List.mem_filterMap.mpr ⟨env,n,hb⟩
 refine wpAny_leaves_madeW (s:={ a with heap:=h1 }) I.ok.frames rfl (λb o q=>W.of_hideAll _ q) r hx λu t fl _ _ sm=>?_;have h:∀b o,a.heap.get? b=some o->((∃v,s.heap.get? b=some v)\/∃v,c b=some v)->b∉frs outer->(W.hideAll a.heap (frs (envOfC qual scope s.heap.objs.size f cd::outer))).get? b=some o:=
  λb o e hb hn=>W.hideAll_get _ e (i b hb hn)
 have j:∀b o,a.heap.get? b=some o->b∈frs outer->∀vs,o.data≠.fields vs:=λb o e hb=>by
  obtain⟨_,x,d,hd⟩:=I.CT.mem hb;rw[e]at d;cases d;exact hd
 have U:=ZG (P:=P) (w:=w) (h2:=u) I.base I.hok (λb hb=>by
   obtain⟨_,o,m,_⟩:=I.ok.CT.mem hb;exact I.base.free b o m (I.ok.frf b hb) ag) (λb o e hb hn=>fl.1 _ _ (h b o e hb hn)) λb o e hb=>sm b o (hx.keeps b o e) (j b o e hb)
 refine⟨e,.ref C,.ref t,_,c,rfl,I.os,I.bare,U.1,U.2,fl,λb o q hb hn=>?_,l⟩;have there:∃v,a.heap.get? b=some v:=by
  rcases hb with ⟨v,z⟩ | ⟨v,z⟩
  ·exact I.base.there b v z ag
  ·exact Np (I.hok b v z)
 obtain⟨v,z⟩:=there;have k:=h b v z hb hn;have:=fl.1 _ _ k;rw[q]at this;cases this;exact k
end
abbrev Zsq(K:aC)(C:AH):Prop:=W.excIn K C [.type "ValueError",.type "Exception",.type "BaseException",.type "object"] "ValueError.__new__"=true
theorem Zvu{K:aC}{h:Heap}{C:AH}{m:AC}{s:String}(X:K.In h)(q:W.excIn K C m s=true):
  ∃tl N nm y bs hd sn sub ab col dd f d c e b mN,h.get? C=some (excClassObj nm y C N bs tl hd sn sub ab col dd f d c e b s)/\h.Ns N mN/\mN "__init__"=none/\OwnTail h m tl:=by
 unfold W.excIn at q;split at q
 ·rename_i dd l a j
  split at q
  ·rename_i I tl f d c e n2 b n o
   simp only[Bool.and_eq_true,beq_iff_eq,Bool.not_eq_true']at q;obtain⟨⟨⟨⟨⟨z,A⟩,e3⟩,F⟩,k⟩,r⟩:=q;subst z A;obtain⟨D,t,H,p,B,x,v,u,w,i,E⟩:=l;dsimp only at n e3 k r;subst n e3;have g:a=#[f,d,c,e,some (.builtin n2),b]:=by
    obtain⟨ls⟩:=a;simp only at o;rw[o]
   subst g;refine⟨tl,p,D,B,t,x,v,u,w,i,dd,f,d,c,e,b,h.nsMap p,X _ _ j,?_,W.nsMap_none_of_in X k r,W.tail_of_in X F⟩;exact .of_isNs (W.isNs_of_in X k)
  ·cases q
 ·cases q
section
variable {X:Cx}{x:Str}{C:AH}{np cpos pos:Pos}{e:AM}{es:AF}{ta:TA}{E:XK}
theorem JV(hc:X.calm=true)(m:Gl X x)(hm:X.mg x=↑C)(hx:Zsq X.K C)(v:PA X (e::es) ta)
  (j:∀(a:At) (σ:L2.St) (H:Hp) (s:AJ) (c:AH) (vs:AC) (h1:Heap),Inv X a σ H s->Heap.MadeExcOf s.heap h1 c (.ref C) vs->E (.ref C) none H->X.xe (.ref c) { s with heap:=h1 })
  (hs:starEach (e::es) X.env=(false,eval e X.env)::starEach es X.env:=by rfl) (d:(backTo cpos (starEach es X.env)).any (·.1)=false:=by rfl) (hd:(x == ("__debug__":Str))=false:=by decide):
  PS X (.Raise (some (.Call (.Name x np) (e::es) [] cpos)) none pos) (Lq C E ta):=by
 intro a s σ H D I h;obtain⟨tl,N,nm,t,bs,f,sn,sub,ab,col,dd,w,l,k,p,i,mN,n,o,g,T⟩:=Zvu I.ok.mod.kin hx;refine wpAny_Raise_call_subT (C:=C) (nm:=nm) (q:=t) (N:=N) (bs:=bs) (bm:=tl) (hdct:=f) (sn:=sn) (sub:=sub) (ab:=ab) (col:=col) (dd:=dd) (k0:=w) (k1:=l) (k2:=k) (k3:=p) (k5:=i) PySem.F.excBase_ValueError (mN:=mN)
  (T.hasType PySem.F.excBase_ValueError.hasBase) (I.ok.hd hc) ?_ g (vM I m hm ⟨rfl,?_⟩ hd)
 ·rw[hs];show(false || (backTo cpos (starEach es X.env)).any (·.1))=false;rw[d];rfl
 ·have q:=v cpos a s σ H _ I h;rw[hs]at q ⊢;refine Calls.evalArgs_plain (jL q λus u ⟨vs,H1,I1,r,l1,hE1⟩=>⟨rfl,?_,I1.bk _ _ n,o.keeps I1.bk,T.keeps I1.bk,λh1 c b=>j a σ H1 u c _ h1 I1 b hE1⟩);rw[<- r.length];exact Nat.le_trans l1 ε
end
def Zm0(CX:CXT)(X:Cx)(E:L2.St->XK):Prop:=∀(a:At) (σ:L2.St) (H:Hp) (s:AJ) (e:AI) (s':AJ),Inv X a σ H s->CX X.stack H s (E σ) e s'->X.xe e s'
section
variable {X:Cx}{CX:CXT}{k:Nat}{f C:AH}{fd:AK}{ps:AG}{sp:Sp}{xM:List V}{ds:AC}{E:L2.St->XK}{x m:Str}{p pos apos:Pos}{e o:AM}{es:AF}{ta:TE}{t:TA}
theorem Ztf{a:At}{σ:L2.St}{H:Hp}{s:AJ}{Q:VK}{us:AC}{vs:List V}(F:xJ X.prog X.w X.K X.mg X.base CX k f fd ps sp)(hr:Room k X.A)(hb:Binds X.K fd ps ds)(hd:Vals xM ds)(hx:Zm0 CX X E)
  (I:Inv X a σ H s) (r:Vals vs us) (h:sp (vs++xM) H Q (E σ)):wpAny ς X.A (call (.ref f) us) (EP X a σ Q) X.xe s:=by
 have b:Vals (vs++xM) (us++ds):=r.append hd;have hl:(us++ds).length=ps.length:=by rw[<- b.length];exact F.len _ _ _ _ h
 refine wpAny_call (codeAny_mono (F.run X.A X.stack s H ⟨us,[]⟩ (us++ds) (vs++xM) Q (E σ) hr I.env0 (hb s us I.Gg hl) b h) λr c hq=>?_);cases r with
 | error e=>exact hx a σ H s e c I hq
 | ok fl=>
  cases fl with
  | ret u=>exact I.after hq
  | next=>exact False.elim hq
  | brk=>exact False.elim hq
  | cont=>exact False.elim hq
theorem Zq1(F:xJ X.prog X.w X.K X.mg X.base CX k f fd ps sp)(hr:Room k X.A)(d:Gl X x)(hm:X.mg x=↑f)(hk:W.keepIn X.K (.ref f)=true)(hb:Binds X.K fd ps ds)(hd:Vals xM ds)(hx:Zm0 CX X E)
  (j:PA X (e::es) t) (c:(x == ("__debug__":Str))=false:=by decide) (i:starEach (e::es) X.env=(false,eval e X.env)::starEach es X.env:=by rfl) (b:(backTo pos (starEach es X.env)).any (·.1)=false:=by rfl):
  PE X (.Call (.Name x p) (e::es) [] pos) (Zh9 sp xM E t):=by
 intro a s g H Q I h;refine wpAny_Call_Name_kw (vM I d hm ?_ c);refine W.callWith_K (h₀:=X.base) I.ok.mod.kin hk (jL (j pos a s g H _ I h) λus m ⟨l,H1,I1,r,q⟩=>⟨I1.Gg,?_⟩) i b;exact Ztf F hr hb hd hx I1 r q
end
abbrev cxB(X:Cx)(pn:At)(xe:Ap):Cx:={ X with pn:=pn,xe:=xe }
abbrev cxH(X:Cx)(ea:AI)(pn:At):Cx:={ X with A:=X.A.mark (some ea),calm:=false,pn:=pn,xe:=λ_ _=>False }
section
variable {X:Cx}{pins:At}{σ:L2.St}{H:Hp}{s:AJ}
theorem Zxl(ok:X.Ok)(pn:At)(xe:Ap):(cxB X pn xe).Ok:=
 ⟨ok.mod,ok.kind,ok.glob,ok.blt,ok.above,ok.inj,ok.has,ok.cab,ok.hd,ok.frames,ok.stk,ok.exf,ok.bs,ok.bsz,ok.Zf3,ok.Zk8,ok.CT,ok.frf⟩
theorem Zxk(ok:X.Ok)(a:AI)(pn:At):(cxH X a pn).Ok:=
 ⟨ok.mod,ok.kind,ok.glob,ok.blt,ok.above,ok.inj,ok.has,ok.cab,λz=>(nomatch z),ok.frames,ok.stk,ok.exf,ok.bs,ok.bsz,ok.Zf3,ok.Zk8,ok.CT,ok.frf⟩
theorem Zwv(I:Inv X pins σ H s)(xe:Ap):Inv (cxB X (X.pn++pins) xe) [] σ H s:=
 ⟨Zxl I.ok _ _,I.os,I.bare,I.base,I.loc,I.cell,I.free,I.wX,λp hp=>I.pin p (by simpa using hp),I.hok,I.len⟩
theorem Ue{xe:Ap}{pl:At}(ok:X.Ok)(I:Inv (cxB X (X.pn++pins) xe) pl σ H s):Inv X pins σ H s:=
 ⟨ok,I.os,I.bare,I.base,I.loc,I.cell,I.free,I.wX,λp hp=>I.pin p (List.mem_append_left _ hp),I.hok,I.len⟩
theorem Zop(I:Inv X pins σ H s)(a:AI):Inv (cxH X a (X.pn++pins)) [] σ H s:=
 ⟨Zxk I.ok _ _,I.os,I.bare,I.base,I.loc,I.cell,I.free,I.wX,λp hp=>I.pin p (by simpa using hp),I.hok,I.len⟩
theorem Zbm{a:AI}{pl:At}(ok:X.Ok)(I:Inv (cxH X a (X.pn++pins)) pl σ H s):Inv X pins σ H s:=
 ⟨ok,I.os,I.bare,I.base,I.loc,I.cell,I.free,I.wX,λp hp=>I.pin p (List.mem_append_left _ hp),I.hok,I.len⟩
theorem Zx1{xe:Ap}{D:Ends}{f:Flow}(ok:X.Ok)(h:SP (cxB X (X.pn++pins) xe) [] D f s):SP X pins D f s:=by
 cases f with
 | next=>obtain⟨a,b,I,q⟩:=h;exact⟨a,b,Ue ok I,q⟩
 | brk=>obtain⟨a,b,I,q⟩:=h;exact⟨a,b,Ue ok I,q⟩
 | cont=>obtain⟨a,b,I,q⟩:=h;exact⟨a,b,Ue ok I,q⟩
 | ret u=>obtain⟨v,a,b,I,r,q⟩:=h;exact⟨v,a,b,Ue ok I,r,q⟩
theorem Zx0{c:AI}{D:Ends}{f:Flow}(ok:X.Ok)(h:SP (cxH X c (X.pn++pins)) [] D f s):SP X pins D f s:=by
 cases f with
 | next=>obtain⟨a,b,I,q⟩:=h;exact⟨a,b,Zbm ok I,q⟩
 | brk=>obtain⟨a,b,I,q⟩:=h;exact⟨a,b,Zbm ok I,q⟩
 | cont=>obtain⟨a,b,I,q⟩:=h;exact⟨a,b,Zbm ok I,q⟩
 | ret u=>obtain⟨v,a,b,I,r,q⟩:=h;exact⟨v,a,b,Zbm ok I,r,q⟩
theorem flown{j:AH}{f a0:AI}{B:Heap}{c:Hp}{a:AJ}{h3:Heap}(I:Inv X pins σ H s)(os:a.os=s.os)(bare:AllBare a.gens)(un:Un (frs X.stack) [] H c s.heap a.heap)(ok:Gy X.prog X.w c a.heap)
  (fl:Heap.FlyingW B X.stack j f a0 a.heap) (g:∀b o,a.heap.get? b=some o->((∃v,s.heap.get? b=some v)\/∃v,c b=some v)->b∉frs X.stack->B.get? b=some o)
  (st:B.StaysIn h3) (sm:a.heap.UpToSlots h3):Inv X pins σ c { a with heap:=h3 }:=by
 have i:∀b∈frs X.stack,c b=none:=λb hb=>by
  obtain⟨_,o,h,_⟩:=I.stack.mem hb;exact un.free b o h (I.ZQ b hb) ag
 have U:=ZG (P:=X.prog) (w:=X.w) (h2:=h3) un ok i (λb o e hb hn=>st _ _ (g b o e hb hn)) λb o e hb=>by
  obtain⟨_,k,d,hd⟩:=fl.2.2.1.mem hb;rw[e]at d;cases d;exact sm b o e hd
 exact I.call' (s':={ a with heap:=h3 }) (ch:=[]) os U.1 U.2 bare (λb z=>nomatch z)
end
section
variable {X:Cx}{x:Str}{C:AH}{np pos hpos:Pos}{body suite:List Stmt}{b₀:Stmt}{Mt:AI->Prop}{tb:(L2.St->XK)->TS}{th:TS}
theorem Zxb(d:X.stack=X.env::X.outer/\X.env.frame=some X.env.locals)(T:Gl X x)(hm:X.mg x=↑C)(m:∀c,Mt c->W.exmOne X.K c (.ref C)=some true)
  (hb:∀(E:L2.St->XK) (pn:At) (xe:Ap),Zm0 (VG X.prog X.w) (cxB X pn xe) E->PSs (cxB X pn xe) body (tb E))
  (hs:∀(i:AI) (pn:At),PSs (cxH X i pn) (b₀::suite) th) (hd:(x == ("__debug__":Str))=false:=by decide):
  PS X (.Try body [.ExceptHandler (some (.Name x np)) none (b₀::suite) hpos] [] [] pos) (Zww Mt tb th):=by
 intro a s j H D I h;refine wpAny_Try_except ?_;have hx:Zm0 (VG X.prog X.w) (cxB X (X.pn++a) λe Q=>∃ j H s,Inv X a j H s/\VG X.prog X.w X.stack H s (λb _ A=>Mt b/\th D j A) e Q) (λn b _ A=>Mt b/\th D n A):=
  λV j H s e Q J z=>⟨j,H,s,Ue I.ok J,z⟩
 refine wpAny_mono (hb _ _ _ hx [] s j H D (Zwv I _) h) (λf O q=>?_) λe O q=>?_
 ·have q:=Zx1 I.ok q;cases f with
  | next=>exact wpAny_execs_nil q
  | ret v=>exact q
  | brk=>exact q
  | cont=>exact q
 ·obtain⟨t,Z,Y,J,i,b,a0,B,R,rfl,os,bare,un,ok,fl,N,S,F⟩:=q;have k:=fl;rw[d.1]at k;refine wpAny_looks_onW (d.1 ▸ J.ok.frames) d.2 k λh4 u r=>?_;refine wpAny_landsW u λh5 g p=>?_;have l:O.heap.UpToSlots h5:=r.trans p;have P:=flown J os bare un ok fl N g.1 l;refine wpAny_handleBy_cons (codeAny_handlers_test (vM (X:=cxH X (.ref i) (X.pn++a)) (Zop P (.ref i)) T hm ?_ hd)) (by intro z;cases z);obtain⟨ob,L,y⟩:=g.there;have LT:W.Looks ς h5 (typeOf (.ref i)) b:=y ▸ (W.Looks.ld L).andThen .now;refine(W.exm_one P.Gg LT (m b S)).here ?_;refine codeAny_handlers_suite ?_;refine lands_againW g λh6 M o=>?_;have U:=flown J os bare un ok fl N M.1 (l.trans o);refine wpAny_mono (hs (.ref i) (X.pn++a) [] _ t R D (Zop U (.ref i)) F) (λf s2 q=>Zx0 I.ok q) λ_ _ z=>z.elim
end
section
variable {P:AL}{w:AN}{K:aC}{mg:As}{base:Heap}{x qual:Str}{st:Stmt}{f:AH}{fd:AK}{N ps:AG}{k:Nat}{sp:Sp}
theorem fok(F:jJ K x qual st f fd)(S:aP N ps (aJ st))(len:∀vs H Q E,sp vs H Q E->vs.length=ps.length)
  (b:∀(a:AI) (A:Around) (outer:List Env) (s:AJ) (H:Hp) (vs:List V) (Q:VK) (E:XK),Room k (A.deeper (envOfC qual (aJ st) s.heap.objs.size f a))->sp vs H Q E->
   ∃t,PSs (Ou (VG P w) P w K mg base N qual (aJ st) f a A outer s H E).nox (lU st) t/\t { nx:=λ_ H'=>Q .non H',rt:=Q } (start N vs) H):xJ P w K mg base (VG P w) (k+1) f fd ps sp:=by
 obtain⟨oc,od,kV,e,j,i,a,ct,g,rfl,lk,c⟩:=F.ex;refine Zs1 lk c S len λA outer s H vs Q E hr d=>?_;obtain⟨t,h,q⟩:=b a A outer s H vs Q E hr d;exact⟨t,h.nox,q⟩
theorem ZKq(F:jJ K x qual st f fd)(S:aP N ps (aJ st))(len:∀vs H Q E,sp vs H Q E->vs.length=ps.length)
  (b:∀(a:AI) (A:Around) (outer:List Env) (s:AJ) (H:Hp) (vs:List V) (Q:VK) (E:XK),Room k (A.deeper (envOfC qual (aJ st) s.heap.objs.size f a))->sp vs H Q E->
   ∃t,PSs (Ou (VG P w) P w K mg base N qual (aJ st) f a A outer s H E) (lU st) t/\t { nx:=λ_ H'=>Q .non H',rt:=Q } (start N vs) H):xJ P w K mg base (VG P w) (k+1) f fd ps sp:=by
 obtain⟨oc,od,kV,e,i,h,a,ct,g,rfl,lk,c⟩:=F.ex;exact Zs1 lk c S len λA outer s H vs Q E hr d=>b a A outer s H vs Q E hr d
theorem ZBf(F:Zzt K x qual st f fd)(S:aP N ps (aJ st))(len:∀vs H Q E,sp vs H Q E->vs.length=ps.length)
  (b:∀(a:AI) (A:Around) (outer:List Env) (s:AJ) (H:Hp) (vs:List V) (Q:VK) (E:XK),Room k (A.deeper (envOfC qual (aJ st) s.heap.objs.size f a))->sp vs H Q E->
   ∃t,PSs (Ou (VG P w) P w K mg base N qual (aJ st) f a A outer s H E) (lU st) t/\t { nx:=λ_ H'=>Q .non H',rt:=Q } (start N vs) H):xJ P w K mg base (VG P w) (k+1) f fd ps sp:=by
 obtain⟨oc,od,dV,kV,e,i,h,a,ct,g,rfl,lk,c⟩:=F.ex;exact Zs1 lk c S len λA outer s H vs Q E hr d=>b a A outer s H vs Q E hr d
end
structure ZL9(K:aC)(C:AH):Prop where
 ga:W.findIn K (.ref C) "__getattribute__"=some (some (.builtin "BaseException.__getattribute__"))
 no:W.findIn K (.ref C) "__getattr__"=some none
 cl:W.findIn K (.ref C) "__class__"=some (some (.builtin "object.__class__"))
 so:W.mroIn K C (.type "object")=some true
 sb:W.mroIn K C (.type "BaseException")=some true
 is:W.hasDictIn K C=true
section
variable {prog:AL}{w:AN}{A:Around}{E:Ap}{h:Heap}{g:Array GenState}{d:Drawn}{t:Nat}{os:OsState}{a:AH}{o:Obj}{C:AH}{K:aC}
end
section
variable {X:Cx}
theorem Jq:Lp X (.type "list") (Vr X.K):=by
 intro a s b H d us Q I r h;obtain⟨p,c,rfl,hs,q⟩:=h;exact K8 a s b H [.ref p] us Q I r ⟨p,c,rfl,.inl hs,q⟩
theorem Zr{xs c:List V}{us f:AC}(g:Vals xs us)(i:Vals c f)(r:xs.all qQ=true)(t:c.all qQ=true)(hl:xs.length=c.length):
  (∀(A:Around) (s:AJ) (j:Nat) (h1:j<us.toArray.size) (h2:j<f.toArray.size),SeqAt.EqAt A s us.toArray[j] f.toArray[j] (match xs[j]?,c[j]? with | some a,some b=>Zq a b | _,_=>false))/\
  (List.range us.toArray.size).all (λj=>match xs[j]?,c[j]? with | some a,some b=>Zq a b | _,_=>false)=eqL xs c:=by
 refine⟨λA s j h1 h2=>?_,?_⟩
 ·rw[List.size_toArray]at h1 h2;have v:=g.length;have w:=i.length;have m:xs[j]? =some xs[j]:=bK δ;have n:c[j]? =some c[j]:=bK δ;obtain⟨u,k,q⟩:=g.get m;obtain⟨x,l,o⟩:=i.get n;rw[bK h1]at k;rw[bK h2]at l;cases k;cases l;rw[m,n];exact CW q o (List.all_eq_true.mp r _ (List.getElem_mem δ)) (List.all_eq_true.mp t _ (List.getElem_mem δ))
 ·rw[List.size_toArray,<- g.length];unfold eqL;rw[beq_iff_eq.mpr hl,Bool.true_and,Bool.eq_iff_iff,List.all_eq_true,List.all_eq_true];constructor
  ·intro h p hp;obtain⟨j,d,e⟩:=List.getElem_of_mem hp;rw[List.length_zip]at d;have:=h j (List.mem_range.mpr δ);rw[bK (show j<xs.length by omega),bK (show j<c.length by omega)]at this;rw[List.getElem_zip]at e;rw[<- e];exact this
  ·intro h j d;have d:=List.mem_range.mp d;rw[bK (show j<xs.length by omega),bK (show j<c.length by omega)];have hz:j<(xs.zip c).length:=by rw[List.length_zip];omega
   have:=h _ (List.getElem_mem hz);rw[List.getElem_zip]at this;exact this
theorem Zln{xs a:List V}(h:xs.length≠a.length):eqL xs a=false:=by
 unfold eqL;rw[show(xs.length == a.length)=false by simpa using h,Bool.false_and]
theorem Zim(hu:X.A.units+1<cLine):Ag X (compareOp .Eq) (Zau X.K false):=by
 intro g s r H x y v u Q I l k h;obtain⟨p,w,o,i,rfl,rfl,hx,hy,f,q⟩:=h;cases l;cases k;obtain⟨us,e,a,_⟩:=I.list hx;obtain⟨t,d,b,_⟩:=I.list hy;have c:X.A.units<cLine:=δ
 by_cases hl:o.length=i.length
 ·obtain⟨m,n⟩:=Zr e d (f hl).1 (f hl).2 hl;refine SeqAt.eq_listAt a.isList b.isList (by rw[List.size_toArray,List.size_toArray,<- e.length,<- d.length];exact hl) c (λj h1 h2=>m _ _ j h1 h2) ?_;rw[n];exact⟨.bl _,H,I,rfl,q⟩
 ·refine SeqAt.eq_list_lengthsAt a.isList b.isList ?_ c ?_
  ·rw[List.size_toArray,List.size_toArray,<- e.length,<- d.length];simpa using hl
  ·refine⟨.bl _,H,I,rfl,?_⟩;have:=q;rw[Zln hl]at this;exact this
end
theorem Zqd:fastBuiltinMro "NoneType"=some [.type "NoneType",.type "object"]:=γ
section
variable {K:aC}{A:Around}{a C:AH}{o:Obj}
theorem Zz8{M:Model}{E:Ap}{s:AJ}{Q:Unit->AJ->Prop}(e:W.Looks M s.heap (isInstance (.ref a) (.type "object")) true)(hq:Q () s):wpAny M A (checkBuiltinCall "object.__eq__" ⟨[.ref a,.none],[]⟩) Q E s:=by
 have d:=PySem.F.cmpArgs_eq (.ref a) .none;simp only[checkBuiltinCall,PySem.F.cmpKind_eq,PySem.F.cmpSplit_eq];refine wpAny_bind (e.here ?_);simp only[Bool.not_true,Bool.false_eq_true,if_false];cases b:Manifest.signature? "object.__eq__" with
 | none=>exact wpAny_pure hq
 | some c=>
  simp only[argsOk,b]at d;have h2:Bind.checkArgs "object.__eq__" c ⟨[.ref a,.none],[]⟩=pure ():=d;show wpAny M A (Bind.checkArgs "object.__eq__" c ⟨[.ref a,.none],[]⟩) Q E _;rw[h2];exact wpAny_pure hq
theorem Zvx{prog:AL}{w:AN}{E:Ap}{s:AJ}{Q:Ap}(b:W.Looks ae s.heap (isInstance (.ref a) (.type "object")) true)(hq:Q .notImplemented s):
  wpAny ae A (call (.builtin "object.__eq__") [.ref a,.none]) Q E s:=by
 refine wpAny_call (codeAny_call_builtin PySem.F.cmp_object.eq.plain PySem.F.cmpEntry_eq (Zz8 b ?_));obtain⟨h,g,d,t,os⟩:=s;unfold Builtin.«object.__eq__»
 repeat (first | with_reducible refine wpAny_bind (m:=isSame (.ref a) .none) (wpAny_pure ?_) | wp_step)
 exact hq
theorem Zwt{prog:AL}{w:AN}{E:Ap}{s:AJ}{Q:AB->AJ->Prop}(X:K.In s.heap)(hx:s.heap.get? a=some o)(hc:o.cls=.ref C)(b:EqD K C)(hq:Q none s):
  wpAny ae A (tryCompare (.ref a) "__eq__" .none) Q E s:=by
 have LT:W.Looks ae s.heap (typeOf (.ref a)) (.ref C):=hc ▸ (W.Looks.ld hx).andThen .now;have d:W.Looks ae s.heap (isInstance (.ref a) (.type "object")) true:=LT.andThen (W.looks_mroIn X b.ob);have c:W.Looks ae s.heap (specialOf (.ref a) "__eq__") (some (.builtin "object.__eq__")):=LT.andThen (W.looks_findIn X b.eq);simp only[tryCompare];refine wpAny_bind ?_;simp only[callSpecialIfBound?,bindSpecialIfBound?];refine wpAny_holding (wpAny_bind (wpAny_bind (c.here ?_)));simp only[PySem.F.cmp_object.eq.bind];have fin:wpAny ae A (call (.builtin "object.__eq__") ([.ref a]++[.none]) >>= λv=>pure (some v)) (λr e=>wpAny ae A (match r with | some .notImplemented | none=>pure none | some v=>pure (some v)) Q E e) E s:=
  wpAny_bind (Zvx d (wpAny_pure (wpAny_pure hq)))
 refine wpAny_bind (wpAny_askSetting (wpAny_ite ?_));split
 ·exact wpAny_bind (wpAny_pure (wpAny_pure fin))
 ·exact wpAny_tryCatch (wpAny_bind (wpAny_pure (wpAny_pure fin)))
theorem Zth{s:AJ}(X:K.In s.heap)(hx:s.heap.get? a=some o)(hc:o.cls=.ref C)(e:EqD K C)(hu:A.units<cLine):SeqAt.RcAt A s (.ref a) .none false:=λprog w E Q h=>by
 have LT:W.Looks ae s.heap (typeOf (.ref a)) (.ref C):=hc ▸ (W.Looks.ld hx).andThen .now;have c:cmpInfo CmpOp.Eq=("==",("__eq__":Str),("__eq__":Str)):=rfl;have d:oneThing? .Eq (.ref a) .none=none:=rfl;simp only[richCompare,c,d]
 try with_reducible refine wpAny_holding ?_
 refine wpAny_bind (wpAny_cRoomFor_or (.inr hu) ?_);refine wpAny_bind (LT.here (wpAny_bind (m:=typeOf .none) (wpAny_pure ?_)));have b:(Value.ref C != Value.type "NoneType")=true:=ζ
 simp only[b,if_true];have hs:isSubtype (.type "NoneType") (.ref C)=pure false:=by
  rw[isSubtype_type,Zqd];rfl
 refine wpAny_bind (wpAny_of_eq hs ?_);simp only[Bool.false_eq_true,if_false,Bool.not_false,if_true];refine wpAny_bind (m:=tryCompare (.ref a) _ .none) (Zwt X hx hc e ?_);refine wpAny_bind (m:=tryCompare .none _ (.ref a)) (wpAny_tryCompare_declines (T:="NoneType") rfl PySem.F.slot_NoneType_eq_refl (call_gives PySem.F.slot_NoneType_eq_refl rfl PySem.F.entry_NoneType_eq (PySem.F.args_NoneType_eq_2 _ _) (SeqAt.NoneType___eq___none_ref_0 a) ⟨rfl,?_⟩));exact wpAny_bind (wpAny_rule (wpAny_bind (wpAny_of_eq (rfl:isSame (.ref a) .none=pure false) (wpAny_pure h))))
theorem Zvw{s:AJ}(X:K.In s.heap)(hx:s.heap.get? a=some o)(hc:o.cls=.ref C)(c:EqD K C)(hu:A.units<cLine):SeqAt.EqAt A s (.ref a) .none false:=λprog w E Q h=>by
 unfold eqBool;refine wpAny_holding ?_;refine wpAny_ite_split (λb=>absurd (eq_of_beq b) nofun) (λ_=>?_);exact wpAny_bind (Zth X hx hc c hu prog w E _ (wpAny_truthy_bool h))
end
section
variable {X:Cx}
def FT(u:AI):Bool:=match u with
 | .none=>true
 | _=>false
theorem Zf2{H:Hp}{y:V}{u:AI}(r:RelV y u)(h:y=.non\/∃a C dx fs,y=.ref a/\H a=some (.ins C dx fs)/\Ij X.K C/\EqD X.K C):FT u=decide (y=.non):=by
 rcases h with rfl | ⟨a,_,_,_,rfl,_⟩
 ·obtain rfl:u=Value.none:=r;rfl
 ·obtain rfl:u=Value.ref a:=r;rfl
theorem Zqf{b:At}{σ:L2.St}{H:Hp}{s:AJ}{A:Around}{y:V}{u:AI}(I:Inv X b σ H s)(hu:A.units<cLine)(r:RelV y u)(h:y=.non\/∃a C dx fs,y=.ref a/\H a=some (.ins C dx fs)/\Ij X.K C/\EqD X.K C):SeqAt.EqAt A s u .none (FT u):=by
 rcases h with rfl | ⟨a,C,dx,fs,rfl,d,hc,c⟩
 ·obtain rfl:u=Value.none:=r;exact SeqAt.EqAt.same .none
 ·obtain rfl:u=Value.ref a:=r;obtain⟨_,_,_,e,_⟩:=(show lO X.prog X.w H s.heap a (.ins C dx fs)from I.hok a _ d);exact Zvw I.Gg e rfl c hu
theorem Zf1{H:Hp}:∀{xs:List V}{us:AC},Vals xs us->OkN X.K H xs->us.any FT=decide (V.non∈xs)
 | _,_,.nil,_=>rfl
 | y::xs,u::us,.cons r t,h=>by
  rw[List.any_cons,Zf1 t λz hz=>h z (List.mem_cons_of_mem _ hz),Zf2 r (h y List.mem_cons_self),Bool.eq_iff_iff];simp only[Bool.or_eq_true,decide_eq_true_eq,List.mem_cons];constructor
  ·rintro(z | z)
   ·exact .inl z.symm
   ·exact .inr z
  ·rintro(z | z)
   ·exact .inl z.symm
   ·exact .inr z
theorem Zez{H:Hp}{a:At}{σ:L2.St}{s:AJ}{A:Around}{xs:List V}{us:AC}(I:Inv X a σ H s)(hu:A.units<cLine)(r:Vals xs us)(h:OkN X.K H xs):∀u∈us,SeqAt.EqAt A s u .none (FT u):=by
 intro u hm;obtain⟨i,b,rfl⟩:=List.getElem_of_mem hm;have hl:=r.length;have hx:xs[i]? =some xs[i]:=bK δ;obtain⟨d,e,c⟩:=r.get hx;rw[bK b]at e;cases e;exact Zqf I hu c (h _ (List.getElem_mem δ))
theorem Zmq(hu:X.A.units+1<cLine):Ag X (compareOp .NotIn) (Zx9 X.K true):=by
 intro a s f H x y v u Q I d c h;obtain⟨p,g,rfl,rfl,hs,hk,q⟩:=h;obtain rfl:v=Value.none:=d;cases c;obtain⟨us,r,b,_⟩:=I.list hs;refine SeqAt.notIn_listAt FT b.isList (λw e=>Zez I (by show X.A.units+1<cLine;exact hu) r hk w (by simpa using e)) ⟨.bl _,H,I,rfl,?_⟩;rw[show us.toArray.any FT=us.any FT by simp,Zf1 r hk];exact q
theorem Zf0{H:Hp}{xs:List V}{us:AC}(r:Vals xs us)(h:OkN X.K H xs)(j:Nat)(c:j<us.length)(a:j<xs.length):FT us[j]=decide (xs[j]=V.non):=by
 obtain⟨d,e,b⟩:=r.get (bK a);rw[bK c]at e;cases e;exact Zf2 b (h _ (List.getElem_mem a))
theorem Zmy(hu:X.A.units+1<cLine):MtR X "list.index" (Zl8 X.K):=by
 intro k s B H x xs v us Q I w rs h;obtain⟨p,a,rfl,rfl,hs,hk,hn,q⟩:=h;obtain rfl:v=Value.ref p:=w;obtain⟨u,rfl,o⟩:=Vals.one rs;obtain rfl:u=Value.none:=o;obtain⟨b,r,l,hz⟩:=I.list hs;obtain⟨⟨z,t,i,sl⟩,g,hc,n,hd⟩:=l.isList;simp only at hc hd;subst hc hd;have hl:=r.length;have f:a.idxOf V.non<a.length:=List.idxOf_lt_length_iff.mpr hn;have m:a.length<2 ^ 62:=Nat.lt_of_le_of_lt hz ε;refine call_meets PySem.F.slot_list_index ⟨_,g,rfl⟩ PySem.F.entry_list_index (PySem.F.args_list_index_2 _ _)
  (SeqAt.list_indexAt p b.toArray n t sl .none FT (a.idxOf V.non) (by simpa[hl]using f) δ ?_ ?_) ⟨g,λy hy=>Zez I (by show X.A.units+1<cLine;exact hu) r hk y (by simpa using hy),⟨.int _,H,I.tok _,⟨_,rfl⟩,q⟩⟩
 ·show FT b[a.idxOf V.non]=true;rw[Zf0 r hk _ δ f,decide_eq_true_eq];exact List.getElem_idxOf f
 ·intro j d c;show FT b[j]=false;rw[Zf0 r hk j (by simpa using d) δ,decide_eq_false_iff_not];intro e;have:=List.not_of_lt_findIdx (p:=(· == V.non)) (xs:=a) c;simp[e]at this
theorem Zq6(hu:X.A.units+1<cLine):Ag X (compareOp .NotEq) (Zau X.K true):=by
 intro g s r H x y v u Q I l k h;obtain⟨p,z,o,i,rfl,rfl,hx,hy,f,q⟩:=h;cases l;cases k;obtain⟨us,e,a,_⟩:=I.list hx;obtain⟨t,d,b,_⟩:=I.list hy;have c:X.A.units<cLine:=δ
 by_cases hl:o.length=i.length
 ·obtain⟨m,n⟩:=Zr e d (f hl).1 (f hl).2 hl;refine SeqAt.RcNeAt.lists a.isList b.isList (by rw[List.size_toArray,List.size_toArray,<- e.length,<- d.length];exact hl) c (λj h1 h2=>m _ _ j h1 h2) X.prog X.w X.xe _ ?_;rw[n];exact⟨.bl _,H,I,rfl,q⟩
 ·refine SeqAt.RcNeAt.lists_lengths a.isList b.isList ?_ c X.prog X.w X.xe _ ?_
  ·rw[List.size_toArray,List.size_toArray,<- e.length,<- d.length];simpa using hl
  ·refine⟨.bl _,H,I,rfl,?_⟩;have:=q;rw[Zln hl]at this;exact this
end
end G
namespace G
open PySem L2
def YF:R2:=λx y H Q=>∃b,y=.bl b/\Q (.bl (!decide (x=.bl b))) H
theorem Zyf{x:V}{b:Bool}{H:Hp}{Q:VK}(h:Q (.bl (!decide (x=.bl b))) H):YF x (.bl b) H Q:=⟨b,rfl,h⟩
def Ls(C:AH):TE:=λ_ H Q=>∀x dx,H x=none->H dx=none->dx≠x->Q (.ref x) (upd (upd H dx (.own x)) x (.ins C dx []))
theorem Zv3{C:AH}{σ:St}{H:Hp}{Q:VK}(h:∀x dx,H x=none->H dx=none->dx≠x->Q (.ref x) (upd (upd H dx (.own x)) x (.ins C dx []))):Ls C σ H Q:=h
def Lr(t u:TE):TE:=λσ H Q=>t σ H Q\/u σ H Q
theorem Y9{t u:TE}{σ:St}{H:Hp}{Q:VK}(h:t σ H Q):Lr t u σ H Q:=.inl h
theorem KC{t u:TE}{σ:St}{H:Hp}{Q:VK}(h:u σ H Q):Lr t u σ H Q:=.inr h
end G
namespace G
open PySem L2 PySem.Spec PyProof.Rows
section
variable {X:Cx}
theorem Zlb:Ag X (compareOp .IsNot) YF:=by
 intro e s g H x y v u Q I d f h;obtain⟨b,rfl,q⟩:=h;cases f;cases x with
 | bl c=>
  cases d;refine wpAny_isNot_plain rfl (eX I q ?_);cases b<;>cases c<;>rfl
 | non=>cases d;exact wpAny_isNot_plain rfl (eX I q rfl)
 | ref a=>cases d;exact wpAny_isNot_plain rfl (eX I q rfl)
 | ty a=>cases d;exact wpAny_isNot_plain rfl (eX I q rfl)
 | _=>obtain⟨t,rfl⟩:=d;exact wpAny_isNot_plain rfl (eX I q rfl)
theorem xW{e:AM}{t u:TE}(h1:PE X e t)(h2:PE X e u):PE X e (Lr t u):=by
 intro a s b H Q I h;rcases h with h | h
 ·exact h1 a s b H Q I h
 ·exact h2 a s b H Q I h
structure Mk0(K:aC)(C:AH):Prop where
 makes:W.makesIn K C=true
 init:W.findIn K (.ref C) "__init__"=some (some (.builtin "object.__init__"))
 kp:W.keepIn K (.ref C)=true
theorem Zi6{C:AH}{a:At}{σ:L2.St}{H:Hp}{s:AJ}{Q:VK}(M:Mk0 X.K C)(I:Inv X a σ H s)
  (h:∀x dx,H x=none->H dx=none->dx≠x->Q (.ref x) (upd (upd H dx (.own x)) x (.ins C dx []))):wpAny ς X.A (call (.ref C) []) (EP X a σ Q) X.xe s:=by
 have hq:=h (s.heap.objs.size+1) s.heap.objs.size (I.hok.fresh (Nat.le_succ _)) (I.hok.fresh Γ) (Nat.ne_of_lt (Nat.lt_succ_self _));have c:=Inv.made (C:=C) I;have Y:=W.makes_of (M:=model X.prog X.w) I.Gg M.makes;refine wpAny_call (Zmz I.Gg M.makes M.init (λself=>W.Looks.of_pure (W.oi_bind self)) ?_);have d:((s.heap.push W.emptyDict).push (W.instObj C s.heap.objs.size)).get? (s.heap.objs.size+1)=some (W.instObj C s.heap.objs.size):=by
  have:=Heap.get?_push_size (s.heap.push W.emptyDict) (o:=W.instObj C s.heap.objs.size) rfl;rw[Heap.size_push]at this;exact this
 have t1:W.Looks ς ((s.heap.push W.emptyDict).push (W.instObj C s.heap.objs.size)) (typeOf (.ref (s.heap.objs.size+1))) (.ref C):=(W.Looks.ld d).andThen .now;have t2:W.Looks ς ((s.heap.push W.emptyDict).push (W.instObj C s.heap.objs.size)) (isInstance (.ref (s.heap.objs.size+1)) (.type "object")) true:=t1.andThen (Y.top.keeps λb o e=>Heap.get?_push_of_some _ (Heap.get?_push_of_some _ e));refine codeAny_call_builtin W.oi_plain W.entry_oi (@W.check_slot ς _ _ _ "object.__init__" "object" "__init__" (.ref (s.heap.objs.size+1)) [] [] _ W.oi_kind W.oi_split t2 (W.oi_args (.ref (s.heap.objs.size+1))) ?_);rw[W.oi_run];exact wpAny_pure (And.intro rfl ⟨V.ref (s.heap.objs.size+1),_,c,rfl,hq⟩)
theorem MK{C:AH}{x:Str}{p b:Pos}(M:Mk0 X.K C)(d:Gl X x)(hm:X.mg x=↑C)(a:(x == ("__debug__":Str))=false:=by decide):PE X (.Call (.Name x p) [] [] b) (Ls C):=by
 intro c s e H Q I h;refine wpAny_Call_Name_kw (vM I d hm ?_ a);exact W.callWith_K0 I.Gg M.kp (Zi6 M I h)
structure ZL8(K:aC)(C:AH):Prop where
 pg:W.plainGet K C "__class__"=true
 hd:W.hasDictIn K C=true
 cl:W.findIn K (.ref C) "__class__"=some (some (.builtin "object.__class__"))
 sp:W.specialIn K (.builtin "object.__class__") "__get__"=some (some (.builtin "getset_descriptor.__get__"))
 tk:W.takesIn K (.builtin "object.__class__")=some true
 so:W.mroIn K C (.type "object")=some true
end
end G
namespace G
open PySem L2
end G
namespace G
open PySem L2 PySem.Spec PyProof.Rows
def Zgl(w:AN):List DictEntry->List (Str×AH)->Prop
 | [],[]=>True
 | e::a,p::t=>e.hash=hashStr w p.1/\(∃tk,e.key=.str p.1 tk)/\e.val=.ref p.2/\Zgl w a t
 | _,_=>False
def Tab(K:aC)(w:AN)(mg:As)(nm:Str)(R0:List (Str×AH)):Prop:=
 ∃dd o a b,mg nm=↑dd/\K.lookup dd=some o/\o.ExactDict/\o.data=.dict a b/\Zgl w a.toList R0
theorem Zgl.keys{prog:AL}{w:AN}:∀{a:List DictEntry}{R0:List (Str×AH)},Zgl w a R0->∀e∈a,∃k,(strKind prog w).is k e.key=true/\e.hash=(strKind prog w).hash k
 | [],_,_=>λe b=>absurd b List.not_mem_nil
 | e::a,[],h=>h.elim
 | e::a,p::t,h=>λx hx=>by
  obtain⟨h1,⟨tk,h2⟩,_,h4⟩:=h;rcases List.mem_cons.mp hx with rfl | hx
  ·refine⟨p.1,?_,h1⟩;rw[h2];show Value.isStrOf p.1 (.str p.1 tk)=true;simp[Value.isStrOf]
  ·exact Zgl.keys h4 x hx
theorem Zgl.find{w:AN}:∀{c:List DictEntry}{R0:List (Str×AH)}{k:Str}{f:AH},Zgl w c R0->R0.lookup k=some f->(c.find? λe=>Value.isStrOf k e.key).map (·.val)=↑f
 | [],[],_,_,_,h=>by cases h
 | [],_::_,_,_,h,_=>h.elim
 | _::_,[],_,_,h,_=>h.elim
 | e::c,p::t,k,f,h,hl=>by
  obtain⟨_,⟨tk,h2⟩,h3,h4⟩:=h;rw[List.find?_cons,h2]
  by_cases hk:k=p.1
  ·subst hk;have d:Value.isStrOf p.1 (.str p.1 tk)=true:=by simp[Value.isStrOf]
   rw[d];have g:List.lookup p.1 (p::t)=some p.2:=by
    obtain⟨a,b⟩:=p;simp[List.lookup]
   rw[g]at hl;cases hl;show some e.val=_;rw[h3]
  ·have d:Value.isStrOf k (.str p.1 tk)=false:=by
    simp only[Value.isStrOf,beq_eq_false_iff_ne,ne_eq];exact λz=>hk z.symm
   rw[d];have g:List.lookup k (p::t)=List.lookup k t:=by
    obtain⟨a,b⟩:=p;simp only[List.lookup];rw[beq_eq_false_iff_ne.mpr hk]
   rw[g]at hl;exact Zgl.find h4 hl
def Zt0(R0:List (Str×AH))(b:TE):TE:=λσ H Q=>b σ H λy a=>∃k f,y=.str k/\R0.lookup k=some f/\Q (.ref f) a
theorem ZAs{R0:List (Str×AH)}{a:TE}{σ:L2.St}{H:Hp}{Q:VK}(h:a σ H λy b=>∃k f,y=.str k/\R0.lookup k=some f/\Q (.ref f) b):Zt0 R0 a σ H Q:=h
theorem Zpu{X:Cx}{nm:Str}{R0:List (Str×AH)}{i:AM}{m:TE}{p c:Pos}(T:Tab X.K X.w X.mg nm R0)(r:Gl X nm)(n:PE X i m)(hs:Zw5 i)(hd:(nm == ("__debug__":Str))=false:=by decide):
  PE X (.Subscript (.Name nm p) i c) (Zt0 R0 m):=by
 intro a s t H Q I h;obtain⟨q,o,b,u,hm,hk,j,d,g⟩:=T;refine Zl2 PySem.F.slot_dict_getitem.lookup hs (vM I r hm ?_ hd);refine jL (n a s t H _ I h) λz B qb=>?_;obtain⟨y,H2,I2,ry,k,f,ey,l,q2⟩:=qb;subst ey;have hh:=I2.Gg q o hk;refine⟨⟨o,hh,j.1⟩,?_⟩;obtain⟨tk,rfl⟩:∃tk,z=.str k tk:=ry;refine wpAny_getItem_of (knd:=strKind X.prog X.w) (k:=k) (f:=λk=>findBy Value.isStrOf b k) (by show Value.isStrOf k (.str k tk)=true;simp[Value.isStrOf]) ⟨o,b,u,hh,j,d,λe A=>g.keys e (by simpa using A),λ_=>rfl⟩ (v:=.ref f) ?_ ⟨.ref f,H2,I2.tok _,rfl,q2⟩;show Option.map (λx=>x.val) (Array.find? (λe=>Value.isStrOf k e.key) b)=_;rw[<- Array.find?_toList];exact g.find l
def VL(P:AL)(w:AN)(K:aC)(mg:As)(base:Heap)(CX:CXT)(k:Nat)(ps:AG)(L:List (AH×Sp)):Prop:=
 ∀f sp,(f,sp)∈L->∃a fd,a<=k/\xJ P w K mg base CX a f fd ps sp/\W.keepIn K (.ref f)=true/\L2.Binds K fd ps []
theorem VL.nil{P:AL}{w:AN}{K:aC}{mg:As}{base:Heap}{CX:CXT}{k:Nat}{ps:AG}:VL P w K mg base CX k ps []:=λ_ _ h=>absurd h List.not_mem_nil
theorem VL.cons{P:AL}{w:AN}{K:aC}{mg:As}{base:Heap}{CX:CXT}{k b:Nat}{ps:AG}{L:List (AH×Sp)}{f:AH}{fd:AK}{sp:Sp}(hk:b<=k)(F:xJ P w K mg base CX b f fd ps sp)(hb:L2.Binds K fd ps [])(hp:W.keepIn K (.ref f)=true)(t:VL P w K mg base CX k ps L):VL P w K mg base CX k ps ((f,sp)::L):=λg a h=>by
 rcases List.mem_cons.mp h with e | h
 ·cases e;exact⟨b,fd,hk,F,hp,hb⟩
 ·exact t g a h
def ZP(i:Nat)(L:List (AH×Sp))(E:XK)(t:TA):TE:=λσ H Q=>∃f sp,σ[i]? =some (↑f)/\(f,sp)∈L/\t σ H λvs a=>sp vs a Q E
theorem oZ{i:Nat}{L:List (AH×Sp)}{E:XK}{t:TA}{σ:L2.St}{H:Hp}{Q:VK}{f:AH}(sp:Sp)(a:σ[i]? =some (↑f))(hm:(f,sp)∈L)(h:t σ H λvs b=>sp vs b Q E):ZP i L E t σ H Q:=⟨f,sp,a,hm,h⟩
theorem Zel{X:Cx}{CX:CXT}{k i:Nat}{ps:AG}{L:List (AH×Sp)}{x:Str}{E:XK}{e:AM}{c:AF}{t:TA}{p b:Pos}(F:VL X.prog X.w X.K X.mg X.base CX k ps L)(hr:Room k X.A)(m:X.N[i]? =some x)(hv:Vis X.env.scope x)(hx:Passes CX X E)
  (z:PA X (e::c) t) (hd:(x == ("__debug__":Str))=false:=by decide) (d:(x == ("__classdict__":Str))=false:=by decide) (o:starEach (e::c) X.env=(false,eval e X.env)::starEach c X.env:=by rfl) (g:(backTo b (starEach c X.env)).any (·.1)=false:=by rfl):
  PE X (.Call (.Name x p) (e::c) [] b) (ZP i L E t):=by
 intro a s j H Q I h;obtain⟨f,sp,n,hm,h⟩:=h;obtain⟨D,fd,hk,l,hp,hb⟩:=F f sp hm;refine wpAny_Call_Name_kw (jL (Zpt m hv hd d a s j H (λv q=>v=.ref f/\q=H) I ⟨_,n,rfl,rfl⟩) λu y qb=>?_);obtain⟨v,H1,I1,r,e1,e2⟩:=qb;subst e1 e2;obtain rfl:u=Value.ref f:=r;refine W.callWith_K (h₀:=X.base) I1.ok.mod.kin hp (jL (z b a y j H1 _ I1 h) λus C ⟨B,H2,I2,r2,q2⟩=>⟨I2.Gg,?_⟩) o g;refine Zam (xM:=[]) l (hr.mono hk) hb .nil hx I2 r2 ?_;rw[List.append_nil];exact q2
section
variable {σ:L2.St}{H:Hp}{Q:VK}{td ty tv:TE}{n bk ct:L2.St->Hp->Prop}{r:VK}
theorem Zyt(h:td σ H λx c=>ty σ c λy b=>∃a v,x=.ref a/\An b a y (some v)/\Q v b):R1 td ty σ H Q:=h
theorem Zrj(h:ty σ H λy c=>td σ c λx b=>∃a o,x=.ref a/\An b a y o/\Q (.bl (!o.isSome)) b):ZL ty td σ H Q:=h
theorem Zyr(h:tv σ H λv e=>td σ e λx c=>ty σ c λy d=>∃a b,x=.ref a/\Yd d a y v b/\n σ b):YC td ty tv ⟨n,r,bk,ct⟩ σ H:=h
theorem Zsf{a:AH}{b:List (L2.Key×V)}{z:Str}(e:H a=some (.dK b)):An H a (.str z) (o9 b (Sum.inr z)):=An.k (k:=Sum.inr z) e
theorem ZBk{a:AH}{b:List (L2.Key×V)}{z:Str}{v:V}(e:H a=some (.dK b))(hl:b.length<sizeLine):Yd H a (.str z) v (upd H a (.dK (putK b (Sum.inr z) v))):=Yd.k (k:=Sum.inr z) e hl
end
def Zw6(K:aC)(J:It)(b:List Nat)(tc:TT)(f:TE)(σ:L2.St)(h:Hp)(Q:VK):Prop:=∃W:Nat->Nat->List V->Hp->Prop,(∃m,W 0 m [] h)/\∀i m c H,W i m c H->
 (J.stop i H/\∀p,H p=none->Q (.ref p) (upd H p (.lst c)))\/
 (J.go i H/\c.length<sizeLine/\∀x H',J.yld i H x H'->∃a u v,x=.ref a/\fY K H' a [u,v]/\tc (some u::some v::b.map (pick σ)) H' λk e=>if k=true then f (some u::some v::b.map (pick σ)) e (λy g=>∃d,d<m/\W (i+1) d (c++[y]) g)else ∃d,d<m/\W (i+1) d c e)
def Zoy(K:aC)(d:TI)(a:List Nat)(tc:TT)(b:TE):TE:=λσ H Q=>d σ H λJ c=>Zw6 K J a tc b σ c Q
theorem Zyi{K:aC}{c:TI}{a:List Nat}{tc:TT}{b:TE}{σ:L2.St}{H:Hp}{Q:VK}(h:c σ H λJ d=>Zw6 K J a tc b σ d Q):Zoy K c a tc b σ H Q:=h
def ZC0(K:aC)(b:TE):TE:=λσ H Q=>∃a u v r,σ=↑a::r/\fY K H a [u,v]/\b (some u::some v::r) H Q
theorem Zli{K:aC}{J:It}{b:List Nat}{c:TE}{σ:L2.St}{H:Hp}{Q:VK}(h:LCg J b xP (ZC0 K c) σ H Q):Zw6 K J b xP c σ H Q:=by
 obtain⟨W,w0,step⟩:=h;refine⟨W,w0,λi m d H j=>?_⟩;rcases step i m d H j with z | ⟨g,l,st⟩
 ·exact .inl z
 ·refine .inr ⟨g,l,λx f y=>?_⟩;have h1:=st x f y;simp only[xP,↓reduceIte]at h1;obtain⟨a,u,v,r,e,hs,q⟩:=h1;cases e;refine⟨a,u,v,rfl,hs,?_⟩;simp only[xP,↓reduceIte];exact q
theorem Zig{X:Cx}{n iter:AM}{x y:Str}{D F pt w:Pos}{E:Nat}{q:AF}{a:Scope}{cl:List (Str×AH)}{B:TI}{tc:TT}{A:TE}{cns:AG}(b:List Nat)
  (O:PI X (.Tuple [.Name x D,.Name y F] E pt) iter B)
  (L:∀C s H ex pn,PF (Ov X a cl (x::y::cns) C s H ex pn) q tc) (T:∀C s H ex pn,PE (Ov X a cl (x::y::cns) C s H ex pn) n A) (hc:X.calm=true)
  (d:closureFor a X.env=pure cl) (t:AllIn X.env.cells cl) (k:Du X cns b)
  (f:a.kind=.function) (e:(a.names.all λp=>p.2 != .cell)=true) (j:(a.names.all λp=>p.2 != .free || (cl.lookup p.1).isSome)=true)
  (u:(cns.all λy=>a.names.lookup y == some .free)=true) (c:∀y∈a.names,y.2=.local->a.names.lookup y.1=some .local) (hx:a.names.lookup x=some .local) (hy:a.names.lookup y=some .local) (o:(x::y::cns).Nodup)
  (hs:∀v,foldedSetIterable iter X.env v=pure v:=by intro _;rfl):
  PE X (.ListComp n [⟨.Tuple [.Name x D,.Name y F] E pt,iter,q,0⟩] a w) (Zoy X.K B b tc A):=by
 refine Zpx (ns:=[x,y]) (gt:=Znx X.K 2 (Gk (aO 0) (Gk (aO 1) Zny))) b (λJ Z H Q h=>?_) O (λC s H ex pn=>Tj hc (qd (fu o rfl (.inl (lookup_relabel_local hx)) (.inr (lookup_relabel_local hx))) (qd (fu o rfl (.inl (lookup_relabel_local hy)) (.inr (lookup_relabel_local hy))) JW))) L T hc d t k f e j u c hs;obtain⟨W,w0,turn⟩:=h;refine⟨W,w0,λi m M H V=>(turn i m M H V).imp id λ⟨g,l,st⟩=>⟨g,l,λz U y I hv=>?_⟩⟩;obtain⟨P,N,S,R,r,st⟩:=st z U y
 match I,hv with
 | [v,Y],_=>exact⟨[some N,some S],rfl,⟨P,_,R,r,rfl,_,_,rfl,_,_,rfl,rfl,rfl,rfl⟩,st⟩
theorem Zek{X:Cx}{iz:Nat}{z:Str}{Z T:Pos}{n iter:AM}{x:Str}{L r:Pos}{f:AF}{a:Scope}{cl:List (Str×AH)}{wi:TI}{tc:TT}{U:TE}{cns:AG}(d:List Nat)
  (hi:PI X (.Name x L) iter wi)
  (hf:∀C s H ex pn,PF (Ov X a cl (x::cns) C s H ex pn) f tc) (he:∀C s H ex pn,PE (Ov X a cl (x::cns) C s H ex pn) n U) (hc:X.calm=true)
  (K:closureFor a X.env=pure cl) (hcl:AllIn X.env.cells cl) (S:Du X cns d)
  (M:a.kind=.function) (B:(a.names.all λp=>p.2 != .cell)=true) (E:(a.names.all λp=>p.2 != .free || (cl.lookup p.1).isSome)=true)
  (hcf:(cns.all λy=>a.names.lookup y == some .free)=true) (k:∀y∈a.names,y.2=.local->a.names.lookup y.1=some .local) (hx:a.names.lookup x=some .local) (hnd:(x::cns).Nodup)
  (hN:X.N.Nodup) (hiz:X.N[iz]? =some z) (hz:Loc X.env.scope z) (hfz:X.fn z=true\/X.env.scope.names.lookup z=some .local)
  (hsw:swapsWithSole [.Name z Z] (.ListComp n [⟨.Name x L,iter,f,0⟩] a r) T.line X.env=pure true) (hs:∀v,foldedSetIterable iter X.env v=pure v:=by intro _;rfl):
  PS X (.Assign [.Name z Z] (.ListComp n [⟨.Name x L,iter,f,0⟩] a r) T) (bF (tLC wi d tc U) (aO iz)):=by
 intro j s O H D I h;generalize hQ:(λv H1=>aO iz v O H1 D.nx)=Q;have h:tLC wi d tc U O H Q:=hQ ▸ h;rw[exec_Assign_arm];refine wpAny_bind (wpAny_standAt ?_);rw[hsw];refine wpAny_bind (wpAny_pure ?_);rw[if_pos rfl];refine wpAny_bind ?_;rw[evalThenUse]
 suffices key:wpAny ς X.A (comprehension (.ListComp n [⟨.Name x L,iter,f,0⟩] a r) a X.env (firstIterPos [⟨.Name x L,iter,f,0⟩] r) (newList []) (firstAsync [⟨.Name x L,iter,f,0⟩]) (firstIter [⟨.Name x L,iter,f,0⟩] X.env) (some λv=>assignAll v ((assignEach [.Name z Z] X.env).map (·.2)))) (λ_ s'=>SP X j D .next s') X.xe s from
  wpAny_bind (wpAny_mono key (λ_ s' h=>wpAny_pure (wpAny_pure h)) λ_ _ h=>h)
 refine Zlj (ns:=[x]) (gt:=aO 0) (R:=λJ O H Q=>LCg J d tc U O H Q) d (λJ O H Q h=>?_) hi (λC s H ex pn=>fu hnd rfl (.inl (lookup_relabel_local hx)) (.inr (lookup_relabel_local hx))) hf he hc K hcl S M B E hcf k hs I h λacc C s6 m r0 hm fCC fin=>?_
 ·obtain⟨W,w0,turn⟩:=h;refine⟨W,w0,λi m ys H hw=>(turn i m ys H hw).imp id λ⟨g,l,st⟩=>⟨g,l,λz H' y vs hv=>?_⟩⟩
  match vs,hv with
  | [v],_=>exact⟨[some z],rfl,⟨rfl,rfl⟩,st z H' y⟩
 obtain⟨v,Y,If,rf,V,F⟩:=fin s6.heap (Heap.SameBut.refl _ _);have t:vR X j Y C:=fCC F;obtain⟨oC,esC,epC,gC,dC,kC,nC⟩:=hm;have Ip:Inv X (j++[(C,oC)]) O Y s6:=Inv.GQ If λp hp=>by
  rcases List.mem_append.mp hp with hp | hp
  ·exact If.pin p (List.mem_append_right _ hp)
  ·rw[List.mem_singleton.mp hp];exact⟨gC,t.1,t.2.1,t.2.2.1,λv z=>by rw[dC]at z;cases z⟩
 show wpAny _ _ (assign (.Name z Z) X.env (.ref acc)) _ _ _;refine wpAny_assign_Name (Jy Ip hN hiz hz rf (λs7 I7=>?_) hfz);have g7:=(I7.pin (C,oC) (List.mem_append_right _ (List.mem_append_right _ List.mem_cons_self))).1;refine⟨m,⟨oC,esC,epC,g7,dC,kC,nC⟩,λh' hs'=>?_⟩;have I8:=I7.Jx;have V:D.nx (O.set iz (some v)) Y:=by rw[<- hQ]at V;exact V
 have P:∀b o,b≠C->s7.heap.get? b=some o->h'.get? b=some o:=λb o hb e=>hs'.extBut b o hb e;refine⟨_,Y,I8.step (ch:=[C]) (λb hb=>?_) (λb o _ _ hb e _=>P b o (λz=>hb (by rw[z];exact List.mem_cons_self)) e) (λb o _ _ hb e _=>⟨o.slots,P b o (λz=>hb (by rw[z];exact List.mem_cons_self)) e⟩) (λ_ _ _ _ h=>h) (λb o hb e=>⟨o,P b o (λz=>hb (by rw[z];exact List.mem_cons_self)) e⟩) (λ_ _ h=>h) (λ_ _ _ h=>h) (λ_ ps h=>⟨#[],by simpa using h⟩) (λm' hm'=>?_) (λb u e=>?_) I8.bare,V⟩
 ·rw[List.mem_singleton.mp hb];exact⟨t.2.2.2.1,t.2.1,t.2.2.2.2.1,t.2.2.2.2.2⟩
 ·obtain⟨o',e1,e2,e3,e4,e5⟩:=hm';exact⟨o',e1,e2,P _ _ t.2.1.symm e3,e4,e5⟩
 ·refine(I8.hok b u e).stay (λc w' hc q=>P c w' ?_ q) (λ_ q=>q) λ_ _ q=>q;rintro rfl;rcases hc with rfl | hc
  ·rw[F]at e;cases e
  ·rw[F]at hc;cases hc
end G
namespace G
open PySem L2
def Ite(K:aC)(a:AH):It:=
 ⟨λi H=>∃xs x,cB K H a xs/\xs[i]? =some x,λi H x H'=>∃t v,x=.ref t/\H t=none/\H'=upd H t (.tup [.int i,v])/\∀xs,cB K H a xs->xs[i]? =some v,λi H=>∃xs,cB K H a xs/\xs.length<=i⟩
def Zfy(K:aC)(c:TA):TI:=λσ H R=>c σ H λvs b=>∃a,vs=[.ref a]/\(∃xs,cB K b a xs)/\R (Ite K a) b
theorem ZCv{K:aC}{b:TA}{σ:L2.St}{H:Hp}{R:It->Hp->Prop}(h:b σ H λvs c=>∃a,vs=[.ref a]/\(∃xs,cB K c a xs)/\R (Ite K a) c):Zfy K b σ H R:=h
def NT(v d:AH):HO:=.ext λh=>h.IsItemsView v d
def Zh6(d:TE):TE:=λσ H Q=>d σ H λx c=>∃a b,x=.ref a/\Rd c a (.dK b)/\∀v,c v=none->Q (.ref v) (upd c v (NT v a))
theorem Zv7{d:TE}{σ:L2.St}{H:Hp}{Q:VK}(h:d σ H λx b=>∃a c,x=.ref a/\Rd b a (.dK c)/\∀v,b v=none->Q (.ref v) (upd b v (NT v a))):Zh6 d σ H Q:=h
def Zgm(H:Hp):AE->List (Key×V)->Prop
 | [],[]=>True
 | t::ts,kv::a=>H t=some (.tup [kV kv.1,kv.2])/\Zgm H ts a
 | _,_=>False
def Zko:List V->Hp->VK->Prop:=λxs H Q=>∃v a b,xs=[.ref v]/\H v=some (NT v a)/\Rd H a (.dK b)/\∀l ts H',H l=none->aU H H'->H' l=some (.lst (ts.map V.ref))->Zgm H' ts b->Q (.ref l) H'
theorem Zv5{H:Hp}{Q:VK}{v a:AH}{b:List (Key×V)}(h1:H v=some (NT v a))(h2:Rd H a (.dK b))(h:∀l ts H',H l=none->aU H H'->H' l=some (.lst (ts.map V.ref))->Zgm H' ts b->Q (.ref l) H'):Zko [.ref v] H Q:=⟨v,a,b,rfl,h1,h2,h⟩
def Zvl(a:List (Key×V)):V->Option Bool
 | .int i=>some (o9 a (.inl i)).isSome
 | .str x=>some (o9 a (.inr x)).isSome
 | .non=>some false
 | _=>none
def Zoz(d:Bool)(ty f:TE):TE:=λσ H Q=>ty σ H λy g=>f σ g λx e=>∃a c b,x=.ref a/\Rd e a (.dK c)/\Zvl c y=some b/\Q (.bl (if d then !b else b)) e
theorem Zys{d:Bool}{ty f:TE}{σ:L2.St}{H:Hp}{Q:VK}(h:ty σ H λy g=>f σ g λx e=>∃a c b,x=.ref a/\Rd e a (.dK c)/\Zvl c y=some b/\Q (.bl (if d then !b else b)) e):Zoz d ty f σ H Q:=h
section
variable {K:aC}{a:AH}{g:TG}{tb:TS}{σ:L2.St}{H:Hp}{n:L2.St->Hp->Prop}{r:VK}
theorem ZBe(xs:List V)(Pv:Nat->L2.St->Hp->Prop)(h:Pv 0 σ H)(hl:∀i σ H,i<=xs.length->Pv i σ H->cB K H a xs)
  (hs:∀i x t σ H,xs[i]? =some x->Pv i σ H->H t=none->g (.ref t) σ (upd H t (.tup [.int i,x])) λc d=>tb ⟨Pv (i+1),r,n,Pv (i+1)⟩ c d) (hd:∀ σ H,Pv xs.length σ H->n σ H):
  ∃W:Nat->Nat->L2.St->Hp->Prop,(∃m,W 0 m σ H)/\∀i m σ H,W i m σ H->
   ((Ite K a).stop i H/\n σ H)\/((Ite K a).go i H/\∃N:L2.St->Hp->Prop,(∀ b H',N b H'->∃f,f<m/\W (i+1) f b H')/\∀x H',(Ite K a).yld i H x H'->g x σ H' λc d=>tb ⟨N,r,n,N⟩ c d):=by
 refine⟨λi m σ H=>i<=xs.length/\m=xs.length - i/\Pv i σ H,⟨xs.length,Nat.zero_le _,rfl,h⟩,?_⟩;rintro i m σ H ⟨j,rfl,p⟩;have hq:=hl i σ H j p
 by_cases hk:i=xs.length
 ·subst hk;exact .inl ⟨⟨xs,hq,Nat.le_refl _⟩,hd σ H p⟩
 ·have e:i<xs.length:=δ
  have hx:xs[i]? =some xs[i]:=bK e;refine .inr ⟨⟨xs,_,hq,hx⟩,Pv (i+1),λb H' k=>⟨xs.length - (i+1),δ,δ,rfl,k⟩,?_⟩;rintro x H' ⟨t,v,rfl,l,rfl,hv⟩;exact hs i v t σ H (hv xs hq) p l
theorem Zuq{d:List Nat}{tc:TT}{j:TE}{Q:VK}{xs:List V}(hs:cB K H a xs)(hz:xs.length<=1000000)(W:Nat->List V->Hp->Prop)(o:W 0 [] H)(g:∀i c b,W i c b->aU H b/\c.length<=i)
  (step:∀i x c b t (C:List V->Hp->Prop),(∀f e,W (i+1) f e->C f e)->xs[i]? =some x->W i c b->b t=none->tc (some (.int i)::some x::d.map (pick σ)) (upd b t (.tup [.int i,x])) λk l=>if k=true then j (some (.int i)::some x::d.map (pick σ)) l (λy e=>C (c++[y]) e)else C c l)
  (q:∀c b,W xs.length c b->∀p,b p=none->Q (.ref p) (upd b p (.lst c))):Zw6 K (Ite K a) d tc j σ H Q:=by
 refine⟨λi m c b=>i<=xs.length/\m=xs.length - i/\W i c b,⟨xs.length,Nat.zero_le _,rfl,o⟩,?_⟩;rintro i m c b ⟨u,rfl,w⟩;obtain⟨sm,hl⟩:=g i c b w;have hq:cB K b a xs:=sm.seq hs
 by_cases hk:i=xs.length
 ·subst hk;exact .inl ⟨⟨xs,hq,Nat.le_refl _⟩,q c b w⟩
 ·have h:i<xs.length:=δ
  refine .inr ⟨⟨xs,_,hq,bK h⟩,Nat.lt_of_le_of_lt (show c.length<=1000000 by omega) (show 1000000<sizeLine by decide),?_⟩;rintro x z ⟨t,v,rfl,s,rfl,hv⟩;exact⟨t,_,_,rfl,fY.of aq,step i v c b t (λf e=>∃n,n<xs.length - i/\i+1<=xs.length/\n=xs.length - (i+1)/\W (i+1) f e) (λf e r=>⟨xs.length - (i+1),δ,δ,rfl,r⟩) (hv xs hq) w s⟩
end
end G
namespace G
open PySem L2 PySem.Spec PyProof.Rows
theorem Znc{X:Cx}{a:At}{σ:L2.St}{H:Hp}{s:AJ}{h':Heap}{t':Nat}{e d:AH}(I:Inv X a σ H s)(k:∀b u,b≠e->b≠d->s.heap.get? b=some u->h'.get? b=some u)(f:vR X a H e)(g:vR X a H d):
  Inv X a σ H { s with heap:=h',toks:=t' }:=by
 have ne:∀b u,H b=some u->b≠e:=λb u q z=>by rw[z,f.1]at q;cases q
 have h:∀b u,H b=some u->b≠d:=λb u q z=>by rw[z,g.1]at q;cases q
 have nm:∀b,b∉[e,d]->b≠e/\b≠d:=λb hb=>⟨λz=>hb (by simp[z]),λz=>hb (by simp[z])⟩;refine I.step (g':=s.gens) (d':=s.drawn) (ch:=[e,d]) (λb hb=>?_) (λb o _ _ hc q _=>k b o (nm b hc).1 (nm b hc).2 q) (λb o _ _ hc q _=>⟨o.slots,k b o (nm b hc).1 (nm b hc).2 q⟩) (λ_ _ _ _ n=>n)
  (λb o hc q=>⟨o,k b o (nm b hc).1 (nm b hc).2 q⟩) (λ_ _ q=>q) (λ_ _ _ q=>q) (λb t q=>⟨#[],by rw[q];simp⟩) (λm hm=>?_) (λb u q=>?_) I.bare
 ·rcases List.mem_cons.mp hb with z | z
  ·rw[z];exact⟨f.2.2.2.1,f.2.1,f.2.2.2.2.1,f.2.2.2.2.2⟩
  ·have i:b=d:=by simpa using z
   rw[i];exact⟨g.2.2.2.1,g.2.1,g.2.2.2.2.1,g.2.2.2.2.2⟩
 ·obtain⟨o,j,l,p,r⟩:=hm;exact⟨o,j,l,k _ o (Ne.symm f.2.1) (Ne.symm g.2.1) p,r⟩
 ·refine(I.hok b u q).stay (λc v hc z=>?_) (λ_ z=>z) λ_ _ z=>z;rcases hc with y | y
  ·rw[y]at z ⊢;exact k b v (ne b u q) (h b u q) z
  ·exact k c v (ne c _ y) (h c _ y) z
theorem U7{X:Cx}{d:At}{σ:L2.St}{H:Hp}{s:AJ}{h':Heap}{t':Nat}{e f a:AH}{o:HO}(I:Inv X d σ H s)(k:∀b u,b≠e->b≠f->s.heap.get? b=some u->h'.get? b=some u)(g:vR X d H e)(h:vR X d H f)
  (j:s.heap.objs.size<=a) (new:lO X.prog X.w (upd H a o) h' a o):Inv X d σ (upd H a o) { s with heap:=h',toks:=t' }:=by
 have hn:=I.hok.fresh j;have ne:∀b u,H b=some u->b≠e:=λb u q z=>by rw[z,g.1]at q;cases q
 have i:∀b u,H b=some u->b≠f:=λb u q z=>by rw[z,h.1]at q;cases q
 have nm:∀b,b∉[e,f]->b≠e/\b≠f:=λb hb=>⟨λz=>hb (by simp[z]),λz=>hb (by simp[z])⟩;have B:∀b u,s.heap.get? b=some u->b≠a:=λb u q=>Nat.ne_of_lt (Nat.lt_of_lt_of_le (Heap.lt_size q) j);refine I.step (g':=s.gens) (d':=s.drawn) (ch:=[e,f]) (λb hb=>?_) (λb o _ _ hc q _=>k b o (nm b hc).1 (nm b hc).2 q) (λb o _ _ hc q _=>⟨o.slots,k b o (nm b hc).1 (nm b hc).2 q⟩) (λb u _ q n=>(aD (B b u q)).trans n)
  (λb o hc q=>⟨o,k b o (nm b hc).1 (nm b hc).2 q⟩) (λb l q=>(aD (aH q hn)).trans q) (λb o l q=>(aD (aH q hn)).trans q) (λb C q=>⟨#[],by rw[aD (aH q hn),q];simp⟩) (λm hm=>?_) (λb u q=>?_) I.bare
 ·rcases List.mem_cons.mp hb with z | z
  ·rw[z];exact⟨g.2.2.2.1,g.2.1,g.2.2.2.2.1,g.2.2.2.2.2⟩
  ·have p:b=f:=by simpa using z
   rw[p];exact⟨h.2.2.2.1,h.2.1,h.2.2.2.2.1,h.2.2.2.2.2⟩
 ·obtain⟨o,t,x,A,r⟩:=hm;exact⟨o,t,x,k _ o (Ne.symm g.2.1) (Ne.symm h.2.1) A,r⟩
 ·by_cases hb:b=a
  ·subst hb;rw[aq]at q;cases q;exact new
  ·rw[aD hb]at q;refine(I.hok b u q).stay (λc v hc z=>?_) (λc z=>by rw[aD (aH z hn)];exact z) λc l z=>by rw[aD (aH z hn)];exact z
   rcases hc with y | y
   ·rw[y]at z ⊢;exact k b v (ne b u q) (i b u q) z
   ·exact k c v (ne c _ y) (i c _ y) z
theorem Zm4{P:AL}{w:AN}{K:aC}{C:AF}{x1:Nat}{pt:Pos}(a e f:AH)(y:e≠f):
    Turn P w K (.Tuple C x1 pt) (Ite K a) [e,f] e (λi h=>(∃old,IsEnum h e f ((i:Nat):Int) old)/\h.IsListIter f a i) where
  mem:=ζ
  obj:=λi h st b hb=>by
    obtain⟨⟨old,j⟩,o,ho,c,d⟩:=st;rcases List.mem_cons.mp hb with z | z
    · rw[z];exact⟨_,j,λv z=>by cases z⟩
    · have F:b=f:=by simpa using z
      rw[F];exact⟨o,ho,λv z=>by rw[d]at z;cases z⟩
  keep:=λi h h' st k=>⟨let ⟨old,j⟩:=st.1;⟨old,k e ζ _ j⟩,st.2.at λo q=>k f ζ o q⟩
  item:=by
    intro X S W N hc i m s Z H E I t st M;subst S W N;obtain⟨xs,x,hq,hx⟩:=M;obtain⟨L,U,p,hz⟩:=I.list hq;obtain⟨u,hu,ru⟩:=U.get hx;obtain⟨⟨old,j⟩,l⟩:=st;have Y:=t e ζ;have fi:=t f ζ;have r:e<s.heap.objs.size:=Heap.lt_size j;have R:f<s.heap.objs.size:=by obtain⟨o,q,_⟩:=l;exact Heap.lt_size q
    refine wpAny_pyNext_enum_item j l p.isList (x:=u) (by simpa using hu) y λh1 O B T hz1 V=>?_;refine⟨_,rfl,wpAny_letOwnedTupleGo_enum (s:={ s with heap:=h1,toks:=s.toks+1 }) O λh2 D g=>?_⟩
    replace g:Heap.SameBut e h1 h2:=g
    have hn:H s.heap.objs.size=none:=I.hok.fresh Γ;have I2:Inv X m Z (upd H s.heap.objs.size (.tup [.int ((i:Nat):Int),x])) { s with heap:=h2,toks:=s.toks+1 }:=by
      refine U7 I (λb v hb n q=>g.extBut b v hb (V b v hb n q)) Y fi Γ ?_;refine⟨by show 2<=sizeLine;decide,[.int ((i:Nat):Int) s.toks,u],.cons ⟨_,rfl⟩ (.cons ru .nil),⟨_,g.extBut _ _ (Nat.ne_of_gt r) T,rfl,_,rfl⟩⟩
    refine⟨.ref s.heap.objs.size,_,I2,rfl,⟨_,x,rfl,hn,rfl,λys hy=>by rw[I.Zfd hy hq];exact hx⟩,⟨⟨u,?_⟩,B.extBut g.extBut (Ne.symm y)⟩,λb hb=>?_⟩
    · have e1:(((i+1:Nat)):Int)=(i:Int)+1:=δ
      show IsEnum h2 e f (((i+1:Nat)):Int) u;rw[e1];exact D
    · rcases List.mem_cons.mp hb with z | z
      · rw[z,aD (Nat.ne_of_lt r)];exact Y.1
      · have F:b=f:=by simpa using z
        rw[F,aD (Nat.ne_of_lt R)];exact fi.1
  done:=by
    intro X S W N hc i m s Z H E I t st M;subst S W N;obtain⟨xs,hq,hx⟩:=M;obtain⟨L,U,p,hz⟩:=I.list hq;obtain⟨⟨old,j⟩,l⟩:=st;have hl:=U.length;exact wpAny_pyNext_enum_end (I.ok.hd hc) j l p.isList (by simp;omega) λh' J=>⟨rfl,Znc (t':=s.toks) I (λb o _ n q=>J b o n q) (t e ζ) (t f ζ)⟩
  self:=λA i s Q E st h=>let ⟨_,j⟩:=st.1;wpAny_pyIter_enum j h
theorem Zav{X:Cx}{g:AF}{t:Nat}{pt:Pos}{l:AM}{k:TA}{p f:Pos}(B:Gl X "enumerate")(hm:X.mg "enumerate"=none)(C:PA X [l] k)(hs:starEach [l] X.env=[(false,eval l X.env)]:=by rfl):
  PI X (.Tuple g t pt) (.Call (.Name "enumerate" p) [l] [] f) (Zfy X.K k):=by
 intro c s m H R I h;refine Call_ (Uw I B hm boot_enumerate (PyProof.Rows.callWith_type1 (jL (C f c s m H _ I h) λus d qb=>?_) hs rfl));obtain⟨D,H1,I1,r1,q1⟩:=qb;obtain⟨a,e,⟨F,hq⟩,q⟩:=q1;subst e;cases r1 with
 | cons r x=>
  cases x;obtain rfl:_=Value.ref a:=r;obtain⟨y,E,v,hz⟩:=I1.list hq;refine call_enumerate_list v.isList λo n i A hk=>?_;have w:Inv X c m H1 { d with heap:=o }:=I1.kept (t':=d.toks) hk
  refine wpAny_pyIter_enum (s:={ d with heap:=o }) n ?_;have j:∀b,d.heap.objs.size<=b->vR X c H1 b:=λb hb=>I1.Zjx hb (I1.hok.fresh hb);refine⟨_,[d.heap.objs.size+1,d.heap.objs.size],_,_,H1,rfl,w,Zm4 a _ _ (Nat.succ_ne_self _),⟨⟨_,n⟩,i⟩,λb hb=>?_,q⟩;rcases List.mem_cons.mp hb with z | z
  ·rw[z];exact j _ (Nat.le_succ _)
  ·have u:b=d.heap.objs.size:=by simpa using z
   rw[u];exact j _ Γ
theorem Znd{X:Cx}{d:At}{σ:L2.St}{H:Hp}{s:AJ}{a:AH}{o:HO}(I:Inv X d σ H s)(f:vR X d H a)(new:lO X.prog X.w (upd H a o) s.heap a o):Inv X d σ (upd H a o) s:=by
 have hn:=f.1;have r:Inv X d σ (upd H a o) { s with heap:=s.heap,gens:=s.gens,drawn:=s.drawn,toks:=s.toks }:=by
  refine I.step (g':=s.gens) (t':=s.toks) (d':=s.drawn) (ch:=[a]) (λb hb=>?_) (λb u _ _ _ q _=>q) (λb u _ _ _ q _=>⟨u.slots,q⟩) (λb u hc q n=>(aD (λz=>hc (by simp[z]))).trans n) (λb u _ q=>⟨u,q⟩)
   (λb e q=>(aD (aH q hn)).trans q) (λb u e q=>(aD (aH q hn)).trans q) (λb g q=>⟨#[],by rw[aD (aH q hn),q];simp⟩) (λm hm=>hm) (λb u q=>?_) I.bare
  ·have z:b=a:=by simpa using hb
   rw[z];exact⟨f.2.2.2.1,f.2.1,f.2.2.2.2.1,f.2.2.2.2.2⟩
  ·by_cases hb:b=a
   ·subst hb;rw[aq]at q;cases q;exact new
   ·rw[aD hb]at q;exact(I.hok b u q).stay (λc v _ z=>z) (λc z=>by rw[aD (aH z hn)];exact z) λc e z=>by rw[aD (aH z hn)];exact z
 exact r
theorem Zjw{X:Cx}{c:At}{H:Hp}{a b:AH}{o:HO}(f:vR X c H b)(h:b≠a):vR X c (upd H a o) b:=⟨(aD h).trans f.1,f.2⟩
theorem ZAn{P:AL}{w:AN}{k:Key}{u:AI}(h:(eG P w).is k u=true):RelV (kV k) u:=by
 rcases fH h with ⟨i,t,rfl,rfl⟩ | ⟨x,t,rfl,rfl⟩
 ·exact⟨t,rfl⟩
 ·exact⟨t,rfl⟩
theorem Zpy{X:Cx}{o:AM}{l:TE}{d c:Pos}(j:PE X o l)(g:attributeBase o "items" X.env (eval o X.env)=eval o X.env:=by rfl)(f:(d.endLine == c.line)=true:=by rfl):
  PE X (.Call (.Attribute o "items" d) [] [] c) (Zh6 l):=by
 intro i s t H Q I h;refine wpAny_Call_method0_late g f (jL (j i s t H _ I h) λu m qb=>?_);obtain⟨x,H1,I1,rx,a,kvs,ex,rd,q⟩:=qb;subst ex;obtain rfl:u=Value.ref a:=rx;obtain⟨t1,t2,hd⟩:=Zci I1 (.inl ⟨kvs,rd⟩);obtain⟨z,_,n,rel,p⟩:=Gp I1.hok rd;refine⟨"dict","dict.items",PySem.F.plainAttrs_dict,PySem.F.slot_dict_items,PySem.F.type_dict_items,t1,t2,Calls.callWith_builtin rfl (PySem.evalArgs_none ?_)⟩;refine call_meetsIn PySem.F.slot_dict_items t1 PySem.F.entry_dict_items (PySem.F.args_dict_items_1 _) (meets_dict_items (eG X.prog X.w) a hd) ⟨⟨n,p⟩,?_⟩;have hn:=I1.hok.fresh Γ;refine⟨.ref m.heap.objs.size,_,I1.laid (t':=m.toks) (λb u e=>Heap.get?_push_of_some _ e) Γ ?_,rfl,q _ hn⟩;exact⟨⟨_,Heap.get?_push_size _ rfl,rfl,rfl⟩,⟨_,Heap.get?_push_size _ rfl⟩,(by rintro h1 h2 ⟨o,j,r⟩ k;exact⟨o,k o j,r⟩)⟩
theorem Pj{X:Cx}{c:At}{σ:L2.St}{s:AJ}:∀(g:AE) (d:List (Key×V)) (vs:List (Key×AI)) (H:Hp),Inv X c σ H s->g.Nodup->(∀a∈g,vR X c H a)->g.length=d.length->KV d vs->
  (∀(j:Nat) (a:AH),g[j]? =some a->∃f k x,vs[j]? =some (k,x)/\(eG X.prog X.w).is k f=true/\s.heap.get? a=some { cls:=.type "tuple",data:=.seq #[f,x] })->
  ∃H',Inv X c σ H' s/\aU H H'/\Zgm H' g d
 | [],[],_,H,I,_,_,_,_,_=>⟨H,I,λ_ _ h=>h,trivial⟩
 | [],_::_,_,_,_,_,_,hl,_,_=>by simp at hl
 | _::_,[],_,_,_,_,_,hl,_,_=>by simp at hl
 | a::g,i::d,vs,H,I,nd,n,hl,r,m=>by
  cases r with
  | cons D rs=>
   rename_i q u
   obtain⟨f,k,x,e,hk,t⟩:=m 0 a rfl;have F:q=(k,x):=by simpa using e
   subst F;obtain⟨B,v⟩:=D;have p:=n a ζ;have C:a∉g:=(List.nodup_cons.mp nd).1;have l:i.1=k:=B;have A:Inv X c σ (L2.upd H a (.tup [kV i.1,i.2])) s:=Znd I p ⟨by show 2<=sizeLine;decide,[f,x],.cons (by rw[l];exact ZAn hk) (.cons v .nil),⟨_,t,rfl,_,rfl⟩⟩;obtain⟨H',y,sm,E⟩:=Pj g d u _ A (List.nodup_cons.mp nd).2 (λb hb=>Zjw (n b (by simp[hb])) λz=>C (z ▸ hb)) (by simpa using hl) rs (λj b hb=>by simpa using m (j+1) b (by simpa using hb));refine⟨H',y,λb o hb=>sm b o ?_,sm _ _ aq,E⟩;rw[aD (aH hb p.1)];exact hb
theorem YD:∀a:AE,Vals (a.map V.ref) (a.map Value.ref)
 | []=>.nil
 | _::a=>.cons rfl (YD a)
theorem Zkm{X:Cx}(hc:X.calm=true):Lp X (.type "list") Zko:=by
 intro e s y H K us Q I r h;obtain⟨v,a,m,rfl,hv,D,q⟩:=h;obtain⟨u,rfl,t⟩:=Vals.one r;obtain rfl:u=Value.ref v:=t;have k:s.heap.IsItemsView v a:=(show lO X.prog X.w H s.heap v (NT v a)from I.hok v _ hv).1;obtain⟨z,hd,p,rel,x⟩:=Gp I.hok D;obtain⟨J,hm⟩:=x.dictAt;have hl:=rel.length;refine W.kdx_call (I.ok.hd hc) k hm (by rw[<- hl];exact z) λC tk l c g hk E d i f=>?_;have hn:=I.hok.fresh (Nat.le_refl s.heap.objs.size);have B:Inv X e y (upd H s.heap.objs.size (.lst (g.map V.ref))) { s with heap:=C,toks:=tk }:=by
  refine I.laid hk Γ ⟨by rw[bB,d,<- hl];exact z,l.toList,c,by rw[f];exact YD g,by rw[Array.toArray_toList];exact E⟩
 have nd:g.Nodup:=i.rise.imp λh=>Nat.ne_of_lt h;obtain⟨n,A,sm,F⟩:=Pj g m p _ B nd (λb hb=>Zjw (I.Zjx (Nat.le_of_lt (i.above b hb)) (I.hok.fresh (Nat.le_of_lt (i.above b hb)))) (Nat.ne_of_gt (i.above b hb))) (by rw[d,hl]) rel (λj b hb=>i.pairs j b hb);refine⟨.ref s.heap.objs.size,n,A,rfl,q _ g n hn (λb o hb=>sm b o ?_) (sm _ _ aq) F⟩;rw[aD (aH hb hn)];exact hb
theorem Zrz{X:Cx}{e:At}{σ:L2.St}{H:Hp}{s:AJ}{a:AH}{o:Obj}{d:List (Key×V)}(I:Inv X e σ H s)(h:H a=some (.dK d))(g:s.heap.get? a=some o):Inv X e σ (upd H a (.Aq o (.dK d))) s:=by
 have ne:∀b u,H b=some u->u≠.dK d->b≠a:=λb u q n z=>n (by rw[z,h]at q;exact(Option.some.inj q).symm);have r:Inv X e σ (upd H a (.Aq o (.dK d))) { s with heap:=s.heap,gens:=s.gens,drawn:=s.drawn,toks:=s.toks }:=by
  refine I.step (g':=s.gens) (t':=s.toks) (d':=s.drawn) (ch:=[]) (λb hb=>nomatch hb) (λb u _ _ _ q _=>q) (λb u _ _ _ q _=>⟨u.slots,q⟩) (λb u hc q n=>(aD (λz=>by rw[z,h]at n;cases n)).trans n) (λb u _ q=>⟨u,q⟩)
   (λb f q=>(aD (ne b _ q (λz=>by cases z))).trans q) (λb u f q=>(aD (ne b _ q (λz=>by cases z))).trans q) (λb i q=>⟨#[],by rw[aD (ne b _ q (λz=>by cases z)),q];simp⟩) (λm hm=>hm) (λb u q=>?_) I.bare
  have hs:∀c u,H c=some u->u≠.dK d->upd H a (.Aq o (.dK d)) c=some u:=λc u z n=>by rw[aD (ne c u z n)];exact z
  by_cases hb:b=a
  ·subst hb;rw[aq]at q;cases q;exact⟨g,(I.hok b _ h).stay (λc v _ z=>z) (λc z=>hs c _ z (λy=>by cases y)) λc f z=>hs c _ z (λy=>by cases y)⟩
  ·rw[aD hb]at q;exact(I.hok b u q).stay (λc v _ z=>z) (λc z=>hs c _ z (λy=>by cases y)) λc f z=>hs c _ z (λy=>by cases y)
 exact r
def Zy5:Option Key->AI->Bool
 | none,.none=>true
 | none,_=>false
 | some k,v=>Ks k v
theorem nU{k:Option Key}{v:AI}(h:Zy5 k v=true):(k=none/\v=.none)\/∃j,k=some j/\Ks j v=true:=by
 cases k with
 | none=>cases v<;>first | exact .inl ⟨rfl,rfl⟩ | cases h
 | some j=>exact .inr ⟨j,rfl,h⟩
theorem UL{j:Key}(h:Ks j Value.none=true):False:=by
 rcases fH h with ⟨i,t,_,e⟩ | ⟨x,t,_,e⟩<;>cases e
def Zxv(P:AL)(w:AN):PySem.KeyKind P w (Option Key) where
  is:=Zy5
  hash:=λk=>match k with | none=>reduceHash 0xFCA86420 | some k=>ZAm w k
  inj:=λv a b c hb=>by
    rcases nU c with ⟨rfl,rfl⟩ | ⟨i,rfl,h1⟩
    · rcases nU hb with ⟨rfl,_⟩ | ⟨j,rfl,h2⟩
      · rfl
      · exact(UL h2).elim
    · rcases nU hb with ⟨rfl,rfl⟩ | ⟨j,rfl,h2⟩
      · exact(UL h1).elim
      · rw[(eG P w).inj v i j h1 h2]
  byValue:=λk v h=>by
    rcases nU h with ⟨rfl,rfl⟩ | ⟨i,rfl,h1⟩
    · rfl
    · exact(eG P w).byValue i v h1
  pyHash:=λ{A E s k v Q} hv h=>by
    rcases nU hv with ⟨rfl,rfl⟩ | ⟨i,rfl,h1⟩
    · exact W.pyHash_slot (T:="NoneType") rfl F.slot_NoneType_hash F.entry_NoneType_hash (F.args_NoneType_hash_1 _) (beq_builtin_none _) (.inl rfl) (wpAny_bind (wpAny_pure (wpAny_bind (wpAny_mkInt (wpAny_pure ⟨_,_,rfl,h⟩)))))
    · exact(eG P w).pyHash h1 h
  eqBool:=λ{A E s a b u v Q} hu hv h=>by
    rcases nU hu with ⟨rfl,rfl⟩ | ⟨i,rfl,h1⟩
    · rcases nU hv with ⟨rfl,rfl⟩ | ⟨j,rfl,h2⟩
      · exact CW (A:=A) (s:=s) (y:=.non) (x:=.non) rfl rfl rfl rfl P w E Q h
      · rcases fH h2 with ⟨n,t,rfl,rfl⟩ | ⟨x,t,rfl,rfl⟩
        · exact CW (A:=A) (s:=s) (y:=.non) (x:=.int n) rfl ⟨t,rfl⟩ rfl rfl P w E Q h
        · exact CW (A:=A) (s:=s) (y:=.non) (x:=.str x) rfl ⟨t,rfl⟩ rfl rfl P w E Q h
    · rcases nU hv with ⟨rfl,rfl⟩ | ⟨j,rfl,h2⟩
      · rcases fH h1 with ⟨n,t,rfl,rfl⟩ | ⟨x,t,rfl,rfl⟩
        · exact CW (A:=A) (s:=s) (y:=.int n) (x:=.non) ⟨t,rfl⟩ rfl rfl rfl P w E Q h
        · exact CW (A:=A) (s:=s) (y:=.str x) (x:=.non) ⟨t,rfl⟩ rfl rfl rfl P w E Q h
      · refine(eG P w).eqBool h1 h2 ?_
        have e:decide (i=j)=decide (some i=some j):=by
          by_cases z:i=j
          · subst z;simp
          · rw[decide_eq_false z,decide_eq_false (λy=>z (Option.some.inj y))]
        rw[e];exact h
  «strs»:=λk x t v h=>by
    rcases nU h with ⟨_,e⟩ | ⟨i,rfl,h1⟩
    · cases e
    · exact(eG P w).strs i x t v h1
theorem Zqe{P:AL}{w:AN}{h:Heap}{a:AH}{vs:List (Key×AI)}(dd:h.DictOf (eG P w) a vs):∃f,h.MapOf (Zxv P w) a f/\f none=none:=by
 obtain⟨o,b,d,g,hc,hd,hk,hp,hn⟩:=dd;refine⟨λk=>findBy (Zxv P w).is b k,⟨o,b,d,g,hc,hd,λe c=>?_,λ_=>rfl⟩,?_⟩
 ·obtain⟨k,h1,h2⟩:=hk e c;exact⟨some k,h1,h2⟩
 ·show Option.map (λx=>x.val) (Array.find? (λe=>Zy5 none e.key) b)=none;rw[Option.map_eq_none_iff,Array.find?_eq_none];intro e c;obtain⟨k,h1,_⟩:=hk e c;rcases fH h1 with ⟨n,t,_,z⟩ | ⟨x,t,_,z⟩<;>rw[z]<;>exact λy=>nomatch y
section
variable {X:Cx}{i o:AM}{ty td:TE}
theorem Zjt{a:List (Key×V)}{y:V}{b:Bool}(h:Zvl a y=some b):(∃k,y=kV k/\b=(o9 a k).isSome)\/(y=.non/\b=false):=by
 cases y<;>simp only[Zvl,Option.some.injEq]at h<;>first | cases h
 ·exact .inr ⟨rfl,rfl⟩
 ·exact .inl ⟨.inl _,rfl,rfl⟩
 ·exact .inl ⟨.inr _,rfl,rfl⟩
theorem Zih(hu:X.A.units+1<cLine)(j:PE X i ty)(m:PE X o td):PC X .NotIn i o (Zoz true ty td):=by
 intro c s d H Q I h;refine jL (j c s d H _ I h) λn r qb=>?_;obtain⟨y,H1,I1,ry,h1⟩:=qb;refine jL (m c r d H1 _ I1 h1) λg u qb=>?_;obtain⟨x,H2,I2,rx,a,kvs,b,ex,rd,hb,q⟩:=qb;subst ex;obtain rfl:g=Value.ref a:=rx;rcases Zjt hb with ⟨k,rfl,rfl⟩ | ⟨rfl,rfl⟩
 ·exact Zlt hu I2 (.inl ⟨kvs,k,rd,rfl,rfl⟩) ry λv p=>⟨.bl _,H2,p,rfl,q⟩
 ·obtain rfl:n=Value.none:=ry;obtain⟨z,hd,t,rel,l⟩:=Gp I2.hok rd;obtain⟨f,hm,e⟩:=Zqe l;refine wpAny_notIn_of (knd:=Zxv X.prog X.w) (k:=none) rfl hd hm ?_;rw[e];exact⟨.bl _,H2,I2.tok _,rfl,q⟩
end
section
variable {X:Cx}
end
def Zkp:List V->Hp->VK->Prop:=λxs H Q=>∃(a:AH) (b:List (Key×V)),xs=[.ref a]/\Rd H a (.dK b)/\∀l,H l=none->Q (.ref l) (upd H l (.lst (b.map λp=>kV p.1)))
theorem Zv6{H:Hp}{Q:VK}{a:AH}{b:List (Key×V)}(h1:H a=some (.dK b))(h:∀l,H l=none->Q (.ref l) (upd H l (.lst (b.map λp=>kV p.1)))):Zkp [.ref a] H Q:=⟨a,b,rfl,.inl h1,h⟩
theorem Zy6{P:AL}{w:AN}{k:Key}{u:AI}(h:(eG P w).is k u=true):RelV (kV k) u:=by
 rcases fH h with ⟨i,t,rfl,rfl⟩ | ⟨x,t,rfl,rfl⟩
 ·exact⟨t,rfl⟩
 ·exact⟨t,rfl⟩
theorem Y5{P:AL}{w:AN}:∀{a:List (Key×V)}{vs:List (Key×AI)}{us:AC},KV a vs->us.length=vs.length->(∀(j:Nat) u,us[j]? =some u->∃k x,vs[j]? =some (k,x)/\(eG P w).is k u=true)->Vals (a.map λp=>kV p.1) us
 | [],_,[],.nil,_,_=>.nil
 | [],_,_::_,.nil,hl,_=>by simp at hl
 | kv::a,_,[],.cons _ _,hl,_=>by simp at hl
 | kv::a,_,u::us,.cons d rs,hl,h=>by
  obtain⟨k,x,e,hk⟩:=h 0 u rfl;obtain⟨c,i⟩:=d;have f:=Option.some.inj (show some _=some _ from e);refine .cons ?_ (Y5 rs (by simpa using hl) λj v g=>by simpa using h (j+1) v (by simpa using g));have b:kv.1=k:=by rw[c,f]
  show RelV (kV kv.1) u;rw[b];exact Zy6 hk
theorem Zkn{X:Cx}(hc:X.calm=true):Lp X (.type "list") Zkp:=by
 intro b s m H A us Q I r h;obtain⟨a,d,rfl,i,q⟩:=h;obtain⟨u,rfl,k⟩:=Vals.one r;obtain rfl:u=Value.ref a:=k;obtain⟨_,_,e⟩:=Zci I (.inl ⟨d,i⟩);obtain⟨z,hd,x,rel,l⟩:=Gp I.hok i;obtain⟨y,hm⟩:=l.dictAt;have hl:=rel.length;refine W.kdl_call (W.kdl_dict e) (I.ok.hd hc) hm (by rw[<- hl];exact z) λo tk f c hk t g=>?_;have hn:=I.hok.fresh (Nat.le_refl s.heap.objs.size);have n:Inv X b m (upd H s.heap.objs.size (.lst (d.map λp=>kV p.1))) { s with heap:=o,toks:=tk }:=
  I.laid hk Γ ⟨by rw[bB];exact z,f.toList,c,Y5 (P:=X.prog) (w:=X.w) rel (by rw[Array.length_toList];exact g.1) (λj u v=>g.2 j u (by simpa using v)),by rw[Array.toArray_toList];exact t⟩
 exact⟨.ref s.heap.objs.size,_,n,rfl,q _ hn⟩
section
variable {X:Cx}{x1 x2 x3 x4:Str}{C1 C2 C3 C4:AH}{pos np1 np2 np3 np4 hp1 hp2 hp3 hp4:Pos}{body su1 su2 su3 su4:List Stmt}{b1 b2 b3 b4:Stmt}{M1 M2 M3 M4:AI->Prop}{tb:(L2.St->XK)->TS}{t1 t2 t3 t4:TS}
end
end G
namespace G
open PySem L2
end G
namespace G
open PySem L2 PySem.Spec PyProof.Rows
def Ph(v d:AH):HO:=.ext λh=>h.IsValuesView v d
def Zov(d:TE):TE:=λσ H Q=>d σ H λx c=>∃a b,x=.ref a/\Rd c a (.dK b)/\∀v,c v=none->Q (.ref v) (upd c v (Ph v a))
theorem Zy9{d:TE}{σ:L2.St}{H:Hp}{Q:VK}(h:d σ H λx b=>∃a c,x=.ref a/\Rd b a (.dK c)/\∀v,b v=none->Q (.ref v) (upd b v (Ph v a))):Zov d σ H Q:=h
theorem Zmo{X:Cx}{o:AM}{l:TE}{d c:Pos}(j:PE X o l)(g:attributeBase o "values" X.env (eval o X.env)=eval o X.env:=by rfl)(f:(d.endLine == c.line)=true:=by rfl):
  PE X (.Call (.Attribute o "values" d) [] [] c) (Zov l):=by
 intro i s t H Q I h;refine wpAny_Call_method0_late g f (jL (j i s t H _ I h) λu m qb=>?_);obtain⟨x,H1,I1,rx,a,kvs,ex,rd,q⟩:=qb;subst ex;obtain rfl:u=Value.ref a:=rx;obtain⟨t1,t2,hd⟩:=Zci I1 (.inl ⟨kvs,rd⟩);obtain⟨z,_,n,rel,p⟩:=Gp I1.hok rd;refine⟨"dict","dict.values",PySem.F.plainAttrs_dict,PySem.F.slot_dict_values,PySem.F.type_dict_values,t1,t2,Calls.callWith_builtin rfl (PySem.evalArgs_none ?_)⟩;refine call_meetsIn PySem.F.slot_dict_values t1 PySem.F.entry_dict_values (PySem.F.args_dict_values_1 _) (meets_dict_values (eG X.prog X.w) a hd) ⟨⟨n,p⟩,?_⟩;have hn:=I1.hok.fresh Γ;refine⟨.ref m.heap.objs.size,_,I1.laid (t':=m.toks) (λb u e=>Heap.get?_push_of_some _ e) Γ ?_,rfl,q _ hn⟩;exact⟨⟨_,Heap.get?_push_size _ rfl,rfl,rfl⟩,⟨_,Heap.get?_push_size _ rfl⟩,(by rintro h1 h2 ⟨o,j,r⟩ k;exact⟨o,k o j,r⟩)⟩
def Itv(a:AH)(o:Obj)(b:List (Key×V)):It:=
 ⟨λi H=>H a=some (.Aq o (.dK b))/\i<b.length,λi H x H'=>H'=H/\∃kv,b[i]? =some kv/\x=kv.2,λi H=>H a=some (.Aq o (.dK b))/\b.length<=i⟩
def Zrm(d:TE):TI:=λσ H R=>d σ H λx c=>∃v a b,x=.ref v/\c v=some (Ph v a)/\c a=some (.dK b)/\∀o,R (Itv a o b) (upd c a (.Aq o (.dK b)))
theorem ZCs{d:TE}{σ:L2.St}{H:Hp}{R:It->Hp->Prop}(h:d σ H λx c=>∃v a b,x=.ref v/\c v=some (Ph v a)/\c a=some (.dK b)/\∀o,R (Itv a o b) (upd c a (.Aq o (.dK b)))):Zrm d σ H R:=h
theorem YG{b a:Type}{R:b->a->Prop}:∀{xs:List b}{c:List a},Paired R xs c->∀(i:Nat) x y,xs[i]? =some x->c[i]? =some y->R x y
 | _,_,.nil,_,_,_,h,_=>by simp at h
 | _,_,.cons r rs,0,_,_,h1,h2=>by
  cases h1;cases h2;exact r
 | _,_,.cons r rs,i+1,_,_,h1,h2=>YG rs i _ _ (by simpa using h1) (by simpa using h2)
theorem Zm2{P:AL}{w:AN}{K:aC}{tg:AM}(a p:AH)(o:Obj)(f:List (Key×V))(A:Nat)(t:∃L,o.data=.dict L A):Turn P w K tg (Itv a o f) [p] p (λi h=>h.IsValIter p a i f.length A) where
  mem:=ζ
  obj:=λi h st b hb=>by
    have e:b=p:=by simpa using hb
    subst e;obtain⟨o,e,c,d⟩:=st;exact⟨o,e,λv z=>by rw[d]at z;cases z⟩
  keep:=λi h B st k=>by
    obtain⟨o,e,r⟩:=st;exact⟨o,k p ζ o e,r⟩
  item:=by
    intro X T W N hc i m s Z H E I y st M;subst T W N;obtain⟨hz,Y⟩:=M;obtain⟨O,z,hd,g,rel,J⟩:s.heap.get? a=some o/\f.length<=sizeLine/\(a == sysModules)=false/\∃g,KV f g/\s.heap.DictOf (eG X.prog X.w) a g:=I.hok a _ hz;obtain⟨q,hm⟩:=J.dictAt;obtain⟨L,n⟩:=t;have R:q=A:=by
      obtain⟨o',D,l,_,j,_⟩:=id hm;rw[O]at l;cases l;rw[n]at j;injection j with _ e;exact e.symm
    subst R;have hl:=rel.length;have hv:g[i]? =some g[i]:=bK δ;have u:f[i]? =some f[i]:=bK Y;have hk:RelV f[i].2 g[i].2:=(YG rel i _ _ u hv).2;obtain⟨C,U,f2,S,F,Q⟩:=y p ζ;rw[hl]at st;refine wpAny_pyNext_values_item st hm (k:=g[i].1) (v:=g[i].2) (by rw[hv]) λB x sb=>?_;have I1:Inv X m Z H { s with heap:=B }:=I.turned (t':=s.toks) (λb o hb e=>(sb.2 b hb).trans e) C U S F Q;obtain⟨oi,e,c,d⟩:=id x;exact⟨_,rfl,Zrv (s:={ s with heap:=B }) e c d ε ⟨f[i].2,H,I1,hk,⟨rfl,_,u,rfl⟩,by rw[hl];exact x,λb hb=>(y b hb).1⟩⟩
  done:=by
    intro X T W N hc i m s Z H E I y st M;subst T W N;obtain⟨hz,Y⟩:=M;obtain⟨O,z,hd,g,rel,J⟩:s.heap.get? a=some o/\f.length<=sizeLine/\(a == sysModules)=false/\∃g,KV f g/\s.heap.DictOf (eG X.prog X.w) a g:=I.hok a _ hz;obtain⟨q,hm⟩:=J.dictAt;obtain⟨L,n⟩:=t;have R:q=A:=by
      obtain⟨o',D,l,_,j,_⟩:=id hm;rw[O]at l;cases l;rw[n]at j;injection j with _ e;exact e.symm
    subst R;have hl:=rel.length;obtain⟨C,U,f2,S,F,Q⟩:=y p ζ;rw[hl]at st;exact wpAny_pyNext_values_end (I.ok.hd hc) st hm (by rw[List.getElem?_eq_none];omega) λB eb=>⟨rfl,I.turned (t':=s.toks) (λb o hb e=>eb b o hb e) C U S F Q⟩
  self:=λ_ _ _ _ _ st h=>wpAny_pyIter_valiter st h
theorem Ztw{X:Cx}{tg:AM}{e:AM}{k:TE}(w:PE X e k):PI X tg e (Zrm k):=by
 intro d s r H R I h;refine jL (w d s r H _ I h) λu c qb=>?_;obtain⟨x,H1,I1,r1,q1⟩:=qb;obtain⟨v,a,j,e,hv,hq,q⟩:=q1;subst e;obtain rfl:u=Value.ref v:=r1;have i:c.heap.IsValuesView v a:=(I1.hok v _ hv).1;obtain⟨z,hs,y,rel,n⟩:=Zwp I1.hok hq;obtain⟨t,hm⟩:=n.dictAt;obtain⟨o,p,l,_,f,_⟩:=id hm;refine wpAny_pyIter_values i hm ?_;have m:=Zrz I1 hq l;have g:c.heap.objs.size≠a:=Nat.ne_of_gt (Heap.lt_size l);refine⟨c.heap.objs.size,[c.heap.objs.size],_,_,_,rfl,m.kept (t':=c.toks) λb o e=>Heap.get?_push_of_some _ e,Zm2 a _ o j t ⟨p,f⟩,?_,λb hb=>?_,q o⟩
 ·rw[rel.length];exact⟨_,Heap.get?_push_size _ rfl,rfl,rfl⟩
 ·have e:b=c.heap.objs.size:=by simpa using hb
  subst e;exact Zjw (I1.Zjx Γ (I1.hok.fresh Γ)) g
theorem Zm7{X:Cx}{f:At}{σ:L2.St}{H:Hp}{s:AJ}{a:AH}{o:Obj}{d:List (Key×V)}(I:Inv X f σ H s)(h:H a=some (.Aq o (.dK d)))(hn:∀B u,X.H₀ a≠some (.Aq B u)):Inv X f σ (upd H a (.dK d)) s:=by
 have ne:∀b u,H b=some u->u≠.Aq o (.dK d)->b≠a:=λb u q n z=>n (by rw[z,h]at q;exact(Option.some.inj q).symm);have k:∀b,H b=none->upd H a (.dK d) b=none:=λb q=>(aD (λz=>by rw[z,h]at q;cases q)).trans q;have hs:∀c u,H c=some u->u≠.Aq o (.dK d)->upd H a (.dK d) c=some u:=λc u z n=>by rw[aD (ne c u z n)];exact z
 obtain⟨A,J,L,g,F,w,r,K,t,i,l⟩:=I;refine⟨A,J,L,⟨g.keep,g.slot,λb ob e n hx=>k b (g.free b ob e n hx),g.there,λb m e=>hs b _ (g.tups b m e) (λz=>by cases z),λb ob u e=>(aD (a:=a) (b:=b) (λz=>hn ob u (by rw[<- z];exact e))).trans (g.Oh b ob u e),λb E e=>?_⟩,F,w,k _ r,λx c e=>k _ (K x c e),λp hp=>?_,λb u q=>?_,l⟩
 ·obtain⟨j,q⟩:=g.Qq b E e;exact⟨j,hs b _ q (λz=>by cases z)⟩
 ·obtain⟨D,C,M⟩:=t p hp;exact⟨D,k _ C,M⟩
 ·by_cases hb:b=a
  ·subst hb;rw[aq]at q;cases q;exact(i b _ h).2.stay (λc v _ z=>z) (λc z=>hs c _ z (λy=>by cases y)) λc m z=>hs c _ z (λy=>by cases y)
  ·rw[aD hb]at q;exact(i b u q).stay (λc v _ z=>z) (λc z=>hs c _ z (λy=>by cases y)) λc m z=>hs c _ z (λy=>by cases y)
def Zow(H0:Hp)(d:TE):TE:=λσ H Q=>d σ H λx c=>∃a o b,c a=some (.Aq o (.dK b))/\(∀e u,H0 a≠some (.Aq e u))/\Q x (upd c a (.dK b))
theorem Zya{H0:Hp}{c:TE}{σ:L2.St}{H:Hp}{Q:VK}(h:c σ H λx d=>∃a o b,d a=some (.Aq o (.dK b))/\(∀e u,H0 a≠some (.Aq e u))/\Q x (upd d a (.dK b))):Zow H0 c σ H Q:=h
theorem Zu3{X:Cx}{e:AM}{c:TE}(f:PE X e c):PE X e (Zow X.H₀ c):=by
 intro b s d H Q I h;refine jL (f b s d H _ I h) λu g qb=>?_;obtain⟨x,H1,I1,r1,a,o,kvs,ha,hn,q⟩:=qb;exact⟨x,_,Zm7 I1 ha hn,r1,q⟩
def Zwx(K:aC)(a:TE):TT:=λσ H Q=>a σ H λx H'=>∃k,Zsn K x H' k/\Q k H'
theorem Zwj{K:aC}{a:TE}{σ:L2.St}{H:Hp}{Q:Bool->Hp->Prop}(h:a σ H λx H'=>∃k,Zsn K x H' k/\Q k H'):Zwx K a σ H Q:=h
theorem Zzx{K:aC}{H:Hp}{a:AH}{xs:List V}{P:Bool->Prop}(h:cB K H a xs)(q:P (!xs.isEmpty)):∃k,Zsn K (.ref a) H k/\P k:=⟨_,.inl ⟨xs,h,rfl⟩,q⟩
theorem Zrl{i:Nat}{c x:Int}{f:Int->Int->Int}{n:L2.St->Hp->Prop}{r:VK}{b ct:L2.St->Hp->Prop}{σ:L2.St}{H:Hp}(e:σ[i]? =some (some (.int x)))(h:n (σ.set i (some (.int (f x c)))) H):Zwy i (tC (.int c)) (ipI f) ⟨n,r,b,ct⟩ σ H:=⟨_,e,x,c,rfl,rfl,h⟩
def Zsj(K:aC):List V->Hp->VK->Prop:=λxs H Q=>∃p a,xs=[.ref p]/\(cB K H p a\/fY K H p a)/\∀l,H l=none->Q (.ref l) (upd H l (.lst a))
theorem Zv4{K:aC}{H:Hp}{Q:VK}{p:AH}{a:List V}(h1:fY K H p a)(h:∀l,H l=none->Q (.ref l) (upd H l (.lst a))):Zsj K [.ref p] H Q:=⟨p,a,rfl,.inr h1,h⟩
def Dq(K:aC)(H:Hp):Nat->V->V->Prop
 | 0,x,y=>x=y/\qQ x=true
 | d+1,x,y=>(x=y/\qQ x=true)\/∃a b,x=.ref a/\y=.ref b/\(a=b\/∃xs c,((cB K H a xs/\cB K H b c)\/(fY K H a xs/\fY K H b c))/\Al (Dq K H d) xs c)
theorem Zvy{K:aC}{H:Hp}{d:Nat}{x:V}(h:qQ x=true):Dq K H d x x:=by
 cases d with
 | zero=>exact⟨rfl,h⟩
 | succ d=>exact .inl ⟨rfl,h⟩
theorem Gn{K:aC}{H:Hp}{d:Nat}:∀{xs:List V},xs.all qQ=true->Al (Dq K H d) xs xs
 | [],_=>.nil
 | x::xs,h=>by
  rw[List.all_cons,Bool.and_eq_true]at h;exact .cons (Zvy h.1) (Gn h.2)
def Zat(K:aC)(c:Bool):R2:=λx y H Q=>∃a b xs d,x=.ref a/\y=.ref b/\((cB K H a xs/\cB K H b d)\/(fY K H a xs/\fY K H b d))/\Al (Dq K H 6) xs d/\Q (.bl (!c)) H
section
variable {X:Cx}
theorem Zg5:∀{x:V},qQ x=true->Zq x x=true
 | .non,_=>rfl
 | .bl b,_=>by cases b<;>rfl
 | .int i,_=>by simp[Zq]
 | .str z,_=>by simp[Zq]
theorem ZBj{m:At}{σ:L2.St}{H:Hp}{s:AJ}(I:Inv X m σ H s):∀(d:Nat) {A:Around}{x y:V}{u v:AI},A.units+d<cLine->RelV x u->RelV y v->Dq X.K H d x y->SeqAt.EqAt A s u v true:=by
 intro d
 induction d with
 | zero=>
  intro A x y u v hu p o h;obtain⟨rfl,i⟩:=h;have:=CW (A:=A) (s:=s) p o i i;rw[Zg5 i]at this;exact this
 | succ d ih=>
  intro A x y u v hu p o h;rcases h with ⟨rfl,i⟩ | ⟨a,b,rfl,rfl,h⟩
  ·have:=CW (A:=A) (s:=s) p o i i;rw[Zg5 i]at this;exact this
  ·obtain rfl:u=Value.ref a:=p;obtain rfl:v=Value.ref b:=o
   by_cases e:a=b
   ·subst e;exact SeqAt.EqAt.same _
   rcases h with rfl | ⟨t,q,hs,al⟩
   ·exact absurd rfl e
   ·refine SeqAt.EqAt.of_refs e ?_;have hl:=al.length;have n:A.units<cLine:=δ
    have item:∀{us f:AC},Vals t us->Vals q f->∀(j:Nat) (h1:j<us.toArray.size) (h2:j<f.toArray.size),SeqAt.EqAt A.in1 s us.toArray[j] f.toArray[j] true:=by
     intro us f g c j h1 h2;rw[List.size_toArray]at h1 h2;have L:=g.length;have M:=c.length;have B:t[j]? =some t[j]:=bK δ;have C:q[j]? =some q[j]:=bK δ;obtain⟨P,w,E⟩:=g.get B;obtain⟨N,z,F⟩:=c.get C;rw[bK h1]at w;rw[bK h2]at z;cases w;cases z;obtain⟨O,e3,J⟩:=al.get C;rw[B]at e3;cases e3;exact ih (A:=A.in1) (by show A.units+1+d<cLine;omega) E F J
    rcases hs with ⟨r,hb⟩ | ⟨r,hb⟩
    ·obtain⟨us,g,k,_⟩:=I.list r;obtain⟨f,c,l,_⟩:=I.list hb;have:=SeqAt.RcAt.lists (A:=A) (e:=λ_=>true) k.isList l.isList (by rw[List.size_toArray,List.size_toArray,<- g.length,<- c.length];exact hl) n (λj h1 h2=>item g c j h1 h2);rw[show(List.range us.toArray.size).all (λ_=>true)=true from by rw[List.all_eq_true];intros;rfl]at this;exact this
    ·obtain⟨us,g,k,_⟩:=I.tuple r;obtain⟨f,c,l,_⟩:=I.tuple hb;have D:us.toArray.size=f.toArray.size:=by rw[List.size_toArray,List.size_toArray,<- g.length,<- c.length];exact hl
     have:=SeqAt.RcAt.tuples (A:=A) (e:=λ_=>true) k l n (λj h1 h2=>item g c j h1 h2);rw[show(List.range (min us.toArray.size f.toArray.size)).all (λ_=>true)=true from by rw[List.all_eq_true];intros;rfl,D]at this;simpa using this
theorem Hg{a:At}{σ:L2.St}{H:Hp}{s:AJ}(I:Inv X a σ H s){A:Around}(hu:A.units+8<cLine){xs b:List V}{us c:AC}(al:Al (Dq X.K H 6) xs b)(e:Vals xs us)(d:Vals b c)(j:Nat)(h1:j<us.toArray.size)(h2:j<c.toArray.size):SeqAt.EqAt A.in1 s us.toArray[j] c.toArray[j] true:=by
 rw[List.size_toArray]at h1 h2;have n:=e.length;have o:=d.length;have h:xs[j]? =some xs[j]:=bK δ;have i:b[j]? =some b[j]:=bK δ;obtain⟨r,f,k⟩:=e.get h;obtain⟨p,g,l⟩:=d.get i;rw[bK h1]at f;rw[bK h2]at g;cases f;cases g;obtain⟨q,e3,m⟩:=al.get i;rw[h]at e3;cases e3;exact ZBj I 6 (A:=A.in1) (by show A.units+1+6<cLine;omega) k l m
theorem Zil(hu:X.A.units+64<cLine):Ag X (compareOp .Eq) (Zat X.K false):=by
 intro i s o H x y v u Q I l k h;obtain⟨p,m,r,n,rfl,rfl,hs,al,q⟩:=h;obtain rfl:v=Value.ref p:=l;obtain rfl:u=Value.ref m:=k;have hl:=al.length;rcases hs with ⟨g,hb⟩ | ⟨g,hb⟩
 ·obtain⟨us,d,a,_⟩:=I.list g;obtain⟨f,c,b,_⟩:=I.list hb;refine SeqAt.eq_listAt (e:=λ_=>true) a.isList b.isList (by rw[List.size_toArray,List.size_toArray,<- d.length,<- c.length];exact hl) δ (Hg I δ al d c) ?_;rw[show(List.range us.toArray.size).all (λ_=>true)=true from by rw[List.all_eq_true];intros;rfl];exact⟨.bl _,H,I,rfl,q⟩
 ·obtain⟨us,d,a,_⟩:=I.tuple g;obtain⟨f,c,b,_⟩:=I.tuple hb;have j:us.toArray.size=f.toArray.size:=by rw[List.size_toArray,List.size_toArray,<- d.length,<- c.length];exact hl
  refine SeqAt.eq_tupleAt (e:=λ_=>true) a b δ (Hg I δ al d c) ?_;rw[show(List.range (min us.toArray.size f.toArray.size)).all (λ_=>true)=true from by rw[List.all_eq_true];intros;rfl,j];simp only[beq_self_eq_true,Bool.and_self];exact⟨.bl _,H,I,rfl,q⟩
theorem Zq5(hu:X.A.units+64<cLine):Ag X (compareOp .NotEq) (Zat X.K true):=by
 intro i s o H x y v u Q I l k h;obtain⟨p,m,r,n,rfl,rfl,hs,al,q⟩:=h;obtain rfl:v=Value.ref p:=l;obtain rfl:u=Value.ref m:=k;have hl:=al.length;rcases hs with ⟨g,hb⟩ | ⟨g,hb⟩
 ·obtain⟨us,d,a,_⟩:=I.list g;obtain⟨f,c,b,_⟩:=I.list hb;have:=SeqAt.RcNeAt.lists (A:=X.A) (s:=s) (e:=λ_=>true) a.isList b.isList (by rw[List.size_toArray,List.size_toArray,<- d.length,<- c.length];exact hl) δ (Hg I δ al d c);rw[show(List.range us.toArray.size).all (λ_=>true)=true from by rw[List.all_eq_true];intros;rfl]at this;exact this _ _ _ _ ⟨.bl _,H,I,rfl,q⟩
 ·obtain⟨us,d,a,_⟩:=I.tuple g;obtain⟨f,c,b,_⟩:=I.tuple hb;have j:us.toArray.size=f.toArray.size:=by rw[List.size_toArray,List.size_toArray,<- d.length,<- c.length];exact hl
  have:=SeqAt.RcNeAt.tuples (A:=X.A) (s:=s) (e:=λ_=>true) a b δ (Hg I δ al d c);rw[show(List.range (min us.toArray.size f.toArray.size)).all (λ_=>true)=true from by rw[List.all_eq_true];intros;rfl,j]at this;simp only[beq_self_eq_true,Bool.and_self]at this;exact this _ _ _ _ ⟨.bl _,H,I,rfl,q⟩
theorem Zfx{K:aC}{c:Bool}{H:Hp}{Q:VK}{a b:AH}{xs d:List V}(hs:(cB K H a xs/\cB K H b d)\/(fY K H a xs/\fY K H b d))(al:Al (Dq K H 6) xs d)(q:Q (.bl (!c)) H):Zat K c (.ref a) (.ref b) H Q:=⟨a,b,xs,d,rfl,rfl,hs,al,q⟩
end
end G
namespace G
open PySem L2
def Zpe(K:aC):V->V->Hp->VK->Prop:=λx y H Q=>∃p xs i v,x=.ref p/\y=.int i/\cB K H p xs/\0<=i/\XM xs i=some v/\Q v H
theorem Zrx{X:Cx}:ZBu X (Zpe X.K):=by
 intro c s n H x y v u Q I g e h;obtain⟨p,o,i,z,rfl,rfl,hq,b,l,q⟩:=h;cases g;obtain⟨t,rfl⟩:=e;obtain⟨f,r,d,hz⟩:=I.list hq;obtain⟨j,h1,h2,h3,h4,h5⟩:=RD l;obtain⟨w,m,a⟩:=r.get h2;have hl:=r.length;have hn:=Jl;have k:i.toNat=j:=by
  rw[seqIndex_of b h5]at h1;exact Option.some.inj h1
 exact wpAny_getItem_list d.isList b δ (by rw[k];simpa using m) ⟨z,H,I,a,q⟩
theorem Zyw{K:aC}{i:Nat}{p:AH}{xs:List V}{k:Nat}{c x:Int}{f:Int->Int->Int}{n:L2.St->Hp->Prop}{r:VK}{b ct:L2.St->Hp->Prop}{σ:L2.St}{H:Hp}(e:σ[i]? =some (↑p))(h1:H p=some (.lst xs))(h2:xs[k]? =some (.int x))(h:n σ (upd H p (.lst (xs.set k (.int (f x c)))))):
  Zp0 (ak i) (tC (.int (k:Int))) (tC (.int c)) (Zpe K) (ipI f) Dn ⟨n,r,b,ct⟩ σ H:=
 ⟨_,e,p,xs,(k:Int),_,rfl,rfl,cB.of h1,δ,jO h2,x,c,rfl,rfl,p,xs,(k:Int),k,rfl,rfl,h1,uw (cZ h2).1,h⟩
end G
local macro_rules | `(tactic| walk_at "g2")=>`(tactic| with_reducible first | refine G.rN ?_ | refine G.Zyq ?_ | refine G.U9 ?_ | refine G.Zym ?_ | refine G.Va ?_ | refine G.i_C ?_ | refine G.Zjm ?_ | refine G.ZCp ?_ | refine G.i_B ?_ | refine G.Zyb ?_ | refine G.ZAt ?_ | refine G.ZB6 ?_ | refine G.ZAu ?_ | refine G.Zwk ?_ | refine G.Zyx ?_ | refine G.Zye ?_ | refine G.ZB1 ?_ | refine G.ZB7 ?_ | refine G.i_U ?_ | refine G.ZB5 ?_ | refine G.ZB4 ?_ | refine G.Zyp ?_ | refine G.ZAx ?_ | refine G.ZAw ?_ | refine G.ZAy ?_ | refine G.Zyl ?_ | refine G.Zyk ?_ | refine G.Zyj ?_ | refine G.Zv2 ?_ | refine G.Zv1 ?_ | refine G.Zv0 ?_ | refine G.Zjo ?_ | refine G.Zck ?_ | refine G.Zv8 ?_ | refine G.Zv9 ?_ | refine G.ZAv ?_ | refine G.Zyu ?_ | refine G.ZAz ?_ | refine G.ZAq ?_ | refine G.Zyv ?_ | refine G.ZD3 ?_ | refine G.Zyh ?_ | refine G.ZB3 ?_ | refine G.Zyc ?_ | refine G.Zyg ?_ | refine G.Zrg ?_ | refine G.Zyd ?_ | refine G.ZCr ?_ | refine G.ZCq ?_ | refine G.ZD2 ?_ | refine G.ZB2 ?_ | refine G.ZCu ?_ | refine G.ZCt ?_ | refine G.ZCo ?_ | refine G.ZCn ?_ | refine G.ZCm ?_ | refine G.Zjl ?_ | refine G.ZCl ?_ | refine G.ZCk ?_ | refine G.ZCj ?_ | refine G.ZCi ?_ | refine G.ZCh ?_ | refine G.ZCg ?_ | refine G.ZD1 ?_ | refine G.Zyo ?_ | refine G.Zfw ?_ | refine G.Zva ?_ | refine G.ZD0 ?_ | refine G.ZCz ?_ | refine G.ZCy ?_ | refine G.ZCx ?_ | refine G.ZCw ?_ | refine G.Gh ?_ | refine G.Zvc ?_ | refine G.Zuz ?_ | refine G.Zvd ?_ | refine G.ZAr ?_ | refine G.Zyn ?_ | refine G.Zyf ?_ | refine G.Zv3 ?_ | refine G.ZAs ?_ | refine G.Zyt ?_ | refine G.Zrj ?_ | refine G.Zyr ?_ | refine G.Zyi ?_ | refine G.Zjq ?_ | refine G.Zfv ?_ | refine G.Zjp ?_ | refine G.Zy9 ?_ | refine G.ZCs ?_ | refine G.Zya ?_ | refine G.Zwj ?_ | refine G.ZCv ?_ | refine G.Zv7 ?_ | refine G.Zys ?_)
local macro_rules | `(tactic| walk_at "g1")=>`(tactic| first | (with_reducible refine G.Kz ?_) | walk_at "g2")
local macro_rules | `(tactic| walk_at "ne")=>`(tactic| first | assumption | (exact Ne.symm (by assumption)) | exact L2.aH (by assumption) (by assumption) | exact Ne.symm (L2.aH (by assumption) (by assumption)) | exact Nat.ne_of_lt (by assumption))
local macro_rules | `(tactic| walk_at "hp")=>`(tactic| first | assumption | exact L2.aq | (refine Eq.trans (L2.aD ?hne) ?_;(case hne=>walk_at "ne");walk_at "hp"))
local macro_rules | `(tactic| walk_at"d")=>`(tactic| first | omega | decide | (show (_:Int)<_;decide) | exact ⟨ε,ε⟩ | exact ⟨ε,ε,ε⟩ | (unfold L2.VH;omega) | exact .inl (by unfold L2.VH;omega))
local macro_rules | `(tactic| walk_at"e")=>`(tactic| repeat (first | walk_at "g1" | ((with_reducible refine G.i_I ?hc ?_);(case hc=>walk_at"d"))))
local macro_rules | `(tactic| walk_at"s")=>`(tactic| repeat (first | walk_at "g2" | ((with_reducible refine G.i_I ?hc ?_);(case hc=>walk_at"d"))))
local macro_rules | `(tactic| walk_at"c")=>`(tactic| simp only [List.map_cons,List.map_nil,G.pick,List.getElem?_cons_zero,List.getElem?_cons_succ])
local macro_rules | `(tactic| apply $e)=>`(tactic| (walk_at"e";refine $e))
local macro_rules | `(tactic| exists $e,*)=>`(tactic| (walk_at"e";refine⟨$e,*, ?_⟩))
local macro_rules | `(tactic| ext)=>`(tactic| walk_at"e")
local macro_rules | `(tactic| left)=>`(tactic| walk_at"s")
local macro_rules | `(tactic| right)=>`(tactic| (have h2:=(Except.ok.inj h);rw[<- (Prod.mk.inj h2).2]))
namespace K28
open PySem L2 G
def o7(birth:Int)(bulk:Int)(tone:Int)(load:Int)(fa:AH):List (Str×V):=[("birth",.int birth),("bulk",.int bulk),("tone",.int tone),("load",.int load),("fields",.ref fa)]
theorem iy{birth:Int}{bulk:Int}{tone:Int}{load:Int}{fa:AH}:List.lookup ("birth":Str) (o7 birth bulk tone load fa)=some (.int birth:V):=rfl
theorem Ih{birth:Int}{bulk:Int}{tone:Int}{load:Int}{fa:AH}:List.lookup ("bulk":Str) (o7 birth bulk tone load fa)=some (.int bulk:V):=rfl
theorem XJ{birth:Int}{bulk:Int}{tone:Int}{load:Int}{fa:AH}:List.lookup ("tone":Str) (o7 birth bulk tone load fa)=some (.int tone:V):=rfl
theorem zW{birth:Int}{bulk:Int}{tone:Int}{load:Int}{fa:AH}:List.lookup ("load":Str) (o7 birth bulk tone load fa)=some (.int load:V):=rfl
theorem lY{birth:Int}{bulk:Int}{tone:Int}{load:Int}{fa:AH}:List.lookup ("fields":Str) (o7 birth bulk tone load fa)=some (.ref fa:V):=rfl
theorem Vn{birth:Int}{bulk:Int}{tone:Int}{load:Int}{fa:AH}(y:Int):cJ "tone" (.int y) (o7 birth bulk tone load fa)=o7 birth bulk y load fa:=rfl
theorem Vo{birth:Int}{bulk:Int}{tone:Int}{load:Int}{fa:AH}(y:Int):cJ "load" (.int y) (o7 birth bulk tone load fa)=o7 birth bulk tone y fa:=rfl
theorem Zsh{birth:Int}{bulk:Int}{tone:Int}{load:Int}{fa:AH}:(cJ "fields" (.ref fa) (cJ "load" (.int load) (cJ "tone" (.int tone) (cJ "bulk" (.int bulk) (cJ "birth" (.int birth) [])))))=o7 birth bulk tone load fa:=rfl
theorem xm{birth:Int}{bulk:Int}{tone:Int}{load:Int}{fa:AH}:List.lookup ("units":Str) (o7 birth bulk tone load fa)=none:=rfl
theorem Jp{birth:Int}{bulk:Int}{tone:Int}{load:Int}{fa:AH}:List.lookup ("has_field":Str) (o7 birth bulk tone load fa)=none:=rfl
def lV(room:Int)(ca:AH)(used:Int)(born:Int):List (Str×V):=[("room",.int room),("cells",.ref ca),("used",.int used),("born",.int born)]
theorem Xo{room:Int}{ca:AH}{used:Int}{born:Int}:List.lookup ("room":Str) (lV room ca used born)=some (.int room:V):=rfl
theorem bT{room:Int}{ca:AH}{used:Int}{born:Int}:List.lookup ("cells":Str) (lV room ca used born)=some (.ref ca:V):=rfl
theorem mL{room:Int}{ca:AH}{used:Int}{born:Int}:List.lookup ("used":Str) (lV room ca used born)=some (.int used:V):=rfl
theorem Xp{room:Int}{ca:AH}{used:Int}{born:Int}:List.lookup ("born":Str) (lV room ca used born)=some (.int born:V):=rfl
theorem Gi{room:Int}{ca:AH}{used:Int}{born:Int}(y:Int):cJ "used" (.int y) (lV room ca used born)=lV room ca y born:=rfl
theorem Vb{room:Int}{ca:AH}{used:Int}{born:Int}(y:Int):cJ "born" (.int y) (lV room ca used born)=lV room ca used y:=rfl
theorem Zrq{room:Int}{ca:AH}{used:Int}{born:Int}:(cJ "born" (.int born) (cJ "used" (.int used) (cJ "cells" (.ref ca) (cJ "room" (.int room) []))))=lV room ca used born:=rfl
theorem Xl{room:Int}{ca:AH}{used:Int}{born:Int}:List.lookup ("make":Str) (lV room ca used born)=none:=rfl
theorem Zcm{room:Int}{ca:AH}{used:Int}{born:Int}:List.lookup ("lay":Str) (lV room ca used born)=none:=rfl
theorem Xn{room:Int}{ca:AH}{used:Int}{born:Int}:List.lookup ("back":Str) (lV room ca used born)=none:=rfl
theorem Xm{room:Int}{ca:AH}{used:Int}{born:Int}:List.lookup ("free":Str) (lV room ca used born)=none:=rfl
theorem Gj{room:Int}{ca:AH}{used:Int}{born:Int}:List.lookup ("there":Str) (lV room ca used born)=none:=rfl
def UG(lk:AH)(tl:Int):List (Str×V):=[("looking",.ref lk),("tells",.int tl)]
theorem pM{lk:AH}{tl:Int}:List.lookup ("looking":Str) (UG lk tl)=some (.ref lk:V):=rfl
theorem Gf{lk:AH}{tl:Int}:List.lookup ("tells":Str) (UG lk tl)=some (.int tl:V):=rfl
theorem Zr7{lk:AH}{tl:Int}:(cJ "tells" (.int tl) (cJ "looking" (.ref lk) []))=UG lk tl:=rfl
def Zfz(nm:Str)(sa:AH):List (Str×V):=[("name",.str nm),("slots",.ref sa)]
theorem rO{nm:Str}{sa:AH}:List.lookup ("slots":Str) (Zfz nm sa)=some (.ref sa:V):=rfl
theorem Zrt{nm:Str}{sa:AH}:(cJ "slots" (.ref sa) (cJ "name" (.str nm) []))=Zfz nm sa:=rfl
def DG(hp:AH)(ki:AH)(hl:AH)(nm:AH)(sw:AH):List (Str×V):=[("heap",.ref hp),("kind",.ref ki),("hands",.ref hl),("names",.ref nm),("sweeper",.ref sw)]
theorem bw{hp:AH}{ki:AH}{hl:AH}{nm:AH}{sw:AH}:List.lookup ("heap":Str) (DG hp ki hl nm sw)=some (.ref hp:V):=rfl
theorem mY{hp:AH}{ki:AH}{hl:AH}{nm:AH}{sw:AH}:List.lookup ("kind":Str) (DG hp ki hl nm sw)=some (.ref ki:V):=rfl
theorem fK{hp:AH}{ki:AH}{hl:AH}{nm:AH}{sw:AH}:List.lookup ("hands":Str) (DG hp ki hl nm sw)=some (.ref hl:V):=rfl
theorem jP{hp:AH}{ki:AH}{hl:AH}{nm:AH}{sw:AH}:List.lookup ("names":Str) (DG hp ki hl nm sw)=some (.ref nm:V):=rfl
theorem aW{hp:AH}{ki:AH}{hl:AH}{nm:AH}{sw:AH}:List.lookup ("sweeper":Str) (DG hp ki hl nm sw)=some (.ref sw:V):=rfl
theorem Zm1{hp:AH}{ki:AH}{hl:AH}{nm:AH}{sw:AH}:(cJ "sweeper" (.ref sw) (cJ "names" (.ref nm) (cJ "hands" (.ref hl) (cJ "kind" (.ref ki) (cJ "heap" (.ref hp) [])))))=DG hp ki hl nm sw:=rfl
def cI(se:Int)(ph:Str)(gr:AH)(lo:Int)(b:Int)(at_:Int)(st:Int)(d:Int)(ls:Int)(a:Int)(c:V):List (Str×V):=[("sense",.int se),("phase",.str ph),("grey",.ref gr),("looked",.int lo),("turn",.int b),("at",.int at_),("stop",.int st),("walks",.int d),("looks",.int ls),("passes",.int a),("loss",c)]
theorem oM{se:Int}{ph:Str}{gr:AH}{lo:Int}{b:Int}{at_:Int}{st:Int}{d:Int}{ls:Int}{a:Int}{c:V}:List.lookup ("sense":Str) Ω=some (.int se:V):=rfl
theorem eF{se:Int}{ph:Str}{gr:AH}{lo:Int}{b:Int}{at_:Int}{st:Int}{d:Int}{ls:Int}{a:Int}{c:V}:List.lookup ("phase":Str) Ω=some (.str ph:V):=rfl
theorem mZ{se:Int}{ph:Str}{gr:AH}{lo:Int}{b:Int}{at_:Int}{st:Int}{d:Int}{ls:Int}{a:Int}{c:V}:List.lookup ("grey":Str) Ω=some (.ref gr:V):=rfl
theorem iZ{se:Int}{ph:Str}{gr:AH}{lo:Int}{b:Int}{at_:Int}{st:Int}{d:Int}{ls:Int}{a:Int}{c:V}:List.lookup ("looked":Str) Ω=some (.int lo:V):=rfl
theorem qW{se:Int}{ph:Str}{gr:AH}{lo:Int}{a:Int}{at_:Int}{st:Int}{d:Int}{ls:Int}{b:Int}{c:V}:List.lookup ("turn":Str) (cI se ph gr lo a at_ st d ls b c)=some (.int a:V):=rfl
theorem pH{se:Int}{ph:Str}{gr:AH}{lo:Int}{b:Int}{at_:Int}{st:Int}{d:Int}{ls:Int}{a:Int}{c:V}:List.lookup ("at":Str) Ω=some (.int at_:V):=rfl
theorem vX{se:Int}{ph:Str}{gr:AH}{lo:Int}{b:Int}{at_:Int}{st:Int}{d:Int}{ls:Int}{a:Int}{c:V}:List.lookup ("stop":Str) Ω=some (.int st:V):=rfl
theorem uM{se:Int}{ph:Str}{gr:AH}{lo:Int}{c:Int}{at_:Int}{st:Int}{a:Int}{ls:Int}{b:Int}{d:V}:List.lookup ("walks":Str) (cI se ph gr lo c at_ st a ls b d)=some (.int a:V):=rfl
theorem qi{se:Int}{ph:Str}{gr:AH}{lo:Int}{b:Int}{at_:Int}{st:Int}{d:Int}{ls:Int}{a:Int}{c:V}:List.lookup ("looks":Str) Ω=some (.int ls:V):=rfl
theorem sI{se:Int}{ph:Str}{gr:AH}{lo:Int}{b:Int}{at_:Int}{st:Int}{d:Int}{ls:Int}{a:Int}{c:V}:List.lookup ("passes":Str) Ω=some (.int a:V):=rfl
theorem R5{se:Int}{ph:Str}{gr:AH}{lo:Int}{c:Int}{at_:Int}{st:Int}{d:Int}{ls:Int}{b:Int}{a:V}:List.lookup ("loss":Str) (cI se ph gr lo c at_ st d ls b a)=some (a:V):=rfl
theorem Lw{se:Int}{ph:Str}{gr:AH}{lo:Int}{b:Int}{at_:Int}{st:Int}{d:Int}{ls:Int}{a:Int}{c:V}(y:Int):cJ "sense" (.int y) Ω=cI y ph gr lo b at_ st d ls a c:=rfl
theorem pG{se:Int}{ph:Str}{gr:AH}{lo:Int}{b:Int}{at_:Int}{st:Int}{d:Int}{ls:Int}{a:Int}{c:V}(y:Str):cJ "phase" (.str y) Ω=cI se y gr lo b at_ st d ls a c:=rfl
theorem Qv{se:Int}{ph:Str}{gr:AH}{lo:Int}{b:Int}{at_:Int}{st:Int}{d:Int}{ls:Int}{a:Int}{c:V}(y:AH):cJ "grey" (.ref y) Ω=cI se ph y lo b at_ st d ls a c:=rfl
theorem xR{se:Int}{ph:Str}{gr:AH}{lo:Int}{b:Int}{at_:Int}{st:Int}{d:Int}{ls:Int}{a:Int}{c:V}(y:Int):cJ "looked" (.int y) Ω=cI se ph gr y b at_ st d ls a c:=rfl
theorem Qs{se:Int}{ph:Str}{gr:AH}{lo:Int}{d:Int}{at_:Int}{st:Int}{c:Int}{ls:Int}{a:Int}{b:V}(y:Int):cJ "turn" (.int y) (cI se ph gr lo d at_ st c ls a b)=cI se ph gr lo y at_ st c ls a b:=rfl
theorem HN{se:Int}{ph:Str}{gr:AH}{lo:Int}{b:Int}{at_:Int}{st:Int}{d:Int}{ls:Int}{a:Int}{c:V}(y:Int):cJ "at" (.int y) Ω=cI se ph gr lo b y st d ls a c:=rfl
theorem Qt{se:Int}{ph:Str}{gr:AH}{lo:Int}{b:Int}{at_:Int}{st:Int}{d:Int}{ls:Int}{a:Int}{c:V}(y:Int):cJ "stop" (.int y) Ω=cI se ph gr lo b at_ y d ls a c:=rfl
theorem z9{se:Int}{ph:Str}{gr:AH}{lo:Int}{b:Int}{at_:Int}{st:Int}{d:Int}{ls:Int}{a:Int}{c:V}(y:Int):cJ "walks" (.int y) Ω=cI se ph gr lo b at_ st y ls a c:=rfl
theorem sH{se:Int}{ph:Str}{gr:AH}{lo:Int}{b:Int}{at_:Int}{st:Int}{d:Int}{ls:Int}{a:Int}{c:V}(y:Int):cJ "looks" (.int y) Ω=cI se ph gr lo b at_ st d y a c:=rfl
theorem xQ{se:Int}{ph:Str}{gr:AH}{lo:Int}{a:Int}{at_:Int}{st:Int}{c:Int}{ls:Int}{d:Int}{b:V}(y:Int):cJ "passes" (.int y) (cI se ph gr lo a at_ st c ls d b)=cI se ph gr lo a at_ st c ls y b:=rfl
theorem Qu{se:Int}{ph:Str}{gr:AH}{lo:Int}{b:Int}{at_:Int}{st:Int}{c:Int}{ls:Int}{a:Int}{d:V}(y:V):cJ "loss" (y) (cI se ph gr lo b at_ st c ls a d)=cI se ph gr lo b at_ st c ls a y:=rfl
theorem Zm8{se:Int}{ph:Str}{gr:AH}{lo:Int}{b:Int}{at_:Int}{st:Int}{d:Int}{ls:Int}{a:Int}{c:V}:(cJ "loss" (c) (cJ "passes" (.int a) (cJ "looks" (.int ls) (cJ "walks" (.int d) (cJ "stop" (.int st) (cJ "at" (.int at_) (cJ "turn" (.int b) (cJ "looked" (.int lo) (cJ "grey" (.ref gr) (cJ "phase" (.str ph) (cJ "sense" (.int se) [])))))))))))=cI se ph gr lo b at_ st d ls a c:=rfl
def tH(K:aC):TS:=
 (aN (iM K π χ "birth")
   (aN (iM K π Ψ "bulk")
   (aN (iM K π (ak 4) "tone")
   (aN (iM K π υ "load")
   (iM K π (bx (Zei) (fO (θ (tC .non))) Δ) "fields")))))
def zz(K:aC):TS:=
 (bG (bx ad (bx ad τ (z8 (G.mU K) (θ (aX K π "fields")))) (aX K π "bulk")))
def rE(K:aC):TS:=
 (bG (Zh8 (pU λi j=>.bl (decide (i<=j))) (pU λi j=>.bl (decide (i<j))) υ χ (z8 (G.mU K) (θ (aX K π "fields")))))
def tE(K:aC):TS:=
 (aN (iM K π χ "room")
   (aN (iM K π (fO aB) "cells")
   (aN (iM K π υ "used")
   (iM K π υ "born"))))
def BX(K:aC)(b f c:AH)(e d g a:Sp)(E:XK):TS:=
 (aN (bF (Dm b e [] E0 (θ (bx ad (aX K π "born") τ) χ Δ Ψ)) (aO 4))
   (aN (dD (bI (bx (pU λi j=>.bl (decide (j<i))) (mR b "units" d [] E0 (ak 4) aB) (mR c "free" g [] E0 π aB))) (G.Lq f E (θ (tC (.str "the room does not suffice")))) bQ)
   (aN (iM K π (aX K (ak 4) "birth") "born")
   (aN (iM K π (bx ad (aX K π "used") (mR b "units" d [] E0 (ak 4) aB)) "used")
   (bG (mR c "lay" a [] E0 π (θ (ak 4))))))))
def Fb(K:aC):TS:=
 (aN (dD (bI (bx (G.Zx9 K true) (tC .non) (aX K π "cells"))) (aN (vm (tBM K "list" vB (aX K π "cells") (θ χ)))
   (bG (bx (pU λi j=>.int (i - j)) (z8 (G.mU K) (θ (aX K π "cells"))) τ))) bQ)
   (aN (bF (tBM K "list" (G.Zl8 K) (aX K π "cells") (θ (tC .non))) (aO 2))
   (aN (bF χ (Vd (aX K π "cells") Δ Dn))
   (bG Δ))))
def Ca(K:aC)(a:AH)(b:Sp):TS:=
 (aN (bF (bx (m6 K) (aX K π "cells") χ) (aO 2))
   (aN (iM K π (bx (pU λi j=>.int (i - j)) (aX K π "used") (mR a "units" b [] E0 Δ aB)) "used")
   (aN (bF (tC .non) (Vd (aX K π "cells") χ Dn))
   (bG (aX K Δ "birth")))))
def BZ(K:aC):TS:=
 (bG (bx (pU λi j=>.int (i - j)) (aX K π "room") (aX K π "used")))
def zy(K:aC):TS:=
 (bG (G.tLC (KJ (θ (z8 (G.mU K) (θ (aX K π "cells"))))) [0] (bI (bx (G.xU) (bx (m6 K) (aX K χ "cells") π) (tC .non))) π))
def Jg(K:aC):TS:=
 (aN (dD ((Hq (bI (bx (G.Tf) χ (tC .non))) (Hq (bI (bx (pU λi j=>.bl (decide (i<j))) χ υ)) (bI (bx (pU λi j=>.bl (decide (j<=i))) χ (z8 (G.mU K) (θ (aX K π "cells")))))))) (bG (tC .non)) bQ)
   (bG (bx (m6 K) (aX K π "cells") χ)))
def EY(K:aC)(a:Sp):TS:=
 (aN (bF (aQ a [] E0 (θ π χ)) (aO 2))
   (aN (dD (bI (bx (G.Tf) Δ (tC .non))) (bG (tC .non)) bQ)
   (bG (aX K Δ "birth"))))
def Bp(K:aC)(a:Sp):TS:=
 (aN (bF (fO aB) (aO 2))
   (aN (yD (G.Zfy K (θ χ)) (Znx K 2 (Gk (aO 3) (Gk (aO 4) Zny)))
   (vm (tBM K "list" Rm Δ (θ (aQ a [] E0 (θ π (ak 4) (gj (θ Ψ))))))))
   (aN (bF (ZM) (aO 5))
   (aN (bF υ (aO 6))
   (aN (Zou (bI (bx (pU λi j=>.bl (decide (i<j))) (ak 6) (z8 (G.mU K) (θ Δ)))) (aN (bF (bx (eE K) (bx (m6 K) Δ (ak 6)) υ) (aO 7))
   (aN (bF (bx (eE K) (bx (m6 K) Δ (ak 6)) τ) (aO 8))
   (aN (bF (bx ad (ak 6) τ) (aO 6))
   (dD (tB (G.Zoz true (ak 7) (ak 5))) (aN (YC (ak 5) (ak 7) (ak 8))
   (vm (tBM K "list" Rm Δ (θ (aQ a [] E0 (θ π (aX K (bx (m6 K) (aX K π "cells") (ak 7)) "fields") (ak 8))))))) bQ)))))
   (bG (z8 (G.Zko) (θ (G.Zh6 (ak 5))))))))))
def GJ(K:aC)(a:Sp):TS:=
 (bG (G.Zoy K (G.Zfy K (θ χ)) [0,2] (bI (bx (G.xU) (aQ a [] E0 (θ Δ χ)) (tC .non))) (gj (θ χ (bx (Zpf K) Ψ (gj (θ π)))))))
def tG(K:aC):TS:=
 (aN (iM K π χ "name")
   (iM K π (bx (Zei) (fO (θ (tC .non))) Δ) "slots"))
def pZ(K:aC):TS:=
 (aN (iM K π υ "sense")
   (aN (iM K π (tC (.str "rest")) "phase")
   (aN (iM K π (fO aB) "grey")
   (aN (iM K π υ "looked")
   (aN (iM K π υ "turn")
   (aN (iM K π υ "at")
   (aN (iM K π υ "stop")
   (aN (iM K π υ "walks")
   (aN (iM K π υ "looks")
   (aN (iM K π υ "passes")
   (iM K π (tC .non) "loss")))))))))))
def rA(K:aC)(a b d:AH)(e c f:Sp):TS:=
 (aN (iM K π (Dm b c [] E0 (θ χ)) "heap")
   (aN (iM K π Δ "kind")
   (aN (iM K π (G.Zoy K (pW K Ψ) [] G.xP (Dm a e [] E0 (θ π χ))) "hands")
   (aN (iM K π (ZM) "names")
   (iM K π (Dm d f [] E0 aB) "sweeper")))))
def Zaq(K:aC):TS:=
 (bG (G.tLC (pW K (aX K π "hands")) [] G.xP (z8 (G.Vr K) (θ (aX K π "slots")))))
def wG(K:aC)(a:Sp):TS:=
 (bG (G.tLC (pW K (aX K π "hands")) [0] G.xP (aQ a [] E0 (θ (aX K χ "heap") (aX K π "slots")))))
def Bt(K:aC)(a:Sp):TS:=
 (bG (G.tLC (pW K χ) [0] G.xP (aQ a [] E0 (θ χ π))))
def Bq(K:aC):TS:=
 (bG (bx (xV) (bx (pU λi j=>.int (Builtin.bitAnd i j)) (bx (rI (λ_ j=>0<=j) λi j=>.int (i / 2 ^ j.toNat)) (aX K ai "looked") χ) τ) τ))
def Br(K:aC):TS:=
 (bG (bx (xV) (aX K χ "tone") (aX K ai "sense")))
def yW(K:aC):TS:=
 (bG (bx (rIn K false) (aX K ai "phase") (gj (θ (tC (.str "walk")) (tC (.str "lost"))))))
def Iw(K:aC)(a:Sp):TS:=
 (aN (bF ai (aO 2))
   (aN (bF (aQ a [] E0 (θ π (bx (m6 K) (aX K ac "cells") χ))) (aO 3))
   (aN (dD (bI (bx (xV) (aX K Δ "phase") (tC (.str "rest")))) (bG (tC (.str "kept"))) bQ)
   (aN (dD (bI (bx (xV) (aX K Δ "phase") (tC (.str "give")))) (bG (tIf (tB Ψ) (tC (.str "kept")) (tC (.str "doomed")))) bQ)
   (aN (dD (uL (tB Ψ)) (bG (tC (.str "pale"))) bQ)
   (bG (tIf (bI (bx (rIn K false) χ (aX K Δ "grey"))) (tC (.str "grey")) (tC (.str "dark")))))))))
def yR(K:aC)(b:AH)(c a:Sp):TS:=
 (bG (G.tLC (pW K (mR b "there" c [] E0 ac aB)) [0] G.xP (aQ a [] E0 (θ χ π))))
def Bo(K:aC)(b a:Sp):TS:=
 (aN (bF (bx (m6 K) (aX K ac "cells") χ) (aO 2))
   (aN (bF (aQ b [] E0 (θ ac (aX K Δ "fields"))) (aO 3))
   (bG (gj (θ χ (aX K Δ "birth") (aX K Δ "bulk") (aX K Δ "load") Ψ (aQ a [] E0 (θ π χ)))))))
def Te(K:aC)(d b e:AH)(c a:Sp):TS:=
 (aN (bF ai (aO 1))
   (aN (iM K χ (bx (pU λi j=>.int (i - j)) τ (aX K χ "sense")) "sense")
   (aN (iM K χ (bx ad (aX K χ "turn") τ) "turn")
   (aN (iM K χ (tC (.str "walk")) "phase")
   (aN (iM K χ (fO aB) "grey")
   (aN (iM K χ (G.Lr (mR b "at_begin" c [] E0 (aX K (aX K π "kind") "looking") (θ (z8 (G.mU K) (θ (aX K π "hands"))))) (G.Lr (mR d "at_begin" a [] E0 (aX K (aX K π "kind") "looking") (θ (z8 (G.mU K) (θ (aX K π "hands"))))) (mR e "at_begin" a [] E0 (aX K (aX K π "kind") "looking") (θ (z8 (G.mU K) (θ (aX K π "hands"))))))) "looked")
   (aN (iM K χ υ "walks")
   (aN (iM K χ υ "looks")
   (iM K χ υ "passes")))))))))
def Zap(K:aC)(b a:Sp):TS:=
 (aN (bF ai (aO 2))
   (aN (bF (aQ b [] E0 (θ ac χ)) (aO 3))
   (aN (dD ((Hq (bI (bx (Rk) (aX K Δ "phase") (tC (.str "walk")))) (Hq (bI (bx (G.Tf) Ψ (tC .non))) (tB (aQ a [] E0 (θ π Ψ)))))) (bG (tC .non)) bQ)
   (aN (iM K Ψ (aX K Δ "sense") "tone")
   (aN (vm (tBM K "list" vB (aX K Δ "grey") (θ χ)))
   (bG (aX K Ψ "birth")))))))
def Ew(K:aC)(a:Sp):TS:=
 (aN (bF (fO aB) (aO 2))
   (aN (yD (pW K χ) (aO 3)
   (aN (bF (aQ a [] E0 (θ π Ψ)) (aO 4))
   (dD (bI (bx (G.xU) (ak 4) (tC .non))) (vm (tBM K "list" vB Δ (θ (ak 4)))) bQ)))
   (bG Δ)))
def Zar(K:aC)(b a:Sp):TS:=
 (aN (bF (aQ b [] E0 (θ ac χ)) (aO 3))
   (aN (dD ((Hq (bI (bx (G.Tf) Ψ (tC .non))) (bI (bx (Rk) (aX K Ψ "birth") Δ)))) (bG (tC (.bl true))) bQ)
   (bG ((R3 (bx (xV) (aX K ai "phase") (tC (.str "give"))) (Zl1 (aQ a [] E0 (θ π Ψ))))))))
def Td(K:aC)(b a:Sp)(H0:Hp):TS:=
 (bG (bx (wK) (aQ b [] E0 (θ π)) (fO (θ (G.Zow H0 (G.Zoy K (G.Zrm (G.Zov (aX K π "names"))) [0] G.xP (aQ a [] E0 (θ Δ π χ))))))))
def Iv(K:aC)(c a b:Sp):TS:=
 (aN (dD (tB (aQ c [] E0 (θ π χ Δ))) (bG (tC .non)) bQ)
   (aN (dD ((R4 (tB (aQ b [] E0 (θ π))) (uL (tB (aQ a [] E0 (θ π (bx (m6 K) (aX K ac "cells") χ))))))) (bG (tC .non)) bQ)
   (bG χ)))
def yV(K:aC)(a:Sp):TS:=
 (aN (bF (fO aB) (aO 2))
   (aN (yD (G.Zfy K (θ (aX K π "hands"))) (Znx K 2 (Gk (aO 3) (Gk (aO 4) Zny)))
   (dD (bI (bx (xV) (bx (pU λi j=>.int (Builtin.bitAnd i j)) (bx (rI (λ_ j=>0<=j) λi j=>.int (i / 2 ^ j.toNat)) χ Ψ) τ) τ)) (vm (tBM K "list" Rm Δ (θ (aQ a [] E0 (θ π (aX K (ak 4) "slots")))))) bQ))
   (bG Δ)))
def uV(K:aC)(a b:Sp):TS:=
 (aN (vm (aQ a [] E0 (θ π)))
   (aN (bF (aQ b [] E0 (θ π (aX K ai "looked"))) (aO 1))
   (bG (gj (θ (tC (.str "begin")) (aX K ai "turn") χ)))))
def uT(K:aC)(b a:Sp):TS:=
 (aN (dD (G.Zwx K (aX K ai "grey")) (bG (aQ a [] E0 (θ π))) bQ)
   (bG (aQ b [] E0 (θ π))))
def Zan(K:aC)(a:Sp):TS:=
 (aN (bF ai (aO 1))
   (aN (bF (bx (m6 K) (aX K ac "cells") (tBM K "list" Zpc (aX K χ "grey") (θ υ))) (aO 2))
   (aN (iM K χ (bx ad (aX K χ "walks") τ) "walks")
   (bG (gj (θ (tC (.str "walk")) (aX K Δ "birth") (aQ a [] E0 (θ π (aX K Δ "fields")))))))))
def pY(K:aC)(d c f:AH)(e a b g:Sp):TS:=
 (aN (bF (aQ g [] E0 (θ π Ψ)) (aO 4))
   (aN (dD ((Hq (bI (bx (xV) Ψ υ)) (uL ((Hq (tB (G.Lr (mR c "stays" a [] E0 Δ aB) (G.Lr (mR d "stays" a [] E0 Δ aB) (mR f "stays" e [] E0 Δ aB)))) (G.Zwx K (ak 4))))))) (bG (aQ b [] E0 (θ π))) bQ)
   (aN (iM K χ (bx ad (aX K χ "looks") τ) "looks")
   (aN (dD (tB (G.Lr (mR c "stays" a [] E0 Δ aB) (G.Lr (mR d "stays" a [] E0 Δ aB) (mR f "stays" e [] E0 Δ aB)))) (iM K χ (bx (pU λi j=>.int (Builtin.bitOr i j)) (aX K χ "looked") Ψ) "looked") bQ)
   (bG (gj (θ (tC (.str "look")) Ψ (ak 4))))))))
def wF(K:aC)(c b d:AH)(f h g j e a i:Sp):TS:=
 (aN (bF ai (aO 1))
   (aN (bF (aX K (aX K π "kind") "looking") (aO 2))
   (aN (bF (G.Lr (mR b "next_look" j [] E0 Δ (θ (aX K χ "looked") (z8 (G.mU K) (θ (aX K π "hands"))))) (G.Lr (mR c "next_look" f [] E0 Δ (θ (aX K χ "looked") (z8 (G.mU K) (θ (aX K π "hands"))))) (mR d "next_look" h [] E0 Δ (θ (aX K χ "looked") (z8 (G.mU K) (θ (aX K π "hands"))))))) (aO 3))
   (pY K c b d g e a i))))
def Zib(K:aC)(b c a d:Sp):TS:=
 (aN (bF ai (aO 1))
   (aN (iM K χ (z8 (G.mU K) (θ (aX K ac "cells"))) "stop")
   (aN (iM K χ υ "at")
   (aN (bF (aQ c [] E0 (θ π)) (aO 2))
   (aN (dD (bI (bx (G.xU) Δ (tC .non))) (aN (iM K χ (tC (.str "lost")) "phase")
   (aN (iM K χ Δ "loss")
   (bG (aQ d [] E0 (θ Δ))))) bQ)
   (aN (iM K χ (tC (.str "give")) "phase")
   (aN (bF (aQ b [] E0 (θ ac (aQ a [] E0 (θ π)))) (aO 3))
   (bG (gj (θ (tC (.str "cut")) (z8 (G.mU K) (θ Ψ)) Ψ))))))))))
def yX(K:aC)(b a c:Sp):TS:=
 (aN (yD (pW K (aQ a [] E0 (θ ac (aQ c [] E0 (θ π))))) (Znx K 2 (Gk (aO 1) (Gk (aO 2) Zny)))
   (aN (bF (bx (m6 K) (aX K ac "cells") χ) (aO 3))
   (dD (uL (tB (aQ b [] E0 (θ π Ψ)))) (bG (gj (θ (tC (.str "lost")) (aX K Ψ "birth") (z8 (G.Zsj K) (θ Δ))))) bQ)))
   (bG (tC .non)))
def Ey(K:aC)(b:AH)(c a:Sp):TS:=
 (aN (bF ac (aO 1))
   (bG (G.tLC (pW K (mR b "there" c [] E0 χ aB)) [0,1] (uL (tB (aQ a [] E0 (θ χ (bx (m6 K) (aX K Δ "cells") π))))) π)))
def yS(K:aC):TS:=
 (bG (gj (θ (bx (eE K) π υ) (bx (eE K) π τ) (z8 (G.Vr K) (θ (bx (eE K) π (tC (.int 2))))))))
def uU(K:aC)(a b:Sp):TS:=
 (aN (dD (bI (bx (pU λi j=>.bl (decide (i<j))) (aX K ai "at") (aX K ai "stop"))) (bG (aQ b [] E0 (θ π))) bQ)
   (bG (aQ a [] E0 (θ π))))
def yU(K:aC)(d:AH)(a b c:Sp):TS:=
 (aN (bF ai (aO 1))
   (aN (bF (aX K χ "at") (aO 2))
   (aN (iM K χ (bx ad Δ τ) "at")
   (aN (iM K χ (bx ad (aX K χ "passes") τ) "passes")
   (aN (bF (aQ b [] E0 (θ ac Δ)) (aO 3))
   (aN (dD ((Hq (bI (bx (G.Tf) Ψ (tC .non))) (tB (aQ c [] E0 (θ π Ψ))))) (bG (gj (θ (tC (.str "pass")) Δ (fO aB)))) bQ)
   (bG (gj (θ (tC (.str "back")) (mR d "back" a [] E0 ac (θ Δ)) (fO (θ Δ)))))))))))
def Zia(K:aC):TS:=
 (aN (bF ai (aO 1))
   (aN (iM K χ (tC (.str "rest")) "phase")
   (bG (gj (θ (tC (.str "end")) (aX K χ "turn") (fO (θ (aX K χ "walks") (aX K χ "looks") (aX K χ "passes"))))))))
def qZ(K:aC)(a:Sp):TS:=
 (bG (aQ a [] E0 (θ (aX K ai "loss"))))
def Zao(K:aC)(d a b c:AH)(h e g f:Sp):TS:=
 (aN (bF (G.Zt0 [("rest",d),("walk",b),("give",a),("lost",c)] (aX K ai "phase")) (aO 1))
   (bG (G.ZP 1 [(d,h),(b,g),(a,e),(c,f)] E0 (θ π))))
def MF:TS:=
 (bG (bx (pU λi j=>.int (i - j)) (bx (rI Ze1 λi j=>.int (i * 2 ^ j.toNat)) τ π) τ))
def p7:TS:=
 (bG υ)
def pq:TS:=
 (bG υ)
def sZ:TS:=
 (bG (tC (.bl true)))
def rC(a:Sp):TS:=
 (bG (aQ a [] E0 (θ χ)))
def rD:TS:=
 (aN (yD (KJ (θ Δ)) (aO 3)
   (dD (bI (bx (xV) (bx (pU λi j=>.int (Builtin.bitAnd i j)) (bx (rI (λ_ j=>0<=j) λi j=>.int (i / 2 ^ j.toNat)) χ Ψ) τ) υ)) (bG (bx (rI Ze1 λi j=>.int (i * 2 ^ j.toNat)) τ Ψ)) bQ))
   (bG υ))
def rB(a:Sp):TS:=
 (bG (aQ a [] E0 (θ Δ)))
def zx:TS:=
 (bG (tC (.bl false)))
def tD(K:aC):TS:=
 (aN (iM K π χ "looking")
   (iM K π Δ "tells"))
def Eu(K:aC):TS:=
 (bG (aX K (bx (m6 K) (aX K π "hands") χ) "slots"))
def Jf(K:aC)(b:AH)(c a:Sp)(E:XK):TS:=
 (aN (bF (aQ c [] E0 (θ ac (bx (m6 K) (aQ a [] E0 (θ π χ)) Δ))) (aO 3))
   (aN (dD (bI (bx (G.Tf) Ψ (tC .non))) (G.Lq b E (θ (tC (.str "the slot holds no cell")))) bQ)
   (bG Ψ)))
def Bs(K:aC)(b a:AH)(c d:Sp)(E:XK):TS:=
 (aN (bF (aQ d [] E (θ π χ Δ)) (aO 4))
   (aN (dD (uL (tB (mR b "has_field" c [] E0 (ak 4) (θ Ψ)))) (G.Lq a E (θ (tC (.str "the cell does not have the field")))) bQ)
   (bG (aX K (ak 4) "fields"))))
def wB(K:aC):TS:=
 (aN (dD (bI (bx (xV) (bx (pU λi j=>.int (Builtin.bitAnd i j)) (aX K (aX K π "kind") "tells") τ) υ)) (bG (fO aB)) bQ)
   (bG (fO (θ χ))))
def wC(K:aC)(a:Sp):TS:=
 (aN (dD ((Hq (bI (bx (xV) (bx (pU λi j=>.int (Builtin.bitAnd i j)) (aX K (aX K π "kind") "tells") (tC (.int 2))) υ)) (tB (aQ a [] E0 (θ π χ))))) (bG (fO aB)) bQ)
   (bG (fO (θ Δ))))
def IW(K:aC)(c:AH)(b d a:Sp)(E:XK):TS:=
 (aN (bF (aQ a [] E0 (θ π (bx (eE K) χ τ))) (aO 2))
   (aN (bF (bx (eE K) χ (tC (.int 3))) (aO 3))
   (aN (bF (bx (eE K) χ (tC (.int 4))) (aO 4))
   (aN (bF (mR c "make" b [] E ac (θ Ψ (ak 4) (aX K ai "sense"))) (aO 5))
   (aN (bF (ak 5) (Vd Δ (bx (eE K) χ (tC (.int 2))) Dn))
   (bG (gj (θ (tC (.str "made")) (aQ d [] E0 (θ ac (ak 5))) (fO aB)))))))))
def Mz(K:aC)(c b a:Sp)(E:XK):TS:=
 (aN (bF (bx (eE K) χ τ) (aO 2))
   (aN (bF (bx (eE K) χ (tC (.int 3))) (aO 3))
   (aN (bF (bx (eE K) χ (tC (.int 4))) (aO 4))
   (aN (bF (bx (m6 K) (aQ b [] E (θ π Δ Ψ (ak 4))) (ak 4)) (aO 5))
   (aN (bF (ak 5) (Vd (aQ a [] E0 (θ π Δ)) (bx (eE K) χ (tC (.int 2))) Dn))
   (bG (gj (θ (tC (.str "got")) (aQ c [] E0 (θ ac (ak 5))) (fO aB)))))))))
def My(K:aC)(f d e a c b:Sp)(E:XK):TS:=
 (aN (bF (bx (eE K) χ τ) (aO 2))
   (aN (bF (bx (eE K) χ (tC (.int 3))) (aO 3))
   (aN (bF (aQ d [] E (θ π Δ (bx (eE K) χ (tC (.int 2))) Ψ)) (aO 4))
   (aN (bF (bx (m6 K) (ak 4) Ψ) (aO 5))
   (aN (bF (bx (m6 K) (aQ a [] E0 (θ π Δ)) (bx (eE K) χ (tC (.int 4)))) (aO 6))
   (aN (bF (ak 6) (Vd (ak 4) Ψ Dn))
   (aN (bF (aQ e [] E0 (θ π (bx (wK) (aQ b [] E0 (θ π (ak 5))) (aQ c [] E0 (θ π Δ (ak 6)))))) (aO 7))
   (bG (gj (θ (tC (.str "put")) (aQ f [] E0 (θ ac (ak 5))) (ak 7)))))))))))
def Je(K:aC)(b a:Sp):TS:=
 (aN (bF (aQ a [] E0 (θ π (bx (eE K) χ τ))) (aO 2))
   (aN (bF (bx (m6 K) Δ (bx (eE K) χ (tC (.int 3)))) (aO 3))
   (aN (bF Ψ (Vd Δ (bx (eE K) χ (tC (.int 2))) Dn))
   (bG (gj (θ (tC (.str "copied")) (aQ b [] E0 (θ ac Ψ)) (fO aB)))))))
def Jc(K:aC)(b a:Sp):TS:=
 (aN (bF (aQ a [] E0 (θ π (bx (eE K) χ τ))) (aO 2))
   (aN (bF (bx (m6 K) Δ (bx (eE K) χ (tC (.int 2)))) (aO 3))
   (aN (bF (tC .non) (Vd Δ (bx (eE K) χ (tC (.int 2))) Dn))
   (bG (gj (θ (tC (.str "dropped")) (aQ b [] E0 (θ ac Ψ)) (fO aB)))))))
def Jb(K:aC)(d c a b:Sp):TS:=
 (aN (bF (bx (eE K) χ τ) (aO 2))
   (aN (bF (bx (eE K) χ (tC (.int 3))) (aO 3))
   (aN (bF (bx (m6 K) (aQ a [] E0 (θ π Δ)) (bx (eE K) χ (tC (.int 2)))) (aO 4))
   (aN (bF (ak 4) (Vd (aQ a [] E0 (θ π Ψ)) (bx (eE K) χ (tC (.int 4))) Dn))
   (aN (bF (aQ c [] E0 (θ π (aQ b [] E0 (θ π Δ (ak 4))))) (aO 5))
   (bG (gj (θ (tC (.str "given")) (aQ d [] E0 (θ ac (ak 4))) (ak 5)))))))))
def Ez(K:aC)(a:Sp)(E:XK):TS:=
 (aN (bF (aQ a [] E (θ π (bx (eE K) χ τ) (bx (eE K) χ (tC (.int 2))))) (aO 2))
   (aN (bF (aX K Δ "load") (aO 3))
   (aN (iM K Δ (bx (eE K) χ (tC (.int 3))) "load")
   (bG (gj (θ (tC (.str "wrote")) Ψ (fO aB)))))))
def IK(K:aC)(a:Sp)(E:XK):TS:=
 (aN (bF (aQ a [] E (θ π (bx (eE K) χ τ) (bx (eE K) χ (tC (.int 2))))) (aO 2))
   (bG (gj (θ (tC (.str "read")) (aX K Δ "load") (fO aB)))))
def IV(K:aC)(b a:Sp)(E:XK):TS:=
 (aN (bF (bx (eE K) χ τ) (aO 2))
   (aN (bF (bx (eE K) χ (tC (.int 2))) (aO 3))
   (aN (bF (aX K (aQ b [] E (θ π Δ Ψ)) "birth") (aO 4))
   (aN (YC (aX K π "names") (bx (eE K) χ (tC (.int 3))) (gj (θ (bx (m6 K) (aQ a [] E0 (θ π Δ)) Ψ) (ak 4))))
   (bG (gj (θ (tC (.str "named")) (ak 4) (fO aB))))))))
def Iz(K:aC)(d c b a:Sp)(E:XK):TS:=
 (aN (bF (aQ b [] E (θ π (bx (eE K) χ (tC (.int 3))))) (aO 2))
   (aN (bF Δ (Vd (aQ a [] E0 (θ π (bx (eE K) χ τ))) (bx (eE K) χ (tC (.int 2))) Dn))
   (aN (bF (aQ c [] E0 (θ π (fO (θ Δ)))) (aO 3))
   (bG (gj (θ (tC (.str "sought")) (aQ d [] E0 (θ ac Δ)) Ψ))))))
def wD(K:aC)(b:AH)(a:Sp)(E:XK):TS:=
 (aN (dD (tB (ZL χ (aX K π "names"))) (G.Lq b E (θ (tC (.str "the weak name was never given")))) bQ)
   (aN (bF (bx (eE K) (R1 (aX K π "names") χ) υ) (aO 2))
   (aN (bF (bx (eE K) (R1 (aX K π "names") χ) τ) (aO 3))
   (aN (dD (tB (aQ a [] E0 (θ π Δ Ψ))) (bG (tC .non)) bQ)
   (bG Δ)))))
def Zpa(K:aC)(p s t n o r k m q l:AH)(f g i e d j c h a b:Sp)(E:XK):TS:=
 (aN (bF (G.Zt0 [("make",o),("get",t),("put",k),("copy",p),("drop",s),("give",n),("write",l),("read",m),("name",r),("seek",q)] (bx (eE K) χ υ)) (aO 2))
   (bG (G.ZP 2 [(o,d),(t,i),(k,c),(p,f),(s,g),(n,e),(l,b),(m,h),(r,j),(q,a)] E (θ π χ))))
def BW(K:aC):TS:=
 (aN (dD (bI (bx (pU λi j=>.bl (decide (i<j))) χ (z8 (G.mU K) (θ π)))) (bG (bx (m6 K) π χ)) bQ)
   (bG υ))
def BR:TS:=
 (bG (bx ρ (bx ρ (bx (rI VH λi j=>.int (i * j)) (bx ρ π χ) (tC (.int 48271))) χ) Δ))
def Bu:TS:=
 (aN (bF (tC (.str "abcdefghijklmnopqrstuvwxyz")) (aO 2))
   (aN (bF (bx ad τ (bx ρ π (tC (.int 12)))) (aO 3))
   (aN (bF (bx ρ (bx (rI Pb λi j=>.int (i / j)) π (tC (.int 12))) Ψ) (aO 4))
   (aN (bF (bx (Zpd) Δ (bx ρ (bx (rI Pb λi j=>.int (i / j)) π (tC (.int 5))) (tC (.int 26)))) (aO 5))
   (aN (bF (bx (Zpd) Δ (bx ρ (bx ad (bx (rI Pb λi j=>.int (i / j)) π (tC (.int 7))) (bx (rI VH λi j=>.int (i * j)) (tC (.int 5)) χ)) (tC (.int 26)))) (aO 6))
   (bG (bx (G.Zpg) (bx (G.Zpg) (bx (G.Zl7) (ak 5) (ak 4)) (ak 6)) (bx (G.Zl7) (ak 5) (bx (pU λi j=>.int (i - j)) (bx (pU λi j=>.int (i - j)) Ψ τ) (ak 4))))))))))
def zj(K:aC)(c a b:Sp):TS:=
 (aN (bF (aQ c [] E0 (θ π τ)) (aO 1))
   (aN (bF (fO aB) (aO 2))
   (aN (yD (KJ (θ (bx ad τ (aQ a [] E0 (θ χ (tC (.int 104729)) (tC (.int 5))))))) (aO 3)
   (aN (bF (tC (.int 3)) (aO 4))
   (aN (dD (bI (bx (xV) (bx ρ χ (tC (.int 3))) τ)) (bF (bx ad (tC (.int 3)) (aQ a [] E0 (θ (bx ad χ (bx (rI VH λi j=>.int (i * j)) (bx (rI VH λi j=>.int (i * j)) (tC (.int 7)) Ψ) Ψ)) (tC (.int 224737)) (tC (.int 7))))) (aO 4)) bQ)
   (vm (tBM K "list" vB Δ (θ (gj (θ (aQ b [] E0 (θ χ Ψ)) (ak 4)))))))))
   (bG Δ))))
def By(b a:Sp):TS:=
 (aN (bF (aQ b [] E0 (θ π (tC (.int 2)))) (aO 1))
   (aN (dD (bI (bx (xV) (aQ a [] E0 (θ χ (tC (.int 7919)) (tC (.int 4)))) τ)) (bG (bx ad (tC (.int 4)) (bx ρ (bx (rI Pb λi j=>.int (i / j)) χ (tC (.int 4))) (tC (.int 60))))) bQ)
   (bG (bx (pU λi j=>.int (i - j)) (bx (rI Ze1 λi j=>.int (i ^ j.toNat)) (tC (.int 10)) (tC (.int 15))) (bx ρ χ (bx (rI Ze1 λi j=>.int (i ^ j.toNat)) (tC (.int 10)) (tC (.int 12))))))))
def BL(d c a e:AH)(b:Sp):TS:=
 (aN (dD (bI (bx (xV) (bx ρ π (tC (.int 3))) υ)) (bG (Dm a b [] E0 (θ (G.Ls c) (bx ρ (bx (rI Pb λi j=>.int (i / j)) π (tC (.int 3))) (tC (.int 4)))))) bQ)
   (aN (dD (bI (bx (xV) (bx ρ π (tC (.int 3))) τ)) (bG (Dm a b [] E0 (θ (G.Ls d) (bx ρ (bx (rI Pb λi j=>.int (i / j)) π (tC (.int 3))) (tC (.int 4)))))) bQ)
   (bG (Dm a b [] E0 (θ (G.Ls e) (bx ρ (bx (rI Pb λi j=>.int (i / j)) π (tC (.int 3))) (tC (.int 4))))))))
def BJ(K:aC)(a:Sp):TS:=
 (aN (bF (bx (m6 K) (fO (θ τ (tC (.int 2)) (tC (.int 2)) (tC (.int 3)) υ (tC (.int 8)))) (aQ a [] E0 (θ π (tC (.int 611953)) (tC (.int 6))))) (aO 3))
   (aN (bF υ (aO 4))
   (aN (dD (bI (bx (xV) (bx ρ π (tC (.int 3))) τ)) (bF (bx ρ π (tC (.int 7))) (aO 4)) bQ)
   (aN (dD (bI (bx (xV) (bx ρ π (tC (.int 3))) (tC (.int 2)))) (bF (bx ρ π (bx ad (bx (rI Ze1 λi j=>.int (i ^ j.toNat)) (tC (.int 10)) (tC (.int 12))) τ)) (aO 4)) bQ)
   (bG (gj (θ (tC (.str "make")) χ Δ Ψ (ak 4))))))))
def BK:TS:=
 (aN (bF (bx ρ π (bx (rI Ze1 λi j=>.int (i ^ j.toNat)) (tC (.int 10)) (tC (.int 60)))) (aO 1))
   (aN (dD (bI (bx (xV) (bx ρ (bx (rI Pb λi j=>.int (i / j)) π (tC (.int 7))) (tC (.int 2))) τ)) (bG (tUn (rU λi=>.int (-i)) χ)) bQ)
   (bG χ)))
def BV(K:aC)(a c d b:Sp):TS:=
 (aN (bF (aQ a [] E0 (θ π (tC (.int 104729)) (z8 (G.mU K) (θ χ)))) (aO 3))
   (aN (bF (aQ a [] E0 (θ π (tC (.int 224737)) (bx (eE K) (bx (m6 K) χ Ψ) τ))) (aO 4))
   (aN (bF (aQ a [] E0 (θ π (tC (.int 350377)) (bx (eE K) (bx (m6 K) χ Ψ) τ))) (aO 5))
   (aN (bF (aQ a [] E0 (θ π (tC (.int 479909)) (bx (m6 K) (fO (θ (tC (.int 3)) (tC (.int 8)))) (bx (rI Pb λi j=>.int (i / j)) (bx ρ π (tC (.int 5))) (tC (.int 4)))))) (aO 6))
   (aN (bF (aQ a [] E0 (θ π (tC (.int 7919)) (tC (.int 20)))) (aO 7))
   (aN (dD (bI (bx (pU λi j=>.bl (decide (i<j))) (ak 7) (tC (.int 5)))) (bG (aQ d [] E0 (θ π Ψ (ak 4)))) bQ)
   (aN (dD (bI (bx (pU λi j=>.bl (decide (i<j))) (ak 7) (tC (.int 8)))) (bG (gj (θ (tC (.str "get")) Ψ (ak 4) (ak 5) (ak 6)))) bQ)
   (aN (dD (bI (bx (pU λi j=>.bl (decide (i<j))) (ak 7) (tC (.int 11)))) (bG (gj (θ (tC (.str "put")) Ψ (ak 5) (ak 6) (ak 4)))) bQ)
   (aN (dD (bI (bx (xV) (ak 7) (tC (.int 11)))) (bG (gj (θ (tC (.str "copy")) Ψ (ak 4) (ak 5)))) bQ)
   (aN (dD (bI (bx (xV) (ak 7) (tC (.int 12)))) (bG (gj (θ (tC (.str "drop")) Ψ (ak 4)))) bQ)
   (aN (dD (bI (bx (pU λi j=>.bl (decide (i<j))) (ak 7) (tC (.int 15)))) (aN (bF (aQ a [] E0 (θ π (tC (.int 746773)) (z8 (G.mU K) (θ χ)))) (aO 8))
   (bG (gj (θ (tC (.str "give")) Ψ (ak 4) (ak 8) (aQ a [] E0 (θ π (tC (.int 882377)) (bx (eE K) (bx (m6 K) χ (ak 8)) τ))))))) bQ)
   (aN (dD (bI (bx (xV) (ak 7) (tC (.int 15)))) (bG (gj (θ (tC (.str "write")) Ψ (ak 5) (aQ c [] E0 (θ π))))) bQ)
   (aN (bF (aQ b [] E0 (θ Δ (aQ a [] E0 (θ π (tC (.int 1299709)) (tC (.int 2)))))) (aO 9))
   (aN (dD (bI (bx (pU λi j=>.bl (decide (i<j))) (ak 7) (tC (.int 18)))) (bG (gj (θ (tC (.str "name")) Ψ (ak 5) (ak 9)))) bQ)
   (bG (gj (θ (tC (.str "seek")) Ψ (ak 4) (ak 9))))))))))))))))))
def zq(K:aC)(b a:Sp):TS:=
 (aN (bF (aQ b [] E0 (θ π χ Δ)) (aO 3))
   (aN (dD ((R4 (bI (bx (xV) (bx (eE K) Ψ υ) (tC (.str "put")))) (bI (bx (xV) (bx ρ (bx (rI Pb λi j=>.int (i / j)) π (tC (.int 5))) (tC (.int 2))) υ)))) (bG (fO (θ Ψ (gj (θ (tC (.str "drop")) (bx (eE K) Ψ τ) (bx (eE K) Ψ (tC (.int 4)))))))) bQ)
   (aN (dD ((R4 (bI (bx (xV) (bx (eE K) Ψ υ) (tC (.str "get")))) (bI (bx (xV) (bx ρ (bx (rI Pb λi j=>.int (i / j)) π (tC (.int 5))) (tC (.int 2))) υ)))) (bG (fO (θ Ψ (gj (θ (tC (.str "put")) (bx (eE K) Ψ τ) (bx (eE K) Ψ (tC (.int 3))) (bx (eE K) Ψ (tC (.int 4))) (aQ a [] E0 (θ π (tC (.int 1159523)) (tC (.int 3))))))))) bQ)
   (bG (fO (θ Ψ))))))
def qG(K:aC)(a:Sp):TS:=
 (aN (yD (KJ (θ (z8 (G.mU K) (θ π)))) (aO 4)
   (aN (dD (bI (bx (xV) (ak 5) τ)) (bF (bx (wK) Ψ (fO (θ (gj (θ (tC (.str "get")) (ak 4) τ υ (bx ρ (ak 4) (tC (.int 2))))) (gj (θ (tC (.str "put")) (ak 4) υ (bx ρ (ak 4) (tC (.int 2))) (tC (.int 2))))))) (aO 3)) bQ)
   (aN (dD (bI (bx (pU λi j=>.bl (decide (j<i))) (ak 5) τ)) (bF (bx (wK) Ψ (fO (θ (gj (θ (tC (.str "make")) (ak 4) υ τ υ)) (gj (θ (tC (.str "put")) (ak 4) υ υ τ)) (gj (θ (tC (.str "drop")) (ak 4) τ))))) (aO 3)) bQ)
   (dD (bI (bx (xV) (ak 5) (tC (.int 3)))) (bF (bx (wK) Ψ (fO (θ (gj (θ (tC (.str "name")) (ak 4) υ (aQ a [] E0 (θ Δ (bx ρ (ak 4) (tC (.int 2))))))) (gj (θ (tC (.str "drop")) (ak 4) υ))))) (aO 3)) bQ))))
   (bG Ψ))
def za(K:aC)(a b:Sp):TS:=
 (aN (bF (fO aB) (aO 3))
   (aN (yD (KJ (θ (z8 (G.mU K) (θ π)))) (aO 4)
   (aN (bF (bx (wK) Ψ (fO (θ (gj (θ (tC (.str "make")) (ak 4) υ (tC (.int 2)) υ)) (gj (θ (tC (.str "make")) (ak 4) τ τ υ))))) (aO 3))
   (bF (bx (wK) Ψ (fO (θ (gj (θ (tC (.str "put")) (ak 4) υ (bx ρ (ak 4) (tC (.int 2))) τ)) (gj (θ (tC (.str "drop")) (ak 4) τ))))) (aO 3))))
   (aN (bF (aQ a [] E0 (θ χ (tC (.int 746773)) (tC (.int 4)))) (aO 5))
   (aN (dD (bI (bx (pU λi j=>.bl (decide (j<i))) (ak 5) τ)) (bF (bx (wK) Ψ (G.tLC (KJ (θ (z8 (G.mU K) (θ π)))) [] G.xP (gj (θ (tC (.str "make")) π τ υ υ)))) (aO 3)) bQ)
   (aN (bF (bx (wK) Ψ (bx (Zei) (fO (θ (tC .non))) (bx ad τ (aQ a [] E0 (θ χ (tC (.int 882377)) (tC (.int 4))))))) (aO 3))
   (qG K b))))))
def q8(K:aC)(b c a:Sp):TS:=
 (aN (bF (aQ b [] E0 (θ π (tC (.int 2)))) (aO 3))
   (aN (bF υ (aO 4))
   (aN (yD (pW K (tSl (Zx8 K) π (Pk (tC (.int 3))) (Pk (tC (.int 63))))) (aO 5)
   (aN (bF (bx ad (ak 5) (bx (rI VH λi j=>.int (i * j)) (bx (rI VH λi j=>.int (i * j)) (ak 4) (ak 4)) (tC (.int 1000003)))) (aO 6))
   (aN (dD (bI (bx (xV) (aQ a [] E0 (θ (ak 6) (tC (.int 1020379)) (tC (.int 3)))) υ)) (bF (bx (wK) Δ (bx (Zei) (fO (θ (tC .non))) (bx ad τ (aQ a [] E0 (θ (ak 6) (tC (.int 1159523)) (tC (.int 6))))))) (aO 2)) (bF (bx (wK) Δ (aQ c [] E0 (θ (ak 6) χ Ψ))) (aO 2)))
   (Zwy 4 τ (ipI λi j=>i+j)))))
   (bG (bx (wK) Δ (bx (Zei) (fO (θ (tC .non))) (bx ad (tC (.int 12)) (aQ a [] E0 (θ Ψ (tC (.int 1020379)) (tC (.int 12)))))))))))
def Bx(K:aC)(a d b c:Sp):TS:=
 (aN (bF (fO aB) (aO 2))
   (aN (dD (bI (bx (pU λi j=>.bl (decide (j<i))) (aQ b [] E0 (θ (aQ a [] E0 (θ π υ)) (tC (.int 611953)) (tC (.int 4)))) υ)) (bF (aQ c [] E0 (θ χ (aQ a [] E0 (θ π υ)) (aQ a [] E0 (θ π (tC (.int 2)))))) (aO 2)) bQ)
   (q8 K a d b)))
def wI:TS:=
 (bG ((R3 (z8 (G.Ow) (θ π (tC (.ty "int")))) (Zl1 (z8 (G.Ow) (θ π (tC (.ty "bool"))))))))
def zm(K:aC)(a:Sp):TS:=
 (aN (dD ((Hq (uL (tB (z8 (G.Ow) (θ π (tC (.ty "tuple")))))) (Hq (bI (bx (Rk) (z8 (G.mU K) (θ π)) (tC (.int 3)))) (uL (tB (z8 (G.Ow) (θ (bx (eE K) π υ) (tC (.ty "str"))))))))) (bG (tC (.bl false))) bQ)
   (aN (dD ((Hq (uL (tB (aQ a [] E0 (θ (bx (eE K) π τ))))) (uL (tB (z8 (G.Ow) (θ (bx (eE K) π (tC (.int 2))) (tC (.ty "list")))))))) (bG (tC (.bl false))) bQ)
   (aN (yD (pW K (bx (eE K) π (tC (.int 2)))) (aO 2)
   (dD (uL (tB (aQ a [] E0 (θ Δ)))) (bG (tC (.bl false))) bQ))
   (bG (bx (G.Zat K false) π χ)))))
def BP(d e c f:AH)(b:Sp):TS:=
 (aN (bF (tC .non) (aO 2))
   (aN (G.Zww (λa=>a=Value.ref d\/a=Value.ref c\/a=Value.ref e\/a=Value.ref f) (λEx=>(bF (G.Zh9 b [] Ex (θ π χ)) (aO 2))) (bF (tC .non) (aO 2)))
   (bG Δ)))
def Bv(K:aC):TS:=
 (aN (bF (ZM) (aO 3))
   (aN (yD (pW K π) (aO 4)
   (YC Ψ (bx (eE K) (ak 4) τ) (bx (eE K) (ak 4) (tC (.int 5)))))
   (aN (yD (pW K χ) (aO 5)
   (YC Ψ (ak 5) Δ))
   (bG Ψ))))
def wJ(K:aC):TS:=
 (aN (dD ((Hq (uL (tB (z8 (G.Ow) (θ π (tC (.ty "list")))))) (bI (bx (Rk) (z8 (G.mU K) (θ π)) (z8 (G.mU K) (θ χ)))))) (bG (tC (.bl false))) bQ)
   (aN (yD (KJ (θ (z8 (G.mU K) (θ χ)))) (aO 3)
   (aN (dD ((Hq (uL (tB (z8 (G.Ow) (θ (bx (m6 K) π Ψ) (tC (.ty "tuple")))))) (bI (bx (Rk) (z8 (G.mU K) (θ (bx (m6 K) π Ψ))) (tC (.int 6)))))) (bG (tC (.bl false))) bQ)
   (dD ((Hq (bI (bx (G.Zat K true) (tSl (Zti K) (bx (m6 K) π Ψ) GF (Pk (tC (.int 5)))) (tSl (Zti K) (bx (m6 K) χ Ψ) GF (Pk (tC (.int 5)))))) (bI (bx (Rk) (bx (eE K) (bx (m6 K) π Ψ) (tC (.int 5))) (R1 Δ (bx (eE K) (bx (m6 K) χ Ψ) τ)))))) (bG (tC (.bl false))) bQ)))
   (bG (tC (.bl true)))))
def yZ(K:aC)(a:Sp):TS:=
 (aN (bF (fO (θ (aX K π "sense") (aX K π "turn") (aX K π "looked"))) (aO 1))
   (aN (bF (bx (wK) χ (fO (θ (aX K π "walks") (aX K π "looks") (aX K π "passes")))) (aO 1))
   (aN (yD (pW K (bx (wK) χ (aX K π "grey"))) (aO 2)
   (dD (uL (tB (aQ a [] E0 (θ Δ)))) (bG (fO aB)) bQ))
   (bG χ))))
def uW(K:aC):TS:=
 (aN (bF (fO aB) (aO 2))
   (aN (yD (pW K π) (aO 3)
   (aN (bF (G.tLC (pW K (bx (eE K) Ψ (tC (.int 4)))) [1] G.xP (tIf (bI (bx (xV) π χ)) (tC .non) π)) (aO 4))
   (dD (bI (bx (Rk) (bx (eE K) Ψ τ) χ)) (vm (tBM K "list" vB Δ (θ (bx (Zpf K) (tSl (Zti K) Ψ GF (Pk (tC (.int 4)))) (gj (θ (ak 4) (bx (eE K) Ψ (tC (.int 5))))))))) bQ)))
   (bG Δ)))
def zp(K:aC)(b a d c:Sp):TS:=
 (aN (yD (pW K χ) (aO 4)
   (dD (bI (bx (Rk) (bx (eE K) (ak 4) (tC (.int 5))) (tC (.str "kept")))) (bG (tC (.bl false))) bQ))
   (aN (dD ((Hq (uL (tB (aQ b [] E0 (θ Ψ (gj (θ (tC (.str "end")) (bx (m6 K) Δ τ) (tSl (Zx8 K) Δ (Pk (tC (.int 3))) GF))))))) (bI (bx (Rk) (aX K ai "phase") (tC (.str "rest")))))) (bG (tC (.bl false))) bQ)
   (bG (aQ a [] E0 (θ (aQ c [] E0 (θ π)) χ (aQ d [] E0 (θ χ (fO aB) (tC (.str "")))))))))
def wH(K:aC)(b a e f d g c:Sp):TS:=
 (aN (bF χ (aO 5))
   (aN (bF (gj (θ (tC (.str "pass")) Δ (fO aB))) (aO 6))
   (aN (yD (pW K χ) (aO 7)
   (dD ((R4 (bI (bx (xV) (bx (eE K) (ak 7) υ) Δ)) (bI (bx (xV) (bx (eE K) (ak 7) (tC (.int 5))) (tC (.str "doomed")))))) (aN (bF (aQ d [] E0 (θ χ (bx (eE K) (ak 7) τ))) (aO 5))
   (aN (bF (bx (pU λi j=>.int (i - j)) (bx (pU λi j=>.int (i - j)) (bx (pU λi j=>.int (i - j)) Ψ τ) (z8 (G.mU K) (θ (bx (eE K) (ak 7) (tC (.int 4)))))) (bx (eE K) (ak 7) (tC (.int 2)))) (aO 3))
   (bF (gj (θ (tC (.str "back")) (bx (eE K) (ak 7) τ) (fO (θ Δ)))) (aO 6)))) bQ))
   (aN (dD ((Hq (uL (tB (aQ b [] E0 (θ (ak 4) (ak 6))))) (Hq (uL (tB (aQ e [] E0 (θ (aX K ac "used"))))) (bI (bx (Rk) (aX K ac "used") Ψ))))) (bG (tC (.bl false))) bQ)
   (aN (dD ((R4 (bI (bx (xV) (bx (eE K) (ak 6) υ) (tC (.str "back")))) ((Hq (bI (bx (G.xU) (bx (m6 K) (aX K ac "cells") Δ) (tC .non))) (bI (bx (G.xU) (aQ g [] E0 (θ ac Δ)) (tC .non))))))) (bG (tC (.bl false))) bQ)
   (aN (dD (bI (bx (Rk) (aX K ai "phase") (tC (.str "give")))) (bG (tC (.bl false))) bQ)
   (bG (aQ a [] E0 (θ (aQ c [] E0 (θ π)) (ak 5) (aQ f [] E0 (θ (ak 5) (fO aB) (tC (.str "")))))))))))))
def zb(K:aC)(d b e a c:Sp):TS:=
 (aN (bF (aQ d [] E0 (θ (aQ c [] E0 (θ π)) (fO aB) (tC (.str "")))) (aO 1))
   (aN (bF (fO aB) (aO 2))
   (aN (yD (pW K (z8 (G.Zkp) (θ (aX K π "names")))) (aO 3)
   (aN (bF (R1 (aX K π "names") Ψ) (Znx K 2 (Gk (aO 4) (Gk (aO 5) Zny))))
   (aN (bF (bx (xV) (Zh7 χ (ak 5) (tC (.str "doomed"))) (tC (.str "doomed"))) (aO 6))
   (aN (bF (aQ b [] E0 (θ π (ak 4) (ak 5))) (aO 7))
   (aN (dD ((Hq ((R4 (bI (bx (G.YF) (ak 7) (tC (.bl true)))) (bI (bx (G.YF) (ak 7) (tC (.bl false)))))) (bI (bx (Rk) (ak 7) (ak 6))))) (bG (tC (.bl false))) bQ)
   (aN (dD (tB (ak 6)) (bF (tC .non) (aO 4)) bQ)
   (vm (tBM K "list" vB Δ (θ (ak 4))))))))))
   (bG (bx (G.Zat K false) (aQ a [] E0 (θ π)) (bx (wK) (aQ e [] E0 (θ π)) (fO (θ Δ))))))))
def uX(K:aC)(b a:Sp):TS:=
 (aN (bF (G.tLC (pW K χ) [] (bI (bx (xV) (bx (eE K) π (tC (.int 5))) (tC (.str "doomed")))) (bx (eE K) π υ)) (aO 2))
   (aN (dD (bI (bx (G.Zau K false) Δ (fO aB))) (bG (tC (.bl true))) bQ)
   (bG ((R3 (bx (G.Tf) (aQ b [] E0 (θ π (bx (m6 K) Δ (tUn (rU λi=>.int (-i)) τ)))) (tC .non)) (R3 (bx (G.Zat K false) (aQ a [] E0 (θ π)) χ) (bx (G.Zau K false) (aX K ai "grey") (fO aB))))))))
def Bw(K:aC)(e d h f b k c a g:Sp):TS:=
 (aN (bF ai (aO 2))
   (aN (dD (bI (bx (Rk) (aX K Δ "phase") (tC (.str "give")))) (aN (vm (aQ a [] E0 (θ π)))
   (bG (tC (.bl true)))) bQ)
   (aN (bF (aQ g [] E0 (θ π)) (aO 3))
   (aN (dD ((Hq (uL (tB (aQ k [] E0 (θ π Ψ)))) (uL (tB (aQ d [] E0 (θ π)))))) (bG (tC (.bl false))) bQ)
   (aN (bF (aQ c [] E0 (θ π)) (aO 4))
   (aN (bF (aQ b [] E0 (θ Δ)) (aO 5))
   (aN (bF (aX K Δ "at") (aO 6))
   (aN (bF (aX K Δ "stop") (aO 7))
   (aN (bF (aX K ac "used") (aO 8))
   (aN (bF (aQ a [] E0 (θ π)) (aO 9))
   (aN (dD ((Hq (bI (bx (G.Zau K false) (ak 5) (fO aB))) (Hq (bI (bx (Rk) (aX K Δ "stop") (ak 7))) (bI (bx (G.Zat K true) (aQ c [] E0 (θ π)) (ak 4)))))) (bG (tC (.bl false))) bQ)
   (aN (dD (bI (bx (xV) (ak 6) (ak 7))) (aN (dD ((Hq (bI (bx (Rk) (aX K Δ "at") (ak 6))) (Hq (bI (bx (G.Zau K true) (aQ b [] E0 (θ Δ)) (ak 5))) (bI (bx (Rk) (aX K ac "used") (ak 8)))))) (bG (tC (.bl false))) bQ)
   (bG ((R3 (aQ e [] E0 (θ π Ψ (ak 5) (ak 9))) (aQ d [] E0 (θ π)))))) bQ)
   (aN (Zp0 ((ak 5)) ((tC (.int 5))) (τ) (G.Zpe K) (ipI λi j=>i+j) Dn)
   (aN (dD ((Hq (uL (tB (aQ h [] E0 (θ (aX K Δ "at"))))) (Hq (bI (bx (Rk) (aX K Δ "at") (bx ad (ak 6) τ))) (bI (bx (G.Zau K true) (aQ b [] E0 (θ Δ)) (ak 5)))))) (bG (tC (.bl false))) bQ)
   (bG (aQ f [] E0 (θ π Ψ (ak 6) (ak 8) (ak 9))))))))))))))))))
def Zi9(K:aC)(b:AH)(h f d c k a e g:Sp):TS:=
 (aN (bF (bx ρ (aQ f [] E0 (θ π υ)) (tC (.int 12))) (aO 1))
   (aN (bF (aQ c [] E0 (θ π)) (aO 2))
   (aN (bF (Dm b h [] E0 (θ (aQ a [] E0 (θ π)) (aQ k [] E0 (θ χ)) (z8 (G.Vr K) (θ Δ)))) (aO 3))
   (aN (yD (pW K (aQ e [] E0 (θ π Δ))) (aO 4)
   (aN (dD (bI (bx (xV) (aX K (aX K Ψ "sweeper") "phase") (tC (.str "lost")))) (bG (tC (.bl true))) bQ)
   (dD (bI (bx (G.xU) (ak 4) (tC .non))) (vm (aQ d [] E0 (θ Ψ (ak 4)))) (dD (uL (tB (aQ g [] E0 (θ Ψ (bx ρ χ (tC (.int 3))))))) (bG (tC (.bl false))) bQ))))
   (bG (tC (.bl true)))))))
structure TxC(K:aC)(bC bA:AH):Prop where
 dz:Ij K bC
 d9:bN K bC "birth"
 nM:bN K bC "bulk"
 nJ:bN K bC "tone"
 jW:bN K bC "load"
 fL:bN K bC "fields"
 cA:Ij K bA
 pA:bN K bA "room"
 bO:bN K bA "cells"
 fG:bN K bA "used"
 nH:bN K bA "born"
 RB:EqD K bC
structure Ao(CC:AH)(H:Hp)(p fa:AH)(birth bulk tone load:Int)(fl:List V):Prop where
 o:∃dx,H p=some (.ins CC dx (o7 birth bulk tone load fa))
 f:H fa=some (.lst fl)
theorem Ao.same{a:AH}{H H':Hp}{p fa:AH}{birth bulk tone load:Int}{fl:List V}(h:Ao a H p fa birth bulk tone load fl)(s:aU H H'):Ao a H' p fa birth bulk tone load fl:=by
 obtain⟨⟨b,h1⟩,h2⟩:=h;exact⟨⟨b,s _ _ h1⟩,s _ _ h2⟩
structure HpO(CH:AH)(H:Hp)(hp ca:AH)(room used born:Int)(cs:List V):Prop where
 o:∃dx,H hp=some (.ins CH dx (lV room ca used born))
 c:H ca=some (.lst cs)
theorem Vp{a b c d e f g:Int}{x y:AH}:o7 a b c d x≠lV e y f g:=λz=>by
 have:=congrArg List.length z;cases this
def yC(a:AH):Sp:=λvs H Q E=>∃p birth many bulk tone,vs=[.ref p,.int birth,.int many,.int bulk,.int tone]/\∃dx,H p=some (.ins a dx [])/\0<=many/\many<=1000/\
 ∀fa H',H fa=none->H' p=some (.ins a dx (o7 birth bulk tone 0 fa))->H' fa=some (.lst (List.replicate many.toNat V.non))->(∀b o,H b=some o->b≠p->H' b=some o)->Q .non H'
def oE(a:AH):Sp:=λvs H Q E=>∃p,vs=[.ref p]/\∃fa birth bulk tone load fl,Ao a H p fa birth bulk tone load fl/\Q (.int (1+fl.length+bulk)) H
def yw(a:AH):Sp:=λvs H Q E=>∃p room,vs=[.ref p,.int room]/\∃dx,H p=some (.ins a dx [])/\
 ∀ca H',H ca=none->H' p=some (.ins a dx (lV room ca 0 0))->H' ca=some (.lst [])->(∀b o,H b=some o->b≠p->H' b=some o)->Q .non H'
def yx(a:AH):Sp:=λvs H Q E=>∃hp,vs=[.ref hp]/\∃ca room used born cs,HpO a H hp ca room used born cs/\Q (.int (room - used)) H
def plc(cs:List V):AD:=((List.range cs.length).filter λi=>!decide (cs[i]? =some V.non)).map λ(i:Nat)=>(i:Int)
def oA(a:AH):Sp:=λvs H Q E=>∃hp,vs=[.ref hp]/\∃ca room used born cs,HpO a H hp ca room used born cs/\cs.length<=1000/\∀l,H l=none->Q (.ref l) (upd H l (.lst ((plc cs).map V.int)))
def putN(cs:List V)(v:V):List V:=if V.non∈cs then cs.set (cs.idxOf V.non) v else cs++[v]
def Dh(K:aC)(a:AH):Sp:=λvs H Q E=>∃hp v,vs=[.ref hp,v]/\∃ca room used born cs,HpO a H hp ca room used born cs/\OkN K H cs/\cs.length<=1000/\Q (.int (cs.idxOf V.non)) (upd H ca (.lst (putN cs v)))
def uH(b a:AH):Sp:=λvs H Q E=>∃hp i,vs=[.ref hp,.int i]/\∃ca dx room used born cs p fa birth bulk tone load fl,0<=i/\H hp=some (.ins a dx (lV room ca used born))/\H ca=some (.lst cs)/\cs[i.toNat]? =↑p/\Ao b H p fa birth bulk tone load fl/\
 Q (.int birth) (upd (upd H hp (.ins a dx (lV room ca (used - (1+fl.length+bulk)) born))) ca (.lst (cs.set i.toNat V.non)))
def yu(K:aC)(c a b:AH):Sp:=λvs H Q E=>∃hp many bulk tone,vs=[.ref hp,.int many,.int bulk,.int tone]/\∃ca dx room used born cs,H hp=some (.ins a dx (lV room ca used born))/\H ca=some (.lst cs)/\OkN K H cs/\cs.length<=1000/\0<=many/\many<=1000/\
 (room - used<1+many+bulk->∀H',aU H H'->E (.ref b) none H')/\
 (1+many+bulk<=room - used->∀p fa H',H p=none->H fa=none->Fm [hp,ca] H H'->H' hp=some (.ins a dx (lV room ca (used+(1+many+bulk)) (born+1)))->H' ca=some (.lst (putN cs (.ref p)))->
  Ao c H' p fa (born+1) bulk tone 0 (List.replicate many.toNat V.non)->Q (.int (cs.idxOf V.non)) H')
section
variable {K:aC}{bC bA bU:AH}{H:Hp}{Q:VK}{E:XK}{n:ν}{bk ct:ν}
theorem Ye{p:AH}(T:TxC K bC bA)(q:∃fa birth bulk tone load fl,Ao bC H p fa birth bulk tone load fl/\Q (.int (1+fl.length+bulk)) H):zz K ξ [↑p] H:=by
 obtain⟨fa,birth,bulk,tone,load,fl,⟨⟨a,h1⟩,h2⟩,h⟩:=q;unfold zz;apply aF h1 T.dz T.fL lY ?_;apply jU (cB.of h2) ?_;apply aF h1 T.dz T.nM Ih ?_;apply h
theorem Pa{p:AH}{birth many bulk tone:Int}(T:TxC K bC bA)(q:∃dx,H p=some (.ins bC dx [])/\0<=many/\many<=1000/\
 ∀fa H',H fa=none->H' p=some (.ins bC dx (o7 birth bulk tone 0 fa))->H' fa=some (.lst (List.replicate many.toNat V.non))->(∀b o,H b=some o->b≠p->H' b=some o)->Q .non H'):
  tH K ⟨λ_ H'=>Q .non H',Q,bk,ct⟩ [↑p,some (.int birth),some (.int many),some (.int bulk),some (.int tone)] H:=by
 obtain⟨dx,hp,n,h1,h⟩:=q;unfold tH;exists p,bC,dx,[],rfl,hp,T.dz,T.d9,ε;apply⟨p,bC,dx,_,rfl,aq,T.dz,T.nM,by show 1<1000;decide,?_⟩;rw[fM];apply⟨p,bC,dx,_,rfl,aq,T.dz,T.nJ,by show 2<1000;decide,?_⟩;rw[fM];apply⟨p,bC,dx,_,rfl,aq,T.dz,T.jW,by show 3<1000;decide,?_⟩;rw[fM];apply⟨ε,λi d=>?_⟩;apply⟨i,many,_,rfl,rfl,aq,δ,δ,?_,λfa c=>?_⟩
 ·show 1 * many.toNat<=sizeLine;exact aR δ
 have f:p≠i:=aH aq d;have a:p≠fa:=aH ((aD f).trans aq) c;apply⟨p,bC,dx,_,rfl,(aD a).trans ((aD f).trans aq),T.dz,T.fL,by show 4<1000;decide,?_⟩;have m:H fa=none:=by
  have e:=c;have n1:fa≠i:=λz=>by rw[z,aq]at e;cases e
  rw[aD n1,aD a.symm]at e;exact e
 refine h fa _ m (aq.trans (congrArg (λl=>some (HO.ins bC dx l)) Zsh)) ?_ λb o hb g=>?_
 ·rw[aD a.symm,aq];have e:(List.replicate many.toNat [V.non]).flatten=List.replicate many.toNat V.non:=by
   generalize many.toNat=k
   induction k with
   | zero=>rfl
   | succ k ih=>rw[List.replicate_succ,List.replicate_succ,List.flatten_cons,ih];rfl
  rw[e]
 ·have j:upd H p (HO.ins bC dx (cJ "load" (V.int 0) (cJ "tone" (V.int tone) (cJ "bulk" (V.int bulk) (cJ "birth" (V.int birth) []))))) b=some o:=(aD g).trans hb;have n1:b≠i:=aH j d;have n2:b≠fa:=aH ((aD n1).trans j) c;rw[aD g,aD n2,aD n1];exact j
theorem OJ{p:AH}{room:Int}(T:TxC K bC bA)(q:∃dx,H p=some (.ins bA dx [])/\
 ∀ca H',H ca=none->H' p=some (.ins bA dx (lV room ca 0 0))->H' ca=some (.lst [])->(∀b o,H b=some o->b≠p->H' b=some o)->Q .non H'):
  tE K ⟨λ_ H'=>Q .non H',Q,bk,ct⟩ [↑p,some (.int room)] H:=by
 obtain⟨dx,hp,h⟩:=q;unfold tE;exists p,bA,dx,[],rfl,hp,T.cA,T.pA,ε;apply⟨ε,λca c=>?_⟩;ext;have d:p≠ca:=aH aq c;refine⟨p,bA,dx,_,rfl,(aD d).trans aq,T.cA,T.bO,by show 1<1000;decide,?_⟩;apply⟨p,bA,dx,_,rfl,aq,T.cA,T.fG,by show 2<1000;decide,?_⟩;rw[fM];apply⟨p,bA,dx,_,rfl,aq,T.cA,T.nH,by show 3<1000;decide,?_⟩;rw[fM];have f:H ca=none:=by
  have e:=c;rw[aD d.symm]at e;exact e
 refine h ca _ f (aq.trans (congrArg (λl=>some (HO.ins bA dx l)) Zrq)) ?_ λb o hb a=>?_
 ·rw[aD d.symm,aq]
 ·rw[aD a,aD (aH ((aD a).trans hb) c),aD a];exact hb
theorem Zdr{hp:AH}(T:TxC K bC bA)(q:∃ca room used born cs,HpO bA H hp ca room used born cs/\Q (.int (room - used)) H):BZ K ξ [↑hp] H:=by
 obtain⟨ca,room,used,born,cs,⟨⟨a,h1⟩,h2⟩,h⟩:=q;unfold BZ;apply aF h1 T.cA T.pA Xo ?_;apply aF h1 T.cA T.fG mL ?_;apply h
theorem X7{hp:AH}(T:TxC K bC bA)(q:∃ca room used born cs,HpO bA H hp ca room used born cs/\cs.length<=1000/\∀l,H l=none->Q (.ref l) (upd H l (.lst ((plc cs).map V.int)))):zy K ξ [↑hp] H:=by
 obtain⟨ca,room,used,born,cs,⟨⟨b,h1⟩,h2⟩,hl,h⟩:=q;unfold zy;apply KD ?_;apply aF h1 T.cA T.bO bT ?_;apply jU (cB.of h2) ?_;exists _,rfl,δ,δ;refine Zr4 (n:=cs.length) δ (p:=λi=>!decide (cs[i]? =some V.non)) (f:=λi=>.int i) δ ?_ ?_ ?_
 ·intro i a k hk;walk_at"c";apply aF h1 T.cA T.bO bT ?_;apply jg (cB.of h2) (jO (bK a)) ?_;apply Zjn ?_;rw[bK a]at hk;ext;simpa using hk
 ·intro i a _ k hk;walk_at"c";apply hk
 ·have e:((plc cs).map V.int)=((List.range cs.length).filter λi=>!decide (cs[i]? =some V.non)).map λ(i:Nat)=>V.int i:=by
   unfold plc;rw[List.map_map];rfl
  rw[<- e];exact h
theorem Zgn{hp:AH}{v:V}(T:TxC K bC bA)(q:∃ca room used born cs,HpO bA H hp ca room used born cs/\OkN K H cs/\cs.length<=1000/\Q (.int (cs.idxOf V.non)) (upd H ca (.lst (putN cs v)))):Fb K ξ [↑hp,some v,none] H:=by
 obtain⟨ca,room,used,born,cs,⟨⟨f,h1⟩,h2⟩,c,hl,h⟩:=q;unfold Fb;apply aF h1 T.cA T.bO bT ?_;apply Zrf (cB.of h2) c ?_;apply xN (λhn=>?_) (λhn=>?_)
 ·apply aF h1 T.cA T.bO bT ?_;refine⟨.inl ⟨rfl,_,cB.of h2⟩,?_⟩;exists ca,cs,v,rfl,rfl,h2,Nat.lt_of_le_of_lt hl ε;ext;have a:hp≠ca:=qe h1 h2 (λz=>by cases z);refine aF ((aD a).trans h1) T.cA T.bO bT ?_;apply jU (cB.of aq) ?_;ext;have e:(((cs++[v]).length:Int) - 1)=(cs.idxOf V.non:Nat):=by
   rw[List.length_append,List.idxOf_eq_length hn];simp
  have b:putN cs v=cs++[v]:=by unfold putN;rw[if_neg hn]
  rw[e,<- b];exact h
 ·apply aF h1 T.cA T.bO bT ?_;refine⟨.inl ⟨rfl,_,cB.of h2⟩,?_⟩;exists ca,cs,rfl,rfl,cB.of h2,c,hn;apply aF h1 T.cA T.bO bT ?_;ext;have d:cs.idxOf V.non<cs.length:=List.idxOf_lt_length_iff.mpr hn;refine⟨ca,cs,_,_,rfl,rfl,h2,uw d,?_⟩;have b:putN cs v=cs.set (cs.idxOf V.non) v:=by unfold putN;rw[if_pos hn]
  rw[<- b];apply h
theorem Zds{hp:AH}{i:Int}(T:TxC K bC bA)(q:∃ca dx room used born cs p fa birth bulk tone load fl,0<=i/\H hp=some (.ins bA dx (lV room ca used born))/\H ca=some (.lst cs)/\cs[i.toNat]? =↑p/\Ao bC H p fa birth bulk tone load fl/\
 Q (.int birth) (upd (upd H hp (.ins bA dx (lV room ca (used - (1+fl.length+bulk)) born))) ca (.lst (cs.set i.toNat V.non)))):Ca K bC (oE bC) ξ [↑hp,some (.int i),none] H:=by
 obtain⟨ca,dx,room,used,born,cs,p,fa,birth,bulk,tone,load,fl,e,h1,h2,f,co,h⟩:=q;obtain⟨⟨dp,b⟩,g⟩:=id co;unfold Ca;apply aF h1 T.cA T.bO bT ?_;apply jg (cB.of h2) (qx e f) ?_;apply aF h1 T.cA T.fG mL ?_;exists p,dp,_,rfl,b,xm;exists p,rfl,fa,birth,bulk,tone,load,fl,co;apply⟨hp,bA,dx,_,rfl,h1,T.cA,T.fG,by show 4<1000;decide,?_⟩;rw[Gi];have c:hp≠ca:=qe h1 h2 (λz=>by cases z);apply aF aq T.cA T.bO bT ?_;ext;have d:i.toNat<cs.length:=(cZ f).1;refine⟨ca,cs,_,_,rfl,rfl,(aD c.symm).trans h2,Zux e d,?_⟩;apply aF (C:=bC) (a:=p) (dx:=dp) (fs:=o7 birth bulk tone load fa) ?_ T.dz T.d9 iy ?_
 ·have n1:p≠ca:=qe b h2 (λz=>by cases z);have n2:p≠hp:=qe b h1 (λz=>by injection z with _ _ z;exact Vp z);rw[aD n1,aD n2];exact b
 exact h
theorem Zdq{hp:AH}{many bulk tone:Int}(T:TxC K bC bA)(q:∃ca dx room used born cs,H hp=some (.ins bA dx (lV room ca used born))/\H ca=some (.lst cs)/\OkN K H cs/\cs.length<=1000/\0<=many/\many<=1000/\
 (room - used<1+many+bulk->∀H',aU H H'->E (.ref bU) none H')/\
 (1+many+bulk<=room - used->∀p fa H',H p=none->H fa=none->Fm [hp,ca] H H'->H' hp=some (.ins bA dx (lV room ca (used+(1+many+bulk)) (born+1)))->H' ca=some (.lst (putN cs (.ref p)))->
  Ao bC H' p fa (born+1) bulk tone 0 (List.replicate many.toNat V.non)->Q (.int (cs.idxOf V.non)) H')):
  BX K bC bU bA (yC bC) (oE bC) (yx bA) (Dh K bA) E ξ [↑hp,some (.int many),some (.int bulk),some (.int tone),none] H:=by
 obtain⟨ca,dx,room,used,born,cs,h1,h2,A,hl,F,D,w,x⟩:=q;have h:hp≠ca:=qe h1 h2 (λz=>by cases z);unfold BX;apply aF h1 T.cA T.nH Xp ?_;ext;intro p dp g m B;refine⟨p,_,many,_,_,rfl,dp,aq,F,D,λfa k l f j I=>⟨rfl,?_⟩⟩;have c:H fa=none:=by
  have e:=l
  by_cases z1:fa=p
  ·rw[z1,aq]at e;cases e
  ·rw[aD z1]at e
   by_cases s:fa=dp
   ·rw[s,aq]at e;cases e
   ·rw[aD s]at e;exact e
 have sm:aU H k:=λb o hb=>by
  refine I b o ?_ (aH hb g);rw[aD (aH hb g),aD (aH hb m)];exact hb
 have co:Ao bC k p fa (born+1) bulk tone 0 (List.replicate many.toNat V.non):=⟨⟨dp,f⟩,j⟩;have t:((List.replicate many.toNat V.non).length:Int)=many:=by rw[List.length_replicate];omega
 exists p,dp,_,rfl,f,xm;exists p,rfl,fa,_,_,_,_,_,co;exists hp,dx,_,rfl,sm _ _ h1,Xm;exists hp,rfl,ca,room,used,born,cs,⟨⟨dx,sm _ _ h1⟩,sm _ _ h2⟩;ext;rw[t];refine uE (λr=>?_) (λr=>?_)
 ·apply⟨ε,w r k sm⟩
 ·apply aF f T.dz T.d9 iy ?_;apply⟨hp,bA,dx,_,rfl,sm _ _ h1,T.cA,T.nH,by show 4<1000;decide,?_⟩;rw[Vb];apply aF aq T.cA T.fG mL ?_;ext;have n1:p≠hp:=(aH h1 g).symm;have n2:fa≠hp:=(aH h1 c).symm;have n3:p≠ca:=(aH h2 g).symm;have n4:fa≠ca:=(aH h2 c).symm;refine⟨p,dp,_,rfl,(aD n1).trans f,xm,?_⟩;exists p,rfl,fa,_,_,_,_,_,⟨⟨dp,(aD n1).trans f⟩,(aD n2).trans j⟩;ext;rw[t];refine⟨hp,bA,dx,_,rfl,aq,T.cA,T.fG,by show 4<1000;decide,?_⟩;rw[Gi,fM];exists hp,dx,_,rfl,aq,Zcm;exists hp,.ref p,rfl,ca,room,_,_,cs,⟨⟨dx,aq⟩,(aD h.symm).trans (sm _ _ h2)⟩,?_,hl
  ·intro y hy;rcases A y hy with e | ⟨a,C,d,fs,e,i,hc,u⟩
   ·exact .inl e
   ·refine .inr ?_
    by_cases z:a=hp
    ·rw[z]at i e;rw[h1]at i;cases i;exact⟨hp,_,_,_,e,aq,hc,u⟩
    ·exact⟨a,C,d,fs,e,(aD z).trans (sm _ _ i),hc,u⟩
  ·refine x δ p fa _ g c ?_ ((aD h).trans aq) aq ⟨⟨dp,?_⟩,?_⟩
   ·intro b o hb hn;have J:b≠hp:=λz=>hn (by rw[z];exact List.mem_cons_self);have v:b≠ca:=λz=>hn (by rw[z];exact List.mem_cons_of_mem _ List.mem_cons_self);rw[aD v,aD J];exact sm _ _ hb
   ·rw[aD n3,aD n1];exact f
   ·rw[aD n4,aD n2];exact j
end
structure Ce where
 birth:Int
 bulk:Int
 tone:Int
 load:Int
 fl:Au
 deriving DecidableEq
structure Sw where
 sense:Int
 phase:Str
 grey:AD
 looked:Int
 turn:Int
 at':Int
 stop:Int
 walks:Int
 looks:Int
 passes:Int
 loss:V
structure Wm where
 room:Int
 used:Int
 born:Int
 cells:List (Option Ce)
 hands:List (Str×Au)
 names:List (Str×(Int×Int))
 w:Int
 tells:Int
 sw:Sw
structure Wa where
 wo:AH
 hp:AH
 ca:AH
 ki:AH
 lk:AH
 hl:AH
 nm:AH
 sw:AH
 gr:AH
 hs:List (AH×AH)
 cs:List (Option (AH×AH))
 ns:AE
def oV:AA->V
 | none=>.non
 | some i=>.int i
def pV:Option (AH×AH)->V
 | none=>.non
 | some p=>.ref p.1
structure z7(s:Nat)(t0:Nat->Prop)(H H':Hp)(T T':Tg):Prop where
 kp:∀b o,H b=some o->(T b).1=s->¬ t0 (T b).2->H' b=some o
 tg:∀b o,H b=some o->T' b=T b
section
variable {CHd CC:AH}{H H':Hp}{T T':Tg}{s j i:Nat}{t0:Nat->Prop}
theorem z7.at{a:AH}{o:HO}{m:Nat}(f:z7 s t0 H H' T T')(b:T a=(s,m))(n:¬ t0 m)(h:H a=some o):H' a=some o:=f.kp a o h (by rw[b]) (by rw[b];exact n)
theorem z7.tag{a:AH}{o:HO}{x:Nat×Nat}(f:z7 s t0 H H' T T')(h:H a=some o)(b:T a=x):T' a=x:=(f.tg a o h).trans b
theorem z7.FQ{a:AH}{o:HO}{m:Nat}(c:T a=(s,m)):z7 s (·=m) H (upd H a o) T T:=⟨λb u h e n=>by
  have:b≠a:=λz=>n (by rw[z,c]);rw[aD this];exact h,λ_ _ _=>rfl⟩
theorem z7.of_same(e:aU H H'):z7 s (λ_=>False) H H' T T:=⟨λb o h _ _=>e b o h,λ_ _ _=>rfl⟩
theorem z7.Zqb{s':Nat}(e:iY s' H H' T T')(n:s≠s'):z7 s (λ_=>False) H H' T T':=⟨λb o h z _=>e.kp b o h (by rw[z];exact n),e.tg⟩
structure HdO(CHd:AH)(H:Hp)(T:Tg)(s j:Nat)(p:AH×AH)(m:Str×Au):Prop where
 t1:T p.1=(s,20+2 * j)
 t2:T p.2=(s,21+2 * j)
 o1:∃dx,H p.1=some (.ins CHd dx (Zfz m.1 p.2))
 o2:H p.2=some (.lst (m.2.map oV))
theorem HdO.mv{p:AH×AH}{m:Str×Au}(h:HdO CHd H T s j p m)(f:z7 s t0 H H' T T')(n1:¬ t0 (20+2 * j))(n2:¬ t0 (21+2 * j)):HdO CHd H' T' s j p m:=by
 obtain⟨c,a,⟨e,d⟩,b⟩:=h;exact⟨f.tag d c,f.tag b a,⟨e,f.at c n1 d⟩,f.at a n2 b⟩
structure Yg(CC:AH)(H:Hp)(T:Tg)(s i:Nat)(p:AH×AH)(c:Ce):Prop where
 t1:T p.1=(s,100+2 * i)
 t2:T p.2=(s,101+2 * i)
 o1:∃dx,H p.1=some (.ins CC dx (o7 c.birth c.bulk c.tone c.load p.2))
 o2:H p.2=some (.lst (c.fl.map oV))
theorem Yg.mv{p:AH×AH}{c:Ce}(h:Yg CC H T s i p c)(f:z7 s t0 H H' T T')(n1:¬ t0 (100+2 * i))(n2:¬ t0 (101+2 * i)):Yg CC H' T' s i p c:=by
 obtain⟨d,a,⟨g,e⟩,b⟩:=h;exact⟨f.tag e d,f.tag b a,⟨g,f.at d n1 e⟩,f.at a n2 b⟩
def CeP(CC:AH)(H:Hp)(T:Tg)(s i:Nat):Option (AH×AH)->Option Ce->Prop
 | none,none=>True
 | some p,some c=>Yg CC H T s i p c
 | _,_=>False
theorem CeP.mv{p:Option (AH×AH)}{c:Option Ce}(h:CeP CC H T s i p c)(f:z7 s t0 H H' T T')(n1:¬ t0 (100+2 * i))(n2:¬ t0 (101+2 * i)):CeP CC H' T' s i p c:=by
 cases p with
 | none=>cases c with
  | none=>trivial
  | some c=>exact h.elim
 | some p=>cases c with
  | none=>exact h.elim
  | some c=>exact Yg.mv h f n1 n2
end
def NmO(H:Hp)(T:Tg)(t:AH)(m:Str×(Int×Int)):Prop:=T t=(0,0)/\H t=some (.tup [.int m.2.1,.int m.2.2])
structure Cs where
 W:AH
 H:AH
 C:AH
 K:AH
 D:AH
 S:AH
 F:AH
 E:AH
 L:AH
structure WB(X:Cs)(H:Hp)(T:Tg)(s:Nat)(A:Wa)(w tells:Int):Prop where
 tw:T A.wo=(s,0)
 tk:T A.ki=(0,0)
 tl:T A.lk=(0,0)
 tn:T A.hl=(s,5)
 ow:∃dx,H A.wo=some (.ins X.W dx (DG A.hp A.ki A.hl A.nm A.sw))
 ok:∃dx,H A.ki=some (.ins X.K dx (UG A.lk tells))
 ol:∃dx,(w=0/\H A.lk=some (.ins X.F dx []))\/(w=1/\H A.lk=some (.ins X.E dx []))\/(w=2/\H A.lk=some (.ins X.L dx []))
 on:H A.hl=some (.lst (A.hs.map λp=>V.ref p.1))
structure WH(X:Cs)(H:Hp)(T:Tg)(s:Nat)(A:Wa)(room used born:Int):Prop where
 th:T A.hp=(s,1)
 tc:T A.ca=(s,2)
 oh:∃dx,H A.hp=some (.ins X.H dx (lV room A.ca used born))
 oc:H A.ca=some (.lst (A.cs.map pV))
def vp(M:List (Str×(Int×Int)))(ns:AE):List ((Int ⊕ Str)×V):=List.zipWith (λ(m:Str×(Int×Int)) (t:AH)=>(Sum.inr m.1,V.ref t)) M ns
structure WN(H:Hp)(T:Tg)(s:Nat)(A:Wa)(names:List (Str×(Int×Int))):Prop where
 tm:T A.nm=(s,6)
 om:H A.nm=some (.dK (vp names A.ns))
 nms:Al (NmO H T) A.ns names
structure WS(X:Cs)(H:Hp)(T:Tg)(s:Nat)(A:Wa)(S:Sw):Prop where
 ts:T A.sw=(s,7)
 tg:T A.gr=(s,8)
 os:∃dx,H A.sw=some (.ins X.S dx (cI S.sense S.phase A.gr S.looked S.turn S.at' S.stop S.walks S.looks S.passes S.loss))
 og:H A.gr=some (.lst (S.grey.map V.int))
structure WD(X:Cs)(H:Hp)(T:Tg)(s:Nat)(hs:List (AH×AH))(hands:List (Str×Au)):Prop where
 lh:hs.length=hands.length
 l5:hs.length<=30
 hd:∀(j:Nat) p m,hs[j]? =some p->hands[j]? =some m->HdO X.D H T s j p m
structure WC(X:Cs)(H:Hp)(T:Tg)(s:Nat)(cs:List (Option (AH×AH)))(cells:List (Option Ce)):Prop where
 lc:cs.length=cells.length
 ce:∀(i:Nat) p c,cs[i]? =some p->cells[i]? =some c->CeP X.C H T s i p c
structure WJ(X:Cs)(H:Hp)(T:Tg)(s:Nat)(A:Wa)(M:Wm):Prop where
 jb:WB X H T s A M.w M.tells
 jh:WH X H T s A M.room M.used M.born
 jn:WN H T s A M.names
 js:WS X H T s A M.sw
 jd:WD X H T s A.hs M.hands
 jc:WC X H T s A.cs M.cells
section
variable {X:Cs}{H H':Hp}{T T':Tg}{s:Nat}{t0:Nat->Prop}{A:Wa}{M:Wm}
theorem WB.mv{w tells:Int}(j:WB X H T s A w tells)(f:z7 s t0 H H' T T')(a:∀b o,H b=some o->T b=(0,0)->H' b=some o)(k:¬ t0 0)(n5:¬ t0 5):WB X H' T' s A w tells:=by
 obtain⟨tw,tk,tl,tn,⟨h,ow⟩,⟨g,ok⟩,⟨i,ol⟩,on⟩:=j;have c:∃o,H A.lk=some o:=by
  rcases ol with ⟨_,e⟩ | ⟨_,e⟩ | ⟨_,e⟩
  ·exact⟨_,e⟩
  ·exact⟨_,e⟩
  ·exact⟨_,e⟩
 obtain⟨l,d⟩:=c;refine⟨f.tag ow tw,f.tag ok tk,f.tag d tl,f.tag on tn,⟨h,f.at tw k ow⟩,⟨g,a _ _ ok tk⟩,⟨i,?_⟩,f.at tn n5 on⟩;rcases ol with ⟨z,e⟩ | ⟨z,e⟩ | ⟨z,e⟩
 ·exact .inl ⟨z,a _ _ e tl⟩
 ·exact .inr (.inl ⟨z,a _ _ e tl⟩)
 ·exact .inr (.inr ⟨z,a _ _ e tl⟩)
theorem WH.mv{room used born:Int}(j:WH X H T s A room used born)(f:z7 s t0 H H' T T')(n1:¬ t0 1)(n2:¬ t0 2):WH X H' T' s A room used born:=by
 obtain⟨th,tc,⟨d,oh⟩,oc⟩:=j;exact⟨f.tag oh th,f.tag oc tc,⟨d,f.at th n1 oh⟩,f.at tc n2 oc⟩
theorem WN.mv{names:List (Str×(Int×Int))}(j:WN H T s A names)(f:z7 s t0 H H' T T')(a:∀b o,H b=some o->T b=(0,0)->H' b=some o)(n6:¬ t0 6):WN H' T' s A names:=by
 obtain⟨tm,om,nms⟩:=j;exact⟨f.tag om tm,f.at tm n6 om,nms.mono (by rintro t m ⟨z1,z2⟩;exact⟨f.tag z2 z1,a _ _ z2 z1⟩)⟩
theorem WS.mv{S:Sw}(j:WS X H T s A S)(f:z7 s t0 H H' T T')(n7:¬ t0 7)(n8:¬ t0 8):WS X H' T' s A S:=by
 obtain⟨ts,tg,⟨d,os⟩,og⟩:=j;exact⟨f.tag os ts,f.tag og tg,⟨d,f.at ts n7 os⟩,f.at tg n8 og⟩
theorem WD.mv{hs:List (AH×AH)}{hands:List (Str×Au)}(j:WD X H T s hs hands)(f:z7 s t0 H H' T T')(n:∀k,20<=k->k<100->¬ t0 k):WD X H' T' s hs hands:=by
 obtain⟨lh,l5,hd⟩:=j;refine⟨lh,l5,λj p m a b=>?_⟩;have hl:j<hs.length:=(cZ a).1;exact(hd j p m a b).mv f (n _ δ δ) (n _ δ δ)
theorem WC.mv{cs:List (Option (AH×AH))}{cells:List (Option Ce)}(j:WC X H T s cs cells)(f:z7 s t0 H H' T T')(n:∀k,100<=k->¬ t0 k):WC X H' T' s cs cells:=by
 obtain⟨lc,ce⟩:=j;exact⟨lc,λi p c a b=>(ce i p c a b).mv f (n _ δ) (n _ δ)⟩
theorem WJ.mv(j:WJ X H T s A M)(f:z7 s (λ_=>False) H H' T T')(a:∀b o,H b=some o->T b=(0,0)->H' b=some o):WJ X H' T' s A M:=
 ⟨j.jb.mv f a id id,j.jh.mv f id id,j.jn.mv f a id,j.js.mv f id id,j.jd.mv f λ_ _ _=>id,j.jc.mv f λ_ _=>id⟩
theorem WJ.same(j:WJ X H T s A M)(e:aU H H'):WJ X H' T s A M:=j.mv (z7.of_same e) λb o h _=>e b o h
theorem WJ.other{s':Nat}(j:WJ X H T s A M)(e:iY s' H H' T T')(n:s≠s')(a:s'≠0):WJ X H' T' s A M:=j.mv (z7.Zqb e n) λb o h t=>e.kp b o h (by rw[t];exact λz=>a z.symm)
theorem qL{a:AH}{d:HO}{m:Nat}(f:s≠0)(c:T a=(s,m)):∀b o,H b=some o->T b=(0,0)->upd H a d b=some o:=λb o e t=>by
 rw[aD (Ul t c (λz=>f (congrArg Prod.fst z).symm))];exact e
theorem WJ.slot(j:WJ X H T s A M)(w:WT H T)(e:s≠0){h k:Nat}{p:AH×AH}{m:Str×Au}{x:AA}(hp:A.hs[h]? =some p)(hm:M.hands[h]? =some m):
  iY s H (upd H p.2 (.lst ((m.2.map oV).set k (oV x)))) T T/\WJ X (upd H p.2 (.lst ((m.2.map oV).set k (oV x)))) T s A { M with hands:=M.hands.set h (m.1,m.2.set k x) }:=by
 have hl:=j.jd.l5;have hh:h<A.hs.length:=(cZ hp).1;have b:h<M.hands.length:=(cZ hm).1;have d:=j.jd.hd h p m hp hm;refine⟨iY.upd w d.o2 (by rw[d.t2]),?_⟩;have f:z7 s (·=21+2 * h) H (upd H p.2 (.lst ((m.2.map oV).set k (oV x)))) T T:=z7.FQ d.t2;have l:upd H p.2 (.lst ((m.2.map oV).set k (oV x))) p.2=some (.lst ((m.2.set k x).map oV)):=by rw[aq,List.map_set]
 refine⟨j.jb.mv f (qL e d.t2) δ δ,j.jh.mv f δ δ,j.jn.mv f (qL e d.t2) δ,j.js.mv f δ δ,⟨by rw[List.length_set];exact j.jd.lh,hl,λg q o c a=>?_⟩,j.jc.mv f λ_ _=>δ⟩
 by_cases i:g=h
 ·subst i;dsimp only at a;rw[List.getElem?_set_self b]at a;rw[hp]at c;cases c;cases a;obtain⟨n,o1⟩:=d.o1;exact⟨d.t1,d.t2,⟨n,f.at d.t1 δ o1⟩,l⟩
 ·dsimp only at a;rw[List.getElem?_set_ne (λz=>i z.symm)]at a;exact(j.jd.hd g q o c a).mv f δ δ
theorem WC.at(j:WC X H T s A.cs M.cells){i:Nat}{c:Ce}(h:M.cells[i]? =some (some c)):∃p,A.cs[i]? =some (some p)/\Yg X.C H T s i p c:=by
 have hl:i<A.cs.length:=by rw[j.lc];exact(cZ h).1
 have e:=j.ce i _ _ (bK hl) h;cases a:A.cs[i]with
 | none=>rw[a]at e;exact e.elim
 | some g=>rw[a]at e;exact⟨g,by rw[bK hl,a],e⟩
theorem WC.at0(j:WC X H T s A.cs M.cells){i:Nat}(h:M.cells[i]? =some none):A.cs[i]? =some none:=by
 have hl:i<A.cs.length:=by rw[j.lc];exact(cZ h).1
 have e:=j.ce i _ _ (bK hl) h;cases a:A.cs[i]with
 | none=>rw[bK hl,a]
 | some g=>rw[a]at e;exact e.elim
theorem WC.chg(j:WC X H T s A.cs M.cells){i:Nat}{p:AH×AH}{c':Ce}(f:z7 s t0 H H' T T')(hp:A.cs[i]? =some (some p))(n:∀k,100<=k->k≠100+2 * i->k≠101+2 * i->¬ t0 k)(e:Yg X.C H' T' s i p c'):
  WC X H' T' s A.cs (M.cells.set i (some c')):=by
 have hl:i<A.cs.length:=(cZ hp).1;refine⟨by rw[List.length_set];exact j.lc,λk g c b a=>?_⟩
 by_cases hk:k=i
 ·subst hk;rw[List.getElem?_set_self (by rw[<- j.lc];exact hl)]at a;rw[hp]at b;cases b;cases a;exact e
 ·rw[List.getElem?_set_ne (λz=>hk z.symm)]at a;exact(j.ce k g c b a).mv f (n _ δ δ δ) (n _ δ δ δ)
theorem WJ.field(j:WJ X H T s A M)(w:WT H T)(a:s≠0){i k:Nat}{p:AH×AH}{c:Ce}{x:AA}(hp:A.cs[i]? =some (some p))(e:Yg X.C H T s i p c):
  iY s H (upd H p.2 (.lst ((c.fl.map oV).set k (oV x)))) T T/\WJ X (upd H p.2 (.lst ((c.fl.map oV).set k (oV x)))) T s A { M with cells:=M.cells.set i (some { c with fl:=c.fl.set k x }) }:=by
 refine⟨iY.upd w e.o2 (by rw[e.t2]),?_⟩;have f:z7 s (·=101+2 * i) H (upd H p.2 (.lst ((c.fl.map oV).set k (oV x)))) T T:=z7.FQ e.t2;have b:upd H p.2 (.lst ((c.fl.map oV).set k (oV x))) p.2=some (.lst ((c.fl.set k x).map oV)):=by rw[aq,List.map_set]
 obtain⟨d,o1⟩:=e.o1;exact⟨j.jb.mv f (qL a e.t2) δ δ,j.jh.mv f δ δ,j.jn.mv f (qL a e.t2) δ,j.js.mv f δ δ,j.jd.mv f λ_ _ _=>δ,
  j.jc.chg f hp (λk _ _ n2 z=>n2 z) ⟨e.t1,e.t2,⟨d,f.at e.t1 δ o1⟩,b⟩⟩
theorem WJ.cell(j:WJ X H T s A M)(w:WT H T)(a:s≠0){i:Nat}{p:AH×AH}{c:Ce}{dx:AH}{tone load:Int}(hp:A.cs[i]? =some (some p))(e:Yg X.C H T s i p c):
  iY s H (upd H p.1 (.ins X.C dx (o7 c.birth c.bulk tone load p.2))) T T/\WJ X (upd H p.1 (.ins X.C dx (o7 c.birth c.bulk tone load p.2))) T s A { M with cells:=M.cells.set i (some { c with tone:=tone,load:=load }) }:=by
 obtain⟨b,o1⟩:=e.o1;refine⟨iY.upd w o1 (by rw[e.t1]),?_⟩;have f:z7 s (·=100+2 * i) H (upd H p.1 (.ins X.C dx (o7 c.birth c.bulk tone load p.2))) T T:=z7.FQ e.t1;exact⟨j.jb.mv f (qL a e.t1) δ δ,j.jh.mv f δ δ,j.jn.mv f (qL a e.t1) δ,j.js.mv f δ δ,j.jd.mv f λ_ _ _=>δ,
  j.jc.chg f hp (λk _ n1 _ z=>n1 z) ⟨e.t1,e.t2,⟨dx,aq⟩,f.at e.t2 δ e.o2⟩⟩
theorem WJ.sweep(j:WJ X H T s A M)(w:WT H T)(a:s≠0){dx:AH}(S:Sw)(b:S.grey=M.sw.grey):
  iY s H (upd H A.sw (.ins X.S dx (cI S.sense S.phase A.gr S.looked S.turn S.at' S.stop S.walks S.looks S.passes S.loss))) T T/\
  WJ X (upd H A.sw (.ins X.S dx (cI S.sense S.phase A.gr S.looked S.turn S.at' S.stop S.walks S.looks S.passes S.loss))) T s A { M with sw:=S }:=by
 obtain⟨ts,tg,⟨c,os⟩,og⟩:=j.js;refine⟨iY.upd w os (by rw[ts]),?_⟩;have f:z7 s (·=7) H (upd H A.sw (.ins X.S dx (cI S.sense S.phase A.gr S.looked S.turn S.at' S.stop S.walks S.looks S.passes S.loss))) T T:=z7.FQ ts;exact⟨j.jb.mv f (qL a ts) δ δ,j.jh.mv f δ δ,j.jn.mv f (qL a ts) δ,⟨ts,tg,⟨dx,aq⟩,by rw[b];exact f.at tg δ og⟩,j.jd.mv f λ_ _ _=>δ,j.jc.mv f λ_ _=>δ⟩
theorem WJ.Zwl(j:WJ X H T s A M)(w:WT H T)(a:s≠0){g:AD}:iY s H (upd H A.gr (.lst (g.map V.int))) T T/\WJ X (upd H A.gr (.lst (g.map V.int))) T s A { M with sw:={ M.sw with grey:=g } }:=by
 obtain⟨ts,tg,⟨b,os⟩,og⟩:=j.js;refine⟨iY.upd w og (by rw[tg]),?_⟩;have f:z7 s (·=8) H (upd H A.gr (.lst (g.map V.int))) T T:=z7.FQ tg;exact⟨j.jb.mv f (qL a tg) δ δ,j.jh.mv f δ δ,j.jn.mv f (qL a tg) δ,⟨ts,tg,⟨b,f.at ts δ os⟩,aq⟩,j.jd.mv f λ_ _ _=>δ,j.jc.mv f λ_ _=>δ⟩
theorem WJ.back(j:WJ X H T s A M)(w:WT H T)(v:s≠0){i:Nat}{dx:AH}{used':Int}(x:i<A.cs.length)(H':Hp)(kp:∀b o,H b=some o->b≠A.hp->b≠A.ca->H' b=some o)(C:H' A.hp=some (.ins X.H dx (lV M.room A.ca used' M.born)))(D:H' A.ca=some (.lst ((A.cs.map pV).set i V.non))):
  iY s H H' T T/\WJ X H' T s { A with cs:=A.cs.set i none } { M with used:=used',cells:=M.cells.set i none }:=by
 obtain⟨th,tc,⟨K,oh⟩,oc⟩:=j.jh;have al:∀b o,H b=some o->∃B,H' b=some B:=λb o h=>by
  by_cases z1:b=A.hp
  ·exact⟨_,by rw[z1];exact C⟩
  ·by_cases y:b=A.ca
   ·exact⟨_,by rw[y];exact D⟩
   ·exact⟨o,kp b o h z1 y⟩
 have f:z7 s (λk=>k=1\/k=2) H H' T T:=⟨λb o h e n=>kp b o h (λz=>n (.inl (by rw[z,th]))) (λz=>n (.inr (by rw[z,tc]))),λ_ _ _=>rfl⟩;have r:∀b o,H b=some o->T b=(0,0)->H' b=some o:=λb o h t=>kp b o h (Ul t th (λz=>v (congrArg Prod.fst z).symm)) (Ul t tc (λz=>v (congrArg Prod.fst z).symm));refine⟨⟨λb o h n=>kp b o h (λz=>n (by rw[z,th])) (λz=>n (by rw[z,tc])),al,λ_ _ _=>rfl,λb h=>w b ?_⟩,?_⟩
 ·cases z:H b with
  | none=>rfl
  | some o=>obtain⟨B,u⟩:=al b o z;rw[h]at u;cases u
 ·refine⟨?_,⟨th,tc,⟨dx,C⟩,by rw[List.map_set];exact D⟩,?_,?_,j.jd.mv f λ_ _ _=>δ,⟨by rw[List.length_set,List.length_set];exact j.jc.lc,λk g c a d=>?_⟩⟩
  ·obtain⟨m,l,p,q,E,I,J,F⟩:=j.jb.mv f r δ δ;exact⟨m,l,p,q,E,I,J,F⟩
  ·obtain⟨m,l,p⟩:=j.jn.mv f r δ;exact⟨m,l,p⟩
  ·obtain⟨m,l,p,q⟩:=j.js.mv f δ δ;exact⟨m,l,p,q⟩
  ·by_cases hk:k=i
   ·subst hk;dsimp only at a d;rw[List.getElem?_set_self x]at a;rw[List.getElem?_set_self (by rw[<- j.jc.lc];exact x)]at d;cases a;cases d
    trivial
   ·dsimp only at a d;rw[List.getElem?_set_ne (λz=>hk z.symm)]at a d;exact(j.jc.ce k g c a d).mv f δ δ
end
def mW{a:Type}:List (Option a)->Nat
 | []=>0
 | none::_=>0
 | some _::l=>mW l+1
def pI{a:Type}(l:List (Option a))(x:a):List (Option a):=if mW l<l.length then l.set (mW l) (some x)else l++[some x]
theorem Zco{b:Type}(l:List (Option b)):mW l<=l.length:=by
 induction l with
 | nil=>exact Nat.le_refl _
 | cons a l ih=>cases a with
  | none=>exact Nat.zero_le _
  | some a=>exact Nat.succ_le_succ ih
theorem Zvq{b:Type}{l:List (Option b)}(h:mW l<l.length):l[mW l]? =some none:=by
 induction l with
 | nil=>exact absurd h (Nat.lt_irrefl _)
 | cons a l ih=>cases a with
  | none=>rfl
  | some a=>exact ih (Nat.lt_of_succ_lt_succ h)
theorem Zg1{d:Type}{f:Option d->V}(c:∀x,f x=V.non↔x=none)(l:List (Option d)):(l.map f).idxOf V.non=mW l/\(V.non∈l.map f↔mW l<l.length):=by
 induction l with
 | nil=>exact⟨rfl,⟨λz=>(nomatch z),λz=>absurd z (Nat.lt_irrefl _)⟩⟩
 | cons a l ih=>
  rw[List.map_cons,List.idxOf_cons];cases a with
  | none=>
   have e:f none=V.non:=(c none).mpr rfl;rw[e];exact⟨rfl,⟨λ_=>Nat.zero_lt_succ _,λ_=>List.mem_cons_self⟩⟩
  | some a=>
   have e:f (some a)≠V.non:=λz=>by cases (c (some a)).mp z
   have b:(f (some a) == V.non)=false:=beq_eq_false_iff_ne.mpr e;rw[b];refine⟨congrArg (· + 1) ih.1,?_⟩;show _↔mW l+1<l.length+1;rw[List.mem_cons,ih.2];constructor
   ·rintro(z | z)
    ·exact absurd z.symm e
    ·omega
   ·intro z;exact .inr δ
theorem Zph{a:Type}{f:Option a->V}(c:∀x,f x=V.non↔x=none)(l:List (Option a))(x:a):putN (l.map f) (f (some x))=(pI l x).map f:=by
 obtain⟨d,b⟩:=Zg1 c l;unfold putN pI
 by_cases z:mW l<l.length
 ·rw[if_pos z,if_pos (b.mpr z),List.map_set];exact congrArg (λk=>(l.map f).set k (f (some x))) d
 ·rw[if_neg z,if_neg (λw=>z (b.mp w)),List.map_append];rfl
theorem Zq2(p:Option (AH×AH)):pV p=V.non↔p=none:=by cases p<;>simp[pV]
theorem Rn{a:Type}(l:List (Option a))(x:a):(pI l x)[mW l]? =some (some x):=by
 unfold pI
 by_cases z:mW l<l.length
 ·rw[if_pos z,List.getElem?_set_self z]
 ·have e:mW l=l.length:=Nat.le_antisymm (Zco l) δ;rw[if_neg z,e,List.getElem?_append_right Γ,Nat.sub_self];rfl
theorem Zl9{a:Type}{l:List (Option a)}{x:a}{i:Nat}{y:Option a}(b:i≠mW l)(h:(pI l x)[i]? =some y):l[i]? =some y:=by
 unfold pI at h
 by_cases z:mW l<l.length
 ·rw[if_pos z,List.getElem?_set_ne (λw=>b w.symm)]at h;exact h
 ·rw[if_neg z]at h;have e:mW l=l.length:=Nat.le_antisymm (Zco l) δ;have hl:=(cZ h).1;rw[List.length_append,List.length_singleton]at hl;rw[List.getElem?_append_left δ]at h;exact h
theorem Zpi{b a:Type}{l:List (Option b)}{m:List (Option a)}{x:b}{y:a}(hl:l.length=m.length)(c:mW l=mW m):(pI l x).length=(pI m y).length:=by
 unfold pI
 by_cases z:mW l<l.length
 ·rw[if_pos z,if_pos δ,List.length_set,List.length_set];exact hl
 ·rw[if_neg z,if_neg δ,List.length_append,List.length_append,hl];rfl
theorem Ztl{a:Type}(l:List (Option a))(x:a):(pI l x).length<=l.length+1:=by
 unfold pI
 by_cases z:mW l<l.length
 ·rw[if_pos z,List.length_set];omega
 ·rw[if_neg z,List.length_append];exact Nat.le_refl _
theorem Zvp{f d:Type}:∀(l:List (Option f)) (m:List (Option d)),l.length=m.length->(∀(i:Nat) x y,l[i]? =some x->m[i]? =some y->(x=none↔y=none))->mW l=mW m:=by
 intro l
 induction l with
 | nil=>
  intro m hl _;cases m with
  | nil=>rfl
  | cons b m=>simp at hl
 | cons a l ih=>
  intro m hl h;cases m with
  | nil=>simp at hl
  | cons b m=>
   have c:=ih m (by simpa using hl) λi x y h1 h2=>h (i+1) x y (by simpa using h1) (by simpa using h2);have e:=h 0 a b rfl rfl;cases a with
   | none=>rw[e.mp rfl];rfl
   | some a=>cases b with
    | none=>exact absurd (e.mpr rfl) (λz=>by cases z)
    | some b=>exact congrArg (· + 1) c
section
variable {X:Cs}{H H':Hp}{T T':Tg}{s:Nat}{A:Wa}{M:Wm}
theorem WC.fst(j:WC X H T s A.cs M.cells):mW A.cs=mW M.cells:=Zvp _ _ j.lc λi p c a b=>by
 have e:=j.ce i p c a b;cases p with
 | none=>cases c with
  | none=>exact⟨λ_=>rfl,λ_=>rfl⟩
  | some c=>exact e.elim
 | some p=>cases c with
  | none=>exact e.elim
  | some c=>exact⟨λz=>(by cases z),λz=>(by cases z)⟩
theorem WJ.put(j:WJ X H T s A M)(w:WT H T)(D:s≠0){dx:AH}{used':Int}{p fa:AH}{c:Ce}(kp:∀b o,H b=some o->b≠A.hp->b≠A.ca->H' b=some o)(J:H' A.hp=some (.ins X.H dx (lV M.room A.ca used' (M.born+1))))(K:H' A.ca=some (.lst (putN (A.cs.map pV) (.ref p))))
  (n1:H p=none) (n2:H fa=none) (L:p≠fa) (o1:∃dx,H' p=some (.ins X.C dx (o7 c.birth c.bulk c.tone c.load fa))) (o2:H' fa=some (.lst (c.fl.map oV))):
  ∃T',iY s H H' T T'/\WJ X H' T' s { A with cs:=pI A.cs (p,fa) } { M with used:=used',born:=M.born+1,cells:=pI M.cells c }:=by
 obtain⟨th,tc,⟨S,oh⟩,oc⟩:=j.jh;have v:=j.jc.fst
 let k:=mW A.cs
 let T':Tg:=jC (jC T p (s,100+2 * k)) fa (s,101+2 * k)
 have a:∀b o,H b=some o->T' b=T b:=λb o h=>by
  show jC _ _ _ b=_;rw[jM (aH h n2),jM (aH h n1)]
 have t1:T' p=(s,100+2 * k):=by show jC _ _ _ p=_;rw[jM L,iB]
 have t2:T' fa=(s,101+2 * k):=by show jC _ _ _ fa=_;rw[iB]
 have al:∀b o,H b=some o->∃I,H' b=some I:=λb o h=>by
  by_cases z1:b=A.hp
  ·exact⟨_,by rw[z1];exact J⟩
  ·by_cases E:b=A.ca
   ·exact⟨_,by rw[E];exact K⟩
   ·exact⟨o,kp b o h z1 E⟩
 have f:z7 s (λk=>k=1\/k=2) H H' T T':=⟨λb o h e n=>kp b o h (λz=>n (.inl (by rw[z,th]))) (λz=>n (.inr (by rw[z,tc]))),a⟩;have y:∀b o,H b=some o->T b=(0,0)->H' b=some o:=λb o h t=>kp b o h (Ul t th (λz=>D (congrArg Prod.fst z).symm)) (Ul t tc (λz=>D (congrArg Prod.fst z).symm));refine⟨T',⟨λb o h F=>kp b o h (λz=>F (by rw[z,th])) (λz=>F (by rw[z,tc])),al,a,λb h=>?_⟩,?_⟩
 ·have m:b≠p:=λe=>by obtain⟨d,z⟩:=o1;rw[e,z]at h;cases h
  have l:b≠fa:=λe=>by rw[e,o2]at h;cases h
  have hb:H b=none:=by
   cases z:H b with
   | none=>rfl
   | some o=>obtain⟨I,B⟩:=al b o z;rw[h]at B;cases B
  show jC _ _ _ b=_;rw[jM l,jM m];exact w b hb
 ·refine⟨?_,⟨f.tag oh th,f.tag oc tc,⟨dx,J⟩,?_⟩,?_,?_,j.jd.mv f λ_ _ _=>δ,⟨Zpi j.jc.lc v,λi g Q r u=>?_⟩⟩
  ·obtain⟨m,l,q,x,N,P,R,O⟩:=j.jb.mv f y δ δ;exact⟨m,l,q,x,N,P,R,O⟩
  ·show H' A.ca=some (.lst ((pI A.cs (p,fa)).map pV));rw[<- Zph Zq2];exact K
  ·obtain⟨m,l,q⟩:=j.jn.mv f y δ;exact⟨m,l,q⟩
  ·obtain⟨m,l,q,x⟩:=j.js.mv f δ δ;exact⟨m,l,q,x⟩
  ·dsimp only at r u
   by_cases hk:i=mW A.cs
   ·subst hk;rw[Rn]at r;rw[v,Rn]at u;cases r;cases u;exact⟨t1,t2,o1,o2⟩
   ·exact(j.jc.ce i g Q (Zl9 hk r) (Zl9 (by rw[<- v];exact hk) u)).mv f δ δ
end
def cellAt(M:Wm)(x:Int):Option Ce:=if 0<=x then(M.cells[x.toNat]?).join else none
def uy(M:Wm):AA->AA
 | none=>none
 | some x=>(cellAt M x).map (·.birth)
def aY(M:Wm)(h k:Nat):AA:=((M.hands[h]?).bind λm=>m.2[k]?).join
def setSlot(M:Wm)(h k:Nat)(x:AA):Wm:={ M with hands:=M.hands.modify h λm=>(m.1,m.2.set k x) }
def setCell(M:Wm)(i:Int)(c:Ce):Wm:={ M with cells:=M.cells.set i.toNat (some c) }
def cC(M:Wm):AA->AA×Wm
 | none=>(none,M)
 | some i=>match cellAt M i with
  | none=>(none,M)
  | some c=>if M.sw.phase="walk"/\c.tone≠M.sw.sense then(some c.birth,{ setCell M i { c with tone:=M.sw.sense }with sw:={ M.sw with grey:=M.sw.grey++[i] } })else(none,M)
def dY(M:Wm)(h:Nat):Bool:=decide (M.sw.looked / 2 ^ h % 2=1)
def lW(M:Wm)(a birth:Int):Bool:=match cellAt M a with
 | none=>true
 | some c=>if c.birth=birth then decide (M.sw.phase="give"/\c.tone≠M.sw.sense)else true
def sG(l:List (Str×(Int×Int)))(k:Str)(v:Int×Int):List (Str×(Int×Int)):=if (l.any λm=>decide (m.1=k))=true then l.map (λm=>if m.1=k then(m.1,v)else m)else l++[(k,v)]
def vq(l:List (Str×(Int×Int)))(k:Str):Option (Int×Int):=(l.find? λm=>decide (m.1=k)).map (·.2)
inductive Rf where
 | full | empty | uo | Uj
 deriving DecidableEq
structure Ev where
 word:Str
 thing:AA
 notes:AD
inductive pP where
 | make (h s:Nat) (many bulk:Int)
 | get (h s t f:Nat)
 | put (h t f s:Nat)
 | copy (h s t:Nat)
 | drop (h s:Nat)
 | give (h s g t:Nat)
 | write (h t:Nat) (load:Int)
 | read (h t:Nat)
 | name (h t:Nat) (word:Str)
 | seek (h s:Nat) (word:Str)
def old?(M:Wm):Bool:=decide (M.tells % 2=1)
def tU(M:Wm):Bool:=decide (M.tells / 2 % 2=1)
def ofN:AA->AD
 | none=>[]
 | some b=>[b]
def aZ(M:Wm):Au->AD×Wm
 | []=>([],M)
 | x::l=>(ofN (cC M x).1++(aZ (cC M x).2 l).1,(aZ (cC M x).2 l).2)
def su(M:Wm):pP->Except Rf (Ev×Wm)
 | .make h s many bulk=>
  if M.used+(1+many+bulk)<=M.room then
   .ok (⟨"made",some (M.born+1),[]⟩,setSlot { M with used:=M.used+(1+many+bulk),born:=M.born+1,cells:=pI M.cells ⟨M.born+1,bulk,M.sw.sense,0,List.replicate many.toNat none⟩ } h s (some (mW M.cells)))
  else .error .full
 | .get h s t f=>match aY M h t with
  | none=>.error .empty
  | some x=>match cellAt M x with
   | none=>.error .empty
   | some c=>match c.fl[f]? with
    | none=>.error .uo
    | some v=>.ok (⟨"got",uy M v,[]⟩,setSlot M h s v)
 | .put h t f s=>match aY M h t with
  | none=>.error .empty
  | some x=>match cellAt M x with
   | none=>.error .empty
   | some c=>match c.fl[f]? with
    | none=>.error .uo
    | some v=>
     let M1:=setCell M x { c with fl:=c.fl.set f (aY M h s) }
     let r:=aZ M1 ((if old? M=true then [v]else [])++if (tU M && !dY M h)=true then [aY M h s]else [])
     .ok (⟨"put",uy M v,r.1⟩,r.2)
 | .copy h s t=>.ok (⟨"copied",uy M (aY M h t),[]⟩,setSlot M h s (aY M h t))
 | .drop h s=>.ok (⟨"dropped",uy M (aY M h s),[]⟩,setSlot M h s none)
 | .give h s g t=>
  let r:=aZ (setSlot M g t (aY M h s)) (if (tU M && !dY M h)=true then [aY M h s]else [])
  .ok (⟨"given",uy M (aY M h s),r.1⟩,r.2)
 | .write h t load=>match aY M h t with
  | none=>.error .empty
  | some x=>match cellAt M x with
   | none=>.error .empty
   | some c=>.ok (⟨"wrote",some c.load,[]⟩,setCell M x { c with load:=load })
 | .read h t=>match aY M h t with
  | none=>.error .empty
  | some x=>match cellAt M x with
   | none=>.error .empty
   | some c=>.ok (⟨"read",some c.load,[]⟩,M)
 | .name h t word=>match aY M h t with
  | none=>.error .empty
  | some x=>match cellAt M x with
   | none=>.error .empty
   | some c=>.ok (⟨"named",some c.birth,[]⟩,{ M with names:=sG M.names word (x,c.birth) })
 | .seek h s word=>match vq M.names word with
  | none=>.error .Uj
  | some (p,b)=>
   if lW M p b=true then .ok (⟨"sought",none,[]⟩,setSlot M h s none)
   else
    let r:=aZ (setSlot M h s (some p)) [some p]
    .ok (⟨"sought",some b,r.1⟩,r.2)
def dV:pP->List V
 | .make h s many bulk=>[.str "make",.int h,.int s,.int many,.int bulk]
 | .get h s t f=>[.str "get",.int h,.int s,.int t,.int f]
 | .put h t f s=>[.str "put",.int h,.int t,.int f,.int s]
 | .copy h s t=>[.str "copy",.int h,.int s,.int t]
 | .drop h s=>[.str "drop",.int h,.int s]
 | .give h s g t=>[.str "give",.int h,.int s,.int g,.int t]
 | .write h t load=>[.str "write",.int h,.int t,.int load]
 | .read h t=>[.str "read",.int h,.int t]
 | .name h t word=>[.str "name",.int h,.int t,.str word]
 | .seek h s word=>[.str "seek",.int h,.int s,.str word]
def Dz(M:Wm)(h s:Nat):Prop:=∃m,M.hands[h]? =some m/\s<m.2.length
def okD(M:Wm):pP->Prop
 | .make h s many bulk=>Dz M h s/\0<=many/\many<=1000/\0<=bulk
 | .get h s t _=>Dz M h s/\Dz M h t
 | .put h t _ s=>Dz M h t/\Dz M h s
 | .copy h s t=>Dz M h s/\Dz M h t
 | .drop h s=>Dz M h s
 | .give h s g t=>Dz M h s/\Dz M g t
 | .write h t _=>Dz M h t
 | .read h t=>Dz M h t
 | .name h t _=>Dz M h t
 | .seek h s _=>Dz M h s
structure Ok(M:Wm):Prop where
 sl:∀m∈M.hands,∀x,some x∈m.2->∃c,cellAt M x=some c
 fl:∀c,some c∈M.cells->∀x,some x∈c.fl->∃d,cellAt M x=some d
 tn:∀c,some c∈M.cells->c.tone=0\/c.tone=1
def Dy(b c a d:AH):Rf->AH
 | .full=>b
 | .empty=>c
 | .uo=>a
 | .Uj=>d
def EvN(H0 H:Hp)(a:AH)(e:Ev):Prop:=∃l,H0 l=none/\H a=some (.tup [.str e.word,oV e.thing,.ref l])/\H l=some (.lst (e.notes.map V.int))
def cH(X:Cs)(f:Rf->AH)(P:pP->Prop):Sp:=λvs H Q E=>∃wo dd,vs=[.ref wo,.ref dd]/\∃T s A M d,P d/\WT H T/\s≠0/\WJ X H T s A M/\A.wo=wo/\H dd=some (.tup (dV d))/\okD M d/\M.cells.length<=900/\(M.sw.phase="walk"->M.sw.grey.length<=10000)/\(0<=M.tells/\M.tells<4)/\M.names.length<=1000/\
 (∀r,su M d=.error r->∀H',aU H H'->E (.ref (f r)) none H')/\
 (∀e c,su M d=.ok (e,c)->∀H' T' b a,iY s H H' T T'->WJ X H' T' s b c->b.wo=wo->EvN H H' a e->Q (.ref a) H')
abbrev ZKu(X:Cs)(rf:Rf->AH):Sp:=cH X rf λ_=>True
theorem Zmk{b:Type}{l:List (Option b)}{x a:b}{i:Nat}(h:l[i]? =some (some a)):(pI l x)[i]? =some (some a):=by
 have hl:=(cZ h).1;unfold pI
 by_cases z:mW l<l.length
 ·have c:i≠mW l:=λe=>by rw[e,Zvq z]at h;cases h
  rw[if_pos z,List.getElem?_set_ne (λw=>c w.symm)];exact h
 ·rw[if_neg z,List.getElem?_append_left hl];exact h
theorem cj{M:Wm}{x:Int}{c:Ce}:cellAt M x=some c↔0<=x/\M.cells[x.toNat]? =some (some c):=by
 unfold cellAt
 by_cases z:0<=x
 ·rw[if_pos z];cases e:M.cells[x.toNat]? with
  | none=>simp
  | some y=>cases y with
   | none=>simp
   | some d=>simp[z]
 ·rw[if_neg z];simp[z]
theorem tY{M:Wm}{x:Int}{c:Ce}(h:cellAt M x=some c):some c∈M.cells:=List.mem_of_getElem? (cj.mp h).2
theorem Zkl{M:Wm}{x u b:Int}{c d:Ce}(h:cellAt M x=some d):cellAt { M with used:=u,born:=b,cells:=pI M.cells c } x=some d:=by
 obtain⟨a,h1⟩:=cj.mp h;exact cj.mpr ⟨a,Zmk h1⟩
theorem Vq{M:Wm}{u b:Int}{c:Ce}:cellAt { M with used:=u,born:=b,cells:=pI M.cells c } (mW M.cells)=some c:=
 cj.mpr ⟨δ,by rw[Int.toNat_natCast];exact Rn _ _⟩
theorem Zqn{a:Type}{l:List (Option a)}{x:a}{y:Option a}(h:y∈pI l x):y∈l\/y=some x:=by
 unfold pI at h
 by_cases z:mW l<l.length
 ·rw[if_pos z]at h;rcases List.mem_or_eq_of_mem_set h with h | h
  ·exact .inl h
  ·exact .inr h
 ·rw[if_neg z]at h;rcases List.mem_append.mp h with h | h
  ·exact .inl h
  ·exact .inr (List.mem_singleton.mp h)
theorem Zmc{M:Wm}{h k:Nat}{m:Str×Au}{x:AA}(hm:M.hands[h]? =some m)(hk:m.2[k]? =some x):aY M h k=x:=by
 unfold aY;rw[hm];show(m.2[k]?).join=x;rw[hk];rfl
theorem Zew{M:Wm}{h k:Nat}(o:Dz M h k):∃m,M.hands[h]? =some m/\m.2[k]? =some (aY M h k)/\k<m.2.length:=by
 obtain⟨m,hm,hk⟩:=o;refine⟨m,hm,?_,hk⟩;rw[Zmc hm (bK hk)];exact bK hk
theorem V5{M:Wm}{h k:Nat}{x:AA}{m:Str×Au}(hm:M.hands[h]? =some m):(setSlot M h k x).hands=M.hands.set h (m.1,m.2.set k x):=by
 show M.hands.modify h _=_;refine List.ext_getElem? ?_;intro i;rw[List.getElem?_modify]
 by_cases e:h=i
 ·subst e;rw[List.getElem?_set_self (cZ hm).1,hm];simp
 ·rw[List.getElem?_set_ne e];simp[e]
theorem qR{M:Wm}{h k:Nat}{x:AA}{y:AA}:uy (setSlot M h k x) y=uy M y:=by cases y<;>rfl
def rowsOf(M:Wm):List Au:=M.hands.map λm=>m.2.map (uy M)
theorem Jk{M:Wm}(h:M.sw.phase≠"walk")(x:AA):cC M x=(none,M):=by
 cases x with
 | none=>rfl
 | some x=>
  unfold cC;dsimp only;cases cellAt M x with
  | none=>rfl
  | some c=>
   dsimp only;rw[if_neg (λz=>h z.1)]
theorem Pq:∀{l:Au}{M:Wm},M.sw.phase≠"walk"->aZ M l=([],M)
 | [],_,_=>rfl
 | x::l,M,h=>by
  show(ofN (cC M x).1++(aZ (cC M x).2 l).1,(aZ (cC M x).2 l).2)=_;rw[Jk h];show(ofN none++(aZ M l).1,(aZ M l).2)=_;rw[Pq h];rfl
theorem Zg9{M:Wm}{h s:Nat}{many bulk:Int}(a:M.used+(1+many+bulk)<=M.room):su M (.make h s many bulk)=.ok (⟨"made",some (M.born+1),[]⟩,setSlot { M with used:=M.used+(1+many+bulk),born:=M.born+1,cells:=pI M.cells ⟨M.born+1,bulk,M.sw.sense,0,List.replicate many.toNat none⟩ } h s (some (mW M.cells))):=by
 show(if _ then _ else _)=_;rw[if_pos a]
structure qT(K:aC)(X:Cs):Prop where
 c:TxC K X.C X.H
 cW:Ij K X.W
 HS:bN K X.W "heap"
 nWk:bN K X.W "kind"
 nWd:bN K X.W "hands"
 nWn:bN K X.W "names"
 Nq:bN K X.W "sweeper"
 cD:Ij K X.D
 nDn:bN K X.D "name"
 nDs:bN K X.D "slots"
 cK:Ij K X.K
 nKl:bN K X.K "looking"
 nKt:bN K X.K "tells"
 cS:Ij K X.S
 n1:bN K X.S "sense"
 n2:bN K X.S "phase"
 n3:bN K X.S "grey"
 n4:bN K X.S "looked"
 n5:bN K X.S "turn"
 n6:bN K X.S "at"
 n7:bN K X.S "stop"
 n8:bN K X.S "walks"
 n9:bN K X.S "looks"
 n10:bN K X.S "passes"
 n11:bN K X.S "loss"
structure WJ0(X:Cs)(H:Hp)(T:Tg)(s:Nat)(A:Wa)(M:Wm):Prop where
 jb:WB X H T s A M.w M.tells
 jh:WH X H T s A M.room M.used M.born
 js:WS X H T s A M.sw
 jd:WD X H T s A.hs M.hands
 jc:WC X H T s A.cs M.cells
theorem WJ.w0{X:Cs}{H:Hp}{T:Tg}{s:Nat}{A:Wa}{M:Wm}(j:WJ X H T s A M):WJ0 X H T s A M:=⟨j.jb,j.jh,j.js,j.jd,j.jc⟩
theorem WJ.names{X:Cs}{H:Hp}{T:Tg}{s:Nat}{A:Wa}{M:Wm}{o:HO}(j:WJ X H T s A M)(a:s≠0):WJ0 X (upd H A.nm o) T s A M:=by
 have f:z7 s (·=6) H (upd H A.nm o) T T:=z7.FQ j.jn.tm;exact⟨j.jb.mv f (qL a j.jn.tm) δ δ,j.jh.mv f δ δ,j.js.mv f δ δ,j.jd.mv f λ_ _ _=>δ,j.jc.mv f λ_ _=>δ⟩
theorem WJ0.same{X:Cs}{H H':Hp}{T:Tg}{s:Nat}{A:Wa}{M:Wm}(j:WJ0 X H T s A M)(e:aU H H'):WJ0 X H' T s A M:=by
 have f:z7 s (λ_=>False) H H' T T:=z7.of_same e;exact⟨j.jb.mv f (λb o h _=>e b o h) id id,j.jh.mv f id id,j.js.mv f id id,j.jd.mv f λ_ _ _=>id,j.jc.mv f λ_ _=>id⟩
def atO(cs:List V):V->V
 | .int i=>if 0<=i then(cs[i.toNat]?).getD .non else .non
 | _=>.non
def eO(a:AH):Sp:=λvs H Q E=>∃hp pl,vs=[.ref hp,pl]/\(pl=.non\/∃i,pl=.int i)/\∃ca room used born cs,HpO a H hp ca room used born cs/\Q (atO cs pl) H
def cO(M:Wm)(x:AA):Option Ce:=x.bind (cellAt M)
def bV(X:Cs):Sp:=λvs H Q E=>∃hp pl,vs=[.ref hp,pl]/\∃x,pl=oV x/\∃T s A M,WJ X H T s A M/\A.hp=hp/\Q (oV (uy M x)) H
def yr(X:Cs):Sp:=λvs H Q E=>∃p f,vs=[.ref p,.int f]/\∃T s i q c,Yg X.C H T s i q c/\q.1=p/\Q (.bl (decide (0<=f) && decide (f<c.fl.length))) H
def cz(X:Cs):Sp:=λvs H Q E=>∃wo h,vs=[.ref wo,.int h]/\∃T s A M k p,WJ X H T s A M/\A.wo=wo/\h=((k:Nat):Int)/\A.hs[k]? =some p/\Q (.ref p.2) H
def cQ(X:Cs):Sp:=λvs H Q E=>∃wo p,vs=[.ref wo,.ref p]/\∃T s A M i q c,WJ0 X H T s A M/\A.wo=wo/\Yg X.C H T s i q c/\q.1=p/\Q (.bl (decide (c.tone=M.sw.sense))) H
def yq(X:Cs):Sp:=λvs H Q E=>∃wo h,vs=[.ref wo,.int h]/\∃T s A M k,WJ X H T s A M/\A.wo=wo/\h=((k:Nat):Int)/\Q (.bl (dY M k)) H
def Df(X:Cs):Sp:=λvs H Q E=>∃wo v,vs=[.ref wo,v]/\∃T s A M,WJ X H T s A M/\A.wo=wo/\(0<=M.tells/\M.tells<4)/\∀l,H l=none->Q (.ref l) (upd H l (.lst (if old? M=true then [v]else [])))
def qM(X:Cs):Sp:=λvs H Q E=>∃wo h v,vs=[.ref wo,.int h,v]/\∃T s A M k,WJ X H T s A M/\A.wo=wo/\(0<=M.tells/\M.tells<4)/\h=((k:Nat):Int)/\∀l,H l=none->Q (.ref l) (upd H l (.lst (if (tU M && !dY M k)=true then [v]else [])))
def lC(X:Cs)(CE:AH):Sp:=λvs H Q E=>∃wo h t,vs=[.ref wo,.int h,.int t]/\∃T s A M hn tn,WJ X H T s A M/\A.wo=wo/\h=((hn:Nat):Int)/\t=((tn:Nat):Int)/\Dz M hn tn/\
 (cO M (aY M hn tn)=none->E (.ref CE) none H)/\
 (∀i c p,aY M hn tn=some i->0<=i->cellAt M i=some c->A.cs[i.toNat]? =some (some p)->Yg X.C H T s i.toNat p c->Q (.ref p.1) H)
def pC(X:Cs)(CE a:AH):Sp:=λvs H Q E=>∃wo h t f,vs=[.ref wo,.int h,.int t,.int f]/\∃T s A M hn tn fn,WJ X H T s A M/\A.wo=wo/\h=((hn:Nat):Int)/\t=((tn:Nat):Int)/\f=((fn:Nat):Int)/\Dz M hn tn/\
 (cO M (aY M hn tn)=none->E (.ref CE) none H)/\
 (∀i c,aY M hn tn=some i->0<=i->cellAt M i=some c->c.fl[fn]? =none->E (.ref a) none H)/\
 (∀i c p,aY M hn tn=some i->0<=i->cellAt M i=some c->A.cs[i.toNat]? =some (some p)->Yg X.C H T s i.toNat p c->fn<c.fl.length->Q (.ref p.2) H)
def Jr(X:Cs):Sp:=λvs H Q E=>∃wo pl,vs=[.ref wo,pl]/\∃x,pl=oV x/\∃T s A M,WT H T/\s≠0/\WJ X H T s A M/\A.wo=wo/\(M.sw.phase="walk"->M.sw.grey.length<=20000)/\
 ∀H',iY s H H' T T->WJ X H' T s A (cC M x).2->Q (oV (cC M x).1) H'
def PlO(H:Hp)(T:Tg)(A:Wa)(M:Wm)(pl:AH)(xs:Au):Prop:=(H pl=some (.lst (xs.map oV))/\T pl=(0,0))\/(∃(k:Nat) (p:AH×AH) (m:Str×Au),A.hs[k]? =some p/\M.hands[k]? =some m/\pl=p.2/\xs=m.2)\/(∃(k:Nat) (p:AH×AH) (c:Ce),A.cs[k]? =some (some p)/\M.cells[k]? =some (some c)/\pl=p.2/\xs=c.fl)
theorem PlO.get{X:Cs}{H:Hp}{T:Tg}{s:Nat}{A:Wa}{M:Wm}{pl:AH}{xs:Au}(h:PlO H T A M pl xs)(j:WJ X H T s A M):H pl=some (.lst (xs.map oV)):=by
 rcases h with ⟨h,_⟩ | ⟨k,p,m,h1,h2,rfl,rfl⟩ | ⟨k,p,c,h1,h2,rfl,rfl⟩
 ·exact h
 ·exact(j.jd.hd k p m h1 h2).o2
 ·have e:=j.jc.ce k _ _ h1 h2;exact(show Yg X.C H T s k p c from e).o2
def gf(X:Cs):Sp:=λvs H Q E=>∃wo pl,vs=[.ref wo,.ref pl]/\∃xs T s A M,WT H T/\s≠0/\WJ X H T s A M/\A.wo=wo/\PlO H T A M pl xs/\xs.length<=100/\(M.sw.phase="walk"->M.sw.grey.length<=10000)/\
 ∀H' T' l,iY s H H' T T'->WJ X H' T' s A (aZ M xs).2->H' l=some (.lst ((aZ M xs).1.map V.int))->H l=none->Q (.ref l) H'
def xr(X:Cs):Sp:=λvs H Q E=>∃wo p b,vs=[.ref wo,.int p,.int b]/\∃T s A M,WJ0 X H T s A M/\A.wo=wo/\Q (.bl (lW M p b)) H
def uz(X:Cs)(a:AH):Sp:=λvs H Q E=>∃wo z,vs=[.ref wo,.str z]/\∃T s A M,WJ X H T s A M/\A.wo=wo/\(vq M.names z=none->E (.ref a) none H)/\(∀p b,vq M.names z=some (p,b)->Q (if lW M p b=true then .non else .int p) H)
theorem Ac(x:AA):oV x=.non\/∃i,oV x=.int i:=by cases x with
 | none=>exact .inl rfl
 | some i=>exact .inr ⟨i,rfl⟩
section
variable {X:Cs}{H H':Hp}{T T':Tg}{s:Nat}{A:Wa}{M:Wm}
theorem WJ0.hpO(j:WJ0 X H T s A M):HpO X.H H A.hp A.ca M.room M.used M.born (A.cs.map pV):=⟨j.jh.oh,j.jh.oc⟩
theorem WJ0.look(j:WJ0 X H T s A M)(x:AA):(cO M x=none/\atO (A.cs.map pV) (oV x)=.non)\/∃i c p,x=some i/\0<=i/\cellAt M i=some c/\M.cells[i.toNat]? =some (some c)/\A.cs[i.toNat]? =some (some p)/\atO (A.cs.map pV) (oV x)=.ref p.1/\Yg X.C H T s i.toNat p c:=by
 cases x with
 | none=>exact .inl ⟨rfl,rfl⟩
 | some i=>
  show(cellAt M i=none/\atO _ (.int i)=_)\/_
  by_cases a:0<=i
  ·cases hc:M.cells[i.toNat]? with
   | none=>
    have hl:A.cs[i.toNat]? =none:=by
     rw[List.getElem?_eq_none_iff]at hc ⊢;rw[j.jc.lc];exact hc
    refine .inl ⟨by unfold cellAt;rw[if_pos a,hc];rfl,?_⟩;show(if 0<=i then _ else _)=_;rw[if_pos a,cF,hl];rfl
   | some y=>cases y with
    | none=>
     refine .inl ⟨by unfold cellAt;rw[if_pos a,hc];rfl,?_⟩;show(if 0<=i then _ else _)=_;rw[if_pos a,cF,j.jc.at0 hc];rfl
    | some c=>
     obtain⟨p,hp,e⟩:=j.jc.at hc;refine .inr ⟨i,c,p,rfl,a,by unfold cellAt;rw[if_pos a,hc];rfl,hc,hp,?_,e⟩;show(if 0<=i then _ else _)=_;rw[if_pos a,cF,hp];rfl
  ·refine .inl ⟨by unfold cellAt;rw[if_neg a],?_⟩;show(if 0<=i then _ else _)=_;rw[if_neg a]
theorem WJ.hpO(j:WJ X H T s A M):HpO X.H H A.hp A.ca M.room M.used M.born (A.cs.map pV):=j.w0.hpO
theorem WJ.look(j:WJ X H T s A M)(x:AA):(cO M x=none/\atO (A.cs.map pV) (oV x)=.non)\/∃i c p,x=some i/\0<=i/\cellAt M i=some c/\M.cells[i.toNat]? =some (some c)/\A.cs[i.toNat]? =some (some p)/\atO (A.cs.map pV) (oV x)=.ref p.1/\Yg X.C H T s i.toNat p c:=j.w0.look x
theorem WJ.hand(j:WJ X H T s A M){k:Nat}{p:AH×AH}(hp:A.hs[k]? =some p):∃m,M.hands[k]? =some m/\HdO X.D H T s k p m:=by
 have hl:k<M.hands.length:=by rw[<- j.jd.lh];exact(cZ hp).1
 exact⟨_,bK hl,j.jd.hd k p _ hp (bK hl)⟩
theorem WJ.handOf(j:WJ X H T s A M){h t:Nat}(o:Dz M h t):∃p m,A.hs[h]? =some p/\M.hands[h]? =some m/\m.2[t]? =some (aY M h t)/\t<m.2.length/\HdO X.D H T s h p m:=by
 obtain⟨m,hm,hk,hl⟩:=Zew o;have hh:h<A.hs.length:=by rw[j.jd.lh];exact(cZ hm).1
 exact⟨_,m,bK hh,hm,hk,hl,j.jd.hd h _ m (bK hh) hm⟩
theorem WJ.fresh(j:WJ X H T s A M){l:AH}{o:HO}{v:Nat×Nat}(h:H l=none):WJ X (upd H l o) (jC T l v) s A M:=
 j.mv (H':=upd H l o) (T':=jC T l v) ⟨λb u e _ _=>by rw[aD (aH e h)];exact e,λb u e=>jM (aH e h)⟩ λb u e _=>by rw[aD (aH e h)];exact e
end
theorem ZBs{t:Int}(h:0<=t/\t<4):Builtin.bitAnd t 1=t % 2/\(Builtin.bitAnd t 2=0↔¬ t / 2 % 2=1):=by
 have:t=0\/t=1\/t=2\/t=3:=δ
 rcases this with rfl | rfl | rfl | rfl<;>decide
section
variable {K:aC}{X:Cs}{H:Hp}{Q:VK}{E:XK}{n:ν}{bk ct:ν}
theorem Zkk{hp:AH}{pl:V}(T:qT K X)(q:(pl=.non\/∃i,pl=.int i)/\∃ca room used born cs,HpO X.H H hp ca room used born cs/\Q (atO cs pl) H):Jg K ξ [↑hp,some pl] H:=by
 obtain⟨a,ca,room,used,born,cs,⟨⟨b,h1⟩,h2⟩,q⟩:=q;unfold Jg;rcases a with rfl | ⟨i,rfl⟩
 ·apply q
 ·apply uE (λz=>?_) (λz=>?_)
  ·ext;rw[show atO cs (.int i)=.non from if_neg δ]at q;exact q
  ·rw[show atO cs (.int i)=(cs[i.toNat]?).getD .non from if_pos δ]at q;apply aF h1 T.c.cA T.c.bO bT ?_;apply jU (cB.of h2) ?_;apply uE (λy=>?_) (λy=>?_)
   ·ext;rw[List.getElem?_eq_none_iff.mpr δ]at q;exact q
   ·apply aF h1 T.c.cA T.c.bO bT ?_;ext;have hl:i.toNat<cs.length:=δ
    refine jg (cB.of h2) (qx δ (bK hl)) ?_;rw[bK hl]at q;exact q
theorem Zgf{hp:AH}{pl:V}(T:qT K X)(q:∃x,pl=oV x/\∃T s A M,WJ X H T s A M/\A.hp=hp/\Q (oV (uy M x)) H):EY K (eO X.H) ξ [↑hp,some pl,none] H:=by
 obtain⟨x,rfl,Tg,s,A,M,j,rfl,q⟩:=q;unfold EY;exists _,_,rfl,Ac x,_,_,_,_,_,j.hpO;rcases j.look x with ⟨d,a⟩ | ⟨i,c,p,rfl,e,b,_,_,a,⟨t1,t2,⟨f,o1⟩,o2⟩⟩
 ·rw[a];have:uy M x=none:=by
   cases x with
   | none=>rfl
   | some i=>show(cellAt M i).map _=none;rw[show cellAt M i=none from d];rfl
  rw[this]at q;apply q
 ·rw[a];have:uy M (some i)=some c.birth:=by show(cellAt M i).map _=_;rw[b];rfl
  rw[this]at q;apply aF o1 T.c.dz T.c.d9 iy ?_;exact q
theorem Ln{p:AH}{f:Int}(T:qT K X)(q:∃T s i q c,Yg X.C H T s i q c/\q.1=p/\Q (.bl (decide (0<=f) && decide (f<c.fl.length))) H):rE K ξ [↑p,some (.int f)] H:=by
 obtain⟨Tg,s,i,r,c,⟨t1,t2,⟨a,o1⟩,o2⟩,rfl,q⟩:=q;unfold rE;apply uE (λz=>?_) (λz=>?_)
 ·rw[decide_eq_true z,Bool.true_and]at q;apply aF o1 T.c.dz T.c.fL lY ?_;apply jU (cB.of o2) ?_;ext;rw[bB];exact q
 ·rw[decide_eq_false z,Bool.false_and]at q;apply q
theorem Ze8{wo:AH}{h:Int}(T:qT K X)(q:∃T s A M k p,WJ X H T s A M/\A.wo=wo/\h=((k:Nat):Int)/\A.hs[k]? =some p/\Q (.ref p.2) H):Eu K ξ [↑wo,some (.int h)] H:=by
 obtain⟨Tg,s,A,M,k,p,j,rfl,rfl,hp,q⟩:=q;obtain⟨a,ow⟩:=j.jb.ow;obtain⟨m,hm,⟨t1,t2,⟨b,o1⟩,o2⟩⟩:=j.hand hp;unfold Eu;apply aF ow T.cW T.nWd fK ?_;apply jg (cB.of j.jb.on) (jO (v:=.ref p.1) (by rw[cF,hp];rfl)) ?_;refine aF o1 T.cD T.nDs rO ?_;exact q
theorem Zcn{wo p:AH}(T:qT K X)(q:∃T s A M i q c,WJ0 X H T s A M/\A.wo=wo/\Yg X.C H T s i q c/\q.1=p/\Q (.bl (decide (c.tone=M.sw.sense))) H):Br K ξ [↑wo,↑p] H:=by
 obtain⟨Tg,s,A,M,i,r,c,j,rfl,⟨t1,t2,⟨b,o1⟩,o2⟩,rfl,q⟩:=q;obtain⟨a,ow⟩:=j.jb.ow;obtain⟨d,os⟩:=j.js.os;unfold Br;apply aF o1 T.c.dz T.c.nJ XJ ?_;apply aF ow T.cW T.Nq aW ?_;apply aF os T.cS T.n1 oM ?_;apply q
end
theorem Zzg{y:Int}:Builtin.bitAnd y 1=y % 2:=by
 unfold Builtin.bitAnd
 by_cases h:0<=y
 ·rw[decide_eq_true h,decide_eq_true (show(0:Int)<=1 by decide)];show((y.toNat &&& 1:Nat):Int)=_;rw[Nat.and_one_is_mod];omega
 ·rw[decide_eq_false h,decide_eq_true (show(0:Int)<=1 by decide)];show(1:Int) - ((1 &&& (Builtin.bitNot y).toNat:Nat):Int)=_;rw[Nat.and_comm,Nat.and_one_is_mod];unfold Builtin.bitNot;omega
section
variable {K:aC}{X:Cs}{H:Hp}{Q:VK}{E:XK}{n:ν}{bk ct:ν}{CE CF CN:AH}
theorem Zbt{wo:AH}{h:Int}(T:qT K X)(q:∃T s A M k,WJ X H T s A M/\A.wo=wo/\h=((k:Nat):Int)/\Q (.bl (dY M k)) H):Bq K ξ [↑wo,some (.int h)] H:=by
 obtain⟨Tg,s,A,M,k,j,rfl,rfl,q⟩:=q;obtain⟨b,ow⟩:=j.jb.ow;obtain⟨a,os⟩:=j.js.os;unfold Bq;apply aF ow T.cW T.Nq aW ?_;apply aF os T.cS T.n4 iZ ?_;ext;rw[Zzg,Int.toNat_natCast];exact q
theorem RX{wo:AH}{v:V}(T:qT K X)(q:∃T s A M,WJ X H T s A M/\A.wo=wo/\(0<=M.tells/\M.tells<4)/\∀l,H l=none->Q (.ref l) (upd H l (.lst (if old? M=true then [v]else [])))):
  wB K ξ [↑wo,some v] H:=by
 obtain⟨Tg,s,A,M,j,rfl,b,q⟩:=q;obtain⟨c,ow⟩:=j.jb.ow;obtain⟨d,ok⟩:=j.jb.ok;obtain⟨a,_⟩:=ZBs b;unfold wB;apply aF ow T.cW T.nWk mY ?_;apply aF ok T.cK T.nKt Gf ?_;ext;rw[a];refine uE (λz=>?_) (λz=>?_)
 ·apply⟨aR ζ,λl hl=>?_⟩;have:=q l hl;rw[if_neg (by unfold old?;rw[decide_eq_true_iff];omega)]at this;exact this
 ·apply⟨aR ζ,λl hl=>?_⟩;have:=q l hl;rw[if_pos (by unfold old?;rw[decide_eq_true_iff];omega)]at this;exact this
theorem RZ{wo:AH}{h:Int}{v:V}(T:qT K X)(q:∃T s A M k,WJ X H T s A M/\A.wo=wo/\(0<=M.tells/\M.tells<4)/\h=((k:Nat):Int)/\∀l,H l=none->Q (.ref l) (upd H l (.lst (if (tU M && !dY M k)=true then [v]else [])))):
  wC K (yq X) ξ [↑wo,some (.int h),some v] H:=by
 obtain⟨Tg,s,A,M,k,j,rfl,b,rfl,q⟩:=q;obtain⟨c,ow⟩:=j.jb.ow;obtain⟨d,ok⟩:=j.jb.ok;obtain⟨_,a⟩:=ZBs b;unfold wC;apply aF ow T.cW T.nWk mY ?_;apply aF ok T.cK T.nKt Gf ?_;apply uE (λz=>?_) (λz=>?_)
 ·apply⟨aR ζ,λl hl=>?_⟩;have:=q l hl;have e:tU M=false:=by unfold tU;exact decide_eq_false (a.mp z)
  rw[e,Bool.false_and,if_neg ε]at this;exact this
 ·have e:tU M=true:=by unfold tU;exact decide_eq_true (Decidable.not_not.mp λw=>z (a.mpr w))
  rw[e,Bool.true_and]at q;exists _,_,rfl,Tg,s,A,M,k,j,rfl,rfl;cases hl:dY M k with
  | true=>
   rw[hl]at q;apply⟨aR ζ,λl hl=>?_⟩;exact q l hl
  | false=>
   rw[hl]at q;apply⟨aR ζ,λl hl=>?_⟩;exact q l hl
theorem Zkj{wo:AH}{h t:Int}(T:qT K X)(q:∃T s A M hn tn,WJ X H T s A M/\A.wo=wo/\h=((hn:Nat):Int)/\t=((tn:Nat):Int)/\Dz M hn tn/\
 (cO M (aY M hn tn)=none->E (.ref CE) none H)/\
 (∀i c p,aY M hn tn=some i->0<=i->cellAt M i=some c->A.cs[i.toNat]? =some (some p)->Yg X.C H T s i.toNat p c->Q (.ref p.1) H)):
  Jf K CE (eO X.H) (cz X) E ξ [↑wo,some (.int h),some (.int t),none] H:=by
 obtain⟨Tg,s,A,M,hn,tn,j,rfl,rfl,rfl,ok,g,k⟩:=q;obtain⟨r,ow⟩:=j.jb.ow;obtain⟨p,m,hp,hm,hs,hl,⟨t1,t2,o1,o2⟩⟩:=j.handOf ok;unfold Jf;apply aF ow T.cW T.HS bw ?_;exists _,_,rfl,Tg,s,A,M,hn,p,j,rfl,rfl,hp;apply jg (cB.of o2) (jO (v:=oV (aY M hn tn)) (by rw[cF,hs];rfl)) ?_;exists _,_,rfl,Ac _,_,_,_,_,_,j.hpO;rcases j.look (aY M hn tn)with ⟨o,b⟩ | ⟨i,c,l,d,f,e,_,a,b,ce⟩
 ·rw[b];apply⟨ε,g o⟩
 ·rw[b];apply k i c l d f e a ce
theorem Zcr{wo:AH}{h t f:Int}(T:qT K X)(q:∃T s A M hn tn fn,WJ X H T s A M/\A.wo=wo/\h=((hn:Nat):Int)/\t=((tn:Nat):Int)/\f=((fn:Nat):Int)/\Dz M hn tn/\
 (cO M (aY M hn tn)=none->E (.ref CE) none H)/\
 (∀i c,aY M hn tn=some i->0<=i->cellAt M i=some c->c.fl[fn]? =none->E (.ref CF) none H)/\
 (∀i c p,aY M hn tn=some i->0<=i->cellAt M i=some c->A.cs[i.toNat]? =some (some p)->Yg X.C H T s i.toNat p c->fn<c.fl.length->Q (.ref p.2) H)):
  Bs K X.C CF (yr X) (lC X CE) E ξ [↑wo,some (.int h),some (.int t),some (.int f),none] H:=by
 obtain⟨Tg,s,A,M,hn,tn,fn,j,rfl,rfl,rfl,rfl,ok,e,l,k⟩:=q;unfold Bs;apply⟨_,_,_,rfl,Tg,s,A,M,hn,tn,j,rfl,rfl,rfl,ok,e,λi c p a d b hp ce=>?_⟩;obtain⟨t1,t2,⟨g,o1⟩,o2⟩:=id ce;exists p.1,g,_,rfl,o1,Jp;exists _,_,rfl,Tg,s,_,p,c,ce,rfl
 by_cases z:fn<c.fl.length
 ·rw[show(decide ((0:Int)<=(fn:Int)) && decide ((fn:Int)<c.fl.length))=true from by simp;omega];apply aF o1 T.c.dz T.c.fL lY ?_;exact k i c p a d b hp ce z
 ·rw[show(decide ((0:Int)<=(fn:Int)) && decide ((fn:Int)<c.fl.length))=false from by simp;omega];apply⟨ε,l i c a d b (List.getElem?_eq_none_iff.mpr δ)⟩
theorem Zvn{wo:AH}{pl b:Int}(T:qT K X)(q:∃T s A M,WJ0 X H T s A M/\A.wo=wo/\Q (.bl (lW M pl b)) H):Zar K (eO X.H) (cQ X) ξ [↑wo,some (.int pl),some (.int b),none] H:=by
 obtain⟨Tg,s,A,M,j,rfl,q⟩:=q;obtain⟨h,ow⟩:=j.jb.ow;obtain⟨l,os⟩:=j.js.os;unfold Zar;apply aF ow T.cW T.HS bw ?_;exists _,_,rfl,Ac (some pl),_,_,_,_,_,j.hpO;unfold lW at q;rcases j.look (some pl)with ⟨e,a⟩ | ⟨i,c,p,f,g,d,_,hp,a,ce⟩
 ·rw[show atO (A.cs.map pV) (.int pl)=.non from a];rw[show cellAt M pl=none from e]at q;apply q
 ·cases f;rw[show atO (A.cs.map pV) (.int pl)=.ref p.1 from a];rw[d]at q;dsimp only at q;obtain⟨t1,t2,⟨k,o1⟩,o2⟩:=id ce;apply aF o1 T.c.dz T.c.d9 iy ?_;apply xN (λz=>?_) (λz=>?_)
  ·rw[if_neg z]at q;apply q
  ·rw[if_pos z]at q;apply aF ow T.cW T.Nq aW ?_;apply aF os T.cS T.n2 eF ?_;apply uE (λy=>?_) (λy=>?_)
   ·exists _,_,rfl,Tg,s,A,M,_,p,c,j,rfl,ce,rfl;ext;have:decide (M.sw.phase="give"/\c.tone≠M.sw.sense)=!decide (c.tone=M.sw.sense):=by simp[y]
    rw[this]at q;exact q
   ·have:decide (M.sw.phase="give"/\c.tone≠M.sw.sense)=false:=decide_eq_false λw=>y w.1;rw[this]at q;exact q
theorem Zui{wo:AH}{pl:V}(T:qT K X)(q:∃x,pl=oV x/\∃T s A M,WT H T/\s≠0/\WJ X H T s A M/\A.wo=wo/\(M.sw.phase="walk"->M.sw.grey.length<=20000)/\
 ∀H',iY s H H' T T->WJ X H' T s A (cC M x).2->Q (oV (cC M x).1) H'):Zap K (eO X.H) (cQ X) ξ [↑wo,some pl,none,none] H:=by
 obtain⟨x,rfl,Tg,s,A,M,w,u,j,rfl,I,q⟩:=q;obtain⟨R,ow⟩:=j.jb.ow;obtain⟨U,os⟩:=j.js.os;unfold Zap;apply aF ow T.cW T.Nq aW ?_;apply aF ow T.cW T.HS bw ?_;exists _,_,rfl,Ac x,_,_,_,_,_,j.hpO;apply aF os T.cS T.n2 eF ?_;ext;have stay:cC M x=(none,M)->Q .non H:=λe=>by
  have:=q H (iY.refl w);rw[e]at this;exact this j
 refine xN (λz=>?_) (λz=>?_)
 ·apply stay (Jk z x)
 ·rcases j.look x with ⟨L,m⟩ | ⟨i,c,p,rfl,P,t,hc,hp,m,ce⟩
  ·rw[m];apply stay ?_;cases x with
   | none=>rfl
   | some i=>unfold cC;dsimp only;rw[show cellAt M i=none from L]
  ·rw[m];obtain⟨t1,t2,⟨dx,o1⟩,o2⟩:=id ce;exists _,_,rfl,Tg,s,A,M,_,p,c,j.w0,rfl,ce,rfl
   by_cases y:c.tone=M.sw.sense
   ·rw[decide_eq_true y];apply stay ?_;unfold cC;dsimp only;rw[t];dsimp only;rw[if_neg λw=>w.2 y]
   ·rw[decide_eq_false y];have J:cC M (some i)=(some c.birth,{ setCell M i { c with tone:=M.sw.sense }with sw:={ M.sw with grey:=M.sw.grey++[i] } }):=by
     unfold cC;dsimp only;rw[t];dsimp only;rw[if_pos ⟨z,y⟩]
    rw[J]at q;apply aF os T.cS T.n1 oM ?_;apply⟨p.1,X.C,dx,_,rfl,o1,T.c.dz,T.c.nJ,by show 5<1000;decide,?_⟩;rw[Vn];obtain⟨a,b⟩:=j.cell w u (dx:=dx) (tone:=M.sw.sense) (load:=c.load) hp ce;generalize upd H p.1 (.ins X.C dx (o7 c.birth c.bulk M.sw.sense c.load p.2))=v at a b ⊢;obtain⟨O,o⟩:=b.js.os;obtain⟨W,h,F⟩:=b.jc.at (i:=i.toNat) (c:={ c with tone:=M.sw.sense,load:=c.load }) (by rw[List.getElem?_set_self (cZ hc).1]);rw[hp]at h;cases h;apply aF o T.cS T.n3 mZ ?_;ext;have k:=I z;refine⟨.inl ⟨rfl,_,cB.of b.js.og⟩,?_⟩;exists _,_,_,rfl,rfl,b.js.og,?_
    ·rw[bB];exact Nat.lt_of_le_of_lt k ε
    obtain⟨d,l⟩:=b.Zwl a.wt u (g:=M.sw.grey++[i]);have B:(M.sw.grey.map V.int++[V.int i])=(M.sw.grey++[i]).map V.int:=by rw[List.map_append];rfl
    show bG _ _ _ (upd v A.gr (.lst (M.sw.grey.map V.int++[oV (some i)])));rw[show(M.sw.grey.map V.int++[oV (some i)])=(M.sw.grey++[i]).map V.int from B];generalize upd v A.gr (.lst ((M.sw.grey++[i]).map V.int))=E at d l ⊢;obtain⟨S,f,r⟩:=l.jc.at (i:=i.toNat) (c:={ c with tone:=M.sw.sense,load:=c.load }) (by show(M.cells.set _ _)[_]? =_;rw[List.getElem?_set_self (cZ hc).1]);rw[hp]at f;cases f;obtain⟨_,_,⟨D,N⟩,_⟩:=r;apply aF N T.c.dz T.c.d9 iy ?_;exact q E (a.trans d) l
theorem Zqh{Tg:Tg}{z:Str}:∀{ns:AE}{names:List (Str×(Int×Int))},Al (NmO H Tg) ns names->(vq names z=none/\o9 (vp names ns) (Sum.inr z)=none)\/∃p b t,vq names z=some (p,b)/\o9 (vp names ns) (Sum.inr z)=↑t/\H t=some (.tup [.int p,.int b])/\Tg t=(0,0):=by
 intro ns names h
 induction h with
 | nil=>exact .inl ⟨rfl,rfl⟩
 | @cons t m ns names h1 _ ih=>
  by_cases e:m.1=z
  ·refine .inr ⟨m.2.1,m.2.2,t,?_,?_,h1.2,h1.1⟩
   ·unfold vq;rw[List.find?_cons_of_pos (by simpa using e)];rfl
   ·show(List.find? _ ((Sum.inr m.1,V.ref t)::vp names ns)).map _=_;rw[List.find?_cons_of_pos (by simpa using e)];rfl
  ·have g:vq (m::names) z=vq names z:=by unfold vq;rw[List.find?_cons_of_neg (by simpa using e)]
   have v:o9 (vp (m::names) (t::ns)) (Sum.inr z)=o9 (vp names ns) (Sum.inr z):=by
    show(List.find? _ ((Sum.inr m.1,V.ref t)::vp names ns)).map _=_;rw[List.find?_cons_of_neg (by simpa using e)];rfl
   rw[g,v];exact ih
theorem Ti{wo:AH}{z:Str}(T:qT K X)(q:∃T s A M,WJ X H T s A M/\A.wo=wo/\(vq M.names z=none->E (.ref CN) none H)/\(∀p b,vq M.names z=some (p,b)->Q (if lW M p b=true then .non else .int p) H)):
  wD K CN (xr X) E ξ [↑wo,some (.str z),none,none] H:=by
 obtain⟨Tg,s,A,M,j,rfl,f,g⟩:=q;obtain⟨h,ow⟩:=j.jb.ow;obtain⟨tm,om,nms⟩:=j.jn;unfold wD;apply aF ow T.cW T.nWn jP ?_;refine⟨_,_,rfl,Zsf om,?_⟩;rcases Zqh (z:=z) nms with ⟨c,a⟩ | ⟨p,b,t,c,a,e,_⟩
 ·rw[a];apply⟨ε,f c⟩
 ·rw[a,show(!(some (V.ref t)).isSome)=false from rfl];apply aF ow T.cW T.nWn jP ?_;apply⟨_,_,rfl,by have:=Zsf (z:=z) om;rw[a]at this;exact this,?_⟩;exists t,_,0,_,rfl,rfl,fY.of e,rfl;apply aF ow T.cW T.nWn jP ?_;apply⟨_,_,rfl,by have:=Zsf (z:=z) om;rw[a]at this;exact this,?_⟩;exists t,_,1,_,rfl,rfl,fY.of e,rfl;exists _,_,_,rfl,Tg,s,A,M,j.w0,rfl;have:=g p b c;cases d:lW M p b with
  | true=>
   rw[d]at this;apply this
  | false=>
   rw[d]at this;apply this
theorem iY.new{s:Nat}{H a:Hp}{T c:Tg}{l:AH}{o d:HO}(e:iY s H a T c)(hl:H l=none)(hx:a l=some d):iY s H (upd a l o) T c where
 kp:=λb u h z=>by rw[aD (aH h hl)];exact e.kp b u h z
 al:=λb u h=>by rw[aD (aH h hl)];exact e.al b u h
 tg:=e.tg
 wt:=λb h=>e.wt b (by
  by_cases z:b=l
  ·rw[z,aq]at h;cases h
  ·rw[aD z]at h;exact h)
theorem iY.fresh{s:Nat}{H:Hp}{T:Tg}{l:AH}{o:HO}{v:Nat×Nat}(w:WT H T)(hl:H l=none):iY s H (upd H l o) T (jC T l v) where
 kp:=λb u h z=>by rw[aD (aH h hl)];exact h
 al:=λb u h=>⟨u,by rw[aD (aH h hl)];exact h⟩
 tg:=λb u h=>jM (aH h hl)
 wt:=λb h=>by
  by_cases z:b=l
  ·rw[z,aq]at h;cases h
  ·rw[aD z]at h;rw[jM z];exact w b h
theorem Zj1{M:Wm}{x:AA}:(cC M x).2.sw.phase=M.sw.phase/\(cC M x).2.sw.grey.length<=M.sw.grey.length+1/\(cC M x).2.tells=M.tells/\(cC M x).2.names=M.names:=by
 cases x with
 | none=>exact⟨rfl,Nat.le_succ _,rfl,rfl⟩
 | some i=>
  unfold cC;dsimp only;cases cellAt M i with
  | none=>exact⟨rfl,Nat.le_succ _,rfl,rfl⟩
  | some c=>
   dsimp only
   by_cases z:M.sw.phase="walk"/\c.tone≠M.sw.sense
   ·rw[if_pos z];exact⟨rfl,by show(M.sw.grey++[i]).length<=_;rw[List.length_append];exact Nat.le_refl _,rfl,rfl⟩
   ·rw[if_neg z];exact⟨rfl,Nat.le_succ _,rfl,rfl⟩
theorem Pr{M:Wm}{x:AA}:(cC M x).2.hands=M.hands:=by
 cases x with
 | none=>rfl
 | some i=>
  unfold cC;dsimp only;cases cellAt M i with
  | none=>rfl
  | some c=>
   dsimp only;split<;>rfl
theorem Zj2{M:Wm}{x:AA}{k:Nat}{c:Ce}(h:M.cells[k]? =some (some c)):∃c',(cC M x).2.cells[k]? =some (some c')/\c'.fl=c.fl/\c'.birth=c.birth/\c'.bulk=c.bulk/\c'.load=c.load:=by
 cases x with
 | none=>exact⟨c,h,rfl,rfl,rfl,rfl⟩
 | some i=>
  unfold cC;dsimp only;cases hc:cellAt M i with
  | none=>exact⟨c,h,rfl,rfl,rfl,rfl⟩
  | some d=>
   dsimp only;split
   ·show ∃c',(M.cells.set i.toNat _)[k]? =_/\_
    by_cases z:i.toNat=k
    ·subst z;obtain⟨_,hd⟩:=cj.mp hc;rw[h]at hd;cases hd;exact⟨_,List.getElem?_set_self (cZ h).1,rfl,rfl,rfl,rfl⟩
    ·rw[List.getElem?_set_ne z];exact⟨c,h,rfl,rfl,rfl,rfl⟩
   ·exact⟨c,h,rfl,rfl,rfl,rfl⟩
theorem mJ:∀{l:Au}{M:Wm}{x:AA},aZ M (l++[x])=((aZ M l).1++ofN (cC (aZ M l).2 x).1,(cC (aZ M l).2 x).2)
 | [],M,x=>by
  show(ofN (cC M x).1++[],(cC M x).2)=([]++ofN (cC M x).1,(cC M x).2);rw[List.append_nil,List.nil_append]
 | y::l,M,x=>by
  show(ofN (cC M y).1++(aZ (cC M y).2 (l++[x])).1,(aZ (cC M y).2 (l++[x])).2)=_;rw[mJ];show _=((ofN (cC M y).1++(aZ (cC M y).2 l).1)++_,_);rw[List.append_assoc];rfl
theorem yc:∀{l:Au}{M:Wm},(aZ M l).2.sw.phase=M.sw.phase/\(aZ M l).2.sw.grey.length<=M.sw.grey.length+l.length
 | [],M=>⟨rfl,Nat.le_refl _⟩
 | y::l,M=>by
  obtain⟨a,b,_⟩:=Zj1 (M:=M) (x:=y);obtain⟨c,d⟩:=yc (l:=l) (M:=(cC M y).2);refine⟨c.trans a,?_⟩;show(aZ (cC M y).2 l).2.sw.grey.length<=_;rw[List.length_cons];omega
theorem Cw:∀{l:Au}{M:Wm},(aZ M l).1.length<=l.length
 | [],M=>Nat.le_refl _
 | y::l,M=>by
  have:=Cw (l:=l) (M:=(cC M y).2);show(ofN (cC M y).1++(aZ (cC M y).2 l).1).length<=_;rw[List.length_append,List.length_cons];have:(ofN (cC M y).1).length<=1:=by cases (cC M y).1<;>simp[ofN]
  omega
theorem Zex{wo pl:AH}(T:qT K X)(q:∃xs T s A M,WT H T/\s≠0/\WJ X H T s A M/\A.wo=wo/\PlO H T A M pl xs/\xs.length<=100/\(M.sw.phase="walk"->M.sw.grey.length<=10000)/\
 ∀H' T' l,iY s H H' T T'->WJ X H' T' s A (aZ M xs).2->H' l=some (.lst ((aZ M xs).1.map V.int))->H l=none->Q (.ref l) H'):Ew K (Jr X) ξ [↑wo,↑pl,none,none,none] H:=by
 obtain⟨xs,Tg,s,A,M,w,U,j,rfl,F,hx,hg,q⟩:=q;have D:=F.get j;unfold Ew;apply⟨aR ζ,λl hl=>?_⟩;have f:pl≠l:=aH D hl;have t:iY s H (upd H l (.lst [])) Tg (jC Tg l (s+1,0)):=iY.fresh w hl;have R:WJ X (upd H l (.lst [])) (jC Tg l (s+1,0)) s A M:=j.fresh hl;have g1:upd H l (.lst []) l=some (.lst []):=aq;have tl:jC Tg l (s+1,0) l=(s+1,0):=iB;have r:PlO (upd H l (.lst [])) (jC Tg l (s+1,0)) A M pl xs:=by
  rcases F with ⟨h1,h2⟩ | h
  ·exact .inl ⟨(aD f).trans h1,(jM f).trans h2⟩
  ·exact .inr h
 have E:upd H l (.lst []) pl=some (.lst (xs.map oV)):=(aD f).trans D;generalize upd H l (.lst [])=H1 at t R g1 E r ⊢;generalize jC Tg l (s+1,0)=v at t R tl r;apply⟨pl,rfl,⟨_,cB.of E⟩,forL (xs.map oV) (λi S o=>∃P O,S=[↑A.wo,↑pl,↑l,P,O]/\iY s H o Tg v/\WJ X o v s A (aZ M (xs.take i)).2/\o l=some (.lst ((aZ M (xs.take i)).1.map V.int))/\PlO o v A (aZ M (xs.take i)).2 pl xs) ⟨_,_,rfl,t,R,g1,r⟩ (by rintro _ _ _ _ ⟨_,_,_,_,j,_,e⟩;exact cB.of (e.get j)) ?_ ?_⟩
 ·rintro i x S o W ⟨P,O,rfl,g,J,L,I⟩;obtain⟨y,hy,rfl⟩:∃y,xs[i]? =some y/\oV y=x:=by
   rw[cF]at W;obtain⟨y,a,b⟩:=Option.map_eq_some_iff.mp W;exact⟨y,a,b⟩
  have il:=(cZ hy).1;have u:xs.take (i+1)=xs.take i++[y]:=by
   rw[List.take_add_one,hy];rfl
  obtain⟨gp,gl⟩:=yc (l:=xs.take i) (M:=M);have nl:=Cw (l:=xs.take i) (M:=M);have tk:(xs.take i).length<=100:=by rw[List.length_take];omega
  apply⟨_,_,rfl,y,rfl,v,s,A,_,g.wt,U,J,rfl,λz=>?_,λN d Y=>?_⟩
  ·have:=hg (gp.symm.trans z);omega
  have C:N l=some (.lst ((aZ M (xs.take i)).1.map V.int)):=d.kp _ _ L (by rw[tl];show s+1≠s;omega);have Z:PlO N v A (cC (aZ M (xs.take i)).2 y).2 pl xs:=by
   rcases I with ⟨h1,h2⟩ | ⟨k,p,m,h1,h2,h3,h4⟩ | ⟨k,p,c,h1,h2,h3,h4⟩
   ·exact .inl ⟨d.kp _ _ h1 (by rw[h2];exact λz=>U z.symm),h2⟩
   ·exact .inr (.inl ⟨k,p,m,h1,by rw[Pr];exact h2,h3,h4⟩)
   ·obtain⟨c',e1,e2,_⟩:=Zj2 (x:=y) h2;exact .inr (.inr ⟨k,p,c',h1,e1,h3,by rw[e2];exact h4⟩)
  have B:=g.trans d;ext;cases hn:(cC (aZ M (xs.take i)).2 y).1 with
  | none=>
   dsimp only[oV];apply⟨_,_,rfl,B,?_,?_,by rw[u,mJ];exact Z⟩
   ·rw[u,mJ];exact Y
   ·rw[u,mJ];show N l=some (.lst (((aZ M (xs.take i)).1++ofN (cC (aZ M (xs.take i)).2 y).1).map V.int));rw[hn];show N l=some (.lst (((aZ M (xs.take i)).1++[]).map V.int));rw[List.append_nil];exact C
  | some b=>
   dsimp only[oV];exists .inl ⟨rfl,_,cB.of C⟩;exists _,_,_,rfl,rfl,C,?_
   ·rw[bB];exact Nat.lt_of_le_of_lt (show _<=100 by omega) ε
   exists _,_,rfl,iY.new B hl C,?_,?_
   ·rw[u,mJ];exact Y.other (s':=s+1) (iY.upd d.wt C (by rw[tl])) δ δ
   ·rw[u,mJ,aq];show some (HO.lst _)=some (HO.lst (((aZ M (xs.take i)).1++ofN (cC (aZ M (xs.take i)).2 y).1).map V.int));rw[hn,List.map_append];rfl
   ·rw[u,mJ];rcases Z with ⟨h1,h2⟩ | h
    ·exact .inl ⟨by rw[aD f];exact h1,h2⟩
    ·exact .inr h
 ·rintro S o ⟨P,O,rfl,g,J,L,I⟩;ext;rw[show(xs.map oV).length=xs.length from bB _,List.take_length]at J L;exact q o v l g J L hl
end
theorem sO{M:Wm}{h k:Nat}{x:AA}{m:Str×Au}(hm:M.hands[h]? =some m):{ M with hands:=M.hands.set h (m.1,m.2.set k x) }=setSlot M h k x:=by
 have e:=V5 (k:=k) (x:=x) hm;show _={ M with hands:=_ };rw[show(M.hands.modify h λm=>(m.1,m.2.set k x))=M.hands.set h (m.1,m.2.set k x)from e]
def N7(d:pP):Prop:=∃h s many bulk,d=.make h s many bulk
def Y8(d:pP):Prop:=∃h s t f,d=.get h s t f
def Y7(d:pP):Prop:=∃h t f s,d=.put h t f s
def Od(d:pP):Prop:=∃h s t,d=.copy h s t
def Oc(d:pP):Prop:=∃h s,d=.drop h s
def Ob(d:pP):Prop:=∃h s g t,d=.give h s g t
def GX(d:pP):Prop:=∃h t load,d=.write h t load
def N6(d:pP):Prop:=∃h t,d=.read h t
def isName(d:pP):Prop:=∃h t word,d=.name h t word
def N5(d:pP):Prop:=∃h s word,d=.seek h s word
abbrev Gz(X:Cs)(rf:Rf->AH)(P:pP->Prop)(wo dd:AH)(H:Hp)(Q:VK)(E:XK):Prop:=∃T s A M d,P d/\WT H T/\s≠0/\WJ X H T s A M/\A.wo=wo/\H dd=some (.tup (dV d))/\okD M d/\M.cells.length<=900/\(M.sw.phase="walk"->M.sw.grey.length<=10000)/\(0<=M.tells/\M.tells<4)/\M.names.length<=1000/\
 (∀r,su M d=.error r->∀H',aU H H'->E (.ref (rf r)) none H')/\
 (∀e M',su M d=.ok (e,M')->∀H' T' A' a,iY s H H' T T'->WJ X H' T' s A' M'->A'.wo=wo->EvN H H' a e->Q (.ref a) H')
section
variable {X:Cs}{H Hx:Hp}{T Tx:Tg}{s:Nat}{A Ax:Wa}{M M':Wm}{d:pP}{e:Ev}{wo:AH}{Q:VK}
theorem iY.free{s:Nat}{H Hx:Hp}{T Tx:Tg}{l:AH}(e:iY s H Hx T Tx)(h:Hx l=none):H l=none:=by
 cases z:H l with
 | none=>rfl
 | some o=>obtain⟨b,a⟩:=e.al l o z;rw[h]at a;cases a
theorem ev0(i:∀e M',su M d=.ok (e,M')->∀H' T' b a,iY s H H' T T'->WJ X H' T' s b M'->b.wo=wo->EvN H H' a e->Q (.ref a) H')(h:su M d=.ok (e,M'))(hn:e.notes=[])(st:iY s H Hx T Tx)(j:WJ X Hx Tx s Ax M')(m:Ax.wo=wo){l a:AH}(hl:Hx l=none)(g:upd Hx l (.lst []) a=none):
  Q (.ref a) (upd (upd Hx l (.lst [])) a (.tup [.str e.word,oV e.thing,.ref l])):=by
 have k:=aK hl (.lst []);have c:=aK g (.tup [.str e.word,oV e.thing,.ref l]);have f:=k.trans c;refine i e M' h _ Tx Ax a (st.trans (iY.same st.wt f)) (j.same f) m ⟨l,iY.free st hl,aq,?_⟩;rw[hn];exact c _ _ aq
theorem ev1{l a:AH}(c:H l=none)(i:∀e M',su M d=.ok (e,M')->∀H' T' f a,iY s H H' T T'->WJ X H' T' s f M'->f.wo=wo->EvN H H' a e->Q (.ref a) H')(h:su M d=.ok (e,M'))(st:iY s H Hx T Tx)(j:WJ X Hx Tx s Ax M')(k:Ax.wo=wo)(hl:Hx l=some (.lst (e.notes.map V.int)))(g:Hx a=none):
  Q (.ref a) (upd Hx a (.tup [.str e.word,oV e.thing,.ref l])):=by
 have b:=aK g (.tup [.str e.word,oV e.thing,.ref l]);exact i e M' h _ Tx Ax a (st.trans (iY.same st.wt b)) (j.same b) k ⟨l,c,aq,b _ _ hl⟩
end
theorem Pn{M:Wm}{i:Int}{c c':Ce}(h:cellAt M i=some c)(hb:c'.birth=c.birth)(x:AA):uy (setCell M i c') x=uy M x:=by
 cases x with
 | none=>rfl
 | some y=>
  obtain⟨a,h1⟩:=cj.mp h;show(cellAt (setCell M i c') y).map _=(cellAt M y).map _
  by_cases e:y=i
  ·subst e;rw[h,show cellAt (setCell M y c') y=some c' from cj.mpr ⟨a,by show(M.cells.set _ _)[_]? =_;rw[List.getElem?_set_self (cZ h1).1]⟩];show some c'.birth=some c.birth;rw[hb]
  ·have:cellAt (setCell M i c') y=cellAt M y:=by
    unfold cellAt setCell
    by_cases z:0<=y
    ·rw[if_pos z,if_pos z];show((M.cells.set _ _)[_]?).join=_;rw[List.getElem?_set_ne δ]
    ·rw[if_neg z,if_neg z]
   rw[this]
theorem Zmx{M:Wm}{y:AA}(x:AA):uy (cC M y).2 x=uy M x:=by
 cases y with
 | none=>rfl
 | some i=>
  unfold cC;dsimp only;cases hc:cellAt M i with
  | none=>rfl
  | some c=>
   dsimp only
   by_cases z:M.sw.phase="walk"/\c.tone≠M.sw.sense
   ·rw[if_pos z];have e:=Pn (M:=M) (i:=i) (c:=c) (c':={ c with tone:=M.sw.sense }) hc rfl x;cases x with
    | none=>rfl
    | some y=>exact e
   ·rw[if_neg z]
theorem Cy:∀{l:Au}{M:Wm} (x:AA),uy (aZ M l).2 x=uy M x
 | [],_,_=>rfl
 | y::l,M,x=>(Cy (l:=l) (M:=(cC M y).2) x).trans (Zmx x)
theorem Zrd{b:Bool}{x:AA}:(if b=true then [oV x]else [])=(if b=true then [x]else []).map oV:=by cases b<;>rfl
section
variable {K:aC}{X:Cs}{H:Hp}{Q:VK}{E:XK}{n:ν}{bk ct:ν}{rf:Rf->AH}
theorem Zkf{wo dd:AH}(T:qT K X)(q:Gz X rf Od wo dd H Q E):Je K (bV X) (cz X) ξ [↑wo,↑dd,none,none] H:=by
 obtain⟨Tg,s,A,M,_,⟨h,sl,t,rfl⟩,w,g,j,rfl,od,⟨o1,o2⟩,hc,y,C,hn,u,i⟩:=q;obtain⟨p,m,hp,hm,hs,hl,hd⟩:=j.handOf o2;obtain⟨B,c,_,f⟩:=Zew o1;rw[hm]at c;cases c;unfold Je;exists dd,_,1,_,rfl,rfl,fY.of od,rfl;exists _,_,rfl,Tg,s,A,M,h,p,j,rfl,rfl,hp;exists dd,_,3,_,rfl,rfl,fY.of od,rfl;refine jg (cB.of hd.o2) (jO (v:=oV (aY M h t)) (by rw[cF,hs];rfl)) ?_;exists dd,_,2,_,rfl,rfl,fY.of od,rfl;refine⟨p.2,_,_,sl,rfl,rfl,hd.o2,uw (by rw[bB];exact f),?_⟩;obtain⟨e,b⟩:=j.slot w g (k:=sl) (x:=aY M h t) hp hm;rw[sO hm]at b;generalize upd H p.2 (.lst ((m.2.map oV).set sl (oV (aY M h t))))=z at e b ⊢;obtain⟨r,ow⟩:=b.jb.ow;apply aF ow T.cW T.HS bw ?_;exists _,_,rfl,aY M h t,rfl,Tg,s,A,_,b,rfl;rw[qR];apply⟨aR ζ,λl hl=>⟨aR ζ,λa o=>?_⟩⟩;exact ev0 i (d:=.copy h sl t) rfl rfl e b rfl hl o
theorem Zke{wo dd:AH}(T:qT K X)(q:Gz X rf Oc wo dd H Q E):Jc K (bV X) (cz X) ξ [↑wo,↑dd,none,none] H:=by
 obtain⟨Tg,s,A,M,_,⟨h,sl,rfl⟩,w,e,j,rfl,od,o1,hc,r,u,hn,o,f⟩:=q;obtain⟨p,m,hp,hm,hs,hl,hd⟩:=j.handOf o1;unfold Jc;exists dd,_,1,_,rfl,rfl,fY.of od,rfl;exists _,_,rfl,Tg,s,A,M,h,p,j,rfl,rfl,hp;exists dd,_,2,_,rfl,rfl,fY.of od,rfl;refine jg (cB.of hd.o2) (jO (v:=oV (aY M h sl)) (by rw[cF,hs];rfl)) ?_;exists dd,_,2,_,rfl,rfl,fY.of od,rfl;refine⟨p.2,_,_,sl,rfl,rfl,hd.o2,uw (by rw[bB];exact hl),?_⟩;obtain⟨c,b⟩:=j.slot w e (k:=sl) (x:=none) hp hm;rw[sO hm]at b;show bG _ _ _ (upd H p.2 (.lst ((m.2.map oV).set sl (oV none))));generalize upd H p.2 (.lst ((m.2.map oV).set sl (oV none)))=t at c b ⊢;obtain⟨i,ow⟩:=b.jb.ow;apply aF ow T.cW T.HS bw ?_;exists _,_,rfl,aY M h sl,rfl,Tg,s,A,_,b,rfl;rw[qR];apply⟨aR ζ,λl hl=>⟨aR ζ,λa g=>?_⟩⟩;exact ev0 f (d:=.drop h sl) rfl rfl c b rfl hl g
theorem Zkd{wo dd:AH}(T:qT K X)(q:Gz X rf Ob wo dd H Q E):Jb K (bV X) (gf X) (cz X) (qM X) ξ [↑wo,↑dd,none,none,none,none] H:=by
 obtain⟨Tg,s,A,M,_,⟨h,sl,g,t,rfl⟩,w,C,j,rfl,od,⟨o1,o2⟩,hc,I,U,hn,W,L⟩:=q;obtain⟨p,m,hp,hm,hs,hl,hd⟩:=j.handOf o1;obtain⟨z,N,c,f,F,B,r⟩:=j.handOf o2;unfold Jb;exists dd,_,1,_,rfl,rfl,fY.of od,rfl;exists dd,_,3,_,rfl,rfl,fY.of od,rfl;exists _,_,rfl,Tg,s,A,M,h,p,j,rfl,rfl,hp;exists dd,_,2,_,rfl,rfl,fY.of od,rfl;refine jg (cB.of hd.o2) (jO (v:=oV (aY M h sl)) (by rw[cF,hs];rfl)) ?_;exists _,_,rfl,Tg,s,A,M,g,z,j,rfl,rfl,c;exists dd,_,4,_,rfl,rfl,fY.of od,rfl;refine⟨z.2,_,_,t,rfl,rfl,r.o2,uw (by rw[bB];exact B),?_⟩;obtain⟨b,i⟩:=j.slot w C (k:=t) (x:=aY M h sl) c f;rw[sO f]at i;generalize upd H z.2 (.lst ((N.2.map oV).set t (oV (aY M h sl))))=J at b i ⊢;apply⟨_,_,_,rfl,Tg,s,A,_,h,i,rfl,U,rfl,λD e=>?_⟩;rw[show(tU (setSlot M g t (aY M h sl)) && !dY (setSlot M g t (aY M h sl)) h)=(tU M && !dY M h)from rfl,Zrd];generalize zz:upd J D _=H2;obtain⟨l,R⟩:=nwO e zz;apply⟨_,_,rfl,_,Tg,s,A,_,b.wt.same l,C,i.same l,rfl,.inl ⟨R,b.wt _ e⟩,by cases (tU M && !dY M h)<;>simp,I,λZ O Y o u P y=>?_⟩;obtain⟨V,ow⟩:=u.jb.ow;apply aF ow T.cW T.HS bw ?_;exists _,_,rfl,aY M h sl,rfl,O,s,A,_,u,rfl;rw[Cy,qR];apply⟨aR ζ,λa S=>?_⟩;exact ev1 (iY.free b (l.free y)) L (d:=.give h sl g t) rfl (b.trans ((iY.same b.wt l).trans o)) u rfl P S
theorem Zkc{wo dd Y:AH}(T:qT K X)(hF:rf .full=Y)(q:Gz X rf N7 wo dd H Q E):IW K X.H (yu K X.C X.H Y) (bV X) (cz X) E ξ [↑wo,↑dd,none,none,none,none] H:=by
 obtain⟨Tg,s,A,M,_,⟨h,sl,f,bulk,rfl⟩,w,Z,j,rfl,od,⟨o1,m0,m1,b0⟩,hc,hg,ht,hn,hE,hQ⟩:=q;obtain⟨p,m,hp,hm,hs,hl,hd⟩:=j.handOf o1;obtain⟨d1,ow⟩:=j.jb.ow;obtain⟨d2,os⟩:=j.js.os;obtain⟨th,tc,⟨N,oh⟩,oc⟩:=j.jh;have hcs:A.cs.length<=900:=by rw[j.jc.lc];exact hc
 unfold IW;exists dd,_,1,_,rfl,rfl,fY.of od,rfl;exists _,_,rfl,Tg,s,A,M,h,p,j,rfl,rfl,hp;exists dd,_,3,_,rfl,rfl,fY.of od,rfl;exists dd,_,4,_,rfl,rfl,fY.of od,rfl;apply aF ow T.cW T.HS bw ?_;refine⟨A.hp,N,_,rfl,oh,Xl,?_⟩;apply aF ow T.cW T.Nq aW ?_;apply aF os T.cS T.n1 oM ?_;apply⟨_,_,_,_,rfl,A.ca,N,_,_,_,_,oh,oc,?_,by rw[bB];omega,m0,m1,λhf H' sm=>?_,λhf R fa J L B W a1 a2 co=>?_⟩
 ·intro y hy;obtain⟨o,ho,rfl⟩:=List.mem_map.mp hy;cases o with
  | none=>exact .inl rfl
  | some g=>
   obtain⟨i,I,D⟩:=List.getElem_of_mem ho;have e:=j.jc.ce i _ _ (bK I) (bK (by rw[<- j.jc.lc];exact I));rw[D]at e;cases t:M.cells[i]'(by rw[<- j.jc.lc];exact I)with
   | none=>rw[t]at e;exact e.elim
   | some c=>
    rw[t]at e;obtain⟨_,_,⟨dx,o1⟩,_⟩:=(show Yg X.C H Tg s i g c from e);exact .inr ⟨g.1,X.C,dx,_,rfl,o1,T.c.dz,T.c.RB⟩
 ·rw[<- hF];refine hE .full ?_ H' sm;show(if _ then _ else _)=_;rw[if_neg δ]
 ·obtain⟨⟨dp,c1⟩,S⟩:=co;have P:R≠fa:=qe c1 S (λz=>by cases z);obtain⟨T1,u,U⟩:=j.put w Z (H':=J) (dx:=N) (used':=M.used+(1+f+bulk)) (p:=R) (fa:=fa) (c:=⟨M.born+1,bulk,M.sw.sense,0,List.replicate f.toNat none⟩)
   (λb o hb n1 n2=>W b o hb (by simp[n1,n2])) a1 a2 L B P ⟨dp,c1⟩ (by rw[S,List.map_replicate];rfl)
  have D:((A.cs.map pV).idxOf V.non:Int)=(mW M.cells:Nat):=by rw[(Zg1 Zq2 A.cs).1,j.jc.fst]
  ext;rw[D];refine⟨dd,_,2,_,rfl,rfl,fY.of (W _ _ od ?_),rfl,?_⟩
  ·intro z;rcases List.mem_cons.mp z with z | z
   ·rw[z,oh]at od;cases od
   ·rw[List.mem_singleton.mp z,oc]at od;cases od
  have F:=U.jd.hd h p m hp hm;refine⟨p.2,_,_,sl,rfl,rfl,F.o2,uw (by rw[bB];exact hl),?_⟩;obtain⟨v,r⟩:=U.slot u.wt Z (k:=sl) (x:=some (mW M.cells:Nat)) hp hm;rw[sO (M:={ M with used:=M.used+(1+f+bulk),born:=M.born+1,cells:=pI M.cells ⟨M.born+1,bulk,M.sw.sense,0,List.replicate f.toNat none⟩ }) hm]at r;show bG _ _ _ (upd J p.2 (.lst ((m.2.map oV).set sl (oV (some (mW M.cells:Nat))))));generalize upd J p.2 (.lst ((m.2.map oV).set sl (oV (some (mW M.cells:Nat)))))=H2 at v r ⊢;obtain⟨d5,O⟩:=r.jb.ow;apply aF O T.cW T.HS bw ?_;exists _,_,rfl,some (mW M.cells:Nat),rfl,T1,s,_,_,r,rfl;rw[qR];rw[show uy { M with used:=M.used+(1+f+bulk),born:=M.born+1,cells:=pI M.cells ⟨M.born+1,bulk,M.sw.sense,0,List.replicate f.toNat none⟩ } (some (mW M.cells:Nat))=some (M.born+1)from by
   show(cellAt _ _).map _=_;rw[Vq];rfl]
  apply⟨aR ζ,λl hl=>⟨aR ζ,λa ha=>?_⟩⟩;exact ev0 hQ (d:=.make h sl f bulk) (Zg9 δ) rfl (u.trans v) r rfl hl ha
end
theorem Zo9{M:Wm}{h s t f:Nat}(e:cO M (aY M h t)=none):su M (.get h s t f)=.error .empty:=by
 show(match aY M h t with | none=>_ | some x=>_)=_;cases hs:aY M h t with
 | none=>rfl
 | some x=>
  rw[hs]at e;show(match cellAt M x with | none=>_ | some c=>_)=_;rw[show cellAt M x=none from e]
theorem Zo7{M:Wm}{h s t f:Nat}(e:cO M (aY M h t)=none):su M (.put h t f s)=.error .empty:=by
 show(match aY M h t with | none=>_ | some x=>_)=_;cases hs:aY M h t with
 | none=>rfl
 | some x=>
  rw[hs]at e;show(match cellAt M x with | none=>_ | some c=>_)=_;rw[show cellAt M x=none from e]
theorem Zga{M:Wm}{h t:Nat}{l:Int}(e:cO M (aY M h t)=none):su M (.write h t l)=.error .empty:=by
 show(match aY M h t with | none=>_ | some x=>_)=_;cases hs:aY M h t with
 | none=>rfl
 | some x=>
  rw[hs]at e;show(match cellAt M x with | none=>_ | some c=>_)=_;rw[show cellAt M x=none from e]
theorem Zkh{M:Wm}{h t:Nat}(e:cO M (aY M h t)=none):su M (.read h t)=.error .empty:=by
 show(match aY M h t with | none=>_ | some x=>_)=_;cases hs:aY M h t with
 | none=>rfl
 | some x=>
  rw[hs]at e;show(match cellAt M x with | none=>_ | some c=>_)=_;rw[show cellAt M x=none from e]
theorem Zki{M:Wm}{h t:Nat}{z:Str}(e:cO M (aY M h t)=none):su M (.name h t z)=.error .empty:=by
 show(match aY M h t with | none=>_ | some x=>_)=_;cases hs:aY M h t with
 | none=>rfl
 | some x=>
  rw[hs]at e;show(match cellAt M x with | none=>_ | some c=>_)=_;rw[show cellAt M x=none from e]
theorem Zsd{M:Wm}{h s t f:Nat}{i:Int}{c:Ce}(a:aY M h t=some i)(b:cellAt M i=some c)(d:c.fl[f]? =none):su M (.get h s t f)=.error .uo:=by
 show(match aY M h t with | none=>_ | some x=>_)=_;rw[a];show(match cellAt M i with | none=>_ | some c=>_)=_;rw[b];show(match c.fl[f]? with | none=>_ | some v=>_)=_;rw[d]
theorem Zsb{M:Wm}{h s t f:Nat}{i:Int}{c:Ce}(a:aY M h t=some i)(b:cellAt M i=some c)(d:c.fl[f]? =none):su M (.put h t f s)=.error .uo:=by
 show(match aY M h t with | none=>_ | some x=>_)=_;rw[a];show(match cellAt M i with | none=>_ | some c=>_)=_;rw[b];show(match c.fl[f]? with | none=>_ | some v=>_)=_;rw[d]
theorem Zsc{M:Wm}{h s t f:Nat}{i:Int}{c:Ce}{v:AA}(a:aY M h t=some i)(b:cellAt M i=some c)(d:c.fl[f]? =some v):su M (.get h s t f)=.ok (⟨"got",uy M v,[]⟩,setSlot M h s v):=by
 show(match aY M h t with | none=>_ | some x=>_)=_;rw[a];show(match cellAt M i with | none=>_ | some c=>_)=_;rw[b];show(match c.fl[f]? with | none=>_ | some v=>_)=_;rw[d]
def putL(M:Wm)(h s:Nat)(v:AA):Au:=(if old? M=true then [v]else [])++if (tU M && !dY M h)=true then [aY M h s]else []
theorem Zsa{M:Wm}{h s t f:Nat}{i:Int}{c:Ce}{v:AA}(a:aY M h t=some i)(b:cellAt M i=some c)(d:c.fl[f]? =some v):su M (.put h t f s)=.ok (⟨"put",uy M v,(aZ (setCell M i { c with fl:=c.fl.set f (aY M h s) }) (putL M h s v)).1⟩,(aZ (setCell M i { c with fl:=c.fl.set f (aY M h s) }) (putL M h s v)).2):=by
 show(match aY M h t with | none=>_ | some x=>_)=_;rw[a];show(match cellAt M i with | none=>_ | some c=>_)=_;rw[b];show(match c.fl[f]? with | none=>_ | some v=>_)=_;rw[d];rfl
theorem Zkg{M:Wm}{h t:Nat}{l i:Int}{c:Ce}(a:aY M h t=some i)(b:cellAt M i=some c):su M (.write h t l)=.ok (⟨"wrote",some c.load,[]⟩,setCell M i { c with load:=l }):=by
 show(match aY M h t with | none=>_ | some x=>_)=_;rw[a];show(match cellAt M i with | none=>_ | some c=>_)=_;rw[b]
theorem Zo6{M:Wm}{h t:Nat}{i:Int}{c:Ce}(a:aY M h t=some i)(b:cellAt M i=some c):su M (.read h t)=.ok (⟨"read",some c.load,[]⟩,M):=by
 show(match aY M h t with | none=>_ | some x=>_)=_;rw[a];show(match cellAt M i with | none=>_ | some c=>_)=_;rw[b]
theorem Zo8{M:Wm}{h t:Nat}{z:Str}{i:Int}{c:Ce}(a:aY M h t=some i)(b:cellAt M i=some c):su M (.name h t z)=.ok (⟨"named",some c.birth,[]⟩,{ M with names:=sG M.names z (i,c.birth) }):=by
 show(match aY M h t with | none=>_ | some x=>_)=_;rw[a];show(match cellAt M i with | none=>_ | some c=>_)=_;rw[b]
section
variable {X:Cs}{H H':Hp}{T T':Tg}{s:Nat}{A:Wa}{M:Wm}
theorem Zxp{z:Str}{v:Int×Int}{t:AH}(f:NmO H T t (z,v)):∀{ns:AE}{names:List (Str×(Int×Int))},Al (NmO H T) ns names->(∃b,(vp names ns).map (λkv=>if kv.1=Sum.inr z then(kv.1,V.ref t)else kv)=vp (names.map λm=>if m.1=z then(m.1,v)else m) b/\Al (NmO H T) b (names.map λm=>if m.1=z then(m.1,v)else m))/\
  ((vp names ns).any λkv=>decide (kv.1=Sum.inr z))=(names.any λm=>decide (m.1=z))/\vp names ns++[(Sum.inr z,V.ref t)]=vp (names++[(z,v)]) (ns++[t])/\Al (NmO H T) (ns++[t]) (names++[(z,v)]):=by
 intro ns names h
 induction h with
 | nil=>exact⟨⟨[],rfl,.nil⟩,rfl,rfl,.cons f .nil⟩
 | @cons a m ns names h1 _ ih=>
  obtain⟨⟨b,c,d⟩,e3,i,g⟩:=ih;refine⟨?_,?_,?_,.cons h1 g⟩
  ·by_cases e:m.1=z
   ·refine⟨t::b,?_,?_⟩
    ·show(if (Sum.inr m.1:Int ⊕ Str)=Sum.inr z then _ else _)::_=_;rw[if_pos (by rw[e]),List.map_cons,if_pos e];show _::_=(Sum.inr m.1,V.ref t)::vp _ b;rw[<- c];rfl
    ·rw[List.map_cons,if_pos e];exact .cons (by rw[e];exact f) d
   ·refine⟨a::b,?_,?_⟩
    ·show(if (Sum.inr m.1:Int ⊕ Str)=Sum.inr z then _ else _)::_=_;rw[if_neg (λw=>e (Sum.inr.inj w)),List.map_cons,if_neg e];show _::_=(Sum.inr m.1,V.ref a)::vp _ b;rw[<- c];rfl
    ·rw[List.map_cons,if_neg e];exact .cons h1 d
  ·show(decide ((Sum.inr m.1:Int ⊕ Str)=Sum.inr z) || (vp names ns).any _)=(decide (m.1=z) || names.any _);rw[e3];congr 1
   by_cases e:m.1=z<;>simp[e]
  ·show(Sum.inr m.1,V.ref a)::(vp names ns++_)=(Sum.inr m.1,V.ref a)::vp (names++_) (ns++_);rw[i]
theorem Zj3{ns:AE}{names:List (Str×(Int×Int))}(h:Al (NmO H T) ns names):(vp names ns).length=names.length:=by
 induction h with
 | nil=>rfl
 | @cons a m ns names h1 _ ih=>show(_::vp names ns).length=_;rw[List.length_cons,List.length_cons,ih]
theorem WJ.named(j:WJ X H T s A M)(w:WT H T)(k:s≠0){z:Str}{v:Int×Int}{t:AH}(C:NmO H T t (z,v)):∃a,iY s H (upd H A.nm (.dK (putK (vp M.names A.ns) (Sum.inr z) (.ref t)))) T T/\
  WJ X (upd H A.nm (.dK (putK (vp M.names A.ns) (Sum.inr z) (.ref t)))) T s { A with ns:=a } { M with names:=sG M.names z v }:=by
 obtain⟨tm,om,nms⟩:=j.jn;obtain⟨⟨n1,p,q⟩,e3,B,x⟩:=Zxp C nms;have f:z7 s (·=6) H (upd H A.nm (.dK (putK (vp M.names A.ns) (Sum.inr z) (.ref t)))) T T:=z7.FQ tm;have i:∀{ns:AE}{names:List (Str×(Int×Int))},Al (NmO H T) ns names->Al (NmO (upd H A.nm (.dK (putK (vp M.names A.ns) (Sum.inr z) (.ref t)))) T) ns names:=λh=>h.mono (by rintro t m ⟨z1,z2⟩;exact⟨z1,qL k tm _ _ z2 z1⟩);have go:∀a,putK (vp M.names A.ns) (Sum.inr z) (.ref t)=vp (sG M.names z v) a->Al (NmO H T) a (sG M.names z v)->WJ X (upd H A.nm (.dK (putK (vp M.names A.ns) (Sum.inr z) (.ref t)))) T s { A with ns:=a } { M with names:=sG M.names z v }:=λa u l=>by
  refine⟨?_,?_,⟨tm,by show upd _ A.nm _ A.nm=_;rw[aq,u],i l⟩,?_,j.jd.mv f λ_ _ _=>δ,j.jc.mv f λ_ _=>δ⟩
  ·obtain⟨e,c,g,d,n,r,D,o⟩:=j.jb.mv f (qL k tm) δ δ;exact⟨e,c,g,d,n,r,D,o⟩
  ·obtain⟨e,c,g,d⟩:=j.jh.mv f δ δ;exact⟨e,c,g,d⟩
  ·obtain⟨e,c,g,d⟩:=j.js.mv f δ δ;exact⟨e,c,g,d⟩
 by_cases b:(M.names.any λm=>decide (m.1=z))=true
 ·refine⟨n1,iY.upd w om (by rw[tm]),go n1 ?_ ?_⟩
  ·unfold putK sG;rw[if_pos (e3.trans b),if_pos b,p]
  ·unfold sG;rw[if_pos b];exact q
 ·refine⟨A.ns++[t],iY.upd w om (by rw[tm]),go _ ?_ ?_⟩
  ·unfold putK sG;rw[if_neg (λy=>b (e3.symm.trans y)),if_neg b,B]
  ·unfold sG;rw[if_neg b];exact x
end
section
variable {K:aC}{X:Cs}{H:Hp}{Q:VK}{E:XK}{n:ν}{bk ct:ν}{rf:Rf->AH}{CE CF CN:AH}
theorem Zo5{wo dd:AH}(T:qT K X)(y:rf .empty=CE)(z:rf .uo=CF)(q:Gz X rf Y8 wo dd H Q E):Mz K (bV X) (pC X CE CF) (cz X) E ξ [↑wo,↑dd,none,none,none,none] H:=by
 obtain⟨Tg,s,A,M,_,⟨h,sl,t,f,rfl⟩,w,D,j,rfl,od,⟨o1,o2⟩,hc,N,R,hn,B,F⟩:=q;obtain⟨p,m,hp,hm,hs,hl,hd⟩:=j.handOf o1;unfold Mz;exists dd,_,1,_,rfl,rfl,fY.of od,rfl;exists dd,_,3,_,rfl,rfl,fY.of od,rfl;exists dd,_,4,_,rfl,rfl,fY.of od,rfl;apply⟨_,_,_,_,rfl,Tg,s,A,M,h,t,f,j,rfl,rfl,rfl,rfl,o2,λe=>?_,λi c o C r u=>?_,λi c P o C r J ce u=>?_⟩
 ·rw[<- y];exact B .empty (Zo9 e) H (aU.refl _)
 ·rw[<- z];exact B .uo (Zsd o r u) H (aU.refl _)
 ·have hv:=bK u;apply jg (cB.of ce.o2) (jO (v:=oV (c.fl[f])) (by rw[cF,hv];rfl)) ?_;exists _,_,rfl,Tg,s,A,M,h,p,j,rfl,rfl,hp;exists dd,_,2,_,rfl,rfl,fY.of od,rfl;refine⟨p.2,_,_,sl,rfl,rfl,hd.o2,uw (by rw[bB];exact hl),?_⟩;obtain⟨g,b⟩:=j.slot w D (k:=sl) (x:=c.fl[f]) hp hm;rw[sO hm]at b;generalize upd H p.2 (.lst ((m.2.map oV).set sl (oV c.fl[f])))=O at g b ⊢;obtain⟨L,ow⟩:=b.jb.ow;apply aF ow T.cW T.HS bw ?_;exists _,_,rfl,c.fl[f],rfl,Tg,s,A,_,b,rfl;rw[qR];apply⟨aR ζ,λl hl=>⟨aR ζ,λa I=>?_⟩⟩;exact ev0 F (d:=.get h sl t f) (Zsc o r hv) rfl g b rfl hl I
theorem Zo4{wo dd:AH}(T:qT K X)(D:rf .empty=CE)(L:rf .uo=CF)(q:Gz X rf Y7 wo dd H Q E):My K (bV X) (pC X CE CF) (gf X) (cz X) (qM X) (Df X) E ξ [↑wo,↑dd,none,none,none,none,none,none] H:=by
 obtain⟨Tg,s,A,M,_,⟨h,t,f,sl,rfl⟩,w,U,j,rfl,od,⟨o2,o1⟩,hc,hg,Z,hn,V,hQ⟩:=q;obtain⟨p,m,hp,hm,hs,hl,hd⟩:=j.handOf o1;unfold My;exists dd,_,1,_,rfl,rfl,fY.of od,rfl;exists dd,_,3,_,rfl,rfl,fY.of od,rfl;exists dd,_,2,_,rfl,rfl,fY.of od,rfl;apply⟨_,_,_,_,rfl,Tg,s,A,M,h,t,f,j,rfl,rfl,rfl,rfl,o2,λe=>?_,λi c z h0 r u=>?_,λi c Y z h0 r P ce u=>?_⟩
 ·rw[<- D];exact V .empty (Zo7 e) H (aU.refl _)
 ·rw[<- L];exact V .uo (Zsb z r u) H (aU.refl _)
 ·have hv:=bK u;apply jg (cB.of ce.o2) (jO (v:=oV (c.fl[f])) (by rw[cF,hv];rfl)) ?_;exists _,_,rfl,Tg,s,A,M,h,p,j,rfl,rfl,hp;exists dd,_,4,_,rfl,rfl,fY.of od,rfl;refine jg (cB.of hd.o2) (jO (v:=oV (aY M h sl)) (by rw[cF,hs];rfl)) ?_;exists Y.2,_,_,f,rfl,rfl,ce.o2,uw (by rw[bB];exact u);obtain⟨b,l⟩:=j.field w U (k:=f) (x:=aY M h sl) P ce;have l:WJ X _ Tg s A (setCell M i { c with fl:=c.fl.set f (aY M h sl) }):=l;generalize upd H Y.2 (.lst ((c.fl.map oV).set f (oV (aY M h sl))))=H1 at b l ⊢;apply⟨_,_,rfl,Tg,s,A,_,l,rfl,Z,λR C=>?_⟩;rw[show old? (setCell M i { c with fl:=c.fl.set f (aY M h sl) })=old? M from rfl,Zrd];generalize zz:upd H1 R _=H2;obtain⟨N,g1⟩:=nwO C zz;apply⟨_,_,_,rfl,Tg,s,A,_,h,l.same N,rfl,Z,rfl,λS F=>?_⟩;rw[show(tU (setCell M i { c with fl:=c.fl.set f (aY M h sl) }) && !dY (setCell M i { c with fl:=c.fl.set f (aY M h sl) }) h)=(tU M && !dY M h)from rfl,Zrd];generalize zz:upd H2 S _=H3;obtain⟨O,g2⟩:=nwO F zz;apply⟨R,S,_,_,rfl,rfl,O _ _ g1,g2,?_,λW o=>?_⟩
  ·refine aR ?_;cases old? M<;>cases (tU M && !dY M h)<;>simp
  rw[<- List.map_append];generalize zz:upd H3 W _=H4;obtain⟨s3,J⟩:=nwO o zz;have J:H4 W=some (.lst ((putL M h sl c.fl[f]).map oV)):=J;have g:=N.trans (O.trans s3);apply⟨_,_,rfl,putL M h sl c.fl[f],Tg,s,A,_,b.wt.same g,U,l.same g,rfl,.inl ⟨J,(b.wt.same (N.trans O)) _ o⟩,?_,hg,λH5 T5 l5 I y g5 B=>?_⟩
  ·unfold putL;cases old? M<;>cases (tU M && !dY M h)<;>simp
  obtain⟨d1,ow⟩:=y.jb.ow;apply aF ow T.cW T.HS bw ?_;exists _,_,rfl,c.fl[f],rfl,T5,s,A,_,y,rfl;rw[Cy,Pn (c':={ c with fl:=c.fl.set f (aY M h sl) }) r rfl];apply⟨aR ζ,λa ha=>?_⟩;exact ev1 (iY.free b (g.free B)) hQ (d:=.put h t f sl) (Zsa z r hv) (b.trans ((iY.same b.wt g).trans I)) y rfl g5 ha
theorem Zg8{wo dd:AH}(T:qT K X)(g:rf .empty=CE)(q:Gz X rf GX wo dd H Q E):Ez K (lC X CE) E ξ [↑wo,↑dd,none,none] H:=by
 obtain⟨Tg,s,A,M,_,⟨h,t,load,rfl⟩,w,u,j,rfl,od,o1,hc,D,I,hn,v,x⟩:=q;unfold Ez;exists dd,_,1,_,rfl,rfl,fY.of od,rfl;exists dd,_,2,_,rfl,rfl,fY.of od,rfl;apply⟨_,_,_,rfl,Tg,s,A,M,h,t,j,rfl,rfl,rfl,o1,λe=>?_,λi c k p B r m ce=>?_⟩
 ·rw[<- g];exact v .empty (Zga e) H (aU.refl _)
 ·obtain⟨t1,t2,⟨dx,b⟩,y⟩:=id ce;apply aF b T.c.dz T.c.jW zW ?_;exists dd,_,3,_,rfl,rfl,fY.of od,rfl;apply⟨k.1,X.C,dx,_,rfl,b,T.c.dz,T.c.jW,by show 5<1000;decide,?_⟩;rw[Vo];obtain⟨f,o⟩:=j.cell w u (dx:=dx) (tone:=c.tone) (load:=load) m ce;generalize upd H k.1 (.ins X.C dx (o7 c.birth c.bulk c.tone load k.2))=F at f o ⊢;apply⟨aR ζ,λl hl=>⟨aR ζ,λa z=>?_⟩⟩;exact ev0 x (d:=.write h t load) (Zkg p r) rfl f o rfl hl z
theorem Zka{wo dd:AH}(T:qT K X)(b:rf .empty=CE)(q:Gz X rf N6 wo dd H Q E):IK K (lC X CE) E ξ [↑wo,↑dd,none] H:=by
 obtain⟨Tg,s,A,M,_,⟨h,t,rfl⟩,w,x,j,rfl,od,o1,hc,z,C,hn,m,o⟩:=q;unfold IK;exists dd,_,1,_,rfl,rfl,fY.of od,rfl;exists dd,_,2,_,rfl,rfl,fY.of od,rfl;apply⟨_,_,_,rfl,Tg,s,A,M,h,t,j,rfl,rfl,rfl,o1,λe=>?_,λi c B g v k u ce=>?_⟩
 ·rw[<- b];exact m .empty (Zkh e) H (aU.refl _)
 ·obtain⟨t1,t2,⟨y,f⟩,p⟩:=id ce;apply aF f T.c.dz T.c.jW zW ?_;apply⟨aR ζ,λl hl=>⟨aR ζ,λa r=>?_⟩⟩;exact ev0 o (d:=.read h t) (Zo6 g k) rfl (iY.refl w) j rfl hl r
theorem Zkb{wo dd:AH}(T:qT K X)(o:rf .empty=CE)(q:Gz X rf isName wo dd H Q E):IV K (lC X CE) (cz X) E ξ [↑wo,↑dd,none,none,none] H:=by
 obtain⟨Tg,s,A,M,_,⟨h,t,z,rfl⟩,w,C,j,rfl,od,o1,hc,V,Y,hn,D,I⟩:=q;obtain⟨p,m,hp,hm,hs,hl,hd⟩:=j.handOf o1;unfold IV;exists dd,_,1,_,rfl,rfl,fY.of od,rfl;exists dd,_,2,_,rfl,rfl,fY.of od,rfl;apply⟨_,_,_,rfl,Tg,s,A,M,h,t,j,rfl,rfl,rfl,o1,λe=>?_,λi c W x P B O ce=>?_⟩
 ·rw[<- o];exact D .empty (Zki e) H (aU.refl _)
 ·obtain⟨t1,t2,⟨U,u⟩,J⟩:=id ce;apply aF u T.c.dz T.c.d9 iy ?_;exists _,_,rfl,Tg,s,A,M,h,p,j,rfl,rfl,hp;apply jg (cB.of hd.o2) (jO (v:=oV (aY M h t)) (by rw[cF,hs];rfl)) ?_;rw[x];apply⟨aR ζ,λtp f=>?_⟩;generalize zz:upd H tp _=H1;obtain⟨k,r⟩:=nwO f zz;have r:H1 tp=some (.tup [.int i,.int c.birth]):=r;have g:=j.same k;have L:=w.same k;obtain⟨R,ow⟩:=g.jb.ow;apply aF ow T.cW T.nWn jP ?_;exists dd,_,3,_,rfl,rfl,fY.of (k _ _ od),rfl;refine⟨_,_,rfl,ZBk g.jn.om (by rw[Zj3 g.jn.nms];exact Nat.lt_of_le_of_lt hn ε),?_⟩;obtain⟨F,b,y⟩:=g.named L C (z:=z) (v:=(i,c.birth)) (t:=tp) ⟨w _ f,r⟩;generalize upd H1 A.nm (.dK (putK (vp M.names A.ns) (Sum.inr z) (.ref tp)))=S at b y ⊢;apply⟨aR ζ,λl hl=>⟨aR ζ,λa N=>?_⟩⟩;exact ev0 I (d:=.name h t z) (Zo8 x B) rfl ((iY.same w k).trans b) y rfl hl N
theorem Zk9{wo dd:AH}(T:qT K X)(C:rf .Uj=CN)(q:Gz X rf N5 wo dd H Q E):Iz K (bV X) (gf X) (uz X CN) (cz X) E ξ [↑wo,↑dd,none,none] H:=by
 obtain⟨Tg,s,A,M,_,⟨h,sl,z,rfl⟩,w,I,j,rfl,od,o1,hc,L,ht,hn,J,O⟩:=q;obtain⟨p,m,hp,hm,hs,hl,hd⟩:=j.handOf o1;unfold Iz;exists dd,_,3,_,rfl,rfl,fY.of od,rfl;apply⟨_,_,rfl,Tg,s,A,M,j,rfl,λe=>?_,λi b e=>?_⟩
 ·rw[<- C];refine J .Uj ?_ H (aU.refl _);show(match vq M.names z with | none=>_ | some (p,b)=>_)=_;rw[e]
 ·let x:AA:=if lW M i b=true then none else some i
  have ex:(if lW M i b=true then V.non else .int i)=oV x:=by
   show _=oV (if _ then _ else _);cases lW M i b<;>rfl
  rw[ex];have S:su M (.seek h sl z)=.ok (⟨"sought",uy M x,(aZ (setSlot M h sl x) [x]).1⟩,(aZ (setSlot M h sl x) [x]).2):=by
   show(match vq M.names z with | none=>_ | some (p,b)=>_)=_;rw[e];dsimp only;cases f:lW M i b with
   | true=>
    have:x=none:=by show(if _ then _ else _)=_;rw[f];rfl
    rw[this];rfl
   | false=>
    have hx:x=some i:=by show(if _ then _ else _)=_;rw[f];rfl
    have:uy M (some i)=some b:=by
     unfold lW at f;show(cellAt M i).map _=_;cases o:cellAt M i with
     | none=>rw[o]at f;cases f
     | some c=>
      rw[o]at f;dsimp only at f
      by_cases y:c.birth=b
      ·rw[<- y];rfl
      ·rw[if_neg y]at f;cases f
    rw[hx,this];rfl
  clear_value x;exists dd,_,1,_,rfl,rfl,fY.of od,rfl;exists _,_,rfl,Tg,s,A,M,h,p,j,rfl,rfl,hp;exists dd,_,2,_,rfl,rfl,fY.of od,rfl;refine⟨p.2,_,_,sl,rfl,rfl,hd.o2,uw (by rw[bB];exact hl),?_⟩;obtain⟨g,t⟩:=j.slot w I (k:=sl) (x:=x) hp hm;rw[sO hm]at t;generalize upd H p.2 (.lst ((m.2.map oV).set sl (oV x)))=N at g t ⊢;apply⟨aR ζ,λF l=>?_⟩;generalize zz:upd N F _=H2;obtain⟨r,D⟩:=nwO l zz;have D:H2 F=some (.lst ([x].map oV)):=D;apply⟨_,_,rfl,[x],Tg,s,A,_,g.wt.same r,I,t.same r,rfl,.inl ⟨D,g.wt _ l⟩,ζ,L,λZ P Y u v R B=>?_⟩;obtain⟨W,ow⟩:=v.jb.ow;apply aF ow T.cW T.HS bw ?_;exists _,_,rfl,x,rfl,P,s,A,_,v,rfl;rw[Cy,qR];apply⟨aR ζ,λa U=>?_⟩;exact ev1 (iY.free g (r.free B)) O (d:=.seek h sl z) S (g.trans ((iY.same g.wt r).trans u)) v rfl R U
end
section
variable {K:aC}{X:Cs}{H:Hp}{Q:VK}{E:XK}{n:ν}{bk ct:ν}{rf:Rf->AH}{f1 f2 f3 f4 f5 f6 f7 f8 f9 f10:AH}
theorem ZBl{wo dd:AH}(T:qT K X)(q:Gz X rf (λ_=>True) wo dd H Q E):
  Zpa K f1 f2 f3 f4 f5 f6 f7 f8 f9 f10 (cH X rf Od) (cH X rf Oc) (cH X rf Y8) (cH X rf Ob) (cH X rf N7) (cH X rf isName) (cH X rf Y7) (cH X rf N6) (cH X rf N5) (cH X rf GX) E ξ [↑wo,↑dd,none] H:=by
 obtain⟨Tg,s,A,M,d,_,w,a,j,rfl,od,r⟩:=q;unfold Zpa;cases d with
 | make h b c bulk=>
  exists dd,_,0,_,rfl,rfl,fY.of od,rfl;refine⟨_,f5,rfl,rfl,?_⟩;apply oZ (cH X rf N7) rfl ζ ?_;apply⟨_,_,rfl,Tg,s,A,M,_,⟨_,_,_,_,rfl⟩,w,a,j,rfl,od,r⟩
 | get h b t f=>
  exists dd,_,0,_,rfl,rfl,fY.of od,rfl;refine⟨_,f3,rfl,rfl,?_⟩;apply oZ (cH X rf Y8) rfl ζ ?_;apply⟨_,_,rfl,Tg,s,A,M,_,⟨_,_,_,_,rfl⟩,w,a,j,rfl,od,r⟩
 | put h t f b=>
  exists dd,_,0,_,rfl,rfl,fY.of od,rfl;refine⟨_,f7,rfl,rfl,?_⟩;apply oZ (cH X rf Y7) rfl ζ ?_;apply⟨_,_,rfl,Tg,s,A,M,_,⟨_,_,_,_,rfl⟩,w,a,j,rfl,od,r⟩
 | copy h b t=>
  exists dd,_,0,_,rfl,rfl,fY.of od,rfl;refine⟨_,f1,rfl,rfl,?_⟩;apply oZ (cH X rf Od) rfl ζ ?_;apply⟨_,_,rfl,Tg,s,A,M,_,⟨_,_,_,rfl⟩,w,a,j,rfl,od,r⟩
 | drop h b=>
  exists dd,_,0,_,rfl,rfl,fY.of od,rfl;refine⟨_,f2,rfl,rfl,?_⟩;apply oZ (cH X rf Oc) rfl ζ ?_;apply⟨_,_,rfl,Tg,s,A,M,_,⟨_,_,rfl⟩,w,a,j,rfl,od,r⟩
 | give h b g t=>
  exists dd,_,0,_,rfl,rfl,fY.of od,rfl;refine⟨_,f4,rfl,rfl,?_⟩;apply oZ (cH X rf Ob) rfl ζ ?_;apply⟨_,_,rfl,Tg,s,A,M,_,⟨_,_,_,_,rfl⟩,w,a,j,rfl,od,r⟩
 | write h t load=>
  exists dd,_,0,_,rfl,rfl,fY.of od,rfl;refine⟨_,f10,rfl,rfl,?_⟩;apply oZ (cH X rf GX) rfl ζ ?_;apply⟨_,_,rfl,Tg,s,A,M,_,⟨_,_,_,rfl⟩,w,a,j,rfl,od,r⟩
 | read h t=>
  exists dd,_,0,_,rfl,rfl,fY.of od,rfl;refine⟨_,f8,rfl,rfl,?_⟩;apply oZ (cH X rf N6) rfl ζ ?_;apply⟨_,_,rfl,Tg,s,A,M,_,⟨_,_,rfl⟩,w,a,j,rfl,od,r⟩
 | name h t z=>
  exists dd,_,0,_,rfl,rfl,fY.of od,rfl;refine⟨_,f6,rfl,rfl,?_⟩;apply oZ (cH X rf isName) rfl ζ ?_;apply⟨_,_,rfl,Tg,s,A,M,_,⟨_,_,_,rfl⟩,w,a,j,rfl,od,r⟩
 | seek h b z=>
  exists dd,_,0,_,rfl,rfl,fY.of od,rfl;refine⟨_,f9,rfl,rfl,?_⟩;apply oZ (cH X rf N5) rfl ζ ?_;apply⟨_,_,rfl,Tg,s,A,M,_,⟨_,_,_,rfl⟩,w,a,j,rfl,od,r⟩
end
def kZ(X:Cs):Sp:=λvs H Q E=>∃hp sl,vs=[.ref hp,.ref sl]/\∃T s A M,∃xs:Au,WJ X H T s A M/\A.hp=hp/\H sl=some (.lst (xs.map oV))/\xs.length<=1000/\∀l,H l=none->Q (.ref l) (upd H l (.lst ((xs.map (uy M)).map oV)))
def Lf(X:Cs):Sp:=λvs H Q E=>∃wo,vs=[.ref wo]/\∃T s A M,WJ X H T s A M/\A.wo=wo/\M.cells.length<=1000/\(∀m∈M.hands,m.2.length<=1000)/\∀(l:AH) (ls:AE) H',aU H H'->H' l=some (.lst (ls.map V.ref))->ls.length=(rowsOf M).length->(∀(j:Nat) r x,ls[j]? =some r->(rowsOf M)[j]? =some x->H' r=some (.lst (x.map oV)))->(H l=none/\(∀r∈ls,H r=none)/\l∉ls)->Q (.ref l) H'
section
variable {K:aC}{X:Cs}{H:Hp}{Q:VK}{E:XK}{n:ν}{bk ct:ν}
theorem Zd9{hp sl:AH}(T:qT K X)(q:∃T s A M,∃xs:Au,WJ X H T s A M/\A.hp=hp/\H sl=some (.lst (xs.map oV))/\xs.length<=1000/\∀l,H l=none->Q (.ref l) (upd H l (.lst ((xs.map (uy M)).map oV)))):
  Bt K (bV X) ξ [↑hp,↑sl] H:=by
 obtain⟨Tg,s,A,M,xs,j,rfl,o,hx,q⟩:=q;unfold Bt;apply KD ?_;exists _,rfl,⟨_,cB.of o⟩;refine Ry (cB.of o) (λi=>(xs[i]?).map λx=>oV (uy M x)) (by rw[bB];omega) (λi x hx=>?_) ?_
 ·rw[cF]at hx;obtain⟨y,hy,rfl⟩:=Option.map_eq_some_iff.mp hx;refine⟨λq hq=>?_,λz q hz hq=>?_⟩
  ·rw[hy]at hq;exact Gh hq
  ·rw[hy]at hz;cases hz;walk_at"c";apply⟨_,_,rfl,y,rfl,Tg,s,A,M,j,rfl,hq⟩
 ·intro p hp;have:(List.range (xs.map oV).length).filterMap (λi=>(xs[i]?).map λx=>oV (uy M x))=(xs.map (uy M)).map oV:=by
   rw[bB,List.map_map];clear q o hx
   induction xs with
   | nil=>rfl
   | cons a l ih=>
    rw[List.length_cons,List.range_succ_eq_map,List.filterMap_cons];simp only[List.getElem?_cons_zero,Option.map_some,List.map_cons,List.filterMap_map];congr 1
  rw[this];exact q p hp
theorem Vs{wo:AH}(T:qT K X)(q:∃T s A M,WJ X H T s A M/\A.wo=wo/\M.cells.length<=1000/\(∀m∈M.hands,m.2.length<=1000)/\∀(l:AH) (ls:AE) H',aU H H'->H' l=some (.lst (ls.map V.ref))->ls.length=(rowsOf M).length->(∀(j:Nat) r x,ls[j]? =some r->(rowsOf M)[j]? =some x->H' r=some (.lst (x.map oV)))->(H l=none/\(∀r∈ls,H r=none)/\l∉ls)->Q (.ref l) H'):
  wG K (kZ X) ξ [↑wo] H:=by
 obtain⟨Tg,s,A,M,j,rfl,hc,hh,q⟩:=q;obtain⟨B,ow⟩:=j.jb.ow;have l5:=j.jd.l5;unfold wG;apply KD ?_;apply aF ow T.cW T.nWd fK ?_;refine⟨_,rfl,⟨_,cB.of j.jb.on⟩,?_⟩;refine Ux (cB.of j.jb.on) (by rw[bB];omega) (λi r h=>∃x,(rowsOf M)[i]? =some x/\h r=some (.lst (x.map oV))) (by rintro _ _ _ _ ⟨x,e,z⟩ s;exact⟨x,e,s _ _ z⟩) (by rintro _ _ _ ⟨_,_,z⟩;exact⟨_,z⟩) (λx o q hq=>Gh hq) (λi x o d a E hq=>?_) ?_
 ·rw[cF]at d;obtain⟨p,hp,rfl⟩:=Option.map_eq_some_iff.mp d;have c:=j.same a;obtain⟨m,hm,hd⟩:=c.hand hp;obtain⟨C,o1⟩:=hd.o1;obtain⟨D,b⟩:=c.jb.ow;walk_at"c";apply aF b T.cW T.HS bw ?_;apply aF o1 T.cD T.nDs rO ?_;apply⟨_,_,rfl,Tg,s,A,M,m.2,c,rfl,hd.o2,hh m (List.mem_of_getElem? hm),λl hl=>?_⟩;exact hq l _ (aK hl _) hl ⟨_,by unfold rowsOf;rw[cF,hm];rfl,aq⟩
 ·intro rs H' a hl _ t hr p hp;have f:=aK hp (.lst (rs.map V.ref));refine q p rs _ (a.trans f) aq ?_ (λw r x u v=>?_) ⟨a.free hp,t,λz=>?_⟩
  ·rw[hl,bB];unfold rowsOf;rw[bB,j.jd.lh]
  ·obtain⟨y,e3,z⟩:=hr w r u;rw[v]at e3;cases e3;exact f _ _ z
  ·obtain⟨k,hk,e⟩:=List.getElem_of_mem z;obtain⟨_,_,g⟩:=hr k p (by rw[bK hk,e]);rw[hp]at g;cases g
end
def yz(a:AH):Sp:=λvs H Q E=>∃p nm many,vs=[.ref p,.str nm,.int many]/\∃dx,H p=some (.ins a dx [])/\0<=many/\many<=1000/\
 ∀sa H',H sa=none->H' p=some (.ins a dx (Zfz nm sa))->H' sa=some (.lst (List.replicate many.toNat V.non))->(∀b o,H b=some o->b≠p->H' b=some o)->Q .non H'
def rZ(a:AH):Sp:=λvs H Q E=>∃p,vs=[.ref p]/\∃dx,H p=some (.ins a dx [])/\
 ∀gr H',H gr=none->H' p=some (.ins a dx (cI 0 "rest" gr 0 0 0 0 0 0 0 .non))->H' gr=some (.lst [])->(∀b o,H b=some o->b≠p->H' b=some o)->Q .non H'
section
variable {K:aC}{X:Cs}{H:Hp}{Q:VK}{E:XK}{n:ν}{bk ct:ν}
theorem O1{p:AH}{nm:Str}{many:Int}(T:qT K X)(q:∃dx,H p=some (.ins X.D dx [])/\0<=many/\many<=1000/\
 ∀sa H',H sa=none->H' p=some (.ins X.D dx (Zfz nm sa))->H' sa=some (.lst (List.replicate many.toNat V.non))->(∀b o,H b=some o->b≠p->H' b=some o)->Q .non H'):
  tG K ⟨λ_ H'=>Q .non H',Q,bk,ct⟩ [↑p,some (.str nm),some (.int many)] H:=by
 obtain⟨dx,hp,n,h1,h⟩:=q;unfold tG;exists p,X.D,dx,[],rfl,hp,T.cD,T.nDn,ε;apply⟨ε,λi c=>?_⟩;apply⟨i,many,_,rfl,rfl,aq,δ,δ,?_,λj a=>?_⟩
 ·show 1 * many.toNat<=sizeLine;exact aR δ
 have d:p≠i:=aH aq c;have f:p≠j:=aH (by rw[aD d];exact aq) a;have g:H j=none:=by
  by_cases z:j=i
  ·rw[z,aq]at a;cases a
  ·rw[aD z,aD (λe=>f e.symm)]at a;exact a
 have l:H i=none:=by rw[aD (λe=>d e.symm)]at c;exact c
 apply⟨p,X.D,dx,_,rfl,by rw[aD f,aD d];exact aq,T.cD,T.nDs,by show 1<1000;decide,?_⟩;refine h j _ g ?_ ?_ λb o hb m=>?_
 ·rw[aq,Zrt]
 ·rw[aD f.symm,aq];congr 2;generalize many.toNat=k
  induction k with
  | zero=>rfl
  | succ k ih=>rw[List.replicate_succ,List.replicate_succ,List.flatten_cons,ih];rfl
 ·rw[aD m,aD (aH hb g),aD (aH hb l),aD m];exact hb
theorem HH{p:AH}(T:qT K X)(q:∃dx,H p=some (.ins X.S dx [])/\
 ∀gr H',H gr=none->H' p=some (.ins X.S dx (cI 0 "rest" gr 0 0 0 0 0 0 0 .non))->H' gr=some (.lst [])->(∀b o,H b=some o->b≠p->H' b=some o)->Q .non H'):
  pZ K ⟨λ_ H'=>Q .non H',Q,bk,ct⟩ [↑p] H:=by
 obtain⟨dx,hp,h⟩:=q;unfold pZ;exists p,X.S,dx,[],rfl,hp,T.cS,T.n1,ε;apply⟨p,X.S,dx,_,rfl,aq,T.cS,T.n2,by show 1<1000;decide,?_⟩;rw[fM];apply⟨ε,λgr a=>?_⟩;have c:p≠gr:=aH aq a;have d:H gr=none:=by rw[aD c.symm]at a;exact a
 apply⟨p,X.S,dx,_,rfl,by rw[aD c];exact aq,T.cS,T.n3,by show 2<1000;decide,?_⟩;apply⟨p,X.S,dx,_,rfl,aq,T.cS,T.n4,by show 3<1000;decide,?_⟩;rw[fM];apply⟨p,X.S,dx,_,rfl,aq,T.cS,T.n5,by show 4<1000;decide,?_⟩;rw[fM];apply⟨p,X.S,dx,_,rfl,aq,T.cS,T.n6,by show 5<1000;decide,?_⟩;rw[fM];apply⟨p,X.S,dx,_,rfl,aq,T.cS,T.n7,by show 6<1000;decide,?_⟩;rw[fM];apply⟨p,X.S,dx,_,rfl,aq,T.cS,T.n8,by show 7<1000;decide,?_⟩;rw[fM];apply⟨p,X.S,dx,_,rfl,aq,T.cS,T.n9,by show 8<1000;decide,?_⟩;rw[fM];apply⟨p,X.S,dx,_,rfl,aq,T.cS,T.n10,by show 9<1000;decide,?_⟩;rw[fM];apply⟨p,X.S,dx,_,rfl,aq,T.cS,T.n11,by show 10<1000;decide,?_⟩;rw[fM];refine h gr _ d ?_ ?_ λb o hb e=>?_
 ·rw[aq,Zm8]
 ·rw[aD c.symm,aq]
 ·rw[aD e,aD (aH hb d),aD e];exact hb
end
def wd(w:Int):Str:=if w=0 then "first" else if w=1 then "each" else "last"
def tlS(t:Int):Str:=if t=0 then "" else if t=1 then " old" else if t=2 then " new" else " old new"
def words(w t:Int):Str:=wd w++tlS t
structure KdO(X:Cs)(H:Hp)(ki lk:AH)(w t:Int):Prop where
 ok:∃dx,H ki=some (.ins X.K dx (UG lk t))
 ol:∃dx,(w=0/\H lk=some (.ins X.F dx []))\/(w=1/\H lk=some (.ins X.E dx []))\/(w=2/\H lk=some (.ins X.L dx []))
theorem KdO.same{X:Cs}{H H':Hp}{ki lk:AH}{w t:Int}(k:KdO X H ki lk w t)(s:aU H H'):KdO X H' ki lk w t:=by
 obtain⟨⟨d,a⟩,⟨c,b⟩⟩:=k;refine⟨⟨d,s _ _ a⟩,⟨c,?_⟩⟩;rcases b with ⟨z,e⟩ | ⟨z,e⟩ | ⟨z,e⟩
 ·exact .inl ⟨z,s _ _ e⟩
 ·exact .inr (.inl ⟨z,s _ _ e⟩)
 ·exact .inr (.inr ⟨z,s _ _ e⟩)
def QX(room:Int)(hands:List (Str×Int))(w t:Int):Wm:=⟨room,0,0,[],hands.map λm=>(m.1,List.replicate m.2.toNat none),[],w,t,⟨0,"rest",[],0,0,0,0,0,0,0,.non⟩⟩
def vP(X:Cs):Sp:=λvs H Q E=>∃p room ki a,vs=[.ref p,.int room,.ref ki,.ref a]/\∃dx T s lk w t ts hands,H p=some (.ins X.W dx [])/\WT H T/\s≠0/\KdO X H ki lk w t/\T ki=(0,0)/\T lk=(0,0)/\ki≠p/\lk≠p/\H a=some (.lst (ts.map V.ref))/\
 Al (λ(t:AH) (m:Str×Int)=>H t=some (.tup [.str m.1,.int m.2])/\0<=m.2/\m.2<=1000) ts hands/\hands.length<=30/\
 ∀H' T' A,(∀b o,H b=some o->b≠p->H' b=some o)->(∀b o,H b=some o->b≠p->T' b=T b)->WT H' T'->A.wo=p->WJ X H' T' s A (QX room hands w t)->Q .non H'
def uG(a:AH):Sp:=λvs H Q E=>∃p l t,vs=[.ref p,.ref l,.int t]/\∃dx,H p=some (.ins a dx [])/\∀H',H' p=some (.ins a dx (UG l t))->(∀b o,H b=some o->b≠p->H' b=some o)->Q .non H'
def tZ(v:V):Sp:=λvs H Q E=>∃a,vs=[.ref a]/\Q v H
section
variable {K:aC}{X:Cs}{H:Hp}{Q:VK}{E:XK}{n:ν}{bk ct:ν}
theorem OD{p l:AH}{t:Int}(T:qT K X)(q:∃dx,H p=some (.ins X.K dx [])/\∀H',H' p=some (.ins X.K dx (UG l t))->(∀b o,H b=some o->b≠p->H' b=some o)->Q .non H'):
  tD K ⟨λ_ H'=>Q .non H',Q,bk,ct⟩ [↑p,↑l,some (.int t)] H:=by
 obtain⟨dx,hp,h⟩:=q;unfold tD;exists p,X.K,dx,[],rfl,hp,T.cK,T.nKl,ε;apply⟨p,X.K,dx,_,rfl,aq,T.cK,T.nKt,by show 1<1000;decide,?_⟩;rw[fM];refine h _ ?_ λb o hb a=>?_
 ·rw[aq,Zr7]
 ·rw[aD a];exact hb
theorem w0{w:Int}(a:w=0\/w=1\/w=2):words w 0=wd w:=by rcases a with rfl | rfl | rfl<;>decide +kernel
theorem w3{w:Int}(a:w=0\/w=1\/w=2):words w 3=(wd w++" old")++" new":=by rcases a with rfl | rfl | rfl<;>decide +kernel
end
structure Ex(p:AH)(H H':Hp)(T T':Tg):Prop where
 kp:∀b o,H b=some o->b≠p->H' b=some o
 al:∀b o,H b=some o->∃o',H' b=some o'
 tg:∀b o,H b=some o->T' b=T b
 wt:WT H' T'
section
variable {p:AH}{H H1 H2 H':Hp}{T T1 T2 T':Tg}
theorem Ex.trans(a:Ex p H H1 T T1)(b:Ex p H1 H2 T1 T2):Ex p H H2 T T2 where
 kp:=λx o h n=>b.kp x o (a.kp x o h n) n
 al:=λx o h=>by obtain⟨o1,h1⟩:=a.al x o h;exact b.al x o1 h1
 tg:=λx o h=>by obtain⟨o1,h1⟩:=a.al x o h;rw[b.tg x o1 h1,a.tg x o h]
 wt:=b.wt
theorem Zzw(w:WT H T)(al:∀b o,H b=some o->∃a,H' b=some a):WT H' T:=λb h=>w b (by
 cases z:H b with
 | none=>rfl
 | some o=>obtain⟨a,e⟩:=al b o z;rw[h]at e;cases e)
theorem Zgz{a:AH}{o:HO}{v:Nat×Nat}(w:WT H T)(h:H a=some o):WT H (jC T a v):=λb hb=>by
 rw[jM (λe=>by rw[e,h]at hb;cases hb)];exact w b hb
theorem Ex.Zol{o a:HO}(w:WT H T)(h:H p=some a):Ex p H (upd H p o) T T where
 kp:=λx u hx n=>by rw[aD n];exact hx
 al:=λx u hx=>by
  by_cases e:x=p
  ·exact⟨o,by rw[e,aq]⟩
  ·exact⟨u,by rw[aD e];exact hx⟩
 tg:=λ_ _ _=>rfl
 wt:=Zzw w λx u hx=>by
  by_cases e:x=p
  ·exact⟨o,by rw[e,aq]⟩
  ·exact⟨u,by rw[aD e];exact hx⟩
theorem Ex.news{vs:List (AH×(Nat×Nat))}(w:WT H T)(s:aU H H')(hn:∀v∈vs,H v.1=none/\∃o,H' v.1=some o):Ex p H H' T (vs.foldr (λv t=>jC t v.1 v.2) T):=by
 have tg:∀b o,H b=some o->(vs.foldr (λv t=>jC t v.1 v.2) T) b=T b:=by
  intro b o hb
  induction vs with
  | nil=>rfl
  | cons v vs ih=>
   show jC _ v.1 v.2 b=_;rw[jM (aH hb (hn v List.mem_cons_self).1)];exact ih λu hu=>hn u (List.mem_cons_of_mem _ hu)
 refine⟨λb o hb _=>s _ _ hb,λb o hb=>⟨o,s _ _ hb⟩,tg,?_⟩;clear tg
 induction vs with
 | nil=>exact w.same s
 | cons v vs ih=>
  obtain⟨o,a⟩:=(hn v List.mem_cons_self).2;exact Zgz (ih λu hu=>hn u (List.mem_cons_of_mem _ hu)) a
end
section
variable {K:aC}{X:Cs}{H:Hp}{Q:VK}{E:XK}{n:ν}{bk ct:ν}
theorem K9{p ki hl0:AH}{room:Int}(T:qT K X)(q:∃dx T s lk w t,∃ts:AE,∃hands,H p=some (.ins X.W dx [])/\WT H T/\s≠0/\KdO X H ki lk w t/\T ki=(0,0)/\T lk=(0,0)/\ki≠p/\lk≠p/\H hl0=some (.lst (ts.map V.ref))/\
 Al (λ(t:AH) (m:Str×Int)=>H t=some (.tup [.str m.1,.int m.2])/\0<=m.2/\m.2<=1000) ts hands/\hands.length<=30/\
 ∀H' T' A,(∀b o,H b=some o->b≠p->H' b=some o)->(∀b o,H b=some o->b≠p->T' b=T b)->WT H' T'->A.wo=p->WJ X H' T' s A (QX room hands w t)->Q .non H'):
  rA K X.D X.H X.S (yz X.D) (yw X.H) (rZ X.S) ⟨λ_ H'=>Q .non H',Q,bk,ct⟩ [↑p,some (.int room),↑ki,↑hl0] H:=by
 obtain⟨dx,T0,s,lk,w,t,ts,hands,hp,wt0,s0,kd,tki,tlk,nki,U,oh0,al,hn,hQ⟩:=q;have x0:WT H (jC T0 p (s,0)):=Zgz wt0 hp;have tp:jC T0 p (s,0) p=(s,0):=iB;have P:∀b o,H b=some o->b≠p->jC T0 p (s,0) b=T0 b:=λb _ _ hb=>jM hb;generalize hT:jC T0 p (s,0)=Ta at x0 tp P;unfold rA;ext;intro hq dh nh ndh neh;refine⟨hq,room,rfl,dh,aq,λca H1 g J L k1=>⟨rfl,?_⟩⟩;have Zxu:H ca=none:=by
  by_cases z:ca=hq
  ·rw[z,aq]at g;cases g
  ·rw[aD z]at g
   by_cases y:ca=dh
   ·rw[y,aq]at g;cases g
   ·rw[aD y]at g;exact g
 have sm1:aU H H1:=λb o hb=>k1 b o (by rw[aD (aH hb nh),aD (aH hb ndh)];exact hb) (aH hb nh);have e1:Ex p H H1 Ta _:=Ex.news (vs:=[(hq,(s,1)),(ca,(s,2))]) x0 sm1 (by
  intro v hv;simp only[List.mem_cons,List.not_mem_nil,or_false]at hv;rcases hv with rfl | rfl
  ·exact⟨nh,_,J⟩
  ·exact⟨Zxu,_,L⟩)
 have nhc:hq≠ca:=qe J L (λz=>by cases z);have th1:([(hq,(s,1)),(ca,(s,2))].foldr (λv t=>jC t v.1 v.2) Ta) hq=(s,1):=iB;have tc1:([(hq,(s,1)),(ca,(s,2))].foldr (λv t=>jC t v.1 v.2) Ta) ca=(s,2):=(jM nhc.symm).trans iB;generalize ([(hq,(s,1)),(ca,(s,2))]:List (AH×(Nat×Nat))).foldr (λv t=>jC t v.1 v.2) Ta=Tb at e1 th1 tc1;have hp1:=sm1 _ _ hp;have nph:hq≠p:=λz=>by rw[z,hp]at nh;cases nh
 have npc:ca≠p:=λz=>by rw[z,hp]at Zxu;cases Zxu
 clear k1 g;exists p,X.W,dx,[],rfl,hp1,T.cW,T.HS,ε;have e2:=e1.trans (Ex.Zol (o:=.ins X.W dx (cJ "heap" (.ref hq) [])) e1.wt hp1);have g2:upd H1 p (.ins X.W dx (cJ "heap" (.ref hq) [])) p=some (.ins X.W dx (cJ "heap" (.ref hq) [])):=aq;have J:=(aD (o:=.ins X.W dx (cJ "heap" (.ref hq) [])) nph).trans J;have L:=(aD (o:=.ins X.W dx (cJ "heap" (.ref hq) [])) npc).trans L;generalize upd H1 p (.ins X.W dx (cJ "heap" (.ref hq) []))=H2 at e2 g2 J L ⊢;apply⟨p,X.W,dx,_,rfl,g2,T.cW,T.nWk,by show 1<1000;decide,?_⟩;have e3:=e2.trans (Ex.Zol (o:=.ins X.W dx (cJ "kind" (.ref ki) (cJ "heap" (.ref hq) []))) e2.wt g2);have g3:upd H2 p (.ins X.W dx (cJ "kind" (.ref ki) (cJ "heap" (.ref hq) []))) p=some (.ins X.W dx (cJ "kind" (.ref ki) (cJ "heap" (.ref hq) []))):=aq;have J:=(aD (o:=.ins X.W dx (cJ "kind" (.ref ki) (cJ "heap" (.ref hq) []))) nph).trans J;have L:=(aD (o:=.ins X.W dx (cJ "kind" (.ref ki) (cJ "heap" (.ref hq) []))) npc).trans L;generalize upd H2 p (.ins X.W dx (cJ "kind" (.ref ki) (cJ "heap" (.ref hq) [])))=H3 at e3 g3 J L ⊢;generalize M:(cJ "kind" (.ref ki) (cJ "heap" (.ref hq) []))=r at g3 ⊢;have lF3:r.length=2:=by rw[<- M];rfl
 have N:H3 hl0=some (.lst (ts.map V.ref)):=e3.kp _ _ oh0 (λz=>by rw[z,hp]at oh0;cases oh0);have ltl:ts.length=hands.length:=al.length;have ZBy:∀(i:Nat) a,ts[i]? =some a->∃m,hands[i]? =some m/\H3 a=some (.tup [.str m.1,.int m.2])/\0<=m.2/\m.2<=1000:=λi a ha=>by
  have hl:i<hands.length:=by rw[<- ltl];exact(cZ ha).1
  obtain⟨a',ha',z1,E,z3⟩:=al.get (bK hl);rw[ha]at ha';cases ha';exact⟨_,bK hl,e3.kp _ _ z1 (λz=>by rw[z,hp]at z1;cases z1),E,z3⟩
 have lo:=e3.wt;apply⟨_,rfl,⟨_,cB.of N⟩,Zli ?_⟩;refine⟨λi m ys Hx=>i<=ts.length/\m=ts.length - i/\∃(hs:List (AH×AH)) (Tx:Tg),ys=hs.map (λq=>V.ref q.1)/\hs.length=i/\aU H3 Hx/\Ex p H3 Hx Tb Tx/\∀(j:Nat) q m,hs[j]? =some q->hands[j]? =some m->HdO X.D Hx Tx s j q (m.1,List.replicate m.2.toNat none)/\q.1≠p/\q.2≠p,
  ⟨ts.length,Nat.zero_le _,rfl,[],Tb,rfl,rfl,aU.refl _,⟨λ_ _ h _=>h,λ_ o h=>⟨o,h⟩,λ_ _ _=>rfl,lo⟩,λj q m e=>by simp at e⟩,?_⟩
 rintro i m ys Hx ⟨hi,rfl,hs,Tx,rfl,hl,sx,ex,hds⟩
 by_cases hk:i=ts.length
 ·refine .inl ⟨⟨_,cB.of (sx _ _ N),by rw[bB];omega⟩,λd B=>?_⟩;have ZL6:H3 d=none:=sx.free B;have s4:=aK B (.lst (hs.map λq=>V.ref q.1));have e4:Ex p Hx _ Tx _:=Ex.news (p:=p) (vs:=[(d,(s,5))]) ex.wt s4 (by
   intro v hv;rw[List.mem_singleton.mp hv];exact⟨B,_,aq⟩)
  have t4:([(d,(s,5))].foldr (λv t=>jC t v.1 v.2) Tx) d=(s,5):=iB;have o4:upd Hx d (.lst (hs.map λq=>V.ref q.1)) d=some (.lst (hs.map λq=>V.ref q.1)):=aq;have u:=sx _ _ g3;have nhp:d≠p:=λz=>by rw[z,u]at B;cases B
  have hp4:=s4 _ _ u;generalize upd Hx d (.lst (hs.map λq=>V.ref q.1))=H4 at s4 e4 o4 hp4 ⊢;generalize ([(d,(s,5))]:List (AH×(Nat×Nat))).foldr (λv t=>jC t v.1 v.2) Tx=T4 at e4 t4;apply⟨p,X.W,dx,_,rfl,hp4,T.cW,T.nWd,by rw[lF3];decide,?_⟩;have e5:=Ex.Zol (p:=p) (o:=.ins X.W dx (cJ "hands" (.ref d) r)) e4.wt hp4;have hp5:upd H4 p (.ins X.W dx (cJ "hands" (.ref d) r)) p=some (.ins X.W dx (cJ "hands" (.ref d) r)):=aq;generalize upd H4 p (.ins X.W dx (cJ "hands" (.ref d) r))=H5 at e5 hp5 ⊢;ext;intro nm R;have nnp:nm≠p:=λz=>by rw[z,hp5]at R;cases R
  have s6:=aK R (.dK []);have e6:Ex p H5 _ T4 _:=Ex.news (p:=p) (vs:=[(nm,(s,6))]) e5.wt s6 (by
   intro v hv;rw[List.mem_singleton.mp hv];exact⟨R,_,aq⟩)
  have t6:([(nm,(s,6))].foldr (λv t=>jC t v.1 v.2) T4) nm=(s,6):=iB;have o6:upd H5 nm (.dK []) nm=some (.dK []):=aq;have hp6:=s6 _ _ hp5;generalize upd H5 nm (.dK [])=H6 at s6 e6 o6 hp6 ⊢;generalize ([(nm,(s,6))]:List (AH×(Nat×Nat))).foldr (λv t=>jC t v.1 v.2) T4=T6 at e6 t6;apply⟨p,X.W,dx,_,rfl,hp6,T.cW,T.nWn,by rw[<- M];show 3<1000;decide,?_⟩;have e7:=Ex.Zol (p:=p) (o:=.ins X.W dx (cJ "names" (.ref nm) (cJ "hands" (.ref d) r))) e6.wt hp6;have Y:upd H6 p (.ins X.W dx (cJ "names" (.ref nm) (cJ "hands" (.ref d) r))) p=some (.ins X.W dx (cJ "names" (.ref nm) (cJ "hands" (.ref d) r))):=aq;generalize upd H6 p (.ins X.W dx (cJ "names" (.ref nm) (cJ "hands" (.ref d) r)))=H7 at e7 Y ⊢;ext;intro sw ds F nds nes;refine⟨sw,rfl,ds,aq,λgr H8 l b1 b2 k8=>⟨rfl,?_⟩⟩;have Zxr:H7 gr=none:=by
   by_cases z:gr=sw
   ·rw[z,aq]at l;cases l
   ·rw[aD z]at l
    by_cases y:gr=ds
    ·rw[y,aq]at l;cases l
    ·rw[aD y]at l;exact l
  have s8:aU H7 H8:=λb o hb=>k8 b o (by rw[aD (aH hb F),aD (aH hb nds)];exact hb) (aH hb F);have e8:Ex p H7 H8 T6 _:=Ex.news (p:=p) (vs:=[(sw,(s,7)),(gr,(s,8))]) e7.wt s8 (by
   intro v hv;simp only[List.mem_cons,List.not_mem_nil,or_false]at hv;rcases hv with rfl | rfl
   ·exact⟨F,_,b1⟩
   ·exact⟨Zxr,_,b2⟩)
  have nsg:sw≠gr:=qe b1 b2 (λz=>by cases z);have ts8:([(sw,(s,7)),(gr,(s,8))].foldr (λv t=>jC t v.1 v.2) T6) sw=(s,7):=iB;have tg8:([(sw,(s,7)),(gr,(s,8))].foldr (λv t=>jC t v.1 v.2) T6) gr=(s,8):=(jM nsg.symm).trans iB;generalize ([(sw,(s,7)),(gr,(s,8))]:List (AH×(Nat×Nat))).foldr (λv t=>jC t v.1 v.2) T6=T8 at e8 ts8 tg8;have hp8:=s8 _ _ Y;have nsp:sw≠p:=λz=>by rw[z,Y]at F;cases F
  have ngp:gr≠p:=λz=>by rw[z,Y]at Zxr;cases Zxr
  clear k8 l;apply⟨p,X.W,dx,_,rfl,hp8,T.cW,T.Nq,by rw[<- M];show 4<1000;decide,?_⟩;have e9:=Ex.Zol (p:=p) (o:=.ins X.W dx (cJ "sweeper" (.ref sw) (cJ "names" (.ref nm) (cJ "hands" (.ref d) r)))) e8.wt hp8;have hp9:upd H8 p (.ins X.W dx (cJ "sweeper" (.ref sw) (cJ "names" (.ref nm) (cJ "hands" (.ref d) r)))) p=some (.ins X.W dx (DG hq ki d nm sw)):=by
   rw[aq,<- M,Zm1]
  generalize upd H8 p (.ins X.W dx (cJ "sweeper" (.ref sw) (cJ "names" (.ref nm) (cJ "hands" (.ref d) r))))=H9 at e9 hp9 ⊢;have Z:=e9;have f69:=e7.trans (e8.trans e9);have f49:=e5.trans (e6.trans f69);have C:=e4.trans f49;have I:=ex.trans C;have f:=e3.trans I;obtain⟨⟨dk,ok⟩,⟨dl,ol⟩⟩:=kd;have hlk:∃o,H lk=some o:=by
   rcases ol with ⟨_,z⟩ | ⟨_,z⟩ | ⟨_,z⟩
   ·exact⟨_,z⟩
   ·exact⟨_,z⟩
   ·exact⟨_,z⟩
  obtain⟨olk,elk⟩:=hlk;refine hQ H9 T8 ⟨p,hq,ca,ki,lk,d,nm,sw,gr,hs,[],[]⟩ f.kp (λb o hb nb=>(f.tg b o hb).trans (P b o hb nb)) f.wt rfl ⟨⟨(f.tg _ _ hp).trans tp,(f.tg _ _ ok).trans ((P _ _ ok nki).trans tki),(f.tg _ _ elk).trans ((P _ _ elk U).trans tlk),(f49.tg _ _ o4).trans t4,⟨dx,hp9⟩,⟨dk,f.kp _ _ ok nki⟩,⟨dl,?_⟩,f49.kp _ _ o4 nhp⟩,
   ⟨(I.tg _ _ J).trans th1,(I.tg _ _ L).trans tc1,⟨dh,I.kp _ _ J nph⟩,I.kp _ _ L npc⟩,⟨(f69.tg _ _ o6).trans t6,f69.kp _ _ o6 nnp,.nil⟩,
   ⟨(Z.tg _ _ b1).trans ts8,(Z.tg _ _ b2).trans tg8,⟨ds,Z.kp _ _ b1 nsp⟩,Z.kp _ _ b2 ngp⟩,⟨?_,by show hs.length<=30;rw[hl,hk,ltl];exact hn,?_⟩,⟨rfl,λi q c z=>by simp at z⟩⟩
  ·rcases ol with ⟨z,y⟩ | ⟨z,y⟩ | ⟨z,y⟩
   ·exact .inl ⟨z,f.kp _ _ y U⟩
   ·exact .inr (.inl ⟨z,f.kp _ _ y U⟩)
   ·exact .inr (.inr ⟨z,f.kp _ _ y U⟩)
  ·show hs.length=(hands.map _).length;rw[bB,hl,hk,ltl]
  ·intro j q m z1 E;have E:(hands.map λm=>(m.1,List.replicate m.2.toNat none))[j]? =some m:=E;rw[cF]at E;obtain⟨m0,y1,rfl⟩:=Option.map_eq_some_iff.mp E;obtain⟨⟨u1,u2,⟨du,u3⟩,u4⟩,v1,v2⟩:=hds j q m0 z1 y1;exact⟨(C.tg _ _ u3).trans u1,(C.tg _ _ u4).trans u2,⟨du,C.kp _ _ u3 v1⟩,C.kp _ _ u4 v2⟩
 ·have O:i<ts.length:=δ
  refine .inr ⟨⟨_,_,cB.of (sx _ _ N),by rw[cF,bK O];rfl⟩,?_,λx H' y=>?_⟩
  ·rw[bB,hl];exact Nat.lt_of_lt_of_le O (aR δ)
  obtain⟨y1,y2⟩:=y;subst y1;have ey:=y2 _ (cB.of (sx _ _ N));rw[cF,bK O]at ey;have ey:x=.ref ts[i]:=(Option.some.inj ey).symm;subst ey;obtain⟨m,hm,ot,m0,m1⟩:=ZBy i _ (bK O);refine Gh (Zjj ⟨ts[i],.str m.1,.int m.2,_,rfl,fY.of (sx _ _ ot),?_⟩);walk_at"c";ext;intro q1 dq nq ndq neq;refine⟨q1,m.1,m.2,rfl,dq,aq,m0,m1,λsa Hy n b1 b2 k=>⟨rfl,?_⟩⟩;have Zxn:H' sa=none:=by
   by_cases z:sa=q1
   ·rw[z,aq]at n;cases n
   ·rw[aD z]at n
    by_cases y:sa=dq
    ·rw[y,aq]at n;cases n
    ·rw[aD y]at n;exact n
  have sy:aU H' Hy:=λb o hb=>k b o (by rw[aD (aH hb nq),aD (aH hb ndq)];exact hb) (aH hb nq);have ey:Ex p H' Hy Tx _:=Ex.news (p:=p) (vs:=[(q1,(s,20+2 * i)),(sa,(s,21+2 * i))]) ex.wt sy (by
   intro v hv;simp only[List.mem_cons,List.not_mem_nil,or_false]at hv;rcases hv with rfl | rfl
   ·exact⟨nq,_,b1⟩
   ·exact⟨Zxn,_,b2⟩)
  have nqs:q1≠sa:=qe b1 b2 (λz=>by cases z);have u:=sx _ _ g3;refine⟨ts.length - (i+1),δ,δ,rfl,hs++[(q1,sa)],_,by rw[List.map_append];rfl,by rw[List.length_append,hl];rfl,sx.trans sy,ex.trans ey,λj q m' z1 E=>?_⟩
  by_cases hj:j<hs.length
  ·rw[List.getElem?_append_left hj]at z1;obtain⟨⟨u1,u2,⟨du,u3⟩,u4⟩,v1,v2⟩:=hds j q m' z1 E;exact⟨⟨(ey.tg _ _ u3).trans u1,(ey.tg _ _ u4).trans u2,⟨du,sy _ _ u3⟩,sy _ _ u4⟩,v1,v2⟩
  ·have hj':=(cZ z1).1;rw[List.length_append,List.length_singleton]at hj';have ej:j=hs.length:=δ
   subst ej;rw[List.getElem?_append_right Γ,Nat.sub_self]at z1;cases z1;rw[hl]at E ⊢;rw[hm]at E;cases E;exact⟨⟨iB,(jM nqs.symm).trans iB,⟨dq,b1⟩,by rw[b2,List.map_replicate];rfl⟩,(λz=>by rw[show q1=p from z,u]at nq;cases nq),(λz=>by rw[show sa=p from z,u]at Zxn;cases Zxn)⟩
end
def nO(M:Wm)(i:Int)(c:Ce):Str:=if M.sw.phase="rest" then "kept" else if M.sw.phase="give" then(if c.tone=M.sw.sense then "kept" else "doomed")else if c.tone=M.sw.sense then(if i∈M.sw.grey then "grey" else "dark")else "pale"
def gG(M:Wm):List (Int×Ce):=(List.range M.cells.length).filterMap λ(i:Nat)=>((M.cells[i]?).join).map λc=>((i:Int),c)
def Ho(X:Cs):Sp:=λvs H Q E=>∃wo i,vs=[.ref wo,.int i]/\∃T s A M c,WJ X H T s A M/\A.wo=wo/\0<=i/\M.cells[i.toNat]? =some (some c)/\Q (.str (nO M i c)) H
def TcO(M:Wm)(H:Hp)(p:AH×AH)(t:Int×Ce):Prop:=H p.1=some (.tup [.int t.1,.int t.2.birth,.int t.2.bulk,.int t.2.load,.ref p.2,.str (nO M t.1 t.2)])/\H p.2=some (.lst ((t.2.fl.map (uy M)).map oV))
def yo(X:Cs):Sp:=λvs H Q E=>∃wo i,vs=[.ref wo,.int i]/\∃T s A M c,WJ X H T s A M/\A.wo=wo/\0<=i/\M.cells[i.toNat]? =some (some c)/\c.fl.length<=1000/\∀a l H',aU H H'->H a=none->H l=none->TcO M H' (a,l) (i,c)->Q (.ref a) H'
def oY(X:Cs):Sp:=λvs H Q E=>∃wo,vs=[.ref wo]/\∃T s A M,WJ X H T s A M/\A.wo=wo/\M.cells.length<=1000/\(∀c,some c∈M.cells->c.fl.length<=1000)/\
 ∀(l:AH) (ls:AE) H',aU H H'->H' l=some (.lst (ls.map V.ref))->ls.length=(gG M).length->(∀(j:Nat) r t,ls[j]? =some r->(gG M)[j]? =some t->∃f,TcO M H' (r,f) t/\H f=none/\H r=none)->H l=none->Q (.ref l) H'
theorem Zpp{X:Cs}{H:Hp}{T:Tg}{s:Nat}{A:Wa}{M:Wm}(j:WJ X H T s A M):plc (A.cs.map pV)=(gG M).map (·.1):=by
 have a:∀i,i<M.cells.length->(decide ((A.cs.map pV)[i]? =some V.non)=true↔(M.cells[i]?).join=none):=λi b=>by
  rw[decide_eq_true_iff,cF];cases hc:M.cells[i]? with
  | none=>rw[List.getElem?_eq_none_iff]at hc;omega
  | some y=>cases y with
   | none=>rw[j.jc.at0 hc];simp[pV]
   | some c=>
    obtain⟨p,hp,_⟩:=j.jc.at hc;rw[hp];simp[pV]
 unfold plc gG;rw[bB,j.jc.lc];generalize hn:M.cells.length=n at a;clear hn
 induction n with
 | zero=>rfl
 | succ n ih=>
  rw[List.range_succ,List.filter_append,List.map_append,List.filterMap_append,List.map_append,ih λi b=>a i δ];congr 1;have k:=a n δ;cases hc:(M.cells[n]?).join with
  | none=>
   have:decide ((A.cs.map pV)[n]? =some V.non)=true:=k.mpr hc;simp only[List.filter_cons,this,Bool.not_true,List.filter_nil,List.filterMap_cons,hc,Option.map_none,List.filterMap_nil];rfl
  | some c=>
   have:decide ((A.cs.map pV)[n]? =some V.non)=false:=by
    cases hd:decide ((A.cs.map pV)[n]? =some V.non)with
    | false=>rfl
    | true=>rw[k.mp hd]at hc;cases hc
   simp only[List.filter_cons,this,Bool.not_false,List.filter_nil,List.filterMap_cons,hc,Option.map_some,List.filterMap_nil];rfl
theorem Zl0{M:Wm}{j:Nat}{t:Int×Ce}(h:(gG M)[j]? =some t):0<=t.1/\M.cells[t.1.toNat]? =some (some t.2):=by
 have hm:=List.mem_of_getElem? h;unfold gG at hm;obtain⟨i,a,e⟩:=List.mem_filterMap.mp hm;obtain⟨c,hc,rfl⟩:=Option.map_eq_some_iff.mp e;refine⟨by show(0:Int)<=(i:Nat);omega,?_⟩;show M.cells[((i:Nat):Int).toNat]? =some (some c);rw[Int.toNat_natCast];cases hx:M.cells[i]? with
 | none=>rw[hx]at hc;cases hc
 | some y=>rw[hx]at hc;rw[show y=some c from hc]
section
variable {K:aC}{X:Cs}{H:Hp}{Q:VK}{E:XK}{n:ν}{bk ct:ν}
theorem Zrc{i:Int}{l:AD}:inV (.int i) (l.map V.int)=decide (i∈l):=by
 unfold inV
 induction l with
 | nil=>rfl
 | cons a l ih=>
  rw[List.map_cons,List.any_cons,ih]
  by_cases e:i=a
  ·subst e;simp[Zq]
  ·have b:¬ a=i:=λz=>e z.symm;simp[Zq,e,b]
theorem Zj4{wo:AH}{i:Int}(T:qT K X)(q:∃T s A M c,WJ X H T s A M/\A.wo=wo/\0<=i/\M.cells[i.toNat]? =some (some c)/\Q (.str (nO M i c)) H):Iw K (cQ X) ξ [↑wo,some (.int i),none,none] H:=by
 obtain⟨Tg,s,A,M,c,j,rfl,b,hc,q⟩:=q;obtain⟨e,ow⟩:=j.jb.ow;obtain⟨f,os⟩:=j.js.os;obtain⟨th,tc,⟨d,oh⟩,oc⟩:=j.jh;obtain⟨p,hp,ce⟩:=j.jc.at hc;unfold Iw;apply aF ow T.cW T.Nq aW ?_;apply aF ow T.cW T.HS bw ?_;refine aF oh T.c.cA T.c.bO bT ?_;apply jg (cB.of oc) (qx (v:=.ref p.1) b (by rw[cF,hp];rfl)) ?_;exists _,_,rfl,Tg,s,A,M,_,p,c,j.w0,rfl,ce,rfl;apply aF os T.cS T.n2 eF ?_;ext;unfold nO at q;refine uE (λz=>?_) (λz=>?_)
 ·rw[if_pos z]at q;apply q
 ·rw[if_neg z]at q;apply aF os T.cS T.n2 eF ?_;apply uE (λy=>?_) (λy=>?_)
  ·rw[if_pos y]at q;apply uE (λx=>?_) (λx=>?_)
   ·rw[if_pos x]at q;apply q
   ·rw[if_neg x]at q;apply q
  ·rw[if_neg y]at q;apply xN (λx=>?_) (λx=>?_)
   ·rw[if_neg x]at q;apply q
   ·rw[if_pos x]at q;apply aF os T.cS T.n3 mZ ?_;refine⟨_,_,rfl,.inl (cB.of j.js.og),rfl,?_,?_⟩
    ·rw[List.all_map,List.all_eq_true];intro a _;rfl
    rw[if_neg ε,Zrc];apply uE (λy=>?_) (λy=>?_)
    ·rw[if_pos y]at q;apply q
    ·rw[if_neg y]at q;apply q
theorem ZK{wo:AH}{i:Int}(T:qT K X)(q:∃T s A M c,WJ X H T s A M/\A.wo=wo/\0<=i/\M.cells[i.toNat]? =some (some c)/\c.fl.length<=1000/\∀a l H',aU H H'->H a=none->H l=none->TcO M H' (a,l) (i,c)->Q (.ref a) H'):
  Bo K (kZ X) (Ho X) ξ [↑wo,some (.int i),none,none] H:=by
 obtain⟨Tg,s,A,M,c,j,rfl,d,hc,hl,q⟩:=q;obtain⟨k,ow⟩:=j.jb.ow;obtain⟨th,tc,⟨h,oh⟩,oc⟩:=j.jh;obtain⟨p,hp,ce⟩:=j.jc.at hc;obtain⟨t1,t2,⟨m,o1⟩,o2⟩:=id ce;unfold Bo;apply aF ow T.cW T.HS bw ?_;refine aF oh T.c.cA T.c.bO bT ?_;apply jg (cB.of oc) (qx (v:=.ref p.1) d (by rw[cF,hp];rfl)) ?_;apply aF ow T.cW T.HS bw ?_;apply aF o1 T.c.dz T.c.fL lY ?_;apply⟨_,_,rfl,Tg,s,A,M,c.fl,j,rfl,o2,hl,λl nl=>?_⟩;generalize zz:upd H l _=H1;obtain⟨b,g⟩:=nwO nl zz;apply aF (b _ _ o1) T.c.dz T.c.d9 iy ?_;apply aF (b _ _ o1) T.c.dz T.c.nM Ih ?_;apply aF (b _ _ o1) T.c.dz T.c.jW zW ?_;exists _,_,rfl,Tg,s,A,M,c,j.same b,rfl,d,hc;apply⟨aR ζ,λa e=>?_⟩;have f:=aK e (.tup [.int i,.int c.birth,.int c.bulk,.int c.load,.ref l,.str (nO M i c)]);exact q a l _ (b.trans f) (b.free e) nl ⟨aq,f _ _ g⟩
theorem VM{wo:AH}(T:qT K X)(q:∃T s A M,WJ X H T s A M/\A.wo=wo/\M.cells.length<=1000/\(∀c,some c∈M.cells->c.fl.length<=1000)/\
 ∀(l:AH) (ls:AE) H',aU H H'->H' l=some (.lst (ls.map V.ref))->ls.length=(gG M).length->(∀(j:Nat) r t,ls[j]? =some r->(gG M)[j]? =some t->∃f,TcO M H' (r,f) t/\H f=none/\H r=none)->H l=none->Q (.ref l) H'):
  yR K X.H (oA X.H) (yo X) ξ [↑wo] H:=by
 obtain⟨Tg,s,A,M,j,rfl,hc,I,q⟩:=q;obtain⟨U,ow⟩:=j.jb.ow;obtain⟨th,tc,⟨E,oh⟩,oc⟩:=j.jh;have hl:(gG M).length<=1000:=by
  have:=List.length_filterMap_le (λ(i:Nat)=>((M.cells[i]?).join).map λc=>((i:Int),c)) (List.range M.cells.length);rw[List.length_range]at this;exact Nat.le_trans this hc
 unfold yR;apply KD ?_;apply aF ow T.cW T.HS bw ?_;refine⟨A.hp,E,_,rfl,oh,Gj,?_⟩;apply⟨_,rfl,_,_,_,_,_,j.hpO,by rw[bB,j.jc.lc];exact hc,λL B=>?_⟩;rw[Zpp j];generalize zz:upd H L _=N;obtain⟨d,D⟩:=nwO B zz;refine⟨_,rfl,⟨_,cB.of D⟩,?_⟩;refine Ux (cB.of D) (by rw[bB,bB];omega) (λi r F=>∃t f,(gG M)[i]? =some t/\TcO M F (r,f) t/\H f=none) (by rintro _ _ _ _ ⟨t,f,e,⟨z1,w⟩,u⟩ s;exact⟨t,f,e,⟨s _ _ z1,s _ _ w⟩,u⟩) (by rintro _ _ _ ⟨_,_,_,⟨z,_⟩,_⟩;exact⟨_,z⟩) (λx N q hq=>Gh hq) (λi x W b m Z hq=>?_) ?_
 ·rw[cF,cF]at b;cases o:(gG M)[i]? with
  | none=>rw[o]at b;cases b
  | some t=>
   rw[o]at b;cases b;obtain⟨O,h⟩:=Zl0 o;walk_at"c";apply⟨_,_,rfl,Tg,s,A,M,t.2,j.same (d.trans m),rfl,O,h,I _ (List.mem_of_getElem? h),λa l J g S nl v=>?_⟩;exact hq a J g S ⟨t,l,o,v,(d.trans m).free nl⟩
 ·intro rs H' m y _ P hr p hp;have g:=aK hp (.lst (rs.map V.ref));refine q p rs _ (d.trans (m.trans g)) aq (by rw[y,bB,bB]) (λk r t C R=>?_) (d.free (m.free hp));obtain⟨Y,f,e3,⟨z1,w⟩,u⟩:=hr k r C;rw[R]at e3;cases e3;exact⟨f,⟨g _ _ z1,g _ _ w⟩,u,d.free (P r (List.mem_of_getElem? C))⟩
end
section
variable {K:aC}{X:Cs}{H:Hp}{Q:VK}{E:XK}{T:Tg}{s:Nat}{A:Wa}{M:Wm}
theorem Znu{i:Nat}{c:Ce}(j:WJ X H T s A M)(w:WT H T)(n:s≠0)(hc:M.cells[i]? =some (some c))
  (k:∀H' a,iY s H H' T T->WJ X H' T s a { M with used:=M.used - (1+c.fl.length+c.bulk),cells:=M.cells.set i none }->a.wo=A.wo/\a.sw=A.sw->Q (.int c.birth) H'):
  uH X.C X.H [.ref A.hp,.int i] H Q E:=by
 obtain⟨th,tc,⟨h,oh⟩,oc⟩:=j.jh;obtain⟨l,g,ce⟩:=j.jc.at hc;obtain⟨_,_,⟨p,o1⟩,e⟩:=id ce;have hl:=(cZ hc).1;refine⟨A.hp,i,rfl,A.ca,h,M.room,M.used,M.born,A.cs.map pV,l.1,l.2,c.birth,c.bulk,c.tone,c.load,c.fl.map oV,δ,oh,oc,by rw[Int.toNat_natCast,cF,g];rfl,⟨⟨p,o1⟩,e⟩,?_⟩;rw[Int.toNat_natCast,bB];have d:A.hp≠A.ca:=qe oh oc (λz=>by cases z);obtain⟨f,m⟩:=j.back w n (i:=i) (used':=M.used - (1+c.fl.length+c.bulk)) (by rw[j.jc.lc];exact hl) (upd (upd H A.hp (.ins X.H h (lV M.room A.ca (M.used - (1+c.fl.length+c.bulk)) M.born))) A.ca (.lst ((A.cs.map pV).set i V.non)))
  (λb o hb n1 n2=>by rw[aD n2,aD n1];exact hb) (by rw[aD d];exact aq) aq
 exact k _ _ f m ⟨rfl,rfl⟩
end
def heldOf(M:Wm):List Au:=M.hands.map (·.2)
def Gv(X:Cs):Sp:=λvs H Q E=>∃wo,vs=[.ref wo]/\∃T s A M,WJ X H T s A M/\A.wo=wo/\M.hands.length<=1000/\∀(l:AH) (ls:AE) H',aU H H'->H l=none->H' l=some (.lst (ls.map V.ref))->ls.length=(heldOf M).length->ls.Nodup->(∀r∈ls,H r=none)->l∉ls->(∀(j:Nat) r x,ls[j]? =some r->(heldOf M)[j]? =some x->H' r=some (.lst (x.map oV)))->Q (.ref l) H'
section
variable {K:aC}{X:Cs}{H:Hp}{Q:VK}{E:XK}{n:ν}{bk ct:ν}
theorem Zve{wo:AH}(T:qT K X)(q:∃T s A M,WJ X H T s A M/\A.wo=wo/\M.hands.length<=1000/\∀(l:AH) (ls:AE) H',aU H H'->H l=none->H' l=some (.lst (ls.map V.ref))->ls.length=(heldOf M).length->ls.Nodup->(∀r∈ls,H r=none)->l∉ls->(∀(j:Nat) r x,ls[j]? =some r->(heldOf M)[j]? =some x->H' r=some (.lst (x.map oV)))->Q (.ref l) H'):
  Zaq K ξ [↑wo] H:=by
 obtain⟨Tg,s,A,M,j,rfl,hl,q⟩:=q;obtain⟨h,ow⟩:=j.jb.ow;unfold Zaq;apply KD ?_;apply aF ow T.cW T.nWd fK ?_;have l5:=j.jd.l5;refine⟨_,rfl,⟨_,cB.of j.jb.on⟩,?_⟩;refine Ux (cB.of j.jb.on) (by rw[bB];omega) (λi r f=>∃x,(heldOf M)[i]? =some x/\f r=some (.lst (x.map oV))) (by rintro _ _ _ _ ⟨x,e,z⟩ s;exact⟨x,e,s _ _ z⟩) (by rintro _ _ _ ⟨_,_,z⟩;exact⟨_,z⟩) (λx o q hq=>Gh hq) (λi x o b a B hq=>?_) ?_
 ·rw[cF]at b;obtain⟨p,hp,rfl⟩:=Option.map_eq_some_iff.mp b;have g:=j.same a;obtain⟨m,hm,hd⟩:=g.hand hp;obtain⟨h,o1⟩:=hd.o1;walk_at"c";apply aF o1 T.cD T.nDs rO ?_;apply Zcj (cB.of hd.o2) λl hl=>?_;exact hq l _ (aK hl _) hl ⟨_,by unfold heldOf;rw[cF,hm];rfl,aq⟩
 ·intro rs H' a hl nd t hr p hp;have c:=aK hp (.lst (rs.map V.ref));refine q p rs _ (a.trans c) (a.free hp) aq ?_ nd t (λz=>?_) λw r x u v=>?_
  ·rw[hl,bB];unfold heldOf;rw[bB,j.jd.lh]
  ·obtain⟨k,hk,e⟩:=List.getElem_of_mem z;obtain⟨_,_,d⟩:=hr k p (by rw[bK hk,e]);rw[hp]at d;cases d
  ·obtain⟨y,e3,z⟩:=hr w r u;rw[v]at e3;cases e3;exact c _ _ z
end
def qy(w:Int)(h:Nat):Int:=if w=0 then 2 ^ h - 1 else 0
def CZ(M:Wm):Wm:={ M with sw:={ M.sw with sense:=1 - M.sw.sense,phase:="walk",grey:=[],looked:=qy M.w M.hands.length,turn:=M.sw.turn+1,walks:=0,looks:=0,passes:=0 } }
def xu:Sp:=λvs H Q E=>∃h,vs=[.int h]/\0<=h/\h<=30/\Q (.int (2 ^ h.toNat - 1)) H
def pD(k:Nat):Sp:=λvs H Q E=>∃a h,vs=[.ref a,.int h]/\0<=h/\h<=30/\Q (.int (if k=0 then 2 ^ h.toNat - 1 else 0)) H
def RV(X:Cs):Sp:=λvs H Q E=>∃wo,vs=[.ref wo]/\∃T s A M,WT H T/\s≠0/\WJ X H T s A M/\A.wo=wo/\∀H' T' a,iY s H H' T T'->WJ X H' T' s a (CZ M)->a.wo=wo/\a.sw=A.sw->Q .non H'
section
variable {X:Cs}{H H':Hp}{T T':Tg}{s:Nat}{A:Wa}{M:Wm}
theorem WJ.Zuk(j:WJ X H T s A M)(w:WT H T)(i:s≠0){dx l:AH}(S:Sw)(hl:H l=none)(F:S.grey=[]):
  iY s H (upd (upd H l (.lst [])) A.sw (.ins X.S dx (cI S.sense S.phase l S.looked S.turn S.at' S.stop S.walks S.looks S.passes S.loss))) T (jC T l (s,8))/\
  WJ X (upd (upd H l (.lst [])) A.sw (.ins X.S dx (cI S.sense S.phase l S.looked S.turn S.at' S.stop S.walks S.looks S.passes S.loss))) (jC T l (s,8)) s { A with gr:=l } { M with sw:=S }:=by
 obtain⟨ts,tg,⟨P,os⟩,og⟩:=id j.js;have d:l≠A.sw:=(aH os hl).symm;have k:WT (upd H l (.lst [])) (jC T l (s,8)):=Zgz (w.same (aK hl _)) aq;have g:iY s H (upd H l (.lst [])) T (jC T l (s,8)):=⟨λb o h _=>(aK hl _) _ _ h,λb o h=>⟨o,(aK hl _) _ _ h⟩,λb o h=>jM (aH h hl),k⟩;have c:WJ X (upd H l (.lst [])) (jC T l (s,8)) s A M:=j.fresh hl;obtain⟨a,v,⟨x,e⟩,C⟩:=id c.js;refine⟨g.trans (iY.upd k e (by rw[a])),?_⟩;have f:z7 s (·=7) (upd H l (.lst [])) (upd (upd H l (.lst [])) A.sw (.ins X.S dx (cI S.sense S.phase l S.looked S.turn S.at' S.stop S.walks S.looks S.passes S.loss))) (jC T l (s,8)) (jC T l (s,8)):=z7.FQ a;have I:=c.jb.mv f (qL i a) δ δ;have t:=c.jh.mv f δ δ;have K:=c.jn.mv f (qL i a) δ;have E:=c.jd.mv f λ_ _ _=>δ
 have N:=c.jc.mv f λ_ _=>δ
 obtain⟨m,n,y,D,p,q,B,r⟩:=I;obtain⟨y1,J,L,O⟩:=t;obtain⟨z1,z,u⟩:=K;exact⟨⟨m,n,y,D,p,q,B,r⟩,⟨y1,J,L,O⟩,⟨z1,z,u⟩,⟨a,iB,⟨dx,aq⟩,by rw[aD d,aq,F];rfl⟩,E,N⟩
end
section
variable {K:aC}{X:Cs}{H:Hp}{Q:VK}{E:XK}{n:ν}{bk ct:ν}
theorem Zwq{j:Int}(a:0<=j)(h1:j<=1000):Ze1 1 j:=⟨a,δ,ε⟩
theorem Zoc{h:Int}(q:0<=h/\h<=30/\Q (.int (2 ^ h.toNat - 1)) H):MF ξ [some (.int h)] H:=by
 obtain⟨a,h1,q⟩:=q;unfold MF;exists _,_,rfl,rfl,Zwq a δ;ext;rw[Int.one_mul];exact q
theorem HJ{a:AH}{h:Int}(q:0<=h/\h<=30/\Q (.int (if (1:Nat)=0 then 2 ^ h.toNat - 1 else 0)) H):p7 ξ [↑a,some (.int h)] H:=by
 unfold p7;apply q.2.2
theorem Li{a:AH}{h:Int}(q:0<=h/\h<=30/\Q (.int (if (0:Nat)=0 then 2 ^ h.toNat - 1 else 0)) H):rC xu ξ [↑a,some (.int h)] H:=by
 obtain⟨b,h1,q⟩:=q;unfold rC;apply⟨h,rfl,b,h1,q⟩
theorem Zsk{wo:AH}(c:qT K X)(q:∃T s A M,WT H T/\s≠0/\WJ X H T s A M/\A.wo=wo/\∀H' T' I,iY s H H' T T'->WJ X H' T' s I (CZ M)->I.wo=wo/\I.sw=A.sw->Q .non H'):
  Te K X.E X.F X.L (pD 0) (pD 1) ⟨λ_ H'=>Q .non H',Q,bk,ct⟩ [↑wo,none] H:=by
 obtain⟨T,s,A,M,w,P,j,rfl,q⟩:=q;obtain⟨Y,ow⟩:=j.jb.ow;obtain⟨g,os⟩:=j.js.os;obtain⟨W,ok⟩:=j.jb.ok;obtain⟨dl,ol⟩:=j.jb.ol;have on:=j.jb.on;have lh:=j.jd.lh;have l5:=j.jd.l5;unfold Te;apply aF ow c.cW c.Nq aW ?_;apply aF os c.cS c.n1 oM ?_;apply⟨A.sw,X.S,g,_,rfl,os,c.cS,c.n1,by show 11<1000;decide,?_⟩;rw[Lw];apply aF aq c.cS c.n5 qW ?_;apply⟨A.sw,X.S,g,_,rfl,aq,c.cS,c.n5,by show 11<1000;decide,?_⟩;rw[Qs,fM];apply⟨A.sw,X.S,g,_,rfl,aq,c.cS,c.n2,by show 11<1000;decide,?_⟩;rw[pG,fM];apply⟨ε,λgr n=>?_⟩;have v:A.sw≠gr:=aH aq n;have u:H gr=none:=by rw[aD v.symm]at n;exact n
 apply⟨A.sw,X.S,g,_,rfl,by rw[aD v];exact aq,c.cS,c.n3,by show 11<1000;decide,?_⟩;rw[Qv];have N:∀(a b:HO) (o:HO),upd (upd (upd H A.sw a) gr o) A.sw b=upd (upd H gr o) A.sw b:=λa b o=>by
  funext x
  by_cases z:x=A.sw
  ·rw[z,aq,aq]
  ·rw[aD z,aD z]
   by_cases y:x=gr
   ·rw[y,aq,aq]
   ·rw[aD y,aD y,aD z]
 rw[N];have fin:∀{lo:Int}{J:St},J=[↑A.wo,↑A.sw]->lo=qy M.w M.hands.length->∀(t:Hp),t=upd (upd H gr (.lst [])) A.sw (.ins X.S g (cI (1 - M.sw.sense) "walk" gr M.sw.looked (M.sw.turn+1) M.sw.at' M.sw.stop M.sw.walks M.sw.looks M.sw.passes M.sw.loss))->
   (∃a C dx fs,V.ref A.sw=.ref a/\t a=some (.ins C dx fs)/\Ij K C/\bN K C "looked"/\fs.length<1000/\(aN (iM K χ υ "walks") (aN (iM K χ υ "looks") (iM K χ υ "passes"))) ⟨λ_ H'=>Q .non H',Q,bk,ct⟩ J (upd t a (.ins C dx (cJ "looked" (.int lo) fs)))):=by
  rintro lo J rfl D t rfl;refine⟨A.sw,X.S,g,_,rfl,aq,c.cS,c.n4,by show 11<1000;decide,?_⟩;rw[xR,fM];apply⟨A.sw,X.S,g,_,rfl,aq,c.cS,c.n8,by show 11<1000;decide,?_⟩;rw[z9,fM];apply⟨A.sw,X.S,g,_,rfl,aq,c.cS,c.n9,by show 11<1000;decide,?_⟩;rw[sH,fM];apply⟨A.sw,X.S,g,_,rfl,aq,c.cS,c.n10,by show 11<1000;decide,?_⟩;rw[xQ,fM];obtain⟨st,U⟩:=j.Zuk w P (dx:=g) (l:=gr) { M.sw with sense:=1 - M.sw.sense,phase:="walk",grey:=[],looked:=qy M.w M.hands.length,turn:=M.sw.turn+1,walks:=0,looks:=0,passes:=0 } u rfl;subst D;exact q _ _ _ st U ⟨rfl,rfl⟩
 have kp:∀b o,H b=some o->b≠A.sw->upd (upd H gr (.lst [])) A.sw (.ins X.S g (cI (1 - M.sw.sense) "walk" gr M.sw.looked (M.sw.turn+1) M.sw.at' M.sw.stop M.sw.walks M.sw.looks M.sw.passes M.sw.loss)) b=some o:=λb o hb R=>by
  rw[aD R,aD (aH hb u)];exact hb
 have r:∀{a:AH}{C d:AH}{fs:List (Str×V)},H a=some (.ins C d fs)->fs.length<11->a≠A.sw:=λe hl z=>by
  rw[z,os]at e;have:=Option.some.inj e
  injection this with _ _ e3
  rw[<- e3]at hl;exact absurd hl (by show ¬ 11<11;decide)
 have f:=kp _ _ ow (r ow (by show 5<11;decide));have h:=kp _ _ ok (r ok (by show 2<11;decide));have i:=kp _ _ on (qe on os (λz=>by cases z));generalize k:upd (upd H gr (.lst [])) A.sw (.ins X.S g (cI (1 - M.sw.sense) "walk" gr M.sw.looked (M.sw.turn+1) M.sw.at' M.sw.stop M.sw.walks M.sw.looks M.sw.passes M.sw.loss))=t at kp f h i ⊢;have m:((A.hs.map λp=>V.ref p.1).length:Int)=(M.hands.length:Int):=by rw[bB,lh]
 refine Kz ?_;left;rcases ol with ⟨O,o⟩ | ⟨O,o⟩ | ⟨O,o⟩
 ·have B:=kp _ _ o (r o (by show 0<11;decide));refine Y9 ?_;left;refine aF f c.cW c.nWk mY ?_;refine aF h c.cK c.nKl pM ?_;left;refine⟨A.lk,dl,_,rfl,B,rfl,?_⟩;left;refine aF f c.cW c.nWd fK ?_;left;refine jU (cB.of i) ?_;rw[m];left;refine⟨A.lk,_,rfl,δ,δ,?_⟩;left;exact fin rfl (by unfold qy;rw[if_pos O,if_pos rfl,Int.toNat_natCast]) _ k.symm
 ·have B:=kp _ _ o (r o (by show 0<11;decide));refine KC (Y9 ?_);left;refine aF f c.cW c.nWk mY ?_;refine aF h c.cK c.nKl pM ?_;left;refine⟨A.lk,dl,_,rfl,B,rfl,?_⟩;left;refine aF f c.cW c.nWd fK ?_;left;refine jU (cB.of i) ?_;rw[m];left;refine⟨A.lk,_,rfl,δ,δ,?_⟩;left;exact fin rfl (by unfold qy;rw[if_neg (show ¬ (1:Nat)=0 by decide),if_neg δ]) _ k.symm
 ·have B:=kp _ _ o (r o (by show 0<11;decide));refine KC (KC ?_);left;refine aF f c.cW c.nWk mY ?_;refine aF h c.cK c.nKl pM ?_;left;refine⟨A.lk,dl,_,rfl,B,rfl,?_⟩;left;refine aF f c.cW c.nWd fK ?_;left;refine jU (cB.of i) ?_;rw[m];left;refine⟨A.lk,_,rfl,δ,δ,?_⟩;left;exact fin rfl (by unfold qy;rw[if_neg (show ¬ (1:Nat)=0 by decide),if_neg δ]) _ k.symm
end
def Pg(M:Wm):Bool:=decide (M.sw.phase="walk"\/M.sw.phase="lost")
def Et(M:Wm)(p b:Int):AA:=if lW M p b=true then none else match cellAt M p with
 | none=>none
 | some c=>if Pg M=true/\¬ c.tone=M.sw.sense then none else some p
def vN(X:Cs):Sp:=λvs H Q E=>∃wo,vs=[.ref wo]/\∃T s A M,WJ0 X H T s A M/\A.wo=wo/\∀H',aU H H'->Q (.bl (Pg M)) H'
def Hi(X:Cs):Sp:=λvs H Q E=>∃wo p b,vs=[.ref wo,.int p,.int b]/\∃T s A M,WJ0 X H T s A M/\A.wo=wo/\∀H',aU H H'->Q (oV (Et M p b)) H'
section
variable {K:aC}{X:Cs}{H:Hp}{Q:VK}{E:XK}{n:ν}{bk ct:ν}
theorem W7{wo:AH}(T:qT K X)(q:∃T s A M,WJ0 X H T s A M/\A.wo=wo/\∀H',aU H H'->Q (.bl (Pg M)) H'):yW K ξ [↑wo] H:=by
 obtain⟨Tg,s,A,M,j,rfl,q⟩:=q;obtain⟨f,ow⟩:=j.jb.ow;obtain⟨g,os⟩:=j.js.os;unfold yW;apply aF ow T.cW T.Nq aW ?_;apply aF os T.cS T.n2 eF ?_;apply⟨aR ζ,λtp e=>?_⟩;generalize zz:upd H tp _=H1;obtain⟨c,d⟩:=nwO e zz;refine⟨tp,_,rfl,.inr (fY.of d),rfl,rfl,?_⟩;have q:=q H1 c;rw[show Pg M=(if false=true then !inV (V.str M.sw.phase) [V.str "walk",.str "lost"]else inV (V.str M.sw.phase) [V.str "walk",.str "lost"])from by
  rw[if_neg Bool.false_ne_true];unfold Pg inV
  by_cases h1:M.sw.phase="walk"
  ·simp[h1,Zq]
  ·by_cases h2:M.sw.phase="lost"
   ·simp[h2,Zq]
   ·have a:¬ ("walk":Str)=M.sw.phase:=λz=>h1 z.symm;have b:¬ ("lost":Str)=M.sw.phase:=λz=>h2 z.symm;simp[h1,h2,a,b,Zq]]at q
 exact q
theorem Zi7{wo:AH}{p b:Int}(T:qT K X)(q:∃T s A M,WJ0 X H T s A M/\A.wo=wo/\∀H',aU H H'->Q (oV (Et M p b)) H'):Iv K (xr X) (cQ X) (vN X) ξ [↑wo,some (.int p),some (.int b)] H:=by
 obtain⟨Tg,s,A,M,j,rfl,q⟩:=q;unfold Iv;exists _,_,_,rfl,Tg,s,A,M,j,rfl;have h:∀c,cellAt M p=some c->lW M p b=false->Et M p b=if Pg M=true/\¬ c.tone=M.sw.sense then none else some p:=λc hc a=>by
  unfold Et;rw[a,if_neg Bool.false_ne_true,hc]
 cases a:lW M p b with
 | true=>
  ext;have:=q H (aU.refl _);rw[show Et M p b=none from if_pos a]at this;exact this
 | false=>
  apply⟨_,rfl,Tg,s,A,M,j,rfl,λt m=>?_⟩;obtain⟨c,hc⟩:∃c,cellAt M p=some c:=by
   cases e:cellAt M p with
   | none=>
    have:lW M p b=true:=by unfold lW;rw[e]
    rw[this]at a;cases a
   | some c=>exact⟨c,rfl⟩
  have q:=q t m;rw[h c hc a]at q;have d:=j.same m;cases o:Pg M with
  | false=>
   ext;rw[if_neg (λz=>by rw[o]at z;cases z.1)]at q;exact q
  | true=>
   ext;obtain⟨y,ow⟩:=d.jb.ow;obtain⟨x,oh⟩:=d.jh.oh;rcases d.look (some p)with ⟨f,_⟩ | ⟨i,B,l,w,r,k,u,hp,_,ce⟩
   ·have f:cellAt M p=none:=f;rw[hc]at f;cases f
   cases w;rw[hc]at k;cases k;refine aF ow T.cW T.HS bw ?_;apply aF oh T.c.cA T.c.bO bT ?_;apply jg (cB.of d.jh.oc) (qx (v:=.ref l.1) r (by rw[cF,hp];rfl)) ?_;exists _,_,rfl,Tg,s,A,M,_,l,c,d,rfl,ce,rfl;ext
   by_cases g:c.tone=M.sw.sense
   ·rw[if_neg (λz=>z.2 g)]at q;refine xN (λz=>absurd g z) (λ_=>?_);apply q
   ·rw[if_pos ⟨o,g⟩]at q;refine xN (λ_=>?_) (λz=>absurd z g);apply q
end
def fZ(M:Wm):Au:=M.names.map λm=>Et M m.2.1 m.2.2
def gM(M:Wm):List Au:=heldOf M++[fZ M]
def yp(X:Cs):Sp:=λvs H Q E=>∃wo,vs=[.ref wo]/\∃T s A M,s≠0/\WJ X H T s A M/\A.wo=wo/\M.hands.length<=1000/\M.names.length<=1000/\∀(l:AH) (ls:AE) H',aU H H'->H l=none->H' l=some (.lst (ls.map V.ref))->ls.length=(gM M).length->(∀r∈ls,H r=none)->l∉ls->(∀(j:Nat) r x,ls[j]? =some r->(gM M)[j]? =some x->H' r=some (.lst (x.map oV)))->Q (.ref l) H'
section
variable {K:aC}{X:Cs}{H:Hp}{Q:VK}{E:XK}{n:ν}{bk ct:ν}
theorem ZAg{T:Tg}{ns:AE}{names:List (Str×(Int×Int))}(h:Al (NmO H T) ns names):∀{i:Nat}{kv:L2.Key×V},(vp names ns)[i]? =some kv->∃t m,names[i]? =some m/\kv.2=.ref t/\H t=some (.tup [.int m.2.1,.int m.2.2])/\T t=(0,0):=by
 induction h with
 | nil=>intro i kv e;simp[vp]at e
 | cons a h ih=>
  intro i kv e;cases i with
  | zero=>cases e;exact⟨_,_,rfl,rfl,a.2,a.1⟩
  | succ i=>exact ih (i:=i) (kv:=kv) (by simpa[vp]using e)
theorem Zp9{wo:AH}(T:qT K X)(q:∃T s A M,s≠0/\WJ X H T s A M/\A.wo=wo/\M.hands.length<=1000/\M.names.length<=1000/\∀(l:AH) (ls:AE) H',aU H H'->H l=none->H' l=some (.lst (ls.map V.ref))->ls.length=(gM M).length->(∀r∈ls,H r=none)->l∉ls->(∀(j:Nat) r x,ls[j]? =some r->(gM M)[j]? =some x->H' r=some (.lst (x.map oV)))->Q (.ref l) H'):
  Td K (Gv X) (Hi X) H ξ [↑wo] H:=by
 obtain⟨Tg,s,A,M,h0,j,rfl,hh,hn,q⟩:=q;unfold Td;apply⟨_,rfl,Tg,s,A,M,j,rfl,hh,λl1 c H1 s1 nl1 Z F nd1 nn1 ZL5 g1=>?_⟩;have j1:=j.same s1;obtain⟨dw,ow⟩:=j1.jb.ow;have om:=j1.jn.om;apply aF ow T.cW T.nWn jP ?_;refine⟨_,_,rfl,.inl om,λvv nvv=>?_⟩;generalize zz:upd H1 vv _=H2;obtain⟨Y,g2⟩:=nwO nvv zz;have P:=j1.same Y;have E:=P.jn.om;refine⟨_,_,_,rfl,g2,E,λo=>?_⟩;have lnm:(vp M.names A.ns).length=M.names.length:=Zj3 P.jn.nms;have w3:=P.names (o:=.Aq o (.dK (vp M.names A.ns))) h0;have f:∀b u,H2 b=some u->b≠A.nm->upd H2 A.nm (.Aq o (.dK (vp M.names A.ns))) b=some u:=λb u hb nb=>by rw[aD nb];exact hb
 have S:upd H2 A.nm (.Aq o (.dK (vp M.names A.ns))) A.nm=some (.Aq o (.dK (vp M.names A.ns))):=aq;generalize upd H2 A.nm (.Aq o (.dK (vp M.names A.ns)))=H3 at w3 f S ⊢;have nmn:∀t xs,H2 t=some (.tup xs)->t≠A.nm:=λt xs z=>qe z E (λy=>by cases y);refine Zli ?_;refine Zr5 M.names.length δ (λi y _=>∃m,M.names[i]? =some m/\y=oV (Et M m.2.1 m.2.2)) (λ_ _ _ _ h _=>h) (λH' s=>⟨s _ _ S,δ⟩) (λi H' O s=>⟨s _ _ S,δ⟩) (λi x H4 R O B y=>?_) ?_
 ·obtain⟨rfl,kv,ekv,rfl⟩:=y;obtain⟨t,m,em,et,ot,tt⟩:=ZAg P.jn.nms ekv;refine⟨rfl,λq hq=>Gh hq,λq hq=>?_⟩;have ot4:=B _ _ (f _ _ ot (nmn _ _ ot));refine⟨t,_,_,_,by rw[et],fY.of ot4,?_⟩;walk_at"c";apply⟨_,_,_,rfl,Tg,s,A,M,w3.same B,rfl,λH6 d=>hq _ _ d ⟨m,em,rfl⟩⟩
 ·intro ys H4 B ly hy p W;have ey:ys=(fZ M).map oV:=by
   refine List.ext_getElem? λi=>?_
   by_cases O:i<ys.length
   ·obtain⟨m,v,g⟩:=hy i ys[i] (bK O);rw[bK O,g];unfold fZ;rw[cF,cF,v];rfl
   ·rw[List.getElem?_eq_none δ,List.getElem?_eq_none];unfold fZ;rw[bB,bB];omega
  subst ey;have g5:=B _ _ S;have w:p≠A.nm:=λz=>by rw[z,g5]at W;cases W
  refine⟨A.nm,o,_,by rw[aD w.symm];exact g5,(λo' u z=>by rw[j.jn.om]at z;cases z),?_⟩;generalize D:upd (upd H4 p (.lst ((fZ M).map oV))) A.nm (.dK (vp M.names A.ns))=R;have L:aU H2 R:=λb u hb=>by
   rw[<- D]
   by_cases z:b=A.nm
   ·subst z;rw[aq];rw[E]at hb;exact hb
   ·have h3:=f b u hb z;rw[aD z,aD (aH (B _ _ h3) W)];exact B _ _ h3
  have np2:H2 p=none:=by
   cases z:H2 p with
   | none=>rfl
   | some u=>
    have:=B _ _ (f p u z w);rw[W]at this;cases this
  have J:R p=some (.lst ((fZ M).map oV)):=by rw[<- D,aD w];exact aq
  clear D;have I:=s1.trans (Y.trans L);have C:=Y.trans L;apply⟨aR ζ,λl2 nl2=>?_⟩;generalize zz:upd R l2 _=H6;obtain⟨d,g6⟩:=nwO nl2 zz;refine⟨l1,l2,_,_,rfl,rfl,d _ _ (C _ _ Z),g6,?_,λl3 a=>?_⟩
  ·rw[bB];have:(heldOf M).length=M.hands.length:=by unfold heldOf;rw[bB]
   exact aR (by simp;omega)
  have U:=aK a (.lst (c.map V.ref++[.ref p]));have N:=I.trans (d.trans U);have e7:c.map V.ref++[V.ref p]=(c++[p]).map V.ref:=by rw[List.map_append];rfl
  rw[e7]at U N ⊢;have fp:H p=none:=s1.free (Y.free np2);refine q l3 (c++[p]) _ N (I.free (d.free a)) aq ?_ (λr hr=>?_) (λhr=>?_) λk r x v g=>?_
  ·unfold gM;rw[List.length_append,List.length_append,F];rfl
  ·rcases List.mem_append.mp hr with hr | hr
   ·exact nn1 r hr
   ·rw[List.mem_singleton.mp hr];exact fp
  ·rcases List.mem_append.mp hr with hr | hr
   ·obtain⟨k,hk,e⟩:=List.getElem_of_mem hr;have:=g1 k l3 (heldOf M)[k] (by rw[bK hk,e]) (bK δ);rw[d _ _ (C _ _ this)]at a;cases a
   ·rw[List.mem_singleton.mp hr,d _ _ J]at a;cases a
  ·unfold gM at g
   by_cases hk:k<c.length
   ·rw[List.getElem?_append_left hk]at v;rw[List.getElem?_append_left δ]at g;exact U _ _ (d _ _ (C _ _ (g1 k r x v g)))
   ·have hk2:=(cZ v).1;rw[List.length_append,List.length_singleton]at hk2;have ek:k=c.length:=δ
    rw[List.getElem?_append_right δ]at v g;rw[ek,Nat.sub_self]at v;rw[ek,F,Nat.sub_self]at g;cases v;cases g;exact U _ _ (d _ _ J)
end
namespace KB
abbrev Fd:=List (Option Au)
def Rb(F:Fd)(p:Int):Option Au:=if 0<=p then(F[p.toNat]?).join else none
def nxt(F:Fd)(pl:AA)(f:Int):AA:=match pl with
 | none=>none
 | some p=>match Rb F p with
  | none=>none
  | some fl=>if 0<=f then(fl[f.toNat]?).join else none
abbrev Rw:=List Au
def slt(R:Rw)(r s:Int):AA:=((R[r.toNat]?).bind λx=>x[s.toNat]?).join
def Zb1(F:Fd)(w:AD)(x:AA×Nat):Option (Int×AD):=match x.1 with
 | none=>none
 | some q=>if (Rb F q).isSome then some (q,w++[(x.2:Int)])else none
def onw(F:Fd)(w:AD)(n:Nat)(ps:Au):List (Int×AD):=(ps.zipIdx n).filterMap (Zb1 F w)
def q0(F:Fd)(n:Nat)(R:Rw):List (Int×AD):=(R.zipIdx n).flatMap λx=>onw F [(x.2:Int)] 0 x.1
structure Good(F:Fd)(R:Rw)(p:Int)(w:AD):Prop where
 ex:∃r s fs row,w=r::s::fs/\0<=r/\0<=s/\R[r.toNat]? =some row/\s.toNat<row.length/\(∀f∈fs,0<=f)/\fs.foldl (nxt F) (slt R r s)=some p
 there:(Rb F p).isSome=true
theorem Rx{F:Fd}{w:AD}{n:Nat}{ps:Au}{q:Int}{v:AD}(h:(q,v)∈onw F w n ps):∃k,ps[k]? =some (some q)/\v=w++[((n+k:Nat):Int)]/\(Rb F q).isSome=true:=by
 obtain⟨⟨x,m⟩,hm,e⟩:=List.mem_filterMap.mp h;obtain⟨b,a⟩:=List.mem_zipIdx_iff_le_and_getElem?_sub.mp hm;unfold Zb1 at e;cases x with
 | none=>cases e
 | some c=>
  simp only at e;split at e
  ·rename_i hs
   cases e;refine⟨m - n,a,?_,hs⟩;have:n+(m - n)=m:=by have:=b;simp only at this;omega
   rw[this]
  ·cases e
theorem Zru{F:Fd}{R:Rw}{p q:Int}{w v:AD}{fl:Au}(g:Good F R p w)(a:Rb F p=some fl)(h:(q,v)∈onw F w 0 fl):Good F R q v:=by
 obtain⟨k,hk,rfl,hs⟩:=Rx h;obtain⟨⟨r,s,fs,b,rfl,h1,h2,h3,h4,h5,h6⟩,_⟩:=g;refine⟨⟨r,s,fs++[((0+k:Nat):Int)],b,rfl,h1,h2,h3,h4,λf a=>?_,?_⟩,hs⟩
 ·rcases List.mem_append.mp a with z | z
  ·exact h5 f z
  ·have:f=((0+k:Nat):Int):=by simpa using z
   omega
 ·rw[List.foldl_append,h6];show nxt F (some p) _=some q;unfold nxt;simp only[a];rw[if_pos δ];have:(((0+k:Nat):Int)).toNat=k:=δ
  rw[this,hk];rfl
theorem Zvm{F:Fd}{R:Rw}{q:Int}{v:AD}(h:(q,v)∈q0 F 0 R):Good F R q v:=by
 obtain⟨⟨a,n⟩,hm,h⟩:=List.mem_flatMap.mp h;have hr:R[n]? =some a:=List.mem_zipIdx_iff_getElem?.mp hm;obtain⟨k,hk,rfl,hs⟩:=Rx h;refine⟨⟨(n:Int),((0+k:Nat):Int),[],a,rfl,δ,δ,by simpa using hr,?_,(λf b=>by cases b),?_⟩,hs⟩
 ·have:k<a.length:=(cZ hk).1;omega
 ·show slt R _ _=some q;unfold slt;have c:((n:Int)).toNat=n:=δ
  have d:(((0+k:Nat):Int)).toNat=k:=δ
  rw[c,d,hr];simp only[Option.bind_some,hk,Option.join_some]
inductive RW(F:Fd)(R:Rw):List (Int×AD)->Nat->List (Int×AD)->Prop
 | start:RW F R (q0 F 0 R) 0 []
 | old {q k l p w}:RW F R q k l->q[k]? =some (p,w)->p∈l.map (·.1)->RW F R q (k+1) l
 | new {q k l p w fl}:RW F R q k l->q[k]? =some (p,w)->p∉l.map (·.1)->Rb F p=some fl->RW F R (q++onw F w 0 fl) (k+1) (l++[(p,w)])
theorem RW.good{F:Fd}{R:Rw}{q l:List (Int×AD)}{k:Nat}(b:RW F R q k l):(∀x∈q,Good F R x.1 x.2)/\∀x∈l,Good F R x.1 x.2:=by
 induction b with
 | start=>exact⟨λx hx=>Zvm hx,λx hx=>nomatch hx⟩
 | old _ _ _ ih=>exact ih
 | new b hq hn c ih=>
  have g:=ih.1 _ (List.mem_of_getElem? hq);refine⟨λx hx=>?_,λx hx=>?_⟩
  ·rcases List.mem_append.mp hx with z | z
   ·exact ih.1 x z
   ·exact Zru g c z
  ·rcases List.mem_append.mp hx with z | z
   ·exact ih.2 x z
   ·have a:=List.mem_singleton.mp z;rw[a];exact g
def wgt:Option Au->Nat
 | none=>0
 | some fl=>fl.length
def Zh5(F:Fd)(l:List (Int×AD)):Nat:=((F.zipIdx).map λx=>if (x.2:Int)∈l.map (·.1)then 0 else wgt x.1).sum
theorem Zp1{a:Type}(f g:a->Nat):∀(xs:List a),(∀x∈xs,g x<=f x)->(xs.map g).sum<=(xs.map f).sum
 | [],_=>Nat.le_refl _
 | x::xs,h=>by
  have h1:=h x ζ;have h2:=Zp1 f g xs λy hy=>h y (by simp[hy]);simp only[List.map_cons,List.sum_cons];omega
theorem Ze4{b:Type}(f g:b->Nat)(d:Nat):∀(xs:List b) (a:b),a∈xs->(∀x∈xs,g x<=f x)->g a+d<=f a->(xs.map g).sum+d<=(xs.map f).sum
 | [],_,h,_,_=>nomatch h
 | x::xs,a,c,h,hd=>by
  have h1:=h x ζ;have h2:=Zp1 f g xs λy hy=>h y (by simp[hy]);simp only[List.map_cons,List.sum_cons];rcases List.mem_cons.mp c with z | z
  ·subst z;omega
  ·have h3:=Ze4 f g d xs a z (λy hy=>h y (by simp[hy])) hd;omega
theorem Rr{F:Fd}{w:AD}{n:Nat}{ps:Au}:(onw F w n ps).length<=ps.length:=by
 unfold onw;have:=List.length_filterMap_le (Zb1 F w) (ps.zipIdx n);rw[List.length_zipIdx]at this;exact this
theorem Zoo{F:Fd}{l:List (Int×AD)}{p:Int}{w:AD}{fl:Au}(hn:p∉l.map (·.1))(a:Rb F p=some fl):Zh5 F (l++[(p,w)])+fl.length<=Zh5 F l:=by
 unfold Rb at a;split at a
 ·rename_i b
  have hp:F[p.toNat]? =some (some fl):=by
   cases e:F[p.toNat]? with
   | none=>rw[e]at a;cases a
   | some x=>rw[e]at a;simp only[Option.join_some]at a;rw[a]
  unfold Zh5;refine Ze4 _ _ fl.length _ (some fl,p.toNat) (List.mem_zipIdx_iff_getElem?.mpr hp) (λx _=>?_) ?_
  ·simp only[List.map_append,List.map_cons,List.map_nil,List.mem_append]
   by_cases h1:(x.2:Int)∈l.map (·.1)
   ·simp only[h1,true_or,↓reduceIte,Nat.le_refl]
   ·simp only[h1,false_or];split
    ·exact Nat.zero_le _
    ·exact Nat.le_refl _
  ·have e:((p.toNat:Nat):Int)=p:=δ
   simp only[List.map_append,List.map_cons,List.map_nil,List.mem_append,e];rw[if_pos (.inr ζ),if_neg hn];show 0+fl.length<=wgt (some fl);show 0+fl.length<=fl.length;omega
 ·cases a
def total(F:Fd)(R:Rw):Nat:=(q0 F 0 R).length+Zh5 F []
theorem RW.bound{F:Fd}{R:Rw}{q l:List (Int×AD)}{k:Nat}(b:RW F R q k l):q.length+Zh5 F l<=total F R:=by
 induction b with
 | start=>exact Nat.le_refl _
 | old _ _ _ ih=>exact ih
 | new b hq hn a ih=>
  have h2:=@Rr F;rw[List.length_append];refine Nat.le_trans ?_ ih
  rename_i w fl
  have h3:=h2 (w:=w) (n:=0) (ps:=fl);have h4:=Zoo (w:=w) hn a;omega
end KB
def Zw1(cs:List V)(i:Int):V:=if 0<=i then(cs[i.toNat]?).getD .non else .non
def CO(a:AH)(H:Hp)(cs:List V)(i:Nat):Option Au->Prop
 | none=>cs[i]? =some .non
 | some fl=>∃p fa b u t l,cs[i]? =↑p/\Ao a H p fa b u t l (fl.map oV)
structure HV(CC CH:AH)(H:Hp)(hp:AH)(F:KB.Fd):Prop where
 ex:∃ca room used born cs,HpO CH H hp ca room used born cs/\cs.length=F.length/\∀(i:Nat) x,F[i]? =some x->CO CC H cs i x
theorem HpO.same{a:AH}{H H':Hp}{hp ca:AH}{room used born:Int}{cs:List V}(h:HpO a H hp ca room used born cs)(s:aU H H'):HpO a H' hp ca room used born cs:=by
 obtain⟨⟨b,h1⟩,h2⟩:=h;exact⟨⟨b,s _ _ h1⟩,s _ _ h2⟩
theorem CO.same{a:AH}{H H':Hp}{cs:List V}{i:Nat}{x:Option Au}(h:CO a H cs i x)(s:aU H H'):CO a H' cs i x:=by
 cases x with
 | none=>exact h
 | some fl=>
  obtain⟨p,d,b,u,t,l,e,c⟩:=h;exact⟨p,d,b,u,t,l,e,c.same s⟩
theorem HV.same{b a:AH}{H H':Hp}{hp:AH}{F:KB.Fd}(h:HV b a H hp F)(s:aU H H'):HV b a H' hp F:=by
 obtain⟨ca,room,used,born,cs,o,l,e⟩:=h;exact⟨ca,room,used,born,cs,o.same s,l,λi x hx=>(e i x hx).same s⟩
theorem Zs4{g:AH}{H:Hp}{cs:List V}{F:KB.Fd}(hl:cs.length=F.length)(e:∀(i:Nat) x,F[i]? =some x->CO g H cs i x)(i:Int):
  (KB.Rb F i=none/\Zw1 cs i=.non)\/∃fl p fa b u t l,KB.Rb F i=some fl/\Zw1 cs i=.ref p/\cs[i.toNat]? =↑p/\0<=i/\Ao g H p fa b u t l (fl.map oV):=by
 unfold KB.Rb Zw1
 by_cases a:0<=i
 ·simp only[a,↓reduceIte];cases d:F[i.toNat]? with
  | none=>
   have:cs[i.toNat]? =none:=by rw[List.getElem?_eq_none_iff]at d ⊢;omega
   exact .inl ⟨rfl,by rw[this];rfl⟩
  | some x=>
   have c:=e _ _ d;cases x with
   | none=>exact .inl ⟨rfl,by rw[show cs[i.toNat]? =some V.non from c];rfl⟩
   | some fl=>
    obtain⟨p,fa,b,u,t,l,f,h⟩:=c;exact .inr ⟨fl,p,fa,b,u,t,l,rfl,by rw[f];rfl,f,trivial,h⟩
 ·simp only[a,↓reduceIte];exact .inl ⟨trivial,trivial⟩
def Ju(H:Hp):AE->List (Int×AD)->Prop
 | [],[]=>True
 | t::ts,x::b=>(∃a,H t=some (.tup [.int x.1,.ref a])/\H a=some (.tup (x.2.map V.int)))/\Ju H ts b
 | _,_=>False
theorem Ju.same{H H':Hp}(s:aU H H'):∀{ts:AE}{b:List (Int×AD)},Ju H ts b->Ju H' ts b
 | [],[],_=>trivial
 | [],_::_,h=>h.elim
 | _::_,[],h=>h.elim
 | _::_,_::_,⟨⟨a,h1,h2⟩,h3⟩=>⟨⟨a,s _ _ h1,s _ _ h2⟩,Ju.same s h3⟩
theorem Ju.app{H:Hp}:∀{ts us:AE}{a rs:List (Int×AD)},Ju H ts a->Ju H us rs->Ju H (ts++us) (a++rs)
 | [],_,[],_,_,h=>h
 | [],_,_::_,_,h,_=>h.elim
 | _::_,_,[],_,h,_=>h.elim
 | _::_,_,_::_,_,⟨h1,h3⟩,h=>⟨h1,Ju.app h3 h⟩
theorem Ju.len{H:Hp}:∀{ts:AE}{a:List (Int×AD)},Ju H ts a->ts.length=a.length
 | [],[],_=>rfl
 | [],_::_,h=>h.elim
 | _::_,[],h=>h.elim
 | _::_,_::_,⟨_,h3⟩=>by rw[List.length_cons,List.length_cons,Ju.len h3]
theorem Ju.at{H:Hp}:∀{ts:AE}{b:List (Int×AD)}{i:Nat}{x:Int×AD},Ju H ts b->b[i]? =some x->∃t a,ts[i]? =some t/\H t=some (.tup [.int x.1,.ref a])/\H a=some (.tup (x.2.map V.int))
 | [],[],_,_,_,e=>by simp at e
 | [],_::_,_,_,h,_=>h.elim
 | _::_,[],_,_,h,_=>h.elim
 | t::_,_::_,0,_,⟨⟨a,h1,h2⟩,_⟩,e=>by cases e;exact⟨t,a,rfl,h1,h2⟩
 | _::_,_::_,i+1,_,⟨_,h3⟩,e=>Ju.at (i:=i) h3 e
def Gu(K:aC)(b c:AH):Sp:=λvs H Q E=>∃hp a wt F ps w,vs=[.ref hp,.ref a,.ref wt]/\HV b c H hp F/\cB K H a (ps.map oV)/\fY K H wt (w.map V.int)/\w≠[]/\w.length<=100000/\ps.length<=1000/\
 ∀l ts H',H l=none->aU H H'->H' l=some (.lst (ts.map V.ref))->Ju H' ts (KB.onw F w 0 ps)->Q (.ref l) H'
def Js(K:aC)(H:Hp):AE->KB.Rw->Prop
 | [],[]=>True
 | a::b,r::R=>cB K H a (r.map oV)/\Js K H b R
 | _,_=>False
theorem Js.same{K:aC}{H H':Hp}(s:aU H H'):∀{a:AE}{R:KB.Rw},Js K H a R->Js K H' a R
 | [],[],_=>trivial
 | [],_::_,h=>h.elim
 | _::_,[],h=>h.elim
 | _::_,_::_,⟨h1,h3⟩=>⟨s.seq h1,Js.same s h3⟩
theorem Js.len{K:aC}{H:Hp}:∀{a:AE}{R:KB.Rw},Js K H a R->a.length=R.length
 | [],[],_=>rfl
 | [],_::_,h=>h.elim
 | _::_,[],h=>h.elim
 | _::_,_::_,⟨_,h3⟩=>by rw[List.length_cons,List.length_cons,Js.len h3]
theorem Js.at{K:aC}{H:Hp}:∀{b:AE}{R:KB.Rw}{i:Nat}{a:AH},Js K H b R->b[i]? =some a->∃r,R[i]? =some r/\cB K H a (r.map oV)
 | [],[],_,_,_,e=>by simp at e
 | [],_::_,_,_,h,_=>h.elim
 | _::_,[],_,_,h,_=>h.elim
 | _::_,r::_,0,_,⟨h1,_⟩,e=>by cases e;exact⟨r,rfl,h1⟩
 | _::_,_::_,i+1,_,⟨_,h3⟩,e=>Js.at (i:=i) h3 e
structure Few(F:KB.Fd)(R:KB.Rw):Prop where
 f:F.length<=1000
 g:∀p fl,KB.Rb F p=some fl->fl.length<=1000
 r:R.length<=1000
 s:∀x∈R,x.length<=1000
 t:KB.total F R<=90000
def Hj(K:aC)(c d:AH):Sp:=λvs H Q E=>∃hp b F rs R,vs=[.ref hp,.ref b]/\HV c d H hp F/\cB K H b (rs.map V.ref)/\Js K H rs R/\Few F R/\
 ∀l ts q a H',KB.RW F R q q.length a->H l=none->aU H H'->H' l=some (.lst (ts.map V.ref))->Ju H' ts a->Q (.ref l) H'
theorem ZBr{g e hp:AH}{H:Hp}{Q:VK}{E:XK}{pl:AA}{F:KB.Fd}(v:HV g e H hp F)(f:pl.bind (KB.Rb F)=none->Q .non H)(j:∀fl p fa b u t l,pl.bind (KB.Rb F)=some fl->Ao g H p fa b u t l (fl.map oV)->Q (.ref p) H):eO e [.ref hp,oV pl] H Q E:=by
 obtain⟨ca,room,used,born,cs,o,hl,h⟩:=v;refine⟨hp,oV pl,rfl,Ac pl,ca,room,used,born,cs,o,?_⟩;cases pl with
 | none=>exact f rfl
 | some i=>
  show Q (Zw1 cs i) H;rcases Zs4 hl h i with ⟨a,d⟩ | ⟨fl,p,fa,b,u,t,l,a,d,_,_,c⟩
  ·rw[d];exact f a
  ·rw[d];exact j fl p fa b u t l a c
theorem Zep(F:KB.Fd)(w:AD)(n:Nat)(ps:Au)(x:AA):KB.onw F w n (ps++[x])=KB.onw F w n ps++(KB.Zb1 F w (x,n+ps.length)).toList:=by
 unfold KB.onw;rw[List.zipIdx_append,List.filterMap_append];congr 1
theorem take_snoc{a:Type}{xs:List a}{i:Nat}{x:a}(h:xs[i]? =some x):xs.take (i+1)=xs.take i++[x]:=by
 rw[List.take_add_one,h];rfl
theorem m5{H:Hp}{a:AH}{o:HO}(h:H a=none):aU H (upd H a o):=λb u q=>by rw[aD (aH q h)];exact q
section
variable {K:aC}{bC bA bU:AH}{H:Hp}{Q:VK}{E:XK}{n:ν}{bk ct:ν}
theorem Zin{hp a wt:AH}{F:KB.Fd}{ps:Au}{w:AD}(v:HV bC bA H hp F)(O:cB K H a (ps.map oV))(hw:fY K H wt (w.map V.int))(A:w≠[])(S:w.length<=100000)(T:ps.length<=1000)
  (Zx2:∀{H':Hp},aU H H'->fY K H' wt (w.map V.int))
  (q:∀l ts H',H l=none->aU H H'->H' l=some (.lst (ts.map V.ref))->Ju H' ts (KB.onw F w 0 ps)->Q (.ref l) H'):
  GJ K (eO bA) ξ [↑hp,↑a,↑wt] H:=by
 unfold GJ;apply⟨a,rfl,⟨_,O⟩,Zuq O (by rw[bB];omega) (λi s f=>aU H f/\i<=ps.length/\∃ts,s=ts.map V.ref/\Ju f ts (KB.onw F w 0 (ps.take i))) ⟨aU.refl _,Nat.zero_le _,[],rfl,trivial⟩ ?_ ?_ ?_⟩
 ·rintro i s f ⟨sm,R,ts,rfl,g⟩;refine⟨sm,?_⟩;rw[bB,g.len];refine Nat.le_trans KB.Rr ?_;rw[List.length_take];omega
 ·rintro i x s f t C M hx ⟨sm,R,ts,rfl,g⟩ W;walk_at"c";rw[cF]at hx;obtain⟨y,hy,rfl⟩:=Option.map_eq_some_iff.mp hx;have m:i<ps.length:=(cZ hy).1;have j:0+(ps.take i).length=i:=by rw[List.length_take];omega
  have L:aU f (upd f t (.tup [.int i,oV y])):=m5 W;have k:=sm.trans L;apply ZBr (v.same k) (λe=>?_) (λfl p Y b u Z l e c=>?_)
  ·refine Zjn ?_;apply Zuy (M _ _ ⟨k,m,ts,rfl,?_⟩);rw[take_snoc hy,Zep,j];have J:KB.Zb1 F w (y,i)=none:=by
    unfold KB.Zb1;cases y with
    | none=>rfl
    | some d=>simp only;rw[show KB.Rb F d=none from e];rfl
   rw[J];simp only[Option.toList_none,List.append_nil];exact g.same L
  ·refine Zjn ?_;apply Zjj ?_;obtain⟨d,rfl⟩:∃d,y=some d:=by
    cases y with
    | none=>cases e
    | some d=>exact⟨d,rfl⟩
   have X:KB.Rb F d=some fl:=e;apply⟨(by show 1<=sizeLine;decide),λt2 E=>?_⟩;have P:=L.trans (m5 (o:=.tup [.int i]) E);refine⟨wt,t2,w.map V.int,[.int i],rfl,rfl,Zx2 (sm.trans P),fY.of aq,by simpa using A,by rw[bB];exact aR (by simp only[List.length_cons,List.length_nil];omega),ag,(λ_ h D=>?_)⟩;have U:=P.trans (m5 (o:=.tup (w.map V.int++[.int i])) D);apply⟨(by show 2<=sizeLine;decide),λB r=>?_⟩;have N:=U.trans (m5 (o:=.tup [oV (some d),.ref h]) r);have I:h≠B:=aH aq r;have h3:upd (upd (upd (upd f t (.tup [.int i,oV (some d)])) t2 (.tup [.int i])) h (.tup (w.map V.int++[.int i]))) B (.tup [oV (some d),.ref h]) h=some (.tup (w.map V.int++[.int i])):=by
    rw[aD I,aq]
   apply M _ _ ⟨sm.trans N,m,ts++[B],ζ,?_⟩;rw[take_snoc hy,Zep,j];have J:KB.Zb1 F w (some d,i)=some (d,w++[(i:Int)]):=by
    unfold KB.Zb1;simp only[X,Option.isSome_some,↓reduceIte]
   rw[J];refine(g.same N).app ⟨⟨h,aq,?_⟩,trivial⟩;rw[h3,List.map_append];rfl
 ·rintro s f ⟨sm,_,ts,rfl,g⟩ l hl;ext;rw[bB,List.take_length]at g;exact q l ts _ (sm.free hl) (sm.trans (m5 hl)) aq (g.same (m5 hl))
end
theorem Zx2{K:aC}{H H':Hp}{a:AH}{xs:List V}(e:aU H H')(h:fY K H a xs):fY K H' a xs:=by
 rcases h with (h | ⟨o,h⟩) | h
 ·exact .inl (.inl (e _ _ h))
 ·exact .inl (.inr ⟨o,e _ _ h⟩)
 ·exact .inr h
def TK(H H':Hp):Prop:=∀b xs,H b=some (.tup xs)->H' b=some (.tup xs)
theorem TK.same{H H':Hp}(s:aU H H'):TK H H':=λb _ h=>s b _ h
theorem TK.upd{H:Hp}{a:AH}{o:HO}(h:∀xs,H a≠some (.tup xs)):TK H (L2.upd H a o):=λb xs q=>by
 have n:b≠a:=λz=>h xs (by rw[<- z];exact q);rw[aD n];exact q
theorem TK.trans{H e d:Hp}(a:TK H e)(b:TK e d):TK H d:=λc xs h=>b c xs (a c xs h)
theorem Ju.tk{H H':Hp}(s:TK H H'):∀{ts:AE}{b:List (Int×AD)},Ju H ts b->Ju H' ts b
 | [],[],_=>trivial
 | [],_::_,h=>h.elim
 | _::_,[],h=>h.elim
 | _::_,_::_,⟨⟨a,h1,h2⟩,h3⟩=>⟨⟨a,s _ _ h1,s _ _ h2⟩,Ju.tk s h3⟩
def ZC(H:Hp):List (Key×V)->List (Int×AD)->Prop
 | [],[]=>True
 | kv::b,x::c=>(kv.1=Sum.inl x.1/\∃a,kv.2=.ref a/\H a=some (.tup (x.2.map V.int)))/\ZC H b c
 | _,_=>False
theorem ZC.tk{H H':Hp}(s:TK H H'):∀{b:List (Key×V)}{c:List (Int×AD)},ZC H b c->ZC H' b c
 | [],[],_=>trivial
 | [],_::_,h=>h.elim
 | _::_,[],h=>h.elim
 | _::_,_::_,⟨⟨d,a,h1,h2⟩,h3⟩=>⟨⟨d,a,h1,s _ _ h2⟩,ZC.tk s h3⟩
theorem ZC.app{H:Hp}:∀{b ls:List (Key×V)}{a rs:List (Int×AD)},ZC H b a->ZC H ls rs->ZC H (b++ls) (a++rs)
 | [],_,[],_,_,h=>h
 | [],_,_::_,_,h,_=>h.elim
 | _::_,_,[],_,h,_=>h.elim
 | _::_,_,_::_,_,⟨h1,h3⟩,h=>⟨h1,ZC.app h3 h⟩
theorem ZC.len{H:Hp}:∀{ts:List (Key×V)}{a:List (Int×AD)},ZC H ts a->ts.length=a.length
 | [],[],_=>rfl
 | [],_::_,h=>h.elim
 | _::_,[],h=>h.elim
 | _::_,_::_,⟨_,h3⟩=>by rw[List.length_cons,List.length_cons,ZC.len h3]
theorem ZC.val{H:Hp}(p:Int):∀{a:List (Key×V)}{b:List (Int×AD)},ZC H a b->(o9 a (Sum.inl p)).isSome=decide (p∈b.map (·.1))
 | [],[],_=>by simp[o9]
 | [],_::_,h=>h.elim
 | _::_,[],h=>h.elim
 | kv::a,x::b,⟨⟨c,_⟩,h3⟩=>by
  by_cases e:x.1=p
  ·rw[oJ (by rw[c,e])];simp[e]
  ·rw[oK (by rw[c];exact λz=>e (Sum.inl.inj z)),ZC.val p h3];simp only[List.map_cons,List.mem_cons];have d:¬ p=x.1:=λz=>e z.symm;simp only[d,false_or]
theorem ZC.prs{H:Hp}:∀{ts:AE}{b:List (Key×V)}{c:List (Int×AD)},ZC H b c->Zgm H ts b->Ju H ts c
 | [],[],[],_,_=>trivial
 | _,[],_::_,h,_=>h.elim
 | _,_::_,[],h,_=>h.elim
 | [],_::_,_::_,_,h=>h.elim
 | _::_,[],[],_,h=>h.elim
 | t::ts,kv::b,x::c,⟨⟨d,a,h1,h2⟩,h3⟩,⟨f,e⟩=>⟨⟨a,by rw[f,d,h1];rfl,h2⟩,ZC.prs h3 e⟩
theorem Ztk(F:KB.Fd)(R:KB.Rw)(i:Nat)(r:Au)(h:R[i]? =some r):KB.q0 F 0 (R.take (i+1))=KB.q0 F 0 (R.take i)++KB.onw F [(i:Int)] 0 r:=by
 unfold KB.q0;rw[take_snoc h,List.zipIdx_append,List.flatMap_append];have hl:(R.take i).length=i:=by
  have:=(cZ h).1;rw[List.length_take];omega
 rw[hl];simp only[List.zipIdx_cons,List.zipIdx_nil,List.flatMap_cons,List.flatMap_nil,List.append_nil,Nat.zero_add]
structure RS(K:aC)(CC CH:AH)(H0 H:Hp)(ql d:AH)(F:KB.Fd)(R:KB.Rw)(q qs:List (Int×AD))(k:Nat):Prop where
 sm:aU H0 H
 nq:H0 ql=none
 b:KB.RW F R q k qs
 hk:k<=q.length
 oq:∃ts,H ql=some (.lst (ts.map V.ref))/\Ju H ts q
 od:∃kvs,H d=some (.dK kvs)/\ZC H kvs qs
 nd:H0 d=none
theorem Zqy{H:Hp}{a:AH}{xs:List V}{o:HO}(h:H a=some (.lst xs)):TK H (upd H a o):=TK.upd λb z=>by rw[h]at z;cases z
theorem ZBm{H:Hp}{a:AH}{xs:List (Key×V)}{o:HO}(h:H a=some (.dK xs)):TK H (upd H a o):=TK.upd λb z=>by rw[h]at z;cases z
theorem SN{H0 H:Hp}{a:AH}{o:HO}(s:aU H0 H)(h:H0 a=none):aU H0 (upd H a o):=λb u q=>by rw[aD (aH q h)];exact s b u q
theorem Zw9{F:KB.Fd}{R:KB.Rw}{q l:List (Int×AD)}{k:Nat}(b:KB.RW F R q k l):l.length<=k:=by
 induction b with
 | start=>exact Nat.le_refl _
 | old _ _ _ ih=>omega
 | new _ _ _ _ ih=>rw[List.length_append];simp only[List.length_cons,List.length_nil];omega
theorem Zss{F:KB.Fd}{R:KB.Rw}{q l:List (Int×AD)}{k:Nat}(b:KB.RW F R q k l):∀x∈q,x.2.length<=k+2:=by
 induction b with
 | start=>
  intro x hx;obtain⟨⟨a,n⟩,hm,h⟩:=List.mem_flatMap.mp hx;obtain⟨j,_,e,_⟩:=KB.Rx (q:=x.1) (v:=x.2) h;rw[e];simp
 | old _ _ _ ih=>intro x hx;have:=ih x hx;omega
 | new b hq _ _ ih=>
  intro x hx;rcases List.mem_append.mp hx with z | z
  ·have:=ih x z;omega
  ·obtain⟨j,_,e,_⟩:=KB.Rx (q:=x.1) (v:=x.2) z;have:=ih _ (List.mem_of_getElem? hq);rw[e,List.length_append];simp only[List.length_cons,List.length_nil];simp only at this;omega
theorem Zxa(F:KB.Fd):∀(R S:KB.Rw) (n:Nat),(KB.q0 F n R).length<=(KB.q0 F n (R++S)).length:=λR S n=>by
 unfold KB.q0;rw[List.zipIdx_append,List.flatMap_append,List.length_append];omega
theorem Ztj(F:KB.Fd)(R:KB.Rw)(i:Nat):(KB.q0 F 0 (R.take i)).length<=KB.total F R:=by
 have:=Zxa F (R.take i) (R.drop i) 0;rw[List.take_append_drop]at this;unfold KB.total;omega
section
variable {K:aC}{bC bA bU:AH}{H:Hp}{Q:VK}{E:XK}{n:ν}{bk ct:ν}
theorem Zeg{hp Y:AH}{F:KB.Fd}{rs:AE}{R:KB.Rw}{v2 v3 v4 v5 v6 L I:Option V}(T:TxC K bC bA)(v:HV bC bA H hp F)(hr:cB K H Y (rs.map V.ref))(rw':Js K H rs R)(P:Few F R)
  (q:∀l ts q N H',KB.RW F R q q.length N->H l=none->aU H H'->H' l=some (.lst (ts.map V.ref))->Ju H' ts N->Q (.ref l) H'):
  Bp K (Gu K bC bA) ξ [↑hp,↑Y,v2,v3,v4,v5,v6,L,I] H:=by
 have hrl:=rw'.len;have f1:=P.r;unfold Bp;apply⟨(by show 0<=sizeLine;decide),λA E=>?_⟩;apply⟨Y,rfl,⟨_,(m5 E).seq hr⟩,ZBe (rs.map V.ref) (λi U O=>i<=rs.length/\aU H O/\(∃ts,O A=some (.lst (ts.map V.ref))/\Ju O ts (KB.q0 F 0 (R.take i)))/\∃x y,U=[↑hp,↑Y,↑A,x,y,v5,v6,L,I])
  ⟨Nat.zero_le _,m5 E,⟨[],aq,trivial⟩,_,_,rfl⟩ (by rintro i U O _ ⟨_,sm,_⟩;exact sm.seq hr) ?_ ?_⟩
 ·rintro i x t U O hx ⟨hi,sm,⟨ts,f,D⟩,y,z,rfl⟩ ht;rw[cF]at hx;obtain⟨r,er,rfl⟩:=Option.map_eq_some_iff.mp hx;obtain⟨row,eR,hrow⟩:=rw'.at er;have hil:i<rs.length:=(cZ er).1;have B:=m5 (o:=.tup [.int i,.ref r]) ht;refine⟨t,_,rfl,fY.of aq,rfl,.int i,_,rfl,?_⟩;exists .ref r,_,rfl;exists rfl;exists .inl ⟨rfl,_,cB.of (B _ _ f)⟩;apply⟨(by show 1<=sizeLine;decide),λt2 ht2=>?_⟩;have C:=B.trans (m5 (o:=.tup [.int i]) ht2);apply⟨hp,r,t2,F,row,[(i:Int)],rfl,v.same (sm.trans C),(sm.trans C).seq hrow,fY.of aq,ag,(by show 1<=100000;decide),P.s _ (List.mem_of_getElem? eR),λl us H' hl s3 hl' qa'=>?_⟩;have s4:=C.trans s3;have hq':H' A=some (.lst (ts.map V.ref)):=s4 _ _ f;ext;have hlen:ts.length<=100000:=by
   rw[D.len];exact Nat.le_trans (Nat.le_trans (Ztj F R i) P.t) ε
  have hlen2:us.length<=1000:=by
   rw[qa'.len];exact Nat.le_trans KB.Rr (P.s _ (List.mem_of_getElem? eR))
  refine⟨A,l,_,_,rfl,rfl,hq',hl',by rw[bB,bB];exact aR δ,?_⟩;apply⟨hil,SN (sm.trans s4) E,⟨ts++us,by rw[aq,List.map_append],?_⟩,_,_,rfl⟩;rw[Ztk F R i row eR];exact((D.same s4).app qa').tk (Zqy hq')
 ·rintro U O ⟨hi,sm,⟨ts,f,D⟩,y,z,rfl⟩;rw[bB,hrl,List.take_length]at D;ext;intro d hd;ext;have ndq:d≠A:=λe=>by rw[e,f]at hd;cases hd
  refine⟨λm U O=>∃q N k x y L I,m=KB.total F R - k/\U=[↑hp,↑Y,↑A,x,y,↑d,some (.int (k:Nat)),L,I]/\RS K bC bA H O A d F R q N k,⟨_,KB.q0 F 0 R,[],0,_,_,_,_,rfl,rfl,?_⟩,?_⟩
  ·exact⟨sm.trans (m5 hd),E,.start,Nat.zero_le _,⟨ts,by rw[aD ndq.symm];exact f,D.same (m5 hd)⟩,⟨[],aq,trivial⟩,sm.free hd⟩
  ·rintro m U Hy ⟨Z,N,k,x,y,L,I,rfl,rfl,rs'⟩;obtain⟨M,nq,b,hk,⟨ts,f,D⟩,⟨h,j,la⟩,nd⟩:=rs';have hlq:=D.len;apply jU (cB.of f) ?_;ext;have hb:=b.bound;refine uE (λz=>?_) (λz=>?_)
   ·rw[bB]at z;have S:k<Z.length:=δ
    have hq:Z[k]? =some Z[k]:=bK S;obtain⟨t,a,et,ht,W⟩:=D.at hq;generalize hx:Z[k]=pw at hq ht W;obtain⟨p,w⟩:=pw;refine⟨λσ' H'=>∃q2 X x y L I,σ'=[↑hp,↑Y,↑A,x,y,↑d,some (.int ((k:Int)+1)),L,I]/\RS K bC bA H H' A d F R q2 X (k+1),?_,?_⟩
    ·rintro σ' H' ⟨q2,X,x,y,L,I,rfl,r2⟩;exact⟨KB.total F R - (k+1),δ,q2,X,k+1,x,y,L,I,rfl,by rw[show((k+1:Nat):Int)=(k:Int)+1 from δ],r2⟩
    have hix:XM (ts.map V.ref) ((k:Nat):Int)=↑t:=jO (by rw[cF,et];rfl);apply jg (cB.of f) hix ?_;exists t,_,0,.int p,rfl,rfl,fY.of ht,qx ε rfl;apply jg (cB.of f) hix ?_;exists t,_,1,.ref a,rfl,rfl,fY.of ht,qx ε rfl;exists d,h,_,rfl,.inl j,rfl;ext;have gd:=b.good.1 _ (List.mem_of_getElem? hq);refine Zy7 (λy=>?_) (λy=>?_)
    ·have hno:o9 h (Sum.inl p)=none:=by
      cases e:o9 h (Sum.inl p)with
      | none=>rfl
      | some _=>rw[e]at y;simp at y
     have hnp:p∉N.map (·.1):=by
      have:=la.val p;rw[hno]at this;simpa using this
     obtain⟨fl,J⟩:∃fl,KB.Rb F p=some fl:=Option.isSome_iff_exists.mp gd.there;exists d,_,rfl,Yd.k (k:=Sum.inl p) j ?_
     ·have h2:=la.len;have h3:=Zw9 b;have h4:=P.t;exact Nat.lt_of_le_of_lt (show h.length<=1000000 by omega) (show 1000000<sizeLine by decide)
     rw[Zpk _ hno];have nd':A≠d:=qe f j (λz=>by cases z);have B:aU H (upd Hy d (.dK (h++[(Sum.inl p,.ref a)]))):=SN M nd;have k1:TK Hy (upd Hy d (.dK (h++[(Sum.inl p,.ref a)]))):=ZBm j;have q1:upd Hy d (.dK (h++[(Sum.inl p,.ref a)])) A=some (.lst (ts.map V.ref)):=(aD nd').trans f;exists .inl ⟨rfl,_,cB.of q1⟩;ext;obtain⟨ca,room,used,born,cs,ho,hl,he⟩:=(v.same B).ex;have ho':=ho;obtain⟨⟨dx,o1⟩,o2⟩:=ho';refine aF o1 T.cA T.bO bT ?_;ext;rcases Zs4 hl he p with ⟨e1,_⟩ | ⟨fl',p',fa,b',u,t',l,e1,_,e3,e4,c⟩
     ·rw[J]at e1;cases e1
     rw[J]at e1;cases e1;refine jg (cB.of o2) (qx e4 e3) ?_;obtain⟨⟨dc,c1⟩,c2⟩:=c;refine aF c1 T.dz T.fL lY ?_;ext;have hw:=Zss b _ (List.mem_of_getElem? hq);have hgt:=P.t;refine⟨hp,fa,a,F,fl,w,rfl,v.same B,cB.of c2,fY.of (k1 _ _ W),?_,?_,P.g p fl J,λl2 us H2 hl2 C hl2' qa2=>?_⟩
     ·obtain⟨r0,s0,fs0,_,e0,_⟩:=gd.ex;intro z;rw[show w=(p,w).2 from rfl,e0]at z;cases z
     ·simp only at hw;omega
     have hq2:H2 A=some (.lst (ts.map V.ref)):=C _ _ q1;have hd2:H2 d=some (.dK (h++[(Sum.inl p,.ref a)])):=C _ _ aq;have k2:=k1.trans (TK.same C);have k3:TK H2 (upd H2 A (.lst (ts.map V.ref++us.map V.ref))):=Zqy hq2;have b2:=KB.RW.new b hq hnp J;have hb2:=b2.bound;rw[List.length_append,<- qa2.len,<- hlq]at hb2;apply⟨A,l2,_,_,rfl,rfl,hq2,hl2',by rw[bB,bB];exact aR δ,?_⟩;apply⟨_,_,_,_,_,_,rfl,⟨SN (B.trans C) nq,nq,b2,by rw[List.length_append];omega,⟨ts++us,by rw[aq,List.map_append],(((D.tk k2).app qa2).tk k3)⟩,⟨_,by rw[aD nd'.symm];exact hd2,((la.tk k2).app ?_).tk k3⟩,nd⟩⟩;exact⟨⟨rfl,a,rfl,k2 _ _ W⟩,trivial⟩
    ·have hin:p∈N.map (·.1):=by
      have:=la.val p;cases e:o9 h (Sum.inl p)with
      | none=>rw[e]at y;simp at y
      | some _=>rw[e]at this;simpa using this.symm
     apply⟨_,_,_,_,_,_,rfl,⟨M,nq,.old b hq hin,δ,⟨ts,f,D⟩,⟨h,j,la⟩,nd⟩⟩
   ·rw[bB]at z;have S:k=Z.length:=δ
    subst S;apply⟨d,h,rfl,.inl j,λvw hvw=>?_⟩;ext;have B:=m5 (o:=NT vw d) hvw;refine Zv5 aq (.inl (B _ _ j)) λl us H2 hl C hl2 pa=>?_;apply q l us Z N H2 b ((M.trans B).free hl) ((M.trans B).trans C) hl2 ((la.tk (TK.same (B.trans C))).prs pa)
end
def fdOf(M:Wm):KB.Fd:=M.cells.map λo=>o.map (·.fl)
theorem WJ0.hv{X:Cs}{H:Hp}{T:Tg}{s:Nat}{A:Wa}{M:Wm}(j:WJ0 X H T s A M):HV X.C X.H H A.hp (fdOf M):=by
 have hl:=j.jc.lc;refine⟨A.ca,M.room,M.used,M.born,A.cs.map pV,j.hpO,by unfold fdOf;rw[bB,bB];exact hl,λi x hx=>?_⟩;unfold fdOf at hx;rw[cF]at hx;obtain⟨o,a,rfl⟩:=Option.map_eq_some_iff.mp hx;cases o with
 | none=>
  show(A.cs.map pV)[i]? =some .non;rw[cF,j.jc.at0 a];rfl
 | some c=>
  obtain⟨p,hp,ce⟩:=j.jc.at a;obtain⟨_,_,o1,o2⟩:=ce;exact⟨p.1,p.2,c.birth,c.bulk,c.tone,c.load,by rw[cF,hp];rfl,⟨o1,o2⟩⟩
theorem Zd7{M:Wm}(x:Int):KB.Rb (fdOf M) x=(cellAt M x).map (·.fl):=by
 unfold KB.Rb fdOf cellAt
 by_cases h:0<=x
 ·rw[if_pos h,if_pos h,cF];cases M.cells[x.toNat]? with
  | none=>rfl
  | some o=>cases o<;>rfl
 ·rw[if_neg h,if_neg h];rfl
section
variable {K:aC}{X:Cs}{H:Hp}{Q:VK}{E:XK}{n:ν}{bk ct:ν}
theorem Zmr{hp a wt:AH}{F:KB.Fd}{ps:Au}{w:AD}(q:HV X.C X.H H hp F/\cB K H a (ps.map oV)/\fY K H wt (w.map V.int)/\w≠[]/\w.length<=100000/\ps.length<=1000/\∀l ts H',H l=none->aU H H'->H' l=some (.lst (ts.map V.ref))->Ju H' ts (KB.onw F w 0 ps)->Q (.ref l) H'):
  GJ K (eO X.H) ξ [↑hp,↑a,↑wt] H:=by
 obtain⟨v,h1,h2,h3,h4,h5,q⟩:=q;exact Zin v h1 h2 h3 h4 h5 (λe=>Zx2 e h2) q
theorem Zi8{hp b:AH}{F:KB.Fd}{rs:AE}{R:KB.Rw}(T:qT K X)(q:HV X.C X.H H hp F/\cB K H b (rs.map V.ref)/\Js K H rs R/\Few F R/\∀l ts q a H',KB.RW F R q q.length a->H l=none->aU H H'->H' l=some (.lst (ts.map V.ref))->Ju H' ts a->Q (.ref l) H'):
  Bp K (Gu K X.C X.H) ξ [↑hp,↑b,none,none,none,none,none,none,none] H:=by
 obtain⟨v,h1,h2,h3,q⟩:=q;exact Zeg T.c v h1 h2 h3 q
end
theorem toN{x:Int}(h:0<=x):∃k:Nat,x=k:=⟨x.toNat,δ⟩
theorem YB(c:Nat):(⟨#[c]⟩:Str).length=1:=rfl
theorem ZA1(a b:Str):(a++b).length=a.length+b.length:=by
 show(a.cps++b.cps).size=_;rw[Array.size_append];rfl
theorem Zgi{e d:Type}{P:e->d->Prop}:∀{xs:List e}{c:List d},xs.length=c.length->(∀(i:Nat) x y,xs[i]? =some x->c[i]? =some y->P x y)->Al P xs c
 | [],[],_,_=>.nil
 | [],_::_,h,_=>by simp at h
 | _::_,[],h,_=>by simp at h
 | x::xs,y::c,h,p=>.cons (p 0 x y rfl rfl) (Zgi (by simpa using h) λi a b h1 h2=>p (i+1) a b (by simpa using h1) (by simpa using h2))
def jE(a:Int):List (Str×Au)->Nat->Wm->AD×Wm
 | [],_,M=>([],M)
 | m::l,k,M=>if a / 2 ^ k % 2=1 then((aZ M m.2).1++(jE a l (k+1) (aZ M m.2).2).1,(jE a l (k+1) (aZ M m.2).2).2)else jE a l (k+1) M
def lsE(x:Int):Nat->Nat->Int
 | _,0=>0
 | i,n+1=>if x / 2 ^ i % 2=0 then 2 ^ i else lsE x (i+1) n
def Pu(k:Nat)(lo:Int)(n:Nat):Int:=if k=0 then 0 else if k=1 then lsE lo 0 n else 2 ^ n - 1
theorem Uk(b:Int)(m:Str×Au):∀(l:List (Str×Au)) (k:Nat) (M:Wm),jE b (l++[m]) k M=if b / 2 ^ (k+l.length) % 2=1 then((jE b l k M).1++(aZ (jE b l k M).2 m.2).1,(aZ (jE b l k M).2 m.2).2)else jE b l k M
 | [],k,M=>by
  show(if b / 2 ^ k % 2=1 then((aZ M m.2).1++[],(aZ M m.2).2)else([],M))=_;rw[List.append_nil];rfl
 | a::l,k,M=>by
  have e:k+(a::l).length=k+1+l.length:=by rw[List.length_cons];omega
  rw[e,List.cons_append];show(if b / 2 ^ k % 2=1 then((aZ M a.2).1++(jE b (l++[m]) (k+1) (aZ M a.2).2).1,(jE b (l++[m]) (k+1) (aZ M a.2).2).2)else jE b (l++[m]) (k+1) M)=_;show _=if b / 2 ^ (k+1+l.length) % 2=1 then(((if b / 2 ^ k % 2=1 then((aZ M a.2).1++(jE b l (k+1) (aZ M a.2).2).1,(jE b l (k+1) (aZ M a.2).2).2)else jE b l (k+1) M)).1++(aZ (if b / 2 ^ k % 2=1 then((aZ M a.2).1++(jE b l (k+1) (aZ M a.2).2).1,(jE b l (k+1) (aZ M a.2).2).2)else jE b l (k+1) M).2 m.2).1,(aZ (if b / 2 ^ k % 2=1 then((aZ M a.2).1++(jE b l (k+1) (aZ M a.2).2).1,(jE b l (k+1) (aZ M a.2).2).2)else jE b l (k+1) M).2 m.2).2)else(if b / 2 ^ k % 2=1 then((aZ M a.2).1++(jE b l (k+1) (aZ M a.2).2).1,(jE b l (k+1) (aZ M a.2).2).2)else jE b l (k+1) M)
  by_cases h:b / 2 ^ k % 2=1
  ·simp only[if_pos h];rw[Uk b m l (k+1)]
   by_cases h2:b / 2 ^ (k+1+l.length) % 2=1
   ·simp only[if_pos h2,List.append_assoc]
   ·simp only[if_neg h2]
  ·simp only[if_neg h];rw[Uk b m l (k+1)]
theorem J7:∀{l:Au}{M:Wm},(aZ M l).2.hands=M.hands
 | [],_=>rfl
 | x::l,M=>by
  show(aZ (cC M x).2 l).2.hands=_;rw[J7,Pr]
theorem FW(a:Int)(B:Nat):∀(l:List (Str×Au)) (k:Nat) (M:Wm),(∀m∈l,m.2.length<=B)->(jE a l k M).2.sw.phase=M.sw.phase/\(jE a l k M).2.sw.grey.length<=M.sw.grey.length+l.length * B/\(jE a l k M).1.length<=l.length * B/\(jE a l k M).2.hands=M.hands
 | [],_,_,_=>by simp[jE]
 | m::l,k,M,h=>by
  have hm:=h m ζ;have e:(m::l).length * B=l.length * B+B:=by rw[List.length_cons,Nat.succ_mul]
  unfold jE
  by_cases z:a / 2 ^ k % 2=1
  ·rw[if_pos z];obtain⟨c,g,d,b⟩:=FW a B l (k+1) (aZ M m.2).2 λx hx=>h x (by simp[hx]);obtain⟨f,i⟩:=yc (l:=m.2) (M:=M);have j:=Cw (l:=m.2) (M:=M);exact⟨c.trans f,by show(jE a l (k+1) (aZ M m.2).2).2.sw.grey.length<=_;omega,by show((aZ M m.2).1++_).length<=_;rw[List.length_append];omega,b.trans J7⟩
  ·rw[if_neg z];obtain⟨c,g,d,b⟩:=FW a B l (k+1) M λx hx=>h x (by simp[hx]);exact⟨c,δ,δ,b⟩
structure NtR(M M':Wm):Prop where
 rm:M'.room=M.room
 us:M'.used=M.used
 bn:M'.born=M.born
 hd:M'.hands=M.hands
 nm:M'.names=M.names
 ww:M'.w=M.w
 tl:M'.tells=M.tells
 sw:∃g,M'.sw={ M.sw with grey:=g }
 ce:M'.cells.map (λo=>o.map λc=>{ c with tone:=0 })=M.cells.map (λo=>o.map λc=>{ c with tone:=0 })
theorem NtR.refl(M:Wm):NtR M M:=⟨rfl,rfl,rfl,rfl,rfl,rfl,rfl,⟨_,rfl⟩,rfl⟩
theorem NtR.trans{M M1 M2:Wm}(a:NtR M M1)(b:NtR M1 M2):NtR M M2:=by
 obtain⟨l,q,h,f,d,t,p,⟨g,r⟩,u⟩:=a;obtain⟨m,c,n,i,j,o,v,⟨s,k⟩,e⟩:=b;exact⟨m.trans l,c.trans q,n.trans h,i.trans f,j.trans d,o.trans t,v.trans p,⟨s,by rw[k,r]⟩,e.trans u⟩
theorem Zqc(M:Wm)(x:AA):NtR M (cC M x).2:=by
 cases x with
 | none=>exact NtR.refl M
 | some i=>
  unfold cC;dsimp only;cases hc:cellAt M i with
  | none=>exact NtR.refl M
  | some c=>
   dsimp only;split
   ·obtain⟨a,h1⟩:=cj.mp hc;refine⟨rfl,rfl,rfl,rfl,rfl,rfl,rfl,⟨_,rfl⟩,?_⟩;show(M.cells.set i.toNat _).map _=_;rw[List.map_set];refine List.ext_getElem? λk=>?_
    by_cases z:i.toNat=k
    ·subst z;rw[List.getElem?_set_self (by rw[bB];exact(cZ h1).1),cF,h1];rfl
    ·rw[List.getElem?_set_ne z]
   ·exact NtR.refl M
theorem YK:∀(l:Au) (M:Wm),NtR M (aZ M l).2
 | [],M=>NtR.refl M
 | x::l,M=>(Zqc M x).trans (YK l _)
theorem Zbo(a:Int):∀(l:List (Str×Au)) (k:Nat) (M:Wm),NtR M (jE a l k M).2
 | [],_,M=>NtR.refl M
 | m::l,k,M=>by
  unfold jE;split
  ·exact(YK m.2 M).trans (Zbo a l (k+1) _)
  ·exact Zbo a l (k+1) M
theorem Zqi(a:Int)(l:List (Str×Au))(k:Nat)(M:Wm):(jE a l k M).2.sw.turn=M.sw.turn/\(jE a l k M).2.sw.looked=M.sw.looked/\(jE a l k M).2.sw.looks=M.sw.looks:=by
 obtain⟨g,e⟩:=(Zbo a l k M).sw;rw[e];exact⟨rfl,rfl,rfl⟩
theorem Zmw{M:Wm}{x:AA}(h:(cC M x).1=none):(cC M x).2=M:=by
 cases x with
 | none=>rfl
 | some i=>
  unfold cC at h ⊢;dsimp only at h ⊢;cases hc:cellAt M i with
  | none=>rfl
  | some c=>
   rw[hc]at h;dsimp only at h ⊢;split
   ·rename_i z
    rw[if_pos z]at h;cases h
   ·rfl
theorem Ug:∀{l:Au}{M:Wm},(aZ M l).1=[]->(aZ M l).2=M
 | [],_,_=>rfl
 | x::l,M,h=>by
  have h:ofN (cC M x).1++(aZ (cC M x).2 l).1=[]:=h;obtain⟨h1,h2⟩:=List.append_eq_nil_iff.mp h;have h3:(cC M x).1=none:=by
   cases e:(cC M x).1 with
   | none=>rfl
   | some b=>rw[e]at h1;cases h1
  show(aZ (cC M x).2 l).2=M;rw[Ug h2,Zmw h3]
theorem Zbp(a:Int):∀{l:List (Str×Au)}{k:Nat}{M:Wm},(jE a l k M).1=[]->(jE a l k M).2=M
 | [],_,_,_=>rfl
 | m::l,k,M,h=>by
  unfold jE at h ⊢;split
  ·rename_i z
   rw[if_pos z]at h;obtain⟨h1,h2⟩:=List.append_eq_nil_iff.mp h;show(jE a l (k+1) (aZ M m.2).2).2=M;rw[Zbp a h2,Ug h1]
  ·rename_i z
   rw[if_neg z]at h;exact Zbp a h
theorem Zf6:∀(l:List (Str×Au)) (k:Nat) (M:Wm),jE 0 l k M=([],M)
 | [],_,_=>rfl
 | m::l,k,M=>by
  unfold jE;rw[if_neg ζ,Zf6 l (k+1) M]
def mG(X:Cs):Sp:=λvs H Q E=>∃wo a,vs=[.ref wo,.int a]/\∃T s A M,WT H T/\s≠0/\WJ X H T s A M/\A.wo=wo/\(∀m∈M.hands,m.2.length<=100)/\(M.sw.phase="walk"->M.sw.grey.length<=5000)/\
 ∀H' T' l,iY s H H' T T'->WJ X H' T' s A (jE a M.hands 0 M).2->H' l=some (.lst ((jE a M.hands 0 M).1.map V.int))->H l=none->Q (.ref l) H'
def iV(k:Nat):Sp:=λvs H Q E=>∃a lo h,vs=[.ref a,.int lo,.int h]/\0<=h/\h<=30/\Q (.int (Pu k lo h.toNat)) H
section
variable {K:aC}{X:Cs}{H:Hp}{Q:VK}{E:XK}{n:ν}{bk ct:ν}
theorem Oz{a:AH}(q:Q (.bl true) H):sZ ξ [↑a] H:=by
 unfold sZ;apply q
theorem X6{a:AH}(q:Q (.bl false) H):zx ξ [↑a] H:=by
 unfold zx;apply q
theorem Gx{a:AH}{lo h:Int}(q:0<=h/\h<=30/\Q (.int (Pu 0 lo h.toNat)) H):pq ξ [↑a,some (.int lo),some (.int h)] H:=by
 unfold pq;apply q.2.2
theorem Lg{a:AH}{lo h:Int}(q:0<=h/\h<=30/\Q (.int (Pu 2 lo h.toNat)) H):rB xu ξ [↑a,some (.int lo),some (.int h)] H:=by
 obtain⟨b,h1,q⟩:=q;unfold rB;apply⟨h,rfl,b,h1,q⟩
theorem Lj{a:AH}{lo h:Int}(q:0<=h/\h<=30/\Q (.int (Pu 1 lo h.toNat)) H):rD ξ [↑a,some (.int lo),some (.int h),none] H:=by
 obtain⟨k,h1,q⟩:=q;have q:Q (.int (lsE lo 0 h.toNat)) H:=q;unfold rD;exists h,rfl,δ,δ;refine forR (λi d c=>∃v,d=[↑a,some (.int lo),some (.int h),v]/\c=H/\(i<=h.toNat->lsE lo 0 h.toNat=lsE lo i (h.toNat - i))) ⟨none,rfl,rfl,λ_=>rfl⟩ ?_ ?_
 ·rintro i d c j ⟨v,rfl,rfl,b⟩;have b:=b δ;have f:h.toNat - i=(h.toNat - (i+1))+1:=δ
  rw[f]at b;have g:lsE lo i (h.toNat - (i+1)+1)=if lo / 2 ^ i % 2=0 then 2 ^ i else lsE lo (i+1) (h.toNat - (i+1)):=rfl
  rw[g]at b;have e:((0:Int)+(i:Int)).toNat=i:=δ
  ext;rw[e,Zzg];refine uE (λz=>?_) (λz=>?_)
  ·rw[if_pos z]at b;apply i_I (Zwq δ δ) ?_;rw[e,Int.one_mul,<- b];exact q
  ·rw[if_neg z]at b;apply⟨_,rfl,rfl,λ_=>b⟩
 ·rintro d c ⟨v,rfl,rfl,b⟩;have b:=b Γ;rw[Nat.sub_self]at b;have b:lsE lo 0 h.toNat=0:=b;ext;rw[b]at q;exact q
theorem WY{wo:AH}{a:Int}(C:qT K X)(q:∃T s A M,WT H T/\s≠0/\WJ X H T s A M/\A.wo=wo/\(∀m∈M.hands,m.2.length<=100)/\(M.sw.phase="walk"->M.sw.grey.length<=5000)/\
 ∀H' T' l,iY s H H' T T'->WJ X H' T' s A (jE a M.hands 0 M).2->H' l=some (.lst ((jE a M.hands 0 M).1.map V.int))->H l=none->Q (.ref l) H'):
  yV K (gf X) ξ [↑wo,some (.int a),none,none,none] H:=by
 obtain⟨T,s,A,M,w,s0,j,rfl,hs,hg,q⟩:=q;have lh:=j.jd.lh;have l5:=j.jd.l5;unfold yV;apply⟨aR ζ,λl hl=>?_⟩;have e:iY s H (upd H l (.lst [])) T (jC T l (s+1,1)):=iY.fresh w hl;have r:WJ X (upd H l (.lst [])) (jC T l (s+1,1)) s A M:=j.fresh hl;have W:upd H l (.lst []) l=some (.lst []):=aq;have tl:jC T l (s+1,1) l=(s+1,1):=iB;generalize upd H l (.lst [])=H1 at e r W ⊢;generalize jC T l (s+1,1)=T1 at e r tl;obtain⟨dw,ow⟩:=r.jb.ow;apply aF ow C.cW C.nWd fK ?_;apply⟨A.hl,rfl,⟨_,cB.of r.jb.on⟩,ZBe (A.hs.map λp=>V.ref p.1) (λi P g=>∃T' O S,P=[↑A.wo,some (.int a),↑l,O,S]/\iY s H g T T'/\T' l=(s+1,1)/\WJ X g T' s A (jE a (M.hands.take i) 0 M).2/\g l=some (.lst ((jE a (M.hands.take i) 0 M).1.map V.int))) ⟨T1,_,_,rfl,e,tl,r,W⟩ (by rintro _ _ _ _ ⟨_,_,_,_,_,_,z,_⟩;exact cB.of z.jb.on) ?_ ?_⟩
 ·rintro i x t P g hx ⟨E,O,S,rfl,c,d,v,D⟩ Z;rw[cF]at hx;obtain⟨p,hp,rfl⟩:=Option.map_eq_some_iff.mp hx;have hil:i<A.hs.length:=(cZ hp).1;obtain⟨m,hm⟩:∃m,M.hands[i]? =some m:=⟨_,bK δ⟩;have N:M.hands.take (i+1)=M.hands.take i++[m]:=by rw[List.take_add_one,hm];rfl
  have o:(M.hands.take i).length=i:=by rw[List.length_take];omega
  obtain⟨n1,n2,n3,n4⟩:=FW a 100 (M.hands.take i) 0 M λx hx=>hs x (List.mem_of_mem_take hx);have h:=Uk a m (M.hands.take i) 0 M;rw[<- N,Nat.zero_add,o]at h;generalize zz:upd g t _=H3;obtain⟨I,J⟩:=nwO Z zz;have L:=v.same I;have f:=c.trans (iY.same (s:=s) c.wt I);have B:=I _ _ D;refine⟨t,_,rfl,fY.of J,rfl,.int i,_,rfl,?_⟩;exists .ref p.1,_,rfl;exists rfl;ext;rw[Zzg,Int.toNat_natCast];refine uE (λz=>?_) (λz=>?_)
  ·rw[if_pos z]at h;exists .inl ⟨rfl,_,cB.of B⟩;have u:(jE a (M.hands.take i) 0 M).2.hands[i]? =some m:=by rw[n4];exact hm
   have hd:=L.jd.hd i p m hp u;obtain⟨dx,o1⟩:=hd.o1;have F:=hs m (List.mem_of_getElem? hm);have hB:(M.hands.take i).length * 100<=3000:=by rw[o];omega
   apply aF o1 C.cD C.nDs rO ?_;apply⟨_,_,rfl,m.2,E,s,A,_,f.wt,s0,L,rfl,.inr (.inl ⟨i,p,m,hp,u,rfl,rfl⟩),F,λy=>?_,λH4 U Y b j4 g4 nl4=>?_⟩
   ·have:=hg (n1.symm.trans y);omega
   have R:H4 l=some (.lst ((jE a (M.hands.take i) 0 M).1.map V.int)):=b.kp _ _ B (by rw[d];show s+1≠s;omega);have nl:=Cw (l:=m.2) (M:=(jE a (M.hands.take i) 0 M).2);apply⟨l,Y,_,_,rfl,rfl,R,g4,by rw[bB,bB];exact aR δ,?_⟩;ext;have k:U l=(s+1,1):=(b.tg _ _ B).trans d;refine⟨U,_,_,rfl,iY.new (f.trans b) hl R,k,?_,?_⟩
   ·rw[h];exact j4.other (s':=s+1) (iY.upd b.wt R (by rw[k])) δ δ
   ·rw[h,aq,List.map_append]
  ·rw[if_neg z]at h;apply⟨E,_,_,rfl,f,d,by rw[h];exact L,by rw[h];exact B⟩
 ·rintro P g ⟨E,O,S,rfl,c,d,v,D⟩;ext;rw[bB,lh,List.take_length]at v D;exact q g E l c v D hl
end
structure Dv(M:Wm):Prop where
 cl:M.cells.length<=900
 hl:∀m∈M.hands,m.2.length<=100
 fl:∀c,some c∈M.cells->c.fl.length<=50
 nl:M.names.length<=900
 gl:M.sw.phase="walk"->M.sw.grey.length<=900
 gc:M.sw.phase="walk"->∀x∈M.sw.grey,∃c,cellAt M x=some c
 ph:M.sw.phase="rest"\/M.sw.phase="walk"\/M.sw.phase="give"\/M.sw.phase="lost"
 a0:0<=M.sw.at'
def Zso(H:Hp)(T:Tg)(M:Wm)(b:Int)(w:AD):Prop:=∃a c,M.sw.loss=.ref a/\T a=(0,0)/\H a=some (.tup [.str "lost",.int b,.ref c])/\T c=(0,0)/\H c=some (.lst (w.map V.int))
def xY(M:Wm)(i:Nat):Option Ce:=((M.cells[i]?).join).bind λc=>if c.tone=M.sw.sense then none else some c
def uY(M:Wm):AD:=(List.range M.cells.length).filterMap λi=>(xY M i).map λ_=>(i:Int)
def uZ(M:Wm):AD:=(List.range M.cells.length).filterMap λi=>(xY M i).map (·.birth)
def jK(M:Wm):Wm:={ M with sw:={ M.sw with stop:=M.cells.length,at':=0 } }
def cX(M:Wm):Int:=Pu M.w.toNat M.sw.looked M.hands.length
def Gq(M:Wm):Prop:=cX M=0\/(M.w=2/\(jE (cX M) M.hands 0 M).1=[])
inductive uF(lb:Int)(lw:AD)(M:Wm):Ev->Wm->Prop
 | begin:M.sw.phase="rest"->uF lb lw M ⟨"begin",some (M.sw.turn+1),(jE (qy M.w M.hands.length) M.hands 0 (CZ M)).1⟩ (jE (qy M.w M.hands.length) M.hands 0 (CZ M)).2
 | walk (x:Int) (g:AD) (c:Ce):M.sw.phase="walk"->M.sw.grey=x::g->cellAt M x=some c->uF lb lw M ⟨"walk",some c.birth,(aZ { M with sw:={ M.sw with grey:=g,walks:=M.sw.walks+1 } } c.fl).1⟩ (aZ { M with sw:={ M.sw with grey:=g,walks:=M.sw.walks+1 } } c.fl).2
 | look (N:Wm):M.sw.phase="walk"->M.sw.grey=[]->¬ Gq M->N=(jE (cX M) M.hands 0 M).2->uF lb lw M ⟨"look",some (cX M),(jE (cX M) M.hands 0 M).1⟩ { N with sw:={ N.sw with looks:=N.sw.looks+1,looked:=if M.w=2 then N.sw.looked else Builtin.bitOr N.sw.looked (cX M) } }
 | cut (q qs:List (Int×AD)):M.sw.phase="walk"->M.sw.grey=[]->Gq M->KB.RW (fdOf M) (gM M) q q.length qs->(∀x∈qs,∀c,cellAt M x.1=some c->c.tone=M.sw.sense)->uF lb lw M ⟨"cut",some (uZ M).length,uZ M⟩ { jK M with sw:={ (jK M).sw with phase:="give" } }
 | lost (q qs:List (Int×AD)) (i:Nat) (x:Int×AD) (c:Ce) (v:V):M.sw.phase="walk"->M.sw.grey=[]->Gq M->KB.RW (fdOf M) (gM M) q q.length qs->qs[i]? =some x->(∀(k:Nat) y d,k<i->qs[k]? =some y->cellAt M y.1=some d->d.tone=M.sw.sense)->cellAt M x.1=some c->c.tone≠M.sw.sense->uF lb lw M ⟨"lost",some c.birth,x.2⟩ { jK M with sw:={ (jK M).sw with phase:="lost",loss:=v } }
 | pass:M.sw.phase="give"->M.sw.at'<M.sw.stop->(∀c,cellAt M M.sw.at'=some c->c.tone=M.sw.sense)->uF lb lw M ⟨"pass",some M.sw.at',[]⟩ { M with sw:={ M.sw with at':=M.sw.at'+1,passes:=M.sw.passes+1 } }
 | back (c:Ce):M.sw.phase="give"->M.sw.at'<M.sw.stop->cellAt M M.sw.at'=some c->c.tone≠M.sw.sense->uF lb lw M ⟨"back",some c.birth,[M.sw.at']⟩ { M with used:=M.used - (1+c.fl.length+c.bulk),cells:=M.cells.set M.sw.at'.toNat none,sw:={ M.sw with at':=M.sw.at'+1,passes:=M.sw.passes+1 } }
 | fin:M.sw.phase="give"->¬ M.sw.at'<M.sw.stop->uF lb lw M ⟨"end",some M.sw.turn,[M.sw.walks,M.sw.looks,M.sw.passes]⟩ { M with sw:={ M.sw with phase:="rest" } }
 | again:M.sw.phase="lost"->uF lb lw M ⟨"lost",some lb,lw⟩ M
def Gs(X:Cs)(P:Wm->Prop)(wo:AH)(H:Hp)(Q:VK):Prop:=∃T s A M lb lw,WT H T/\s≠0/\WJ X H T s A M/\A.wo=wo/\Dv M/\P M/\(M.sw.phase="lost"->Zso H T M lb lw)/\
 ∀e c,uF lb lw M e c->∀H' T' d a,iY s H H' T T'->WJ X H' T' s d c->d.wo=wo/\d.sw=A.sw->EvN H H' a e->(c.sw.phase="lost"->∃b,e.thing=some b/\Zso H' T' c b e.notes)->Q (.ref a) H'
def cg(X:Cs)(P:Wm->Prop):Sp:=λvs H Q E=>∃wo,vs=[.ref wo]/\Gs X P wo H Q
def Zem(M:Wm):Prop:=M.sw.phase="walk"/\M.sw.grey≠[]
def Zeo(M:Wm):Prop:=M.sw.phase="walk"/\M.sw.grey=[]
def Zij(M:Wm):Prop:=M.sw.phase="walk"/\M.sw.grey=[]/\Gq M
def Zen(M:Wm):Prop:=M.sw.phase="give"/\M.sw.at'<M.sw.stop
def pEnd(M:Wm):Prop:=M.sw.phase="give"/\¬ M.sw.at'<M.sw.stop
def Rq(z:Str)(M:Wm):Prop:=M.sw.phase=z
def Zq3(_:Wm):Prop:=True
def nZ(K:aC):Sp:=λvs H Q E=>∃d,vs=[.ref d]/\∃z b l,∃ns:AD,H d=some (.tup [.str z,.int b,.ref l])/\H l=some (.lst (ns.map V.int))/\∀a c H',aU H H'->H c=none->H' a=some (.tup [.str z,.int b,.ref c])->H' c=some (.lst (ns.map V.int))->Q (.ref a) H'
def Dg(X:Cs):Sp:=λvs H Q E=>∃wo,vs=[.ref wo]/\∃T s A M,WJ X H T s A M/\A.wo=wo/\M.cells.length<=900/\∀l H',aU H H'->H l=none->H' l=some (.lst ((uY M).map V.int))->Q (.ref l) H'
section
variable {K:aC}{X:Cs}{H:Hp}{Q:VK}{E:XK}{n:ν}{bk ct:ν}
theorem VN{d:AH}(q:∃z b l,∃ns:AD,H d=some (.tup [.str z,.int b,.ref l])/\H l=some (.lst (ns.map V.int))/\∀a c H',aU H H'->H c=none->H' a=some (.tup [.str z,.int b,.ref c])->H' c=some (.lst (ns.map V.int))->Q (.ref a) H'):
  yS K ξ [↑d] H:=by
 obtain⟨z,b,l,ns,o1,o2,q⟩:=q;unfold yS;exists d,_,0,_,rfl,rfl,fY.of o1,rfl;exists d,_,1,_,rfl,rfl,fY.of o1,rfl;exists d,_,2,_,rfl,rfl,fY.of o1,rfl;apply Zcj (cB.of o2) λc e=>?_;generalize zz:upd H c _=H1;obtain⟨h,i⟩:=nwO e zz;apply⟨aR ζ,λa g=>?_⟩;have f:=aK g (.tup [.str z,.int b,.ref c]);exact q a c _ (h.trans f) e aq (f _ _ i)
theorem KQ{a b:Type}{f g:a->Option b}:∀{l:List a},(∀x∈l,f x=g x)->l.filterMap f=l.filterMap g
 | [],_=>rfl
 | x::l,h=>by
  rw[List.filterMap_cons,List.filterMap_cons,h x ζ,KQ λy hy=>h y (by simp[hy])]
theorem Zeh{a b:Type}(f:a->Option b):∀(xs:List a),(List.range xs.length).filterMap (λi=>(xs[i]?).bind f)=xs.filterMap f
 | []=>rfl
 | x::xs=>by
  rw[List.length_cons,List.range_succ_eq_map,List.filterMap_cons];simp only[List.getElem?_cons_zero,Option.bind_some,List.filterMap_map,List.filterMap_cons];have e:((λi=>((x::xs)[i]?).bind f) ∘ Nat.succ)=λi=>(xs[i]?).bind f:=by
   funext i
   simp
  rw[e,Zeh f xs]
theorem Zmn{A:Wa}{M:Wm}{T:Tg}{s:Nat}(j:WJ X H T s A M)(f:V->Option V)(d:∀(i:Nat) (c:Ce),M.cells[i]? =some (some c)->f (.int i)=(xY M i).map λ_=>V.int i):((plc (A.cs.map pV)).map V.int).filterMap f=(uY M).map V.int:=by
 unfold plc uY;rw[List.filterMap_map,List.filterMap_map,List.filterMap_filter,List.map_filterMap,bB,j.jc.lc];refine KQ λi g=>?_;have a:=List.mem_range.mp g;have e:(A.cs.map pV)[i]? =some V.non↔M.cells[i]? =some none:=by
  constructor
  ·intro z;cases hc:M.cells[i]with
   | none=>rw[bK a,hc]
   | some c=>
    obtain⟨p,hp,_⟩:=j.jc.at (i:=i) (c:=c) (by rw[bK a,hc]);rw[cF,hp]at z;cases z
  ·intro z;rw[cF,j.jc.at0 z];rfl
 by_cases z:M.cells[i]? =some none
 ·rw[if_neg (by simp[e.mpr z])];unfold xY;rw[z];rfl
 ·have b:¬ (A.cs.map pV)[i]? =some V.non:=λy=>z (e.mp y);rw[if_pos (by simp only[b,decide_false,Bool.not_false])];cases hc:M.cells[i]with
  | none=>exact absurd (by rw[bK a,hc]) z
  | some c=>
   show f (.int (i:Int))=_;rw[d i c (by rw[bK a,hc]),Option.map_map];rfl
theorem Zg0{wo:AH}(e:qT K X)(q:∃T s A M,WJ X H T s A M/\A.wo=wo/\M.cells.length<=900/\∀l H',aU H H'->H l=none->H' l=some (.lst ((uY M).map V.int))->Q (.ref l) H'):
  Ey K X.H (oA X.H) (cQ X) ξ [↑wo,none] H:=by
 obtain⟨T,s,A,M,j,rfl,hc,q⟩:=q;obtain⟨J,ow⟩:=j.jb.ow;obtain⟨E,oh⟩:=j.jh.oh;unfold Ey;apply aF ow e.cW e.HS bw ?_;apply KD ?_;exists A.hp,E,_,rfl,oh,Gj;apply⟨_,rfl,A.ca,M.room,M.used,M.born,_,j.hpO,by rw[bB,j.jc.lc];omega,λlt m=>?_⟩;generalize zz:upd H lt _=H1;obtain⟨o,D⟩:=nwO m zz;have d:=j.same o;have L:(plc (A.cs.map pV)).length<=900:=by
  unfold plc;rw[bB];refine Nat.le_trans (List.length_filter_le _ _) ?_;rw[List.length_range,bB,j.jc.lc];exact hc
 refine⟨lt,rfl,⟨_,cB.of D⟩,?_⟩
 let f:V->Option V:=λv=>match v with
  | .int p=>(xY M p.toNat).map λ_=>V.int p
  | _=>none
 refine Ry (cB.of D) (λi=>(((plc (A.cs.map pV)).map V.int)[i]?).bind f) (by rw[bB];omega) (λi x w=>?_) ?_
 ·rw[cF]at w;obtain⟨p,hp,rfl⟩:=Option.map_eq_some_iff.mp w;have hm:=List.mem_of_getElem? hp;unfold plc at hm;obtain⟨k,hk,rfl⟩:=List.mem_map.mp hm;obtain⟨r,h⟩:=List.mem_filter.mp hk;have a:k<M.cells.length:=by
   have:=List.mem_range.mp r;rw[bB,j.jc.lc]at this;exact this
  obtain⟨c,b⟩:∃c,M.cells[k]? =some (some c):=by
   cases h3:M.cells[k]with
   | none=>
    exfalso
    have:(A.cs.map pV)[k]? =some V.non:=by rw[cF,j.jc.at0 (i:=k) (by rw[bK a,h3])];rfl
    simp[this]at h
   | some c=>exact⟨c,by rw[bK a,h3]⟩
  obtain⟨B,t,ce⟩:=d.jc.at b;have C:(((plc (A.cs.map pV)).map V.int)[i]?).bind f=(xY M k).map λ_=>V.int (k:Int):=by
   rw[cF,hp];show(xY M (Int.toNat k)).map _=_;rw[Int.toNat_natCast]
  have F:(xY M k)=if c.tone=M.sw.sense then none else some c:=by unfold xY;rw[b];rfl
  obtain⟨I,g⟩:=d.jh.oh;refine⟨λq hq=>?_,λy q hy hq=>?_⟩
  ·rw[C,F]at hq;walk_at"c";apply aF g e.c.cA e.c.bO bT ?_;apply jg (cB.of d.jh.oc) (jO (v:=.ref B.1) (by rw[cF,t];rfl)) ?_;exists _,_,rfl,T,s,A,M,_,B,c,d.w0,rfl,ce,rfl;ext
   by_cases z:c.tone=M.sw.sense
   ·rw[if_pos z]at hq;rw[decide_eq_true z];exact hq
   ·rw[if_neg z]at hq;rw[decide_eq_false z];exact hq
  ·rw[C]at hy;obtain⟨_,_,rfl⟩:=Option.map_eq_some_iff.mp hy;walk_at"c";apply hq
 ·intro p u;rw[Zeh f,Zmn j f (λi c hc=>by show(xY M (Int.toNat i)).map _=_;rw[Int.toNat_natCast])];exact q p _ (o.trans (aK u _)) (o.free u) aq
theorem Qy{wo:AH}(c:qT K X)(q:Gs X (Rq "rest") wo H Q):uV K (RV X) (mG X) ξ [↑wo,none] H:=by
 obtain⟨T,s,A,M,D,J,w,t,j,rfl,ok,ph,lo,q⟩:=q;unfold uV;apply⟨_,rfl,T,s,A,M,w,t,j,rfl,λE y o d k b=>?_⟩;obtain⟨F,ow⟩:=k.jb.ow;obtain⟨I,os⟩:=k.js.os;rw[b.1]at ow;apply aF ow c.cW c.Nq aW ?_;apply aF os c.cS c.n4 iZ ?_;apply⟨_,_,rfl,y,s,o,_,d.wt,t,k,b.1,ok.hl,λ_=>Nat.zero_le _,λu v l f e i r=>?_⟩;have e:WJ X u v s o (jE (qy M.w M.hands.length) M.hands 0 (CZ M)).2:=e;have i:u l=some (.lst ((jE (qy M.w M.hands.length) M.hands 0 (CZ M)).1.map V.int)):=i;obtain⟨B,g⟩:=e.jb.ow;obtain⟨x,h⟩:=e.js.os;rw[b.1]at g;have m:=Zqi (qy M.w M.hands.length) M.hands 0 (CZ M);apply aF g c.cW c.Nq aW ?_;apply aF h c.cS c.n5 qW ?_;apply⟨aR ζ,λa C=>?_⟩;rw[m.1];have p:=aK C (.tup [.str "begin",.int (M.sw.turn+1),.ref l]);refine q _ _ (.begin ph) _ v o a (d.trans (f.trans (iY.same f.wt p))) (e.same p) b ⟨l,iY.free d r,aq,p _ _ i⟩ λz=>?_;have:=(FW (qy M.w M.hands.length) 100 M.hands 0 (CZ M) ok.hl).1;rw[this]at z;exact absurd z (show ¬ ("walk":Str)="lost" by decide)
end
def vO(X:Cs):Sp:=λvs H Q E=>∃wo,vs=[.ref wo]/\∃T s A M,WT H T/\s≠0/\WJ X H T s A M/\A.wo=wo/\Dv M/\
 (∀q b H',KB.RW (fdOf M) (gM M) q q.length b->(∀x∈b,∀c,cellAt M x.1=some c->c.tone=M.sw.sense)->aU H H'->Q .non H')/\
 (∀q b (i:Nat) x c a e H',KB.RW (fdOf M) (gM M) q q.length b->b[i]? =some x->(∀(k:Nat) y d,k<i->b[k]? =some y->cellAt M y.1=some d->d.tone=M.sw.sense)->cellAt M x.1=some c->c.tone≠M.sw.sense->aU H H'->H a=none->H e=none->H' a=some (.tup [.str "lost",.int c.birth,.ref e])->H' e=some (.lst (x.2.map V.int))->Q (.ref a) H')
section
variable {K:aC}{X:Cs}{H:Hp}{Q:VK}{E:XK}{n:ν}{bk ct:ν}
theorem Zp2{a:Type}(f:a->Nat)(B:Nat):∀(xs:List a),(∀x∈xs,f x<=B)->(xs.map f).sum<=xs.length * B
 | [],_=>ζ
 | x::xs,h=>by
  have h1:=h x ζ;have h2:=Zp2 f B xs λy hy=>h y (by simp[hy]);rw[List.map_cons,List.sum_cons,List.length_cons,Nat.succ_mul];omega
theorem Zwo{a b:Type}(f:a->List b)(B:Nat):∀(xs:List a),(∀x∈xs,(f x).length<=B)->(xs.flatMap f).length<=xs.length * B
 | [],_=>ζ
 | x::xs,h=>by
  have h1:=h x ζ;have h2:=Zwo f B xs λy hy=>h y (by simp[hy]);rw[List.flatMap_cons,List.length_append,List.length_cons,Nat.succ_mul];omega
theorem Zz3{M:Wm}{T:Tg}{s:Nat}{A:Wa}(j:WJ X H T s A M)(ok:Dv M):Few (fdOf M) (gM M):=by
 have l5:=j.jd.l5;have lh:=j.jd.lh;have hl:(heldOf M).length=M.hands.length:=by unfold heldOf;rw[bB]
 have hr:(gM M).length<=31:=by unfold gM;rw[List.length_append,hl,<- lh];simp;omega
 have a:∀x∈gM M,x.length<=900:=λx hx=>by
  unfold gM at hx;rcases List.mem_append.mp hx with hx | hx
  ·obtain⟨m,hm,rfl⟩:=List.mem_map.mp hx;exact Nat.le_trans (ok.hl m hm) ε
  ·rw[List.mem_singleton.mp hx];unfold fZ;rw[bB];exact ok.nl
 have e:(fdOf M).length=M.cells.length:=by unfold fdOf;rw[bB]
 have b:=ok.cl;have d:∀(i:Nat) x,(fdOf M)[i]? =some x->KB.wgt x<=50:=λi x hx=>by
  unfold fdOf at hx;rw[cF]at hx;obtain⟨o,f,rfl⟩:=Option.map_eq_some_iff.mp hx;cases o with
  | none=>exact Nat.zero_le _
  | some c=>exact ok.fl c (List.mem_of_getElem? f)
 refine⟨δ,λp fl hp=>?_,δ,λx hx=>by have:=a x hx;omega,?_⟩
 ·rw[Zd7]at hp;obtain⟨c,hc,rfl⟩:=Option.map_eq_some_iff.mp hp;have:=ok.fl c (tY hc);omega
 ·unfold KB.total;have h1:(KB.q0 (fdOf M) 0 (gM M)).length<=31 * 900:=by
   unfold KB.q0;refine Nat.le_trans (Zwo _ 900 _ λx hx=>?_) (by rw[List.length_zipIdx];exact Nat.mul_le_mul_right _ hr);refine Nat.le_trans KB.Rr (a x.1 ?_);obtain⟨_,h2⟩:=List.mem_zipIdx_iff_le_and_getElem?_sub.mp hx;exact List.mem_of_getElem? h2
  have h2:KB.Zh5 (fdOf M) []<=900 * 50:=by
   unfold KB.Zh5;refine Nat.le_trans (Zp2 _ 50 _ λx hx=>?_) (by rw[List.length_zipIdx,e];exact Nat.mul_le_mul_right _ b);obtain⟨_,h2⟩:=List.mem_zipIdx_iff_le_and_getElem?_sub.mp hx;simp only[List.map_nil,List.not_mem_nil,↓reduceIte];exact d _ _ h2
  omega
theorem Zl5{M:Wm}:∀{rows:List Au}{ls:AE},ls.length=rows.length->(∀(j:Nat) r x,ls[j]? =some r->rows[j]? =some x->H r=some (.lst (x.map oV)))->Js K H ls rows
 | [],[],_,_=>trivial
 | [],_::_,h,_=>by simp at h
 | _::_,[],h,_=>by simp at h
 | x::rows,r::ls,h,g=>⟨cB.of (g 0 r x rfl rfl),Zl5 (M:=M) (by simpa using h) λj r x a b=>g (j+1) r x (by simpa using a) (by simpa using b)⟩
theorem Xq{wo:AH}(m:qT K X)(q:∃T s A M,WT H T/\s≠0/\WJ X H T s A M/\A.wo=wo/\Dv M/\
 (∀q b H',KB.RW (fdOf M) (gM M) q q.length b->(∀x∈b,∀c,cellAt M x.1=some c->c.tone=M.sw.sense)->aU H H'->Q .non H')/\
 (∀q b (i:Nat) x c a o H',KB.RW (fdOf M) (gM M) q q.length b->b[i]? =some x->(∀(k:Nat) y d,k<i->b[k]? =some y->cellAt M y.1=some d->d.tone=M.sw.sense)->cellAt M x.1=some c->c.tone≠M.sw.sense->aU H H'->H a=none->H o=none->H' a=some (.tup [.str "lost",.int c.birth,.ref o])->H' o=some (.lst (x.2.map V.int))->Q (.ref a) H')):
  yX K (cQ X) (Hj K X.C X.H) (yp X) ξ [↑wo,none,none,none] H:=by
 obtain⟨T,s,A,M,w,s0,j,rfl,ok,q1,q2⟩:=q;obtain⟨dw,ow⟩:=j.jb.ow;have l5:=j.jd.l5;have lh:=j.jd.lh;have nl:=ok.nl;unfold yX;apply aF ow m.cW m.HS bw ?_;apply⟨_,rfl,T,s,A,M,s0,j,rfl,δ,δ,λra rs H1 s1 nra O R nrs nrl g1=>?_⟩;apply⟨A.hp,ra,fdOf M,rs,gM M,rfl,(j.same s1).w0.hv,cB.of O,Zl5 (M:=M) R g1,Zz3 j ok,λl ts q b H2 Z nl2 s2 ol qa=>?_⟩;have g:=s1.trans s2;have u:=j.same g;have good:=Z.good.2;have B:=qa.len;obtain⟨dw2,Y⟩:=u.jb.ow;obtain⟨dh2,I⟩:=u.jh.oh;refine⟨l,rfl,⟨_,cB.of ol⟩,forL (ts.map V.ref) (λi S E=>∃U W P,S=[↑A.wo,U,W,P]/\E=H2/\∀(k:Nat) y d,k<i->b[k]? =some y->cellAt M y.1=some d->d.tone=M.sw.sense) ⟨_,_,_,rfl,rfl,λk y d hk=>absurd hk (Nat.not_lt_zero _)⟩ (by rintro _ _ _ _ ⟨_,_,_,_,z,_⟩;rw[z];exact cB.of ol) ?_ ?_⟩
 ·rintro i x S E hi ⟨U,W,P,rfl,rfl,f⟩;rw[cF]at hi;obtain⟨t,ht,rfl⟩:=Option.map_eq_some_iff.mp hi;have F:i<b.length:=by rw[<- B];exact(cZ ht).1
  obtain⟨t',wa,et,ot,p⟩:=qa.at (bK F);rw[ht]at et;cases et;have hx:b[i]? =some b[i]:=bK F;generalize b[i]=x at hx ot p;obtain⟨fl,D⟩:=Option.isSome_iff_exists.mp (good x (List.mem_of_getElem? hx)).there;rw[Zd7]at D;obtain⟨c,hc,_⟩:=Option.map_eq_some_iff.mp D;obtain⟨x0,J⟩:=cj.mp hc;obtain⟨pp,N,ce⟩:=u.jc.at J;obtain⟨_,_,⟨dc,oc⟩,_⟩:=id ce;refine⟨t,_,rfl,fY.of ot,rfl,?_⟩;refine⟨_,_,rfl,?_⟩;exists _,_,rfl;exists rfl;apply aF Y m.cW m.HS bw ?_;refine aF I m.c.cA m.c.bO bT ?_;apply jg (cB.of u.jh.oc) (qx (v:=.ref pp.1) x0 (by rw[cF,N];rfl)) ?_;exists _,_,rfl,T,s,A,M,_,pp,c,u.w0,rfl,ce,rfl;apply xN (λz=>?_) (λz=>?_)
  ·apply aF oc m.c.dz m.c.d9 iy ?_;apply Zv4 (fY.of p) λo r=>?_;generalize zz:upd E o _=H3;obtain⟨s3,g3⟩:=nwO r zz;apply⟨aR ζ,λa na=>?_⟩;have s4:=aK na (.tup [.str "lost",.int c.birth,.ref o]);exact q2 q b i x c a o _ Z hx f hc z (g.trans (s3.trans s4)) (g.free (s3.free na)) (g.free r) aq (s4 _ _ g3)
  ·apply⟨_,_,_,rfl,rfl,λk y d hk e1 L=>?_⟩
   by_cases h:k<i
   ·exact f k y d h e1 L
   ·have:k=i:=δ
    subst this;rw[hx]at e1;cases e1;rw[hc]at L;cases L;exact z
 ·rintro S E ⟨U,W,P,rfl,rfl,f⟩;rw[bB,B]at f;apply q1 q b E Z (λx hx c hc=>?_) g;obtain⟨k,hk,e⟩:=List.getElem_of_mem hx;exact f k x c hk (by rw[bK hk,e]) hc
theorem Zay{M:Wm}:((uY M).map some).map (uy M)=(uZ M).map some:=by
 unfold uY uZ;rw[List.map_map,List.map_filterMap,List.map_filterMap];refine KQ λi b=>?_;rw[Option.map_map,Option.map_map];cases hp:xY M i with
 | none=>rfl
 | some c=>
  unfold xY at hp;obtain⟨d,hd,e⟩:=Option.bind_eq_some_iff.mp hp;have a:d=c:=by
   split at e
   ·cases e
   ·exact Option.some.inj e
  subst a;show some (uy M (some (i:Int)))=some (some d.birth);have:cellAt M (i:Int)=some d:=by
   unfold cellAt;rw[if_pos δ,Int.toNat_natCast,hd]
  show some ((cellAt M (i:Int)).map _)=_;rw[this];rfl
theorem Zii{M:Wm}(h:M.cells.length<=900):(uZ M).length<=900/\(uY M).length<=900:=by
 unfold uZ uY;have h1:=List.length_filterMap_le (λi=>(xY M i).map (·.birth)) (List.range M.cells.length);have h2:=List.length_filterMap_le (λ(i:Nat)=>(xY M i).map λ_=>(i:Int)) (List.range M.cells.length);rw[List.length_range]at h1 h2;exact⟨δ,δ⟩
theorem Zze{wo:AH}(f:qT K X)(q:Gs X Zij wo H Q):Zib K (kZ X) (vO X) (Dg X) (nZ K) ξ [↑wo,none,none,none] H:=by
 obtain⟨T,s,A,M,lb,lw,w,E,j,rfl,ok,⟨ph,gr,cd⟩,lo,q⟩:=q;obtain⟨dw,ow⟩:=j.jb.ow;obtain⟨F,os⟩:=j.js.os;obtain⟨dh,oh⟩:=j.jh.oh;have y:=ok.cl;unfold Zib;apply aF ow f.cW f.Nq aW ?_;apply aF ow f.cW f.HS bw ?_;refine aF oh f.c.cA f.c.bO bT ?_;apply jU (cB.of j.jh.oc) ?_;rw[bB,j.jc.lc];apply⟨A.sw,X.S,F,_,rfl,os,f.cS,f.n7,by show 11<1000;decide,?_⟩;rw[Qt];apply⟨A.sw,X.S,F,_,rfl,aq,f.cS,f.n6,by show 11<1000;decide,?_⟩;rw[HN,fM];obtain⟨b,t⟩:=j.sweep w E (dx:=F) { M.sw with stop:=M.cells.length,at':=0 } rfl;have t:WJ X _ T s A (jK M):=t;generalize upd H A.sw (.ins X.S F (cI M.sw.sense M.sw.phase A.gr M.sw.looked M.sw.turn 0 M.cells.length M.sw.walks M.sw.looks M.sw.passes M.sw.loss))=H1 at b t ⊢;have N:Dv (jK M):=⟨ok.cl,ok.hl,ok.fl,ok.nl,ok.gl,ok.gc,ok.ph,Int.le_refl _⟩;apply⟨_,rfl,T,s,A,jK M,b.wt,E,t,rfl,N,λL P B R o k=>?_,λL P i x c a D B R hx o hc ht k Y J oa u=>?_⟩
 ·have r:=t.same k;obtain⟨dw2,ow2⟩:=r.jb.ow;obtain⟨d,h⟩:=r.js.os;apply⟨A.sw,X.S,d,_,rfl,h,f.cS,f.n2,by show 11<1000;decide,?_⟩;rw[pG];obtain⟨e,g⟩:=r.sweep (b.wt.same k) E (dx:=d) { (jK M).sw with phase:="give" } rfl;have g:WJ X _ T s A { jK M with sw:={ (jK M).sw with phase:="give" } }:=g;generalize upd B A.sw (.ins X.S d (cI (jK M).sw.sense "give" A.gr (jK M).sw.looked (jK M).sw.turn (jK M).sw.at' (jK M).sw.stop (jK M).sw.walks (jK M).sw.looks (jK M).sw.passes (jK M).sw.loss))=H3 at e g ⊢;obtain⟨dw3,O⟩:=g.jb.ow;obtain⟨ob,ol⟩:=Zii y;apply aF O f.cW f.HS bw ?_;apply⟨_,rfl,T,s,A,_,g,rfl,y,λl4 H4 l nl4 g4=>?_⟩;have e4:(uY { jK M with sw:={ (jK M).sw with phase:="give" } }).map V.int=((uY M).map some).map oV:=by
   rw[List.map_map];rfl
  rw[e4]at g4;apply⟨A.hp,l4,rfl,T,s,A,_,(uY M).map some,g.same l,rfl,g4,by rw[bB];omega,λl5 C=>?_⟩;have e5:(((uY M).map some).map (uy { jK M with sw:={ (jK M).sw with phase:="give" } })).map oV=(uZ M).map V.int:=by
   have:uy { jK M with sw:={ (jK M).sw with phase:="give" } }=uy M:=by funext x;cases x<;>rfl
   rw[this,Zay,List.map_map];rfl
  rw[e5];generalize zz:upd H4 l5 _=H5;obtain⟨s5,g5⟩:=nwO C zz;apply jU (cB.of g5) ?_;rw[bB];apply⟨aR ζ,λa Y=>?_⟩;have s6:=aK Y (.tup [.str "cut",.int (uZ M).length,.ref l5]);have v:=l.trans (s5.trans s6);have I:H l5=none:=iY.free b (k.free (iY.free e (l.free C)));exact q _ _ (.cut L P ph gr cd R o) _ T A a (b.trans ((iY.same b.wt k).trans (e.trans (iY.same e.wt v)))) (g.same v) ⟨rfl,rfl⟩ ⟨l5,I,aq,s6 _ _ g5⟩ λz=>absurd z (show ¬ ("give":Str)="lost" by decide)
 ·have r:=t.same k;have w2:=b.wt.same k;obtain⟨d,h⟩:=r.js.os;apply⟨A.sw,X.S,d,_,rfl,h,f.cS,f.n2,by show 11<1000;decide,?_⟩;rw[pG];apply⟨A.sw,X.S,d,_,rfl,aq,f.cS,f.n11,by show 11<1000;decide,?_⟩;rw[Qu,fM];obtain⟨e,g⟩:=r.sweep w2 E (dx:=d) { (jK M).sw with phase:="lost",loss:=.ref a } rfl;have g:WJ X _ T s A { jK M with sw:={ (jK M).sw with phase:="lost",loss:=.ref a } }:=g;have ta:T a=(0,0):=b.wt _ Y;have tw:T D=(0,0):=b.wt _ J;have m:upd B A.sw (.ins X.S d (cI (jK M).sw.sense "lost" A.gr (jK M).sw.looked (jK M).sw.turn (jK M).sw.at' (jK M).sw.stop (jK M).sw.walks (jK M).sw.looks (jK M).sw.passes (.ref a))) a=some (.tup [.str "lost",.int c.birth,.ref D]):=(aD (qe oa h (λz=>by cases z))).trans oa;have p:upd B A.sw (.ins X.S d (cI (jK M).sw.sense "lost" A.gr (jK M).sw.looked (jK M).sw.turn (jK M).sw.at' (jK M).sw.stop (jK M).sw.walks (jK M).sw.looks (jK M).sw.passes (.ref a))) D=some (.lst (x.2.map V.int)):=(aD (qe u h (λz=>by cases z))).trans u;generalize upd B A.sw (.ins X.S d (cI (jK M).sw.sense "lost" A.gr (jK M).sw.looked (jK M).sw.turn (jK M).sw.at' (jK M).sw.stop (jK M).sw.walks (jK M).sw.looks (jK M).sw.passes (.ref a)))=H3 at e g m p ⊢;apply⟨a,rfl,"lost",c.birth,D,x.2,m,p,λa' l' H4 l Z U W=>?_⟩;have I:H l'=none:=iY.free b (k.free (iY.free e Z));exact q _ _ (.lost L P i x c (.ref a) ph gr cd R hx o hc ht) _ T A a' (b.trans ((iY.same b.wt k).trans (e.trans (iY.same e.wt l)))) (g.same l) ⟨rfl,rfl⟩ ⟨l',I,U,W⟩ λ_=>⟨c.birth,rfl,a,D,rfl,ta,l _ _ m,tw,l _ _ p⟩
end
section
variable {K:aC}{X:Cs}{H:Hp}{Q:VK}{E:XK}{n:ν}{bk ct:ν}
theorem Zsu{wo:AH}(b:qT K X)(q:Gs X Zem wo H Q):Zan K (gf X) ξ [↑wo,none,none] H:=by
 obtain⟨T,s,A,M,lb,lw,w,B,j,rfl,ok,⟨ph,gr⟩,lo,q⟩:=q;obtain⟨dw,ow⟩:=j.jb.ow;obtain⟨ds,os⟩:=j.js.os;obtain⟨W,oh⟩:=j.jh.oh;have og:=j.js.og;cases r:M.sw.grey with
 | nil=>exact absurd r gr
 | cons x g=>
  obtain⟨c,hc⟩:=ok.gc ph x (by rw[r];simp);obtain⟨I,f⟩:=cj.mp hc;have y:=ok.gl ph;have N:=ok.fl c (tY hc);rw[r]at og;unfold Zan;apply aF ow b.cW b.Nq aW ?_;apply aF ow b.cW b.HS bw ?_;refine aF oh b.c.cA b.c.bO bT ?_;apply aF os b.cS b.n3 mZ ?_;exists .inl ⟨rfl,_,cB.of og⟩;exists A.gr,_,0,0,.int x,rfl,rfl,og,ε,ε,by simp[seqIndex?],rfl;obtain⟨e,p⟩:=j.Zwl w B (g:=g);show m6 K _ _ (upd H A.gr (.lst (g.map V.int))) _;generalize upd H A.gr (.lst (g.map V.int))=H1 at e p ⊢;obtain⟨F,h,ce⟩:=p.jc.at (i:=x.toNat) (c:=c) f;refine jg (cB.of p.jh.oc) (qx (v:=.ref F.1) I (by rw[cF,h];rfl)) ?_;obtain⟨k,u⟩:=p.js.os;apply aF u b.cS b.n8 uM ?_;apply⟨A.sw,X.S,k,_,rfl,u,b.cS,b.n8,by show 11<1000;decide,?_⟩;rw[z9];obtain⟨d,o⟩:=p.sweep e.wt B (dx:=k) { M.sw with grey:=g,walks:=M.sw.walks+1 } rfl;have o:WJ X _ T s A { M with sw:={ M.sw with grey:=g,walks:=M.sw.walks+1 } }:=o;generalize upd H1 A.sw _=Y at d o ⊢;obtain⟨R,m,E⟩:=o.jc.at (i:=x.toNat) (c:=c) f;rw[h]at m;cases m;obtain⟨_,_,⟨dc,oc⟩,U⟩:=id E;apply aF oc b.c.dz b.c.d9 iy ?_;apply aF oc b.c.dz b.c.fL lY ?_;apply⟨_,_,rfl,c.fl,T,s,A,_,d.wt,B,o,rfl,.inr (.inr ⟨x.toNat,F,c,h,f,rfl,rfl⟩),δ,λ_=>?_,λZ J l t L O C=>?_⟩
  ·show g.length<=10000;rw[r,List.length_cons]at y;omega
  apply⟨aR ζ,λa P=>?_⟩;have D:=aK P (.tup [.str "walk",.int c.birth,.ref l]);refine q _ _ (.walk x g c ph r hc) _ J A a (e.trans (d.trans (t.trans (iY.same t.wt D)))) (L.same D) ⟨rfl,rfl⟩ ⟨l,iY.free e (iY.free d C),aq,D _ _ O⟩ λz=>?_;rw[(yc (l:=c.fl) (M:={ M with sw:={ M.sw with grey:=g,walks:=M.sw.walks+1 } })).1]at z;exact absurd (ph.symm.trans z) (show ¬ ("walk":Str)="lost" by decide)
theorem Wq{wo:AH}(e:qT K X)(q:Gs X Zen wo H Q):yU K X.H (uH X.C X.H) (eO X.H) (cQ X) ξ [↑wo,none,none,none] H:=by
 obtain⟨T,s,A,M,lb,lw,w,O,j,rfl,ok,⟨ph,lt⟩,lo,q⟩:=q;obtain⟨dw,ow⟩:=j.jb.ow;obtain⟨L,os⟩:=j.js.os;unfold yU;apply aF ow e.cW e.Nq aW ?_;apply aF os e.cS e.n6 pH ?_;apply⟨A.sw,X.S,L,_,rfl,os,e.cS,e.n6,by show 11<1000;decide,?_⟩;rw[HN];apply aF aq e.cS e.n10 sI ?_;apply⟨A.sw,X.S,L,_,rfl,aq,e.cS,e.n10,by show 11<1000;decide,?_⟩;rw[xQ,fM];obtain⟨b,f⟩:=j.sweep w O (dx:=L) { M.sw with at':=M.sw.at'+1,passes:=M.sw.passes+1 } rfl;generalize upd H A.sw _=U at b f ⊢;obtain⟨Z,r⟩:=f.jb.ow;obtain⟨E,D⟩:=f.jh.oh;apply aF r e.cW e.HS bw ?_;exists _,_,rfl,Ac (some M.sw.at'),_,_,_,_,_,f.hpO;have u:(∀c,cellAt M M.sw.at'=some c->c.tone=M.sw.sense)->∀l a m,U l=none->aU U m->m a=some (.tup [.str "pass",.int M.sw.at',.ref l])->m l=some (.lst [])->Q (.ref a) m:=λhp l a m nl o oa ol=>
  q _ _ (.pass ph lt hp) _ T A a (b.trans (iY.same b.wt o)) (f.same o) ⟨rfl,rfl⟩ ⟨l,iY.free b nl,oa,ol⟩ λz=>absurd (ph.symm.trans z) (show ¬ ("give":Str)="lost" by decide)
 rcases f.look (some M.sw.at')with ⟨F,I⟩ | ⟨i,c,P,ei,W,B,t,hpp,I,ce⟩
 ·have F:cellAt M M.sw.at'=none:=F;rw[show atO (A.cs.map pV) (.int M.sw.at')=.non from I];apply⟨aR ζ,λl nl=>⟨aR ζ,λa v=>?_⟩⟩;have o:=aK nl (.lst []);have h:=aK v (.tup [.str "pass",.int M.sw.at',.ref l]);exact u (λc hc=>by rw[F]at hc;cases hc) l a _ nl (o.trans h) aq (h _ _ aq)
 ·cases ei;have B:cellAt M M.sw.at'=some c:=B;rw[show atO (A.cs.map pV) (.int M.sw.at')=.ref P.1 from I];exists _,_,rfl,T,s,A,_,_,P,c,f.w0,rfl,ce,rfl
  by_cases z:c.tone=M.sw.sense
  ·rw[decide_eq_true (show c.tone=({ M.sw with at':=M.sw.at'+1,passes:=M.sw.passes+1 }:Sw).sense from z)];apply⟨aR ζ,λl nl=>⟨aR ζ,λa v=>?_⟩⟩;have o:=aK nl (.lst []);have h:=aK v (.tup [.str "pass",.int M.sw.at',.ref l]);exact u (λd hd=>by rw[B]at hd;cases hd;exact z) l a _ nl (o.trans h) aq (h _ _ aq)
  ·rw[decide_eq_false (show ¬ c.tone=({ M.sw with at':=M.sw.at'+1,passes:=M.sw.passes+1 }:Sw).sense from z)];obtain⟨k,x⟩:=toN W;have hk:M.cells[k]? =some (some c):=by rw[x,Int.toNat_natCast]at t;exact t
   apply aF r e.cW e.HS bw ?_;exists A.hp,E,_,rfl,D,Xn;ext;rw[x];refine Znu f b.wt O hk λm Y g R J=>?_;apply⟨aR ζ,λl nl=>⟨aR ζ,λa v=>?_⟩⟩;have h:=aK nl (.lst [.int (k:Int)]);have V:=aK v (.tup [.str "back",.int c.birth,.ref l]);have p:=h.trans V;have N:=uF.back (lb:=lb) (lw:=lw) (M:=M) c ph lt B z;rw[x,Int.toNat_natCast]at N;rw[x]at R;exact q _ _ N _ T Y a (b.trans (g.trans (iY.same g.wt p))) (R.same p) J ⟨l,iY.free b (iY.free g nl),aq,V _ _ aq⟩ λy=>absurd (ph.symm.trans y) (show ¬ ("give":Str)="lost" by decide)
theorem Zz9{wo:AH}(b:qT K X)(q:Gs X pEnd wo H Q):Zia K ξ [↑wo,none] H:=by
 obtain⟨T,s,A,M,p,u,w,k,j,rfl,ok,⟨ph,lt⟩,lo,q⟩:=q;obtain⟨t,ow⟩:=j.jb.ow;obtain⟨h,os⟩:=j.js.os;unfold Zia;apply aF ow b.cW b.Nq aW ?_;apply⟨A.sw,X.S,h,_,rfl,os,b.cS,b.n2,by show 11<1000;decide,?_⟩;rw[pG];obtain⟨d,f⟩:=j.sweep w k (dx:=h) { M.sw with phase:="rest" } rfl;generalize upd H A.sw _=r at d f ⊢;obtain⟨i,c⟩:=f.js.os;apply aF c b.cS b.n5 qW ?_;apply aF c b.cS b.n8 uM ?_;apply aF c b.cS b.n9 qi ?_;apply aF c b.cS b.n10 sI ?_;apply⟨aR ζ,λl nl=>⟨aR ζ,λa m=>?_⟩⟩;have o:=aK nl (.lst [.int M.sw.walks,.int M.sw.looks,.int M.sw.passes]);have g:=aK m (.tup [.str "end",.int M.sw.turn,.ref l]);have e:=o.trans g;exact q _ _ (.fin ph lt) _ T A a (d.trans (iY.same d.wt e)) (f.same e) ⟨rfl,rfl⟩ ⟨l,iY.free d nl,aq,g _ _ aq⟩ λz=>absurd z (show ¬ ("rest":Str)="lost" by decide)
theorem Qx{wo:AH}(a:qT K X)(q:Gs X (Rq "give") wo H Q):uU K (cg X pEnd) (cg X Zen) ξ [↑wo] H:=by
 obtain⟨T,s,A,M,c,d,w,b,j,rfl,ok,ph,lo,q⟩:=q;obtain⟨e,ow⟩:=j.jb.ow;obtain⟨f,os⟩:=j.js.os;unfold uU;apply aF ow a.cW a.Nq aW ?_;apply aF os a.cS a.n6 pH ?_;apply aF ow a.cW a.Nq aW ?_;apply aF os a.cS a.n7 vX ?_;apply uE (λz=>?_) (λz=>?_)
 ·apply⟨_,rfl,T,s,A,M,c,d,w,b,j,rfl,ok,⟨ph,z⟩,lo,q⟩
 ·apply⟨_,rfl,T,s,A,M,c,d,w,b,j,rfl,ok,⟨ph,z⟩,lo,q⟩
theorem Qw{wo:AH}(a:qT K X)(q:Gs X (Rq "walk") wo H Q):uT K (cg X Zeo) (cg X Zem) ξ [↑wo] H:=by
 obtain⟨T,s,A,M,c,e,w,b,j,rfl,ok,ph,lo,q⟩:=q;obtain⟨f,ow⟩:=j.jb.ow;obtain⟨h,os⟩:=j.js.os;unfold uT;apply aF ow a.cW a.Nq aW ?_;apply aF os a.cS a.n3 mZ ?_;refine Zzx (cB.of j.js.og) ?_;cases d:M.sw.grey with
 | nil=>
  refine Zck ?_;apply⟨_,rfl,T,s,A,M,c,e,w,b,j,rfl,ok,⟨ph,d⟩,lo,q⟩
 | cons x g=>
  refine Zjo ?_;apply⟨_,rfl,T,s,A,M,c,e,w,b,j,rfl,ok,⟨ph,by rw[d];simp⟩,lo,q⟩
theorem Jz{wo:AH}(c:qT K X)(q:Gs X (Rq "lost") wo H Q):qZ K (nZ K) ξ [↑wo] H:=by
 obtain⟨T,s,A,M,d,i,w,k,j,rfl,ok,ph,lo,q⟩:=q;obtain⟨o,ow⟩:=j.jb.ow;obtain⟨p,os⟩:=j.js.os;obtain⟨e,g,f,t1,o1,t2,o2⟩:=lo ph;rw[f]at os;unfold qZ;apply aF ow c.cW c.Nq aW ?_;apply aF os c.cS c.n11 R5 ?_;apply⟨e,rfl,"lost",d,g,i,o1,o2,λa l m b nl h ol=>?_⟩;exact q _ _ (.again ph) _ T A a (iY.same w b) (j.same b) ⟨rfl,rfl⟩ ⟨l,nl,h,ol⟩ λ_=>⟨d,rfl,e,g,f,t1,b _ _ o1,t2,b _ _ o2⟩
theorem Zt1{wo h f g e:AH}(c:qT K X)(q:Gs X Zq3 wo H Q):Zao K h f g e (cg X (Rq "rest")) (cg X (Rq "give")) (cg X (Rq "walk")) (cg X (Rq "lost")) ξ [↑wo,none] H:=by
 obtain⟨T,s,A,M,b,d,w,a,j,rfl,ok,_,lo,q⟩:=q;obtain⟨i,ow⟩:=j.jb.ow;obtain⟨k,os⟩:=j.js.os;unfold Zao;apply aF ow c.cW c.Nq aW ?_;apply aF os c.cS c.n2 eF ?_;rcases ok.ph with ph | ph | ph | ph
 ·rw[ph];refine⟨_,h,rfl,rfl,?_⟩;apply oZ (cg X (Rq "rest")) rfl ζ ?_;apply⟨_,rfl,T,s,A,M,b,d,w,a,j,rfl,ok,ph,lo,q⟩
 ·rw[ph];refine⟨_,g,rfl,rfl,?_⟩;apply oZ (cg X (Rq "walk")) rfl ζ ?_;apply⟨_,rfl,T,s,A,M,b,d,w,a,j,rfl,ok,ph,lo,q⟩
 ·rw[ph];refine⟨_,f,rfl,rfl,?_⟩;apply oZ (cg X (Rq "give")) rfl ζ ?_;apply⟨_,rfl,T,s,A,M,b,d,w,a,j,rfl,ok,ph,lo,q⟩
 ·rw[ph];refine⟨_,e,rfl,rfl,?_⟩;apply oZ (cg X (Rq "lost")) rfl ζ ?_;apply⟨_,rfl,T,s,A,M,b,d,w,a,j,rfl,ok,ph,lo,q⟩
end
section
variable {K:aC}{X:Cs}{H:Hp}{Q:VK}{E:XK}{n:ν}{bk ct:ν}
theorem R6{A:Wa}{w:Int}{σ:St}{b:TE}{q:Bool->Hp->Prop}(ol:∃dx,(w=0/\H A.lk=some (.ins X.F dx []))\/(w=1/\H A.lk=some (.ins X.E dx []))\/(w=2/\H A.lk=some (.ins X.L dx [])))(a:∀c:VK,c (.ref A.lk) H->b σ H c)(h:q (decide (w≠2)) H):
  tB (G.Lr (mR X.F "stays" (tZ (.bl true)) [] E0 b aB) (G.Lr (mR X.E "stays" (tZ (.bl true)) [] E0 b aB) (mR X.L "stays" (tZ (.bl false)) [] E0 b aB))) σ H q:=by
 refine ZAt ?_;obtain⟨dl,⟨d,o⟩ | ⟨d,o⟩ | ⟨d,o⟩⟩:=ol
 ·rw[show decide (w≠2)=true from decide_eq_true δ]at h;refine Y9 ?_;left;refine a _ ?_;refine⟨A.lk,dl,_,rfl,o,rfl,?_⟩;left;exact⟨_,rfl,i_B h⟩
 ·rw[show decide (w≠2)=true from decide_eq_true δ]at h;refine KC (Y9 ?_);left;refine a _ ?_;refine⟨A.lk,dl,_,rfl,o,rfl,?_⟩;left;exact⟨_,rfl,i_B h⟩
 ·rw[show decide (w≠2)=false from decide_eq_false δ]at h;refine KC (KC ?_);left;refine a _ ?_;refine⟨A.lk,dl,_,rfl,o,rfl,?_⟩;left;exact⟨_,rfl,i_B h⟩
theorem Zn7{T:Tg}{s:Nat}{A:Wa}{M:Wm}{lb:Int}{lw:AD}(i:qT K X)(w:WT H T)(D:s≠0)(j:WJ X H T s A M)(ok:Dv M)(ph:M.sw.phase="walk")(gr:M.sw.grey=[])
  (q:∀e y,uF lb lw M e y->∀H' T' C a,iY s H H' T T'->WJ X H' T' s C y->C.wo=A.wo/\C.sw=A.sw->EvN H H' a e->(y.sw.phase="lost"->∃b,e.thing=some b/\Zso H' T' y b e.notes)->Q (.ref a) H'):
  pY K X.E X.F X.L (tZ (.bl false)) (tZ (.bl true)) (cg X Zij) (mG X) ξ [↑A.wo,↑A.sw,↑A.lk,some (.int (cX M)),none] H:=by
 unfold pY;apply⟨_,_,rfl,T,s,A,M,w,D,j,rfl,ok.hl,λ_=>by rw[gr];exact Nat.zero_le _,λx I l g p N nl=>?_⟩;have nt:=Zbo (cX M) M.hands 0 M;have ww:=nt.ww;have ol:=p.jb.ol;rw[ww]at ol;have O:Gq M->cg X Zij [.ref A.wo] x Q E0:=λcd=>by
  have e:(jE (cX M) M.hands 0 M).2=M:=by
   rcases cd with z | ⟨_,z⟩
   ·rw[z,Zf6]
   ·exact Zbp _ z
  rw[e]at p;refine⟨_,rfl,I,s,A,M,lb,lw,g.wt,D,p,rfl,ok,⟨ph,gr,cd⟩,λz=>absurd (ph.symm.trans z) ε,λe' y r H' T' C a st' j' W Y U=>?_⟩;obtain⟨l',nl',o1,o2⟩:=Y;exact q e' y r H' T' C a (g.trans st') j' W ⟨l',iY.free g nl',o1,o2⟩ U
 have t:¬ Gq M->∀(lo:Int),lo=(if M.w=2 then(jE (cX M) M.hands 0 M).2.sw.looked else Builtin.bitOr (jE (cX M) M.hands 0 M).2.sw.looked (cX M))->∀m,iY s x m I I->WJ X m I s A { (jE (cX M) M.hands 0 M).2 with sw:={ (jE (cX M) M.hands 0 M).2.sw with looks:=(jE (cX M) M.hands 0 M).2.sw.looks+1,looked:=lo } }->m l=some (.lst ((jE (cX M) M.hands 0 M).1.map V.int))->∀a,m a=none->Q (.ref a) (upd m a (.tup [.str "look",.int (cX M),.ref l])):=λB lo R m d o v a J=>by
  have Z:=aK J (.tup [.str "look",.int (cX M),.ref l]);subst R;refine q _ _ (.look _ ph gr B rfl) _ I A a (g.trans (d.trans (iY.same d.wt Z))) (o.same Z) ⟨rfl,rfl⟩ ⟨l,nl,aq,Z _ _ v⟩ λz=>?_;have:=(FW (cX M) 100 M.hands 0 M ok.hl).1;have z:(jE (cX M) M.hands 0 M).2.sw.phase="lost":=z;rw[this]at z;exact absurd (ph.symm.trans z) ε
 apply uE (λhz=>?_) (λhz=>?_)
 ·apply O (.inl hz)
 ·refine Zwk ?_;refine ZAu ?_;refine R6 ol (λQ' h=>by left;exact h) ?_
  by_cases P:M.w=2
  ·rw[show decide (M.w≠2)=false from decide_eq_false δ];refine Zck ?_;refine Zwj ?_;left;refine Zzx (cB.of N) ?_;cases hn:(jE (cX M) M.hands 0 M).1 with
   | nil=>
    refine Zjo ?_;apply O (.inr ⟨P,hn⟩)
   | cons b bs=>
    have B:¬ Gq M:=λz=>by
     rcases z with z | ⟨_,z⟩
     ·exact hz z
     ·rw[hn]at z;cases z
    have t:=t B _ rfl;rw[if_pos P]at t;obtain⟨c,f⟩:=p.js.os;refine Zck ?_;apply aF f i.cS i.n9 qi ?_;apply⟨A.sw,X.S,c,_,rfl,f,i.cS,i.n9,by show 11<1000;decide,?_⟩;rw[sH];obtain⟨d,o⟩:=p.sweep g.wt D (dx:=c) { (jE (cX M) M.hands 0 M).2.sw with looks:=(jE (cX M) M.hands 0 M).2.sw.looks+1 } rfl;have v:upd x A.sw (.ins X.S c (cI (jE (cX M) M.hands 0 M).2.sw.sense (jE (cX M) M.hands 0 M).2.sw.phase A.gr (jE (cX M) M.hands 0 M).2.sw.looked (jE (cX M) M.hands 0 M).2.sw.turn (jE (cX M) M.hands 0 M).2.sw.at' (jE (cX M) M.hands 0 M).2.sw.stop (jE (cX M) M.hands 0 M).2.sw.walks ((jE (cX M) M.hands 0 M).2.sw.looks+1) (jE (cX M) M.hands 0 M).2.sw.passes (jE (cX M) M.hands 0 M).2.sw.loss)) l=some (.lst ((jE (cX M) M.hands 0 M).1.map V.int)):=(aD (qe N f (λz=>by cases z))).trans N;generalize upd x A.sw _=m at d o v ⊢;have k:=o.jb.ol;have u:({ (jE (cX M) M.hands 0 M).2 with sw:={ (jE (cX M) M.hands 0 M).2.sw with looks:=(jE (cX M) M.hands 0 M).2.sw.looks+1 } }:Wm).w=M.w:=ww;rw[u]at k;refine Kz ?_;refine Zym ?_;refine R6 k (λQ' h=>by left;exact h) ?_;rw[show decide (M.w≠2)=false from decide_eq_false δ];apply⟨aR ζ,λa J=>t m d o v a J⟩
  ·rw[show decide (M.w≠2)=true from decide_eq_true δ];have B:¬ Gq M:=λz=>by
    rcases z with z | ⟨z,_⟩
    ·exact hz z
    ·exact P z
   have t:=t B _ rfl;rw[if_neg P]at t;obtain⟨c,f⟩:=p.js.os;apply aF f i.cS i.n9 qi ?_;apply⟨A.sw,X.S,c,_,rfl,f,i.cS,i.n9,by show 11<1000;decide,?_⟩;rw[sH];obtain⟨ZL3,j1b⟩:=p.sweep g.wt D (dx:=c) { (jE (cX M) M.hands 0 M).2.sw with looks:=(jE (cX M) M.hands 0 M).2.sw.looks+1 } rfl;have k:=j1b.jb.ol;have u:({ (jE (cX M) M.hands 0 M).2 with sw:={ (jE (cX M) M.hands 0 M).2.sw with looks:=(jE (cX M) M.hands 0 M).2.sw.looks+1 } }:Wm).w=M.w:=ww;rw[u]at k;refine Kz ?_;refine Zym ?_;refine R6 k (λQ' h=>by left;exact h) ?_;rw[show decide (M.w≠2)=true from decide_eq_true δ];apply aF aq i.cS i.n4 iZ ?_;apply⟨A.sw,X.S,c,_,rfl,aq,i.cS,i.n4,by show 11<1000;decide,?_⟩;rw[xR,fM];obtain⟨d,o⟩:=p.sweep g.wt D (dx:=c) { (jE (cX M) M.hands 0 M).2.sw with looks:=(jE (cX M) M.hands 0 M).2.sw.looks+1,looked:=Builtin.bitOr (jE (cX M) M.hands 0 M).2.sw.looked (cX M) } rfl;have v:upd x A.sw (.ins X.S c (cI (jE (cX M) M.hands 0 M).2.sw.sense (jE (cX M) M.hands 0 M).2.sw.phase A.gr (Builtin.bitOr (jE (cX M) M.hands 0 M).2.sw.looked (cX M)) (jE (cX M) M.hands 0 M).2.sw.turn (jE (cX M) M.hands 0 M).2.sw.at' (jE (cX M) M.hands 0 M).2.sw.stop (jE (cX M) M.hands 0 M).2.sw.walks ((jE (cX M) M.hands 0 M).2.sw.looks+1) (jE (cX M) M.hands 0 M).2.sw.passes (jE (cX M) M.hands 0 M).2.sw.loss)) l=some (.lst ((jE (cX M) M.hands 0 M).1.map V.int)):=(aD (qe N f (λz=>by cases z))).trans N;generalize upd x A.sw _=m at d o v ⊢;apply⟨aR ζ,λa J=>t m d o v a J⟩
theorem Uv{wo:AH}(a:qT K X)(q:Gs X Zeo wo H Q):wF K X.E X.F X.L (iV 1) (iV 2) (tZ (.bl false)) (iV 0) (tZ (.bl true)) (cg X Zij) (mG X) ξ [↑wo,none,none,none,none] H:=by
 obtain⟨T,s,A,M,i,m,w,g,j,rfl,ok,⟨ph,gr⟩,lo,q⟩:=q;obtain⟨k,ow⟩:=j.jb.ow;obtain⟨l,os⟩:=j.js.os;obtain⟨h,f⟩:=j.jb.ok;have on:=j.jb.on;have lh:=j.jd.lh;have l5:=j.jd.l5;have c:((A.hs.map λp=>V.ref p.1).length:Int)=(M.hands.length:Int):=by rw[bB,lh]
 have b:=Zn7 (n:=n) (bk:=bk) (ct:=ct) a w g j ok ph gr q;obtain⟨dl,ol⟩:=j.jb.ol;unfold wF;apply aF ow a.cW a.Nq aW ?_;apply aF ow a.cW a.nWk mY ?_;refine aF f a.cK a.nKl pM ?_;refine Zyo ?_;refine Kz ?_;left;rcases ol with ⟨e,o⟩ | ⟨e,o⟩ | ⟨e,o⟩
 ·have d:cX M=Pu 0 M.sw.looked M.hands.length:=by unfold cX;rw[e];rfl
  refine Y9 ?_;left;refine⟨A.lk,dl,_,rfl,o,rfl,?_⟩;left;refine aF os a.cS a.n4 iZ ?_;left;refine aF ow a.cW a.nWd fK ?_;left;refine jU (cB.of on) ?_;rw[c];left;refine⟨A.lk,_,_,rfl,δ,δ,?_⟩;rw[Int.toNat_natCast,<- d];left;exact b
 ·have d:cX M=Pu 1 M.sw.looked M.hands.length:=by unfold cX;rw[e];rfl
  refine KC (Y9 ?_);left;refine⟨A.lk,dl,_,rfl,o,rfl,?_⟩;left;refine aF os a.cS a.n4 iZ ?_;left;refine aF ow a.cW a.nWd fK ?_;left;refine jU (cB.of on) ?_;rw[c];left;refine⟨A.lk,_,_,rfl,δ,δ,?_⟩;rw[Int.toNat_natCast,<- d];left;exact b
 ·have d:cX M=Pu 2 M.sw.looked M.hands.length:=by unfold cX;rw[e];rfl
  refine KC (KC ?_);left;refine⟨A.lk,dl,_,rfl,o,rfl,?_⟩;left;refine aF os a.cS a.n4 iZ ?_;left;refine aF ow a.cW a.nWd fK ?_;left;refine jU (cB.of on) ?_;rw[c];left;refine⟨A.lk,_,_,rfl,δ,δ,?_⟩;rw[Int.toNat_natCast,<- d];left;exact b
end
abbrev Qm:=List (Str×Int)
def HsO(H:Hp)(l:AH)(hs:Qm):Prop:=∃ts:AE,H l=some (.lst (ts.map V.ref))/\Al (λ(a:AH) (m:Str×Int)=>H a=some (.tup [.str m.1,.int m.2])) ts hs
theorem HsO.same{H H':Hp}{l:AH}{hs:Qm}(h:HsO H l hs)(s:aU H H'):HsO H' l hs:=by
 obtain⟨ts,h1,h2⟩:=h;exact⟨ts,s _ _ h1,h2.mono λa m z=>s _ _ z⟩
structure HsB(hs:Qm):Prop where
 n1:1<=hs.length
 n5:hs.length<=5
 sb:∀m∈hs,3<=m.2/\m.2<=9
def Ud(hs:Qm)(h s:Nat):Prop:=∃m,hs[h]? =some m/\(s:Int)<m.2
def okR(hs:Qm):pP->Prop
 | .make h s many bulk=>Ud hs h s/\0<=many/\many<=8/\0<=bulk
 | .get h s t _=>Ud hs h s/\Ud hs h t
 | .put h t _ s=>Ud hs h t/\Ud hs h s
 | .copy h s t=>Ud hs h s/\Ud hs h t
 | .drop h s=>Ud hs h s
 | .give h s g t=>Ud hs h s/\Ud hs g t
 | .write h t _=>Ud hs h t
 | .read h t=>Ud hs h t
 | .name h t _=>Ud hs h t
 | .seek h s _=>Ud hs h s
theorem HsB.ok{hs:Qm}(b:HsB hs){h s:Nat}(hh:h<hs.length)(h3:s<3):Ud hs h s:=by
 have:=b.sb _ (List.getElem_mem hh);exact⟨_,bK hh,δ⟩
def Zdo(H0 H:Hp)(hs:Qm)(vs:List V):Prop:=∀v∈vs,v=.non\/∃t d,v=.ref t/\H0 t=none/\H t=some (.tup (dV d))/\okR hs d
structure RL(H0 H:Hp)(hs:Qm)(l:AH)(N:Nat):Prop where
 s:aU H0 H
 n:H0 l=none
 ex:∃vs,H l=some (.lst vs)/\vs.length<=N/\Zdo H0 H hs vs
theorem Zdo.same{H0 H H':Hp}{hs:Qm}{vs:List V}(h:Zdo H0 H hs vs)(s:aU H H'):Zdo H0 H' hs vs:=λv hv=>by
 rcases h v hv with z | ⟨t,d,e,f,o,k⟩
 ·exact .inl z
 ·exact .inr ⟨t,d,e,f,s _ _ o,k⟩
theorem RL.same{H0 H H':Hp}{hs:Qm}{l:AH}{N:Nat}(h:RL H0 H hs l N)(s:aU H H'):RL H0 H' hs l N:=by
 obtain⟨b,n,a,h1,h2,h3⟩:=h;exact⟨b.trans s,n,a,s _ _ h1,h2,h3.same s⟩
theorem RL.base{H0 a H:Hp}{hs:Qm}{l:AH}{N:Nat}(h:RL a H hs l N)(s:aU H0 a):RL H0 H hs l N:=by
 obtain⟨c,n,b,h1,h2,h3⟩:=h;refine⟨s.trans c,s.free n,b,h1,h2,λv hv=>?_⟩;rcases h3 v hv with z | ⟨t,d,e,f,o,k⟩
 ·exact .inl z
 ·exact .inr ⟨t,d,e,s.free f,o,k⟩
theorem RL.mono{H0 H:Hp}{hs:Qm}{l:AH}{N N':Nat}(h:RL H0 H hs l N)(n:N<=N'):RL H0 H hs l N':=by
 obtain⟨c,b,a,h1,h2,h3⟩:=h;exact⟨c,b,a,h1,δ,h3⟩
theorem zX{H0 H:Hp}{hs:Qm}{a b:AH}{c d:Nat}{Q:VK}(h1:RL H0 H hs a c)(h2:RL H0 H hs b d)(hb:c+d<=100000)(k:∀l H',aU H H'->H l=none->RL H0 H' hs l (c+d)->Q (.ref l) H'):wK (.ref a) (.ref b) H Q:=by
 obtain⟨f,_,e,i,o,h⟩:=h1;obtain⟨_,_,g,j,n,m⟩:=h2;refine⟨a,b,_,_,rfl,rfl,i,j,aR δ,λl nl=>?_⟩;have s:=aK nl (.lst (e++g));refine k l _ s nl ⟨f.trans s,f.free nl,e++g,aq,by rw[List.length_append];omega,λv hv=>?_⟩;rcases List.mem_append.mp hv with hv | hv
 ·exact(h.same s) v hv
 ·exact(m.same s) v hv
theorem Ztg(m:Nat):(List.replicate m [V.non]).flatten=(List.replicate m (none:AA)).map oV:=by
 induction m with
 | zero=>rfl
 | succ m ih=>rw[List.replicate_succ,List.flatten_cons,ih];rfl
theorem Ui{H0 H:Hp}{hs:Qm}{Q:VK}{a:AH}{k:Int}(b:aU H0 H)(c:H a=some (.lst [V.non]))(k0:0<=k)(k1:k<=1000)(q:∀l H',aU H H'->H l=none->RL H0 H' hs l k.toNat->Q (.ref l) H'):Zei (.ref a) (.int k) H Q:=by
 refine⟨a,k,_,rfl,rfl,c,δ,δ,by show 1 * k.toNat<=sizeLine;exact aR δ,λl nl=>?_⟩;rw[Ztg];refine q l _ (aK nl _) nl ⟨b.trans (aK nl _),b.free nl,_,aq,by rw[bB,List.length_replicate];exact Nat.le_refl _,λv hv=>?_⟩;rw[List.map_replicate]at hv;rw[List.eq_of_mem_replicate hv];exact .inl rfl
theorem rl1{H0 H:Hp}{hs:Qm}{l t:AH}{d:pP}(s:aU H0 H)(nl:H0 l=none)(nt:H0 t=none)(h:H l=some (.lst [.ref t]))(o:H t=some (.tup (dV d)))(k:okR hs d):RL H0 H hs l 1:=⟨s,nl,_,h,Nat.le_refl _,λv hv=>by
 rw[List.mem_singleton.mp hv];exact .inr ⟨t,d,rfl,nt,o,k⟩⟩
theorem rl2{H0 H:Hp}{hs:Qm}{l t u:AH}{d e:pP}(s:aU H0 H)(nl:H0 l=none)(nt:H0 t=none)(b:H0 u=none)(h:H l=some (.lst [.ref t,.ref u]))(o:H t=some (.tup (dV d)))(k:okR hs d)(a:H u=some (.tup (dV e)))(c:okR hs e):RL H0 H hs l 2:=⟨s,nl,_,h,Nat.le_refl _,λv hv=>by
 rcases List.mem_cons.mp hv with rfl | hv
 ·exact .inr ⟨t,d,rfl,nt,o,k⟩
 ·rw[List.mem_singleton.mp hv];exact .inr ⟨u,e,rfl,b,a,c⟩⟩
theorem rl3{H0 H:Hp}{hs:Qm}{l t u w:AH}{d e f:pP}(s:aU H0 H)(nl:H0 l=none)(nt:H0 t=none)(b:H0 u=none)(nw:H0 w=none)(h:H l=some (.lst [.ref t,.ref u,.ref w]))(o:H t=some (.tup (dV d)))(k:okR hs d)(a:H u=some (.tup (dV e)))(c:okR hs e)(o2:H w=some (.tup (dV f)))(k2:okR hs f):RL H0 H hs l 3:=⟨s,nl,_,h,Nat.le_refl _,λv hv=>by
 rcases List.mem_cons.mp hv with rfl | hv
 ·exact .inr ⟨t,d,rfl,nt,o,k⟩
 ·rcases List.mem_cons.mp hv with rfl | hv
  ·exact .inr ⟨u,e,rfl,b,a,c⟩
  ·rw[List.mem_singleton.mp hv];exact .inr ⟨w,f,rfl,nw,o2,k2⟩⟩
def rY(K:aC):Sp:=λvs H Q E=>∃a k,vs=[.ref a,.int k]/\∃ns:AD,cB K H a (ns.map V.int)/\0<=k/\∀z:Int,Q (.int z) H
def jQ:Sp:=λvs H Q E=>∃c p m,vs=[.int c,.int p,.int m]/\0<p/\p<2 ^ 32/\0<m/\∀z:Int,0<=z->z<m->Q (.int z) H
def rW:Sp:=λvs H Q E=>∃c w,vs=[.int c,.int w]/\0<=w/\w<=1000/\∀z:Str,Q (.str z) H
def RP(K:aC):Sp:=λvs H Q E=>∃a,vs=[.ref a]/\∃ns:AD,cB K H a (ns.map V.int)/\∀l hs H',aU H H'->H l=none->HsO H' l hs->HsB hs->Q (.ref l) H'
def Zdn(K:aC):Sp:=λvs H Q E=>∃a,vs=[.ref a]/\∃ns:AD,cB K H a (ns.map V.int)/\∀z:Int,Q (.int z) H
def RN(X:Cs):Sp:=λvs H Q E=>∃c,vs=[.int c]/\∀ki lk w t H',0<=t->t<4->w=c % 3->aU H H'->H ki=none->H lk=none->KdO X H' ki lk w t->Q (.ref ki) H'
def RK:Sp:=λvs H Q E=>∃c h s,vs=[.int c,.int h,.int s]/\∃(hn sn:Nat),h=(hn:Int)/\s=(sn:Int)/\∀t many bulk H',aU H H'->H t=none->0<=many->many<=8->0<=bulk->H' t=some (.tup (dV (.make hn sn many bulk)))->Q (.ref t) H'
def RM:Sp:=λvs H Q E=>∃c,vs=[.int c]/\∀z:Int,Q (.int z) H
def mF:Sp:=λvs H Q E=>∃i,vs=[.int i]/\Q (.bl true) H
def yt(K:aC):Sp:=λvs H Q E=>∃a b,vs=[.ref a,.ref b]/\∃(z:Str) (i:Int) (l c:AH) (ns:AD),H a=some (.tup [.str z,.int i,.ref l])/\H b=some (.tup [.str z,.int i,.ref c])/\H l=some (.lst (ns.map V.int))/\H c=some (.lst (ns.map V.int))/\Q (.bl true) H
variable {K:aC}{X:Cs}{rf:Rf->AH}{H:Hp}{Q:VK}{E:XK}{n:ν}{bk ct:ν}
section
theorem Zdm{a:AH}{k:Int}(q:∃ns:AD,cB K H a (ns.map V.int)/\0<=k/\∀z:Int,Q (.int z) H):BW K ξ [↑a,some (.int k)] H:=by
 obtain⟨ns,b,c,h⟩:=q;unfold BW;apply jU b ?_;apply uE (λh1=>?_) (λh1=>?_)
 ·ext;rw[bB]at h1;have hk:k.toNat<ns.length:=δ
  exact jg b (qx c (by rw[cF,bK hk]<;>rfl)) (h _)
 ·apply h _
theorem Zdk{c p m:Int}(q:0<p/\p<2 ^ 32/\0<m/\∀z:Int,0<=z->z<m->Q (.int z) H):BR ξ [some (.int c),some (.int p),some (.int m)] H:=by
 obtain⟨a,d,b,q⟩:=q;have h1:=Int.emod_nonneg c (show p≠0 by omega);have h2:=Int.emod_lt_of_pos c a;unfold BR;apply q _ (Int.emod_nonneg _ δ) (Int.emod_lt_of_pos _ b)
theorem Zdb{c w:Int}(q:0<=w/\w<=1000/\∀z:Str,Q (.str z) H):Bu ξ [some (.int c),some (.int w),none,none,none,none,none] H:=by
 obtain⟨w0,t,q⟩:=q;have s:=Int.emod_nonneg c (show(12:Int)≠0 by decide);have k:=Int.emod_lt_of_pos c (show(0:Int)<12 by decide);obtain⟨sz,p⟩:=toN (x:=1+c % 12) δ;have hs:1<=sz/\sz<=12:=δ
 have a0:=Int.emod_nonneg (c / 12) (show(1+c % 12)≠0 by omega);have r:=Int.emod_lt_of_pos (c / 12) (show 0<1+c % 12 by omega);unfold Bu;ext;have d:=Int.emod_nonneg (c / 5) (show(26:Int)≠0 by decide);have f:=Int.emod_lt_of_pos (c / 5) (show(0:Int)<26 by decide);refine Zri ε d (by show c / 5 % 26<26;exact f) λl=>?_;ext;have h:=Int.emod_nonneg (c / 7+5 * w) (show(26:Int)≠0 by decide);have i:=Int.emod_lt_of_pos (c / 7+5 * w) (show(0:Int)<26 by decide);refine Zri ε h (by show(c / 7+5 * w) % 26<26;exact i) λe=>?_;apply Zre a0 δ (by rw[YB];decide) λt1 m a=>?_;have g:t1.length<=12:=by rw[a,S8,YB];omega
 apply Zrk (by rw[YB];exact aR δ) ?_;apply Zre δ δ (by rw[YB];decide) λt2 o b=>?_;have j:t2.length<=12:=by rw[b,S8,YB];omega
 apply Zrk (by rw[ZA1,YB];exact aR δ) ?_;exact q _
theorem XX{a:AH}(q:∃ns:AD,cB K H a (ns.map V.int)/\∀l hs H',aU H H'->H l=none->HsO H' l hs->HsB hs->Q (.ref l) H'):zj K (rY K) jQ rW ξ [↑a,none,none,none,none] H:=by
 obtain⟨ns,R,q⟩:=q;unfold zj;apply⟨a,1,rfl,ns,R,ε,λc=>?_⟩;apply⟨ε,λl nl=>?_⟩;generalize zz:upd H l _=H1;obtain⟨P,v⟩:=nwO nl zz;have v:H1 l=some (.lst (([]:AE).map V.ref)):=v;apply⟨_,_,_,rfl,ε,ε,ε,λz W z1=>?_⟩;exists _,rfl,δ,δ;refine forR (λk e d=>∃(ts:AE) (hs:Qm) (j g:Option V),e=[↑a,some (.int c),↑l,j,g]/\aU H d/\d l=some (.lst (ts.map V.ref))/\Al (λ(a:AH) (m:Str×Int)=>d a=some (.tup [.str m.1,.int m.2])) ts hs/\hs.length=k/\∀m∈hs,3<=m.2/\m.2<=9) ⟨[],[],_,_,rfl,P,v,.nil,rfl,λm hm=>(nomatch hm)⟩ ?_ ?_
 ·rintro k e d hk ⟨ts,hs,j,g,rfl,A,r,al,hl,hb⟩;have S:k<5:=δ
  have u:=al.length;have fin:∀{many:Int},3<=many->many<=9->∀(s:ν) (C:VK) (E I:ν),(∀ e H',(∃(ts:AE) (hs:Qm) (j g:Option V),e=[↑a,some (.int c),↑l,j,g]/\aU H H'/\H' l=some (.lst (ts.map V.ref))/\Al (λ(a:AH) (m:Str×Int)=>H' a=some (.tup [.str m.1,.int m.2])) ts hs/\hs.length=k+1/\∀m∈hs,3<=m.2/\m.2<=9)->s e H')->
    vm (tBM K "list" vB Δ (θ (gj (θ (aQ rW [] E0 (θ χ Ψ)) (ak 4))))) ⟨s,C,E,I⟩ [↑a,some (.int c),↑l,some (.int ((0:Int)+k)),some (.int many)] d:=by
   intro many N O s C E I L;exists .inl ⟨rfl,_,cB.of r⟩;apply⟨_,_,rfl,δ,δ,λwd=>?_⟩;apply⟨aR ζ,λt nt=>?_⟩;generalize zz:upd d t _=H3;obtain⟨w,M⟩:=nwO nt zz;have D:=w _ _ r;exists l,_,_,rfl,rfl,D,?_
   ·rw[bB];exact Nat.lt_of_le_of_lt (show _<=1000 by omega) ε
   rw[show ts.map V.ref++[V.ref t]=(ts++[t]).map V.ref from by rw[List.map_append];rfl];have F:∀b B,H3 b=some (.tup B)->upd H3 l (.lst ((ts++[t]).map V.ref)) b=some (.tup B):=λb B hb=>by
    rw[aD (qe hb D (λz=>by cases z))];exact hb
   apply L _ _ ⟨ts++[t],hs++[(wd,many)],_,_,rfl,λb o hb=>by rw[aD (aH hb nl)];exact w _ _ (A _ _ hb),aq,?_,by rw[List.length_append,hl];rfl,λm hm=>?_⟩
   ·refine Zgi (by rw[List.length_append,List.length_append,u];rfl) λi x y f p=>?_
    by_cases J:i<ts.length
    ·rw[List.getElem?_append_left J]at f;rw[List.getElem?_append_left δ]at p;obtain⟨T,e3,z⟩:=al.get p;rw[f]at e3;cases e3;exact F _ _ (w _ _ z)
    ·have h1:=(cZ f).1;rw[List.length_append,List.length_singleton]at h1;rw[List.getElem?_append_right δ]at f p;rw[show i - ts.length=0 by omega]at f;rw[show i - hs.length=0 by omega]at p;cases f;cases p;exact F _ _ M
   ·rcases List.mem_append.mp hm with hm | hm
    ·exact hb m hm
    ·rw[List.mem_singleton.mp hm];exact⟨N,O⟩
  apply uE (λ_=>?_) (λ_=>?_)
  ·apply⟨_,_,_,rfl,ε,ε,ε,λy U y1=>?_⟩;refine ZB7 ?_;refine Zva ?_;exact fin (many:=3+y) δ δ _ _ _ _ λe H' h=>h
  ·refine rN ?_;exact fin (many:=3) δ δ _ _ _ _ λe H' h=>h
 ·rintro e d ⟨ts,hs,j,g,rfl,A,r,al,hl,hb⟩;apply q l hs d A nl ⟨ts,r,al⟩ ⟨δ,δ,hb⟩
theorem Zdf{a:AH}(q:∃ns:AD,cB K H a (ns.map V.int)/\∀z:Int,Q (.int z) H):By (rY K) jQ ξ [↑a,none] H:=by
 obtain⟨ns,b,q⟩:=q;unfold By;apply⟨a,2,rfl,ns,b,ε,λc=>?_⟩;apply⟨_,_,_,rfl,ε,ε,ε,λz d z1=>?_⟩;apply uE (λ_=>?_) (λ_=>?_)
 ·apply q _
 ·apply q _
theorem Uz{C:AH}{w t:Int}{σ:St}{l:TE}(x:∀(a:Hp) (p:VK),p (.int t) a->l σ a p)(y:∀{a:Hp}{lk dl:AH},a lk=some (.ins C dl [])->(w=0/\a lk=some (.ins X.F dl []))\/(w=1/\a lk=some (.ins X.E dl []))\/(w=2/\a lk=some (.ins X.L dl [])))
  (q:∀ki lk H',aU H H'->H ki=none->H lk=none->KdO X H' ki lk w t->Q (.ref ki) H'):Dm X.K (uG X.K) [] E0 (θ (G.Ls C) l) σ H Q:=by
 ext;intro lk dl e g u;have f:aU H (upd (upd H dl (.own lk)) lk (.ins C dl [])):=λb o hb=>by rw[aD (aH hb e),aD (aH hb g)];exact hb
 have j:upd (upd H dl (.own lk)) lk (.ins C dl []) lk=some (.ins C dl []):=aq;generalize upd (upd H dl (.own lk)) lk (.ins C dl [])=a at f j ⊢;left;refine x a _ ?_;left;intro ki c d h s;have k:aU a (upd (upd a c (.own ki)) ki (.ins X.K c [])):=λb o hb=>by rw[aD (aH hb d),aD (aH hb h)];exact hb
 have m:upd (upd a c (.own ki)) ki (.ins X.K c []) ki=some (.ins X.K c []):=aq;generalize upd (upd a c (.own ki)) ki (.ins X.K c [])=A at k m ⊢;refine⟨ki,lk,t,rfl,c,m,λn z r=>⟨rfl,?_⟩⟩;have v:aU H n:=λb o hb=>r b o (k _ _ (f _ _ hb)) (aH (f _ _ hb) d);have i:lk≠ki:=aH j d;exact q ki lk n v (f.free d) e ⟨⟨c,z⟩,⟨dl,y (r _ _ (k _ _ j) i)⟩⟩
theorem Zdi{c:Int}(q:∀ki lk w t H',0<=t->t<4->w=c % 3->aU H H'->H ki=none->H lk=none->KdO X H' ki lk w t->Q (.ref ki) H'):BL X.E X.F X.K X.L (uG X.K) ξ [some (.int c)] H:=by
 have b:=Int.emod_nonneg (c / 3) (show(4:Int)≠0 by decide);have t1:=Int.emod_lt_of_pos (c / 3) (show(0:Int)<4 by decide);have w0:=Int.emod_nonneg c (show(3:Int)≠0 by decide);have g:=Int.emod_lt_of_pos c (show(0:Int)<3 by decide);unfold BL;apply uE (λz=>?_) (λz=>?_)
 ·refine U9 ?_;exact Uz (λd f h=>by apply h) (λe=>.inl ⟨rfl,e⟩) λki lk H' s n1 n2 a=>q ki lk 0 (c / 3 % 4) H' b t1 z.symm s n1 n2 a
 ·refine rN ?_;refine Kz ?_;left;refine uE (λy=>?_) (λy=>?_)
  ·refine U9 ?_;exact Uz (λd f h=>by apply h) (λe=>.inr (.inl ⟨rfl,e⟩)) λki lk H' s n1 n2 a=>q ki lk 1 (c / 3 % 4) H' b t1 y.symm s n1 n2 a
  ·refine rN ?_;refine U9 ?_;exact Uz (λd f h=>by apply h) (λe=>.inr (.inr ⟨rfl,e⟩)) λki lk H' s n1 n2 a=>q ki lk 2 (c / 3 % 4) H' b t1 δ s n1 n2 a
theorem ZAi{z:Int}(a:0<=z)(h1:z<6):∃m:Int,XM [V.int 1,.int 2,.int 2,.int 3,.int 0,.int 8] z=some (.int m)/\0<=m/\m<=8:=by
 have:z=0\/z=1\/z=2\/z=3\/z=4\/z=5:=δ
 rcases this with rfl | rfl | rfl | rfl | rfl | rfl
 ·exact⟨1,rfl,ε,ε⟩
 ·exact⟨2,rfl,ε,ε⟩
 ·exact⟨2,rfl,ε,ε⟩
 ·exact⟨3,rfl,ε,ε⟩
 ·exact⟨0,rfl,ε,ε⟩
 ·exact⟨8,rfl,ε,ε⟩
theorem Zdg{c h s:Int}(q:∃(hn sn:Nat),h=(hn:Int)/\s=(sn:Int)/\∀t many bulk H',aU H H'->H t=none->0<=many->many<=8->0<=bulk->H' t=some (.tup (dV (.make hn sn many bulk)))->Q (.ref t) H'):
  BJ K jQ ξ [some (.int c),some (.int h),some (.int s),none,none] H:=by
 obtain⟨hn,sn,rfl,rfl,q⟩:=q;have g:=Int.emod_nonneg c (show(7:Int)≠0 by decide);have o:(0:Int)<10 ^ Int.toNat 12+1:=ε
 have i:=Int.emod_nonneg c (show(10:Int) ^ Int.toNat 12+1≠0 by decide);unfold BJ;apply⟨aR ζ,λl nl=>?_⟩;generalize zz:upd H l _=H1;obtain⟨a,j⟩:=nwO nl zz;apply⟨_,_,_,rfl,ε,ε,ε,λz k z1=>?_⟩;obtain⟨m,f,d,e⟩:=ZAi k z1;apply jg (cB.of j) f ?_;have fin:∀{b:Int},0<=b->∀{v:Option V},(bG (gj (θ (tC (.str "make")) χ Δ Ψ (ak 4)))) ξ [some (.int c),some (.int hn),some (.int sn),some (.int m),some (.int b)] H1:=by
  intro b hb v;apply⟨aR ζ,λt nt=>?_⟩;exact q t m b _ (a.trans (aK nt _)) (a.free nt) d e hb aq
 apply uE (λy=>?_) (λy=>?_)
 ·apply uE (λx=>absurd (y.symm.trans x) ε) (λx=>?_);refine rN ?_;exact fin g (v:=none)
 ·apply uE (λx=>?_) (λx=>?_)
  ·left;exact⟨aR ζ,λt nt=>q t m _ _ (a.trans (aK nt _)) (a.free nt) d e i aq⟩
  ·refine rN ?_;exact fin (Int.le_refl _) (v:=none)
theorem Zdh{c:Int}(q:∀z:Int,Q (.int z) H):BK ξ [some (.int c),none] H:=by
 have a:(0:Int)<10 ^ Int.toNat 60:=ε
 unfold BK;apply uE (λ_=>?_) (λ_=>?_)
 ·apply q _
 ·apply q _
theorem Vu{i:Int}(q:Q (.bl true) H):wI ξ [some (.int i)] H:=by
 unfold wI;apply q
theorem X3{a b:AH}(q:∃(z:Str) (i:Int) (l d:AH) (ns:AD),H a=some (.tup [.str z,.int i,.ref l])/\H b=some (.tup [.str z,.int i,.ref d])/\H l=some (.lst (ns.map V.int))/\H d=some (.lst (ns.map V.int))/\Q (.bl true) H):
  zm K mF ξ [↑a,↑b,none] H:=by
 obtain⟨z,i,l,d,ns,c,ob,ol,h,q⟩:=q;unfold zm;apply KH c ?_;exists a,_,rfl,.inr (fY.of c);apply xN (λz=>absurd rfl z) (λ_=>?_);exists a,_,0,_,rfl,rfl,fY.of c,rfl;exists a,_,1,_,rfl,rfl,fY.of c,rfl;exists _,rfl;exists a,_,2,_,rfl,rfl,fY.of c,rfl;apply Qj ol ?_;exists a,_,2,_,rfl,rfl,fY.of c,rfl;refine⟨l,rfl,⟨_,cB.of ol⟩,forL (ns.map V.int) (λ_ g f=>∃v,g=[↑a,↑b,v]/\f=H) ⟨_,rfl,rfl⟩ (by rintro _ _ _ _ ⟨_,_,e⟩;rw[e];exact cB.of ol) ?_ ?_⟩
 ·rintro k x g f hk ⟨v,rfl,rfl⟩;obtain⟨y,_,rfl⟩:=List.mem_map.mp (List.mem_of_getElem? hk);exists _,rfl;apply⟨_,rfl,rfl⟩
 ·rintro g f ⟨v,rfl,rfl⟩;apply Zfx (.inr ⟨fY.of c,fY.of ob⟩) (.cons (.inl ⟨rfl,rfl⟩) (.cons (.inl ⟨rfl,rfl⟩) (.cons (.inr ⟨l,d,rfl,rfl,.inr ⟨_,_,.inl ⟨cB.of ol,cB.of h⟩,Gn (Oi _)⟩⟩) .nil))) ?_;exact q
end
def RT(K:aC):Sp:=λvs H Q E=>∃c l a,vs=[.int c,.ref l,.int a]/\∃hs,HsO H l hs/\HsB hs/\∀t d H',aU H H'->H t=none->H' t=some (.tup (dV d))->okR hs d->Q (.ref t) H'
def Gw(K:aC):Sp:=λvs H Q E=>∃c l a,vs=[.int c,.ref l,.int a]/\∃hs,HsO H l hs/\HsB hs/\∀r H',aU H H'->H r=none->RL H H' hs r 2->Q (.ref r) H'
def Lb(K:aC):Sp:=λvs H Q E=>∃l c a,vs=[.ref l,.int c,.int a]/\∃hs,HsO H l hs/\HsB hs/\∀r H',aU H H'->RL H H' hs r 200->Q (.ref r) H'
def RJ(K:aC):Sp:=λvs H Q E=>∃a l,vs=[.ref a,.ref l]/\∃ns:AD,∃hs,cB K H a (ns.map V.int)/\ns.length<=63/\HsO H l hs/\HsB hs/\∀r H',aU H H'->RL H H' hs r 700->Q (.ref r) H'
section
theorem f38{x:Int}(a:0<=x)(h1:x<2):∃m:Int,XM [V.int 3,.int 8] x=some (.int m)/\0<m:=by
 have:x=0\/x=1:=δ
 rcases this with rfl | rfl
 ·exact⟨3,rfl,ε⟩
 ·exact⟨8,rfl,ε⟩
theorem Zdl{c sd:Int}{l:AH}(q:∃hs,HsO H l hs/\HsB hs/\∀t d H',aU H H'->H t=none->H' t=some (.tup (dV d))->okR hs d->Q (.ref t) H'):
  BV K jQ RM RK rW ξ [some (.int c),↑l,some (.int sd),none,none,none,none,none,none,none] H:=by
 obtain⟨hs,ho,hb,q⟩:=q;have n1:=hb.n1;have J:∀{H':Hp}{ts:AE},HsO H' l hs->H' l=some (.lst (ts.map V.ref))->ts.length=hs.length:=λ{H' ts} h e=>by
  obtain⟨ts',h1,h2⟩:=h;rw[h1]at e;have:=congrArg (λo=>match o with | some (HO.lst S)=>S.length | _=>0) e;simp only[bB]at this;rw[<- this];exact h2.length
 obtain⟨ts,ol,al⟩:=id ho;have p:=al.length;unfold BV;apply jU (cB.of ol) ?_;rw[bB,p];apply⟨_,_,_,rfl,ε,ε,δ,λzh Y h1=>?_⟩;obtain⟨h,rfl⟩:=toN Y;have hh:h<hs.length:=δ
 obtain⟨m,hm⟩:∃m,hs[h]? =some m:=⟨_,bK hh⟩;have mb:=hb.sb m (List.mem_of_getElem? hm);obtain⟨z,B,k⟩:=al.get hm;have j:XM (ts.map V.ref) (h:Int)=↑z:=jO (by rw[cF,B];rfl);apply jg (cB.of ol) j ?_;refine⟨z,_,1,_,rfl,rfl,fY.of k,rfl,?_⟩;apply⟨_,_,_,rfl,ε,ε,δ,λzs s0 O=>?_⟩;obtain⟨s,rfl⟩:=toN s0;apply jg (cB.of ol) j ?_;refine⟨z,_,1,_,rfl,rfl,fY.of k,rfl,?_⟩;apply⟨_,_,_,rfl,ε,ε,δ,λzt t0 t1=>?_⟩;obtain⟨t,rfl⟩:=toN t0;apply⟨aR ζ,λT F=>?_⟩;generalize zz:upd H T _=H2;obtain⟨i,g2⟩:=nwO F zz;ext;obtain⟨mf,E,A⟩:=f38 (x:=c % 5 / 4) δ δ;refine jg (cB.of g2) E ?_;apply⟨_,_,_,rfl,ε,ε,A,λzf X _=>?_⟩;obtain⟨f,rfl⟩:=toN X;apply⟨_,_,_,rfl,ε,ε,ε,λw w0 w1=>?_⟩;have os:Ud hs h s:=⟨m,hm,O⟩;have r:Ud hs h t:=⟨m,hm,t1⟩;have tup:∀(d:pP),okR hs d->∀tp,H2 tp=none->Q (.ref tp) (upd H2 tp (.tup (dV d))):=λd ok tp a=>q tp d _ (i.trans (aK a _)) (i.free a) aq ok;apply uE (λ_=>?_) (λw5=>?_)
 ·apply⟨_,_,_,rfl,h,s,rfl,rfl,λtp I bulk H' sm a N R b0 o=>q tp _ H' (i.trans sm) (i.free a) o ⟨os,N,R,b0⟩⟩
 apply uE (λ_=>?_) (λw8=>?_)
 ·apply⟨aR ζ,λtp a=>tup (.get h s t f) ⟨os,r⟩ tp a⟩
 apply uE (λ_=>?_) (λP=>?_)
 ·apply⟨aR ζ,λtp a=>tup (.put h t f s) ⟨r,os⟩ tp a⟩
 apply uE (λ_=>?_) (λM=>?_)
 ·apply⟨aR ζ,λtp a=>tup (.copy h s t) ⟨os,r⟩ tp a⟩
 apply uE (λ_=>?_) (λw12=>?_)
 ·apply⟨aR ζ,λtp a=>tup (.drop h s) os tp a⟩
 apply uE (λ_=>?_) (λw15=>?_)
 ·have y:=i _ _ ol;apply jU (cB.of y) ?_;rw[bB,p];apply⟨_,_,_,rfl,ε,ε,δ,λzg L g1=>?_⟩;obtain⟨g,rfl⟩:=toN L;have U:g<hs.length:=δ
  obtain⟨mg,b⟩:∃m,hs[g]? =some m:=⟨_,bK U⟩;have mgb:=hb.sb mg (List.mem_of_getElem? b);obtain⟨tg,C,D⟩:=al.get b;apply jg (cB.of y) (jO (v:=.ref tg) (by rw[cF,C];rfl)) ?_;refine⟨tg,_,1,_,rfl,rfl,fY.of (i _ _ D),rfl,?_⟩;apply⟨_,_,_,rfl,ε,ε,δ,λzu u0 Z=>?_⟩;obtain⟨u,rfl⟩:=toN u0;apply⟨aR ζ,λtp a=>tup (.give h s g u) ⟨os,mg,b,Z⟩ tp a⟩
 apply uE (λ_=>?_) (λW=>?_)
 ·apply⟨_,rfl,λld=>?_⟩;apply⟨aR ζ,λtp a=>tup (.write h t ld) r tp a⟩
 apply⟨_,_,_,rfl,ε,ε,ε,λzw a0 a1=>?_⟩;apply⟨_,_,rfl,a0,δ,λwd=>?_⟩;apply uE (λ_=>?_) (λw18=>?_)
 ·apply⟨aR ζ,λtp a=>tup (.name h t wd) r tp a⟩
 apply⟨aR ζ,λtp a=>tup (.seek h s wd) os tp a⟩
def dW:pP->Str
 | .make .. =>"make"
 | .get .. =>"get"
 | .put .. =>"put"
 | .copy .. =>"copy"
 | .drop .. =>"drop"
 | .give .. =>"give"
 | .write .. =>"write"
 | .read .. =>"read"
 | .name .. =>"name"
 | .seek .. =>"seek"
theorem dV0(d:pP):∃r,dV d=.str (dW d)::r:=by cases d<;>exact⟨_,rfl⟩
theorem Zzc{d:pP}(h:dW d="put"):∃h t f s,d=.put h t f s:=by
 cases d<;>first | exact⟨_,_,_,_,rfl⟩ | exact absurd h (by simp only[dW];decide)
theorem Zzd{d:pP}(h:dW d="get"):∃h s t f,d=.get h s t f:=by
 cases d<;>first | exact⟨_,_,_,_,rfl⟩ | exact absurd h (by simp only[dW];decide)
theorem X5{c y:Int}{l:AH}(q:∃hs,HsO H l hs/\HsB hs/\∀r H',aU H H'->H r=none->RL H H' hs r 2->Q (.ref r) H'):
  zq K (RT K) jQ ξ [some (.int c),↑l,some (.int y),none] H:=by
 obtain⟨hs,C,hb,q⟩:=q;unfold zq;apply⟨_,_,_,rfl,hs,C,hb,λt d A b nt k ok=>?_⟩;obtain⟨E,B⟩:=dV0 d;have w:XM (dV d) 0=some (.str (dW d)):=by rw[B];exact jO (j:=0) rfl
 have one:bG (fO (θ Ψ)) ξ [some (.int c),↑l,some (.int y),↑t] A:=by
  apply⟨aR ζ,λr g=>?_⟩;have a:=aK g (.lst [.ref t]);exact q r _ (b.trans a) (b.free g) ((rl1 (d:=d) (b.trans a) (b.free g) nt aq (a _ _ k) ok).mono ε)
 have p:(aN (dD ((R4 (bI (bx (xV) (bx (eE K) Ψ υ) (tC (.str "get")))) (bI (bx (xV) (bx ρ (bx (rI Pb λi j=>.int (i / j)) π (tC (.int 5))) (tC (.int 2))) υ)))) (bG (fO (θ Ψ (gj (θ (tC (.str "put")) (bx (eE K) Ψ τ) (bx (eE K) Ψ (tC (.int 3))) (bx (eE K) Ψ (tC (.int 4))) (aQ jQ [] E0 (θ π (tC (.int 1159523)) (tC (.int 3))))))))) bQ)
   (bG (fO (θ Ψ)))) ξ [some (.int c),↑l,some (.int y),↑t] A:=by
  exists t,_,0,_,rfl,rfl,fY.of k,w;apply uE (λhp=>?_) (λ_=>?_)
  ·obtain⟨h,s,v,f,rfl⟩:=Zzd hp;obtain⟨o1,o2⟩:=ok;apply uE (λ_=>?_) (λ_=>?_)
   ·exists t,_,1,_,rfl,rfl,fY.of k,rfl;exists t,_,3,_,rfl,rfl,fY.of k,rfl;exists t,_,4,_,rfl,rfl,fY.of k,rfl;apply⟨_,_,_,rfl,ε,ε,ε,λz D z1=>?_⟩;obtain⟨sl,rfl⟩:=toN D;apply⟨aR ζ,λu x=>⟨aR ζ,λr g=>?_⟩⟩;have a:=aK x (.tup (dV (.put h v f sl)));have o:=aK g (.lst [.ref t,.ref u]);have hh:h<hs.length:=by obtain⟨m,hm,_⟩:=o1;exact(cZ hm).1
    exact q r _ (b.trans (a.trans o)) (b.free (a.free g)) (rl2 (d:=.get h s v f) (e:=.put h v f sl) (b.trans (a.trans o)) (b.free (a.free g)) nt (b.free x) aq (o _ _ (a _ _ k)) ⟨o1,o2⟩ (o _ _ aq) ⟨o2,hb.ok hh δ⟩)
   ·exact one
  ·exact one
 exists t,_,0,_,rfl,rfl,fY.of k,w;apply uE (λhp=>?_) (λ_=>?_)
 ·obtain⟨h,v,f,s,rfl⟩:=Zzc hp;obtain⟨o1,o2⟩:=ok;apply uE (λ_=>?_) (λ_=>?_)
  ·exists t,_,1,_,rfl,rfl,fY.of k,rfl;exists t,_,4,_,rfl,rfl,fY.of k,rfl;apply⟨aR ζ,λu x=>⟨aR ζ,λr g=>?_⟩⟩;have a:=aK x (.tup (dV (.drop h s)));have o:=aK g (.lst [.ref t,.ref u]);exact q r _ (b.trans (a.trans o)) (b.free (a.free g)) (rl2 (d:=.put h v f s) (e:=.drop h s) (b.trans (a.trans o)) (b.free (a.free g)) nt (b.free x) aq (o _ _ (a _ _ k)) ⟨o1,o2⟩ (o _ _ aq) o2)
  ·exact p
 ·exact p
end
section
def Zof(σ:St)(e:TE)(d:pP):Prop:=∀(b:Hp) (c:VK),(∀t a,aU b a->b t=none->a t=some (.tup (dV d))->c (.ref t) a)->e σ b c
theorem ZJ{σ:St}{c:TE}{d:pP}(h:∀(a:Hp) (b:VK),(∀t,a t=none->b (.ref t) (upd a t (.tup (dV d))))->c σ a b):Zof σ c d:=λa b k=>h a b λt nt=>k t _ (aK nt _) nt aq
theorem Zh0{H0:Hp}{hs:Qm}{d e:pP}{h i:TE}{σ:St}(a:aU H0 H)(r:Zof σ h d)(hb:Zof σ i e)(n:okR hs d)(o:okR hs e)(k:∀l H',aU H H'->RL H0 H' hs l 2->Q (.ref l) H'):fO (θ h i) σ H Q:=by
 left;refine r H _ λt m b nt q=>?_;left;refine hb m _ λu s f p j=>?_;left;refine⟨aR ζ,λl nl=>?_⟩;have c:=aK nl (.lst [.ref t,.ref u]);have g:=a.trans (b.trans (f.trans c));exact k l _ (b.trans (f.trans c)) (rl2 g (a.free (b.free (f.free nl))) (a.free nt) (a.free (b.free p)) aq (c _ _ (f _ _ q)) n (c _ _ j) o)
theorem Zoq{H0:Hp}{hs:Qm}{d e f:pP}{j m tc:TE}{σ:St}(a:aU H0 H)(y:Zof σ j d)(hb:Zof σ m e)(hc:Zof σ tc f)(r:okR hs d)(s:okR hs e)(q:okR hs f)(k:∀l H',aU H H'->RL H0 H' hs l 3->Q (.ref l) H'):fO (θ j m tc) σ H Q:=by
 left;refine y H _ λt p b nt x=>?_;left;refine hb p _ λu n h v o=>?_;left;refine hc n _ λw z c nw ow=>?_;left;refine⟨aR ζ,λl nl=>?_⟩;have g:=aK nl (.lst [.ref t,.ref u,.ref w]);have i:=a.trans (b.trans (h.trans (c.trans g)));exact k l _ (b.trans (h.trans (c.trans g))) (rl3 i (a.free (b.free (h.free (c.free nl)))) (a.free nt) (a.free (b.free v)) (a.free (b.free (h.free nw))) aq (g _ _ (c _ _ (h _ _ x))) r (g _ _ (c _ _ o)) s (g _ _ ow) q)
theorem XR{l:AH}{c O:Int}(q:∃hs,HsO H l hs/\HsB hs/\∀r H',aU H H'->RL H H' hs r 200->Q (.ref r) H'):
  za K jQ rW ξ [↑l,some (.int c),some (.int O),none,none,none] H:=by
 obtain⟨hs,ho,hb,q⟩:=q;obtain⟨ts,ol,al⟩:=id ho;have U:=al.length;have n5:=hb.n5;unfold za;apply⟨ε,λr0 nr0=>?_⟩;have s1:=aK nr0 (.lst []);have g1:RL H (upd H r0 (.lst [])) hs r0 0:=⟨s1,nr0,[],aq,Nat.le_refl _,λv hv=>(nomatch hv)⟩;generalize upd H r0 (.lst [])=J at s1 g1 ⊢;apply jU (cB.of (s1 _ _ ol)) ?_;rw[bB,U];exists _,rfl,δ,δ;refine forR (λk B a=>∃r o,B=[↑l,some (.int c),some (.int O),↑r,o,none]/\aU H a/\RL H a hs r (4 * k)) ⟨r0,_,rfl,s1,g1⟩ ?_ ?_
 ·rintro k B a hk ⟨r,o,rfl,C,L⟩;have F:k<hs.length:=δ
  rw[Int.zero_add];obtain⟨f,ef⟩:=toN (x:=(k:Int) % 2) δ;have R:Ud hs k 0:=hb.ok F ε;have o1:Ud hs k 1:=hb.ok F ε;refine Zva ?_;refine Kz ?_;refine Va ?_;refine Zjm ?_;refine Zjl ?_;refine Zh0 (H0:=H) C (d:=.make k 0 2 0) (e:=.make k 1 1 0) (ZJ λJ T h=>by apply⟨aR ζ,h⟩) (ZJ λJ T h=>by apply⟨aR ζ,h⟩) ⟨R,ε,ε,ε⟩ ⟨o1,ε,ε,ε⟩ λY H2 sm2 rl2=>?_;refine zX (L.same sm2) rl2 δ λr3 b sm3 _ rl3=>?_;refine Zfw ?_;refine Va ?_;refine Zjm ?_;refine Zjl ?_;refine Zh0 (H0:=H) rl3.s (d:=.put k 0 f 1) (e:=.drop k 1) (ZJ λJ T h=>by ext;rw[ef];exact⟨aR ζ,h⟩) (ZJ λJ T h=>by apply⟨aR ζ,h⟩) ⟨R,o1⟩ o1 λl4 S Z A=>?_;refine zX (rl3.same Z) A δ λr5 X sm5 _ P=>?_;refine Zfw ?_;exact⟨r5,_,rfl,C.trans (sm2.trans (sm3.trans (Z.trans sm5))),P.mono δ⟩
 ·rintro B a ⟨r,o,rfl,C,L⟩;have L:=L.mono (N':=20) δ;apply⟨_,_,_,rfl,ε,ε,ε,λw w0 w1=>?_⟩;have rest:∀{I:AH}{b:Hp}{o:Option V},aU H b->RL H b hs I 30->(aN (bF (bx (wK) Ψ (bx (Zei) (fO (θ (tC .non))) (bx ad τ (aQ jQ [] E0 (θ χ (tC (.int 882377)) (tC (.int 4))))))) (aO 3))
   (qG K rW)) ξ [↑l,some (.int c),some (.int O),↑I,o,some (.int w)] b:=by
   intro I b o m rl1;apply⟨ε,λl0 nl0=>?_⟩;generalize zz:upd b l0 _=S;obtain⟨g,g4⟩:=nwO nl0 zz;have A:=rl1.same g;apply⟨_,_,_,rfl,ε,ε,ε,λz z0 z1=>?_⟩;apply Ui (H0:=H) (hs:=hs) A.s g4 δ δ λl5 X D _ P=>?_;refine zX (A.same D) (P.mono (N':=4) δ) ε λr6 H6 W _ rl6=>?_;have s06:=m.trans (g.trans (D.trans W));refine Zfw ?_;unfold qG;apply jU (cB.of (s06 _ _ ol)) ?_;rw[bB,U];exists _,rfl,δ,δ;refine forR (λk B a=>∃r o,B=[↑l,some (.int c),some (.int O),↑r,o,some (.int w)]/\aU H a/\RL H a hs r (34+7 * k)) ⟨r6,_,rfl,s06,rl6⟩ ?_ ?_
   ·rintro k B a hk ⟨r,o,rfl,C,L⟩;have F:k<hs.length:=δ
    rw[Int.zero_add];obtain⟨f,ef⟩:=toN (x:=(k:Int) % 2) δ;have R:Ud hs k 0:=hb.ok F ε;have o1:Ud hs k 1:=hb.ok F ε;have o2:Ud hs k 2:=hb.ok F ε;refine Zva ?_;refine Kz ?_;have M:∀{I:AH}{b:Hp},aU H b->RL H b hs I (34+7 * k+5)->(dD (bI (bx (xV) (ak 5) (tC (.int 3)))) (bF (bx (wK) Ψ (fO (θ (gj (θ (tC (.str "name")) (ak 4) υ (aQ rW [] E0 (θ Δ (bx ρ (ak 4) (tC (.int 2))))))) (gj (θ (tC (.str "drop")) (ak 4) υ))))) (aO 3)) bQ) ⟨λB a=>∃r o,B=[↑l,some (.int c),some (.int O),↑r,o,some (.int w)]/\aU H a/\RL H a hs r (34+7 * (k+1)),Q,bG Ψ ⟨n,Q,bk,ct⟩,λB a=>∃r o,B=[↑l,some (.int c),some (.int O),↑r,o,some (.int w)]/\aU H a/\RL H a hs r (34+7 * (k+1))⟩ [↑l,some (.int c),some (.int O),↑I,some (.int k),some (.int w)] b:=by
     intro I b m rl3;apply uE (λ_=>?_) (λ_=>?_)
     ·refine Va ?_;refine Zjm ?_;refine Zjl ?_;left;refine⟨_,_,rfl,δ,δ,λwd=>?_⟩;left;refine⟨aR ζ,λt nt=>?_⟩;have g:=aK nt (.tup (dV (.name k 0 wd)));have g4:upd b t (.tup (dV (.name k 0 wd))) t=some (.tup (dV (.name k 0 wd))):=aq;show aj _ _ _ (upd b t (.tup (dV (.name k 0 wd)))) _;generalize upd b t (.tup (dV (.name k 0 wd)))=S at g g4 ⊢;left;refine⟨aR ζ,λu nu=>⟨aR ζ,λY N=>?_⟩⟩;have D:=aK nu (.tup (dV (.drop k 0)));have g5:upd S u (.tup (dV (.drop k 0))) u=some (.tup (dV (.drop k 0))):=aq;show wK _ _ (upd (upd S u (.tup (dV (.drop k 0)))) Y _) _;have N:upd S u (.tup (dV (.drop k 0))) Y=none:=N;generalize upd S u (.tup (dV (.drop k 0)))=X at D g5 N ⊢;have W:=aK N (.lst [.ref t,.ref u]);have r6:RL H (upd X Y (.lst [.ref t,.ref u])) hs Y 2:=rl2 (d:=.name k 0 wd) (e:=.drop k 0) (m.trans (g.trans (D.trans W))) (m.free (g.free (D.free N))) (m.free nt) (m.free (g.free nu)) aq (W _ _ (D _ _ g4)) R (W _ _ g5) R;have s36:=g.trans (D.trans W);refine zX (rl3.same s36) r6 δ λr7 H7 s7 _ rl7=>?_;refine Zfw ?_;exact⟨r7,_,rfl,m.trans (s36.trans s7),rl7.mono δ⟩
     ·refine rN ?_;exact⟨I,_,rfl,m,rl3.mono δ⟩
    have E:∀{I:AH}{b:Hp},aU H b->RL H b hs I (34+7 * k+2)->(aN (dD (bI (bx (pU λi j=>.bl (decide (j<i))) (ak 5) τ)) (bF (bx (wK) Ψ (fO (θ (gj (θ (tC (.str "make")) (ak 4) υ τ υ)) (gj (θ (tC (.str "put")) (ak 4) υ υ τ)) (gj (θ (tC (.str "drop")) (ak 4) τ))))) (aO 3)) bQ)
     (dD (bI (bx (xV) (ak 5) (tC (.int 3)))) (bF (bx (wK) Ψ (fO (θ (gj (θ (tC (.str "name")) (ak 4) υ (aQ rW [] E0 (θ Δ (bx ρ (ak 4) (tC (.int 2))))))) (gj (θ (tC (.str "drop")) (ak 4) υ))))) (aO 3)) bQ)) ⟨λB a=>∃r o,B=[↑l,some (.int c),some (.int O),↑r,o,some (.int w)]/\aU H a/\RL H a hs r (34+7 * (k+1)),Q,bG Ψ ⟨n,Q,bk,ct⟩,λB a=>∃r o,B=[↑l,some (.int c),some (.int O),↑r,o,some (.int w)]/\aU H a/\RL H a hs r (34+7 * (k+1))⟩ [↑l,some (.int c),some (.int O),↑I,some (.int k),some (.int w)] b:=by
     intro I b m rl3;refine Kz ?_;left;refine uE (λ_=>?_) (λ_=>?_)
     ·refine Va ?_;refine Zjm ?_;refine Zjl ?_;refine Zoq (H0:=H) m (d:=.make k 0 1 0) (e:=.put k 0 0 1) (f:=.drop k 1) (ZJ λJ T h=>by apply⟨aR ζ,h⟩) (ZJ λJ T h=>by apply⟨aR ζ,h⟩) (ZJ λJ T h=>by apply⟨aR ζ,h⟩) ⟨R,ε,ε,ε⟩ ⟨R,o1⟩ o1 λl4 S g A=>?_;refine zX (rl3.same g) A δ λr5 X D _ P=>?_;refine Zfw ?_;exact M (m.trans (g.trans D)) (P.mono δ)
     ·refine rN ?_;exact M m (rl3.mono δ)
    left;refine uE (λ_=>?_) (λ_=>?_)
    ·refine Va ?_;refine Zjm ?_;refine Zjl ?_;refine Zh0 (H0:=H) C (d:=.get k 1 0 f) (e:=.put k 0 f 2) (ZJ λJ T h=>by ext;rw[ef];exact⟨aR ζ,h⟩) (ZJ λJ T h=>by ext;rw[ef];exact⟨aR ζ,h⟩) ⟨o1,R⟩ ⟨R,o2⟩ λl4 S g A=>?_;refine zX (L.same g) A δ λr5 X D _ P=>?_;refine Zfw ?_;exact E (C.trans (g.trans D)) (P.mono δ)
    ·refine rN ?_;exact E C (L.mono δ)
   ·rintro B a ⟨r,o,rfl,C,L⟩;apply q r a C (L.mono δ)
  apply uE (λ_=>?_) (λ_=>?_)
  ·refine Va ?_;refine Zjm ?_;refine Zjl ?_;refine KD ?_;left;refine jU (cB.of (C _ _ ol)) ?_;rw[bB,U];left;refine⟨_,rfl,δ,δ,?_⟩;refine Zuo (n:=hs.length) rfl δ (λi y a=>∃t,y=.ref t/\H t=none/\a t=some (.tup (dV (.make i 1 0 0)))) (by rintro i y J H2 ⟨t,e,f,z⟩ s;exact⟨t,e,f,s _ _ z⟩) (λi J q hq=>Gh hq) (λi J hi m q hq=>?_) ?_
   ·walk_at"c";apply⟨aR ζ,λt nt=>hq _ _ (aK nt _) ⟨t,rfl,C.free (m.free nt),aq⟩⟩
   ·intro ys b m ly hy p np;have g:=aK np (.lst ys);have r4:RL H (upd b p (.lst ys)) hs p 5:=⟨C.trans (m.trans g),C.free (m.free np),ys,aq,δ,λv hv=>by
     obtain⟨i,hi,e⟩:=List.getElem_of_mem hv;obtain⟨t,e2,fz,z⟩:=hy i v (by rw[bK hi,e]);exact .inr ⟨t,_,e2,fz,g _ _ z,hb.ok δ ε,ε,ε,ε⟩⟩
    refine zX (L.same (m.trans g)) r4 ε λr5 X D _ P=>?_;refine Zfw ?_;exact rest (C.trans (m.trans (g.trans D))) (P.mono ε)
  ·refine rN ?_;exact rest C (L.mono ε)
theorem Zde{a l:AH}(q:∃ns:AD,∃hs,cB K H a (ns.map V.int)/\ns.length<=63/\HsO H l hs/\HsB hs/\∀r H',aU H H'->RL H H' hs r 700->Q (.ref r) H'):
  Bx K (rY K) (Gw K) jQ (Lb K) ξ [↑a,↑l,none,none,none,none,none] H:=by
 obtain⟨ns,hs,C,hlen,ho,hb,q⟩:=q;unfold Bx;apply⟨ε,λT F=>?_⟩;have f:=aK F (.lst []);have g1:RL H (upd H T (.lst [])) hs T 200:=⟨f,F,[],aq,Nat.zero_le _,λv hv=>(nomatch hv)⟩;generalize upd H T (.lst [])=H1 at f g1 ⊢;have rest:∀{I:AH}{k:Hp},aU H k->RL H k hs I 200->(q8 K (rY K) (Gw K) jQ) ξ [↑a,↑l,↑I,none,none,none,none] k:=by
  intro I k o rl2;unfold q8;apply⟨a,2,rfl,ns,o.seq C,ε,λsd=>?_⟩;apply⟨a,_,rfl,o.seq C,λB R=>?_⟩;have L:∃J:AD,Rh (ns.map V.int) (some 3) (some 63)=J.map V.int/\J.length<=63:=by
   refine⟨(ns.drop (HT.qU ns.length 0 (some 3))).take (HT.qU ns.length ns.length (some 63) - HT.qU ns.length 0 (some 3)),?_,?_⟩
   ·unfold Rh;rw[List.map_take,List.map_drop,bB]
   ·rw[List.length_take,List.length_drop];omega
  obtain⟨J,ez,lz⟩:=L;rw[ez];generalize zz:upd k B _=H3;obtain⟨W,g3⟩:=nwO R zz;refine⟨B,rfl,⟨_,cB.of g3⟩,forL (J.map V.int) (λi P m=>∃r M O,P=[↑a,↑l,↑r,some (.int sd),some (.int i),M,O]/\aU H3 m/\RL H m hs r (200+6 * i)) ⟨I,_,_,rfl,aU.refl _,rl2.same W⟩ (by rintro _ _ _ _ ⟨_,_,_,_,z,_⟩;exact cB.of (z _ _ g3)) ?_ ?_⟩
  ·rintro i x P m Y ⟨r,M,O,rfl,t,D⟩;have X:=(cZ Y).1;rw[bB]at X;obtain⟨c,hc,rfl⟩:=List.mem_map.mp (List.mem_of_getElem? Y);have hii:(i:Int) * i<=3969:=by
    have:=Nat.mul_le_mul (show i<=63 by omega) (show i<=63 by omega);have e:((i * i:Nat):Int)=(i:Int) * i:=by push_cast;rfl
    omega
   have hi0:0<=(i:Int) * i:=Int.mul_nonneg δ δ;have A:=o.trans (W.trans t);ext;generalize c+(i:Int) * i * 1000003=z;refine⟨_,_,_,rfl,ε,ε,ε,λy y0 y1=>?_⟩;apply uE (λ_=>?_) (λ_=>?_)
   ·apply⟨ε,λU h=>?_⟩;generalize zz:upd m U _=Z;obtain⟨g,S⟩:=nwO h zz;have d:=D.same g;apply⟨_,_,_,rfl,ε,ε,ε,λw w0 w1=>?_⟩;apply Ui (H0:=H) (hs:=hs) d.s S δ δ λl6 H6 u _ j=>?_;refine zX (d.same u) (j.mono (N':=6) δ) δ λp N E _ b=>?_;apply Zrl rfl ?_;exact⟨p,_,_,by rw[show((i+1:Nat):Int)=(i:Int)+1 from by push_cast;rfl];rfl,t.trans (g.trans (u.trans E)),b.mono δ⟩
   ·apply⟨_,_,_,rfl,hs,ho.same A,hb,λr5 Z g _ d=>?_⟩;have d:=d.base A;refine zX (D.same g) d δ λp N E _ b=>?_;apply Zrl rfl ?_;exact⟨p,_,_,by rw[show((i+1:Nat):Int)=(i:Int)+1 from by push_cast;rfl];rfl,t.trans (g.trans E),b.mono δ⟩
  ·rintro P m ⟨r,M,O,rfl,t,D⟩;rw[bB]at D;apply⟨ε,λU h=>?_⟩;generalize zz:upd m U _=Z;obtain⟨g,S⟩:=nwO h zz;have d:=D.same g;apply⟨_,_,_,rfl,ε,ε,ε,λw w0 w1=>?_⟩;apply Ui (H0:=H) (hs:=hs) d.s S δ δ λl6 H6 u _ j=>?_;refine zX (d.same u) (j.mono (N':=24) δ) δ λp N E _ b=>?_;exact q p N (o.trans (W.trans (t.trans (g.trans (u.trans E))))) (b.mono δ)
 apply⟨a,0,rfl,ns,f.seq C,ε,λc0=>?_⟩;apply⟨_,_,_,rfl,ε,ε,ε,λz z0 z1=>?_⟩;apply uE (λ_=>?_) (λ_=>?_)
 ·apply⟨a,0,rfl,ns,f.seq C,ε,λc1=>?_⟩;apply⟨a,2,rfl,ns,f.seq C,ε,λc2=>?_⟩;apply⟨_,_,_,rfl,hs,ho.same f,hb,λr k o rl2=>?_⟩;refine Zyo ?_;exact rest (f.trans o) (rl2.base f)
 ·refine rN ?_;exact rest f g1
end
def Zzq(M:Wm):Prop:=M.sw.phase="walk"->M.sw.grey.Nodup/\∀x∈M.sw.grey,∃c,cellAt M x=some c/\c.tone=M.sw.sense
structure KW(M:Wm)(hs:Qm)(k:Nat):Prop where
 hl:M.hands.length=hs.length
 hn:∀(i:Nat) m n,M.hands[i]? =some m->hs[i]? =some n->m.2.length=n.2.toNat
 cl:M.cells.length<=k
 nl:M.names.length<=k
 fl:∀c,some c∈M.cells->c.fl.length<=8
 gr:Zzq M
 ph:M.sw.phase="rest"\/M.sw.phase="walk"\/M.sw.phase="give"\/M.sw.phase="lost"
 a0:0<=M.sw.at'
 tl:0<=M.tells/\M.tells<4
section
variable {M:Wm}{hs:Qm}{k:Nat}
theorem Zf4:∀(n:Nat) (l:AD),l.Nodup->(∀x∈l,0<=x/\x<n)->l.length<=n
 | 0,l,_,h=>by
  cases l with
  | nil=>exact Nat.le_refl _
  | cons x l=>have:=h x ζ;omega
 | n+1,l,nd,h=>by
  have h1:(l.erase (n:Int)).length<=n:=Zf4 n _ (nd.erase _) λx hx=>by
   have h2:=h x (List.mem_of_mem_erase hx);have h3:x≠(n:Int):=((nd.mem_erase_iff).mp hx).1
   push_cast at h2
   omega
  have h4:=List.length_erase (a:=(n:Int)) (l:=l);split at h4<;>omega
theorem Zv{x:Int}{c:Ce}(h:cellAt M x=some c):0<=x/\x<M.cells.length:=by
 obtain⟨a,h1⟩:=cj.mp h;have:=(cZ h1).1;omega
theorem KW.ok(p:KW M hs k)(hb:HsB hs)(hk:k<=900):Dv M:=by
 have d:=p.cl;have f:=p.nl;refine⟨δ,λm hm=>?_,λc hc=>by have:=p.fl c hc;omega,δ,λph=>?_,λph x hx=>?_,p.ph,p.a0⟩
 ·obtain⟨i,b,e⟩:=List.getElem_of_mem hm;have a:i<hs.length:=by rw[<- p.hl];exact b
  have h1:=p.hn i m _ (by rw[bK b,e]) (bK a);have h2:=hb.sb _ (List.getElem_mem a);omega
 ·obtain⟨nd,h1⟩:=p.gr ph;refine Nat.le_trans (Zf4 M.cells.length _ nd λx hx=>?_) δ;obtain⟨c,hc,_⟩:=h1 x hx;exact Zv hc
 ·obtain⟨c,hc,_⟩:=(p.gr ph).2 x hx;exact⟨c,hc⟩
theorem KW.Dz(p:KW M hs k){h s:Nat}(o:Ud hs h s):Dz M h s:=by
 obtain⟨m,hm,a⟩:=o;have hh:h<M.hands.length:=by rw[p.hl];exact(cZ hm).1
 refine⟨_,bK hh,?_⟩;have:=p.hn h _ m (bK hh) hm;omega
theorem KW.okD(p:KW M hs k){d:pP}(o:okR hs d):okD M d:=by
 cases d with
 | make h s a bulk=>exact⟨p.Dz o.1,o.2.1,by have:=o.2.2.1;omega,o.2.2.2⟩
 | get h s t f=>exact⟨p.Dz o.1,p.Dz o.2⟩
 | put h t f s=>exact⟨p.Dz o.1,p.Dz o.2⟩
 | copy h s t=>exact⟨p.Dz o.1,p.Dz o.2⟩
 | drop h s=>exact p.Dz o
 | give h s g t=>exact⟨p.Dz o.1,p.Dz o.2⟩
 | write h t l=>exact p.Dz o
 | read h t=>exact p.Dz o
 | name h t z=>exact p.Dz o
 | seek h s z=>exact p.Dz o
theorem KW.mono{a:Nat}(p:KW M hs k)(h:k<=a):KW M hs a:=by
 obtain⟨g,c,j,l,b,e,i,d,f⟩:=p;exact⟨g,c,δ,δ,b,e,i,d,f⟩
theorem KW.slot(p:KW M hs k)(h s:Nat)(x:AA):KW (setSlot M h s x) hs k:=by
 obtain⟨l,e,j,g,f,r,o,q,t⟩:=p;refine⟨by show(M.hands.modify h _).length=_;rw[List.length_modify];exact l,λi m n a d=>?_,j,g,f,r,o,q,t⟩;have a:(M.hands.modify h λm=>(m.1,m.2.set s x))[i]? =some m:=a;rw[List.getElem?_modify]at a;cases c:M.hands[i]? with
 | none=>rw[c]at a;cases a
 | some b=>
  rw[c]at a
  by_cases z:h=i
  ·have e3:(b.1,b.2.set s x)=m:=by simpa[z]using a
   rw[<- e3];show(b.2.set s x).length=_;rw[List.length_set];exact e i b n c d
  ·have e3:b=m:=by simpa[z]using a
   rw[<- e3];exact e i b n c d
theorem nD{i:Int}{c c':Ce}(h:cellAt M i=some c)(x:Int):cellAt (setCell M i c') x=if x=i then some c' else cellAt M x:=by
 obtain⟨b,h1⟩:=cj.mp h;unfold cellAt;show(if 0<=x then((M.cells.set i.toNat (some c'))[x.toNat]?).join else none)=_
 by_cases e:x=i
 ·subst e;rw[if_pos b,if_pos rfl,List.getElem?_set_self (cZ h1).1];rfl
 ·rw[if_neg e]
  by_cases a:0<=x
  ·rw[if_pos a,if_pos a,List.getElem?_set_ne δ]
  ·rw[if_neg a,if_neg a]
theorem KW.cell(p:KW M hs k){i:Int}{c c':Ce}(h:cellAt M i=some c)(r:c'.tone=c.tone)(s:c'.fl.length=c.fl.length):KW (setCell M i c') hs k:=by
 have h8:=p.fl c (tY h);obtain⟨j,m,g,f,b,o,l,n,q⟩:=p;refine⟨j,m,by show(M.cells.set _ _).length<=_;rw[List.length_set];exact g,f,λd hd=>?_,λph=>?_,l,n,q⟩
 ·rcases List.mem_or_eq_of_mem_set (show some d∈M.cells.set _ _ from hd)with hd | hd
  ·exact b d hd
  ·cases hd;omega
 ·obtain⟨nd,h1⟩:=o ph;refine⟨nd,λx hx=>?_⟩;obtain⟨d,hd,a⟩:=h1 x hx;rw[nD h]
  by_cases e:x=i
  ·subst e;rw[h]at hd;cases hd;exact⟨c',by rw[if_pos rfl],by rw[r];exact a⟩
  ·exact⟨d,by rw[if_neg e];exact hd,a⟩
theorem KW.note(p:KW M hs k)(x:AA):KW (cC M x).2 hs k:=by
 cases x with
 | none=>exact p
 | some i=>
  unfold cC;dsimp only;cases hc:cellAt M i with
  | none=>exact p
  | some c=>
   dsimp only;split
   ·rename_i z
    obtain⟨z1,l⟩:=z;have h8:=p.fl c (tY hc);obtain⟨o,r,n,m,j,u,q,t,v⟩:=p;obtain⟨nd,h1⟩:=u z1;have g:i∉M.sw.grey:=λh=>by
     obtain⟨d,hd,f⟩:=h1 i h;rw[hc]at hd;cases hd;exact l f
    refine⟨o,r,by show(M.cells.set _ _).length<=_;rw[List.length_set];exact n,m,λd hd=>?_,λ_=>⟨?_,λx hx=>?_⟩,q,t,v⟩
    ·rcases List.mem_or_eq_of_mem_set (show some d∈M.cells.set _ _ from hd)with hd | hd
     ·exact j d hd
     ·cases hd;exact h8
    ·show(M.sw.grey++[i]).Nodup;rw[List.nodup_append];exact⟨nd,ζ,λa s b hb e=>g (by rw[List.mem_singleton.mp hb]at e;rw[<- e];exact s)⟩
    ·have e:=nD (c':={ c with tone:=M.sw.sense }) hc x;show ∃d,cellAt (setCell M i { c with tone:=M.sw.sense }) x=some d/\d.tone=M.sw.sense;rw[e]
     by_cases ex:x=i
     ·exact⟨_,by rw[if_pos ex],rfl⟩
     ·rcases List.mem_append.mp (show x∈M.sw.grey++[i]from hx)with hx | hx
      ·obtain⟨d,hd,f⟩:=h1 x hx;exact⟨d,by rw[if_neg ex];exact hd,f⟩
      ·exact absurd (List.mem_singleton.mp hx) ex
   ·exact p
theorem KW.notes:∀{l:Au}{M:Wm},KW M hs k->KW (aZ M l).2 hs k
 | [],_,p=>p
 | x::l,_,p=>KW.notes (l:=l) (p.note x)
theorem KW.nh(a:Int):∀{l:List (Str×Au)}{j:Nat}{M:Wm},KW M hs k->KW (jE a l j M).2 hs k
 | [],_,_,p=>p
 | m::l,j,M,p=>by
  unfold jE;split
  ·exact KW.nh a (l:=l) (KW.notes p)
  ·exact KW.nh a (l:=l) p
theorem KW.put(p:KW M hs k){u b:Int}{c:Ce}(a:c.fl.length<=8):KW { M with used:=u,born:=b,cells:=pI M.cells c } hs (k+1):=by
 obtain⟨g,i,o,n,e,l,h,j,m⟩:=p;refine⟨g,i,?_,by show M.names.length<=_;omega,λd hd=>?_,λph=>?_,h,j,m⟩
 ·have:=Ztl M.cells c;show(pI M.cells c).length<=_;omega
 ·rcases Zqn hd with hd | hd
  ·exact e d hd
  ·cases hd;exact a
 ·obtain⟨nd,h1⟩:=l ph;refine⟨nd,λx hx=>?_⟩;obtain⟨d,hd,f⟩:=h1 x hx;exact⟨d,Zkl hd,f⟩
theorem Zml{l:List (Str×(Int×Int))}{z:Str}{v:Int×Int}:(sG l z v).length<=l.length+1:=by
 unfold sG;split
 ·rw[bB];omega
 ·rw[List.length_append];simp
theorem KW.name(p:KW M hs k){z:Str}{v:Int×Int}:KW { M with names:=sG M.names z v } hs (k+1):=by
 obtain⟨f,b,h,i,a,d,g,c,e⟩:=p;refine⟨f,b,by show M.cells.length<=_;omega,?_,a,d,g,c,e⟩;have:=Zml (l:=M.names) (z:=z) (v:=v);show(sG M.names z v).length<=_;omega
theorem KW.deed(p:KW M hs k){d:pP}{e:Ev}{b:Wm}(o:okR hs d)(h:su M d=.ok (e,b)):KW b hs (k+1):=by
 have le:k<=k+1:=δ
 cases d with
 | make hh s a bulk=>
  simp only[su]at h;split at h
  ·right;refine KW.slot (KW.put p ?_) _ _ _;show(List.replicate a.toNat none).length<=8;rw[List.length_replicate];have:=o.2.2.1;omega
  ·cases h
 | get hh s t f=>
  simp only[su]at h;split at h
  ·cases h
  ·split at h
   ·cases h
   ·split at h
    ·cases h
    ·right;exact(p.slot _ _ _).mono le
 | put hh t f s=>
  simp only[su]at h;split at h
  ·cases h
  ·split at h
   ·cases h
   ·rename_i c hc
    split at h
    ·cases h
    ·right;exact(KW.notes (p.cell (c':={ c with fl:=c.fl.set f (aY M hh s) }) hc rfl (by show(List.set _ _ _).length=_;rw[List.length_set]))).mono le
 | copy hh s t=>
  right;exact(p.slot _ _ _).mono le
 | drop hh s=>
  right;exact(p.slot _ _ _).mono le
 | give hh s g t=>
  right;exact(KW.notes (p.slot _ _ _)).mono le
 | write hh t l=>
  simp only[su]at h;split at h
  ·cases h
  ·split at h
   ·cases h
   ·rename_i c hc
    right;exact(p.cell (c':={ c with load:=l }) hc rfl rfl).mono le
 | read hh t=>
  simp only[su]at h;split at h
  ·cases h
  ·split at h
   ·cases h
   ·right;exact p.mono le
 | name hh t z=>
  simp only[su]at h;split at h
  ·cases h
  ·split at h
   ·cases h
   ·right;exact p.name
 | seek hh s z=>
  simp only[su]at h;split at h
  ·cases h
  ·split at h
   ·right;exact(p.slot _ _ _).mono le
   ·right;exact(KW.notes (p.slot _ _ _)).mono le
theorem KW.step(p:KW M hs k){lb:Int}{lw:AD}{e:Ev}{u:Wm}(h:uF lb lw M e u):KW u hs k:=by
 cases h with
 | begin ph=>
  refine KW.nh _ ?_;obtain⟨j,l,f,b,a,r,n,o,m⟩:=p;exact⟨j,l,f,b,a,λ_=>⟨List.nodup_nil,λx hx=>(nomatch hx)⟩,.inr (.inl rfl),o,m⟩
 | walk x g c ph s hc=>
  refine KW.notes ?_;obtain⟨j,l,f,b,a,r,n,o,m⟩:=p;refine⟨j,l,f,b,a,λ_=>?_,n,o,m⟩;obtain⟨nd,h1⟩:=r ph;rw[s]at nd h1;exact⟨(List.nodup_cons.mp nd).2,λy hy=>h1 y (List.mem_cons_of_mem _ hy)⟩
 | look N ph s F B=>
  have C:KW N hs k:=by rw[B];exact KW.nh _ p
  obtain⟨j,l,f,b,a,r,n,o,m⟩:=C;exact⟨j,l,f,b,a,r,n,o,m⟩
 | cut q D ph s A w t=>
  obtain⟨j,l,f,b,a,r,n,o,m⟩:=p;exact⟨j,l,f,b,a,λz=>absurd z (show ¬ ("give":Str)="walk" by decide),.inr (.inr (.inl rfl)),Int.le_refl _,m⟩
 | lost q D i x c v ph s A w hx t hc E=>
  obtain⟨j,l,f,b,a,r,n,o,m⟩:=p;exact⟨j,l,f,b,a,λz=>absurd z (show ¬ ("lost":Str)="walk" by decide),.inr (.inr (.inr rfl)),Int.le_refl _,m⟩
 | pass ph lt hp=>
  obtain⟨j,l,f,b,a,r,n,o,m⟩:=p;exact⟨j,l,f,b,a,r,n,by show 0<=M.sw.at'+1;omega,m⟩
 | back c ph lt hc E=>
  obtain⟨j,l,f,b,a,r,n,o,m⟩:=p;refine⟨j,l,by show(M.cells.set _ _).length<=_;rw[List.length_set];exact f,b,λd hd=>?_,λz=>absurd (ph.symm.trans z) ε,n,by show 0<=M.sw.at'+1;omega,m⟩;rcases List.mem_or_eq_of_mem_set (show some d∈M.cells.set _ _ from hd)with hd | hd
  ·exact a d hd
  ·cases hd
 | fin ph lt=>
  obtain⟨j,l,f,b,a,r,n,o,m⟩:=p;exact⟨j,l,f,b,a,λz=>absurd z (show ¬ ("rest":Str)="walk" by decide),.inl rfl,o,m⟩
 | again ph=>exact p
theorem KW.new{room:Int}{w t:Int}(b:0<=t)(h1:t<4):KW (QX room hs w t) hs 0:=by
 refine⟨by show(hs.map _).length=_;rw[bB],λi m n a d=>?_,Nat.le_refl _,Nat.le_refl _,λc hc=>(nomatch hc),λz=>absurd z (show ¬ ("rest":Str)="walk" by decide),.inl rfl,Int.le_refl _,⟨b,h1⟩⟩;have a:(hs.map λm=>(m.1,List.replicate m.2.toNat (none:AA)))[i]? =some m:=a;rw[cF,d]at a;cases a;exact List.length_replicate
end
inductive Tr where
 | fl:V->Tr
 | ls:List Tr->Tr
 | tp:List Tr->Tr
structure Kp(H H':Hp)(T T':Tg):Prop where
 k:∀b o,H b=some o->(T b).1=0\/6<=(T b).1->H' b=some o
 tg:∀b o,H b=some o->T' b=T b
 al:∀b o,H b=some o->∃o',H' b=some o'
theorem Kp.same{H H':Hp}{T:Tg}(s:aU H H'):Kp H H' T T:=⟨λb o h _=>s _ _ h,λ_ _ _=>rfl,λb o h=>⟨o,s _ _ h⟩⟩
theorem Kp.stp{s:Nat}{H H':Hp}{T T':Tg}(st:iY s H H' T T')(n:s≠0/\s<6):Kp H H' T T':=⟨λb o h t=>st.kp b o h δ,st.tg,st.al⟩
theorem Kp.trans{H f d:Hp}{T e c:Tg}(a:Kp H f T e)(b:Kp f d e c):Kp H d T c:=
 ⟨λx o h t=>b.k x o (a.k x o h t) (by rw[a.tg x o h];exact t),λx o h=>by
  obtain⟨o1,h1⟩:=a.al x o h;exact(b.tg x o1 h1).trans (a.tg x o h),λx o h=>by
  obtain⟨o1,h1⟩:=a.al x o h;exact b.al x o1 h1⟩
theorem Kp.tag{H H':Hp}{T:Tg}{l:AH}{v:Nat×Nat}(n:H l=none)(s:aU H H'):Kp H H' T (jC T l v):=⟨λb o h _=>s _ _ h,λb o h=>jM (aH h n),λb o h=>⟨o,s _ _ h⟩⟩
theorem Zvr(x:AA):qQ (oV x)=true:=by cases x<;>rfl
section
variable {M:Wm}
structure NL(M N:Wm)(acc:AD):Prop where
 sw:N.sw={ M.sw with grey:=M.sw.grey++acc }
 at_:∀i,cellAt N i=if i∈acc then(cellAt M i).map (λc=>{ c with tone:=M.sw.sense })else cellAt M i
 nt:NtR M N
def nhL(a:Int):List (Str×Au)->Nat->Au
 | [],_=>[]
 | m::l,k=>if a / 2 ^ k % 2=1 then m.2++nhL a l (k+1)else nhL a l (k+1)
theorem Uh:∀(a b:Au) (M:Wm),aZ M (a++b)=((aZ M a).1++(aZ (aZ M a).2 b).1,(aZ (aZ M a).2 b).2)
 | [],b,M=>rfl
 | x::a,b,M=>by
  show(ofN (cC M x).1++(aZ (cC M x).2 (a++b)).1,(aZ (cC M x).2 (a++b)).2)=((ofN (cC M x).1++(aZ (cC M x).2 a).1)++(aZ (aZ (cC M x).2 a).2 b).1,(aZ (aZ (cC M x).2 a).2 b).2);rw[Uh a b,List.append_assoc]
theorem YL(a:Int):∀(l:List (Str×Au)) (k:Nat) (M:Wm),jE a l k M=aZ M (nhL a l k)
 | [],_,_=>rfl
 | m::l,k,M=>by
  unfold jE nhL;split
  ·rw[Uh,YL a l (k+1)]
  ·exact YL a l (k+1) M
end
structure TB(w0:Int)(M:Wm):Prop where
 bu:∀i j c d,cellAt M i=some c->cellAt M j=some d->c.birth=d.birth->i=j
 bn:∀i c,cellAt M i=some c->1<=c.birth/\c.birth<=M.born
 b0:0<=M.born
 se:M.sw.sense=0\/M.sw.sense=1
 tn:∀i c,cellAt M i=some c->c.tone=0\/c.tone=1
 rs:M.sw.phase="rest"->∀i c,cellAt M i=some c->c.tone=M.sw.sense
 gv:M.sw.phase="give"->∀i c,cellAt M i=some c->c.tone≠M.sw.sense->M.sw.at'<=i/\i<M.sw.stop
 ww:M.w=w0
structure Sb(M M':Wm):Prop where
 ce:∀i,(cellAt M' i).map (·.birth)=(cellAt M i).map (·.birth)
 tn:∀i c c',cellAt M i=some c->cellAt M' i=some c'->c'.tone=c.tone\/(M.sw.phase="walk"/\c'.tone=M.sw.sense)
 bn:M'.born=M.born
 se:M'.sw.sense=M.sw.sense
 ph:M'.sw.phase=M.sw.phase
 at_:M'.sw.at'=M.sw.at'
 st:M'.sw.stop=M.sw.stop
 ww:M'.w=M.w
section
variable {M M':Wm}{w0:Int}
theorem Sb.get(h:Sb M M'){i:Int}{c':Ce}(e:cellAt M' i=some c'):∃c,cellAt M i=some c/\c'.birth=c.birth/\(c'.tone=c.tone\/(M.sw.phase="walk"/\c'.tone=M.sw.sense)):=by
 have h1:=h.ce i;rw[e]at h1;cases hc:cellAt M i with
 | none=>rw[hc]at h1;cases h1
 | some c=>
  rw[hc]at h1;exact⟨c,rfl,Option.some.inj h1,h.tn i c c' hc e⟩
theorem Sb.Ab(h:M'.cells=M.cells)(bn:M'.born=M.born)(se:M'.sw.sense=M.sw.sense)(ph:M'.sw.phase=M.sw.phase)(at_:M'.sw.at'=M.sw.at')(st:M'.sw.stop=M.sw.stop)(ww:M'.w=M.w):Sb M M':=by
 have e:∀i,cellAt M' i=cellAt M i:=λi=>by unfold cellAt;rw[h]
 exact⟨λi=>by rw[e],λi c a h1 h2=>by rw[e,h1]at h2;cases h2;exact .inl rfl,bn,se,ph,at_,st,ww⟩
theorem Sb.refl(M:Wm):Sb M M:=Sb.Ab rfl rfl rfl rfl rfl rfl rfl
theorem Sb.trans{d:Wm}(a:Sb M M')(b:Sb M' d):Sb M d:=by
 refine⟨λi=>(b.ce i).trans (a.ce i),λi c f h1 h2=>?_,b.bn.trans a.bn,b.se.trans a.se,b.ph.trans a.ph,b.at_.trans a.at_,b.st.trans a.st,b.ww.trans a.ww⟩;obtain⟨e,h3,_,h4⟩:=b.get h2;have h5:=a.tn i c e h1 h3;rw[a.ph,a.se]at h4;rcases h4 with h4 | h4
 ·rcases h5 with h5 | h5
  ·exact .inl (h4.trans h5)
  ·exact .inr ⟨h5.1,h4.trans h5.2⟩
 ·exact .inr h4
theorem Sb.slot(M:Wm)(h s:Nat)(x:AA):Sb M (setSlot M h s x):=Sb.Ab rfl rfl rfl rfl rfl rfl rfl
theorem Sb.cell{i:Int}{c c':Ce}(h:cellAt M i=some c)(hb:c'.birth=c.birth)(a:c'.tone=c.tone\/(M.sw.phase="walk"/\c'.tone=M.sw.sense)):Sb M (setCell M i c'):=by
 refine⟨λx=>?_,λx d b h1 h2=>?_,rfl,rfl,rfl,rfl,rfl,rfl⟩
 ·rw[nD h]
  by_cases e:x=i
  ·subst e;rw[if_pos rfl,h];exact congrArg some hb
  ·rw[if_neg e]
 ·rw[nD h]at h2
  by_cases e:x=i
  ·subst e;rw[if_pos rfl]at h2;rw[h]at h1;cases h1;cases h2;exact a
  ·rw[if_neg e,h1]at h2;cases h2;exact .inl rfl
theorem Sb.note(M:Wm)(x:AA):Sb M (cC M x).2:=by
 cases x with
 | none=>exact Sb.refl M
 | some i=>
  unfold cC;dsimp only;cases hc:cellAt M i with
  | none=>exact Sb.refl M
  | some c=>
   dsimp only;split
   ·rename_i z
    exact(Sb.cell (c':={ c with tone:=M.sw.sense }) hc rfl (.inr ⟨z.1,rfl⟩)).trans (Sb.Ab rfl rfl rfl rfl rfl rfl rfl)
   ·exact Sb.refl M
theorem Sb.notes:∀(l:Au) (M:Wm),Sb M (aZ M l).2
 | [],M=>Sb.refl M
 | x::l,M=>(Sb.note M x).trans (Sb.notes l _)
theorem Sb.nh(a:Int):∀(l:List (Str×Au)) (j:Nat) (M:Wm),Sb M (jE a l j M).2
 | [],_,M=>Sb.refl M
 | m::l,j,M=>by
  unfold jE;split
  ·exact(Sb.notes m.2 M).trans (Sb.nh a l (j+1) _)
  ·exact Sb.nh a l (j+1) M
theorem TB.sb(p:TB w0 M)(h:Sb M M'):TB w0 M':=by
 refine⟨λi j c d h1 h2 e=>?_,λi c h1=>?_,by rw[h.bn];exact p.b0,by rw[h.se];exact p.se,λi c h1=>?_,λph i c h1=>?_,λph i c h1 g=>?_,by rw[h.ww];exact p.ww⟩
 ·obtain⟨a,b,f,_⟩:=h.get h1;obtain⟨l,m,k,_⟩:=h.get h2;exact p.bu i j a l b m (by rw[<- f,<- k];exact e)
 ·obtain⟨a,b,f,_⟩:=h.get h1;rw[f,h.bn];exact p.bn i a b
 ·obtain⟨a,b,_,t1⟩:=h.get h1;rcases t1 with t1 | t1
  ·rw[t1];exact p.tn i a b
  ·rw[t1.2];exact p.se
 ·obtain⟨a,b,_,t1⟩:=h.get h1;rw[h.ph]at ph;rw[h.se];rcases t1 with t1 | t1
  ·rw[t1];exact p.rs ph i a b
  ·exact t1.2
 ·obtain⟨a,b,_,t1⟩:=h.get h1;rw[h.ph]at ph;rw[h.se]at g;rw[h.at_,h.st];rcases t1 with t1 | t1
  ·exact p.gv ph i a b (by rw[<- t1];exact g)
  ·exact absurd t1.2 g
theorem gA{x u b:Int}{c d:Ce}(h:cellAt { M with used:=u,born:=b,cells:=pI M.cells c } x=some d):(x=mW M.cells/\d=c)\/cellAt M x=some d:=by
 obtain⟨f,h1⟩:=cj.mp h;have h1:(pI M.cells c)[x.toNat]? =some (some d):=h1
 by_cases z:x.toNat=mW M.cells
 ·rw[z,Rn]at h1;cases h1;exact .inl ⟨δ,rfl⟩
 ·refine .inr (cj.mpr ⟨f,?_⟩);unfold pI at h1;split at h1
  ·rw[List.getElem?_set_ne (λe=>z e.symm)]at h1;exact h1
  ·rename_i y
   rw[List.getElem?_append]at h1;split at h1
   ·exact h1
   ·rename_i i
    have a:=(cZ h1).1;have g:=Zco M.cells;have:x.toNat - M.cells.length<1:=a;omega
theorem TB.put(p:TB w0 M){u:Int}{c:Ce}(hb:c.birth=M.born+1)(b:c.tone=M.sw.sense):TB w0 { M with used:=u,born:=M.born+1,cells:=pI M.cells c }:=by
 have b0:=p.b0;refine⟨λi j d e h1 h2 f=>?_,λi d h1=>?_,by show 0<=M.born+1;omega,p.se,λi d h1=>?_,λph i d h1=>?_,λph i d h1 hp=>?_,p.ww⟩
 ·rcases gA h1 with ⟨z1,a⟩ | z1
  ·rcases gA h2 with ⟨y1,g⟩ | y1
   ·rw[z1,y1]
   ·have:=p.bn j e y1;rw[a,hb]at f;omega
  ·rcases gA h2 with ⟨y1,g⟩ | y1
   ·have:=p.bn i d z1;rw[g,hb]at f;omega
   ·exact p.bu i j d e z1 y1 f
 ·show 1<=d.birth/\d.birth<=M.born+1;rcases gA h1 with ⟨z1,a⟩ | z1
  ·rw[a,hb];omega
  ·have:=p.bn i d z1;omega
 ·rcases gA h1 with ⟨z1,a⟩ | z1
  ·rw[a,b];exact p.se
  ·exact p.tn i d z1
 ·rcases gA h1 with ⟨z1,a⟩ | z1
  ·rw[a];exact b
  ·exact p.rs ph i d z1
 ·rcases gA h1 with ⟨z1,a⟩ | z1
  ·rw[a]at hp;exact absurd b hp
  ·exact p.gv ph i d z1 hp
theorem TB.deed(p:TB w0 M){d:pP}{e:Ev}(h:su M d=.ok (e,M')):TB w0 M':=by
 cases d with
 | make hh s a bulk=>
  simp only[su]at h;split at h
  ·right;exact(TB.put p (c:=⟨M.born+1,bulk,M.sw.sense,0,List.replicate a.toNat none⟩) rfl rfl).sb (Sb.slot _ _ _ _)
  ·cases h
 | get hh s t f=>
  simp only[su]at h;split at h
  ·cases h
  ·split at h
   ·cases h
   ·split at h
    ·cases h
    ·right;exact p.sb (Sb.slot _ _ _ _)
 | put hh t f s=>
  simp only[su]at h;split at h
  ·cases h
  ·split at h
   ·cases h
   ·rename_i c hc
    split at h
    ·cases h
    ·right;exact p.sb ((Sb.cell (c':={ c with fl:=c.fl.set f (aY M hh s) }) hc rfl (.inl rfl)).trans (Sb.notes _ _))
 | copy hh s t=>
  right;exact p.sb (Sb.slot _ _ _ _)
 | drop hh s=>
  right;exact p.sb (Sb.slot _ _ _ _)
 | give hh s g t=>
  right;exact p.sb ((Sb.slot _ _ _ _).trans (Sb.notes _ _))
 | write hh t l=>
  simp only[su]at h;split at h
  ·cases h
  ·split at h
   ·cases h
   ·rename_i c hc
    right;exact p.sb (Sb.cell (c':={ c with load:=l }) hc rfl (.inl rfl))
 | read hh t=>
  simp only[su]at h;split at h
  ·cases h
  ·split at h
   ·cases h
   ·right;exact p
 | name hh t z=>
  simp only[su]at h;split at h
  ·cases h
  ·split at h
   ·cases h
   ·right;exact p.sb (Sb.Ab rfl rfl rfl rfl rfl rfl rfl)
 | seek hh s z=>
  simp only[su]at h;split at h
  ·cases h
  ·split at h
   ·right;exact p.sb (Sb.slot _ _ _ _)
   ·right;exact p.sb ((Sb.slot _ _ _ _).trans (Sb.notes _ _))
theorem TB.step(p:TB w0 M){lb:Int}{lw:AD}{e:Ev}(h:uF lb lw M e M'):TB w0 M':=by
 cases h with
 | begin ph=>
  refine TB.sb ?_ (Sb.nh _ _ _ _);obtain⟨k,l,f,n,b,r,o,m⟩:=p;exact⟨k,l,f,by show 1 - M.sw.sense=0\/1 - M.sw.sense=1;omega,b,λz=>absurd z (show ¬ ("walk":Str)="rest" by decide),λz=>absurd z (show ¬ ("walk":Str)="give" by decide),m⟩
 | walk x g c ph A hc=>
  have a:Sb M { M with sw:={ M.sw with grey:=g,walks:=M.sw.walks+1 } }:=Sb.Ab rfl rfl rfl rfl rfl rfl rfl;exact p.sb (a.trans (Sb.notes c.fl _))
 | look N ph A J F=>
  subst F;exact p.sb ((Sb.nh _ _ _ _).trans (Sb.Ab rfl rfl rfl rfl rfl rfl rfl))
 | cut q H ph A D B y=>
  obtain⟨k,l,f,n,b,r,o,m⟩:=p;exact⟨k,l,f,n,b,λz=>absurd z (show ¬ ("give":Str)="rest" by decide),λ_ i c hc _=>Zv (M:=M) hc,m⟩
 | lost q H i x c v ph A D B hx y hc s=>
  obtain⟨k,l,f,n,b,r,o,m⟩:=p;exact⟨k,l,f,n,b,λz=>absurd z (show ¬ ("lost":Str)="rest" by decide),λz=>absurd z (show ¬ ("lost":Str)="give" by decide),m⟩
 | pass ph lt hp=>
  obtain⟨k,l,f,n,b,r,o,m⟩:=p;refine⟨k,l,f,n,b,r,λ_ i c hc s=>?_,m⟩;have h1:=o ph i c hc s;have h2:i≠M.sw.at':=λz=>s (hp c (by rw[<- z];exact hc));show M.sw.at'+1<=i/\i<M.sw.stop;omega
 | back c ph lt hc s=>
  obtain⟨k,l,f,n,b,r,o,m⟩:=p;have t:∀(u:Int) (w:Sw) (i:Int) (d:Ce),cellAt { M with used:=u,cells:=M.cells.set M.sw.at'.toNat none,sw:=w } i=some d->i≠M.sw.at'/\cellAt M i=some d:=λu w i d hd=>by
   obtain⟨C,h1⟩:=cj.mp hd;have h1:(M.cells.set M.sw.at'.toNat none)[i.toNat]? =some (some d):=h1;obtain⟨K,E⟩:=cj.mp hc
   by_cases z:M.sw.at'.toNat=i.toNat
   ·rw[z,List.getElem?_set_self (by rw[<- z];exact(cZ E).1)]at h1;cases h1
   ·rw[List.getElem?_set_ne z]at h1;exact⟨λe=>z (by rw[e]),cj.mpr ⟨C,h1⟩⟩
  refine⟨λi j d e h1 h2 I=>k i j d e (t _ _ i d h1).2 (t _ _ j e h2).2 I,λi d h1=>l i d (t _ _ i d h1).2,f,n,λi d h1=>b i d (t _ _ i d h1).2,λz=>absurd (ph.symm.trans z) ε,λ_ i d h1 hp=>?_,m⟩;obtain⟨n1,n2⟩:=t _ _ i d h1;have h3:=o ph i d n2 hp;show M.sw.at'+1<=i/\i<M.sw.stop;omega
 | fin ph lt=>
  obtain⟨k,l,f,n,b,r,o,m⟩:=p;refine⟨k,l,f,n,b,λ_ i c hc=>?_,λz=>absurd z (show ¬ ("rest":Str)="give" by decide),m⟩;refine Decidable.byContradiction λs=>?_;have h1:=o ph i c hc s;omega
 | again ph=>exact p
theorem TB.new{room:Int}{hs:Qm}{w t:Int}:TB w (QX room hs w t):=by
 have e:∀i c,cellAt (QX room hs w t) i=some c->False:=λi c h=>nomatch tY h;exact⟨λi _ c _ h=>(e i c h).elim,λi c h=>(e i c h).elim,Int.le_refl _,.inl rfl,λi c h=>(e i c h).elim,λ_ i c h=>(e i c h).elim,λ_ i c h=>(e i c h).elim,rfl⟩
end
section
variable {M:Wm}
end
def Zlz(K:aC):Sp:=λvs H Q E=>∃a,vs=[.ref a]/\∃ns:AD,cB K H a (ns.map V.int)/\ns.length<=63/\∀H',Q (.bl true) H'
def RQ(X:Cs)(rf:Rf->AH):Sp:=λvs H Q E=>∃wo dd,vs=[.ref wo,.ref dd]/\∃T s A M d,WT H T/\s≠0/\WJ X H T s A M/\A.wo=wo/\H dd=some (.tup (dV d))/\okD M d/\M.cells.length<=900/\(M.sw.phase="walk"->M.sw.grey.length<=10000)/\(0<=M.tells/\M.tells<4)/\M.names.length<=1000/\
 (∀r,su M d=.error r->∀H',aU H H'->Q .non H')/\
 (∀e c,su M d=.ok (e,c)->∀H' T' b a,iY s H H' T T'->WJ X H' T' s b c->b.wo=wo->EvN H H' a e->Q (.ref a) H')
section
theorem Zdj{wo dd CE h g f:AH}(l:rf .empty=CE)(p:rf .uo=h)(u:rf .full=g)(m:rf .Uj=f)(q:∃T s A M d,WT H T/\s≠0/\WJ X H T s A M/\A.wo=wo/\H dd=some (.tup (dV d))/\okD M d/\M.cells.length<=900/\(M.sw.phase="walk"->M.sw.grey.length<=10000)/\(0<=M.tells/\M.tells<4)/\M.names.length<=1000/\
 (∀r,su M d=.error r->∀H',aU H H'->Q .non H')/\
 (∀e c,su M d=.ok (e,c)->∀H' T' b a,iY s H H' T T'->WJ X H' T' s b c->b.wo=wo->EvN H H' a e->Q (.ref a) H')):
  BP CE g h f (ZKu X rf) ξ [↑wo,↑dd,none] H:=by
 obtain⟨T,s,A,M,d,w,k,j,rfl,i,od,hc,o,tl,nm,h1,h2⟩:=q;unfold BP;apply⟨_,dd,rfl,T,s,A,M,d,trivial,w,k,j,rfl,i,od,hc,o,tl,nm,λr v H' sm=>?_,λe c x H' T' b a st z t y=>?_⟩
 ·refine⟨?_,?_⟩
  ·cases r
   ·exact .inr (.inr (.inl (by rw[u])))
   ·exact .inl (by rw[l])
   ·exact .inr (.inl (by rw[p]))
   ·exact .inr (.inr (.inr (by rw[m])))
  ·apply h1 r v H' sm
 ·apply h2 e c x H' T' b a st z t y
end
def RwO(H:Hp)(l:AH)(rows:List Au):Prop:=∃ls:AE,H l=some (.lst (ls.map V.ref))/\ls.length=rows.length/\∀(j:Nat) r x,ls[j]? =some r->rows[j]? =some x->H r=some (.lst (x.map oV))
def MkO(H:Hp)(d:AH)(f:Int->Option V)(k:Nat):Prop:=∃a:List (L2.Key×V),H d=some (.dK a)/\a.length<=k/\∀b:Int,o9 a (Sum.inl b)=f b
theorem MkO.get{H:Hp}{d:AH}{f:Int->Option V}{k:Nat}(h:MkO H d f k){b:Int}{v:V}(e:f b=some v):An H d (.int b) (some v):=by
 obtain⟨a,h1,_,h2⟩:=h;have:=An.k (k:=Sum.inl b) h1;rw[h2 b,e]at this;exact this
theorem MkO.put{H:Hp}{d:AH}{f:Int->Option V}{k:Nat}(h:MkO H d f k)(hk:k<=100000)(b:Int)(v:V):∃H',Yd H d (.int b) v H'/\MkO H' d (λx=>if x=b then some v else f x) (k+1)/\∃o,H'=upd H d o:=by
 obtain⟨a,h1,h3,h2⟩:=h;refine⟨_,Yd.k (k:=Sum.inl b) (v:=v) h1 (Nat.lt_of_le_of_lt h3 (Nat.lt_of_le_of_lt hk ε)),⟨_,aq,?_,λx=>?_⟩,_,rfl⟩
 ·have:=Ge a (Sum.inl b) v;omega
 ·rw[Zok,h2 x];dsimp only
  by_cases e:x=b
  ·rw[if_pos e,if_pos (by rw[e])]
  ·rw[if_neg e,if_neg (λz=>e (Sum.inl.inj z))]
theorem MkO.same{H H':Hp}{d:AH}{f:Int->Option V}{k:Nat}(s:aU H H')(h:MkO H d f k):MkO H' d f k:=by
 obtain⟨a,h1,h3,h2⟩:=h;exact⟨a,s _ _ h1,h3,h2⟩
section
end
def stL(S:Sw):AD:=[S.sense,S.turn,S.looked,S.walks,S.looks,S.passes]
def La(X:Cs):Sp:=λvs H Q E=>∃sw,vs=[.ref sw]/\∃T s A M,WJ X H T s A M/\A.sw=sw/\M.sw.grey.length<=10000/\∀a H',aU H H'->H a=none->H' a=some (.lst ((stL M.sw).map V.int))->Q (.ref a) H'
structure Tc where
 p:Int
 b:Int
 bulk:Int
 load:Int
 fs:Au
 tone:Str
def Tc1(H:Hp)(r f:AH)(x:Tc):Prop:=H r=some (.tup [.int x.p,.int x.b,.int x.bulk,.int x.load,.ref f,.str x.tone])/\H f=some (.lst (x.fs.map oV))
def O9(H:Hp)(l:AH)(rows:List Tc):Prop:=∃ls:AE,H l=some (.lst (ls.map V.ref))/\ls.length=rows.length/\∀(j:Nat) r x,ls[j]? =some r->rows[j]? =some x->∃f,Tc1 H r f x
theorem O9.same{H H':Hp}{l:AH}{rows:List Tc}(s:aU H H')(h:O9 H l rows):O9 H' l rows:=by
 obtain⟨ls,h1,h2,h3⟩:=h;refine⟨ls,s _ _ h1,h2,λj r x b c=>?_⟩;obtain⟨f,z1,a⟩:=h3 j r x b c;exact⟨f,s _ _ z1,s _ _ a⟩
def pO(K:aC):Sp:=λvs H Q E=>∃e l d,vs=[.ref e,.ref l,.ref d]/\∃(rows c:List Tc) (f:Int->Option V) (k:Nat),O9 H e c/\O9 H l rows/\MkO H d f k/\c.length=rows.length/\rows.length<=1000/\(∀(j:Nat) x a,rows[j]? =some x->c[j]? =some a->a.p=x.p/\a.b=x.b/\a.bulk=x.bulk/\a.load=x.load/\a.fs=x.fs/\f x.b=some (.str a.tone))/\
 ∀H',aU H H'->Q (.bl true) H'
theorem Zcp(l:Au):(l.map oV).all qQ=true:=by
 rw[List.all_eq_true];intro v hv;obtain⟨x,_,rfl⟩:=List.mem_map.mp hv;exact Zvr x
section
theorem XN{sw:AH}(c:qT K X)(q:∃T s A M,WJ X H T s A M/\A.sw=sw/\M.sw.grey.length<=10000/\∀a H',aU H H'->H a=none->H' a=some (.lst ((stL M.sw).map V.int))->Q (.ref a) H'):yZ K mF ξ [↑sw,none,none] H:=by
 obtain⟨T,s,A,M,j,rfl,F,q⟩:=q;obtain⟨I,os⟩:=j.js.os;have og:=j.js.og;unfold yZ;apply aF os c.cS c.n1 oM ?_;apply aF os c.cS c.n5 qW ?_;apply aF os c.cS c.n4 iZ ?_;apply⟨aR ζ,λu n1=>?_⟩;generalize zz:upd H u _=H1;obtain⟨m,E⟩:=nwO n1 zz;have f:=m _ _ os;apply aF f c.cS c.n8 uM ?_;apply aF f c.cS c.n9 qi ?_;apply aF f c.cS c.n10 sI ?_;apply⟨aR ζ,λz n2=>?_⟩;generalize zz:upd H1 z _=H2;obtain⟨p,B⟩:=nwO n2 zz;have i:=p _ _ E;apply⟨u,z,_,_,rfl,rfl,i,B,aR ζ,λa n3=>?_⟩;rw[show([V.int M.sw.sense,.int M.sw.turn,.int M.sw.looked]++[V.int M.sw.walks,.int M.sw.looks,.int M.sw.passes])=(stL M.sw).map V.int from rfl];generalize zz:upd H2 a _=H3;obtain⟨D,t⟩:=nwO n3 zz;have d:=m.trans (p.trans D);have C:H a=none:=m.free (p.free n3);apply aF (d _ _ os) c.cS c.n3 mZ ?_;apply⟨a,A.gr,_,_,rfl,rfl,t,d _ _ og,by rw[bB,bB];exact aR (by show 6+_<=_;omega),λb n4=>?_⟩;rw[<- List.map_append];generalize zz:upd H3 b _=H4;obtain⟨w,r⟩:=nwO n4 zz;have h:=w _ _ t;have o:=d.trans w;refine⟨b,rfl,⟨_,cB.of r⟩,forL ((stL M.sw++M.sw.grey).map V.int) (λ_ l g=>∃v,l=[↑A.sw,↑a,v]/\g=H4) ⟨_,rfl,rfl⟩ (by rintro _ _ _ _ ⟨_,_,e⟩;rw[e];exact cB.of r) ?_ ?_⟩
 ·rintro k x l g hk ⟨v,rfl,rfl⟩;obtain⟨y,_,rfl⟩:=List.mem_map.mp (List.mem_of_getElem? hk);exists _,rfl;apply⟨_,rfl,rfl⟩
 ·rintro l g ⟨v,rfl,rfl⟩;apply q a g o C h
theorem Vv{E l d:AH}(q:∃(rows w:List Tc) (f:Int->Option V) (k:Nat),O9 H E w/\O9 H l rows/\MkO H d f k/\w.length=rows.length/\rows.length<=1000/\(∀(j:Nat) x e,rows[j]? =some x->w[j]? =some e->e.p=x.p/\e.b=x.b/\e.bulk=x.bulk/\e.load=x.load/\e.fs=x.fs/\f x.b=some (.str e.tone))/\
 ∀H',aU H H'->Q (.bl true) H'):wJ K ξ [↑E,↑l,↑d,none] H:=by
 obtain⟨rows,w,f,kk,⟨t,s,N,O⟩,⟨ls,o1,hl,o2⟩,om,F,hb,hx,q⟩:=q;unfold wJ;apply Qj s ?_;apply jU (cB.of s) ?_;apply jU (cB.of o1) ?_;rw[bB,bB];apply xN (λz=>absurd (by rw[N,hl,F]) z) (λ_=>?_);apply jU (cB.of o1) ?_;rw[bB];exists _,rfl,δ,δ;refine forR (λk M v=>∃L,M=[↑E,↑l,↑d,L]/\aU H v) ⟨_,rfl,λ_ _ h=>h⟩ ?_ ?_
 ·rintro k M v hk ⟨L,rfl,o⟩;have hk:k<ls.length:=δ
  obtain⟨r,hr⟩:∃r,ls[k]? =some r:=⟨_,bK hk⟩;obtain⟨B,y⟩:∃r,t[k]? =some r:=⟨_,bK δ⟩;obtain⟨x,ex⟩:∃x,rows[k]? =some x:=⟨_,bK δ⟩;obtain⟨e,A⟩:∃x,w[k]? =some x:=⟨_,bK δ⟩;obtain⟨R,t1,t2⟩:=o2 k r x hr ex;obtain⟨c,g,C⟩:=O k B e y A;obtain⟨e1,e2,e3,e4,e5,e6⟩:=hx k x e ex A;rw[e1,e2,e3,e4]at g;rw[e5]at C;have X:∀{D:Hp},aU H D->cB K D l (ls.map V.ref):=λz=>cB.of (z _ _ o1);have i:∀{D:Hp},aU H D->cB K D E (t.map V.ref):=λz=>cB.of (z _ _ s);have T:XM (ls.map V.ref) ((0:Int)+(k:Int))=↑r:=by rw[Int.zero_add];exact jO (by rw[cF,hr];rfl)
  have m:XM (t.map V.ref) ((0:Int)+(k:Int))=↑B:=by rw[Int.zero_add];exact jO (by rw[cF,y];rfl)
  apply jg (i o) m ?_;apply KH (o _ _ g) ?_;apply jg (i o) m ?_;exists B,_,rfl,.inr (fY.of (o _ _ g));apply xN (λz=>absurd rfl z) (λ_=>?_);apply jg (i o) m ?_;apply⟨B,_,rfl,fY.of (o _ _ g),(show ¬ (HT.qU 6 0 none=0/\HT.qU 6 6 (some 5)=6) by decide),λS P=>?_⟩;have Y:=aK P (.tup [.int x.p,.int x.b,.int x.bulk,.int x.load,.ref c]);have W:upd v S (.tup [.int x.p,.int x.b,.int x.bulk,.int x.load,.ref c]) S=some (.tup [.int x.p,.int x.b,.int x.bulk,.int x.load,.ref c]):=aq;rw[show Rh [V.int x.p,.int x.b,.int x.bulk,.int x.load,.ref c,.str e.tone] none (some 5)=[.int x.p,.int x.b,.int x.bulk,.int x.load,.ref c]from rfl];generalize upd v S (.tup [.int x.p,.int x.b,.int x.bulk,.int x.load,.ref c])=Z at Y W ⊢;have u:=o.trans Y;apply jg (X u) T ?_;apply⟨r,_,rfl,fY.of (u _ _ t1),(show ¬ (HT.qU 6 0 none=0/\HT.qU 6 6 (some 5)=6) by decide),λp2 J=>?_⟩;rw[show Rh [V.int x.p,.int x.b,.int x.bulk,.int x.load,.ref R,.str x.tone] none (some 5)=[.int x.p,.int x.b,.int x.bulk,.int x.load,.ref R]from rfl];generalize zz:upd Z p2 _=H4;obtain⟨U,g4⟩:=nwO J zz;have I:=U _ _ W;have a:=u.trans U;refine Zfx (.inr ⟨fY.of I,fY.of g4⟩) (.cons (.inl ⟨rfl,rfl⟩) (.cons (.inl ⟨rfl,rfl⟩) (.cons (.inl ⟨rfl,rfl⟩) (.cons (.inl ⟨rfl,rfl⟩) (.cons (.inr ⟨c,R,rfl,rfl,.inr ⟨_,_,.inl ⟨cB.of (a _ _ C),cB.of (a _ _ t2)⟩,Gn (Zcp _)⟩⟩) .nil))))) ?_;apply jg (i a) m ?_;exists B,_,5,_,rfl,rfl,fY.of (a _ _ g),rfl;apply jg (X a) T ?_;exists r,_,1,_,rfl,rfl,fY.of (a _ _ t1),rfl;refine⟨d,_,rfl,(om.same a).get e6,?_⟩;apply xN (λz=>absurd rfl z) (λ_=>?_);apply⟨_,rfl,a⟩
 ·rintro M v ⟨L,rfl,o⟩;apply q v o
end
def Zot(M:Wm)(t:Int×Ce):Tc:=⟨t.1,t.2.birth,t.2.bulk,t.2.load,t.2.fl.map (uy M),nO M t.1 t.2⟩
def sE(M:Wm):List Tc:=(gG M).map (Zot M)
section
variable {M M':Wm}{w0:Int}
theorem nG{t:Int×Ce}(h:t∈gG M):cellAt M t.1=some t.2:=by
 obtain⟨k,hk,e⟩:=List.getElem_of_mem h;obtain⟨a,h1⟩:=Zl0 (M:=M) (j:=k) (t:=t) (by rw[bK hk,e]);exact cj.mpr ⟨a,h1⟩
theorem Ql{i:Int}{c:Ce}(h:cellAt M i=some c):(i,c)∈gG M:=by
 obtain⟨a,h1⟩:=cj.mp h;unfold gG;refine List.mem_filterMap.mpr ⟨i.toNat,List.mem_range.mpr (cZ h1).1,?_⟩;rw[h1];show some (((i.toNat:Nat):Int),c)=some (i,c);rw[show((i.toNat:Nat):Int)=i from δ]
end
def CtF(H0 H:Hp)(l:AH)(rows:List Tc):Prop:=∃ls:AE,H l=some (.lst (ls.map V.ref))/\ls.length=rows.length/\(∀(j:Nat) r x,ls[j]? =some r->rows[j]? =some x->∃f,Tc1 H r f x/\H0 f=none/\H0 r=none)/\H0 l=none
def RwF(H0 H:Hp)(l:AH)(rows:List Au):Prop:=∃ls:AE,H l=some (.lst (ls.map V.ref))/\ls.length=rows.length/\(∀(j:Nat) r x,ls[j]? =some r->rows[j]? =some x->H r=some (.lst (x.map oV)))/\H0 l=none/\∀r∈ls,H0 r=none
def Nw(H0 H H':Hp):Prop:=∀b o,H0 b=none->H b=some o->H' b=some o
theorem CtF.nw{H0 H H':Hp}{l:AH}{rows:List Tc}(k:Nw H0 H H')(h:CtF H0 H l rows):CtF H0 H' l rows:=by
 obtain⟨ls,h1,h2,h3,h4⟩:=h;refine⟨ls,k _ _ h4 h1,h2,λj r x d e=>?_,h4⟩;obtain⟨f,⟨z1,c⟩,a,b⟩:=h3 j r x d e;exact⟨f,⟨k _ _ b z1,k _ _ a c⟩,a,b⟩
theorem CtF.o{H0 H:Hp}{l:AH}{rows:List Tc}(h:CtF H0 H l rows):O9 H l rows:=by
 obtain⟨ls,h1,h2,h3,_⟩:=h;refine⟨ls,h1,h2,λj r x a b=>?_⟩;obtain⟨f,z,_⟩:=h3 j r x a b;exact⟨f,z⟩
theorem RwF.nw{H0 H H':Hp}{l:AH}{rows:List Au}(k:Nw H0 H H')(h:RwF H0 H l rows):RwF H0 H' l rows:=by
 obtain⟨ls,h1,h2,h3,h4,h5⟩:=h;exact⟨ls,k _ _ h4 h1,h2,λj r x a b=>k _ _ (h5 r (List.mem_of_getElem? a)) (h3 j r x a b),h4,h5⟩
theorem RwF.o{H0 H:Hp}{l:AH}{rows:List Au}(h:RwF H0 H l rows):RwO H l rows:=by
 obtain⟨ls,h1,h2,h3,_⟩:=h;exact⟨ls,h1,h2,h3⟩
theorem Nw.same{H0 H H':Hp}(s:aU H H'):Nw H0 H H':=λb o _ h=>s b o h
theorem Nw.stp{H0 H H':Hp}{T T':Tg}{s:Nat}(w:WT H0 T)(st:iY s H H' T T')(n:s≠0):Nw H0 H H':=λb o a h=>st.kp b o h (by rw[w b a];exact λz=>n z.symm)
theorem Zl6{K:aC}{H:Hp}{l e:AH}{rows:List Au}(h:RwO H l rows)(h':RwO H e rows):∃xs f,cB K H l xs/\cB K H e f/\Al (Dq K H 6) xs f:=by
 obtain⟨ls,h1,h2,h3⟩:=h;obtain⟨o,c,a,d⟩:=h';refine⟨_,_,cB.of h1,cB.of c,Zgi (by rw[bB,bB,h2,a]) λi u v j k=>?_⟩;rw[cF]at j k;obtain⟨r,hr,rfl⟩:=Option.map_eq_some_iff.mp j;obtain⟨m,b,rfl⟩:=Option.map_eq_some_iff.mp k;have g:i<rows.length:=by rw[<- h2];exact(cZ hr).1
 have z:=h3 i r rows[i] hr (bK g);have n:=d i m rows[i] b (bK g);exact .inr ⟨r,m,rfl,rfl,.inr ⟨_,_,.inl ⟨cB.of z,cB.of n⟩,Gn (Zcp _)⟩⟩
def pR(rows:List Tc)(b:Int):Option V:=(rows.reverse.find? λx=>decide (x.b=b)).map λx=>V.str x.tone
theorem Zh3(rows:List Tc)(x:Tc)(b:Int):pR (rows++[x]) b=if b=x.b then some (.str x.tone)else pR rows b:=by
 unfold pR;rw[List.reverse_append,List.reverse_singleton,List.singleton_append,List.find?_cons]
 by_cases e:b=x.b
 ·rw[if_pos e,decide_eq_true e.symm];rfl
 ·rw[if_neg e,decide_eq_false (λz=>e z.symm)]
def Ke(z:Str)(f:Int->Option V)(bs:AD)(b:Int):Option V:=if b∈bs then some (.str z)else f b
theorem Zj5(z:Str)(f:Int->Option V)(bs:AD)(b0 b:Int):Ke z f (bs++[b0]) b=if b=b0 then some (.str z)else Ke z f bs b:=by
 unfold Ke
 by_cases e:b=b0
 ·rw[if_pos e,if_pos (by simp[e])]
 ·rw[if_neg e]
  by_cases a:b∈bs
  ·rw[if_pos a,if_pos (List.mem_append.mpr (.inl a))]
  ·rw[if_neg a,if_neg (λy=>?_)];rcases List.mem_append.mp y with y | y
   ·exact a y
   ·exact e (by simpa using y)
def qz(K:aC):Sp:=λvs H Q E=>∃l m z,vs=[.ref l,.ref m,.str z]/\∃(rows:List Tc) (bs:AD),O9 H l rows/\rows.length<=1000/\H m=some (.lst (bs.map V.int))/\bs.length<=4000/\
 ∀a H',aU H H'->H a=none->MkO H' a (Ke z (pR rows) bs) 5000->Q (.ref a) H'
section
theorem Zdc{l m:AH}{z:Str}(q:∃(rows:List Tc) (bs:AD),O9 H l rows/\rows.length<=1000/\H m=some (.lst (bs.map V.int))/\bs.length<=4000/\
 ∀a H',aU H H'->H a=none->MkO H' a (Ke z (pR rows) bs) 5000->Q (.ref a) H'):Bv K ξ [↑l,↑m,some (.str z),none,none,none] H:=by
 obtain⟨rows,bs,⟨ls,o1,hl,o2⟩,hb,om,M,q⟩:=q;unfold Bv;ext;intro d nd;have E:=aK nd (.dK []);have J:MkO (upd H d (.dK [])) d (pR []) 0:=⟨[],aq,Nat.le_refl _,λb=>rfl⟩;generalize upd H d (.dK [])=P at E J ⊢;apply⟨l,rfl,⟨_,cB.of (E _ _ o1)⟩,forL (ls.map V.ref) (λi j v=>∃w,j=[↑l,↑m,some (.str z),↑d,w,none]/\aU H v/\MkO v d (pR (rows.take i)) i) ⟨_,rfl,E,J⟩ (by rintro _ _ _ _ ⟨_,_,y,_⟩;exact cB.of (y _ _ o1)) ?_ ?_⟩
 ·rintro i y j v hy ⟨w,rfl,u,A⟩;rw[cF]at hy;obtain⟨r,hr,rfl⟩:=Option.map_eq_some_iff.mp hy;have L:i<ls.length:=(cZ hr).1;obtain⟨x,hx⟩:∃x,rows[i]? =some x:=⟨_,bK δ⟩;have k:rows.take (i+1)=rows.take i++[x]:=by rw[List.take_add_one,hx];rfl
  obtain⟨R,f,_⟩:=o2 i r x hr hx;have f:=u _ _ f;exists r,_,5,_,rfl,rfl,fY.of f,rfl;exists r,_,1,_,rfl,rfl,fY.of f,rfl;obtain⟨F,C,⟨e,h,p,g⟩,o,I⟩:=A.put δ x.b (.str x.tone);refine⟨d,F,rfl,C,_,rfl,λc N hc=>?_,e,h,p,λb=>?_⟩
  ·rw[I,aD (aH hc nd)];exact u _ _ hc
  ·rw[g b,k,Zh3]
 ·rintro j v ⟨w,rfl,u,A⟩;rw[bB,List.take_of_length_le δ]at A;apply⟨m,rfl,⟨_,cB.of (u _ _ om)⟩,forL (bs.map V.int) (λi j t=>∃B,j=[↑l,↑m,some (.str z),↑d,w,B]/\aU H t/\MkO t d (Ke z (pR rows) (bs.take i)) (ls.length+i)) ⟨_,rfl,u,?_⟩ (by rintro _ _ _ _ ⟨_,_,y,_⟩;exact cB.of (y _ _ om)) ?_ ?_⟩
  ·obtain⟨e,h,p,g⟩:=A;exact⟨e,h,δ,λb=>by rw[g b];unfold Ke;rw[if_neg ζ]⟩
  ·rintro i y j t hy ⟨B,rfl,D,O⟩;rw[cF]at hy;obtain⟨b0,s,rfl⟩:=Option.map_eq_some_iff.mp hy;have L:i<bs.length:=(cZ s).1;have k:bs.take (i+1)=bs.take i++[b0]:=by rw[List.take_add_one,s];rfl
   ext;obtain⟨F,C,⟨e,h,p,g⟩,o,I⟩:=O.put δ b0 (.str z);refine⟨d,F,rfl,C,_,rfl,λc N hc=>?_,e,h,p,λb=>?_⟩
   ·rw[I,aD (aH hc nd)];exact D _ _ hc
   ·rw[g b,k,Zj5]
  ·rintro j t ⟨B,rfl,D,e,h,p,g⟩;rw[bB,List.take_length]at g;rw[bB]at p;apply q d t D nd ⟨e,h,δ,g⟩
end
theorem DP{M:Wm}:(gG M).length<=M.cells.length:=by
 unfold gG;exact Nat.le_trans (List.length_filterMap_le _ _) (by rw[List.length_range];exact Nat.le_refl _)
theorem vA{M:Wm}:(sE M).length=(gG M).length:=by unfold sE;rw[bB]
theorem Zos{M:Wm}{i:Nat}{t:Int×Ce}(h:(gG M)[i]? =some t):(sE M)[i]? =some (Zot M t):=by unfold sE;rw[cF,h];rfl
section
variable {M M':Wm}{w0:Int}
theorem TB.Zsy(p:TB w0 M){t u:Int×Ce}(a:t∈gG M)(hu:u∈gG M)(e:t.2.birth=u.2.birth):t=u:=by
 have h1:=nG a;have h2:=nG hu;have h3:=p.bu t.1 u.1 t.2 u.2 h1 h2 e;rw[h3,h2]at h1;exact Prod.ext h3 (Option.some.inj h1).symm
theorem TB.Zzy(p:TB w0 M){t:Int×Ce}(c:t∈gG M):pR (sE M) t.2.birth=some (.str (nO M t.1 t.2)):=by
 unfold pR;cases a:(sE M).reverse.find? λ(x:Tc)=>decide (x.b=t.2.birth)with
 | none=>
  have:=List.find?_eq_none.mp a (Zot M t) (List.mem_reverse.mpr (List.mem_map.mpr ⟨t,c,rfl⟩));exact absurd (decide_eq_true rfl) this
 | some x=>
  have h1:x.b=t.2.birth:=of_decide_eq_true (List.find?_some (p:=λ(x:Tc)=>decide (x.b=t.2.birth)) a);obtain⟨u,hu,rfl⟩:=List.mem_map.mp (List.mem_reverse.mp (List.mem_of_find?_eq_some a));rw[p.Zsy hu c h1];rfl
end
structure Pm(M:Wm):Prop where
 nm:∀x∈M.names,x.2.2<=M.born/\∀i c,cellAt M i=some c->c.birth=x.2.2->i=x.2.1
 nd:(M.names.map (·.1)).Nodup
 gg:M.sw.phase="give"->M.sw.grey=[]
 le:M.sw.phase="give"->M.sw.at'<=M.sw.stop
structure Nn(M N:Wm):Prop where
 nm:N.names=M.names
 ph:N.sw.phase=M.sw.phase
 gr:M.sw.phase="give"->N.sw.grey=M.sw.grey
section
variable {M N:Wm}{w0:Int}
theorem Nn.refl(M:Wm):Nn M M:=⟨rfl,rfl,λ_=>rfl⟩
theorem Nn.trans{P:Wm}(a:Nn M N)(b:Nn N P):Nn M P:=⟨b.nm.trans a.nm,b.ph.trans a.ph,λz=>(b.gr (a.ph.trans z)).trans (a.gr z)⟩
theorem Nn.note(M:Wm)(x:AA):Nn M (cC M x).2:=by
 cases x with
 | none=>exact Nn.refl M
 | some i=>
  unfold cC;dsimp only;cases hc:cellAt M i with
  | none=>exact Nn.refl M
  | some c=>
   dsimp only;split
   ·rename_i z
    exact⟨rfl,rfl,λy=>absurd (z.1.symm.trans y) ε⟩
   ·exact Nn.refl M
theorem Nn.notes:∀(l:Au) (M:Wm),Nn M (aZ M l).2
 | [],M=>Nn.refl M
 | x::l,M=>(Nn.note M x).trans (Nn.notes l _)
theorem Nn.slot(M:Wm)(h s:Nat)(x:AA)(l:Au):Nn M (aZ (setSlot M h s x) l).2:=Nn.trans (N:=setSlot M h s x) ⟨rfl,rfl,λ_=>rfl⟩ (Nn.notes _ _)
theorem Nn.cell(M:Wm)(i:Int)(c:Ce)(l:Au):Nn M (aZ (setCell M i c) l).2:=Nn.trans (N:=setCell M i c) ⟨rfl,rfl,λ_=>rfl⟩ (Nn.notes _ _)
theorem Pm.sb(p:Pm M)(h:Sb M N)(n:Nn M N):Pm N:=by
 refine⟨λx hx=>?_,by rw[n.nm];exact p.nd,λz=>?_,λz=>?_⟩
 ·rw[n.nm]at hx;obtain⟨h1,h2⟩:=p.nm x hx;refine⟨by rw[h.bn];exact h1,λi d hc e=>?_⟩;obtain⟨c,a,b,_⟩:=h.get hc;exact h2 i c a (by rw[<- b];exact e)
 ·rw[n.ph]at z;rw[n.gr z];exact p.gg z
 ·rw[n.ph]at z;rw[h.at_,h.st];exact p.le z
theorem YQ{l:List (Str×(Int×Int))}{k:Str}{v:Int×Int}{x:Str×(Int×Int)}(h:x∈sG l k v):x∈l\/x.2=v:=by
 unfold sG at h;split at h
 ·obtain⟨m,hm,e⟩:=List.mem_map.mp h;split at e
  ·rw[<- e];exact .inr rfl
  ·rw[<- e];exact .inl hm
 ·rcases List.mem_append.mp h with h | h
  ·exact .inl h
  ·rw[List.mem_singleton.mp h];exact .inr rfl
theorem Zpj{l:List (Str×(Int×Int))}{k:Str}{v:Int×Int}(h:(l.map (·.1)).Nodup):((sG l k v).map (·.1)).Nodup:=by
 unfold sG;split
 ·rw[List.map_map];rw[show((λ(x:Str×(Int×Int))=>x.1) ∘ λm=>if m.1=k then(m.1,v)else m)=λx=>x.1 from funext λm=>by show(if m.1=k then(m.1,v)else m).1=m.1;split<;>rfl];exact h
 ·rename_i z
  rw[List.map_append];refine List.nodup_append.mpr ⟨h,ζ,λa c b hb e=>?_⟩;rw[List.map_singleton,List.mem_singleton]at hb;obtain⟨m,hm,rfl⟩:=List.mem_map.mp c;exact z (List.any_eq_true.mpr ⟨m,hm,decide_eq_true (e.trans hb)⟩)
theorem Pm.deed(p:Pm M)(j:TB w0 M){d:pP}{e:Ev}{k:Wm}(h:su M d=.ok (e,k)):Pm k:=by
 cases d with
 | make hh s a bulk=>
  simp only[su]at h;split at h
  ·right;refine Pm.sb (M:={ M with used:=M.used+(1+a+bulk),born:=M.born+1,cells:=pI M.cells ⟨M.born+1,bulk,M.sw.sense,0,List.replicate a.toNat none⟩ }) ⟨λx hx=>?_,p.nd,p.gg,p.le⟩ (Sb.slot _ _ _ _) ⟨rfl,rfl,λ_=>rfl⟩;obtain⟨n,m⟩:=p.nm x hx;refine⟨by show x.2.2<=M.born+1;omega,λi c hc b=>?_⟩;rcases gA hc with ⟨_,z⟩ | z
   ·rw[z]at b;have b:M.born+1=x.2.2:=b;omega
   ·exact m i c z b
  ·cases h
 | get hh s t f=>
  simp only[su]at h;split at h
  ·cases h
  ·split at h
   ·cases h
   ·split at h
    ·cases h
    ·right;exact p.sb (Sb.slot _ _ _ _) ⟨rfl,rfl,λ_=>rfl⟩
 | put hh t f s=>
  simp only[su]at h;split at h
  ·cases h
  ·split at h
   ·cases h
   ·rename_i c hc
    split at h
    ·cases h
    ·right;exact p.sb ((Sb.cell (c':={ c with fl:=c.fl.set f (aY M hh s) }) hc rfl (.inl rfl)).trans (Sb.notes _ _)) (Nn.cell _ _ _ _)
 | copy hh s t=>
  right;exact p.sb (Sb.slot _ _ _ _) ⟨rfl,rfl,λ_=>rfl⟩
 | drop hh s=>
  right;exact p.sb (Sb.slot _ _ _ _) ⟨rfl,rfl,λ_=>rfl⟩
 | give hh s g t=>
  right;exact p.sb ((Sb.slot _ _ _ _).trans (Sb.notes _ _)) (Nn.slot _ _ _ _ _)
 | write hh t l=>
  simp only[su]at h;split at h
  ·cases h
  ·split at h
   ·cases h
   ·rename_i c hc
    right;exact p.sb (Sb.cell (c':={ c with load:=l }) hc rfl (.inl rfl)) ⟨rfl,rfl,λ_=>rfl⟩
 | read hh t=>
  simp only[su]at h;split at h
  ·cases h
  ·split at h
   ·cases h
   ·right;exact p
 | name hh t z=>
  simp only[su]at h;split at h
  ·cases h
  ·split at h
   ·cases h
   ·rename_i c hc
    right;refine⟨λx hx=>?_,Zpj p.nd,p.gg,p.le⟩;rcases YQ hx with hx | hx
    ·exact p.nm x hx
    ·rw[hx];exact⟨(j.bn _ c hc).2,λi d hd b=>j.bu i _ d c hd hc b⟩
 | seek hh s z=>
  simp only[su]at h;split at h
  ·cases h
  ·split at h
   ·right;exact p.sb (Sb.slot _ _ _ _) ⟨rfl,rfl,λ_=>rfl⟩
   ·right;exact p.sb ((Sb.slot _ _ _ _).trans (Sb.notes _ _)) (Nn.slot _ _ _ _ _)
theorem RC{c:Ce}(hc:cellAt M M.sw.at'=some c){u:Int}{w:Sw}{i:Int}{d:Ce}(hd:cellAt { M with used:=u,cells:=M.cells.set M.sw.at'.toNat none,sw:=w } i=some d):i≠M.sw.at'/\cellAt M i=some d:=by
 obtain⟨b,h1⟩:=cj.mp hd;have h1:(M.cells.set M.sw.at'.toNat none)[i.toNat]? =some (some d):=h1;obtain⟨f,a⟩:=cj.mp hc
 by_cases z:M.sw.at'.toNat=i.toNat
 ·rw[z,List.getElem?_set_self (by rw[<- z];exact(cZ a).1)]at h1;cases h1
 ·rw[List.getElem?_set_ne z]at h1;exact⟨λe=>z (by rw[e]),cj.mpr ⟨b,h1⟩⟩
theorem Zly{c:Ce}(hc:cellAt M M.sw.at'=some c){u:Int}{w:Sw}{i:Int}(b:i≠M.sw.at'):cellAt { M with used:=u,cells:=M.cells.set M.sw.at'.toNat none,sw:=w } i=cellAt M i:=by
 obtain⟨f,d⟩:=cj.mp hc;unfold cellAt
 by_cases a:0<=i
 ·have:M.sw.at'.toNat≠i.toNat:=λe=>b δ;simp[a,List.getElem?_set_ne this]
 ·simp[a]
theorem Pm.step(p:Pm M)(u:TB w0 M){j:Wm}{lb:Int}{lw:AD}{e:Ev}(h:uF lb lw M e j):Pm j:=by
 have f:¬ ("walk":Str)="give":=ε
 have k:¬ ("rest":Str)="give":=ε
 cases h with
 | begin ph=>
  rw[YL];exact Pm.sb (M:=CZ M) ⟨p.nm,p.nd,λz=>absurd z f,λz=>absurd z f⟩ (Sb.notes _ _) (Nn.notes _ _)
 | walk x g c ph a hc=>exact Pm.sb (M:={ M with sw:={ M.sw with grey:=g,walks:=M.sw.walks+1 } }) ⟨p.nm,p.nd,λz=>absurd (ph.symm.trans z) f,p.le⟩ (Sb.notes _ _) (Nn.notes _ _)
 | look N ph a t n=>
  subst n;rw[YL];have q:=p.sb (Sb.notes (nhL (cX M) M.hands 0) M) (Nn.notes _ _);exact⟨q.nm,q.nd,q.gg,q.le⟩
 | cut q o ph a m l b=>exact⟨p.nm,p.nd,λ_=>a,λ_=>by show(0:Int)<=M.cells.length;omega⟩
 | lost q o i x c v ph a m l hx b hc r=>exact⟨p.nm,p.nd,λz=>absurd z (show ¬ ("lost":Str)="give" by decide),λz=>absurd z (show ¬ ("lost":Str)="give" by decide)⟩
 | pass ph lt hp=>exact⟨p.nm,p.nd,p.gg,λ_=>by show M.sw.at'+1<=M.sw.stop;omega⟩
 | back c ph lt hc r=>exact⟨λx hx=>⟨(p.nm x hx).1,λi d hd s=>(p.nm x hx).2 i d (RC hc hd).2 s⟩,p.nd,p.gg,λ_=>by show M.sw.at'+1<=M.sw.stop;omega⟩
 | fin ph lt=>exact⟨p.nm,p.nd,λz=>absurd z k,λz=>absurd z k⟩
 | again ph=>exact p
theorem Pm.Zxt{room w t:Int}{hs:Qm}:Pm (QX room hs w t):=by
 have a:¬ ("rest":Str)="give":=ε
 exact⟨λx hx=>(nomatch hx),.nil,λz=>absurd z a,λz=>absurd z a⟩
theorem Zz2{l:List (Str×(Int×Int))}{x:Str×(Int×Int)}(h:(l.map (·.1)).Nodup)(hx:x∈l):vq l x.1=some x.2:=by
 induction l with
 | nil=>cases hx
 | cons a l ih=>
  unfold vq;rw[List.find?_cons];rw[List.map_cons,List.nodup_cons]at h;rcases List.mem_cons.mp hx with e | hx
  ·rw[e,decide_eq_true rfl];rfl
  ·rw[decide_eq_false (λz=>h.1 (List.mem_map.mpr ⟨x,hx,z.symm⟩))];exact ih h.2 hx
end
section
variable {M:Wm}{w0:Int}
theorem Zh4{rows:List Tc}{b:Int}(h:∀y∈rows,y.b≠b):pR rows b=none:=by
 unfold pR;rw[List.find?_eq_none.mpr (λx hx=>by simpa using h x (List.mem_reverse.mp hx))];rfl
theorem Pm.due(p:Pm M)(d:TB w0 M)(ph:M.sw.phase="rest"\/M.sw.phase="give"){x:Str×(Int×Int)}(hx:x∈M.names):lW M x.2.1 x.2.2=decide (pR (sE M) x.2.2=none\/pR (sE M) x.2.2=some (.str "doomed")):=by
 by_cases h:∃i c,cellAt M i=some c/\c.birth=x.2.2
 ·obtain⟨i,c,hc,b⟩:=h;have f:=(p.nm x hx).2 i c hc b;have a:=d.Zzy (t:=(i,c)) (Ql hc);have a:pR (sE M) x.2.2=some (.str (nO M i c)):=by rw[<- b];exact a
  rw[a,<- f];unfold lW;rw[hc];dsimp only;rw[if_pos b];unfold nO;rcases ph with z | z
  ·rw[z,if_pos rfl];rw[decide_eq_false (λy=>absurd y.1 ε),decide_eq_false];rintro(y | y)
   ·cases y
   ·injection y with y;injection y with y;exact absurd y ε
  ·rw[z,if_neg (show ¬ ("give":Str)="rest" by decide),if_pos rfl]
   by_cases t:c.tone=M.sw.sense
   ·rw[if_pos t,decide_eq_false (λy=>y.2 t),decide_eq_false];rintro(y | y)
    ·cases y
    ·injection y with y;injection y with y;exact absurd y ε
   ·rw[if_neg t,decide_eq_true ⟨rfl,t⟩,decide_eq_true (.inr rfl)]
 ·have hn:pR (sE M) x.2.2=none:=Zh4 λy hy e=>by
   obtain⟨t,a,rfl⟩:=List.mem_map.mp hy;exact h ⟨t.1,t.2,nG a,e⟩
  rw[hn,decide_eq_true (.inl rfl)];unfold lW;cases hc:cellAt M x.2.1 with
  | none=>rfl
  | some c=>
   dsimp only;rw[if_neg (λe=>h ⟨_,c,hc,e⟩)]
theorem Zmi(ph:M.sw.phase="rest"\/M.sw.phase="give")(pl b:Int):Et M pl b=if lW M pl b=true then none else some pl:=by
 unfold Et;split
 ·rfl
 ·rename_i g
  have a:Pg M=false:=decide_eq_false (by rcases ph with z | z<;>rw[z]<;>decide);cases hc:cellAt M pl with
  | none=>exact absurd (show lW M pl b=true by unfold lW;rw[hc]) g
  | some c=>
   dsimp only;rw[if_neg (λy=>by rw[a]at y;exact absurd y.1 ε)]
def woT(b:Int)(rows:List Tc):List Tc:=(rows.filter λ(x:Tc)=>decide (x.b≠b)).map λx=>{ x with fs:=x.fs.map λy=>if y=some b then none else y }
theorem Ze2(b:Int)(rows:List Tc)(x:Tc):woT b (rows++[x])=woT b rows++if x.b=b then []else [{ x with fs:=x.fs.map λy=>if y=some b then none else y }]:=by
 unfold woT;rw[List.filter_append,List.map_append]
 by_cases e:x.b=b
 ·rw[if_pos e,List.filter_cons,if_neg (by simp[e])];rfl
 ·rw[if_neg e,List.filter_cons,if_pos (by simp[e])];rfl
theorem Zgg(a:TB w0 M){c:Ce}(hc:cellAt M M.sw.at'=some c){u:Int}{w:Sw}(y:AA):uy { M with used:=u,cells:=M.cells.set M.sw.at'.toNat none,sw:=w } y=if uy M y=some c.birth then none else uy M y:=by
 cases y with
 | none=>rw[show uy M none=none from rfl,if_neg ag];rfl
 | some i=>
  show(cellAt _ i).map _=_
  by_cases e:i=M.sw.at'
  ·have hn:cellAt { M with used:=u,cells:=M.cells.set M.sw.at'.toNat none,sw:=w } i=none:=by
    cases hd:cellAt { M with used:=u,cells:=M.cells.set M.sw.at'.toNat none,sw:=w } i with
    | none=>rfl
    | some d=>exact absurd e (RC hc hd).1
   rw[hn,if_pos (by show(cellAt M i).map _=_;rw[e,hc];rfl)];rfl
  ·rw[Zly hc e,if_neg]
   ·rfl
   ·intro z;obtain⟨d,hd,b⟩:=Option.map_eq_some_iff.mp (show(cellAt M i).map (·.birth)=some c.birth from z);exact e (a.bu i M.sw.at' d c hd hc b)
theorem Zm6{c:Ce}(hc:cellAt M M.sw.at'=some c){u:Int}{w:Sw}:gG { M with used:=u,cells:=M.cells.set M.sw.at'.toNat none,sw:=w }=(gG M).filter λt=>decide (t.1≠M.sw.at'):=by
 obtain⟨b,a⟩:=cj.mp hc;unfold gG;show(List.range (M.cells.set M.sw.at'.toNat none).length).filterMap _=_;rw[List.length_set,List.filter_filterMap];refine KQ λi _=>?_;show(((M.cells.set M.sw.at'.toNat none)[i]?).join).map _=_
 by_cases e:M.sw.at'.toNat=i
 ·rw[<- e,List.getElem?_set_self (cZ a).1,a];have:((M.sw.at'.toNat:Nat):Int)=M.sw.at':=δ
  simp[this,Option.filter]
 ·rw[List.getElem?_set_ne e];cases h:(M.cells[i]?).join with
  | none=>rfl
  | some d=>
   have:((i:Nat):Int)≠M.sw.at':=δ
   simp[this,Option.filter]
theorem Zor(d:TB w0 M){c:Ce}(hc:cellAt M M.sw.at'=some c){u:Int}{w:Sw}(a:w.phase=M.sw.phase/\w.sense=M.sw.sense/\w.grey=M.sw.grey):sE { M with used:=u,cells:=M.cells.set M.sw.at'.toNat none,sw:=w }=woT c.birth (sE M):=by
 unfold woT sE;rw[Zm6 hc,List.filter_map,List.map_map];have f:(gG M).filter (λt=>decide (t.1≠M.sw.at'))=(gG M).filter ((λ(x:Tc)=>decide (x.b≠c.birth)) ∘ Zot M):=List.filter_congr λt g=>by
  have h1:=nG g;show decide (t.1≠M.sw.at')=decide (t.2.birth≠c.birth)
  by_cases e:t.1=M.sw.at'
  ·rw[e,hc]at h1;rw[decide_eq_false (λz=>z e),decide_eq_false (λz=>z (by rw[Option.some.inj h1]))]
  ·rw[decide_eq_true e,decide_eq_true (show t.2.birth≠c.birth from λz=>e (d.bu _ _ _ _ h1 hc z))]
 rw[f];refine List.map_congr_left λt _=>?_;show(⟨t.1,t.2.birth,t.2.bulk,t.2.load,t.2.fl.map (uy _),nO _ t.1 t.2⟩:Tc)=⟨t.1,t.2.birth,t.2.bulk,t.2.load,(t.2.fl.map (uy M)).map _,nO M t.1 t.2⟩;have h:t.2.fl.map (uy { M with used:=u,cells:=M.cells.set M.sw.at'.toNat none,sw:=w })=(t.2.fl.map (uy M)).map λy=>if y=some c.birth then none else y:=by
  rw[List.map_map];exact List.map_congr_left λy _=>Zgg d hc y
 have i:nO { M with used:=u,cells:=M.cells.set M.sw.at'.toNat none,sw:=w } t.1 t.2=nO M t.1 t.2:=by
  unfold nO;dsimp only;rw[a.1,a.2.1,a.2.2]
 rw[h,i]
end
section
theorem Zle{F:KB.Fd}{w:AD}{ps:Au}{q:Int}(n:Nat)(h:some q∈ps)(a:(KB.Rb F q).isSome=true):∃v,(q,v)∈KB.onw F w n ps:=by
 obtain⟨k,hk,e⟩:=List.getElem_of_mem h;refine⟨w++[((n+k:Nat):Int)],List.mem_filterMap.mpr ⟨(some q,n+k),?_,?_⟩⟩
 ·refine List.mem_zipIdx_iff_le_and_getElem?_sub.mpr ⟨ζ,?_⟩;show ps[n+k - n]? =_;rw[Nat.add_sub_cancel_left,bK hk,e]
 ·unfold KB.Zb1;dsimp only;rw[if_pos a]
theorem Zkr{F:KB.Fd}{R:KB.Rw}{q l:List (Int×AD)}{k:Nat}(b:KB.RW F R q k l):
  (∀i x,i<k->q[i]? =some x->x.1∈l.map (·.1))/\(∀c∈R,∀y,some y∈c->(KB.Rb F y).isSome=true->∃v,(y,v)∈q)/\(∀x∈l,∀fl,KB.Rb F x.1=some fl->∀y,some y∈fl->(KB.Rb F y).isSome=true->∃v,(y,v)∈q):=by
 induction b with
 | start=>
  refine⟨λi x h=>absurd h (Nat.not_lt_zero _),λc hr y hy f=>?_,λx hx=>(nomatch hx)⟩;obtain⟨n,hn,e⟩:=List.getElem_of_mem hr;obtain⟨v,hv⟩:=Zle (F:=F) (w:=[((n:Nat):Int)]) 0 hy f;exact⟨v,List.mem_flatMap.mpr ⟨(c,n),List.mem_zipIdx_iff_getElem?.mpr (by rw[bK hn,e]),hv⟩⟩
 | @old q k l p w b hq hp ih=>
  refine⟨λi x m hx=>?_,ih.2.1,ih.2.2⟩
  by_cases e:i=k
  ·rw[e,hq]at hx;cases hx;exact hp
  ·exact ih.1 i x δ hx
 | @new q k l p w fl b hq hp f ih=>
  have hk:k<q.length:=(cZ hq).1;have j:∀{y:Int},(∃v,(y,v)∈q)->∃v,(y,v)∈q++KB.onw F w 0 fl:=λ⟨v,h⟩=>⟨v,List.mem_append.mpr (.inl h)⟩;refine⟨λi x m hx=>?_,λc hr y hy f=>j (ih.2.1 c hr y hy f),λx hx g a y hy d=>?_⟩
  ·rw[List.getElem?_append_left δ]at hx;rw[List.map_append]
   by_cases e:i=k
   ·rw[e,hq]at hx;cases hx;exact List.mem_append.mpr (.inr (List.mem_singleton.mpr rfl))
   ·exact List.mem_append.mpr (.inl (ih.1 i x δ hx))
  ·rcases List.mem_append.mp hx with hx | hx
   ·exact j (ih.2.2 x hx g a y hy d)
   ·rw[List.mem_singleton.mp hx]at a;have a:KB.Rb F p=some g:=a;rw[f]at a;cases a;obtain⟨v,hv⟩:=Zle (F:=F) (w:=w) 0 hy d;exact⟨v,List.mem_append.mpr (.inr hv)⟩
end
inductive Rc(M:Wm):Int->Prop
 | hand {m:Str×Au}{j:Int}{c:Ce}:m∈M.hands->some j∈m.2->cellAt M j=some c->Rc M j
 | name {x:Str×(Int×Int)}{c:Ce}:x∈M.names->cellAt M x.2.1=some c->c.birth=x.2.2->c.tone=M.sw.sense->Rc M x.2.1
 | via {i j:Int}{c d:Ce}:Rc M i->cellAt M i=some c->some j∈c.fl->cellAt M j=some d->Rc M j
def Rg(M:Wm):Prop:=M.sw.phase="give"->∀i c,Rc M i->cellAt M i=some c->c.tone=M.sw.sense
section
variable {M N:Wm}{w0:Int}
theorem Rg.mv(p:Rg M)(ph:N.sw.phase=M.sw.phase)(se:N.sw.sense=M.sw.sense)(D:Int->Prop)
  (nw:∀i c,D i->cellAt N i=some c->c.tone=N.sw.sense/\∀y∈c.fl,y=none)
  (ce:∀i c,cellAt N i=some c->D i\/∃d,cellAt M i=some d/\d.tone=c.tone/\d.birth=c.birth/\∀j,some j∈c.fl->some j∈d.fl\/(Rc M j\/D j\/cellAt N j=none))
  (hd:∀m∈N.hands,∀j,some j∈m.2->Rc M j\/D j\/cellAt N j=none)
  (nm:∀x∈N.names,x∈M.names\/(Rc M x.2.1\/D x.2.1)):Rg N:=by
 intro z i c r hc;have b:∀{i:Int},Rc N i->Rc M i\/D i:=λ{i} r=>by
  induction r with
  | hand hm a hc=>
   rcases hd _ hm _ a with y | y | y
   ·exact .inl y
   ·exact .inr y
   ·rw[y]at hc;cases hc
  | @name x c hx hc hb g=>
   rcases nm x hx with y | y
   ·rcases ce _ c hc with e | ⟨d,h1,h2,h3,_⟩
    ·exact .inr e
    ·exact .inl (.name y h1 (h3.trans hb) (by rw[h2,g,se]))
   ·exact y
  | @via i j c d r hc a hd ih=>
   rcases ce i c hc with e | ⟨h,h1,h2,h3,h4⟩
   ·exact nomatch (nw i c e hc).2 _ a
   ·rcases ih with ih | ih
    ·rcases h4 j a with y | y | y | y
     ·rcases ce j d hd with e | ⟨k,f,_⟩
      ·exact .inr e
      ·exact .inl (.via ih h1 y f)
     ·exact .inl y
     ·exact .inr y
     ·rw[y]at hd;cases hd
    ·exact nomatch (nw i c ih hc).2 _ a
 rcases b r with y | y
 ·rcases ce i c hc with e | ⟨d,h1,h2,_⟩
  ·exact(nw i c e hc).1
  ·rw[<- h2,se];exact p (ph.symm.trans z) i d y h1
 ·exact(nw i c y hc).1
theorem Rg.cut{q f:List (Int×AD)}(ph:M.sw.phase="walk")(b:KB.RW (fdOf M) (gM M) q q.length f)(k:∀x∈f,∀c,cellAt M x.1=some c->c.tone=M.sw.sense){i:Int}{c:Ce}(r:Rc M i)(hc:cellAt M i=some c):c.tone=M.sw.sense:=by
 obtain⟨p,o,s⟩:=Zkr b;have fs:∀{j:Int}{d:Ce},cellAt M j=some d->(KB.Rb (fdOf M) j).isSome=true:=λ{j d} h=>by rw[Zd7,h];rfl
 have a:∀{j:Int},(∃v,(j,v)∈q)->j∈f.map (·.1):=λ{j} ⟨v,h⟩=>by
  obtain⟨n,hn,e⟩:=List.getElem_of_mem h;have:=p n q[n] hn (bK hn);rw[e]at this;exact this
 have l:∀{j:Int},Rc M j->j∈f.map (·.1):=λ{j} r=>by
  induction r with
  | hand hm m hc=>exact a (o _ (List.mem_append.mpr (.inl (List.mem_map.mpr ⟨_,hm,rfl⟩))) _ m (fs hc))
  | @name x c hx hc hb t=>
   refine a (o (fZ M) (List.mem_append.mpr (.inr (List.mem_singleton.mpr rfl))) _ (List.mem_map.mpr ⟨x,hx,?_⟩) (fs hc));unfold Et;have g:lW M x.2.1 x.2.2=false:=by
    unfold lW;rw[hc];dsimp only;rw[if_pos hb];exact decide_eq_false (λy=>absurd (ph.symm.trans y.1) ε)
   rw[g,if_neg ε,hc];dsimp only;rw[if_neg (λy=>y.2 t)]
  | @via i j c d r hc m hd ih=>
   obtain⟨x,hx,e⟩:=List.mem_map.mp ih;exact a (s x hx c.fl (by rw[e,Zd7,hc];rfl) j m (fs hd))
 obtain⟨x,hx,e⟩:=List.mem_map.mp (l r);exact k x hx c (by rw[e];exact hc)
end
section
variable {M N:Wm}{w0:Int}
theorem Zfb{h s:Nat}{x y:AA}{m:Str×Au}(hm:m∈(setSlot M h s x).hands)(hy:y∈m.2):y=x\/∃a∈M.hands,y∈a.2:=by
 obtain⟨i,e,d⟩:=List.getElem_of_mem hm;have b:(M.hands.modify h λm=>(m.1,m.2.set s x))[i]? =some m:=by rw[<- d];exact bK e
 rw[List.getElem?_modify]at b;cases c:M.hands[i]? with
 | none=>rw[c]at b;cases b
 | some a=>
  rw[c]at b
  by_cases z:h=i
  ·have e3:(a.1,a.2.set s x)=m:=by simpa[z]using b
   rw[<- e3]at hy;rcases List.mem_or_eq_of_mem_set (show y∈a.2.set s x from hy)with w | w
   ·exact .inr ⟨a,List.mem_of_getElem? c,w⟩
   ·exact .inl w
  ·have e3:a=m:=by simpa[z]using b
   exact .inr ⟨a,List.mem_of_getElem? c,by rw[e3];exact hy⟩
theorem slot_mem{h k:Nat}{j:Int}(e:aY M h k=some j):∃m,M.hands[h]? =some m/\some j∈m.2:=by
 unfold aY at e;cases hm:M.hands[h]? with
 | none=>rw[hm]at e;cases e
 | some m=>
  rw[hm]at e;have e:(m.2[k]?).join=some j:=e;cases hk:m.2[k]? with
  | none=>rw[hk]at e;cases e
  | some x=>
   rw[hk]at e;have e:x=some j:=e;subst e;exact⟨m,rfl,List.mem_of_getElem? hk⟩
theorem GZ{m:Str×Au}{j:Int}(hm:m∈M.hands)(a:some j∈m.2):Rc M j\/cellAt M j=none:=by
 cases h:cellAt M j with
 | none=>exact .inr rfl
 | some c=>exact .inl (.hand hm a h)
theorem JL{h k:Nat}{j:Int}(e:aY M h k=some j):Rc M j\/cellAt M j=none:=by
 obtain⟨m,hm,a⟩:=slot_mem e;exact GZ (List.mem_of_getElem? hm) a
theorem Rg.notes(l:Au)(p:Rg N):Rg (aZ N l).2:=by
 intro z i c r hc;have a:N.sw.phase="give":=(Nn.notes l N).ph.symm.trans z;have e:(aZ N l).2=N:=by rw[Pq (by rw[a];decide)]
 rw[e]at r hc ⊢;exact p a i c r hc
theorem Rg.slot(p:Rg M){h s:Nat}{x:AA}(hx:M.sw.phase="give"->∀j,x=some j->Rc M j\/cellAt M j=none):Rg (setSlot M h s x):=by
 intro z;have b:M.sw.phase="give":=z;refine Rg.mv p rfl rfl (λ_=>False) (λ_ _ f=>f.elim) (λi c hc=>.inr ⟨c,hc,rfl,rfl,λj a=>.inl a⟩) (λm hm j a=>?_) (λx hx=>.inl hx) z;rcases Zfb hm a with e | ⟨g,d,h1⟩
 ·rcases hx b j e.symm with y | y
  ·exact .inl y
  ·exact .inr (.inr y)
 ·rcases GZ (M:=M) d h1 with y | y
  ·exact .inl y
  ·exact .inr (.inr y)
theorem Rg.cell(p:Rg M){i:Int}{c c':Ce}(hc:cellAt M i=some c)(l:c'.tone=c.tone)(hb:c'.birth=c.birth)(g:∀j,some j∈c'.fl->some j∈c.fl\/Rc M j\/cellAt M j=none):Rg (setCell M i c'):=by
 have b:∀{j:Int},cellAt M j=none->cellAt (setCell M i c') j=none:=λ{j} h=>by
  rw[nD hc,if_neg (λe=>by rw[e,hc]at h;cases h)];exact h
 refine Rg.mv p rfl rfl (λ_=>False) (λ_ _ f=>f.elim) (λk d hd=>.inr ?_) (λm hm j a=>?_) (λx hx=>.inl hx)
 ·rw[nD hc]at hd
  by_cases e:k=i
  ·rw[if_pos e]at hd;cases hd;refine⟨c,by rw[e];exact hc,l.symm,hb.symm,λj a=>?_⟩;rcases g j a with y | y | y
   ·exact .inl y
   ·exact .inr (.inl y)
   ·exact .inr (.inr (.inr (b y)))
  ·rw[if_neg e]at hd;exact⟨d,hd,rfl,rfl,λj a=>.inl a⟩
 ·rcases GZ (M:=M) hm a with y | y
  ·exact .inl y
  ·exact .inr (.inr (b y))
theorem Rg.deed(p:Rg M){d:pP}{e:Ev}{B:Wm}(h:su M d=.ok (e,B)):Rg B:=by
 cases d with
 | make hh s a bulk=>
  simp only[su]at h;split at h
  ·right;have E:∀{j:Int},cellAt M j=none->j=((mW M.cells:Nat):Int)\/cellAt { M with used:=M.used+(1+a+bulk),born:=M.born+1,cells:=pI M.cells ⟨M.born+1,bulk,M.sw.sense,0,List.replicate a.toNat none⟩ } j=none:=λ{j} h=>by
    cases hd:cellAt { M with used:=M.used+(1+a+bulk),born:=M.born+1,cells:=pI M.cells ⟨M.born+1,bulk,M.sw.sense,0,List.replicate a.toNat none⟩ } j with
    | none=>exact .inr rfl
    | some d=>
     rcases gA hd with ⟨y,_⟩ | y
     ·exact .inl y
     ·rw[h]at y;cases y
   refine Rg.mv p rfl rfl (λi=>i=((mW M.cells:Nat):Int)) (λi c e hc=>?_) (λi c hc=>?_) (λm hm j k=>?_) (λx hx=>.inl hx)
   ·have hc:cellAt { M with used:=M.used+(1+a+bulk),born:=M.born+1,cells:=pI M.cells ⟨M.born+1,bulk,M.sw.sense,0,List.replicate a.toNat none⟩ } i=some c:=hc;rw[e,Vq]at hc;cases hc;exact⟨rfl,λy hy=>List.eq_of_mem_replicate hy⟩
   ·rcases gA (u:=M.used+(1+a+bulk)) (b:=M.born+1) hc with ⟨y,_⟩ | y
    ·exact .inl y
    ·exact .inr ⟨c,y,rfl,rfl,λj k=>.inl k⟩
   ·rcases Zfb hm k with e | ⟨I,C,h1⟩
    ·exact .inr (.inl (Option.some.inj e))
    ·rcases GZ (M:=M) C h1 with y | y
     ·exact .inl y
     ·rcases E y with y | y
      ·exact .inr (.inl y)
      ·exact .inr (.inr y)
  ·cases h
 | get hh s t f=>
  simp only[su]at h;split at h
  ·cases h
  ·rename_i x hx
   split at h
   ·cases h
   ·rename_i c hc
    split at h
    ·cases h
    ·rename_i v hv
     right;refine p.slot λ_ j e=>?_;cases hd:cellAt M j with
     | none=>exact .inr rfl
     | some d=>
      rcases JL hx with y | y
      ·exact .inl (.via y hc (by rw[<- e];exact List.mem_of_getElem? hv) hd)
      ·rw[hc]at y;cases y
 | put hh t f s=>
  simp only[su]at h;split at h
  ·cases h
  ·split at h
   ·cases h
   ·rename_i c hc
    split at h
    ·cases h
    ·right;refine Rg.notes _ (p.cell (c':={ c with fl:=c.fl.set f (aY M hh s) }) hc rfl rfl λj k=>?_);rcases List.mem_or_eq_of_mem_set k with y | y
     ·exact .inl y
     ·exact .inr (JL y.symm)
 | copy hh s t=>
  right;exact p.slot λ_ j e=>JL e
 | drop hh s=>
  right;exact p.slot λ_ j e=>nomatch e
 | give hh s g t=>
  right;exact Rg.notes _ (p.slot λ_ j e=>JL e)
 | write hh t l=>
  simp only[su]at h;split at h
  ·cases h
  ·split at h
   ·cases h
   ·rename_i c hc
    right;exact p.cell (c':={ c with load:=l }) hc rfl rfl λj k=>.inl k
 | read hh t=>
  simp only[su]at h;split at h
  ·cases h
  ·split at h
   ·cases h
   ·right;exact p
 | name hh t z=>
  simp only[su]at h;split at h
  ·cases h
  ·rename_i H o
   split at h
   ·cases h
   ·rename_i c hc
    right;refine Rg.mv p rfl rfl (λ_=>False) (λ_ _ f=>f.elim) (λi c hc=>.inr ⟨c,hc,rfl,rfl,λj k=>.inl k⟩) (λm hm j k=>?_) (λx hx=>?_)
    ·rcases GZ (M:=M) hm k with y | y
     ·exact .inl y
     ·exact .inr (.inr y)
    ·rcases YQ hx with hx | hx
     ·exact .inl hx
     ·rw[hx];rcases JL o with y | y
      ·exact .inr (.inl y)
      ·rw[hc]at y;cases y
 | seek hh s z=>
  simp only[su]at h;split at h
  ·cases h
  ·rename_i w b D
   split at h
   ·right;exact p.slot λ_ j e=>nomatch e
   ·rename_i n
    right;refine Rg.notes _ (p.slot λgv j e=>?_);cases e;obtain⟨x,hx,ex⟩:=Option.map_eq_some_iff.mp D;have q:=List.mem_of_find?_eq_some hx;cases hc:cellAt M w with
    | none=>exact .inr rfl
    | some c=>
     unfold lW at n;rw[hc]at n;dsimp only at n
     by_cases r:c.birth=b
     ·rw[if_pos r]at n;have tc:c.tone=M.sw.sense:=Decidable.byContradiction λy=>n (decide_eq_true ⟨gv,y⟩);have A:x.2.1=w:=by rw[ex]
      have F:x.2.2=b:=by rw[ex]
      have:=Rc.name (M:=M) q (by rw[A];exact hc) (by rw[F];exact r) tc;rw[A]at this;exact .inl this
     ·rw[if_neg r]at n;exact absurd rfl n
theorem Rg.step(p:Rg M){s:Wm}{lb:Int}{lw:AD}{e:Ev}(h:uF lb lw M e s):Rg s:=by
 have l:¬ ("walk":Str)="give":=ε
 have hr:∀{N:Wm},N.hands=M.hands->(∀j,cellAt M j=none->cellAt N j=none)->∀m∈N.hands,∀j,some j∈m.2->Rc M j\/False\/cellAt N j=none:=λ{N} u A m hm j a=>by
  rw[u]at hm;rcases GZ (M:=M) hm a with y | y
  ·exact .inl y
  ·exact .inr (.inr (A j y))
 cases h with
 | begin ph=>
  intro z;rw[YL]at z;exact absurd ((Nn.notes _ _).ph.symm.trans z) l
 | walk x g c ph k hc=>
  intro z;exact absurd (ph.symm.trans ((Nn.notes _ { M with sw:={ M.sw with grey:=g,walks:=M.sw.walks+1 } }).ph.symm.trans z)) l
 | look N ph k C w=>
  subst w;intro z;rw[YL]at z;exact absurd (ph.symm.trans ((Nn.notes (nhL (cX M) M.hands 0) M).ph.symm.trans z)) l
 | cut q B ph k t o b=>
  intro _ i c r hc;refine Rg.cut ph o b (i:=i) (c:=c) ?_ hc;clear hc
  induction r with
  | hand hm a hc=>exact .hand hm a hc
  | name hx hc hb n=>exact .name hx hc hb n
  | via r hc a hd ih=>exact .via ih hc a hd
 | lost q B i x c v ph k t o hx b hc n=>exact λz=>absurd z (show ¬ ("lost":Str)="give" by decide)
 | pass ph lt hp=>exact Rg.mv p rfl rfl (λ_=>False) (λ_ _ f=>f.elim) (λi c hc=>.inr ⟨c,hc,rfl,rfl,λj a=>.inl a⟩) (hr rfl λ_ h=>h) (λx hx=>.inl hx)
 | back c ph lt hc n=>
  refine Rg.mv p rfl rfl (λ_=>False) (λ_ _ f=>f.elim) (λi d hd=>.inr ⟨d,(RC hc hd).2,rfl,rfl,λj a=>.inl a⟩) (hr rfl λj h=>?_) (λx hx=>.inl hx);cases hd:cellAt { M with used:=M.used - (1+c.fl.length+c.bulk),cells:=M.cells.set M.sw.at'.toNat none,sw:={ M.sw with at':=M.sw.at'+1,passes:=M.sw.passes+1 } } j with
  | none=>rfl
  | some d=>rw[(RC hc hd).2]at h;cases h
 | fin ph lt=>exact λz=>absurd z (show ¬ ("rest":Str)="give" by decide)
 | again ph=>exact p
theorem Rg.rows(p:Rg M)(ph:M.sw.phase="give"){c:Ce}(hc:cellAt M M.sw.at'=some c)(a:c.tone≠M.sw.sense){u:Int}{w:Sw}:rowsOf { M with used:=u,cells:=M.cells.set M.sw.at'.toNat none,sw:=w }=rowsOf M:=by
 unfold rowsOf;refine List.map_congr_left λm hm=>List.map_congr_left λy hy=>?_;cases y with
 | none=>rfl
 | some i=>
  have ne:i≠M.sw.at':=λe=>by
   rw[e]at hy;exact a (p ph _ c (.hand hm hy hc) hc)
  show(cellAt _ i).map _=(cellAt M i).map _;rw[Zly hc ne]
theorem Rg.Zxt{room w t:Int}{hs:Qm}:Rg (QX room hs w t):=λz=>absurd z (show ¬ ("rest":Str)="give" by decide)
end
section
variable {M M':Wm}{w0:Int}
theorem Znw(p:Pm M)(u:Rg M)(j:TB w0 M)(ph:M.sw.phase="give"){lb:Int}{lw:AD}{e:Ev}(h:uF lb lw M e M')(a0:0<=M.sw.at'):
  M'.sw.stop=M.sw.stop/\rowsOf M'=rowsOf M/\M'.sw.grey=M.sw.grey/\(M'.sw.sense=M.sw.sense/\M'.sw.turn=M.sw.turn/\M'.sw.looked=M.sw.looked/\M'.sw.walks=M.sw.walks/\M'.sw.looks=M.sw.looks)/\
  ((M.sw.at'=M.sw.stop/\M'.sw.at'=M.sw.at'/\M'.used=M.used/\M'.sw.passes=M.sw.passes/\M'.sw.phase="rest"/\sE M'=sE M/\e=⟨"end",some M.sw.turn,[M.sw.walks,M.sw.looks,M.sw.passes]⟩)\/
  (M.sw.at'≠M.sw.stop/\M'.sw.at'=M.sw.at'+1/\M'.sw.passes=M.sw.passes+1/\M'.sw.phase="give"/\
   (((∀c,cellAt M M.sw.at'=some c->c.tone=M.sw.sense)/\sE M'=sE M/\M'.used=M.used/\e=⟨"pass",some M.sw.at',[]⟩)\/
   ∃c,cellAt M M.sw.at'=some c/\c.tone≠M.sw.sense/\sE M'=woT c.birth (sE M)/\M'.used=M.used - (1+c.fl.length+c.bulk)/\M'.cells[M.sw.at'.toNat]? =some none/\uy M' (some M.sw.at')=none/\e=⟨"back",some c.birth,[M.sw.at']⟩))):=by
 have no:∀{z:Str},M.sw.phase=z->z≠"give"->False:=λh n=>n (h.symm.trans ph);cases h with
 | begin a=>exact(no a ε).elim
 | walk x g c a f hc=>exact(no a ε).elim
 | look N a f w y=>exact(no a ε).elim
 | cut q s a f l k d=>exact(no a ε).elim
 | lost q s i x c v a f l k hx d hc b=>exact(no a ε).elim
 | again a=>exact(no a ε).elim
 | pass a lt hp=>exact⟨rfl,rfl,rfl,⟨rfl,rfl,rfl,rfl,rfl⟩,.inr ⟨δ,rfl,rfl,ph,.inl ⟨hp,rfl,rfl,rfl⟩⟩⟩
 | back c a lt hc b=>
  refine⟨rfl,u.rows ph hc b,rfl,⟨rfl,rfl,rfl,rfl,rfl⟩,.inr ⟨δ,rfl,rfl,ph,.inr ⟨c,hc,b,Zor j hc ⟨rfl,rfl,rfl⟩,rfl,?_,?_,rfl⟩⟩⟩
  ·obtain⟨A,m⟩:=cj.mp hc;show(M.cells.set M.sw.at'.toNat none)[M.sw.at'.toNat]? =_;exact List.getElem?_set_self (cZ m).1
  ·rw[Zgg j hc,if_pos (by show(cellAt M M.sw.at').map _=_;rw[hc];rfl)]
 | fin a lt=>
  have le:=p.le ph;refine⟨rfl,rfl,rfl,⟨rfl,rfl,rfl,rfl,rfl⟩,.inl ⟨δ,rfl,rfl,rfl,rfl,?_,rfl⟩⟩;unfold sE;refine List.map_congr_left λt b=>?_;have hc:=nG b;have tc:t.2.tone=M.sw.sense:=Decidable.byContradiction λh=>by
   have:=j.gv ph _ _ hc h;omega
  show(⟨t.1,t.2.birth,t.2.bulk,t.2.load,t.2.fl.map (uy M),nO _ t.1 t.2⟩:Tc)=⟨t.1,t.2.birth,t.2.bulk,t.2.load,t.2.fl.map (uy M),nO M t.1 t.2⟩;have o:nO { M with sw:={ M.sw with phase:="rest" } } t.1 t.2="kept":=by unfold nO;rw[if_pos rfl]
  have r:nO M t.1 t.2="kept":=by unfold nO;rw[ph,if_neg (show ¬ ("give":Str)="rest" by decide),if_pos rfl,if_pos tc]
  rw[o,r]
end
theorem Zs2{a:Type}(f:a->V)(ps:List a):(List.range ps.length).filterMap (λ(i:Nat)=>(ps[i]?).map f)=ps.map f:=by
 have e:(λ(i:Nat)=>(ps[i]?).map f)=λ(i:Nat)=>ps[i]?.bind (some ∘ f):=by funext i;cases ps[i]?<;>rfl
 rw[e,Q5,List.filterMap_eq_map]
def WoI(H:Hp)(a:AH)(rows:List Tc):Prop:=∃ls:AE,H a=some (.lst (ls.map V.ref))/\ls.length=rows.length/\∀(j:Nat) r x,ls[j]? =some r->rows[j]? =some x->∃f,f≠a/\Tc1 H r f x
theorem WoI.same{H H':Hp}{l:AH}{rows:List Tc}(s:aU H H')(h:WoI H l rows):WoI H' l rows:=by
 obtain⟨ls,h1,h2,h3⟩:=h;refine⟨ls,s _ _ h1,h2,λj r x b c=>?_⟩;obtain⟨f,n,z1,a⟩:=h3 j r x b c;exact⟨f,n,s _ _ z1,s _ _ a⟩
theorem WoI.add{H:Hp}{l:AH}{rows:List Tc}{ls:AE}{r f:AH}{x:Tc}(h1:H l=some (.lst (ls.map V.ref)))(h2:ls.length=rows.length)(h3:∀(j:Nat) r x,ls[j]? =some r->rows[j]? =some x->∃f,f≠l/\Tc1 H r f x)(n:f≠l)(o:Tc1 H r f x):WoI (upd H l (.lst (ls.map V.ref++[.ref r]))) l (rows++[x]):=by
 refine⟨ls++[r],by rw[List.map_append];exact aq,by rw[List.length_append,List.length_append,h2];rfl,λj h e a b=>?_⟩;have mv:∀{r f:AH}{x:Tc}{o:HO},f≠l->Tc1 H r f x->Tc1 (upd H l o) r f x:=λ{r f x o} n t=>⟨(aD (qe t.1 h1 (λz=>by cases z))).trans t.1,(aD n).trans t.2⟩
 by_cases k:j<ls.length
 ·rw[List.getElem?_append_left k]at a;rw[List.getElem?_append_left δ]at b;obtain⟨d,c,i⟩:=h3 j h e a b;exact⟨d,c,mv c i⟩
 ·have hl:=(cZ a).1;rw[List.length_append,List.length_singleton]at hl;have g:j=ls.length:=δ
  subst g;rw[List.getElem?_append_right Γ,Nat.sub_self]at a;rw[h2,List.getElem?_append_right Γ,Nat.sub_self]at b;cases a;cases b;exact⟨f,n,mv n o⟩
theorem WoI.cO{H:Hp}{l:AH}{rows:List Tc}(h:WoI H l rows):O9 H l rows:=by
 obtain⟨ls,h1,h2,h3⟩:=h;exact⟨ls,h1,h2,λj r x a b=>(h3 j r x a b).imp λf z=>z.2⟩
def Dd(K:aC):Sp:=λvs H Q E=>∃l b,vs=[.ref l,.int b]/\∃rows:List Tc,O9 H l rows/\rows.length<=1000/\(∀x∈rows,x.fs.length<=1000)/\∀a H',aU H H'->H a=none->O9 H' a (woT b rows)->Q (.ref a) H'
theorem Zst(b:Int)(rows:List Tc):(woT b rows).length<=rows.length:=by
 unfold woT;rw[bB];exact List.length_filter_le _ _
section
theorem Ri{l:AH}{b:Int}(q:∃rows:List Tc,O9 H l rows/\rows.length<=1000/\(∀x∈rows,x.fs.length<=1000)/\∀a H',aU H H'->H a=none->O9 H' a (woT b rows)->Q (.ref a) H'):uW K ξ [↑l,some (.int b),none,none,none] H:=by
 obtain⟨rows,⟨ls,o1,hl,o2⟩,hb,h50,q⟩:=q;unfold uW;apply⟨aR ζ,λk t=>?_⟩;have E:=aK t (.lst []);have g1:WoI (upd H k (.lst [])) k (woT b []):=⟨[],aq,rfl,λj r x e=>nomatch e⟩;generalize upd H k (.lst [])=H1 at E g1 ⊢;apply⟨l,rfl,⟨_,cB.of (E _ _ o1)⟩,forL (ls.map V.ref) (λi M u=>∃L P,M=[↑l,some (.int b),↑k,L,P]/\aU H u/\WoI u k (woT b (rows.take i))) ⟨_,_,rfl,E,g1⟩ (by rintro _ _ _ _ ⟨_,_,_,y,_⟩;exact cB.of (y _ _ o1)) ?_ ?_⟩
 ·rintro i y M u hy ⟨L,P,rfl,w,v⟩;rw[cF]at hy;obtain⟨r,hr,rfl⟩:=Option.map_eq_some_iff.mp hy;have hi:i<ls.length:=(cZ hr).1;obtain⟨x,hx⟩:∃x,rows[i]? =some x:=⟨_,bK δ⟩;have A:rows.take (i+1)=rows.take i++[x]:=by rw[List.take_add_one,hx];rfl
  obtain⟨fa,h,g⟩:=o2 i r x hr hx;have h:=w _ _ h;have g:=w _ _ g;have h5:=h50 x (List.mem_of_getElem? hx);apply KD ?_;exists r,_,4,_,rfl,rfl,fY.of h,rfl;refine⟨_,rfl,⟨_,cB.of g⟩,?_⟩;refine Ry (cB.of g) (λi=>(x.fs[i]?).map λy=>oV (if y=some b then none else y)) (by rw[bB];omega) (λi y hy=>?_) ?_
  ·rw[cF]at hy;obtain⟨c,hc,rfl⟩:=Option.map_eq_some_iff.mp hy;refine⟨λq hq=>?_,λy q hy hq=>?_⟩
   ·rw[hc]at hq;walk_at"c";apply hq
   ·rw[hc]at hy;have hy:some (oV (if c=some b then none else c))=some y:=hy;cases hy;walk_at"c";cases c with
    | none=>
     rw[show oV none=V.non from rfl];apply hq
    | some c=>
     rw[show oV (some c)=V.int c from rfl];apply uE (λe=>?_) (λe=>?_)
     ·rw[if_pos (by rw[e])]at hq;apply hq
     ·rw[if_neg (λz=>e (Option.some.inj z))]at hq;apply hq
  intro m C;rw[bB,Zs2,show x.fs.map (λy=>oV (if y=some b then none else y))=(x.fs.map λy=>if y=some b then none else y).map oV from by rw[List.map_map];rfl];generalize zz:upd u m _=H3;obtain⟨D,g3⟩:=nwO C zz;have s:=D _ _ h;exists r,_,1,_,rfl,rfl,fY.of s,rfl;ext;have F:m≠k:=by
   obtain⟨_,z,_⟩:=v;exact(aH z C).symm
  refine xN (λz=>?_) (λz=>?_)
  ·obtain⟨ls2,X,Y,k3⟩:=v.same D;exists .inl ⟨rfl,_,cB.of X⟩;apply⟨r,_,rfl,fY.of s,(show ¬ (HT.qU 6 0 none=0/\HT.qU 6 6 (some 4)=6) by decide),λZ O=>?_⟩;rw[show Rh [V.int x.p,.int x.b,.int x.bulk,.int x.load,.ref fa,.str x.tone] none (some 4)=[.int x.p,.int x.b,.int x.bulk,.int x.load]from rfl];generalize zz:upd H3 Z _=H4;obtain⟨R,g4⟩:=nwO O zz;exists r,_,5,_,rfl,rfl,fY.of (R _ _ s),rfl;apply⟨aR ζ,λT I=>?_⟩;generalize zz:upd H4 T _=H5;obtain⟨U,g5⟩:=nwO I zz;apply⟨Z,T,_,_,rfl,rfl,fY.of (U _ _ g4),fY.of g5,ag,aR ζ,ag,λ_ J N=>?_⟩;have S:=aK N (.tup [.int x.p,.int x.b,.int x.bulk,.int x.load,.ref m,.str x.tone]);have W:upd H5 J (.tup [.int x.p,.int x.b,.int x.bulk,.int x.load,.ref m,.str x.tone]) J=some (.tup [.int x.p,.int x.b,.int x.bulk,.int x.load,.ref m,.str x.tone]):=aq;rw[show [V.int x.p,.int x.b,.int x.bulk,.int x.load]++[V.ref m,.str x.tone]=[.int x.p,.int x.b,.int x.bulk,.int x.load,.ref m,.str x.tone]from rfl];generalize upd H5 J (.tup [.int x.p,.int x.b,.int x.bulk,.int x.load,.ref m,.str x.tone])=H6 at S W ⊢;have d:=R.trans (U.trans S);have B:=d _ _ X;have lw:=Zst b (rows.take i);rw[List.length_take]at lw;apply⟨k,_,_,rfl,rfl,B,by rw[bB,Y];exact Nat.lt_of_le_of_lt (show _<=4000 by omega) ε,?_⟩;apply⟨_,_,rfl,λc o hc=>by rw[aD (aH hc t)];exact d _ _ (D _ _ (w _ _ hc)),?_⟩;rw[A,Ze2,if_neg z];refine WoI.add B Y (λj r x e1 e2=>?_) F ⟨W,d _ _ g3⟩;obtain⟨f,n,z1,z2⟩:=k3 j r x e1 e2;exact⟨f,n,d _ _ z1,d _ _ z2⟩
  ·exists _,_,rfl,w.trans D;rw[A,Ze2,if_pos z,List.append_nil];exact v.same D
 ·rintro M u ⟨L,P,rfl,w,v⟩;rw[bB,List.take_of_length_le δ]at v;apply q k u w t v.cO
end
theorem YS(z:Str)(f:Int->Option V)(b:Int):Ke z f [] b=f b:=by unfold Ke;rw[if_neg ζ]
def Le(X:Cs):Sp:=λvs H Q E=>∃wo lc ls a,vs=[.ref wo,.ref lc,.ref ls,.ref a]/\∃T s A M w0 l,WJ X H T s A M/\A.wo=wo/\Dv M/\TB w0 M/\M.sw.phase="rest"/\O9 H lc (sE M)/\H ls=some (.lst ((stL M.sw).map V.int))/\H a=some (.tup [.str "end",.int M.sw.turn,.ref l])/\H l=some (.lst ([M.sw.walks,M.sw.looks,M.sw.passes].map V.int))/\∀H',aU H H'->Q (.bl true) H'
section
theorem Uo{T:Tg}{s:Nat}{A:Wa}{M:Wm}{w0:Int}{lc:AH}{σ:St}{i:Nat}(j:WJ X H T s A M)(ok:Dv M)(E:TB w0 M)(oc:O9 H lc (sE M))(w:σ[0]? =some (↑A.wo))(o:σ[i]? =some (↑lc))(q:∀H',aU H H'->Q (.bl true) H'):
  (aQ (pO K) [] E0 (θ (aQ (oY X) [] E0 (θ π)) (ak i) (aQ (qz K) [] E0 (θ (ak i) (fO aB) (tC (.str "")))))) σ H Q:=by
 have y:=ok.cl;have I:=DP (M:=M);have D:=vA (M:=M);exists _,w;apply⟨_,rfl,T,s,A,M,j,rfl,δ,λc hc=>by have:=ok.fl c hc;omega,λg rs p C o1 hl hr _=>?_⟩;have h:O9 p g (sE M):=⟨rs,o1,by rw[hl];exact vA.symm,λi r x f a=>by
  unfold sE at a;rw[cF]at a;obtain⟨t,m,rfl⟩:=Option.map_eq_some_iff.mp a;obtain⟨B,z,_⟩:=hr i r t f m;exact⟨B,z⟩⟩
 exists _,o;exists _,o;apply⟨aR ζ,λn l=>?_⟩;generalize zz:upd p n _=H2;obtain⟨v,k⟩:=nwO l zz;have k:H2 n=some (.lst (([]:AD).map V.int)):=k;have e:=C.trans v;apply⟨_,_,_,rfl,sE M,[],oc.same e,δ,k,ζ,λd J u nd od=>?_⟩;have b:=e.trans u;apply⟨_,_,_,rfl,sE M,sE M,_,_,(h.same v).same u,oc.same b,od,rfl,δ,λj x L f a=>?_,λH' F=>q H' (b.trans F)⟩;rw[f]at a;cases a;refine⟨rfl,rfl,rfl,rfl,rfl,?_⟩;rw[YS];obtain⟨t,m,rfl⟩:=List.mem_map.mp (List.mem_of_getElem? f);exact E.Zzy m
theorem X4{wo lc ls p:AH}(g:qT K X)(q:∃T s A M w0 l,WJ X H T s A M/\A.wo=wo/\Dv M/\TB w0 M/\M.sw.phase="rest"/\O9 H lc (sE M)/\H ls=some (.lst ((stL M.sw).map V.int))/\H p=some (.tup [.str "end",.int M.sw.turn,.ref l])/\H l=some (.lst ([M.sw.walks,M.sw.looks,M.sw.passes].map V.int))/\∀H',aU H H'->Q (.bl true) H'):
  zp K (yt K) (pO K) (qz K) (oY X) ξ [↑wo,↑lc,↑ls,↑p,none] H:=by
 obtain⟨T,s,A,M,w0,l,j,rfl,ok,P,ph,oc,c,o,ol,q⟩:=q;obtain⟨Z,ow⟩:=j.jb.ow;obtain⟨ds,os⟩:=j.js.os;have I:=ok.cl;have U:=DP (M:=M);have O:=vA (M:=M);obtain⟨d,x,W,D⟩:=id oc;unfold zp;apply⟨lc,rfl,⟨_,cB.of x⟩,forL (d.map V.ref) (λi m f=>∃h,m=[↑A.wo,↑lc,↑ls,↑p,h]/\f=H) ⟨_,rfl,rfl⟩ (by rintro _ _ _ _ ⟨_,_,e⟩;rw[e];exact cB.of x) ?_ ?_⟩
 ·rintro i y m f w ⟨h,rfl,rfl⟩;rw[cF]at w;obtain⟨r,b,rfl⟩:=Option.map_eq_some_iff.mp w;have J:i<d.length:=(cZ b).1;obtain⟨t,S⟩:∃t,(gG M)[i]? =some t:=⟨_,bK δ⟩;obtain⟨fa,z1,Y⟩:=D i r _ b (Zos S);have F:nO M t.1 t.2=("kept":Str):=by unfold nO;rw[if_pos ph]
  exists r,_,5,_,rfl,rfl,fY.of z1,rfl;apply xN (λz=>absurd F z) (λ_=>?_);apply⟨_,rfl,rfl⟩
 ·rintro m f ⟨h,rfl,rfl⟩;apply jg (cB.of c) (v:=.int M.sw.turn) rfl ?_;apply⟨ls,_,rfl,cB.of c,λC u=>?_⟩;rw[show Rh ((stL M.sw).map V.int) (some 3) none=[M.sw.walks,M.sw.looks,M.sw.passes].map V.int from rfl];generalize zz:upd f C _=H1;obtain⟨L,N⟩:=nwO u zz;apply⟨aR ζ,λt2 k=>?_⟩;generalize zz:upd H1 t2 _=H2;obtain⟨B,E⟩:=nwO k zz;have a:=L.trans B;exists _,_,rfl,_,_,_,_,_,a _ _ o,E,a _ _ ol,B _ _ N;apply aF (a _ _ ow) g.cW g.Nq aW ?_;apply aF (a _ _ os) g.cS g.n2 eF ?_;apply xN (λz=>absurd ph z) (λ_=>?_);refine rN ?_;refine U9 ?_;exact Uo (j.same a) ok P (oc.same a) rfl rfl λH' R=>q H' (a.trans R)
end
theorem MkO.ask{H:Hp}{d:AH}{f:Int->Option V}{k:Nat}(h:MkO H d f k)(b:Int):An H d (.int b) (f b):=by
 obtain⟨a,h1,_,h2⟩:=h;have:=An.k (k:=Sum.inl b) h1;rw[h2 b]at this;exact this
theorem Zvb{c ty e:TE}{σ:St}{H:Hp}{Q:VK}(h:c σ H λx d=>∃a,x=.ref a/\IsD d a/\ty σ d λy f=>e σ f λz b=>∃o,An b a y o/\Q (o.getD z) b):Zh7 c ty e σ H Q:=h
theorem Zm5{rows:List Tc}{b:Int}{v:V}(h:pR rows b=some v):∃z:Str,v=.str z:=by
 unfold pR at h;obtain⟨x,_,e⟩:=Option.map_eq_some_iff.mp h;exact⟨_,e.symm⟩
theorem ZBp{K:aC}{H:Hp}{l j:AH}{rows:List Tc}(h:O9 H l rows)(h':O9 H j rows):∃xs k,cB K H l xs/\cB K H j k/\Al (Dq K H 6) xs k:=by
 obtain⟨ls,h1,h2,h3⟩:=h;obtain⟨s,d,b,e⟩:=h';refine⟨_,_,cB.of h1,cB.of d,Zgi (by rw[bB,bB,h2,b]) λi u v n o=>?_⟩;rw[cF]at n o;obtain⟨r,hr,rfl⟩:=Option.map_eq_some_iff.mp n;obtain⟨p,c,rfl⟩:=Option.map_eq_some_iff.mp o;have m:i<rows.length:=by rw[<- h2];exact(cZ hr).1
 obtain⟨f,z1,t⟩:=h3 i r rows[i] hr (bK m);obtain⟨q,a,g⟩:=e i p rows[i] c (bK m);exact .inr ⟨r,p,rfl,rfl,.inr ⟨_,_,.inr ⟨fY.of z1,fY.of a⟩,.cons (.inl ⟨rfl,rfl⟩) (.cons (.inl ⟨rfl,rfl⟩) (.cons (.inl ⟨rfl,rfl⟩) (.cons (.inl ⟨rfl,rfl⟩) (.cons (.inr ⟨f,q,rfl,rfl,.inr ⟨_,_,.inl ⟨cB.of t,cB.of g⟩,Gn (Zcp _)⟩⟩) (.cons (.inl ⟨rfl,rfl⟩) .nil)))))⟩⟩
theorem Zxq{H:Hp}{T:Tg}{ns:AE}{names:List (Str×(Int×Int))}(h:Al (NmO H T) ns names){i:Nat}{kv:(Int ⊕ Str)×V}(e:(vp names ns)[i]? =some kv):∃m t,names[i]? =some m/\kv=(Sum.inr m.1,.ref t):=by
 unfold vp at e;rw[List.getElem?_zipWith]at e;cases h1:names[i]? with
 | none=>rw[h1]at e;cases e
 | some m=>
  cases h2:ns[i]? with
  | none=>rw[h1,h2]at e;cases e
  | some t=>
   rw[h1,h2]at e;exact⟨m,t,rfl,(Option.some.inj e).symm⟩
def Ld(X:Cs):Sp:=λvs H Q E=>∃wo,vs=[.ref wo]/\∃T s A M w0,s≠0/\WJ X H T s A M/\A.wo=wo/\Dv M/\TB w0 M/\Pm M/\(M.sw.phase="rest"\/M.sw.phase="give")/\∀H',aU H H'->Q (.bl true) H'
section
theorem XS{wo:AH}(Tx:qT K X)(q:∃T s A M w0,s≠0/\WJ X H T s A M/\A.wo=wo/\Dv M/\TB w0 M/\Pm M/\(M.sw.phase="rest"\/M.sw.phase="give")/\∀H',aU H H'->Q (.bl true) H'):
  zb K (qz K) (xr X) (Gv X) (yp X) (oY X) ξ [↑wo,none,none,none,none,none,none,none] H:=by
 obtain⟨T,s,A,M,w0,hs0,j,rfl,ok,tb,pm,ph,q⟩:=q;obtain⟨dw,ow⟩:=j.jb.ow;have om:=j.jn.om;have hcl:=ok.cl;have hnl:=ok.nl;have l5:=j.jd.l5;have lh:=j.jd.lh;have ltl:=DP (M:=M);have ltc:=vA (M:=M);have lnm:(vp M.names A.ns).length=M.names.length:=Zj3 j.jn.nms;unfold zb;apply⟨_,rfl,T,s,A,M,j,rfl,δ,λc hc=>by have:=ok.fl c hc;omega,λlc rs H1 s1 o1 hl hr _=>?_⟩;have oc:O9 H1 lc (sE M):=⟨rs,o1,by rw[hl];exact vA.symm,λi r x w l=>by
  unfold sE at l;rw[cF]at l;obtain⟨t,ht,rfl⟩:=Option.map_eq_some_iff.mp l;obtain⟨fa,z,_⟩:=hr i r t w ht;exact⟨fa,z⟩⟩
 apply⟨aR ζ,λe0 ne0=>?_⟩;generalize zz:upd H1 e0 _=H2;obtain⟨s2,g2⟩:=nwO ne0 zz;have g2:H2 e0=some (.lst (([]:AD).map V.int)):=g2;apply⟨_,_,_,rfl,sE M,[],oc.same s2,δ,g2,ζ,λd Y s3 nd od=>?_⟩;have od:MkO Y d (pR (sE M)) 5000:=by
  obtain⟨R,k1,k2,k3⟩:=od;exact⟨R,k1,k2,λb=>by rw[k3 b,YS]⟩
 have N:=s1.trans (s2.trans s3);apply⟨aR ζ,λa nlr=>?_⟩;generalize zz:upd Y a _=H4;obtain⟨s4,g4⟩:=nwO nlr zz;have g4:H4 a=some (.lst (((fZ M).take 0).map oV)):=g4;have s14:=N.trans s4;apply aF (s14 _ _ ow) Tx.cW Tx.nWn jP ?_;apply Zv6 (s14 _ _ om) λlk nlk=>?_;generalize zz:upd H4 lk _=H5;obtain⟨s5,g5⟩:=nwO nlk zz;have g45:=s5 _ _ g4;have ZCb:lk≠a:=(aH g4 nlk).symm;refine⟨lk,rfl,⟨_,cB.of g5⟩,forL ((vp M.names A.ns).map λp=>kV p.1) (λi P f=>∃O E B C u,P=[↑A.wo,↑d,↑a,O,E,B,C,u]/\aU Y f/\f lk=some (.lst ((vp M.names A.ns).map λp=>kV p.1))/\f a=some (.lst (((fZ M).take i).map oV))) ⟨_,_,_,_,_,rfl,s4.trans s5,g5,g45⟩ (by rintro _ _ _ _ ⟨_,_,_,_,_,_,_,z,_⟩;exact cB.of z) ?_ ?_⟩
 ·rintro i y P f hi ⟨O,E,B,C,u,rfl,s6,g6,J⟩;rw[cF]at hi;obtain⟨kv,hkv,rfl⟩:=Option.map_eq_some_iff.mp hi;obtain⟨m,t,hm,rfl⟩:=Zxq j.jn.nms hkv;have h:=N.trans s6;have jx:=j.same h;have hmm:=List.mem_of_getElem? hm;have gn:=Zz2 pm.nd hmm;obtain⟨p,b,U,g8,g9,I⟩:∃p b U,vq M.names m.1=some (p,b)/\o9 (vp M.names A.ns) (Sum.inr m.1)=↑U/\f U=some (.tup [.int p,.int b]):=by
   rcases Zqh (z:=m.1) jx.jn.nms with ⟨z,_⟩ | ⟨p,b,U,z1,z2,z3⟩
   ·rw[gn]at z;cases z
   ·exact⟨p,b,U,z1,z2,z3.1⟩
  rw[gn]at g8;have em:m.2=(p,b):=Option.some.inj g8;have dg:An f A.nm (.str m.1) (↑U):=by
   have:=An.k (k:=Sum.inr m.1) (h _ _ om);rw[g9]at this;exact this
  have hd:=pm.due tb ph hmm;rw[em]at hd;have hd:lW M p b=decide (pR (sE M) b=none\/pR (sE M) b=some (.str "doomed")):=hd;have od6:=od.same s6;rw[show kV (Sum.inr m.1:Int ⊕ Str)=V.str m.1 from rfl];apply aF (h _ _ ow) Tx.cW Tx.nWn jP ?_;exists A.nm,_,rfl,dg;refine⟨U,_,rfl,fY.of I,rfl,_,_,rfl,?_⟩;exists _,_,rfl;exists rfl;ext;have isd:IsD f d:=by
   obtain⟨R,k1,_⟩:=od6;exact .inl ⟨R,.inl k1⟩
  refine Zvb ?_;exists d,rfl,isd;exists _,od6.ask b;have er:(fZ M).take (i+1)=(fZ M).take i++[if lW M p b=true then none else some p]:=by
   have w:(fZ M)[i]? =some (if lW M p b=true then none else some p):=by
    unfold fZ;rw[cF,hm];show some (Et M m.2.1 m.2.2)=_;rw[em,Zmi ph]
   rw[List.take_add_one,w];rfl
  have hil:i<M.names.length:=(cZ hm).1;have j0:=jx.w0;have key:∀(D:Bool),D=lW M p b->(aN (bF (aQ (xr X) [] E0 (θ π (ak 4) (ak 5))) (aO 7))
    (aN (dD (Hq (R4 (bI (bx G.YF (ak 7) (tC (V.bl true)))) (bI (bx G.YF (ak 7) (tC (V.bl false))))) (bI (bx Rk (ak 7) (ak 6)))) (bG (tC (V.bl false))) bQ)
     (aN (dD (tB (ak 6)) (bF (tC V.non) (aO 4)) bQ) (vm (tBM K "list" vB Δ (θ (ak 4))))))) ⟨λP f=>∃O E B C u,P=[↑A.wo,↑d,↑a,O,E,B,C,u]/\aU Y f/\f lk=some (.lst ((vp M.names A.ns).map λp=>kV p.1))/\f a=some (.lst (((fZ M).take (i+1)).map oV)),Q,bG (bx (G.Zat K false) (aQ (yp X) [] E0 (θ π)) (bx wK (aQ (Gv X) [] E0 (θ π)) (fO (θ Δ)))) ⟨n,Q,bk,ct⟩,λP f=>∃O E B C u,P=[↑A.wo,↑d,↑a,O,E,B,C,u]/\aU Y f/\f lk=some (.lst ((vp M.names A.ns).map λp=>kV p.1))/\f a=some (.lst (((fZ M).take (i+1)).map oV))⟩ [↑A.wo,↑d,↑a,some (.str m.1),some (.int p),some (.int b),some (.bl D),u] f:=λD eD=>by
   exists _,_,_,rfl,T,s,A,M,j0,rfl;rw[<- eD];rw[<- eD]at er;have fin:∀(x:AA),(if D=true then none else some p)=x->∀E B C u,∃u3 u4 u5 u6 u7,[↑A.wo,↑d,↑a,some (.str m.1),E,B,C,u]=[some (V.ref A.wo),↑d,↑a,u3,u4,u5,u6,u7]/\aU Y (upd f a (.lst (((fZ M).take i).map oV++[oV x])))/\upd f a (.lst (((fZ M).take i).map oV++[oV x])) lk=some (.lst ((vp M.names A.ns).map λp=>kV p.1))/\upd f a (.lst (((fZ M).take i).map oV++[oV x])) a=some (.lst (((fZ M).take (i+1)).map oV)):=λx ex E B C u=>by
    refine⟨_,_,_,_,_,rfl,λc o hc=>by rw[aD (aH hc nlr)];exact s6 _ _ hc,(aD ZCb).trans g6,?_⟩;rw[aq,er,ex,List.map_append];rfl
   have ll:(((fZ M).take i).map oV).length<=4000:=by rw[bB,List.length_take];omega
   have t1:(!decide (V.bl true=V.bl true))=false:=by rw[decide_eq_true rfl];rfl
   have t3:(!decide (V.bl false=V.bl true))=true:=by rw[decide_eq_false ag];rfl
   have t4:(!decide (V.bl false=V.bl false))=false:=by rw[decide_eq_true rfl];rfl
   cases D with
   | true=>
    ext;rw[t1];ext;rw[show(!decide (true=true))=false from rfl];exists .inl ⟨rfl,_,cB.of J⟩;exists a,_,_,rfl,rfl,J,Nat.lt_of_le_of_lt ll ε;apply fin none rfl _ _ _ _
   | false=>
    ext;rw[t3];ext;rw[t4];ext;rw[show(!decide (false=false))=false from rfl];exists .inl ⟨rfl,_,cB.of J⟩;exists a,_,_,rfl,rfl,J,Nat.lt_of_le_of_lt ll ε;apply fin (some p) rfl _ _ _ _
  cases hz:pR (sE M) b with
  | none=>
   rw[hz,decide_eq_true (.inl rfl)]at hd;rw[show(none:Option V).getD (.str "doomed")=.str "doomed" from rfl];refine⟨rfl,?_⟩;exact key _ (by rw[hd,decide_eq_true rfl])
  | some v=>
   obtain⟨z,rfl⟩:=Zm5 hz;rw[hz]at hd;rw[show(some (V.str z)).getD (.str "doomed")=.str z from rfl];refine⟨rfl,?_⟩;refine key _ ?_;rw[hd]
   by_cases e:z=("doomed":Str)
   ·rw[decide_eq_true (show V.str z=V.str "doomed" by rw[e]),decide_eq_true (.inr (by rw[e]))]
   ·rw[decide_eq_false (show ¬ V.str z=V.str "doomed" from λy=>e (by injection y)),decide_eq_false];rintro(y | y)
    ·cases y
    ·exact e (by injection y with y;injection y)
 ·rintro P f ⟨O,E,B,C,u,rfl,s6,g6,J⟩;rw[bB,lnm,List.take_of_length_le (by unfold fZ;rw[bB];exact Nat.le_refl _)]at J;have h:=N.trans s6;have lhe:(heldOf M).length=M.hands.length:=by unfold heldOf;rw[bB]
  apply⟨_,rfl,T,s,A,M,hs0,j.same h,rfl,δ,δ,λl2 ls2 H7 s7 nl2 ol2 hl2 nn2 ZAh hr2=>?_⟩;have s17:=h.trans s7;apply⟨_,rfl,T,s,A,M,j.same s17,rfl,δ,λl3 g H8 s8 nl3 ol3 S nd3 nn3 ZL4 hr3=>?_⟩;have s78:=s7.trans s8;apply⟨aR ζ,λl4 nl4=>?_⟩;generalize zz:upd H8 l4 _=H9;obtain⟨s9,g9⟩:=nwO nl4 zz;apply⟨l3,l4,_,_,rfl,rfl,s9 _ _ ol3,g9,aR (by rw[bB,S,lhe];show M.hands.length+1<=1000000;omega),λF nl5=>?_⟩;have L:=aK nl5 (.lst (g.map V.ref++[.ref a]));have I:upd H9 F (.lst (g.map V.ref++[.ref a])) F=some (.lst ((g++[a]).map V.ref)):=by rw[List.map_append];exact aq
  generalize upd H9 F (.lst (g.map V.ref++[.ref a]))=H10 at L I ⊢;have W:=s8.trans (s9.trans L);have Z:=s7.trans W;have r1:RwO H10 l2 (gM M):=⟨ls2,W _ _ ol2,hl2,λj r x w l=>W _ _ (hr2 j r x w l)⟩;have r2:RwO H10 F (gM M):=by
   refine⟨g++[a],I,?_,λj r x w l=>?_⟩
   ·unfold gM;rw[List.length_append,List.length_append,S];rfl
   ·unfold gM at l
    by_cases hj:j<g.length
    ·rw[List.getElem?_append_left hj]at w;rw[List.getElem?_append_left δ]at l;exact(s9.trans L) _ _ (hr3 j r x w l)
    ·have hlt:=(cZ w).1;rw[List.length_append,List.length_singleton]at hlt;have ej:j=g.length:=δ
     subst ej;rw[List.getElem?_append_right Γ,Nat.sub_self]at w;rw[S,List.getElem?_append_right Γ,Nat.sub_self]at l;cases w;cases l;exact Z _ _ J
  obtain⟨xs,ys,a1,a2,al⟩:=Zl6 (K:=K) r1 r2;apply Zfx (.inl ⟨a1,a2⟩) al ?_;exact q _ (h.trans Z)
end
def Zu(rows:List Tc)(i:Nat):Option V:=rows[i]?.bind λ(x:Tc)=>if x.tone=("doomed":Str)then some (V.int x.p)else none
def De(X:Cs):Sp:=λvs H Q E=>∃wo lc,vs=[.ref wo,.ref lc]/\∃H0 T A M,WT H0 T/\aU H0 H/\WJ X H0 T 1 A M/\A.wo=wo/\Dv M/\Pm M/\M.sw.phase="give"/\CtF H0 H lc (sE M)/\∀H',iY 1 H H' T T->WJ X H' T 1 A M->Q (.bl true) H'
section
theorem Rj{wo lc:AH}(m:qT K X)(q:∃H0 T A M,WT H0 T/\aU H0 H/\WJ X H0 T 1 A M/\A.wo=wo/\Dv M/\Pm M/\M.sw.phase="give"/\CtF H0 H lc (sE M)/\∀H',iY 1 H H' T T->WJ X H' T 1 A M->Q (.bl true) H'):
  uX K (Jr X) (oY X) ξ [↑wo,↑lc,none] H:=by
 obtain⟨H0,T,A,M,w0,P,j,rfl,ok,pm,ph,N,q⟩:=q;have w:WT H T:=w0.same P;have hcl:=ok.cl;have ltl:=DP (M:=M);have ltc:=vA (M:=M);have h:M.sw.phase≠"walk":=by rw[ph];decide
 obtain⟨ls,o1,hl,o2⟩:=N.o;unfold uX;apply KD ?_;exists _,rfl,⟨_,cB.of o1⟩;refine Ry (cB.of o1) (Zu (sE M)) (by rw[bB];omega) (λi y hy=>?_) ?_
 ·rw[cF]at hy;obtain⟨r,hr,rfl⟩:=Option.map_eq_some_iff.mp hy;have hi:i<ls.length:=(cZ hr).1;obtain⟨x,hx⟩:∃x,(sE M)[i]? =some x:=⟨_,bK δ⟩;obtain⟨R,z,_⟩:=o2 i r x hr hx;have U:Zu (sE M) i=if x.tone=("doomed":Str)then some (V.int x.p)else none:=by unfold Zu;rw[hx];rfl
  rw[U];refine⟨λq hq=>?_,λy q hy hq=>?_⟩
  ·walk_at"c";exists r,_,5,_,rfl,rfl,fY.of z,rfl;ext
   by_cases e:x.tone=("doomed":Str)
   ·rw[if_pos e]at hq;rw[decide_eq_true e];exact hq
   ·rw[if_neg e]at hq;rw[decide_eq_false e];exact hq
  ·split at hy
   ·cases hy;walk_at"c";apply⟨r,_,0,_,rfl,rfl,fY.of z,rfl,hq⟩
   ·cases hy
 intro ld v;have b:∀y∈(List.range (ls.map V.ref).length).filterMap (Zu (sE M)),∃i:Int,y=.int i:=λy hy=>by
  obtain⟨i,_,e⟩:=List.mem_filterMap.mp hy;unfold Zu at e;obtain⟨x,_,e⟩:=Option.bind_eq_some_iff.mp e;split at e
  ·exact⟨_,(Option.some.inj e).symm⟩
  ·cases e
 generalize (List.range (ls.map V.ref).length).filterMap (Zu (sE M))=O at b ⊢;generalize zz:upd H ld _=H1;obtain⟨s1,S⟩:=nwO v zz;apply⟨aR ζ,λe0 J=>?_⟩;have s:=aK J (.lst []);refine Zjr (cB.of (s _ _ S)) (cB.of aq) ?_;generalize upd H1 e0 (.lst [])=H2 at s ⊢;have a:=s1.trans s;have k:=P.trans a;apply uE (λz=>?_) (λz=>?_)
 ·apply q _ (iY.same w a) (j.same k)
 ·rcases List.eq_nil_or_concat O with e | ⟨zs,y,e⟩
  ·exact absurd e z
  ·rw[List.concat_eq_append]at e;subst e;obtain⟨i,rfl⟩:=b y (List.mem_append.mpr (.inr (List.mem_singleton.mpr rfl)));apply jg (cB.of (s _ _ S)) (Zsl _ _) ?_;apply⟨_,_,rfl,some i,rfl,T,1,A,M,w.same a,ε,j.same k,rfl,λz=>absurd z h,λW f d=>?_⟩;rw[Jk h]at d ⊢;have d:WJ X W T 1 A M:=d;obtain⟨dw,ow⟩:=d.jb.ow;obtain⟨ds,os⟩:=d.js.os;have og:=d.js.og;rw[pm.gg ph]at og;rw[show oV (none,M).1=V.non from rfl];apply⟨_,rfl,T,1,A,M,d,rfl,δ,λc hc=>by have:=ok.fl c hc;omega,λu rs L g Y E B _=>?_⟩;have F:O9 L u (sE M):=⟨rs,Y,by rw[E];exact vA.symm,λi r x e1 D=>by
    unfold sE at D;rw[cF]at D;obtain⟨t,ht,rfl⟩:=Option.map_eq_some_iff.mp D;obtain⟨R,z,_⟩:=B i r t e1 ht;exact⟨R,z⟩⟩
   have I:=((N.nw (Nw.same a)).nw (Nw.stp w0 f ε)).nw (Nw.same g);obtain⟨xs,O,Z,a2,al⟩:=ZBp (K:=K) F I.o;apply Zfx (.inl ⟨Z,a2⟩) al ?_;apply aF (g _ _ ow) m.cW m.Nq aW ?_;apply aF (g _ _ os) m.cS m.n3 mZ ?_;apply⟨aR ζ,λe5 C=>?_⟩;have l:=aK C (.lst []);refine Zjr (cB.of (l _ _ (g _ _ og))) (cB.of aq) ?_;rw[decide_eq_true (show List.map V.int []=[]from rfl)];generalize upd L e5 (.lst [])=H5 at l ⊢;exact q _ (((iY.same w a).trans f).trans (iY.same f.wt (g.trans l))) (d.same (g.trans l))
end
theorem Zsx{M:Wm}:(gG M).Pairwise λa b=>a.1<b.1:=by
 unfold gG;refine List.Pairwise.filterMap _ ?_ List.pairwise_lt_range;intro a b e x hx y hy;obtain⟨c,_,rfl⟩:=Option.map_eq_some_iff.mp hx;obtain⟨d,_,rfl⟩:=Option.map_eq_some_iff.mp hy;show((a:Nat):Int)<((b:Nat):Int);omega
theorem Zon{M:Wm}{a b:Nat}{x y:Int×Ce}(h1:(gG M)[a]? =some x)(h2:(gG M)[b]? =some y)(c:a<b):x.1≠y.1:=by
 obtain⟨d,g⟩:=cZ h1;obtain⟨e,f⟩:=cZ h2;have:=List.pairwise_iff_getElem.mp (Zsx (M:=M)) a b d e c;rw[g,f]at this;omega
def PsB(M a:Wm)(H:Hp)(b:AH):Prop:=(∃l,(∀c,cellAt M M.sw.at'=some c->c.tone=M.sw.sense)/\sE a=sE M/\a.used=M.used/\H b=some (.tup [.str "pass",.int M.sw.at',.ref l])/\H l=some (.lst (([]:AD).map V.int)))\/
 (∃l c,cellAt M M.sw.at'=some c/\c.tone≠M.sw.sense/\sE a=woT c.birth (sE M)/\a.used=M.used - (1+c.fl.length+c.bulk)/\a.cells[M.sw.at'.toNat]? =some none/\uy a (some M.sw.at')=none/\H b=some (.tup [.str "back",.int c.birth,.ref l])/\H l=some (.lst ([M.sw.at'].map V.int)))
def Hl(X:Cs):Sp:=λvs H Q E=>∃wo lc a u c,vs=[.ref wo,.ref lc,.int a,.int u,.ref c]/\∃T s A M b w0,WJ X H T s A b/\A.wo=wo/\Dv b/\TB w0 b/\Dv M/\M.sw.phase="give"/\b.sw.phase="give"/\O9 H lc (sE M)/\a=M.sw.at'/\u=M.used/\0<=M.sw.at'/\PsB M b H c/\∀H',aU H H'->Q (.bl true) H'
section
theorem Vt{wo lc O:AH}{a u:Int}(d:qT K X)(q:∃T s A M g w0,WJ X H T s A g/\A.wo=wo/\Dv g/\TB w0 g/\Dv M/\M.sw.phase="give"/\g.sw.phase="give"/\O9 H lc (sE M)/\a=M.sw.at'/\u=M.used/\0<=M.sw.at'/\PsB M g H O/\∀H',aU H H'->Q (.bl true) H'):
  wH K (yt K) (pO K) mF (qz K) (Dd K) (bV X) (oY X) ξ [↑wo,↑lc,some (.int a),some (.int u),↑O,none,none,none] H:=by
 obtain⟨T,s,A,M,g,w0,j,rfl,ok',tb',ok,ph,Y,oc,rfl,rfl,ha0,ps,q⟩:=q;have hcl:=ok.cl;have ltl:=DP (M:=M);have ltc:=vA (M:=M);have f50:∀x∈sE M,x.fs.length<=1000:=λx hx=>by
  obtain⟨t,h,rfl⟩:=List.mem_map.mp hx;show(t.2.fl.map (uy M)).length<=1000;rw[bB];have:=ok.fl _ (tY (nG h));omega
 obtain⟨w,c1,c2,c3⟩:=id oc;have E:∀(k t l D:AH) (m:Option V) (z:Str) (i:Int) (ns:AD) (p:Hp),aU H p->O9 p k (sE g)->p O=some (.tup [.str z,.int i,.ref l])->p t=some (.tup [.str z,.int i,.ref D])->p l=some (.lst (ns.map V.int))->p D=some (.lst (ns.map V.int))->(z=("pass":Str)\/(z=("back":Str)/\g.cells[M.sw.at'.toNat]? =some none/\uy g (some M.sw.at')=none))->
   (aN (dD ((Hq (uL (tB (aQ (yt K) [] E0 (θ (ak 4) (ak 6))))) (Hq (uL (tB (aQ mF [] E0 (θ (aX K ac "used"))))) (bI (bx (Rk) (aX K ac "used") Ψ))))) (bG (tC (.bl false))) bQ)
   (aN (dD ((R4 (bI (bx (xV) (bx (eE K) (ak 6) υ) (tC (.str "back")))) ((Hq (bI (bx (G.xU) (bx (m6 K) (aX K ac "cells") Δ) (tC .non))) (bI (bx (G.xU) (aQ (bV X) [] E0 (θ ac Δ)) (tC .non))))))) (bG (tC (.bl false))) bQ)
   (aN (dD (bI (bx (Rk) (aX K ai "phase") (tC (.str "give")))) (bG (tC (.bl false))) bQ)
   (bG (aQ (pO K) [] E0 (θ (aQ (oY X) [] E0 (θ π)) (ak 5) (aQ (qz K) [] E0 (θ (ak 5) (fO aB) (tC (.str "")))))))))) ξ [↑A.wo,↑lc,some (.int M.sw.at'),some (.int g.used),↑O,↑k,↑t,m] p:=λk t l D m z i ns p U of oe ot ol ol' hz=>by
  have L:=j.same U;obtain⟨dw,ow⟩:=L.jb.ow;obtain⟨ds,os⟩:=L.js.os;obtain⟨_,_,⟨dh,oh⟩,occ⟩:=L.jh;exists _,_,rfl,_,_,_,_,_,oe,ot,ol,ol';apply aF ow d.cW d.HS bw ?_;refine aF oh d.c.cA d.c.fG mL ?_;exists _,rfl;apply aF ow d.cW d.HS bw ?_;refine aF oh d.c.cA d.c.fG mL ?_;apply xN (λz=>absurd rfl z) (λ_=>?_);exists t,_,0,_,rfl,rfl,fY.of ot,rfl;ext;rcases hz with rfl | ⟨rfl,hn,hb⟩
  ·refine uE (λz=>absurd z ε) (λ_=>?_);apply aF ow d.cW d.Nq aW ?_;apply aF os d.cS d.n2 eF ?_;apply xN (λz=>absurd Y z) (λ_=>?_);refine rN ?_;refine U9 ?_;exact Uo L ok' tb' of rfl rfl λH' s'=>q H' (U.trans s')
  ·refine uE (λ_=>?_) (λz=>absurd rfl z);apply aF ow d.cW d.HS bw ?_;refine aF oh d.c.cA d.c.bO bT ?_;apply jg (cB.of occ) (qx (v:=.non) ha0 (by rw[cF,L.jc.at0 hn];rfl)) ?_;apply aF ow d.cW d.HS bw ?_;exists _,_,rfl,some M.sw.at',rfl,T,s,A,g,L,rfl;rw[hb,show oV none=V.non from rfl];apply aF ow d.cW d.Nq aW ?_;apply aF os d.cS d.n2 eF ?_;apply xN (λz=>absurd Y z) (λ_=>?_);refine rN ?_;refine U9 ?_;exact Uo L ok' tb' of rfl rfl λH' s'=>q H' (U.trans s')
 have Z:∀{i:Nat}{y:V},(w.map V.ref)[i]? =some y->∃r t fa,y=.ref r/\(gG M)[i]? =some t/\Tc1 H r fa (Zot M t):=λ{i y} P=>by
  rw[cF]at P;obtain⟨r,S,rfl⟩:=Option.map_eq_some_iff.mp P;have hlt:i<w.length:=(cZ S).1;obtain⟨t,h⟩:∃t,(gG M)[i]? =some t:=⟨_,bK δ⟩;obtain⟨fa,z1⟩:=c3 i r _ S (Zos h);exact⟨r,t,fa,rfl,h,z1⟩
 have mg:∀(i:Int) (c:Ce),nO M i c=if c.tone=M.sw.sense then("kept":Str)else("doomed":Str):=λi c=>by
  unfold nO;rw[ph,if_neg (show ¬ ("give":Str)="rest" by decide),if_pos rfl]
 unfold wH;apply⟨aR ζ,λe0 ne0=>?_⟩;generalize zz:upd H e0 _=p;obtain⟨U,g1⟩:=nwO ne0 zz;have g1:p e0=some (.lst (([]:AD).map V.int)):=g1;apply⟨aR ζ,λt0 nt0=>?_⟩;generalize zz:upd p t0 _=H2;obtain⟨s2,g2⟩:=nwO nt0 zz;have b:=U.trans s2;ext;rcases ps with ⟨l,nc,et,eu,oe,ol⟩ | ⟨l,c,hc,htn,et,eu,hn,hb,oe,ol⟩
 ·refine⟨lc,rfl,⟨_,cB.of (b _ _ c1)⟩,forL (w.map V.ref) (λi N o=>∃m,N=[↑A.wo,↑lc,some (.int M.sw.at'),some (.int M.used),↑O,↑lc,↑t0,m]/\o=H2) ⟨_,rfl,rfl⟩ (by rintro _ _ _ _ ⟨_,_,e⟩;rw[e];exact cB.of (b _ _ c1)) ?_ ?_⟩
  ·rintro i y N o P ⟨m,rfl,rfl⟩;obtain⟨r,t,fa,rfl,h,z1,z2⟩:=Z P;have z1:=b _ _ z1;exists r,_,0,_,rfl,rfl,fY.of z1,rfl;apply uE (λC=>?_) (λ_=>?_)
   ·exists r,_,5,_,rfl,rfl,fY.of z1,rfl;apply uE (λed=>?_) (λ_=>?_)
    ·exfalso
     have C:t.1=M.sw.at':=C;have ed:nO M t.1 t.2=("doomed":Str):=ed;have h1:=nG (List.mem_of_getElem? h);rw[C]at h1;rw[mg,if_pos (nc _ h1)]at ed;exact absurd ed ε
    ·apply⟨_,rfl,rfl⟩
   ·apply⟨_,rfl,rfl⟩
  ·rintro N o ⟨m,rfl,rfl⟩;have tl:=E lc t0 l e0 m "pass" M.sw.at' [] o b (by rw[et];exact oc.same b) (b _ _ oe) g2 (b _ _ ol) (s2 _ _ g1) (.inl rfl);rw[eu]at tl;exact tl
 ·refine⟨lc,rfl,⟨_,cB.of (b _ _ c1)⟩,forL (w.map V.ref) (λi N o=>∃m k us I,N=[↑A.wo,↑lc,some (.int M.sw.at'),some (.int us),↑O,↑k,↑I,m]/\aU H2 o/\((k=lc/\us=M.used/\I=t0/\∀t∈(gG M).take i,t.1≠M.sw.at')\/(us=g.used/\O9 o k (sE g)/\(∃D,o I=some (.tup [.str "back",.int c.birth,.ref D])/\o D=some (.lst ([M.sw.at'].map V.int)))/\∃R t,R<i/\(gG M)[R]? =some t/\t.1=M.sw.at'))) ⟨_,lc,M.used,t0,rfl,aU.refl _,.inl ⟨rfl,rfl,rfl,λt h=>(nomatch h)⟩⟩ (by rintro _ _ _ _ ⟨_,_,_,_,_,y,_⟩;exact cB.of (y _ _ (b _ _ c1))) ?_ ?_⟩
  ·rintro i y N o P ⟨m,k,us,I,rfl,s3,hx⟩;obtain⟨r,t,fa,rfl,h,z1,z2⟩:=Z P;have f:=b.trans s3;have z1:=f _ _ z1;have z2:=f _ _ z2;have etk:(gG M).take (i+1)=(gG M).take i++[t]:=by rw[List.take_add_one,h];rfl
   exists r,_,0,_,rfl,rfl,fY.of z1,rfl;apply uE (λC=>?_) (λnep=>?_)
   ·have C:t.1=M.sw.at':=C;have h1:=nG (List.mem_of_getElem? h);rw[C,hc]at h1;have B:c=t.2:=Option.some.inj h1;rcases hx with ⟨rfl,rfl,rfl,_⟩ | ⟨_,_,_,R,t',hk,F,J⟩
    ·exists r,_,5,_,rfl,rfl,fY.of z1,rfl;apply uE (λ_=>?_) (λned=>absurd (show nO M t.1 t.2=("doomed":Str) by rw[mg,if_neg (by rw[<- B];exact htn)]) ned);exists r,_,1,_,rfl,rfl,fY.of z1,rfl;apply⟨_,_,rfl,sE M,oc.same f,δ,f50,λk H4 W nlf of=>?_⟩;exists r,_,4,_,rfl,rfl,fY.of (W _ _ z1),rfl;apply jU (cB.of (W _ _ z2)) ?_;exists r,_,2,_,rfl,rfl,fY.of (W _ _ z1),rfl;exists r,_,1,_,rfl,rfl,fY.of (W _ _ z1),rfl;apply⟨aR ζ,λl5 nl5=>?_⟩;generalize zz:upd H4 l5 _=H5;obtain⟨s5,g5⟩:=nwO nl5 zz;have g5:H5 l5=some (.lst ([M.sw.at'].map V.int)):=g5;apply⟨aR ζ,λt6 nt6=>?_⟩;have s6:=aK nt6 (.tup [.str "back",.int t.2.birth,.ref l5]);have g6:upd H5 t6 (.tup [.str "back",.int t.2.birth,.ref l5]) t6=some (.tup [.str "back",.int t.2.birth,.ref l5]):=aq;apply⟨_,k,_,t6,rfl,s3.trans (W.trans (s5.trans s6)),.inr ⟨?_,?_,⟨l5,?_,s6 _ _ g5⟩,i,t,Nat.lt_succ_self _,h,C⟩⟩
     ·show M.used - 1 - (((t.2.fl.map (uy M)).map oV).length:Int) - t.2.bulk=g.used;rw[eu,bB,bB,B];omega
     ·rw[et,B];exact(of.same s5).same s6
     ·rw[B];exact g6
    ·exact absurd (J.trans C.symm) (Zon F h hk)
   ·exists _,k,us,I,rfl,s3;rcases hx with ⟨e1,e2,e3,e4⟩ | ⟨e1,e2,e3,R,t',hk,F,J⟩
    ·refine .inl ⟨e1,e2,e3,λx hx=>?_⟩;rw[etk]at hx;rcases List.mem_append.mp hx with hx | hx
     ·exact e4 x hx
     ·rw[List.mem_singleton.mp hx];exact nep
    ·exact .inr ⟨e1,e2,e3,R,t',δ,F,J⟩
  ·rintro N o ⟨m,k,us,I,rfl,s3,hx⟩;have f:=b.trans s3;rcases hx with ⟨_,_,_,e4⟩ | ⟨rfl,of,⟨D,o1,o2⟩,_⟩
   ·rw[bB,List.take_of_length_le δ]at e4;exact absurd rfl (e4 _ (Ql hc))
   ·exact E k I l D m "back" c.birth [M.sw.at'] o f of (f _ _ oe) o1 (f _ _ ol) o2 (.inr ⟨rfl,hn,hb⟩)
end
def RG(X:Cs):Sp:=λvs H Q E=>∃wo a,vs=[.ref wo,.int a]/\∃T A M hs k,WT H T/\WJ X H T 1 A M/\A.wo=wo/\KW M hs k/\TB a M/\Pm M/\Rg M/\HsB hs/\k<=900/\M.sw.phase≠"lost"/\
 ∀H' T' c b,Kp H H' T T'->WT H' T'->WJ X H' T' 1 c b->c.wo=wo->KW b hs k->TB a b->Pm b->Rg b->Q (.bl true) H'
section
theorem WJ.ZA4{H0:Hp}{T:Tg}{A:Wa}{M:Wm}{s:Nat}{l:AH}{v:Nat×Nat}(j:WJ X H0 T s A M)(a:aU H0 H)(c:H0 l=none):WJ X H (jC T l v) s A M:=
 j.mv (H':=H) (T':=jC T l v) ⟨λb o h _ _=>a b o h,λb o h=>jM (aH h c)⟩ λb o h _=>a b o h
theorem Zdd{wo:AH}{l:Int}(d:qT K X)(q:∃T A M hs k,WT H T/\WJ X H T 1 A M/\A.wo=wo/\KW M hs k/\TB l M/\Pm M/\Rg M/\HsB hs/\k<=900/\M.sw.phase≠"lost"/\
 ∀H' T' A' f,Kp H H' T T'->WT H' T'->WJ X H' T' 1 A' f->A'.wo=wo->KW f hs k->TB l f->Pm f->Rg f->Q (.bl true) H'):
  Bw K (Le X) (Ld X) mF (Hl X) (La X) (De X) (Lf X) (cg X Zq3) (oY X) ξ [↑wo,some (.int l),none,none,none,none,none,none,none,none] H:=by
 obtain⟨T,A,M,hs,k,w,j,rfl,kw,p,R,rg,hb,hk,phn,q⟩:=q;have ok:=kw.ok hb hk;have hcl:=ok.cl;have l5:=j.jd.l5;have lh:=j.jd.lh;obtain⟨dw,ow⟩:=j.jb.ow;obtain⟨ds,os⟩:=j.js.os;unfold Bw;apply aF ow d.cW d.Nq aW ?_;apply aF os d.cS d.n2 eF ?_;apply xN (λng=>?_) (λph=>?_)
 ·apply⟨_,rfl,T,1,A,M,0,[],w,ε,j,rfl,ok,trivial,λz=>absurd z phn,λe f F H3 T3 A3 ev st j3 aw evn lo=>?_⟩;apply q _ T3 A3 f (Kp.stp st ⟨ε,ε⟩) st.wt j3 aw.1 (kw.step F) (p.step F) (R.step p F) (rg.step F)
 ·apply⟨_,rfl,T,1,A,M,j,rfl,δ,λc hc=>by have:=ok.fl c hc;omega,λlc rs H1 s1 o1 hl hr nlc=>?_⟩;have cf:CtF H H1 lc (sE M):=⟨rs,o1,by rw[hl];exact vA.symm,λi r x e1 Y=>by
   unfold sE at Y;rw[cF]at Y;obtain⟨t,ht,rfl⟩:=Option.map_eq_some_iff.mp Y;obtain⟨fa,z,n1,n2⟩:=hr i r t e1 ht;exact⟨fa,z,n1,n2⟩,nlc⟩
  apply⟨_,_,rfl,H,T,A,M,w,s1,j,rfl,ok,R,ph,cf,λH2 C j2=>?_⟩;have cf2:=cf.nw (Nw.stp w C ε);apply⟨_,rfl,T,1,A,M,l,ε,j2,rfl,ok,p,R,.inr ph,λH3 s3=>?_⟩;apply⟨_,rfl,T,1,A,M,j2.same s3,rfl,δ,λm hm=>by have:=ok.hl m hm;omega,λlr rs2 H4 s4 o4 hl4 hr4 n4=>?_⟩;have v:=s3.trans s4;have f2:∀{b:AH},H3 b=none->H b=none:=λh=>s1.free (iY.free C (s3.free h));have rf4:RwF H H4 lr (rowsOf M):=⟨rs2,o4,hl4,hr4,f2 n4.1,λr hr=>f2 (n4.2.1 r hr)⟩;apply⟨_,rfl,T,1,A,M,j2.same v,rfl,by rw[R.gg ph];decide,λls H5 s5 L J=>?_⟩;have s25:=v.trans s5;have j5:=j2.same s25;obtain⟨dw5,ow5⟩:=j5.jb.ow;obtain⟨ds5,os5⟩:=j5.js.os;obtain⟨_,_,⟨dh5,oh5⟩,_⟩:=j5.jh;have ZCa:H ls=none:=s1.free (iY.free C (v.free L));apply aF os5 d.cS d.n6 pH ?_;apply aF os5 d.cS d.n7 vX ?_;apply aF ow5 d.cW d.HS bw ?_;refine aF oh5 d.c.cA d.c.fG mL ?_;ext;have j6:WJ X H5 (jC T ls (2,0)) 1 A M:=(j2.same v).ZA4 s5 L;have w2:WT H2 T:=C.wt;have w6:WT H5 (jC T ls (2,0)):=λb hb=>by
   rw[jM (λz=>by rw[z,J]at hb;cases hb)];exact w2 b (s25.free hb)
  refine⟨_,rfl,jC T ls (2,0),1,A,M,0,[],w6,ε,j6,rfl,ok,trivial,λz=>absurd (ph.symm.trans z) ε,λe f F H6 y S ev st E aw evn lo=>?_⟩;have kw6:=kw.step F;have p6:=p.step F;have Z:=R.step p F;have rg6:=rg.step F;have D:=kw6.ok hb hk;obtain⟨le,nle,oe,ole⟩:=evn;obtain⟨g,I⟩:=aw;have P:Nw H H5 H6:=λb o h0 h=>st.kp b o h (by
   by_cases e:b=ls
   ·rw[e,iB];decide
   ·rw[jM e,w b h0];decide)
  have cf6:=(cf2.nw (Nw.same s25)).nw P;have rf6:=(rf4.nw (Nw.same s5)).nw P;have ZAc:=P _ _ ZCa J;have ZBz:y ls=(2,0):=(st.tg _ _ J).trans iB;have kp6:Kp H H6 T y:=((Kp.same s1).trans (Kp.stp C ⟨ε,ε⟩)).trans (((Kp.same v).trans (Kp.tag L s5)).trans (Kp.stp st ⟨ε,ε⟩));obtain⟨dw7,ow7⟩:=E.jb.ow;obtain⟨ds7,U⟩:=E.js.os;obtain⟨_,_,⟨dh7,oh7⟩,_⟩:=E.jh;rw[g]at ow7;rw[I]at U;obtain⟨est,ZBh,egr,⟨e1,Y,e3,e4,e5⟩,Zsi⟩:=Znw R rg p ph F ok.a0;apply⟨aR ζ,λe0 ne0=>?_⟩;have t1:=aK ne0 (.lst []);refine Zjr (cB.of (t1 _ _ ZAc)) (cB.of aq) ?_;rw[decide_eq_false ag];generalize upd H6 e0 (.lst [])=H7 at t1 ⊢;apply aF (t1 _ _ U) d.cS d.n7 vX ?_;apply xN (λz=>absurd est z) (λ_=>?_);have ZL7:=D.cl;have l56:=E.jd.l5;have lh6:=E.jd.lh;apply⟨_,rfl,y,1,S,f,E.same t1,g,δ,λm hm=>by have:=D.hl m hm;omega,λl2 rs3 W t2 o8 hl8 hr8 _=>?_⟩;have a:=t1.trans t2;have r1:RwO W l2 (rowsOf M):=by rw[<- ZBh];exact⟨rs3,o8,hl8,hr8⟩
  obtain⟨xs,ys,a1,a2,al⟩:=Zl6 (K:=K) r1 (rf6.nw (Nw.same a)).o;apply Zfx (.inl ⟨a1,a2⟩) al ?_;have j8:=E.same a;have w8:=st.wt.same a;have B:=a _ _ ZAc;have os8:=a _ _ U;have ow8:=a _ _ ow7;have oh8:=a _ _ oh7;apply uE (λea=>?_) (λnea=>?_)
  ·have ea:M.sw.at'=M.sw.stop:=ea;rcases Zsi with ⟨_,c2,c3,c4,c5,c6,c7⟩ | ⟨c1,_⟩
   ·have N:stL f.sw=stL M.sw:=by unfold stL;rw[e1,Y,e3,e4,e5,c4]
    apply aF os8 d.cS d.n6 pH ?_;apply xN (λz=>absurd c2 z) (λ_=>?_);apply⟨_,rfl,y,1,S,f,j8,I,by rw[egr,R.gg ph];decide,λls2 H9 s ZAh Zxh=>?_⟩;apply Zrh (cB.of Zxh) (cB.of (s _ _ B)) ?_;rw[decide_eq_true N];apply aF (s _ _ ow8) d.cW d.HS bw ?_;refine aF (s _ _ oh8) d.c.cA d.c.fG mL ?_;apply xN (λz=>absurd c3 z) (λ_=>?_);have u:=a.trans s;subst c7;apply⟨_,_,_,_,rfl,y,1,S,f,l,le,E.same u,g,D,p6,c5,by rw[c6];exact(cf6.nw (Nw.same u)).o,by rw[N];exact s _ _ B,by rw[Y];exact u _ _ oe,by rw[e4,e5,c4];exact u _ _ ole,λH10 t4=>?_⟩;apply⟨_,rfl,y,1,S,f,l,ε,E.same (u.trans t4),g,D,p6,Z,.inl c5,λH11 t5=>?_⟩;have t15:=u.trans (t4.trans t5);exact q _ y S f (kp6.trans (Kp.same t15)) (st.wt.same t15) (E.same t15) g kw6 p6 Z rg6
   ·exact absurd ea c1
  ·have nea:¬ M.sw.at'=M.sw.stop:=nea;rcases Zsi with ⟨c1,_⟩ | ⟨_,c2,c3,c4,c5⟩
   ·exact absurd c1 nea
   ·have N:stL f.sw=[M.sw.sense,M.sw.turn,M.sw.looked,M.sw.walks,M.sw.looks,M.sw.passes+1]:=by unfold stL;rw[e1,Y,e3,e4,e5,c3]
    apply Zyw (k:=5) (x:=M.sw.passes) rfl B rfl ?_;have O:iY 2 W (upd W ls (.lst (((stL M.sw).map V.int).set 5 (.int (M.sw.passes+1))))) y y:=iY.upd w8 B (by rw[ZBz]);have g9:upd W ls (.lst (((stL M.sw).map V.int).set 5 (.int (M.sw.passes+1)))) ls=some (.lst ((stL f.sw).map V.int)):=by rw[N];exact aq
    have k9:∀b o,b≠ls->W b=some o->upd W ls (.lst (((stL M.sw).map V.int).set 5 (.int (M.sw.passes+1)))) b=some o:=λb o nb hb=>by rw[aD nb];exact hb
    generalize upd W ls (.lst (((stL M.sw).map V.int).set 5 (.int (M.sw.passes+1))))=H9 at O g9 k9 ⊢;have j9:=j8.other O ε ε;obtain⟨dw9,ow9⟩:=j9.jb.ow;obtain⟨ds9,os9⟩:=j9.js.os;rw[g]at ow9;rw[I]at os9;have ZC6:Nw H H4 H9:=λb o h0 h=>k9 b o (aH h L) (a _ _ (P b o h0 (s5 _ _ h)));have cf9:=(cf2.nw (Nw.same v)).nw ZC6;have oe9:H9 ev=some (.tup [.str e.word,oV e.thing,.ref le]):=k9 _ _ (qe (a _ _ oe) B (λz=>by cases z)) (a _ _ oe);have ZAd:=k9 _ _ (aH J nle).symm (a _ _ ole);apply aF os9 d.cS d.n6 pH ?_;exists _,rfl;apply aF os9 d.cS d.n6 pH ?_;apply xN (λz=>absurd c2 z) (λ_=>?_);apply⟨_,rfl,y,1,S,f,j9,I,by rw[egr,R.gg ph];decide,λls2 H10 s ZAh Zxh=>?_⟩;apply Zrh (cB.of Zxh) (cB.of (s _ _ g9)) ?_;rw[decide_eq_true rfl];have ps:PsB M f H10 ev:=by
     rcases c5 with ⟨d1,d2,d3,d4⟩ | ⟨c,d1,d2,d3,d4,d5,d6,d7⟩
     ·subst d4;exact .inl ⟨le,d1,d2,d3,s _ _ oe9,s _ _ ZAd⟩
     ·subst d7;exact .inr ⟨le,c,d1,d2,d3,d4,d5,d6,s _ _ oe9,s _ _ ZAd⟩
    apply⟨_,_,_,_,_,rfl,y,1,S,M,f,l,j9.same s,g,D,p6,ok,ph,c4,(cf9.nw (Nw.same s)).o,rfl,rfl,ok.a0,ps,λH11 t4=>?_⟩;have t34:=s.trans t4;exact q _ y S f (kp6.trans ((Kp.same a).trans ((Kp.stp O ⟨ε,ε⟩).trans (Kp.same t34)))) (O.wt.same t34) (j9.same t34) g kw6 p6 Z rg6
end
section
theorem Zxz{a:AH}(Tx:qT K X)(q:∃ns:AD,cB K H a (ns.map V.int)/\ns.length<=63/\∀H',Q (.bl true) H'):
  Zi9 K X.W (vP X) (rY K) (RQ X rf) (RP K) (RN X) (Zdn K) (RJ K) (RG X) ξ [↑a,none,none,none,none] H:=by
 obtain⟨l,hS,R,h⟩:=q;unfold Zi9;apply⟨a,0,rfl,l,hS,ε,λz0=>?_⟩;ext;generalize z0 % 12=way;refine⟨a,rfl,l,hS,λlh hs H1 s1 nlh ho hb=>?_⟩;apply⟨a,rfl,l,s1.seq hS,λroom=>?_⟩;apply⟨_,rfl,λki lk w t H2 t0 t1 ew s2 nki nlk kd=>?_⟩;have s02:=s1.trans s2;have S:=ho.same s2;obtain⟨ts,olh,al⟩:=id S;have lts:=al.length;have n5:=hb.n5;apply Zcj (cB.of olh) λI ZCe=>?_;generalize zz:upd H2 I _=H3;obtain⟨s3,g3⟩:=nwO ZCe zz;have g:=kd.same s3;have ho3:=S.same s3;have s03:=s02.trans s3;ext;intro wo s c ndx ned;have D:aU H3 (upd (upd H3 s (.own wo)) wo (.ins X.W s [])):=λb o hb=>by rw[aD (aH hb c),aD (aH hb ndx)];exact hb
 have g7:upd (upd H3 s (.own wo)) wo (.ins X.W s []) wo=some (.ins X.W s []):=aq;generalize upd (upd H3 s (.own wo)) wo (.ins X.W s [])=H7 at D g7 ⊢;have kd7:=g.same D;have nkw:ki≠wo:=by
  obtain⟨⟨_,e⟩,_⟩:=g;exact aH e c
 have nlw:lk≠wo:=by
  obtain⟨_,⟨_,e⟩⟩:=g;rcases e with ⟨_,e⟩ | ⟨_,e⟩ | ⟨_,e⟩
  ·exact aH e c
  ·exact aH e c
  ·exact aH e c
 refine⟨wo,_,ki,I,rfl,s,λ_=>(0,0),1,lk,w,t,ts,hs,g7,λ_ _=>rfl,ε,kd7,rfl,rfl,nkw,nlw,D _ _ g3,Zgi lts λi x m e1 e2=>?_,δ,λH8 T8 A8 k8 t8 w8 aw8 j8=>⟨rfl,?_⟩⟩
 ·obtain⟨x',e3,z⟩:=al.get e2;rw[e1]at e3;cases e3;have:=hb.sb m (List.mem_of_getElem? e2);exact⟨D _ _ (s3 _ _ z),δ,δ⟩
 have O:aU H3 H8:=λb o hb=>k8 b o (D _ _ hb) (aH hb c);have s08:aU H H8:=s03.trans O;have ho8:=ho3.same O;have p0:KW (QX room hs w t) hs 0:=KW.new t0 t1;have U:TB (way % 3) (QX room hs w t):=by rw[<- ew];exact TB.new
 have N:Pm (QX room hs w t):=Pm.Zxt;have Y:Rg (QX room hs w t):=Rg.Zxt;generalize QX room hs w t=M at j8 p0 U N Y;clear k8 t8 D g7 kd7 g;apply⟨a,lh,rfl,l,hs,s08.seq hS,R,ho8,hb,λP H9 s9 rl=>?_⟩;obtain⟨_,nlr,C,F,lvs,rows⟩:=rl;have J:∀v∈C,v=.non\/∃t d,v=.ref t/\T8 t=(0,0)/\H9 t=some (.tup (dV d))/\okR hs d:=λv hv=>by
  rcases rows v hv with z | ⟨t,d,e,f,o,k⟩
  ·exact .inl z
  ·exact .inr ⟨t,d,e,w8 _ f,o,k⟩
 refine⟨P,rfl,⟨_,cB.of F⟩,forL C (λi σ y=>∃T A M v4,σ=[↑a,some (.int way),↑lh,↑wo,v4]/\WT y T/\WJ X y T 1 A M/\A.wo=wo/\KW M hs i/\TB (way % 3) M/\Pm M/\Rg M/\y P=some (.lst C)/\T P=(0,0)/\∀v∈C,v=.non\/∃t d,v=.ref t/\T t=(0,0)/\y t=some (.tup (dV d))/\okR hs d) ⟨T8,A8,M,_,rfl,w8.same s9,j8.same s9,aw8,p0,U,N,Y,F,w8 _ nlr,J⟩ (by rintro _ _ _ _ ⟨_,_,_,_,_,_,_,_,_,_,_,_,z,_⟩;exact cB.of z) ?_ ?_⟩
 ·rintro i x σ y hi ⟨T,A,M,v4,rfl,w,j,E,p,L,pm,rg,ol,tl,J⟩;have hil:=(cZ hi).1;obtain⟨dw,ow⟩:=j.jb.ow;obtain⟨ds,os⟩:=j.js.os;rw[E]at ow;have kp:∀{H':Hp}{u:Tg},Kp y H' T u->H' P=some (.lst C)/\u P=(0,0)/\∀v∈C,v=.non\/∃t d,v=.ref t/\u t=(0,0)/\H' t=some (.tup (dV d))/\okR hs d:=λ{H' u} k=>by
   refine⟨k.k _ _ ol (.inl (by rw[tl])),(k.tg _ _ ol).trans tl,λv hv=>?_⟩;rcases J v hv with z | ⟨t,d,e,f,o,kk⟩
   ·exact .inl z
   ·exact .inr ⟨t,d,e,(k.tg _ _ o).trans f,k.k _ _ o (.inl (by rw[f])),kk⟩
  apply aF ow Tx.cW Tx.Nq aW ?_;apply aF os Tx.cS Tx.n2 eF ?_;apply uE (λ_=>?_) (λph=>?_)
  ·apply h _
  ·rcases J x (List.mem_of_getElem? hi)with rfl | ⟨t,d,rfl,tt,ot,od⟩
   ·apply⟨_,_,rfl,T,A,M,hs,i,w,j,E,p,L,pm,rg,hb,δ,ph,λH' u A' M' k w' j' B p' tb' pm' rg'=>?_⟩;ext;obtain⟨Z,k2,k3⟩:=kp k;exact⟨u,A',M',_,rfl,w',j',B,p'.mono δ,tb',pm',rg',Z,k2,k3⟩
   ·have ok:=p.ok hb δ;have hcl:=ok.cl;have hnl:=ok.nl;apply⟨_,t,rfl,T,1,A,M,d,w,ε,j,E,ot,p.okD od,hcl,λz=>by have:=ok.gl z;omega,p.tl,δ,λr er H' sm=>?_,λe M' he H' u A' av st j' B ev=>?_⟩
    ·ext;obtain⟨Z,k2,k3⟩:=kp (Kp.same sm);exact⟨T,A,M,_,rfl,w.same sm,j.same sm,E,p.mono δ,L,pm,rg,Z,k2,k3⟩
    ·ext;obtain⟨Z,k2,k3⟩:=kp (Kp.stp st ⟨ε,ε⟩);exact⟨u,A',M',_,rfl,st.wt,j',B,p.deed od he,L.deed he,pm.deed L he,rg.deed he,Z,k2,k3⟩
 ·rintro σ y ⟨T,A,M,v4,rfl,w,j,E,p,L,pm,rg,ol,tl,J⟩;apply h _
end
def top(i:Nat):Stmt:=PySem.Challenge.pw_greywalk_k28_places_passed.main.body.getD i (.Pass ⟨0,0,0,0⟩)
abbrev uR:Stmt:=inClass (top 8) 0
abbrev Bm:Stmt:=inClass (top 8) 1
abbrev sY:Stmt:=inClass (top 8) 2
abbrev uP:Stmt:=inClass (top 9) 0
abbrev xT:Stmt:=inClass (top 9) 1
abbrev Iu:Stmt:=inClass (top 9) 2
abbrev Es:Stmt:=inClass (top 9) 3
abbrev Er:Stmt:=inClass (top 9) 4
abbrev Bl:Stmt:=inClass (top 9) 5
abbrev Mx:Stmt:=top 10
abbrev Ir:Stmt:=top 11
abbrev Mj:Stmt:=top 13
abbrev SQ:Stmt:=top 14
abbrev uQ:Stmt:=inClass (top 16) 0
abbrev qD:Stmt:=inClass (top 17) 0
abbrev sU:Stmt:=inClass (top 18) 0
abbrev Zi4:Stmt:=top 19
abbrev yN:Stmt:=top 20
abbrev Ec:Stmt:=top 21
abbrev DY:Stmt:=top 22
abbrev Ea:Stmt:=top 23
abbrev Ba:Stmt:=top 24
abbrev Ml:Stmt:=top 25
abbrev Av:Stmt:=top 26
abbrev DX:Stmt:=top 27
abbrev Zal:Stmt:=top 28
abbrev Zi3:Stmt:=top 29
abbrev Il:Stmt:=top 30
abbrev Zi5:Stmt:=top 31
abbrev Zak:Stmt:=top 32
abbrev Mi:Stmt:=top 33
abbrev Az:Stmt:=top 35
abbrev wu:Stmt:=top 36
abbrev v9:Stmt:=top 37
abbrev Zi1:Stmt:=top 38
abbrev yM:Stmt:=top 39
abbrev Zp8:Stmt:=top 40
abbrev Bb:Stmt:=top 41
abbrev Im:Stmt:=top 42
abbrev Aw:Stmt:=top 43
abbrev wj:Stmt:=top 44
abbrev Ay:Stmt:=top 45
abbrev s_end:Stmt:=top 46
abbrev sS:Stmt:=top 47
abbrev Zi2:Stmt:=top 49
abbrev S7:Stmt:=top 53
abbrev qF:Stmt:=inClass (top 54) 2
abbrev pX:Stmt:=inClass (top 54) 3
abbrev uN:Stmt:=inClass (top 54) 4
abbrev sW:Stmt:=inClass (top 55) 2
abbrev sX:Stmt:=inClass (top 56) 2
abbrev sV:Stmt:=inClass (top 57) 2
abbrev Bk:Stmt:=inClass (top 57) 3
abbrev uO:Stmt:=inClass (top 58) 0
abbrev Ik:Stmt:=top 60
abbrev Mw:Stmt:=top 61
abbrev Eb:Stmt:=top 62
abbrev yJ:Stmt:=top 63
abbrev yK:Stmt:=top 64
abbrev Mr:Stmt:=top 65
abbrev S6:Stmt:=top 66
abbrev S5:Stmt:=top 67
abbrev Mv:Stmt:=top 68
abbrev Mu:Stmt:=top 69
abbrev Ms:Stmt:=top 70
abbrev Io:Stmt:=top 71
abbrev Mp:Stmt:=top 72
abbrev Mq:Stmt:=top 73
abbrev Mm:Stmt:=top 74
abbrev yL:Stmt:=top 75
abbrev Zx6:Stmt:=top 77
abbrev Ep:Stmt:=top 79
abbrev En:Stmt:=top 80
abbrev Ed:Stmt:=top 81
abbrev Bf:Stmt:=top 82
abbrev Ei:Stmt:=top 83
abbrev El:Stmt:=top 84
abbrev Ej:Stmt:=top 85
abbrev Ek:Stmt:=top 86
abbrev Eo:Stmt:=top 87
abbrev Bj:Stmt:=top 88
abbrev Bd:Stmt:=top 89
abbrev Eh:Stmt:=top 90
abbrev yP:Stmt:=top 91
abbrev Bg:Stmt:=top 92
abbrev Em:Stmt:=top 93
abbrev Ef:Stmt:=top 94
abbrev yQ:Stmt:=top 95
abbrev Bc:Stmt:=top 96
abbrev wz:Stmt:=top 97
abbrev Bh:Stmt:=top 98
abbrev yO:Stmt:=top 99
abbrev Be:Stmt:=top 100
abbrev wA:Stmt:=top 101
abbrev Eg:Stmt:=top 102
abbrev SX:Stmt:=top 103
structure Hh(P:AL)(w:AN)(K:aC)(mg:As)(base:Heap)(n:Nat)(f:AH)(fd:AK)(ps:AG)(sp:Sp):Prop where
 g:xJ P w K mg base (G.VG P w) n f fd ps sp
 b:Binds K fd ps []
 k:W.keepIn K (.ref f)=true
theorem hh{P:AL}{w:AN}{K:aC}{mg:As}{base:Heap}{n:Nat}{f:AH}{fd:AK}{ps:AG}{sp:Sp}(g:xJ P w K mg base (G.VG P w) n f fd ps sp)(b:Binds K fd ps [])(k:W.keepIn K (.ref f)=true):ι n f fd ps sp:=⟨g,b,k⟩
abbrev lE(P:AL)(w:AN)(K:aC)(mg:As)(base:Heap)(n:Nat)(f:AH)(fd:AK)(ps:AG)(sp:Sp):Prop:=xJ P w K mg base (G.VG P w) n f fd ps sp
theorem fB{X:Cx}{n k:Nat}{f:AH}{fd:AK}{ps:AG}{sp:Sp}{x:Str}{e:AM}{a:AF}{t:TA}{p c:Pos}(d:Hh X.prog X.w X.K X.mg X.base n f fd ps sp)(hr:Room k X.A)(hm:X.mg x=↑f)(m:PA X (e::a) t)(hn:n<=k:=by decide)(j:X.env.kindOf x=some .globalImplicit:=by rfl)(i:(x == ("__debug__":Str))=false:=by decide)(l:starEach (e::a) X.env=(false,eval e X.env)::starEach a X.env:=by rfl)(h:(backTo c (starEach a X.env)).any (·.1)=false:=by rfl):PE X (.Call (.Name x p) (e::a) [] c) (aQ sp [] E0 t):=xX d.g (hr.mono hn) j hm d.k d.b .nil G.gH m i l h
theorem cY{N P:AG}{h:Scope}(a:h.kind=.function:=by rfl)(b:h.isCoroutine=false:=by rfl)(c:h.isGenerator=false:=by rfl)(d:N.Nodup:=by decide +kernel)(e:N.take P.length=P:=by rfl)(f:∀x∈P,h.names.lookup x=some .local\/h.names.lookup x=some .cell:=by decide +kernel)(g:∀y∈h.names,y.2≠.free:=by decide +kernel):aP N P h:=⟨a,b,c,d,e,f,g⟩
structure Txt(w:AN)(K:aC)(mg:As)(bC bA mQ bM fV dU fW gQ lQ gh aL aV bU bD dJ gF dR dH iU lN jH jG gD je eZ oW qg dI cN dB xj gY iQ jY eU jo oX fj jX ux xg ir vh rT oU ig cV cT zU gW Ig jq mO ie cU jm Ie bW zV pB bR bY cP dN dO dM iw dG eY lB jF gR gk iH jT jR iK iJ iI gb iD iG iC gU XH gJ eV iR jw kj kO kE kJ kY jA jt kh eN iu kW iT gw jr gm jz gZ ju gq jZ:AH):Prop where
 Yx:G.Tab K w mg "STEPS" [("rest",cV),("walk",cT),("give",cU),("lost",bW)]
 Yy:G.Tab K w mg "DEEDS" [("make",iH),("get",jT),("put",jR),("copy",iK),("drop",iJ),("give",iI),("write",gb),("read",iD),("name",iG),("seek",iC)]
 dz:Ij K bC
 Zqx:mg "Cell"=↑bC
 Rv:Mk K bC dJ
 d9:bN K bC "birth"
 nM:bN K bC "bulk"
 nJ:bN K bC "tone"
 jW:bN K bC "load"
 fL:bN K bC "fields"
 RB:G.EqD K bC
 cA:Ij K bA
 Zqt:mg "Heap"=↑bA
 Rt:Mk K bA dH
 pA:bN K bA "room"
 bO:bN K bA "cells"
 fG:bN K bA "used"
 nH:bN K bA "born"
 Zlw:Ij K mQ
 Zqu:mg "Hand"=↑mQ
 Ru:Mk K mQ dI
 yd:bN K mQ "name"
 vK:bN K mQ "slots"
 Vm:Ij K bM
 YZ:mg "Sweeper"=↑bM
 Cz:Mk K bM cN
 qt:bN K bM "sense"
 qu:bN K bM "phase"
 rK:bN K bM "grey"
 pK:bN K bM "looked"
 rG:bN K bM "turn"
 vI:bN K bM "at"
 rH:bN K bM "stop"
 qp:bN K bM "walks"
 qw:bN K bM "looks"
 pJ:bN K bM "passes"
 rJ:bN K bM "loss"
 Zgd:Ij K fV
 Zlg:mg "World"=↑fV
 J8:Mk K fV dB
 vH:bN K fV "heap"
 vG:bN K fV "kind"
 ur:bN K fV "hands"
 uq:bN K fV "names"
 qm:bN K fV "sweeper"
 Gr:Ij K dU
 Zlh:mg "First"=↑dU
 YM:G.Mk0 K dU
 K7:Ij K fW
 Zqw:mg "Each"=↑fW
 Zf8:G.Mk0 K fW
 K6:Ij K gQ
 Zqs:mg "Last"=↑gQ
 Zf7:G.Mk0 K gQ
 Zlv:Ij K lQ
 Zbs:mg "Kind"=↑lQ
 GR:Mk K lQ dG
 rM:bN K lQ "looking"
 vJ:bN K lQ "tells"
 Qc:mg "GreyError"=↑gh
 Qd:mg "EmptySlot"=↑aL
 Y0:mg "NoField"=↑aV
 Zqv:mg "Full"=↑bU
 Zfc:mg "NoName"=↑bD
 xO:G.Zsq K aL
 ZF:G.Zsq K bU
 GD:G.Zsq K aV
 Jw:G.Zsq K bD
 lR:W.exmOne K (.ref aL) (.ref gh)=some true
 mX:W.exmOne K (.ref aV) (.ref gh)=some true
 pN:W.exmOne K (.ref bU) (.ref gh)=some true
 nY:W.exmOne K (.ref bD) (.ref gh)=some true
 Ae:Meth K fW "at_begin" bR
 zK:Meth K fW "stays" cP
 wU:Meth K dU "next_look" bY
 wR:Meth K dU "stays" cP
 Ad:Meth K gQ "at_begin" bR
 Ny:Meth K bC "__init__" dJ
 uv:Meth K bC "units" gF
 yh:Meth K bC "has_field" dR
 Nv:Meth K bA "__init__" dH
 Ka:Meth K bA "make" iU
 Px:Meth K bA "lay" lN
 Kd:Meth K bA "back" jH
 Kc:Meth K bA "free" jG
 zJ:Meth K bA "there" gD
 tX:mg "cell_at"=↑je
 mK:mg "birth_at"=↑eZ
 YW:mg "reached"=↑oW
 Us:mg "onward"=↑qg
 Nx:Meth K mQ "__init__" dI
 Hw:Meth K bM "__init__" cN
 J9:Meth K fV "__init__" dB
 Zjb:mg "held"=↑xj
 zM:mg "births_held"=↑gY
 yj:mg "births_at"=↑iQ
 Pz:mg "looked_at"=↑jY
 nP:mg "has_sense"=↑eU
 Kg:mg "is_walking"=↑jo
 YX:mg "mark_of"=↑oX
 pL:mg "told_cells"=↑fj
 Py:mg "told_cell"=↑jX
 Zlf:mg "begin"=↑ux
 Zja:mg "note"=↑xg
 tW:mg "note_all"=↑ir
 Zbr:mg "gone"=↑vh
 Zbq:mg "roots"=↑rT
 YT:mg "root_of"=↑oU
 CJ:mg "note_hands"=↑ig
 Ur:mg "step_at_rest"=↑cV
 Up:mg "step_in_walk"=↑cT
 Zqp:mg "walk"=↑zU
 HY:mg "look_or_cut"=↑gW
 Zwi:mg "cut"=↑Ig
 Kh:mg "first_loss"=↑jq
 Ut:mg "given_up"=↑mO
 CG:mg "told_again"=↑ie
 Uq:mg "step_in_give"=↑cU
 Kf:mg "pass_place"=↑jm
 Zwh:mg "end"=↑Ie
 Nz:mg "step_when_lost"=↑bW
 Zj9:mg "step"=↑zV
 Uu:mg "all_of"=↑pB
 Hz:Meth K fW "at_begin" bR
 FZ:Meth K dU "next_look" bY
 Nt:Meth K fW "stays" cP
 yf:Meth K dU "at_begin" dN
 yg:Meth K fW "next_look" dO
 ye:Meth K gQ "next_look" dM
 zH:Meth K gQ "stays" iw
 Nu:Meth K lQ "__init__" dG
 lJ:mg "slots_of"=↑eY
 Af:mg "cell_in"=↑lB
 Ga:mg "fields_in"=↑jF
 HW:mg "told_as_old"=↑gR
 zL:mg "told_as_new"=↑gk
 Zn3:mg "do_make"=↑iH
 Zqr:mg "do_get"=↑jT
 Zqq:mg "do_put"=↑jR
 Zn6:mg "do_copy"=↑iK
 Zn5:mg "do_drop"=↑iJ
 Zn4:mg "do_give"=↑iI
 Zjc:mg "do_write"=↑gb
 Zn1:mg "do_read"=↑iD
 Zn2:mg "do_name"=↑iG
 Zn0:mg "do_seek"=↑iC
 HX:mg "place_named"=↑gU
 ZAj:mg "do"=↑XH
 nQ:mg "_law_cell"=↑gJ
 di:mg "_law_draw"=↑eV
 yl:mg "_law_word"=↑iR
 Km:mg "_law_hands"=↑jw
 PK:mg "_law_room"=↑kj
 PX:mg "_law_kind"=↑kO
 PL:mg "_law_made"=↑kE
 PN:mg "_law_load"=↑kJ
 Qa:mg "_law_deed"=↑kY
 Kq:mg "_law_deeds"=↑jA
 Kl:mg "_law_start"=↑jt
 PJ:mg "_law_rows"=↑kh
 oR:mg "_law_number"=↑eN
 CQ:mg "_law_event"=↑iu
 P0:mg "_law_hand"=↑kW
 ym:mg "_law_with"=↑iT
 zN:mg "_law_marked"=↑gw
 vL:mg "_law_state"=↑jr
 Gb:mg "_law_without"=↑gm
 Ko:mg "_law_ended"=↑jz
 Ia:mg "_law_passed"=↑gZ
 CP:mg "_law_names"=↑ju
 Gd:mg "_law_unnoted"=↑gq
 PB:mg "_law_step"=↑jZ
 ZD:mg "bool"=none
 qN:mg "enumerate"=none
 Zkz:mg "int"=none
 ji:mg "isinstance"=none
 mj:mg "len"=none
 vW:mg "list"=none
 uc:mg "range"=none
 Zky:mg "str"=none
 Jv:mg "tuple"=none
 Zwn:G.GC mg "NEW" (.int 2)
 Zwm:G.GC mg "OLD" (.int 1)
abbrev vg:AG:=["self","birth","many","bulk","tone"]
abbrev tR:AG:=["self","field"]
abbrev vd:AG:=["self","room"]
abbrev FJ:AG:=["self","many","bulk","tone"]
abbrev Jj:AG:=["self","cell"]
abbrev FN:AG:=["self","place"]
abbrev qO:AG:=["heap","place"]
abbrev lH:AG:=["heap","place"]
abbrev MP:AG:=["heap","rows"]
abbrev Tu:AG:=["heap","places","way"]
abbrev vf:AG:=["self","name","many"]
abbrev tL:AG:=["self","room","kind","hands"]
abbrev uA:AG:=["heap","places"]
abbrev Fl:AG:=["world","hand"]
abbrev mz:AG:=["world","cell"]
abbrev MT:AG:=["world","place"]
abbrev Fj:AG:=["world","place"]
abbrev Zaz:AG:=["world","place"]
abbrev qH:AG:=["world","places"]
abbrev Tv:AG:=["world","place","birth"]
abbrev MN:AG:=["world","place","birth"]
abbrev vC:AG:=["world","hands"]
abbrev qI:AG:=["self","hands"]
abbrev p8:AG:=["self","looked","hands"]
abbrev tO:AG:=["self","hands"]
abbrev tQ:AG:=["self","looked","hands"]
abbrev tM:AG:=["self","looked","hands"]
abbrev u9:AG:=["self","looking","tells"]
abbrev lG:AG:=["world","hand"]
abbrev vV:AG:=["world","hand","slot"]
abbrev xZ:AG:=["world","hand","slot","field"]
abbrev zB:AG:=["world","place"]
abbrev uh:AG:=["world","hand","place"]
abbrev M8:AG:=["world","deed"]
abbrev Tz:AG:=["world","deed"]
abbrev Tw:AG:=["world","deed"]
abbrev Nf:AG:=["world","deed"]
abbrev Nb:AG:=["world","deed"]
abbrev M9:AG:=["world","deed"]
abbrev Ji:AG:=["world","deed"]
abbrev M6:AG:=["world","deed"]
abbrev M7:AG:=["world","deed"]
abbrev M5:AG:=["world","deed"]
abbrev zE:AG:=["world","word"]
abbrev Zxd:AG:=["world","deed"]
abbrev qP:AG:=["_law_script","_law_k"]
abbrev mC:AG:=["_law_cell_here","_law_prime","_law_many"]
abbrev uB:AG:=["_law_cell_here","_law_w"]
abbrev Cq:AG:=["_law_script"]
abbrev Ft:AG:=["_law_script"]
abbrev Fx:AG:=["_law_number_here"]
abbrev Fv:AG:=["_law_n","_law_h","_law_s"]
abbrev Fw:AG:=["_law_n"]
abbrev Fz:AG:=["_law_n","_law_hands_here","_law_seed"]
abbrev Cu:AG:=["_law_n","_law_hands_here","_law_seed"]
abbrev Cm:AG:=["_law_hands_here","_law_cell_here","_law_seed"]
abbrev Fq:AG:=["_law_script","_law_hands_here"]
abbrev oO:AG:=["_law_found"]
abbrev vD:AG:=["_law_found","_law_due"]
abbrev Fy:AG:=["_law_world","_law_deed_here"]
abbrev uC:AG:=["_law_cells","_law_births","_law_mark"]
abbrev um:AG:=["_law_after","_law_before","_law_marks"]
abbrev Ck:AG:=["_law_sweeper"]
abbrev wL:AG:=["_law_cells","_law_birth"]
abbrev Cr:AG:=["_law_world","_law_cells","_law_state_here","_law_event_here"]
abbrev zF:AG:=["_law_world","_law_cells","_law_at","_law_used","_law_event_here"]
abbrev Cp:AG:=["_law_world"]
abbrev wM:AG:=["_law_world","_law_cells"]
abbrev Fp:AG:=["_law_world","_law_way"]
theorem Mh:aP ["self","birth","many","bulk","tone"] vg (aJ uR):=cY
theorem Wn:aP ["self"] ["self"] (aJ Bm):=cY
theorem JS:aP ["self","field"] tR (aJ sY):=cY
theorem Mf:aP ["self","room"] vd (aJ uP):=cY
theorem Zah:aP ["self","many","bulk","tone","cell"] FJ (aJ xT):=cY
theorem Zee:aP ["self","cell","place"] Jj (aJ Iu):=cY
theorem Zaj:aP ["self","place","cell"] FN (aJ Es):=cY
theorem Zai:aP ["self"] ["self"] (aJ Er):=cY
theorem Wl:aP ["self"] ["self"] (aJ Bl):=cY
theorem Zhz:aP ["heap","place"] qO (aJ Mx):=cY
theorem Zed:aP ["heap","place","cell"] lH (aJ Ir):=cY
theorem Zhp:aP ["heap","rows","queue","number","row","listed","taken","place","way"] MP (aJ Mj):=cY
theorem Zme:aP ["heap","places","way"] Tu (aJ SQ):=cY
theorem Mg:aP ["self","name","many"] vf (aJ uQ):=cY
theorem Hs:aP ["self"] ["self"] (aJ qD):=cY
theorem JN:aP ["self","room","kind","hands"] tL (aJ sU):=cY
theorem Zt7:aP ["world"] ["world"] (aJ Zi4):=cY
theorem Sx:aP ["world"] ["world"] (aJ yN):=cY
theorem Za4:aP ["heap","places"] uA (aJ Ec):=cY
theorem Za1:aP ["world","hand"] Fl (aJ DY):=cY
theorem Za2:aP ["world","cell"] mz (aJ Ea):=cY
theorem Wb:aP ["world"] ["world"] (aJ Ba):=cY
theorem Zhq:aP ["world","place","sweeper","toned"] MT (aJ Ml):=cY
theorem V6:aP ["world"] ["world"] (aJ Av):=cY
theorem Za0:aP ["world","place","cell","fields"] Fj (aJ DX):=cY
theorem Zp5:aP ["world","sweeper"] ["world"] (aJ Zal):=cY
theorem Zt6:aP ["world","place","sweeper","cell"] Zaz (aJ Zi3):=cY
theorem Zea:aP ["world","places","births","place","birth"] qH (aJ Il):=cY
theorem Zt8:aP ["world","place","birth","cell"] Tv (aJ Zi5):=cY
theorem Zp4:aP ["world"] ["world"] (aJ Zak):=cY
theorem Zho:aP ["world","place","birth"] MN (aJ Mi):=cY
theorem V9:aP ["world","hands","noted","number","hand"] vC (aJ Az):=cY
theorem QJ:aP ["world","noted"] ["world"] (aJ wu):=cY
theorem QG:aP ["world"] ["world"] (aJ v9):=cY
theorem Zt4:aP ["world","sweeper","cell"] ["world"] (aJ Zi1):=cY
theorem Sv:aP ["world","sweeper","looking","hands","noted"] ["world"] (aJ yM):=cY
theorem Zx5:aP ["world","sweeper","loss","births"] ["world"] (aJ Zp8):=cY
theorem Wc:aP ["world","place","way","cell"] ["world"] (aJ Bb):=cY
theorem Zeb:aP ["world","heap"] ["world"] (aJ Im):=cY
theorem V7:aP ["event"] ["event"] (aJ Aw):=cY
theorem QH:aP ["world"] ["world"] (aJ wj):=cY
theorem V8:aP ["world","sweeper","place","cell"] ["world"] (aJ Ay):=cY
theorem Zx4:aP ["world","sweeper"] ["world"] (aJ s_end):=cY
theorem JM:aP ["world"] ["world"] (aJ sS):=cY
theorem Zt5:aP ["world","act"] ["world"] (aJ Zi2):=cY
theorem Zmh:aP ["hands"] ["hands"] (aJ S7):=cY
theorem Ht:aP ["self","hands"] qI (aJ qF):=cY
theorem DW:aP ["self","looked","hands"] p8 (aJ pX):=cY
theorem LR:aP ["self"] ["self"] (aJ uN):=cY
theorem JQ:aP ["self","hands"] tO (aJ sW):=cY
theorem JR:aP ["self","looked","hands","hand"] tQ (aJ sX):=cY
theorem JP:aP ["self","looked","hands"] tM (aJ sV):=cY
theorem Wk:aP ["self"] ["self"] (aJ Bk):=cY
theorem Ma:aP ["self","looking","tells"] u9 (aJ uO):=cY
theorem Ze9:aP ["world","hand"] lG (aJ Ik):=cY
theorem Zhy:aP ["world","hand","slot","cell"] vV (aJ Mw):=cY
theorem Za3:aP ["world","hand","slot","field","cell"] xZ (aJ Eb):=cY
theorem Sq:aP ["world","place"] zB (aJ yJ):=cY
theorem Ss:aP ["world","hand","place"] uh (aJ yK):=cY
theorem Zhu:aP ["world","deed","slots","many","bulk","place"] M8 (aJ Mr):=cY
theorem Zmg:aP ["world","deed","hand","source","field","place"] Tz (aJ S6):=cY
theorem Zmf:aP ["world","deed","hand","field","fields","old","new","noted"] Tw (aJ S5):=cY
theorem Zhx:aP ["world","deed","slots","place"] Nf (aJ Mv):=cY
theorem Zhw:aP ["world","deed","slots","place"] Nb (aJ Mu):=cY
theorem Zhv:aP ["world","deed","giver","taker","place","noted"] M9 (aJ Ms):=cY
theorem Zec:aP ["world","deed","cell","before"] Ji (aJ Io):=cY
theorem Zhs:aP ["world","deed","cell"] M6 (aJ Mp):=cY
theorem Zht:aP ["world","deed","hand","slot","birth"] M7 (aJ Mq):=cY
theorem Zhr:aP ["world","deed","place","noted"] M5 (aJ Mm):=cY
theorem Su:aP ["world","word","place","birth"] zE (aJ yL):=cY
theorem ZA3:aP ["world","deed","act"] Zxd (aJ Zx6):=cY
theorem Zag:aP ["_law_script","_law_k"] qP (aJ Ep):=cY
theorem Zae:aP ["_law_cell_here","_law_prime","_law_many"] mC (aJ En):=cY
theorem Za5:aP ["_law_cell_here","_law_w","_law_letters","_law_size","_law_at","_law_rest","_law_sign"] uB (aJ Ed):=cY
theorem Wg:aP ["_law_script","_law_cell_here","_law_hands_here","_law_h","_law_many"] Cq (aJ Bf):=cY
theorem Za9:aP ["_law_script","_law_cell_here"] Ft (aJ Ei):=cY
theorem Zac:aP ["_law_number_here"] Fx (aJ El):=cY
theorem Zaa:aP ["_law_n","_law_h","_law_s","_law_many","_law_bulk"] Fv (aJ Ej):=cY
theorem Zab:aP ["_law_n","_law_load_here"] Fw (aJ Ek):=cY
theorem Zaf:aP ["_law_n","_law_hands_here","_law_seed","_law_h","_law_s","_law_t","_law_f","_law_what","_law_g","_law_word_here"] Fz (aJ Eo):=cY
theorem Wj:aP ["_law_n","_law_hands_here","_law_seed","_law_deed_here"] Cu (aJ Bj):=cY
theorem We:aP ["_law_hands_here","_law_cell_here","_law_seed","_law_rows_here","_law_h","_law_way"] Cm (aJ Bd):=cY
theorem Za8:aP ["_law_script","_law_hands_here","_law_rows_here","_law_seed","_law_k","_law_cell_here","_law_n"] Fq (aJ Eh):=cY
theorem SJ:aP ["_law_found"] oO (aJ yP):=cY
theorem Wh:aP ["_law_found","_law_due","_law_number_here"] vD (aJ Bg):=cY
theorem Zad:aP ["_law_world","_law_deed_here","_law_event_here"] Fy (aJ Em):=cY
theorem Za6:aP ["_law_cells","_law_births","_law_mark","_law_marks","_law_cell_here","_law_birth"] uC (aJ Ef):=cY
theorem SM:aP ["_law_after","_law_before","_law_marks","_law_k"] um (aJ yQ):=cY
theorem Wd:aP ["_law_sweeper","_law_told","_law_number_here"] Ck (aJ Bc):=cY
theorem QK:aP ["_law_cells","_law_birth","_law_left","_law_cell_here","_law_fields"] wL (aJ wz):=cY
theorem Wi:aP ["_law_world","_law_cells","_law_state_here","_law_event_here","_law_cell_here"] Cr (aJ Bh):=cY
theorem Sy:aP ["_law_world","_law_cells","_law_at","_law_used","_law_event_here","_law_left","_law_due","_law_cell_here"] zF (aJ yO):=cY
theorem Wf:aP ["_law_world","_law_marks","_law_row","_law_word_here","_law_place","_law_birth","_law_due","_law_found"] Cp (aJ Be):=cY
theorem QL:aP ["_law_world","_law_cells","_law_doomed"] wM (aJ wA):=cY
theorem Za7:aP ["_law_world","_law_way","_law_sweeper","_law_cells","_law_rows_here","_law_state_here","_law_at","_law_stop","_law_used","_law_event_here"] Fp (aJ Eg):=cY
theorem Zx3:aP ["_law_script","_law_way","_law_hands_here","_law_world","_law_row"] ["_law_script"] (aJ SX):=cY
section
variable {X:Cx}
theorem jk{a b:AM}{d e:TE}{c:Pos}{r:R2}(hr:IxR X r)(f:PE X a d)(hb:PE X b e)(hs:Zdp b:=by exact λ_ _=>rfl):PE X (.Subscript a b c) (bx r d e):=Zwf hr f hb hs
theorem pdg{o i:AM}{b ty:TE}{a:Pos}{k:Nat}(hr:Room k X.A)(d:PE X o b)(c:PE X i ty)(hs:Zw5 i:=by exact λ_ _=>rfl):PE X (.Subscript o i a) (R1 b ty):=Zu5 (wW hr) d c hs
theorem mV{a b:AM}{e f:TE}{d:Pos}{c:CmpOp}{r:R2}(h:Ag X (compareOp c) r)(g:PE X a e)(hb:PE X b f)(hm:behindInMarks c b=false:=by exact zG _):PT X (.Compare a [c] [b] d) (bI (bx r e f)):=Ztm h g hb hm
theorem fX(i:Nat){x:Str}{e:AM}{c:TE}{a b:Pos}(h:X.N.Nodup)(g:PE X e c)(d:X.N[i]? =some x:=by rfl)(hx:Loc X.env.scope x:=by exact Or.inl rfl)(hs:swapsWith e (some (.Name x a)) b.line X.env=pure false:=by rfl)(f:X.fn x=true\/X.env.scope.names.lookup x=some .local:=by first | exact .inl rfl | exact .inr rfl | assumption):PS X (.Assign [.Name x a] e b) (bF c (aO i)):=Zic h d hx g hs f
end
structure PAw(X:Cx)(es:AF)(t:TA):Prop where
 h:PA X es t
structure PSw(X:Cx)(st:List Stmt)(t:TS):Prop where
 h:PSs X st t
structure PPw(X:Cx)(pos:Pos)(keys:List (Option AM))(values:AF)(trs:List (TE×TE)):Prop where
 h:PPs X pos keys values trs
structure PEw(X:Cx)(e:AM)(t:TE):Prop where
 h:PE X e t
section
variable {X:Cx}
theorem Zu6:PAw X [] aB:=⟨au⟩
theorem Aa{e es te t}(a:PE X e te)(hr:PAw X es t)(hs:starEach (e::es) X.env=(false,eval e X.env)::starEach es X.env:=by rfl):PAw X (e::es) (aj te t):=⟨aa a hr.h hs⟩
theorem Th{st rest t u}(h1:PS X st t)(h2:PSw X rest u):PSw X (st::rest) (aN t u):=⟨ao h1 h2.h⟩
theorem Ztn{st t}(h1:PS X st t):PSw X [st] t:=⟨aA h1⟩
theorem Zto{i:Nat}{x:Str}{es t b tb p q pos' pos rest u}(d:X.N.Nodup)(a:X.N[i]? =some x)(hx:Loc X.env.scope x)(h:PAw X es t)(hb:PE X b tb)(hp:Zdp b)(h2:PSw X rest u)(hs:swapsWith (.Subscript (.List es p) b q) (some (.Name x pos')) pos.line X.env=pure false:=by rfl)(c:X.fn x=true\/X.env.scope.names.lookup x=some .local:=by first | exact .inl rfl | exact .inr rfl | assumption):PSw X (.Assign [.Name x pos'] (.Subscript (.List es p) b q) pos::rest) (aN (bF (bx (m6 X.K) (fO t) tb) (aO i)) u):=⟨ao (Zic d a hx (Zwf dm (cG h.h) hb hp) hs c) h2.h⟩
end
open PySem.Spec PyProof.Rows in
theorem ZKp{P:AL}{w:AN}{K:aC}{mg:As}{base:Heap}{x a:Str}{st:Stmt}{f:AH}{fd:AK}{N ps:AG}{sp:Sp}{k:Nat}(F:jJ K x a st f fd)(S:aP N ps (aJ st))(len:∀vs H Q E,sp vs H Q E->vs.length=ps.length)
  (c:∀(b:AI) (A:Around) (outer:List Env) (s:AJ) (H:Hp) (vs:List V) (Q:VK) (E:XK),Room k (A.deeper (envOfC a (aJ st) s.heap.objs.size f b))->sp vs H Q E->
   ∃t,PSw (Ou (VG P w) P w K mg base N a (aJ st) f b A outer s H E).nox (lU st) t/\t { nx:=λ_ H'=>Q .non H',rt:=Q } (start N vs) H):xJ P w K mg base (VG P w) (k+1) f fd ps sp:=
 G.fok F S len λb A outer s H vs Q E hr h=>let ⟨t,p,q⟩:=c b A outer s H vs Q E hr h;⟨t,p.h,q⟩
local macro_rules | `(tactic| walk_at"k")=>`(tactic| (first | (obtain ⟨_,rfl,_⟩:=h;rfl) | (obtain ⟨_,_,rfl,_⟩:=h;rfl) | (obtain ⟨_,_,_,rfl,_⟩:=h;rfl) | (obtain ⟨_,_,_,_,rfl,_⟩:=h;rfl) | (obtain ⟨_,_,_,_,_,rfl,_⟩:=h;rfl) | (obtain ⟨_,_,_,_,_,_,rfl,_⟩:=h;rfl) | (obtain ⟨_,_,_,_,_,_,_,rfl,_⟩:=h;rfl)))
local macro_rules | `(tactic| walk_at "ok")=>`(tactic| (refine G.fok F sc (λvs H Q E h=>?_) (λcdv A outer s H vs Q E hr h=>?_);· (walk_at"k")))
local macro_rules | `(tactic| walk_at "okw")=>`(tactic| (refine ZKp F sc (λvs H Q E h=>?_) (λcdv A outer s H vs Q E hr h=>?_);· (walk_at"k")))
local macro_rules | `(tactic| walk_at "okX")=>`(tactic| (refine G.ZKq F sc (λvs H Q E h=>?_) (λcdv A outer s H vs Q E hr h=>?_);· (walk_at"k")))
local macro_rules | `(tactic| walk_at "okDX")=>`(tactic| (refine G.ZBf F sc (λvs H Q E h=>?_) (λcdv A outer s H vs Q E hr h=>?_);· (walk_at"k")))
section
variable (P:AL){w:AN}{K:aC}{mg:As}(base:Heap){gh aL aV bU bD dJ gF dR dH iU lN jH jG gD je eZ oW qg dI cN dB xj gY iQ jY eU jo oX fj jX ux xg ir vh rT oU ig cV cT zU gW Ig jq mO ie cU jm Ie bW zV pB bR bY cP dN dO dM iw dG eY lB jF gR gk iH jT jR iK iJ iI gb iD iG iC gU XH gJ eV iR jw kj kO kE kJ kY jA jt kh eN iu kW iT gw jr gm jz gZ ju gq jZ:AH}(XQ:Cs)(T:Txt w K mg XQ.C XQ.H XQ.D XQ.S XQ.W XQ.F XQ.E XQ.L XQ.K gh aL aV bU bD dJ gF dR dH iU lN jH jG gD je eZ oW qg dI cN dB xj gY iQ jY eU jo oX fj jX ux xg ir vh rT oU ig cV cT zU gW Ig jq mO ie cU jm Ie bW zV pB bR bY cP dN dO dM iw dG eY lB jF gR gk iH jT jR iK iJ iI gb iD iG iC gU XH gJ eV iR jw kj kO kE kJ kY jA jt kh eN iu kW iT gw jr gm jz gZ ju gq jZ)
include T
theorem pQ:qT K XQ:=⟨⟨T.dz,T.d9,T.nM,T.nJ,T.jW,T.fL,T.cA,T.pA,T.bO,T.fG,T.nH,T.RB⟩,T.Zgd,T.vH,T.vG,T.ur,T.uq,T.qm,T.Zlw,T.yd,T.vK,T.Zlv,T.rM,T.vJ,T.Vm,T.qt,T.qu,T.rK,T.pK,T.rG,T.vI,T.rH,T.qp,T.qw,T.pJ,T.rJ⟩
theorem Nm{fd:AK}(F:jJ K "__init__" "Cell.__init__" uR dJ fd):μ 1 dJ fd vg (yC XQ.C):=by
 have sc:=Mh;have tx:=pQ _ T;walk_at "ok"
 ·refine⟨tH K,(ao (cL Ξ ψ rfl)
   (ao (cL Ξ ah rfl)
   (ao (cL Ξ (pv 4) rfl)
   (ao (cL Ξ (az) rfl)
   (aA (cL Ξ (bz TF (cG (aa (fD) au)) Θ) rfl)))))),?_⟩
  obtain⟨z0,z1,z2,z3,z4,rfl,q⟩:=h;exact Pa tx.c q
theorem WX{fd:AK}(F:jJ K "units" "Cell.units" Bm gF fd):μ 1 gF fd ["self"] (oE XQ.C):=by
 have sc:=Wn;have tx:=pQ _ T;walk_at "ok"
 ·refine⟨zz K,(aA (aM (bz lX (bz lX (az) (cR G.dj η T.mj G.boot_len (aa ο au))) ο))),?_⟩;obtain⟨z0,rfl,q⟩:=h;exact Ye tx.c q
theorem J4{fd:AK}(F:jJ K "has_field" "Cell.has_field" sY dR fd):μ 1 dR fd tR (yr XQ):=by
 have sc:=JS;have tx:=pQ _ T;walk_at "ok"
 ·refine⟨rE K,(aA (aM (Zq0 ZAa HR (az) ψ (cR G.dj η T.mj G.boot_len (aa ο au))))),?_⟩;obtain⟨z0,z1,rfl,q⟩:=h;exact Ln tx q
theorem Nj{fd:AK}(F:jJ K "__init__" "Heap.__init__" uP dH fd):μ 1 dH fd vd (yw XQ.H):=by
 have sc:=Mf;have tx:=pQ _ T;walk_at "ok"
 ·refine⟨tE K,(ao (cL Ξ ψ rfl)
   (ao (cL Ξ (cG au) rfl)
   (ao (cL Ξ (az) rfl)
   (aA (cL Ξ (az) rfl))))),?_⟩
  obtain⟨z0,z1,rfl,q⟩:=h;exact OJ tx.c q
theorem Zbj{fd:AK}{Ot zT Zd5 Zg4:AK}(F:G.Zzt K "make" "Heap.make" xT iU fd)(Dt:ι 1 dJ Ot vg (yC XQ.C))(oH:ι 1 gF zT ["self"] (oE XQ.C))(Qo:ι 1 jG Zd5 ["self"] (yx XQ.H))(VF:ι 1 lN Zg4 Jj (Dh K XQ.H)):μ 3 iU fd FJ (yu K XQ.C XQ.H bU):=by
 have sc:=Zah;have tx:=pQ _ T;walk_at "okDX"
 ·refine⟨BX K XQ.C bU XQ.H (yC XQ.C) (oE XQ.C) (yx XQ.H) (Dh K XQ.H) E,(ao (fX 4 sc.nd (Cg T.Rv Dt.g (hr.mono ε) rfl T.Zqx Dt.b .nil G.gH (aa (bz lX ο (az)) (aa ψ (aa Θ (aa ah au))))))
   (ao (bZ (mV Zlc (oN (pv 4) T.dz T.uv oH.g (hr.mono ε) oH.b .nil G.gH) (oN Ξ T.cA T.Kc Qo.g (hr.mono ε) Qo.b .nil G.gH)) (aA (G.JV rfl rfl T.Zqv T.ZF (aa (bH) au) (λ_ _ _ _ _ _ _ I hx hE=>G.Zas I hx hE))) bh)
   (ao (cL Ξ (aG (pv 4) rfl) rfl)
   (ao (cL Ξ (bz lX ο (oN (pv 4) T.dz T.uv oH.g (hr.mono ε) oH.b .nil G.gH)) rfl)
   (aA (aM (uf Ξ T.cA T.Px VF.g (hr.mono ε) VF.b .nil G.gH (aa (pv 4) au)))))))),?_⟩
  obtain⟨z0,z1,z2,z3,rfl,q⟩:=h;exact Zdq tx.c q
theorem Zev{fd:AK}(F:jJ K "lay" "Heap.lay" Iu lN fd):μ 1 lN fd Jj (Dh K XQ.H):=by
 have sc:=Zee;have tx:=pQ _ T;walk_at "ok"
 ·refine⟨Fb K,(ao (bZ (mV (G.Zmq (wW hr)) (fD) ο (by with_unfolding_all rfl)) (ao (qj (Fg PySem.F.plainAttrs_list PySem.F.slot_list_append PySem.F.type_list_append tV ο (aa ψ au)))
   (aA (aM (bz wN (cR G.dj η T.mj G.boot_len (aa ο au)) (az))))) bh)
   (ao (fX 2 sc.nd (Fg PySem.F.plainAttrs_list PySem.F.slot_list_index PySem.F.type_list_index (G.Zmy (wW hr)) ο (aa (fD) au)))
   (ao (zA ψ (Cd ο Θ set_list))
   (aA (aM Θ))))),?_⟩
  obtain⟨z0,z1,rfl,q⟩:=h;exact Zgn tx.c q
theorem Zbl{fd:AK}(F:jJ K "back" "Heap.back" Es jH fd){zT:AK}(oH:ι 1 gF zT ["self"] (oE XQ.C)):μ 2 jH fd FN (uH XQ.C XQ.H):=by
 have sc:=Zaj;have tx:=pQ _ T;walk_at "ok"
 ·refine⟨Ca K XQ.C (oE XQ.C),(ao (fX 2 sc.nd (jk dm ο ψ))
   (ao (cL Ξ (bz wN ο (oN Θ T.dz T.uv oH.g (hr.mono ε) oH.b .nil G.gH)) rfl)
   (ao (zA (fD) (Cd ο ψ set_list))
   (aA (aM (aG Θ rfl)))))),?_⟩
  obtain⟨z0,z1,rfl,q⟩:=h;exact Zds tx.c q
theorem Zbk{fd:AK}(F:jJ K "free" "Heap.free" Er jG fd):μ 1 jG fd ["self"] (yx XQ.H):=by
 have sc:=Zai;have tx:=pQ _ T;walk_at "ok"
 ·refine⟨BZ K,(aA (aM (bz wN ο ο))),?_⟩;obtain⟨z0,rfl,q⟩:=h;exact Zdr tx.c q
theorem WW{fd:AK}(F:jJ K "there" "Heap.there" Bl gD fd):μ 1 gD fd ["self"] (oA XQ.H):=by
 have sc:=Wl;have tx:=pQ _ T;walk_at "ok"
 ·refine⟨zy K,(aA (aM (G.Tn (cns:=["self"]) [0] (tK rfl T.uc (aa (cR G.dj η T.mj G.boot_len (aa ο au)) au)) (λ_ _ _ _ _=>(G.Zaw (mV G.wO (jk dm (aG ψ rfl) Ξ) (fD)))) (λ_ _ _ _ _=>Ξ) rfl rfl ω (by repeat (first | exact trivial | refine⟨rfl,?_⟩)) rfl γ rfl γ γ rfl γ))),?_⟩;obtain⟨z0,rfl,q⟩:=h;exact X7 tx.c q
theorem Zj0{fd:AK}(F:jJ K "cell_at" "cell_at" Mx je fd):μ 1 je fd qO (eO XQ.H):=by
 have sc:=Zhz;have tx:=pQ _ T;walk_at "ok"
 ·refine⟨Jg K,(ao (bZ (PW.pt (nj (mV G.Cv ψ (fD)) (nj (mV HR ψ (az)) (m7 (mV ZAb ψ (cR G.dj η T.mj G.boot_len (aa ο au))))))) (aA (aM (fD))) bh)
   (aA (aM (jk dm ο ψ)))),?_⟩
  obtain⟨z0,z1,rfl,q⟩:=h;exact Zkk tx q
theorem Zeu{fd:AK}(F:jJ K "birth_at" "birth_at" Ir eZ fd){lK:AK}(nF:ι 1 je lK qO (eO XQ.H)):μ 2 eZ fd lH (bV XQ):=by
 have sc:=Zed;have tx:=pQ _ T;walk_at "ok"
 ·refine⟨EY K (eO XQ.H),(ao (fX 2 sc.nd (fB nF hr T.tX (aa Ξ (aa ψ au))))
   (ao (bZ (mV G.Cv Θ (fD)) (aA (aM (fD))) bh)
   (aA (aM (aG Θ rfl))))),?_⟩
  obtain⟨z0,z1,rfl,q⟩:=h;exact Zgf tx q
theorem Ziq{fd:AK}(F:jJ K "reached" "reached" Mj oW fd){Zo0:AK}(Zgp:ι 2 qg Zo0 Tu (Gu K XQ.C XQ.H)):μ 3 oW fd MP (Hj K XQ.C XQ.H):=by
 have sc:=Zhp;have tx:=pQ _ T;walk_at "ok"
 ·refine⟨Bp K (Gu K XQ.C XQ.H),(ao (fX 2 sc.nd (cG au))
   (ao (nT PassesOwn.never rfl (G.Zav rfl T.qN (aa ψ au)) (Tj rfl (qd (fu (i:=3) sc.nd rfl (Or.inl rfl)) (qd (fu (i:=4) sc.nd rfl (Or.inl rfl)) JW)))
   (aA (qj (Fg PySem.F.plainAttrs_list PySem.F.slot_list_extend PySem.F.type_list_extend Nr Θ (aa (fB Zgp hr T.Us (aa Ξ (aa (pv 4) (aa (cM (aa ah au)) au)))) au)))))
   (ao (fX 5 sc.nd (Tq))
   (ao (fX 6 sc.nd (az))
   (ao (Zpm PassesOwn.never (mV HR (pv 6) (cR G.dj η T.mj G.boot_len (aa Θ au))) (ao (fX 7 sc.nd (jk bJ (jk dm Θ (pv 6)) (az)))
   (ao (fX 8 sc.nd (jk bJ (jk dm Θ (pv 6)) (az)))
   (ao (fX 6 sc.nd (bz lX (pv 6) (az)))
   (aA (bZ (Zpl (G.Zih (wW hr) (pv 7) (pv 5))) (ao (Ro (wW hr) (pv 5) (pv 7) (pv 8) rfl)
   (aA (qj (Fg PySem.F.plainAttrs_list PySem.F.slot_list_extend PySem.F.type_list_extend Nr Θ (aa (fB Zgp hr T.Us (aa Ξ (aa (aG (jk dm ο (pv 7)) rfl) (aa (pv 8) au)))) au))))) bh))))))
   (aA (aM (vU (G.Zkm rfl) η T.vW G.boot_list (aa (G.Zpy (pv 5)) au))))))))),?_⟩
  obtain⟨z0,z1,z2,z3,z4,rfl,q⟩:=h;exact Zi8 tx q
theorem Zms{fd:AK}(F:jJ K "onward" "onward" SQ qg fd){lK:AK}(nF:ι 1 je lK qO (eO XQ.H)):μ 2 qg fd Tu (Gu K XQ.C XQ.H):=by
 have sc:=Zme;walk_at "ok"
 ·refine⟨GJ K (eO XQ.H),(aA (aM (G.Zig (cns:=["heap","way"]) [0,2] (G.Zav rfl T.qN (aa ψ au)) (λ_ _ _ _ _=>(G.Zaw (mV G.wO (fB nF hr T.tX (aa Θ (aa ψ au))) (fD)))) (λ_ _ _ _ _=>(cM (aa ψ (aa (bz Zld ah (cM (aa Ξ au))) au)))) rfl rfl ω (by repeat (first | exact trivial | refine⟨rfl,?_⟩)) rfl γ rfl γ γ rfl rfl γ))),?_⟩;obtain⟨z0,z1,z2,z3,z4,z5,rfl,q⟩:=h;exact Zmr q
theorem Nk{fd:AK}(F:jJ K "__init__" "Hand.__init__" uQ dI fd):μ 1 dI fd vf (yz XQ.D):=by
 have sc:=Mg;have tx:=pQ _ T;walk_at "ok"
 ·refine⟨tG K,(ao (cL Ξ ψ rfl)
   (aA (cL Ξ (bz TF (cG (aa (fD) au)) Θ) rfl))),?_⟩
  obtain⟨z0,z1,z2,rfl,q⟩:=h;exact O1 tx q
theorem Hu{fd:AK}(F:jJ K "__init__" "Sweeper.__init__" qD cN fd):μ 1 cN fd ["self"] (rZ XQ.S):=by
 have sc:=Hs;have tx:=pQ _ T;walk_at "ok"
 ·refine⟨pZ K,(ao (cL Ξ (az) rfl)
   (ao (cL Ξ (bH) rfl)
   (ao (cL Ξ (cG au) rfl)
   (ao (cL Ξ (az) rfl)
   (ao (cL Ξ (az) rfl)
   (ao (cL Ξ (az) rfl)
   (ao (cL Ξ (az) rfl)
   (ao (cL Ξ (az) rfl)
   (ao (cL Ξ (az) rfl)
   (ao (cL Ξ (az) rfl)
   (aA (cL Ξ (fD) rfl)))))))))))),?_⟩
  obtain⟨z0,rfl,q⟩:=h;exact HH tx q
theorem J0{fd:AK}{Oq Oo HB:AK}(F:jJ K "__init__" "World.__init__" sU dB fd)(Ds:ι 1 dI Oq vf (yz XQ.D))(Dr:ι 1 dH Oo vd (yw XQ.H))(xH:ι 1 cN HB ["self"] (rZ XQ.S)):μ 3 dB fd tL (vP XQ):=by
 have sc:=JN;have tx:=pQ _ T;walk_at "ok"
 ·refine⟨rA K XQ.D XQ.H XQ.S (yz XQ.D) (yw XQ.H) (rZ XQ.S),(ao (cL Ξ (Cg T.Rt Dr.g (hr.mono ε) rfl T.Zqt Dr.b .nil G.gH (aa ψ au)) rfl)
   (ao (cL Ξ Θ rfl)
   (ao (cL Ξ (G.Zig (cns:=[]) [] (jN ah) (λ_ _ _ _ _=>G.Fe) (λ_ _ _ _ _=>(Cg T.Ru Ds.g (hr.mono ε) rfl T.Zqu Ds.b .nil G.gH (aa Ξ (aa ψ au)))) rfl rfl ω (by repeat (first | exact trivial | refine⟨rfl,?_⟩)) rfl γ rfl γ γ rfl rfl γ) rfl)
   (ao (cL Ξ (Tq) rfl)
   (aA (cL Ξ (Zpw T.Cz xH.g (hr.mono ε) rfl T.YZ xH.b .nil G.gH) rfl)))))),?_⟩
  obtain⟨z0,z1,z2,z3,rfl,q⟩:=h;exact K9 tx q
theorem Zud{fd:AK}(F:jJ K "held" "held" Zi4 xj fd):μ 1 xj fd ["world"] (Gv XQ):=by
 have sc:=Zt7;have tx:=pQ _ T;walk_at "ok"
 ·refine⟨Zaq K,(aA (aM (G.Tn (cns:=[]) [] (jN ο) (λ_ _ _ _ _=>G.Fe) (λ_ _ _ _ _=>(vU G.Jq η T.vW G.boot_list (aa ο au))) rfl rfl ω (by repeat (first | exact trivial | refine⟨rfl,?_⟩)) rfl γ rfl γ γ rfl γ))),?_⟩;obtain⟨z0,rfl,q⟩:=h;exact Zve tx q
theorem T9{fd:AK}(F:jJ K "births_held" "births_held" yN gY fd){rP:AK}(uI:ι 3 iQ rP uA (kZ XQ)):μ 4 gY fd ["world"] (Lf XQ):=by
 have sc:=Sx;have tx:=pQ _ T;walk_at "ok"
 ·refine⟨wG K (kZ XQ),(aA (aM (G.Tn (cns:=["world"]) [0] (jN ο) (λ_ _ _ _ _=>G.Fe) (λ_ _ _ _ _=>(fB uI hr T.yj (aa (aG ψ rfl) (aa ο au)))) rfl rfl ω (by repeat (first | exact trivial | refine⟨rfl,?_⟩)) rfl γ rfl γ γ rfl γ))),?_⟩;obtain⟨z0,rfl,q⟩:=h;exact Vs tx q
theorem Zb6{fd:AK}(F:jJ K "births_at" "births_at" Ec iQ fd){d8:AK}(fJ:ι 2 eZ d8 lH (bV XQ)):μ 3 iQ fd uA (kZ XQ):=by
 have sc:=Za4;have tx:=pQ _ T;walk_at "ok"
 ·refine⟨Bt K (bV XQ),(aA (aM (G.Tn (cns:=["heap"]) [0] (jN ψ) (λ_ _ _ _ _=>G.Fe) (λ_ _ _ _ _=>(fB fJ hr T.mK (aa ψ (aa Ξ au)))) rfl rfl ω (by repeat (first | exact trivial | refine⟨rfl,?_⟩)) rfl γ rfl γ γ rfl γ))),?_⟩;obtain⟨z0,z1,rfl,q⟩:=h;exact Zd9 tx q
theorem Zb3{fd:AK}(F:jJ K "looked_at" "looked_at" DY jY fd):μ 1 jY fd Fl (yq XQ):=by
 have sc:=Za1;have tx:=pQ _ T;walk_at "ok"
 ·refine⟨Bq K,(aA (aM (ug jD (bz TJ (bz Zik (aG ο rfl) ψ) (az)) (az) (zG _)))),?_⟩;obtain⟨z0,z1,rfl,q⟩:=h;exact Zbt tx q
theorem Zb4{fd:AK}(F:jJ K "has_sense" "has_sense" Ea eU fd):μ 1 eU fd mz (cQ XQ):=by
 have sc:=Za2;have tx:=pQ _ T;walk_at "ok"
 ·refine⟨Br K,(aA (aM (ug jD (aG ψ rfl) (aG ο rfl) (zG _)))),?_⟩;obtain⟨z0,z1,rfl,q⟩:=h;exact Zcn tx q
theorem Wv{fd:AK}(F:jJ K "is_walking" "is_walking" Ba jo fd):μ 1 jo fd ["world"] (vN XQ):=by
 have sc:=Wb;have tx:=pQ _ T;walk_at "ok"
 ·refine⟨yW K,(aA (aM (ug YH (aG ο rfl) (cM (aa (bH) (aa (bH) au))) (by with_unfolding_all rfl)))),?_⟩;obtain⟨z0,rfl,q⟩:=h;exact W7 tx q
theorem Zir{fd:AK}(F:jJ K "mark_of" "mark_of" Ml oX fd){fQ:AK}(gK:ι 1 eU fQ mz (cQ XQ)):μ 2 oX fd MT (Ho XQ):=by
 have sc:=Zhq;have tx:=pQ _ T;walk_at "ok"
 ·refine⟨Iw K (cQ XQ),(ao (fX 2 sc.nd ο)
   (ao (fX 3 sc.nd (fB gK hr T.nP (aa Ξ (aa (jk dm (aG ο rfl) ψ) au))))
   (ao (bZ (mV jD (aG Θ rfl) (bH)) (aA (aM (bH))) bh)
   (ao (bZ (mV jD (aG Θ rfl) (bH)) (aA (aM (Tp (gO ah) (bH) (bH)))) bh)
   (ao (bZ (mH (gO ah)) (aA (aM (bH))) bh)
   (aA (aM (Tp (mV YH ψ (aG Θ rfl) (by with_unfolding_all rfl)) (bH) (bH))))))))),?_⟩
  obtain⟨z0,z1,rfl,q⟩:=h;exact Zj4 tx q
theorem Wr{fd:AK}{zR Zcs:AK}(F:jJ K "told_cells" "told_cells" Av fj fd)(sr:ι 1 gD zR ["self"] (oA XQ.H))(Zgo:ι 4 jX Zcs Fj (yo XQ)):μ 5 fj fd ["world"] (oY XQ):=by
 have sc:=V6;have tx:=pQ _ T;walk_at "ok"
 ·refine⟨yR K XQ.H (oA XQ.H) (yo XQ),(aA (aM (G.Tn (cns:=["world"]) [0] (jN (oN ο T.cA T.zJ sr.g (hr.mono ε) sr.b .nil G.gH)) (λ_ _ _ _ _=>G.Fe) (λ_ _ _ _ _=>(fB Zgo hr T.Py (aa ψ (aa Ξ au)))) rfl rfl ω (by repeat (first | exact trivial | refine⟨rfl,?_⟩)) rfl γ rfl γ γ rfl γ))),?_⟩;obtain⟨z0,rfl,q⟩:=h;exact VM tx q
theorem Zb2{fd:AK}{rP Zk0:AK}(F:jJ K "told_cell" "told_cell" DX jX fd)(uI:ι 3 iQ rP uA (kZ XQ))(Zoj:ι 2 oX Zk0 MT (Ho XQ)):μ 4 jX fd Fj (yo XQ):=by
 have sc:=Za0;have tx:=pQ _ T;walk_at "ok"
 ·refine⟨Bo K (kZ XQ) (Ho XQ),(ao (fX 2 sc.nd (jk dm (aG ο rfl) ψ))
   (ao (fX 3 sc.nd (fB uI hr T.yj (aa ο (aa (aG Θ rfl) au))))
   (aA (aM (cM (aa ψ (aa (aG Θ rfl) (aa (aG Θ rfl) (aa (aG Θ rfl) (aa ah (aa (fB Zoj hr T.YX (aa Ξ (aa ψ au))) au))))))))))),?_⟩
  obtain⟨z0,z1,rfl,q⟩:=h;exact ZK tx q
theorem Zq9{fd:AK}{K3 HD:AK}(F:jJ K "begin" "begin" Zal ux fd)(Aj:ι 2 dN K3 tO (pD 0))(oG:ι 1 bR HD qI (pD 1)):μ 3 ux fd ["world"] (RV XQ):=by
 have sc:=Zp5;have tx:=pQ _ T;walk_at "ok"
 ·refine⟨Te K XQ.E XQ.F XQ.L (pD 0) (pD 1),(ao (fX 1 sc.nd ο)
   (ao (cL ψ (bz wN (az) (aG ψ rfl)) rfl)
   (ao (cL ψ (bz lX (aG ψ rfl) (az)) rfl)
   (ao (cL ψ (bH) rfl)
   (ao (cL ψ (cG au) rfl)
   (ao (cL ψ (G.xW (uf (aG ο rfl) T.Gr T.yf Aj.g (hr.mono ε) Aj.b .nil G.gH (aa (cR G.dj η T.mj G.boot_len (aa ο au)) au)) (G.xW (uf (aG ο rfl) T.K7 T.Ae oG.g (hr.mono ε) oG.b .nil G.gH (aa (cR G.dj η T.mj G.boot_len (aa ο au)) au)) (uf (aG ο rfl) T.K6 T.Ad oG.g (hr.mono ε) oG.b .nil G.gH (aa (cR G.dj η T.mj G.boot_len (aa ο au)) au)))) rfl)
   (ao (cL ψ (az) rfl)
   (ao (cL ψ (az) rfl)
   (aA (cL ψ (az) rfl)))))))))),?_⟩
  obtain⟨z0,rfl,q⟩:=h;exact Zsk tx q
theorem Zuc{fd:AK}{lK fQ:AK}(F:jJ K "note" "note" Zi3 xg fd)(nF:ι 1 je lK qO (eO XQ.H))(gK:ι 1 eU fQ mz (cQ XQ)):μ 2 xg fd Zaz (Jr XQ):=by
 have sc:=Zt6;have tx:=pQ _ T;walk_at "ok"
 ·refine⟨Zap K (eO XQ.H) (cQ XQ),(ao (fX 2 sc.nd ο)
   (ao (fX 3 sc.nd (fB nF hr T.tX (aa ο (aa ψ au))))
   (ao (bZ (PW.pt (nj (mV uD (aG Θ rfl) (bH)) (nj (mV G.Cv ah (fD)) (m7 (gO (fB gK hr T.nP (aa Ξ (aa ah au)))))))) (aA (aM (fD))) bh)
   (ao (cL ah (aG Θ rfl) rfl)
   (ao (qj (Fg PySem.F.plainAttrs_list PySem.F.slot_list_append PySem.F.type_list_append tV (aG Θ rfl) (aa ψ au)))
   (aA (aM (aG ah rfl)))))))),?_⟩
  obtain⟨z0,z1,rfl,q⟩:=h;exact Zui tx q
theorem Zer{fd:AK}(F:jJ K "note_all" "note_all" Il ir fd){Zct:AK}(Zku:ι 2 xg Zct Zaz (Jr XQ)):μ 3 ir fd qH (gf XQ):=by
 have sc:=Zea;have tx:=pQ _ T;walk_at "ok"
 ·refine⟨Ew K (Jr XQ),(ao (fX 2 sc.nd (cG au))
   (ao (nT PassesOwn.never rfl (jN ψ) (fu (i:=3) sc.nd rfl (Or.inl rfl))
   (ao (fX 4 sc.nd (fB Zku hr T.Zja (aa Ξ (aa ah au))))
   (aA (bZ (mV G.wO (pv 4) (fD)) (aA (qj (Fg PySem.F.plainAttrs_list PySem.F.slot_list_append PySem.F.type_list_append tV Θ (aa (pv 4) au)))) bh))))
   (aA (aM Θ)))),?_⟩
  obtain⟨z0,z1,rfl,q⟩:=h;exact Zex tx q
theorem Zue{fd:AK}{lK fQ:AK}(F:jJ K "gone" "gone" Zi5 vh fd)(nF:ι 1 je lK qO (eO XQ.H))(gK:ι 1 eU fQ mz (cQ XQ)):μ 2 vh fd Tv (xr XQ):=by
 have sc:=Zt8;have tx:=pQ _ T;walk_at "ok"
 ·refine⟨Zar K (eO XQ.H) (cQ XQ),(ao (fX 3 sc.nd (fB nF hr T.tX (aa ο (aa ψ au))))
   (ao (bZ (PW.pt (nj (mV G.Cv ah (fD)) (m7 (mV uD (aG ah rfl) Θ)))) (aA (aM (nA))) bh)
   (aA (aM ((Tt (ug jD (aG ο rfl) (bH) (zG _)) (Zax (Zpv (fB gK hr T.nP (aa Ξ (aa ah au))))))))))),?_⟩
  obtain⟨z0,z1,z2,rfl,q⟩:=h;exact Zvn tx q
theorem Zq8{fd:AK}{Zcv Zjy:AK}(F:jJ K "roots" "roots" Zak rT fd)(Zkv:ι 1 xj Zcv ["world"] (Gv XQ))(Zoh:ι 3 oU Zjy MN (Hi XQ)):μ 4 rT fd ["world"] (yp XQ):=by
 have sc:=Zp4;have tx:=pQ _ T;walk_at "ok"
 ·refine⟨Td K (Gv XQ) (Hi XQ) H,(aA (aM (bz qJ (fB Zkv hr T.Zjb (aa Ξ au)) (cG (aa (G.Zu3 (G.Zig (cns:=["world"]) [0] (G.Ztw (G.Zmo ο)) (λ_ _ _ _ _=>G.Fe) (λ_ _ _ _ _=>(fB Zoh hr T.YT (aa Θ (aa Ξ (aa ψ au))))) rfl rfl ω (by repeat (first | exact trivial | refine⟨rfl,?_⟩)) rfl γ rfl γ γ rfl rfl γ)) au))))),?_⟩;obtain⟨z0,rfl,q⟩:=h;exact Zp9 tx q
theorem Zio{fd:AK}{KY fQ Xu:AK}(F:jJ K "root_of" "root_of" Mi oU fd)(Vw:ι 2 vh KY Tv (xr XQ))(gK:ι 1 eU fQ mz (cQ XQ))(Zdv:ι 1 jo Xu ["world"] (vN XQ)):μ 3 oU fd MN (Hi XQ):=by
 have sc:=Zho;have tx:=pQ _ T;walk_at "ok"
 ·refine⟨Iv K (xr XQ) (cQ XQ) (vN XQ),(ao (bZ (gO (fB Vw hr T.Zbr (aa Ξ (aa ψ (aa Θ au))))) (aA (aM (fD))) bh)
   (ao (bZ (PW.pt (MJ (gO (fB Zdv hr T.Kg (aa Ξ au))) (GK (mH (gO (fB gK hr T.nP (aa Ξ (aa (jk dm (aG ο rfl) ψ) au)))))))) (aA (aM (fD))) bh)
   (aA (aM ψ)))),?_⟩
  obtain⟨z0,z1,z2,rfl,q⟩:=h;exact Zi7 tx q
theorem Wu{fd:AK}(F:jJ K "note_hands" "note_hands" Az ig fd){mD:AK}(oF:ι 3 ir mD qH (gf XQ)):μ 4 ig fd vC (mG XQ):=by
 have sc:=V9;have tx:=pQ _ T;walk_at "ok"
 ·refine⟨yV K (gf XQ),(ao (fX 2 sc.nd (cG au))
   (ao (nT PassesOwn.never rfl (G.Zav rfl T.qN (aa ο au)) (Tj rfl (qd (fu (i:=3) sc.nd rfl (Or.inl rfl)) (qd (fu (i:=4) sc.nd rfl (Or.inl rfl)) JW)))
   (aA (bZ (mV jD (bz TJ (bz Zik ψ ah) (az)) (az)) (aA (qj (Fg PySem.F.plainAttrs_list PySem.F.slot_list_extend PySem.F.type_list_extend Nr Θ (aa (fB oF hr T.tW (aa Ξ (aa (aG (pv 4) rfl) au))) au)))) bh)))
   (aA (aM Θ)))),?_⟩
  obtain⟨z0,z1,rfl,q⟩:=h;exact WY tx q
theorem QT{fd:AK}{Zs3 zP:AK}(F:jJ K "step_at_rest" "step_at_rest" wu cV fd)(Zw7:ι 3 ux Zs3 ["world"] (RV XQ))(Dj:ι 4 ig zP vC (mG XQ)):μ 5 cV fd ["world"] (cg XQ (Rq "rest")):=by
 have sc:=QJ;have tx:=pQ _ T;walk_at "ok"
 ·refine⟨uV K (RV XQ) (mG XQ),(ao (qj (fB Zw7 hr T.Zlf (aa Ξ au)))
   (ao (fX 1 sc.nd (fB Dj hr T.CJ (aa Ξ (aa (aG ο rfl) au))))
   (aA (aM (cM (aa (bH) (aa (aG ο rfl) (aa ψ au)))))))),?_⟩
  obtain⟨z0,rfl,q⟩:=h;exact Qy tx q
theorem QM{fd:AK}{Vh Zvs:AK}(F:jJ K "step_in_walk" "step_in_walk" v9 cT fd)(Yb:ι 7 gW Vh ["world"] (cg XQ Zeo))(Zzr:ι 4 zU Zvs ["world"] (cg XQ Zem)):μ 8 cT fd ["world"] (cg XQ (Rq "walk")):=by
 have sc:=QG;have tx:=pQ _ T;walk_at "ok"
 ·refine⟨uT K (cg XQ Zeo) (cg XQ Zem),(ao (bZ (Zej (aG ο rfl) (λ_=>rfl)) (aA (aM (fB Zzr hr T.Zqp (aa Ξ au)))) bh)
   (aA (aM (fB Yb hr T.HY (aa Ξ au))))),?_⟩
  obtain⟨z0,rfl,q⟩:=h;exact Qw tx q
theorem Zua{fd:AK}(F:jJ K "walk" "walk" Zi1 zU fd){mD:AK}(oF:ι 3 ir mD qH (gf XQ)):μ 4 zU fd ["world"] (cg XQ Zem):=by
 have sc:=Zt4;have tx:=pQ _ T;walk_at "ok"
 ·refine⟨Zan K (gf XQ),(ao (fX 1 sc.nd ο)
   (ao (fX 2 sc.nd (jk dm (aG ο rfl) (Fg PySem.F.plainAttrs_list PySem.F.slot_list_pop PySem.F.type_list_pop Zql (aG ψ rfl) (aa (az) au))))
   (ao (cL ψ (bz lX (aG ψ rfl) (az)) rfl)
   (aA (aM (cM (aa (bH) (aa (aG Θ rfl) (aa (fB oF hr T.tW (aa Ξ (aa (aG Θ rfl) au))) au))))))))),?_⟩
  obtain⟨z0,rfl,q⟩:=h;exact Zsu tx q
theorem T7{fd:AK}{K4 K1 XF Gm Ol Zz5 zP:AK}(F:jJ K "look_or_cut" "look_or_cut" yM gW fd)(Ak:ι 1 dO K4 tQ (iV 1))(Ai:ι 2 dM K1 tM (iV 2))(vQ:ι 1 iw XF ["self"] (tZ (.bl false)))(vz:ι 1 bY Gm p8 (iV 0))(iW:ι 1 cP Ol ["self"] (tZ (.bl true)))(ZBw:ι 6 Ig Zz5 ["world"] (cg XQ Zij))(Dj:ι 4 ig zP vC (mG XQ)):μ 7 gW fd ["world"] (cg XQ Zeo):=by
 have sc:=Sv;have tx:=pQ _ T;walk_at "ok"
 ·refine⟨wF K XQ.E XQ.F XQ.L (iV 1) (iV 2) (tZ (.bl false)) (iV 0) (tZ (.bl true)) (cg XQ Zij) (mG XQ),(ao (fX 1 sc.nd ο)
   (ao (fX 2 sc.nd (aG ο rfl))
   (ao (fX 3 sc.nd (G.xW (uf Θ T.Gr T.wU vz.g (hr.mono ε) vz.b .nil G.gH (aa (aG ψ rfl) (aa (cR G.dj η T.mj G.boot_len (aa ο au)) au))) (G.xW (uf Θ T.K7 T.yg Ak.g (hr.mono ε) Ak.b .nil G.gH (aa (aG ψ rfl) (aa (cR G.dj η T.mj G.boot_len (aa ο au)) au))) (uf Θ T.K6 T.ye Ai.g (hr.mono ε) Ai.b .nil G.gH (aa (aG ψ rfl) (aa (cR G.dj η T.mj G.boot_len (aa ο au)) au))))))
   (ao (fX 4 sc.nd (fB Dj hr T.CJ (aa Ξ (aa ah au))))
   (ao (bZ (PW.pt (nj (mV jD ah (az)) (m7 (mH (PW.pt (nj (gO (G.xW (oN Θ T.Gr T.wR iW.g (hr.mono ε) iW.b .nil G.gH) (G.xW (oN Θ T.K7 T.zK iW.g (hr.mono ε) iW.b .nil G.gH) (oN Θ T.K6 T.zH vQ.g (hr.mono ε) vQ.b .nil G.gH)))) (m7 (Zej (pv 4) (λ_=>rfl))))))))) (aA (aM (fB ZBw hr T.Zwi (aa Ξ au)))) bh)
   (ao (cL ψ (bz lX (aG ψ rfl) (az)) rfl)
   (ao (bZ (gO (G.xW (oN Θ T.Gr T.wR iW.g (hr.mono ε) iW.b .nil G.gH) (G.xW (oN Θ T.K7 T.zK iW.g (hr.mono ε) iW.b .nil G.gH) (oN Θ T.K6 T.zH vQ.g (hr.mono ε) vQ.b .nil G.gH)))) (aA (cL ψ (bz ZA9 (aG ψ rfl) ah) rfl)) bh)
   (aA (aM (cM (aa (bH) (aa ah (aa (pv 4) au))))))))))))),?_⟩
  obtain⟨z0,rfl,q⟩:=h;exact Uv tx q
theorem Zxm{fd:AK}{rP Xv Zg2 zO:AK}(F:jJ K "cut" "cut" Zp8 Ig fd)(uI:ι 3 iQ rP uA (kZ XQ))(Zdw:ι 5 jq Xv ["world"] (vO XQ))(Zkw:ι 2 mO Zg2 ["world"] (Dg XQ))(Di:ι 1 ie zO ["event"] (nZ K)):μ 6 Ig fd ["world"] (cg XQ Zij):=by
 have sc:=Zx5;have tx:=pQ _ T;walk_at "ok"
 ·refine⟨Zib K (kZ XQ) (vO XQ) (Dg XQ) (nZ K),(ao (fX 1 sc.nd ο)
   (ao (cL ψ (cR G.dj η T.mj G.boot_len (aa (aG ο rfl) au)) rfl)
   (ao (cL ψ (az) rfl)
   (ao (fX 2 sc.nd (fB Zdw hr T.Kh (aa Ξ au)))
   (ao (bZ (mV G.wO Θ (fD)) (ao (cL ψ (bH) rfl)
   (ao (cL ψ Θ rfl)
   (aA (aM (fB Di hr T.CG (aa Θ au)))))) bh)
   (ao (cL ψ (bH) rfl)
   (ao (fX 3 sc.nd (fB uI hr T.yj (aa ο (aa (fB Zkw hr T.Ut (aa Ξ au)) au))))
   (aA (aM (cM (aa (bH) (aa (cR G.dj η T.mj G.boot_len (aa ah au)) (aa ah au))))))))))))),?_⟩
  obtain⟨z0,rfl,q⟩:=h;exact Zze tx q
theorem Ww{fd:AK}{fQ Zjz Vf:AK}(F:jJ K "first_loss" "first_loss" Bb jq fd)(gK:ι 1 eU fQ mz (cQ XQ))(Zoi:ι 3 oW Zjz MP (Hj K XQ.C XQ.H))(Zdt:ι 4 rT Vf ["world"] (yp XQ)):μ 5 jq fd ["world"] (vO XQ):=by
 have sc:=Wc;have tx:=pQ _ T;walk_at "ok"
 ·refine⟨yX K (cQ XQ) (Hj K XQ.C XQ.H) (yp XQ),(ao (nT PassesOwn.never rfl (jN (fB Zoi hr T.YW (aa ο (aa (fB Zdt hr T.Zbq (aa Ξ au)) au)))) (Tj rfl (qd (fu (i:=1) sc.nd rfl (Or.inl rfl)) (qd (fu (i:=2) sc.nd rfl (Or.inl rfl)) JW)))
   (ao (fX 3 sc.nd (jk dm (aG ο rfl) ψ))
   (aA (bZ (mH (gO (fB gK hr T.nP (aa Ξ (aa ah au))))) (aA (aM (cM (aa (bH) (aa (aG ah rfl) (aa (vU K8 η T.vW G.boot_list (aa Θ au)) au)))))) bh))))
   (aA (aM (fD)))),?_⟩
  obtain⟨z0,rfl,q⟩:=h;exact Xq tx q
theorem Zes{fd:AK}{zR fQ:AK}(F:jJ K "given_up" "given_up" Im mO fd)(sr:ι 1 gD zR ["self"] (oA XQ.H))(gK:ι 1 eU fQ mz (cQ XQ)):μ 2 mO fd ["world"] (Dg XQ):=by
 have sc:=Zeb;have tx:=pQ _ T;walk_at "ok"
 ·refine⟨Ey K XQ.H (oA XQ.H) (cQ XQ),(ao (Zic (i:=1) sc.nd rfl (Or.inr rfl) ο)
   (aA (aM (G.Tn (cns:=["world","heap"]) [0,1] (jN (oN ψ T.cA T.zJ sr.g (hr.mono ε) sr.b .nil G.gH)) (λ_ _ _ _ _=>(G.Zaw (mH (gO (fB gK hr T.nP (aa ψ (aa (jk dm (aG Θ rfl) Ξ) au))))))) (λ_ _ _ _ _=>Ξ) rfl rfl ω (by repeat (first | exact trivial | refine⟨rfl,?_⟩)) rfl γ rfl γ γ rfl γ)))),?_⟩
  obtain⟨z0,rfl,q⟩:=h;exact Zg0 tx q
theorem Ws{fd:AK}(F:jJ K "told_again" "told_again" Aw ie fd):μ 1 ie fd ["event"] (nZ K):=by
 have sc:=V7;walk_at "ok"
 ·refine⟨yS K,(aA (aM (cM (aa (jk bJ Ξ (az)) (aa (jk bJ Ξ (az)) (aa (vU G.Jq η T.vW G.boot_list (aa (jk bJ Ξ (az)) au)) au)))))),?_⟩;obtain⟨z0,rfl,q⟩:=h;exact VN q
theorem QS{fd:AK}{Zz4 Xr:AK}(F:jJ K "step_in_give" "step_in_give" wj cU fd)(ZBv:ι 1 Ie Zz4 ["world"] (cg XQ pEnd))(Zdu:ι 3 jm Xr ["world"] (cg XQ Zen)):μ 4 cU fd ["world"] (cg XQ (Rq "give")):=by
 have sc:=QH;have tx:=pQ _ T;walk_at "ok"
 ·refine⟨uU K (cg XQ pEnd) (cg XQ Zen),(ao (bZ (mV HR (aG ο rfl) (aG ο rfl)) (aA (aM (fB Zdu hr T.Kf (aa Ξ au)))) bh)
   (aA (aM (fB ZBv hr T.Zwh (aa Ξ au))))),?_⟩
  obtain⟨z0,rfl,q⟩:=h;exact Qx tx q
theorem Wt{fd:AK}{Zd6 lK fQ:AK}(F:jJ K "pass_place" "pass_place" Ay jm fd)(Qp:ι 2 jH Zd6 FN (uH XQ.C XQ.H))(nF:ι 1 je lK qO (eO XQ.H))(gK:ι 1 eU fQ mz (cQ XQ)):μ 3 jm fd ["world"] (cg XQ Zen):=by
 have sc:=V8;have tx:=pQ _ T;walk_at "ok"
 ·refine⟨yU K XQ.H (uH XQ.C XQ.H) (eO XQ.H) (cQ XQ),(ao (fX 1 sc.nd ο)
   (ao (fX 2 sc.nd (aG ψ rfl))
   (ao (cL ψ (bz lX Θ (az)) rfl)
   (ao (cL ψ (bz lX (aG ψ rfl) (az)) rfl)
   (ao (fX 3 sc.nd (fB nF hr T.tX (aa ο (aa Θ au))))
   (ao (bZ (PW.pt (nj (mV G.Cv ah (fD)) (m7 (gO (fB gK hr T.nP (aa Ξ (aa ah au))))))) (aA (aM (cM (aa (bH) (aa Θ (aa (cG au) au)))))) bh)
   (aA (aM (cM (aa (bH) (aa (uf ο T.cA T.Kd Qp.g (hr.mono ε) Qp.b .nil G.gH (aa Θ au)) (aa (cG (aa Θ au)) au)))))))))))),?_⟩
  obtain⟨z0,rfl,q⟩:=h;exact Wq tx q
theorem Zxj{fd:AK}(F:jJ K "end" "end" s_end Ie fd):μ 1 Ie fd ["world"] (cg XQ pEnd):=by
 have sc:=Zx4;have tx:=pQ _ T;walk_at "ok"
 ·refine⟨Zia K,(ao (fX 1 sc.nd ο)
   (ao (cL ψ (bH) rfl)
   (aA (aM (cM (aa (bH) (aa (aG ψ rfl) (aa (cG (aa (aG ψ rfl) (aa (aG ψ rfl) (aa (aG ψ rfl) au)))) au)))))))),?_⟩
  obtain⟨z0,rfl,q⟩:=h;exact Zz9 tx q
theorem JZ{fd:AK}(F:jJ K "step_when_lost" "step_when_lost" sS bW fd){zO:AK}(Di:ι 1 ie zO ["event"] (nZ K)):μ 2 bW fd ["world"] (cg XQ (Rq "lost")):=by
 have sc:=JM;have tx:=pQ _ T;walk_at "ok"
 ·refine⟨qZ K (nZ K),(aA (aM (fB Di hr T.CG (aa (aG ο rfl) au)))),?_⟩;obtain⟨z0,rfl,q⟩:=h;exact Jz tx q
theorem Zub{fd:AK}{Q8 Q7 Q6 KR:AK}(F:jJ K "step" "step" Zi2 zV fd)(xG:ι 5 cV Q8 ["world"] (cg XQ (Rq "rest")))(xF:ι 4 cU Q7 ["world"] (cg XQ (Rq "give")))(xx:ι 8 cT Q6 ["world"] (cg XQ (Rq "walk")))(t7:ι 2 bW KR ["world"] (cg XQ (Rq "lost"))):μ 9 zV fd ["world"] (cg XQ Zq3):=by
 have sc:=Zt5;have tx:=pQ _ T;walk_at "ok"
 ·refine⟨Zao K cV cU cT bW (cg XQ (Rq "rest")) (cg XQ (Rq "give")) (cg XQ (Rq "walk")) (cg XQ (Rq "lost")),(ao (fX 1 sc.nd (G.Zpu T.Yx rfl (aG ο rfl) (λ_ _=>rfl)))
   (aA (aM (G.Zel (k:=8) (G.VL.cons ε xG.g xG.b xG.k (G.VL.cons ε xx.g xx.b xx.k (G.VL.cons ε xF.g xF.b xF.k (G.VL.cons ε t7.g t7.b t7.k G.VL.nil)))) (hr.mono ε) rfl (Or.inl rfl) G.gH (aa Ξ au))))),?_⟩
  obtain⟨z0,rfl,q⟩:=h;exact Zt1 tx q
theorem Zmv{fd:AK}(F:jJ K "all_of" "all_of" S7 pB fd):μ 1 pB fd ["hands"] (xu):=by
 have sc:=Zmh;walk_at "ok"
 ·refine⟨MF,(aA (aM (bz wN (bz Zq4 (az) Ξ) (az)))),?_⟩;obtain⟨z0,rfl,q⟩:=h;exact Zoc q
theorem Hv{fd:AK}(F:jJ K "at_begin" "Looking.at_begin" qF bR fd):μ 1 bR fd qI (pD 1):=by
 have sc:=Ht;walk_at "ok"
 ·refine⟨p7,(aA (aM (az))),?_⟩;obtain⟨z0,z1,rfl,q⟩:=h;exact HJ q
theorem FP{fd:AK}(F:jJ K "next_look" "Looking.next_look" pX bY fd):μ 1 bY fd p8 (iV 0):=by
 have sc:=DW;walk_at "ok"
 ·refine⟨pq,(aA (aM (az))),?_⟩;obtain⟨z0,z1,z2,rfl,q⟩:=h;exact Gx q
theorem Nh{fd:AK}(F:jJ K "stays" "Looking.stays" uN cP fd):μ 1 cP fd ["self"] (tZ (.bl true)):=by
 have sc:=LR;walk_at "ok"
 ·refine⟨sZ,(aA (aM (nA))),?_⟩;obtain⟨z0,rfl,q⟩:=h;exact Oz q
theorem J2{fd:AK}(F:jJ K "at_begin" "First.at_begin" sW dN fd){Oj:AK}(Vz:ι 1 pB Oj ["hands"] (xu)):μ 2 dN fd tO (pD 0):=by
 have sc:=JQ;walk_at "ok"
 ·refine⟨rC (xu),(aA (aM (fB Vz hr T.Uu (aa ψ au)))),?_⟩;obtain⟨z0,z1,rfl,q⟩:=h;exact Li q
theorem J3{fd:AK}(F:jJ K "next_look" "Each.next_look" sX dO fd):μ 1 dO fd tQ (iV 1):=by
 have sc:=JR;walk_at "ok"
 ·refine⟨rD,(ao (nT PassesOwn.never rfl (tK rfl T.uc (aa Θ au)) (fu (i:=3) sc.nd rfl (Or.inl rfl))
   (aA (bZ (mV jD (bz TJ (bz Zik ψ ah) (az)) (az)) (aA (aM (bz Zq4 (az) ah))) bh)))
   (aA (aM (az)))),?_⟩
  obtain⟨z0,z1,z2,rfl,q⟩:=h;exact Lj q
theorem J1{fd:AK}(F:jJ K "next_look" "Last.next_look" sV dM fd){Oj:AK}(Vz:ι 1 pB Oj ["hands"] (xu)):μ 2 dM fd tM (iV 2):=by
 have sc:=JP;walk_at "ok"
 ·refine⟨rB (xu),(aA (aM (fB Vz hr T.Uu (aa Θ au)))),?_⟩;obtain⟨z0,z1,z2,rfl,q⟩:=h;exact Lg q
theorem WR{fd:AK}(F:jJ K "stays" "Last.stays" Bk iw fd):μ 1 iw fd ["self"] (tZ (.bl false)):=by
 have sc:=Wk;walk_at "ok"
 ·refine⟨zx,(aA (aM (nA))),?_⟩;obtain⟨z0,rfl,q⟩:=h;exact X6 q
theorem Ni{fd:AK}(F:jJ K "__init__" "Kind.__init__" uO dG fd):μ 1 dG fd u9 (uG XQ.K):=by
 have sc:=Ma;have tx:=pQ _ T;walk_at "ok"
 ·refine⟨tD K,(ao (cL Ξ ψ rfl)
   (aA (cL Ξ Θ rfl))),?_⟩
  obtain⟨z0,z1,z2,rfl,q⟩:=h;exact OD tx q
theorem Zeq{fd:AK}(F:jJ K "slots_of" "slots_of" Ik eY fd):μ 1 eY fd lG (cz XQ):=by
 have sc:=Ze9;have tx:=pQ _ T;walk_at "ok"
 ·refine⟨Eu K,(aA (aM (aG (jk dm ο ψ) rfl))),?_⟩;obtain⟨z0,z1,rfl,q⟩:=h;exact Ze8 tx q
theorem Ziz{fd:AK}{lK dZ:AK}(F:jJ K "cell_in" "cell_in" Mw lB fd)(nF:ι 1 je lK qO (eO XQ.H))(fc:ι 1 eY dZ lG (cz XQ)):μ 2 lB fd vV (lC XQ aL):=by
 have sc:=Zhy;have tx:=pQ _ T;walk_at "okX"
 ·refine⟨Jf K aL (eO XQ.H) (cz XQ) E,(ao (fX 3 sc.nd (fB nF hr T.tX (aa ο (aa (jk dm (fB fc hr T.lJ (aa Ξ (aa ψ au))) Θ) au))))
   (ao (bZ (mV G.Cv ah (fD)) (aA (G.JV rfl rfl T.Qd T.xO (aa (bH) au) (λ_ _ _ _ _ _ _ I hx hE=>G.Zas I hx hE))) bh)
   (aA (aM ah)))),?_⟩
  obtain⟨z0,z1,z2,rfl,q⟩:=h;exact Zkj tx q
theorem Zb5{fd:AK}{K5 qK:AK}(F:jJ K "fields_in" "fields_in" Eb jF fd)(Am:ι 1 dR K5 tR (yr XQ))(jf:ι 2 lB qK vV (lC XQ aL)):μ 3 jF fd xZ (pC XQ aL aV):=by
 have sc:=Za3;have tx:=pQ _ T;walk_at "okX"
 ·refine⟨Bs K XQ.C aV (yr XQ) (lC XQ aL) E,(ao (fX 4 sc.nd (xX jf.g (hr.mono ε) rfl T.Af jf.k jf.b .nil G.JX (aa Ξ (aa ψ (aa Θ au)))))
   (ao (bZ (mH (gO (uf (pv 4) T.dz T.yh Am.g (hr.mono ε) Am.b .nil G.gH (aa ah au)))) (aA (G.JV rfl rfl T.Y0 T.GD (aa (bH) au) (λ_ _ _ _ _ _ _ I hx hE=>G.Zas I hx hE))) bh)
   (aA (aM (aG (pv 4) rfl))))),?_⟩
  obtain⟨z0,z1,z2,z3,rfl,q⟩:=h;exact Zcr tx q
theorem TV{fd:AK}(F:jJ K "told_as_old" "told_as_old" yJ gR fd):μ 1 gR fd zB (Df XQ):=by
 have sc:=Sq;have tx:=pQ _ T;walk_at "ok"
 ·refine⟨wB K,(ao (bZ (mV jD (bz TJ (aG ο rfl) (T.Zwm.pe rfl)) (az)) (aA (aM (cG au))) bh)
   (aA (aM (cG (aa ψ au))))),?_⟩
  obtain⟨z0,z1,rfl,q⟩:=h;exact RX tx q
theorem TX{fd:AK}(F:jJ K "told_as_new" "told_as_new" yK gk fd){Zcu:AK}(Zgq:ι 1 jY Zcu Fl (yq XQ)):μ 2 gk fd uh (qM XQ):=by
 have sc:=Ss;have tx:=pQ _ T;walk_at "ok"
 ·refine⟨wC K (yq XQ),(ao (bZ (PW.pt (nj (mV jD (bz TJ (aG ο rfl) (T.Zwn.pe rfl)) (az)) (m7 (gO (fB Zgq hr T.Pz (aa Ξ (aa ψ au))))))) (aA (aM (cG au))) bh)
   (aA (aM (cG (aa Θ au))))),?_⟩
  obtain⟨z0,z1,z2,rfl,q⟩:=h;exact RZ tx q
theorem Ziv{fd:AK}{Zd4 d8 dZ:AK}(F:jJ K "do_make" "do_make" Mr iH fd)(Qn:ι 3 iU Zd4 FJ (yu K XQ.C XQ.H bU))(fJ:ι 2 eZ d8 lH (bV XQ))(fc:ι 1 eY dZ lG (cz XQ)):μ 4 iH fd M8 (cH XQ Φ N7):=by
 have sc:=Zhu;have tx:=pQ _ T;walk_at "okX"
 ·refine⟨IW K XQ.H (yu K XQ.C XQ.H bU) (bV XQ) (cz XQ) E,(ao (fX 2 sc.nd (fB fc hr T.lJ (aa Ξ (aa af au))))
   (ao (fX 3 sc.nd af)
   (ao (fX 4 sc.nd af)
   (ao (fX 5 sc.nd (uf ο T.cA T.Ka Qn.g (hr.mono ε) Qn.b .nil G.JX (aa ah (aa (pv 4) (aa (aG ο rfl) au)))))
   (ao (zA (pv 5) (Cd Θ af set_list))
   (aA (aM (cM (aa (bH) (aa (fB fJ hr T.mK (aa ο (aa (pv 5) au))) (aa (cG au) au))))))))))),?_⟩
  obtain⟨z0,z1,rfl,q⟩:=h;exact Zkc tx rfl q
theorem Zmu{fd:AK}{d8 CV dZ:AK}(F:jJ K "do_get" "do_get" S6 jT fd)(fJ:ι 2 eZ d8 lH (bV XQ))(pF:ι 3 jF CV xZ (pC XQ aL aV))(fc:ι 1 eY dZ lG (cz XQ)):μ 4 jT fd Tz (cH XQ Φ Y8):=by
 have sc:=Zmg;have tx:=pQ _ T;walk_at "okX"
 ·refine⟨Mz K (bV XQ) (pC XQ aL aV) (cz XQ) E,(ao (fX 2 sc.nd af)
   (ao (fX 3 sc.nd af)
   (ao (fX 4 sc.nd af)
   (ao (fX 5 sc.nd (jk dm (xX pF.g (hr.mono ε) rfl T.Ga pF.k pF.b .nil G.JX (aa Ξ (aa Θ (aa ah (aa (pv 4) au))))) (pv 4)))
   (ao (zA (pv 5) (Cd (fB fc hr T.lJ (aa Ξ (aa Θ au))) af set_list))
   (aA (aM (cM (aa (bH) (aa (fB fJ hr T.mK (aa ο (aa (pv 5) au))) (aa (cG au) au))))))))))),?_⟩
  obtain⟨z0,z1,rfl,q⟩:=h;exact Zo5 tx rfl rfl q
theorem Zmt{fd:AK}{d8 CV mD dZ wY Ve:AK}(F:jJ K "do_put" "do_put" S5 jR fd)(fJ:ι 2 eZ d8 lH (bV XQ))(pF:ι 3 jF CV xZ (pC XQ aL aV))(oF:ι 3 ir mD qH (gf XQ))(fc:ι 1 eY dZ lG (cz XQ))(zY:ι 2 gk wY uh (qM XQ))(X8:ι 1 gR Ve zB (Df XQ)):μ 4 jR fd Tw (cH XQ Φ Y7):=by
 have sc:=Zmf;have tx:=pQ _ T;walk_at "okX"
 ·refine⟨My K (bV XQ) (pC XQ aL aV) (gf XQ) (cz XQ) (qM XQ) (Df XQ) E,(ao (fX 2 sc.nd af)
   (ao (fX 3 sc.nd af)
   (ao (fX 4 sc.nd (xX pF.g (hr.mono ε) rfl T.Ga pF.k pF.b .nil G.JX (aa Ξ (aa Θ (aa af (aa ah au))))))
   (ao (fX 5 sc.nd (jk dm (pv 4) ah))
   (ao (fX 6 sc.nd (jk dm (fB fc hr T.lJ (aa Ξ (aa Θ au))) af))
   (ao (zA (pv 6) (Cd (pv 4) ah set_list))
   (ao (fX 7 sc.nd (fB oF hr T.tW (aa Ξ (aa (bz qJ (fB X8 hr T.HW (aa Ξ (aa (pv 5) au))) (fB zY hr T.zL (aa Ξ (aa Θ (aa (pv 6) au))))) au))))
   (aA (aM (cM (aa (bH) (aa (fB fJ hr T.mK (aa ο (aa (pv 5) au))) (aa (pv 7) au))))))))))))),?_⟩
  obtain⟨z0,z1,rfl,q⟩:=h;exact Zo4 tx rfl rfl q
theorem Ziy{fd:AK}{d8 dZ:AK}(F:jJ K "do_copy" "do_copy" Mv iK fd)(fJ:ι 2 eZ d8 lH (bV XQ))(fc:ι 1 eY dZ lG (cz XQ)):μ 3 iK fd Nf (cH XQ Φ Od):=by
 have sc:=Zhx;have tx:=pQ _ T;walk_at "ok"
 ·refine⟨Je K (bV XQ) (cz XQ),(ao (fX 2 sc.nd (fB fc hr T.lJ (aa Ξ (aa af au))))
   (ao (fX 3 sc.nd (jk dm Θ af))
   (ao (zA ah (Cd Θ af set_list))
   (aA (aM (cM (aa (bH) (aa (fB fJ hr T.mK (aa ο (aa ah au))) (aa (cG au) au))))))))),?_⟩
  obtain⟨z0,z1,rfl,q⟩:=h;exact Zkf tx q
theorem Zix{fd:AK}{d8 dZ:AK}(F:jJ K "do_drop" "do_drop" Mu iJ fd)(fJ:ι 2 eZ d8 lH (bV XQ))(fc:ι 1 eY dZ lG (cz XQ)):μ 3 iJ fd Nb (cH XQ Φ Oc):=by
 have sc:=Zhw;have tx:=pQ _ T;walk_at "ok"
 ·refine⟨Jc K (bV XQ) (cz XQ),(ao (fX 2 sc.nd (fB fc hr T.lJ (aa Ξ (aa af au))))
   (ao (fX 3 sc.nd (jk dm Θ af))
   (ao (zA (fD) (Cd Θ af set_list))
   (aA (aM (cM (aa (bH) (aa (fB fJ hr T.mK (aa ο (aa ah au))) (aa (cG au) au))))))))),?_⟩
  obtain⟨z0,z1,rfl,q⟩:=h;exact Zke tx q
theorem Ziw{fd:AK}{d8 mD dZ wY:AK}(F:jJ K "do_give" "do_give" Ms iI fd)(fJ:ι 2 eZ d8 lH (bV XQ))(oF:ι 3 ir mD qH (gf XQ))(fc:ι 1 eY dZ lG (cz XQ))(zY:ι 2 gk wY uh (qM XQ)):μ 4 iI fd M9 (cH XQ Φ Ob):=by
 have sc:=Zhv;have tx:=pQ _ T;walk_at "ok"
 ·refine⟨Jb K (bV XQ) (gf XQ) (cz XQ) (qM XQ),(ao (fX 2 sc.nd af)
   (ao (fX 3 sc.nd af)
   (ao (fX 4 sc.nd (jk dm (fB fc hr T.lJ (aa Ξ (aa Θ au))) af))
   (ao (zA (pv 4) (Cd (fB fc hr T.lJ (aa Ξ (aa ah au))) af set_list))
   (ao (fX 5 sc.nd (fB oF hr T.tW (aa Ξ (aa (fB zY hr T.zL (aa Ξ (aa Θ (aa (pv 4) au)))) au))))
   (aA (aM (cM (aa (bH) (aa (fB fJ hr T.mK (aa ο (aa (pv 4) au))) (aa (pv 5) au))))))))))),?_⟩
  obtain⟨z0,z1,rfl,q⟩:=h;exact Zkd tx q
theorem Zet{fd:AK}(F:jJ K "do_write" "do_write" Io gb fd){qK:AK}(jf:ι 2 lB qK vV (lC XQ aL)):μ 3 gb fd Ji (cH XQ Φ GX):=by
 have sc:=Zec;have tx:=pQ _ T;walk_at "okX"
 ·refine⟨Ez K (lC XQ aL) E,(ao (fX 2 sc.nd (xX jf.g (hr.mono ε) rfl T.Af jf.k jf.b .nil G.JX (aa Ξ (aa af (aa af au)))))
   (ao (fX 3 sc.nd (aG Θ rfl))
   (ao (cL Θ af rfl)
   (aA (aM (cM (aa (bH) (aa ah (aa (cG au) au))))))))),?_⟩
  obtain⟨z0,z1,rfl,q⟩:=h;exact Zg8 tx rfl q
theorem Zit{fd:AK}(F:jJ K "do_read" "do_read" Mp iD fd){qK:AK}(jf:ι 2 lB qK vV (lC XQ aL)):μ 3 iD fd M6 (cH XQ Φ N6):=by
 have sc:=Zhs;have tx:=pQ _ T;walk_at "okX"
 ·refine⟨IK K (lC XQ aL) E,(ao (fX 2 sc.nd (xX jf.g (hr.mono ε) rfl T.Af jf.k jf.b .nil G.JX (aa Ξ (aa af (aa af au)))))
   (aA (aM (cM (aa (bH) (aa (aG Θ rfl) (aa (cG au) au))))))),?_⟩
  obtain⟨z0,z1,rfl,q⟩:=h;exact Zka tx rfl q
theorem Ziu{fd:AK}{qK dZ:AK}(F:jJ K "do_name" "do_name" Mq iG fd)(jf:ι 2 lB qK vV (lC XQ aL))(fc:ι 1 eY dZ lG (cz XQ)):μ 3 iG fd M7 (cH XQ Φ isName):=by
 have sc:=Zht;have tx:=pQ _ T;walk_at "okX"
 ·refine⟨IV K (lC XQ aL) (cz XQ) E,(ao (fX 2 sc.nd af)
   (ao (fX 3 sc.nd af)
   (ao (fX 4 sc.nd (aG (xX jf.g (hr.mono ε) rfl T.Af jf.k jf.b .nil G.JX (aa Ξ (aa Θ (aa ah au)))) rfl))
   (ao (Ro (wW hr) ο af (cM (aa (jk dm (fB fc hr T.lJ (aa Ξ (aa Θ au))) ah) (aa (pv 4) au))) rfl)
   (aA (aM (cM (aa (bH) (aa (pv 4) (aa (cG au) au)))))))))),?_⟩
  obtain⟨z0,z1,rfl,q⟩:=h;exact Zkb tx rfl q
theorem Zis{fd:AK}{d8 mD Vg dZ:AK}(F:jJ K "do_seek" "do_seek" Mm iC fd)(fJ:ι 2 eZ d8 lH (bV XQ))(oF:ι 3 ir mD qH (gf XQ))(zZ:ι 3 gU Vg zE (uz XQ bD))(fc:ι 1 eY dZ lG (cz XQ)):μ 4 iC fd M5 (cH XQ Φ N5):=by
 have sc:=Zhr;have tx:=pQ _ T;walk_at "okX"
 ·refine⟨Iz K (bV XQ) (gf XQ) (uz XQ bD) (cz XQ) E,(ao (fX 2 sc.nd (xX zZ.g (hr.mono ε) rfl T.HX zZ.k zZ.b .nil G.JX (aa Ξ (aa af au))))
   (ao (zA Θ (Cd (fB fc hr T.lJ (aa Ξ (aa af au))) af set_list))
   (ao (fX 3 sc.nd (fB oF hr T.tW (aa Ξ (aa (cG (aa Θ au)) au))))
   (aA (aM (cM (aa (bH) (aa (fB fJ hr T.mK (aa ο (aa Θ au))) (aa ah au))))))))),?_⟩
  obtain⟨z0,z1,rfl,q⟩:=h;exact Zk9 tx rfl q
theorem TY{fd:AK}(F:jJ K "place_named" "place_named" yL gU fd){KY:AK}(Vw:ι 2 vh KY Tv (xr XQ)):μ 3 gU fd zE (uz XQ bD):=by
 have sc:=Su;have tx:=pQ _ T;walk_at "okX"
 ·refine⟨wD K bD (xr XQ) E,(ao (bZ (Zpl (Zmp (wW hr) ψ ο)) (aA (G.JV rfl rfl T.Zfc T.Jw (aa (bH) au) (λ_ _ _ _ _ _ _ I hx hE=>G.Zas I hx hE))) bh)
   (ao (fX 2 sc.nd (jk bJ (pdg hr ο ψ) (az)))
   (ao (fX 3 sc.nd (jk bJ (pdg hr ο ψ) (az)))
   (ao (bZ (gO (fB Vw hr T.Zbr (aa Ξ (aa Θ (aa ah au))))) (aA (aM (fD))) bh)
   (aA (aM Θ)))))),?_⟩
  obtain⟨z0,z1,rfl,q⟩:=h;exact Ti tx q
theorem ZAe{fd:AK}{Zk7 Zk6 Zo2 Zk5 Zk4 Zk3 Zo1 Zk2 Zk1 Zg3:AK}(F:jJ K "do" "do" Zx6 XH fd)(O8:ι 3 iK Zk7 Nf (cH XQ Φ Od))(O7:ι 3 iJ Zk6 Nb (cH XQ Φ Oc))(Vy:ι 4 jT Zo2 Tz (cH XQ Φ Y8))(O6:ι 4 iI Zk5 M9 (cH XQ Φ Ob))(O5:ι 4 iH Zk4 M8 (cH XQ Φ N7))(O4:ι 3 iG Zk3 M7 (cH XQ Φ isName))(Vx:ι 4 jR Zo1 Tw (cH XQ Φ Y7))(O3:ι 3 iD Zk2 M6 (cH XQ Φ N6))(O2:ι 4 iC Zk1 M5 (cH XQ Φ N5))(Jt:ι 3 gb Zg3 Ji (cH XQ Φ GX)):μ 5 XH fd Zxd (cH XQ Φ (λ_=>True)):=by
 have sc:=ZA3;have tx:=pQ _ T;walk_at "okX"
 ·refine⟨Zpa K iK iJ jT iI iH iG jR iD iC gb (cH XQ Φ Od) (cH XQ Φ Oc) (cH XQ Φ Y8) (cH XQ Φ Ob) (cH XQ Φ N7) (cH XQ Φ isName) (cH XQ Φ Y7) (cH XQ Φ N6) (cH XQ Φ N5) (cH XQ Φ GX) E,(ao (fX 2 sc.nd (G.Zpu T.Yy rfl af (λ_ _=>rfl)))
   (aA (aM (G.Zel (k:=4) (G.VL.cons ε O5.g O5.b O5.k (G.VL.cons ε Vy.g Vy.b Vy.k (G.VL.cons ε Vx.g Vx.b Vx.k (G.VL.cons ε O8.g O8.b O8.k (G.VL.cons ε O7.g O7.b O7.k (G.VL.cons ε O6.g O6.b O6.k (G.VL.cons ε Jt.g Jt.b Jt.k (G.VL.cons ε O3.g O3.b O3.k (G.VL.cons ε O4.g O4.b O4.k (G.VL.cons ε O2.g O2.b O2.k G.VL.nil)))))))))) (hr.mono ε) rfl (Or.inl rfl) G.JX (aa Ξ (aa ψ au)))))),?_⟩
  obtain⟨z0,z1,rfl,q⟩:=h;exact ZBl tx q
theorem Zbi{fd:AK}(F:jJ K "_law_cell" "_law_cell" Ep gJ fd):μ 1 gJ fd qP (rY K):=by
 have sc:=Zag;walk_at "ok"
 ·refine⟨BW K,(ao (bZ (mV HR ψ (cR G.dj η T.mj G.boot_len (aa Ξ au))) (aA (aM (jk dm Ξ ψ))) bh)
   (aA (aM (az)))),?_⟩
  obtain⟨z0,z1,rfl,q⟩:=h;exact Zdm q
theorem Zbg{fd:AK}(F:jJ K "_law_draw" "_law_draw" En eV fd):μ 1 eV fd mC (jQ):=by
 have sc:=Zae;walk_at "ok"
 ·refine⟨BR,(aA (aM (bz gP (bz gP (bz Ng (bz gP Ξ ψ) (az)) ψ) Θ))),?_⟩;obtain⟨z0,z1,z2,rfl,q⟩:=h;exact Zdk q
theorem Zb7{fd:AK}(F:jJ K "_law_word" "_law_word" Ed iR fd):μ 1 iR fd uB (rW):=by
 have sc:=Za5;walk_at "ok"
 ·refine⟨Bu,(ao (fX 2 sc.nd (bH))
   (ao (fX 3 sc.nd (bz lX (az) (bz gP Ξ (az))))
   (ao (fX 4 sc.nd (bz gP (bz rF Ξ (az)) ah))
   (ao (fX 5 sc.nd (jk Zra Θ (bz gP (bz rF Ξ (az)) (az))))
   (ao (fX 6 sc.nd (jk Zra Θ (bz gP (bz lX (bz rF Ξ (az)) (bz Ng (az) ψ)) (az))))
   (aA (aM (bz TQ (bz TQ (bz G.Zla (pv 5) (pv 4)) (pv 6)) (bz G.Zla (pv 5) (bz wN (bz wN ah (az)) (pv 4))))))))))),?_⟩
  obtain⟨z0,z1,rfl,q⟩:=h;exact Zdb q
theorem WK{fd:AK}{nW fU rQ:AK}(F:jJ K "_law_hands" "_law_hands" Bf jw fd)(lq:ι 1 gJ nW qP (rY K))(cu:ι 1 eV fU mC (jQ))(uJ:ι 1 iR rQ uB (rW)):μ 2 jw fd Cq (RP K):=by
 have sc:=Wg;walk_at "ok"
 ·refine⟨zj K (rY K) (jQ) (rW),(ao (fX 1 sc.nd (fB lq hr T.nQ (aa Ξ (aa (az) au))))
   (ao (fX 2 sc.nd (cG au))
   (ao (nT PassesOwn.never rfl (tK rfl T.uc (aa (bz lX (az) (fB cu hr T.di (aa ψ (aa (az) (aa (az) au))))) au)) (fu (i:=3) sc.nd rfl (Or.inl rfl))
   (ao (fX 4 sc.nd (az))
   (ao (bZ (mV jD (bz gP ψ (az)) (az)) (aA (fX 4 sc.nd (bz lX (az) (fB cu hr T.di (aa (bz lX ψ (bz Ng (bz Ng (az) ah) ah)) (aa (az) (aa (az) au))))))) bh)
   (aA (qj (Fg PySem.F.plainAttrs_list PySem.F.slot_list_append PySem.F.type_list_append tV Θ (aa (cM (aa (fB uJ hr T.yl (aa ψ (aa ah au))) (aa (pv 4) au))) au)))))))
   (aA (aM Θ))))),?_⟩
  obtain⟨z0,rfl,q⟩:=h;exact XX q
theorem Zbb{fd:AK}{nW fU:AK}(F:jJ K "_law_room" "_law_room" Ei kj fd)(lq:ι 1 gJ nW qP (rY K))(cu:ι 1 eV fU mC (jQ)):μ 2 kj fd Ft (Zdn K):=by
 have sc:=Za9;walk_at "ok"
 ·refine⟨By (rY K) (jQ),(ao (fX 1 sc.nd (fB lq hr T.nQ (aa Ξ (aa (az) au))))
   (ao (bZ (mV jD (fB cu hr T.di (aa ψ (aa (az) (aa (az) au)))) (az)) (aA (aM (bz lX (az) (bz gP (bz rF ψ (az)) (az))))) bh)
   (aA (aM (bz wN (bz Zb0 (az) (az)) (bz gP ψ (bz Zb0 (az) (az)))))))),?_⟩
  obtain⟨z0,rfl,q⟩:=h;exact Zdf q
theorem Zbe{fd:AK}(F:jJ K "_law_kind" "_law_kind" El kO fd){Om:AK}(lZ:ι 1 dG Om u9 (uG XQ.K)):μ 3 kO fd Fx (RN XQ):=by
 have sc:=Zac;walk_at "ok"
 ·refine⟨BL XQ.E XQ.F XQ.K XQ.L (uG XQ.K),(ao (bZ (mV jD (bz gP Ξ (az)) (az)) (aA (aM (Cg T.GR lZ.g (hr.mono ε) rfl T.Zbs lZ.b .nil G.gH (aa (G.MK T.YM rfl T.Zlh) (aa (bz gP (bz rF Ξ (az)) (az)) au))))) bh)
   (ao (bZ (mV jD (bz gP Ξ (az)) (az)) (aA (aM (Cg T.GR lZ.g (hr.mono ε) rfl T.Zbs lZ.b .nil G.gH (aa (G.MK T.Zf8 rfl T.Zqw) (aa (bz gP (bz rF Ξ (az)) (az)) au))))) bh)
   (aA (aM (Cg T.GR lZ.g (hr.mono ε) rfl T.Zbs lZ.b .nil G.gH (aa (G.MK T.Zf7 rfl T.Zqs) (aa (bz gP (bz rF Ξ (az)) (az)) au))))))),?_⟩
  obtain⟨z0,rfl,q⟩:=h;exact Zdi q
theorem Zbc{fd:AK}(F:jJ K "_law_made" "_law_made" Ej kE fd){fU:AK}(cu:ι 1 eV fU mC (jQ)):μ 2 kE fd Fv (RK):=by
 have sc:=Zaa;walk_at "okw"
 ·refine⟨BJ K (jQ),(Zto (i:=3) sc.nd rfl (Or.inl rfl) (Aa (az) (Aa (az) (Aa (az) (Aa (az) (Aa (az) (Aa (az) Zu6)))))) (fB cu hr T.di (aa Ξ (aa (az) (aa (az) au)))) (λ_ _=>rfl)
   (Th (fX 4 sc.nd (az))
   (Th (bZ (mV jD (bz gP Ξ (az)) (az)) (aA (fX 4 sc.nd (bz gP Ξ (az)))) bh)
   (Th (bZ (mV jD (bz gP Ξ (az)) (az)) (aA (fX 4 sc.nd (bz gP Ξ (bz lX (bz Zb0 (az) (az)) (az))))) bh)
   (Ztn (aM (cM (aa (bH) (aa ψ (aa Θ (aa ah (aa (pv 4) au)))))))))))),?_⟩
  obtain⟨z0,z1,z2,rfl,q⟩:=h;exact Zdg q
theorem Zbd{fd:AK}(F:jJ K "_law_load" "_law_load" Ek kJ fd):μ 1 kJ fd Fw (RM):=by
 have sc:=Zab;walk_at "ok"
 ·refine⟨BK,(ao (fX 1 sc.nd (bz gP Ξ (bz Zb0 (az) (az))))
   (ao (bZ (mV jD (bz gP (bz rF Ξ (az)) (az)) (az)) (aA (aM (Zwe Zom ψ))) bh)
   (aA (aM ψ)))),?_⟩
  obtain⟨z0,rfl,q⟩:=h;exact Zdh q
theorem Zbh{fd:AK}{fU Zd0 Zcz rQ:AK}(F:jJ K "_law_deed" "_law_deed" Eo kY fd)(cu:ι 1 eV fU mC (jQ))(Zgv:ι 1 kJ Zd0 Fw (RM))(Zgu:ι 2 kE Zcz Fv (RK))(uJ:ι 1 iR rQ uB (rW)):μ 3 kY fd Fz (RT K):=by
 have sc:=Zaf;walk_at "ok"
 ·refine⟨BV K (jQ) (RM) (RK) (rW),(ao (fX 3 sc.nd (fB cu hr T.di (aa Ξ (aa (az) (aa (cR G.dj η T.mj G.boot_len (aa ψ au)) au)))))
   (ao (fX 4 sc.nd (fB cu hr T.di (aa Ξ (aa (az) (aa (jk bJ (jk dm ψ ah) (az)) au)))))
   (ao (fX 5 sc.nd (fB cu hr T.di (aa Ξ (aa (az) (aa (jk bJ (jk dm ψ ah) (az)) au)))))
   (ao (fX 6 sc.nd (fB cu hr T.di (aa Ξ (aa (az) (aa (jk dm (cG (aa (az) (aa (az) au))) (bz rF (bz gP Ξ (az)) (az))) au)))))
   (ao (fX 7 sc.nd (fB cu hr T.di (aa Ξ (aa (az) (aa (az) au)))))
   (ao (bZ (mV HR (pv 7) (az)) (aA (aM (fB Zgu hr T.PL (aa Ξ (aa ah (aa (pv 4) au)))))) bh)
   (ao (bZ (mV HR (pv 7) (az)) (aA (aM (cM (aa (bH) (aa ah (aa (pv 4) (aa (pv 5) (aa (pv 6) au)))))))) bh)
   (ao (bZ (mV HR (pv 7) (az)) (aA (aM (cM (aa (bH) (aa ah (aa (pv 5) (aa (pv 6) (aa (pv 4) au)))))))) bh)
   (ao (bZ (mV jD (pv 7) (az)) (aA (aM (cM (aa (bH) (aa ah (aa (pv 4) (aa (pv 5) au))))))) bh)
   (ao (bZ (mV jD (pv 7) (az)) (aA (aM (cM (aa (bH) (aa ah (aa (pv 4) au)))))) bh)
   (ao (bZ (mV HR (pv 7) (az)) (ao (fX 8 sc.nd (fB cu hr T.di (aa Ξ (aa (az) (aa (cR G.dj η T.mj G.boot_len (aa ψ au)) au)))))
   (aA (aM (cM (aa (bH) (aa ah (aa (pv 4) (aa (pv 8) (aa (fB cu hr T.di (aa Ξ (aa (az) (aa (jk bJ (jk dm ψ (pv 8)) (az)) au)))) au))))))))) bh)
   (ao (bZ (mV jD (pv 7) (az)) (aA (aM (cM (aa (bH) (aa ah (aa (pv 5) (aa (fB Zgv hr T.PN (aa Ξ au)) au))))))) bh)
   (ao (fX 9 sc.nd (fB uJ hr T.yl (aa Θ (aa (fB cu hr T.di (aa Ξ (aa (az) (aa (az) au)))) au))))
   (ao (bZ (mV HR (pv 7) (az)) (aA (aM (cM (aa (bH) (aa ah (aa (pv 5) (aa (pv 9) au))))))) bh)
   (aA (aM (cM (aa (bH) (aa ah (aa (pv 4) (aa (pv 9) au))))))))))))))))))))),?_⟩
  obtain⟨z0,z1,z2,rfl,q⟩:=h;exact Zdl q
theorem WQ{fd:AK}{Zd3 fU:AK}(F:jJ K "_law_deeds" "_law_deeds" Bj jA fd)(Zgy:ι 3 kY Zd3 Fz (RT K))(cu:ι 1 eV fU mC (jQ)):μ 4 jA fd Cu (Gw K):=by
 have sc:=Wj;walk_at "ok"
 ·refine⟨zq K (RT K) (jQ),(ao (fX 3 sc.nd (fB Zgy hr T.Qa (aa Ξ (aa ψ (aa Θ au)))))
   (ao (bZ (PW.pt (MJ (mV jD (jk bJ ah (az)) (bH)) (GK (mV jD (bz gP (bz rF Ξ (az)) (az)) (az))))) (aA (aM (cG (aa ah (aa (cM (aa (bH) (aa (jk bJ ah (az)) (aa (jk bJ ah (az)) au)))) au))))) bh)
   (ao (bZ (PW.pt (MJ (mV jD (jk bJ ah (az)) (bH)) (GK (mV jD (bz gP (bz rF Ξ (az)) (az)) (az))))) (aA (aM (cG (aa ah (aa (cM (aa (bH) (aa (jk bJ ah (az)) (aa (jk bJ ah (az)) (aa (jk bJ ah (az)) (aa (fB cu hr T.di (aa Ξ (aa (az) (aa (az) au)))) au)))))) au))))) bh)
   (aA (aM (cG (aa ah au))))))),?_⟩
  obtain⟨z0,z1,z2,rfl,q⟩:=h;exact X5 q
theorem Wy{fd:AK}{fU rQ:AK}(F:jJ K "_law_start" "_law_start" Bd jt fd)(cu:ι 1 eV fU mC (jQ))(uJ:ι 1 iR rQ uB (rW)):μ 2 jt fd Cm (Lb K):=by
 have sc:=We;walk_at "ok"
 ·refine⟨za K (jQ) (rW),(ao (fX 3 sc.nd (cG au))
   (ao (nT PassesOwn.never rfl (tK rfl T.uc (aa (cR G.dj η T.mj G.boot_len (aa Ξ au)) au)) (fu (i:=4) sc.nd rfl (Or.inl rfl))
   (ao (fX 3 sc.nd (bz qJ ah (cG (aa (cM (aa (bH) (aa (pv 4) (aa (az) (aa (az) (aa (az) au)))))) (aa (cM (aa (bH) (aa (pv 4) (aa (az) (aa (az) (aa (az) au)))))) au)))))
   (aA (fX 3 sc.nd (bz qJ ah (cG (aa (cM (aa (bH) (aa (pv 4) (aa (az) (aa (bz gP (pv 4) (az)) (aa (az) au)))))) (aa (cM (aa (bH) (aa (pv 4) (aa (az) au)))) au))))))))
   (ao (fX 5 sc.nd (fB cu hr T.di (aa ψ (aa (az) (aa (az) au)))))
   (ao (bZ (mV Zlc (pv 5) (az)) (aA (fX 3 sc.nd (bz qJ ah (G.Tn (cns:=[]) [] (tK rfl T.uc (aa (cR G.dj η T.mj G.boot_len (aa Ξ au)) au)) (λ_ _ _ _ _=>G.Fe) (λ_ _ _ _ _=>(cM (aa (bH) (aa Ξ (aa (az) (aa (az) (aa (az) au))))))) rfl rfl ω (by repeat (first | exact trivial | refine⟨rfl,?_⟩)) rfl γ rfl γ γ rfl γ)))) bh)
   (ao (fX 3 sc.nd (bz qJ ah (bz TF (cG (aa (fD) au)) (bz lX (az) (fB cu hr T.di (aa ψ (aa (az) (aa (az) au))))))))
   (ao (nT PassesOwn.never rfl (tK rfl T.uc (aa (cR G.dj η T.mj G.boot_len (aa Ξ au)) au)) (fu (i:=4) sc.nd rfl (Or.inl rfl))
   (ao (bZ (mV jD (pv 5) (az)) (aA (fX 3 sc.nd (bz qJ ah (cG (aa (cM (aa (bH) (aa (pv 4) (aa (az) (aa (az) (aa (bz gP (pv 4) (az)) au)))))) (aa (cM (aa (bH) (aa (pv 4) (aa (az) (aa (bz gP (pv 4) (az)) (aa (az) au)))))) au)))))) bh)
   (ao (bZ (mV Zlc (pv 5) (az)) (aA (fX 3 sc.nd (bz qJ ah (cG (aa (cM (aa (bH) (aa (pv 4) (aa (az) (aa (az) (aa (az) au)))))) (aa (cM (aa (bH) (aa (pv 4) (aa (az) (aa (az) (aa (az) au)))))) (aa (cM (aa (bH) (aa (pv 4) (aa (az) au)))) au))))))) bh)
   (aA (bZ (mV jD (pv 5) (az)) (aA (fX 3 sc.nd (bz qJ ah (cG (aa (cM (aa (bH) (aa (pv 4) (aa (az) (aa (fB uJ hr T.yl (aa Θ (aa (bz gP (pv 4) (az)) au))) au))))) (aa (cM (aa (bH) (aa (pv 4) (aa (az) au)))) au)))))) bh)))))
   (aA (aM ah)))))))),?_⟩
  obtain⟨z0,z1,z2,rfl,q⟩:=h;exact XR q
theorem Zba{fd:AK}{nW XD fU Xx:AK}(F:jJ K "_law_rows" "_law_rows" Eh kh fd)(lq:ι 1 gJ nW qP (rY K))(Ze0:ι 4 jA XD Cu (Gw K))(cu:ι 1 eV fU mC (jQ))(Zdx:ι 2 jt Xx Cm (Lb K)):μ 5 kh fd Fq (RJ K):=by
 have sc:=Za8;walk_at "ok"
 ·refine⟨Bx K (rY K) (Gw K) (jQ) (Lb K),(ao (fX 2 sc.nd (cG au))
   (ao (bZ (mV Zlc (fB cu hr T.di (aa (fB lq hr T.nQ (aa Ξ (aa (az) au))) (aa (az) (aa (az) au)))) (az)) (aA (fX 2 sc.nd (fB Zdx hr T.Kl (aa ψ (aa (fB lq hr T.nQ (aa Ξ (aa (az) au))) (aa (fB lq hr T.nQ (aa Ξ (aa (az) au))) au)))))) bh)
   (ao (fX 3 sc.nd (fB lq hr T.nQ (aa Ξ (aa (az) au))))
   (ao (fX 4 sc.nd (az))
   (ao (nT PassesOwn.never rfl (jN (Ff Zl4 Ξ (GP (az)) (GP (az)))) (fu (i:=5) sc.nd rfl (Or.inl rfl))
   (ao (fX 6 sc.nd (bz lX (pv 5) (bz Ng (bz Ng (pv 4) (pv 4)) (az))))
   (ao (bZ (mV jD (fB cu hr T.di (aa (pv 6) (aa (az) (aa (az) au)))) (az)) (aA (fX 2 sc.nd (bz qJ Θ (bz TF (cG (aa (fD) au)) (bz lX (az) (fB cu hr T.di (aa (pv 6) (aa (az) (aa (az) au))))))))) (aA (fX 2 sc.nd (bz qJ Θ (fB Ze0 hr T.Kq (aa (pv 6) (aa ψ (aa ah au))))))))
   (aA (Zxc (i:=4) sc.nd rfl (Or.inl rfl) (az) Zrb)))))
   (aA (aM (bz qJ Θ (bz TF (cG (aa (fD) au)) (bz lX (az) (fB cu hr T.di (aa ah (aa (az) (aa (az) au)))))))))))))),?_⟩
  obtain⟨z0,z1,rfl,q⟩:=h;exact Zde q
theorem Ub{fd:AK}(F:jJ K "_law_number" "_law_number" yP eN fd):μ 1 eN fd oO (mF):=by
 have sc:=SJ;walk_at "ok"
 ·refine⟨wI,(aA (aM ((Tt (cR G.xq η T.ji G.boot_isinstance (aa Ξ (aa (Cj rfl T.Zkz G.boot_int rfl) au))) (Zax (Zpv (cR G.xq η T.ji G.boot_isinstance (aa Ξ (aa (Cj rfl T.ZD G.boot_bool rfl) au))))))))),?_⟩;obtain⟨z0,rfl,q⟩:=h;exact Vu q
theorem WL{fd:AK}(F:jJ K "_law_event" "_law_event" Bg iu fd){lM:AK}(lg:ι 1 eN lM oO (mF)):μ 2 iu fd vD (yt K):=by
 have sc:=Wh;walk_at "ok"
 ·refine⟨zm K (mF),(ao (bZ (PW.pt (nj (mH (gO (cR G.xq η T.ji G.boot_isinstance (aa Ξ (aa (Cj rfl T.Jv G.boot_tuple rfl) au))))) (nj (mV uD (cR G.dj η T.mj G.boot_len (aa Ξ au)) (az)) (m7 (mH (gO (cR G.xq η T.ji G.boot_isinstance (aa (jk bJ Ξ (az)) (aa (Cj rfl T.Zky G.boot_str rfl) au))))))))) (aA (aM (nA))) bh)
   (ao (bZ (PW.pt (nj (mH (gO (fB lg hr T.oR (aa (jk bJ Ξ (az)) au)))) (m7 (mH (gO (cR G.xq η T.ji G.boot_isinstance (aa (jk bJ Ξ (az)) (aa (Cj rfl T.vW G.boot_list rfl) au)))))))) (aA (aM (nA))) bh)
   (ao (nT PassesOwn.never rfl (jN (jk bJ Ξ (az))) (fu (i:=2) sc.nd rfl (Or.inl rfl))
   (aA (bZ (mH (gO (fB lg hr T.oR (aa Θ au)))) (aA (aM (nA))) bh)))
   (aA (aM (ug (G.Zil hr.units) Ξ ψ (zG _))))))),?_⟩
  obtain⟨z0,z1,rfl,q⟩:=h;exact X3 q
theorem Zbf{fd:AK}(F:jJ K "_law_hand" "_law_hand" Em kW fd){ZBg:AK}(Zzs:ι 5 XH ZBg Zxd (cH XQ Φ (λ_=>True))):μ 6 kW fd Fy (RQ XQ Φ):=by
 have sc:=Zad;walk_at "ok"
 ·refine⟨BP aL bU aV bD (cH XQ Φ (λ_=>True)),(ao (fX 2 sc.nd (fD))
   (ao (G.Zxb ⟨rfl,rfl⟩ rfl T.Qc (λcls h=>by rcases h with rfl | rfl | rfl | rfl<;>first | exact T.lR | exact T.mX | exact T.pN | exact T.nY) (λEx pn xe hx=>(aA (fX 2 sc.nd (G.Zq1 Zzs.g (hr.mono ε) rfl T.ZAj Zzs.k Zzs.b .nil hx (aa Ξ (aa ψ au)))))) (λea pn=>(aA (fX 2 sc.nd (fD)))))
   (aA (aM Θ)))),?_⟩
  obtain⟨z0,z1,rfl,q⟩:=h;exact Zdj rfl rfl rfl rfl q
theorem Zb8{fd:AK}(F:jJ K "_law_with" "_law_with" Ef iT fd):μ 1 iT fd uC (qz K):=by
 have sc:=Za6;walk_at "ok"
 ·refine⟨Bv K,(ao (fX 3 sc.nd (Tq))
   (ao (nT PassesOwn.never rfl (jN Ξ) (fu (i:=4) sc.nd rfl (Or.inl rfl))
   (aA (Ro (wW hr) ah (jk bJ (pv 4) (az)) (jk bJ (pv 4) (az)) rfl)))
   (ao (nT PassesOwn.never rfl (jN ψ) (fu (i:=5) sc.nd rfl (Or.inl rfl))
   (aA (Ro (wW hr) ah (pv 5) Θ rfl)))
   (aA (aM ah))))),?_⟩
  obtain⟨z0,z1,z2,rfl,q⟩:=h;exact Zdc q
theorem Uc{fd:AK}(F:jJ K "_law_marked" "_law_marked" yQ gw fd):μ 1 gw fd um (pO K):=by
 have sc:=SM;walk_at "ok"
 ·refine⟨wJ K,(ao (bZ (PW.pt (nj (mH (gO (cR G.xq η T.ji G.boot_isinstance (aa Ξ (aa (Cj rfl T.vW G.boot_list rfl) au))))) (m7 (mV uD (cR G.dj η T.mj G.boot_len (aa Ξ au)) (cR G.dj η T.mj G.boot_len (aa ψ au)))))) (aA (aM (nA))) bh)
   (ao (nT PassesOwn.never rfl (tK rfl T.uc (aa (cR G.dj η T.mj G.boot_len (aa ψ au)) au)) (fu (i:=3) sc.nd rfl (Or.inl rfl))
   (ao (bZ (PW.pt (nj (mH (gO (cR G.xq η T.ji G.boot_isinstance (aa (jk dm Ξ ah) (aa (Cj rfl T.Jv G.boot_tuple rfl) au))))) (m7 (mV uD (cR G.dj η T.mj G.boot_len (aa (jk dm Ξ ah) au)) (az))))) (aA (aM (nA))) bh)
   (aA (bZ (PW.pt (nj (mV (G.Zq5 hr.units) (Ff Zhm (jk dm Ξ ah) Rp (GP (az))) (Ff Zhm (jk dm ψ ah) Rp (GP (az)))) (m7 (mV uD (jk bJ (jk dm Ξ ah) (az)) (pdg hr Θ (jk bJ (jk dm ψ ah) (az))))))) (aA (aM (nA))) bh))))
   (aA (aM (nA))))),?_⟩
  obtain⟨z0,z1,z2,rfl,q⟩:=h;exact Vv q
theorem Wx{fd:AK}(F:jJ K "_law_state" "_law_state" Bc jr fd){lM:AK}(lg:ι 1 eN lM oO (mF)):μ 2 jr fd Ck (La XQ):=by
 have sc:=Wd;have tx:=pQ _ T;walk_at "ok"
 ·refine⟨yZ K (mF),(ao (fX 1 sc.nd (cG (aa ο (aa ο (aa ο au)))))
   (ao (fX 1 sc.nd (bz qJ ψ (cG (aa ο (aa ο (aa ο au))))))
   (ao (nT PassesOwn.never rfl (jN (bz qJ ψ ο)) (fu (i:=2) sc.nd rfl (Or.inl rfl))
   (aA (bZ (mH (gO (fB lg hr T.oR (aa Θ au)))) (aA (aM (cG au))) bh)))
   (aA (aM ψ))))),?_⟩
  obtain⟨z0,rfl,q⟩:=h;exact XN tx q
theorem QV{fd:AK}(F:jJ K "_law_without" "_law_without" wz gm fd):μ 1 gm fd wL (Dd K):=by
 have sc:=QK;walk_at "ok"
 ·refine⟨uW K,(ao (fX 2 sc.nd (cG au))
   (ao (nT PassesOwn.never rfl (jN Ξ) (fu (i:=3) sc.nd rfl (Or.inl rfl))
   (ao (G.Zek (iz:=4) (cns:=["_law_birth"]) [1] (jN (jk bJ ah (az))) (λ_ _ _ _ _=>G.Fe) (λ_ _ _ _ _=>(Tp (mV jD Ξ ψ) (fD) Ξ)) rfl rfl ω (by repeat (first | exact trivial | refine⟨rfl,?_⟩)) rfl γ rfl γ γ rfl γ sc.nd rfl (Or.inl rfl) (Or.inr rfl) rfl)
   (aA (bZ (mV uD (jk bJ ah (az)) ψ) (aA (qj (Fg PySem.F.plainAttrs_list PySem.F.slot_list_append PySem.F.type_list_append tV Θ (aa (bz Zld (Ff Zhm ah Rp (GP (az))) (cM (aa (pv 4) (aa (jk bJ ah (az)) au)))) au)))) bh))))
   (aA (aM Θ)))),?_⟩
  obtain⟨z0,z1,rfl,q⟩:=h;exact Ri q
theorem WM{fd:AK}{zQ wZ rR jl:AK}(F:jJ K "_law_ended" "_law_ended" Bh jz fd)(Dl:ι 2 iu zQ vD (yt K))(z6:ι 1 gw wZ um (pO K))(uK:ι 1 iT rR uC (qz K))(jV:ι 5 fj jl ["world"] (oY XQ)):μ 6 jz fd Cr (Le XQ):=by
 have sc:=Wi;have tx:=pQ _ T;walk_at "ok"
 ·refine⟨zp K (yt K) (pO K) (qz K) (oY XQ),(ao (nT PassesOwn.never rfl (jN ψ) (fu (i:=4) sc.nd rfl (Or.inl rfl))
   (aA (bZ (mV uD (jk bJ (pv 4) (az)) (bH)) (aA (aM (nA))) bh)))
   (ao (bZ (PW.pt (nj (mH (gO (fB Dl hr T.CQ (aa ah (aa (cM (aa (bH) (aa (jk dm Θ (az)) (aa (Ff Zl4 Θ (GP (az)) Rp) au)))) au))))) (m7 (mV uD (aG ο rfl) (bH))))) (aA (aM (nA))) bh)
   (aA (aM (fB z6 hr T.zN (aa (fB jV hr T.pL (aa Ξ au)) (aa ψ (aa (fB uK hr T.ym (aa ψ (aa (cG au) (aa (bH) au)))) au)))))))),?_⟩
  obtain⟨z0,z1,z2,z3,rfl,q⟩:=h;exact X4 tx q
theorem Ua{fd:AK}{zQ wZ lM rR Q9 d8 jl:AK}(F:jJ K "_law_passed" "_law_passed" yO gZ fd)(Dl:ι 2 iu zQ vD (yt K))(z6:ι 1 gw wZ um (pO K))(lg:ι 1 eN lM oO (mF))(uK:ι 1 iT rR uC (qz K))(VB:ι 1 gm Q9 wL (Dd K))(fJ:ι 2 eZ d8 lH (bV XQ))(jV:ι 5 fj jl ["world"] (oY XQ)):μ 6 gZ fd zF (Hl XQ):=by
 have sc:=Sy;have tx:=pQ _ T;walk_at "ok"
 ·refine⟨wH K (yt K) (pO K) (mF) (qz K) (Dd K) (bV XQ) (oY XQ),(ao (fX 5 sc.nd ψ)
   (ao (fX 6 sc.nd (cM (aa (bH) (aa Θ (aa (cG au) au)))))
   (ao (nT PassesOwn.never rfl (jN ψ) (fu (i:=7) sc.nd rfl (Or.inl rfl))
   (aA (bZ (PW.pt (MJ (mV jD (jk bJ (pv 7) (az)) Θ) (GK (mV jD (jk bJ (pv 7) (az)) (bH))))) (ao (fX 5 sc.nd (fB VB hr T.Gb (aa ψ (aa (jk bJ (pv 7) (az)) au))))
   (ao (fX 3 sc.nd (bz wN (bz wN (bz wN ah (az)) (cR G.dj η T.mj G.boot_len (aa (jk bJ (pv 7) (az)) au))) (jk bJ (pv 7) (az))))
   (aA (fX 6 sc.nd (cM (aa (bH) (aa (jk bJ (pv 7) (az)) (aa (cG (aa Θ au)) au)))))))) bh)))
   (ao (bZ (PW.pt (nj (mH (gO (fB Dl hr T.CQ (aa (pv 4) (aa (pv 6) au))))) (nj (mH (gO (fB lg hr T.oR (aa (aG ο rfl) au)))) (m7 (mV uD (aG ο rfl) ah))))) (aA (aM (nA))) bh)
   (ao (bZ (PW.pt (MJ (mV jD (jk bJ (pv 6) (az)) (bH)) (GK (PW.pt (nj (mV G.wO (jk dm (aG ο rfl) Θ) (fD)) (m7 (mV G.wO (fB fJ hr T.mK (aa ο (aa Θ au))) (fD)))))))) (aA (aM (nA))) bh)
   (ao (bZ (mV uD (aG ο rfl) (bH)) (aA (aM (nA))) bh)
   (aA (aM (fB z6 hr T.zN (aa (fB jV hr T.pL (aa Ξ au)) (aa (pv 5) (aa (fB uK hr T.ym (aa (pv 5) (aa (cG au) (aa (bH) au)))) au)))))))))))),?_⟩
  obtain⟨z0,z1,z2,z3,z4,rfl,q⟩:=h;exact Vt tx q
theorem Wz{fd:AK}{rR KY Zcv Vf jl:AK}(F:jJ K "_law_names" "_law_names" Be ju fd)(uK:ι 1 iT rR uC (qz K))(Vw:ι 2 vh KY Tv (xr XQ))(Zkv:ι 1 xj Zcv ["world"] (Gv XQ))(Zdt:ι 4 rT Vf ["world"] (yp XQ))(jV:ι 5 fj jl ["world"] (oY XQ)):μ 6 ju fd Cp (Ld XQ):=by
 have sc:=Wf;have tx:=pQ _ T;walk_at "ok"
 ·refine⟨zb K (qz K) (xr XQ) (Gv XQ) (yp XQ) (oY XQ),(ao (fX 1 sc.nd (fB uK hr T.ym (aa (fB jV hr T.pL (aa Ξ au)) (aa (cG au) (aa (bH) au)))))
   (ao (fX 2 sc.nd (cG au))
   (ao (nT PassesOwn.never rfl (jN (vU (G.Zkn rfl) η T.vW G.boot_list (aa ο au))) (fu (i:=3) sc.nd rfl (Or.inl rfl))
   (ao (zA (pdg hr ο ah) (Tj rfl (qd (fu (i:=4) sc.nd rfl (Or.inl rfl)) (qd (fu (i:=5) sc.nd rfl (Or.inl rfl)) JW))))
   (ao (fX 6 sc.nd (ug jD (Zpz (wW hr) ψ (pv 5) (bH) ⟨rfl,rfl,rfl,rfl⟩) (bH) (zG _)))
   (ao (fX 7 sc.nd (fB Vw hr T.Zbr (aa Ξ (aa (pv 4) (aa (pv 5) au)))))
   (ao (bZ (PW.pt (nj (PW.pt (MJ (mV G.Zlb (pv 7) (nA)) (GK (mV G.Zlb (pv 7) (nA))))) (m7 (mV uD (pv 7) (pv 6))))) (aA (aM (nA))) bh)
   (ao (bZ (gO (pv 6)) (aA (fX 4 sc.nd (fD))) bh)
   (aA (qj (Fg PySem.F.plainAttrs_list PySem.F.slot_list_append PySem.F.type_list_append tV Θ (aa (pv 4) au))))))))))
   (aA (aM (ug (G.Zil hr.units) (fB Zdt hr T.Zbq (aa Ξ au)) (bz qJ (fB Zkv hr T.Zjb (aa Ξ au)) (cG (aa Θ au))) (zG _))))))),?_⟩
  obtain⟨z0,rfl,q⟩:=h;exact XS tx q
theorem QW{fd:AK}{Zct jl:AK}(F:jJ K "_law_unnoted" "_law_unnoted" wA gq fd)(Zku:ι 2 xg Zct Zaz (Jr XQ))(jV:ι 5 fj jl ["world"] (oY XQ)):μ 6 gq fd wM (De XQ):=by
 have sc:=QL;have tx:=pQ _ T;walk_at "ok"
 ·refine⟨uX K (Jr XQ) (oY XQ),(ao (G.Zek (iz:=2) (cns:=[]) [] (jN ψ) (λ_ _ _ _ _=>(G.Zaw (mV jD (jk bJ Ξ (az)) (bH)))) (λ_ _ _ _ _=>(jk bJ Ξ (az))) rfl rfl ω (by repeat (first | exact trivial | refine⟨rfl,?_⟩)) rfl γ rfl γ γ rfl γ sc.nd rfl (Or.inl rfl) (Or.inr rfl) rfl)
   (ao (bZ (mV (G.Zim (wW hr)) Θ (cG au)) (aA (aM (nA))) bh)
   (aA (aM ((Tt (ug G.Cv (fB Zku hr T.Zja (aa Ξ (aa (jk dm Θ (Zwe Zom (az))) au))) (fD) (zG _)) (Tt (ug (G.Zil hr.units) (fB jV hr T.pL (aa Ξ au)) ψ (zG _)) (Zax (ug (G.Zim (wW hr)) (aG ο rfl) (cG au) (zG _)))))))))),?_⟩
  obtain⟨z0,z1,rfl,q⟩:=h;exact Rj tx q
theorem Zb9{fd:AK}{XC Xy lM Vj Xw Ra Vi Zvt jl:AK}(F:jJ K "_law_step" "_law_step" Eg jZ fd)(Zdz:ι 6 jz XC Cr (Le XQ))(Lh:ι 6 ju Xy Cp (Ld XQ))(lg:ι 1 eN lM oO (mF))(Yc:ι 6 gZ Vj zF (Hl XQ))(Dk:ι 2 jr Xw Ck (La XQ))(VD:ι 6 gq Ra wM (De XQ))(Ii:ι 4 gY Vi ["world"] (Lf XQ))(Zsp:ι 9 zV Zvt ["world"] (cg XQ Zq3))(jV:ι 5 fj jl ["world"] (oY XQ)):μ 10 jZ fd Fp (RG XQ):=by
 have sc:=Za7;have tx:=pQ _ T;walk_at "ok"
 ·refine⟨Bw K (Le XQ) (Ld XQ) (mF) (Hl XQ) (La XQ) (De XQ) (Lf XQ) (cg XQ Zq3) (oY XQ),(ao (fX 2 sc.nd ο)
   (ao (bZ (mV uD (aG Θ rfl) (bH)) (ao (qj (fB Zsp hr T.Zj9 (aa Ξ au)))
   (aA (aM (nA)))) bh)
   (ao (fX 3 sc.nd (fB jV hr T.pL (aa Ξ au)))
   (ao (bZ (PW.pt (nj (mH (gO (fB VD hr T.Gd (aa Ξ (aa ah au))))) (m7 (mH (gO (fB Lh hr T.CP (aa Ξ au))))))) (aA (aM (nA))) bh)
   (ao (fX 4 sc.nd (fB Ii hr T.zM (aa Ξ au)))
   (ao (fX 5 sc.nd (fB Dk hr T.vL (aa Θ au)))
   (ao (fX 6 sc.nd (aG Θ rfl))
   (ao (fX 7 sc.nd (aG Θ rfl))
   (ao (fX 8 sc.nd (aG ο rfl))
   (ao (fX 9 sc.nd (fB Zsp hr T.Zj9 (aa Ξ au)))
   (ao (bZ (PW.pt (nj (mV (G.Zim (wW hr)) (pv 5) (cG au)) (nj (mV uD (aG Θ rfl) (pv 7)) (m7 (mV (G.Zq5 hr.units) (fB Ii hr T.zM (aa Ξ au)) (pv 4)))))) (aA (aM (nA))) bh)
   (ao (bZ (mV jD (pv 6) (pv 7)) (ao (bZ (PW.pt (nj (mV uD (aG Θ rfl) (pv 6)) (nj (mV (G.Zq6 (wW hr)) (fB Dk hr T.vL (aa Θ au)) (pv 5)) (m7 (mV uD (aG ο rfl) (pv 8)))))) (aA (aM (nA))) bh)
   (aA (aM ((Tt (fB Zdz hr T.Ko (aa Ξ (aa ah (aa (pv 5) (aa (pv 9) au))))) (Zax (fB Lh hr T.CP (aa Ξ au)))))))) bh)
   (ao (Ztp ((pv 5)) ((az)) G.Zrx ((az)) Zrb set_list)
   (ao (bZ (PW.pt (nj (mH (gO (fB lg hr T.oR (aa (aG Θ rfl) au)))) (nj (mV uD (aG Θ rfl) (bz lX (pv 6) (az))) (m7 (mV (G.Zq6 (wW hr)) (fB Dk hr T.vL (aa Θ au)) (pv 5)))))) (aA (aM (nA))) bh)
   (aA (aM (fB Yc hr T.Ia (aa Ξ (aa ah (aa (pv 6) (aa (pv 8) (aa (pv 9) au)))))))))))))))))))))),?_⟩
  obtain⟨z0,z1,rfl,q⟩:=h;exact Zdd tx q
theorem Zxi{fl:AH}{fd:AK}{KZ nW Zd2 Xz Zd1 Zcy Zcx Zcw:AK}(F:jJ K "law" "law" SX fl fd)(Ah:ι 3 dB KZ tL (vP XQ))(lq:ι 1 gJ nW qP (rY K))(Zgx:ι 6 kW Zd2 Fy (RQ XQ Φ))(Zdy:ι 2 jw Xz Cq (RP K))(Zgw:ι 3 kO Zd1 Fx (RN XQ))(Zgt:ι 2 kj Zcy Ft (Zdn K))(Zgs:ι 5 kh Zcx Fq (RJ K))(Zgr:ι 10 jZ Zcw Fp (RG XQ)):μ 11 fl fd ["_law_script"] (Zlz K):=by
 have sc:=Zx3;have tx:=pQ _ T;walk_at "ok"
 ·refine⟨Zi9 K XQ.W (vP XQ) (rY K) (RQ XQ Φ) (RP K) (RN XQ) (Zdn K) (RJ K) (RG XQ),(ao (fX 1 sc.nd (bz gP (fB lq hr T.nQ (aa Ξ (aa (az) au))) (az)))
   (ao (fX 2 sc.nd (fB Zdy hr T.Km (aa Ξ au)))
   (ao (fX 3 sc.nd (Cg T.J8 Ah.g (hr.mono ε) rfl T.Zlg Ah.b .nil G.gH (aa (fB Zgt hr T.PK (aa Ξ au)) (aa (fB Zgw hr T.PX (aa ψ au)) (aa (vU G.Jq η T.vW G.boot_list (aa Θ au)) au)))))
   (ao (nT PassesOwn.never rfl (jN (fB Zgs hr T.PJ (aa Ξ (aa Θ au)))) (fu (i:=4) sc.nd rfl (Or.inl rfl))
   (ao (bZ (mV jD (aG (aG ah rfl) rfl) (bH)) (aA (aM (nA))) bh)
   (aA (bZ (mV G.wO (pv 4) (fD)) (aA (qj (fB Zgx hr T.P0 (aa ah (aa (pv 4) au))))) (aA (bZ (mH (gO (fB Zgr hr T.PB (aa ah (aa (bz gP ψ (az)) au))))) (aA (aM (nA))) bh))))))
   (aA (aM (nA))))))),?_⟩
  obtain⟨z0,rfl,q⟩:=h;exact Zxz tx q
end
abbrev Fi(K:aC)(c:AH)(s:Str)(f:AH):Prop:=W.findIn K (.ref c) s=some (↑f)
abbrev Fo(K:aC)(c:AH)(s:Str):Prop:=W.findIn K (.ref c) s=some none
abbrev Ns(K:aC)(s:Str)(f:AH):Prop:=W.nsIn K mainGlobals s=some (↑f)
abbrev Ki(K:aC)(f:AH):Prop:=W.keepIn K (.ref f)=true
abbrev Ci(K:aC)(c:AI)(s:Str):Prop:=W.codeIn K c s=true
abbrev Lk(K:aC)(f:AH)(a b:Str)(s:Stmt)(d:AI)(oc:AI)(od:Option AH)(kV dc pm:AI)(an:Option AH)(cd ct:AI)(sl:Array AB):Prop:=K.lookup f=some ⟨oc,od,.func (W.fnOf a b (o5 s) (lU s) (aJ s) d kV dc pm an cd ct),sl⟩
def lD(K:aC)(x q:Str)(s:Stmt)(f:AH):Prop:=∃oc od kV d c b a ct sl,Lk K f x q s .none oc od kV d c b a ct sl/\Ci K a q/\Ki K f
theorem fgm{K:aC}{x q:Str}{s:Stmt}{f:AH}{oc:AI}{od:Option AH}{kV e d:AI}{b:Option AH}{a ct:AI}{sl:Array AB}(l:Lk K f x q s .none oc od kV e d b a ct sl)(c:Ci K a q)(k:Ki K f):lD K x q s f:=⟨oc,od,kV,e,d,b,a,ct,sl,l,c,k⟩
theorem fg{K:aC}{x q:Str}{s:Stmt}{f:AH}(h:lD K x q s f):∃fd,jJ K x q s f fd/\Ki K f:=by
 obtain⟨oc,od,kV,b,e,d,a,ct,sl,l,c,k⟩:=h;exact⟨_,Zry l c k,k⟩
theorem cn1{a:Type}{us:List a}{n:Nat}(h:us.length=n+1):∃x t,us=x::t/\t.length=n:=by cases us with | nil=>cases h | cons x t=>exact⟨x,t,rfl,Nat.succ.inj h⟩
theorem HF{K:aC}{x a:Str}{st:Stmt}{f:AH}{fd:AK}(F:jJ K x a st f fd)(a0:Str)(h:∀(kV c g:AI) (e:Option AH) (b ct d:AI),bindArgs (W.fnOf x a (o5 st) (lU st) (aJ st) .none kV c g e b ct) ⟨[d],[]⟩=pure (([a0]:AG).zip [d]):=by intros;rfl):Binds K fd [a0] []:=F.binds λkV c g e b ct us hl=>by obtain⟨d,_,rfl,l1⟩:=cn1 (n:=0) hl;cases List.eq_nil_of_length_eq_zero l1;exact h kV c g e b ct d
theorem Dc{K:aC}{x a:Str}{st:Stmt}{f:AH}{fd:AK}(F:jJ K x a st f fd)(a0 j:Str)(h:∀(kV c i:AI) (g:Option AH) (b ct e d:AI),bindArgs (W.fnOf x a (o5 st) (lU st) (aJ st) .none kV c i g b ct) ⟨[e,d],[]⟩=pure (([a0,j]:AG).zip [e,d]):=by intros;rfl):Binds K fd [a0,j] []:=F.binds λkV c i g b ct us hl=>by obtain⟨e,_,rfl,l1⟩:=cn1 (n:=1) hl;obtain⟨d,_,rfl,l2⟩:=cn1 (n:=0) l1;cases List.eq_nil_of_length_eq_zero l2;exact h kV c i g b ct e d
theorem bd3{K:aC}{x a:Str}{st:Stmt}{f:AH}{fd:AK}(F:jJ K x a st f fd)(a0 k l:Str)(h:∀(kV c j:AI) (i:Option AH) (b ct g d e:AI),bindArgs (W.fnOf x a (o5 st) (lU st) (aJ st) .none kV c j i b ct) ⟨[g,d,e],[]⟩=pure (([a0,k,l]:AG).zip [g,d,e]):=by intros;rfl):Binds K fd [a0,k,l] []:=F.binds λkV c j i b ct us hl=>by obtain⟨g,_,rfl,l1⟩:=cn1 (n:=2) hl;obtain⟨d,_,rfl,l2⟩:=cn1 (n:=1) l1;obtain⟨e,_,rfl,l3⟩:=cn1 (n:=0) l2;cases List.eq_nil_of_length_eq_zero l3;exact h kV c j i b ct g d e
theorem bd4{K:aC}{x a:Str}{st:Stmt}{f:AH}{fd:AK}(F:jJ K x a st f fd)(a0 m n l:Str)(h:∀(kV c k:AI) (j:Option AH) (b ct i e g d:AI),bindArgs (W.fnOf x a (o5 st) (lU st) (aJ st) .none kV c k j b ct) ⟨[i,e,g,d],[]⟩=pure (([a0,m,n,l]:AG).zip [i,e,g,d]):=by intros;rfl):Binds K fd [a0,m,n,l] []:=F.binds λkV c k j b ct us hl=>by obtain⟨i,_,rfl,l1⟩:=cn1 (n:=3) hl;obtain⟨e,_,rfl,l2⟩:=cn1 (n:=2) l1;obtain⟨g,_,rfl,l3⟩:=cn1 (n:=1) l2;obtain⟨d,_,rfl,l4⟩:=cn1 (n:=0) l3;cases List.eq_nil_of_length_eq_zero l4;exact h kV c k j b ct i e g d
theorem bd5{K:aC}{x a:Str}{st:Stmt}{f:AH}{fd:AK}(F:jJ K x a st f fd)(a0 o p n m:Str)(h:∀(kV c l:AI) (k:Option AH) (b ct j e i d g:AI),bindArgs (W.fnOf x a (o5 st) (lU st) (aJ st) .none kV c l k b ct) ⟨[j,e,i,d,g],[]⟩=pure (([a0,o,p,n,m]:AG).zip [j,e,i,d,g]):=by intros;rfl):Binds K fd [a0,o,p,n,m] []:=F.binds λkV c l k b ct us hl=>by obtain⟨j,_,rfl,l1⟩:=cn1 (n:=4) hl;obtain⟨e,_,rfl,l2⟩:=cn1 (n:=3) l1;obtain⟨i,_,rfl,l3⟩:=cn1 (n:=2) l2;obtain⟨d,_,rfl,l4⟩:=cn1 (n:=1) l3;obtain⟨g,_,rfl,l5⟩:=cn1 (n:=0) l4;cases List.eq_nil_of_length_eq_zero l5;exact h kV c l k b ct j e i d g
theorem all_mk{l:W.OpenLaw}{w:AN}{K:aC}{h:Heap}{mg:As}{fa fl f i x c m q n r u U aL aV bU bD dJ gF dR dH iU lN jH jG gD je eZ oW qg dI cN dB xj gY iQ jY eU jo oX fj jX ux xg ir vh rT oU ig cV cT zU gW Ig jq mO ie cU jm Ie bW zV pB R bY S dN dO dM iw dG eY lB jF gR gk iH jT jR iK iJ iI gb iD iG iC gU XH gJ eV iR jw kj kO kE kJ kY jA jt kh eN iu kW iT gw jr gm jz gZ ju gq jZ:AH}(p:K.In h)(k:h.Ns mainGlobals mg)(hfa:mg "law"=↑fa)
  {od5 an5 to5 ZC3 ZBt:Option AH}
  {sl5 ts5 ZC2:Array AB}
  {oc5 kV5 dc5 pm5 cd5 ct5 tc5 J A ZC4 ZAo ZBn ZA6 Q ZBq Zwb Zwa:AI}
  {td5 Vk Vl:AH}
  {tn5 Zg6 Zg7:Nat}
  {Zd Zc Zb Za Zo Zn Zm Zk Zj Zi Zh Zg Zf Ze:Int}
  {Ym Yl Yk Yj Yw Yv Yu Yt Ys Yr Yq Yp Yo Yn:Tok}
  (Zzo:Ns K "Cell" f)
  (Zzk:Ns K "Heap" i)
  (Zzl:Ns K "Hand" x)
  (Zod:Ns K "Sweeper" c)
  (Zw3:Ns K "World" m)
  (Zw4:Ns K "First" q)
  (Zzn:Ns K "Each" n)
  (Zzi:Ns K "Last" r)
  (Zzj:Ns K "Kind" u)
  (Zgj:Ns K "GreyError" U)
  (Zgk:Ns K "EmptySlot" aL)
  (Zoe:Ns K "NoField" aV)
  (Zzm:Ns K "Full" bU)
  (Zsm:Ns K "NoName" bD)
  (a1:Fi K f "__init__" dJ)
  (i1:W.isFn K (.ref dJ)=true)
  (a2:Fi K f "units" gF)
  (i2:W.isFn K (.ref gF)=true)
  (a3:Fi K f "has_field" dR)
  (i3:W.isFn K (.ref dR)=true)
  (a4:Fi K i "__init__" dH)
  (i4:W.isFn K (.ref dH)=true)
  (a5:Fi K i "make" iU)
  (i5:W.isFn K (.ref iU)=true)
  (l5:Lk K iU "make" "Heap.make" xT (.ref td5) oc5 od5 kV5 dc5 pm5 an5 cd5 ct5 sl5)
  (t5:K.lookup td5=some ⟨tc5,to5,.seq #[J,A] tn5,ts5⟩)
  (ZKy:RelV (.int 0) J)
  (ZKx:RelV (.int 0) A)
  (c5:Ci K cd5 "Heap.make")
  (k5:Ki K iU)
  (a6:Fi K i "lay" lN)
  (i6:W.isFn K (.ref lN)=true)
  (a7:Fi K i "back" jH)
  (i7:W.isFn K (.ref jH)=true)
  (a8:Fi K i "free" jG)
  (i8:W.isFn K (.ref jG)=true)
  (a9:Fi K i "there" gD)
  (i9:W.isFn K (.ref gD)=true)
  (a10:Ns K "cell_at" je)
  (a11:Ns K "birth_at" eZ)
  (a12:Ns K "reached" oW)
  (a13:Ns K "onward" qg)
  (a14:Fi K x "__init__" dI)
  (i14:W.isFn K (.ref dI)=true)
  (a15:Fi K c "__init__" cN)
  (i15:W.isFn K (.ref cN)=true)
  (a16:Fi K m "__init__" dB)
  (i16:W.isFn K (.ref dB)=true)
  (a17:Ns K "held" xj)
  (a18:Ns K "births_held" gY)
  (a19:Ns K "births_at" iQ)
  (a20:Ns K "looked_at" jY)
  (a21:Ns K "has_sense" eU)
  (a22:Ns K "is_walking" jo)
  (a23:Ns K "mark_of" oX)
  (a24:Ns K "told_cells" fj)
  (a25:Ns K "told_cell" jX)
  (a26:Ns K "begin" ux)
  (a27:Ns K "note" xg)
  (a28:Ns K "note_all" ir)
  (a29:Ns K "gone" vh)
  (a30:Ns K "roots" rT)
  (a31:Ns K "root_of" oU)
  (a32:Ns K "note_hands" ig)
  (a33:Ns K "step_at_rest" cV)
  (a34:Ns K "step_in_walk" cT)
  (a35:Ns K "walk" zU)
  (a36:Ns K "look_or_cut" gW)
  (a37:Ns K "cut" Ig)
  (a38:Ns K "first_loss" jq)
  (a39:Ns K "given_up" mO)
  (a40:Ns K "told_again" ie)
  (a41:Ns K "step_in_give" cU)
  (a42:Ns K "pass_place" jm)
  (a43:Ns K "end" Ie)
  (a44:Ns K "step_when_lost" bW)
  (a45:Ns K "step" zV)
  (a46:Ns K "all_of" pB)
  (a47:Fi K n "at_begin" R)
  (H:W.isFn K (.ref R)=true)
  (a48:Fi K q "next_look" bY)
  (i48:W.isFn K (.ref bY)=true)
  (a49:Fi K n "stays" S)
  (O:W.isFn K (.ref S)=true)
  (a50:Fi K q "at_begin" dN)
  (i50:W.isFn K (.ref dN)=true)
  (a51:Fi K n "next_look" dO)
  (i51:W.isFn K (.ref dO)=true)
  (a52:Fi K r "next_look" dM)
  (i52:W.isFn K (.ref dM)=true)
  (a53:Fi K r "stays" iw)
  (i53:W.isFn K (.ref iw)=true)
  (a54:Fi K u "__init__" dG)
  (i54:W.isFn K (.ref dG)=true)
  (a55:Ns K "slots_of" eY)
  (a56:Ns K "cell_in" lB)
  (a57:Ns K "fields_in" jF)
  (a58:Ns K "told_as_old" gR)
  (a59:Ns K "told_as_new" gk)
  (a60:Ns K "do_make" iH)
  (a61:Ns K "do_get" jT)
  (a62:Ns K "do_put" jR)
  (a63:Ns K "do_copy" iK)
  (a64:Ns K "do_drop" iJ)
  (a65:Ns K "do_give" iI)
  (a66:Ns K "do_write" gb)
  (a67:Ns K "do_read" iD)
  (a68:Ns K "do_name" iG)
  (a69:Ns K "do_seek" iC)
  (a70:Ns K "place_named" gU)
  (a71:Ns K "do" XH)
  (a72:Ns K "_law_cell" gJ)
  (a73:Ns K "_law_draw" eV)
  (a74:Ns K "_law_word" iR)
  (a75:Ns K "_law_hands" jw)
  (a76:Ns K "_law_room" kj)
  (a77:Ns K "_law_kind" kO)
  (a78:Ns K "_law_made" kE)
  (a79:Ns K "_law_load" kJ)
  (a80:Ns K "_law_deed" kY)
  (a81:Ns K "_law_deeds" jA)
  (a82:Ns K "_law_start" jt)
  (a83:Ns K "_law_rows" kh)
  (a84:Ns K "_law_number" eN)
  (a85:Ns K "_law_event" iu)
  (a86:Ns K "_law_hand" kW)
  (a87:Ns K "_law_with" iT)
  (a88:Ns K "_law_marked" gw)
  (a89:Ns K "_law_state" jr)
  (a90:Ns K "_law_without" gm)
  (a91:Ns K "_law_ended" jz)
  (a92:Ns K "_law_passed" gZ)
  (a93:Ns K "_law_names" ju)
  (a94:Ns K "_law_unnoted" gq)
  (a95:Ns K "_law_step" jZ)
  (a96:Ns K "law" fl)
  (l96:Lk K fl "law" "law" SX .none ZC4 ZC3 ZAo ZBn ZA6 ZBt Q ZBq ZC2)
  (c96:Ci K Q "law")
  (k96:Ki K fl)
  (Zqj:Ns K "STEPS" Vk)
  (Zr1:K.lookup Vk=some ⟨.type "dict",none,.dict #[⟨Zd,.str "rest" Ym,.ref cV⟩,⟨Zc,.str "walk" Yl,.ref cT⟩,⟨Zb,.str "give" Yk,.ref cU⟩,⟨Za,.str "lost" Yj,.ref bW⟩] Zg6,#[]⟩)
  (Zni:Zd=hashStr w "rest")
  (Znh:Zc=hashStr w "walk")
  (Zng:Zb=hashStr w "give")
  (Znf:Za=hashStr w "lost")
  (Zqk:Ns K "DEEDS" Vl)
  (Zr2:K.lookup Vl=some ⟨.type "dict",none,.dict #[⟨Zo,.str "make" Yw,.ref iH⟩,⟨Zn,.str "get" Yv,.ref jT⟩,⟨Zm,.str "put" Yu,.ref jR⟩,⟨Zk,.str "copy" Yt,.ref iK⟩,⟨Zj,.str "drop" Ys,.ref iJ⟩,⟨Zi,.str "give" Yr,.ref iI⟩,⟨Zh,.str "write" Yq,.ref gb⟩,⟨Zg,.str "read" Yp,.ref iD⟩,⟨Zf,.str "name" Yo,.ref iG⟩,⟨Ze,.str "seek" Yn,.ref iC⟩] Zg7,#[]⟩)
  (Zns:Zo=hashStr w "make")
  (Znr:Zn=hashStr w "get")
  (Znq:Zm=hashStr w "put")
  (Znp:Zk=hashStr w "copy")
  (Zno:Zj=hashStr w "drop")
  (Znn:Zi=hashStr w "give")
  (Znm:Zh=hashStr w "write")
  (Znl:Zg=hashStr w "read")
  (Znk:Zf=hashStr w "name")
  (Znj:Ze=hashStr w "seek")
  (Zu2:W.plainGet K f Str.empty=true)
  (Zvk:W.hasDictIn K f=true)
  (Ztv:W.plainOver K f=true)
  (Zte:W.findIn K (.ref f) "__setattr__"=some (some (.builtin "object.__setattr__")))
  (Rv:W.makesIn K f=true)
  (Zuw:Ki K f)
  (d9:Fo K f "birth")
  (nM:Fo K f "bulk")
  (nJ:Fo K f "tone")
  (jW:Fo K f "load")
  (fL:Fo K f "fields")
  (Zs8:W.findIn K (.ref f) "__eq__"=some (some (.builtin "object.__eq__")))
  (Zs7:W.mroIn K f (.type "object")=some true)
  (Ztz:W.plainGet K i Str.empty=true)
  (Zvh:W.hasDictIn K i=true)
  (Zts:W.plainOver K i=true)
  (Ztb:W.findIn K (.ref i) "__setattr__"=some (some (.builtin "object.__setattr__")))
  (Rt:W.makesIn K i=true)
  (Zut:Ki K i)
  (pA:Fo K i "room")
  (bO:Fo K i "cells")
  (fG:Fo K i "used")
  (nH:Fo K i "born")
  (Zu0:W.plainGet K x Str.empty=true)
  (Zvi:W.hasDictIn K x=true)
  (Ztt:W.plainOver K x=true)
  (Ztc:W.findIn K (.ref x) "__setattr__"=some (some (.builtin "object.__setattr__")))
  (Ru:W.makesIn K x=true)
  (Zuu:Ki K x)
  (yd:Fo K x "name")
  (vK:Fo K x "slots")
  (Zif:W.plainGet K c Str.empty=true)
  (Zjs:W.hasDictIn K c=true)
  (Zid:W.plainOver K c=true)
  (Zi0:W.findIn K (.ref c) "__setattr__"=some (some (.builtin "object.__setattr__")))
  (Cz:W.makesIn K c=true)
  (Zji:Ki K c)
  (qt:Fo K c "sense")
  (qu:Fo K c "phase")
  (rK:Fo K c "grey")
  (pK:Fo K c "looked")
  (rG:Fo K c "turn")
  (vI:Fo K c "at")
  (rH:Fo K c "stop")
  (qp:Fo K c "walks")
  (qw:Fo K c "looks")
  (pJ:Fo K c "passes")
  (rJ:Fo K c "loss")
  (Zpr:W.plainGet K m Str.empty=true)
  (Zrr:W.hasDictIn K m=true)
  (Zpn:W.plainOver K m=true)
  (Zp6:W.findIn K (.ref m) "__setattr__"=some (some (.builtin "object.__setattr__")))
  (J8:W.makesIn K m=true)
  (Zr8:Ki K m)
  (vH:Fo K m "heap")
  (vG:Fo K m "kind")
  (ur:Fo K m "hands")
  (uq:Fo K m "names")
  (qm:Fo K m "sweeper")
  (Zps:W.plainGet K q Str.empty=true)
  (Zrs:W.hasDictIn K q=true)
  (Zpo:W.plainOver K q=true)
  (Zp7:W.findIn K (.ref q) "__setattr__"=some (some (.builtin "object.__setattr__")))
  (Zqm:W.makesIn K q=true)
  (Zr9:Ki K q)
  (Zqa:W.findIn K (.ref q) "__init__"=some (some (.builtin "object.__init__")))
  (Zu1:W.plainGet K n Str.empty=true)
  (Zvj:W.hasDictIn K n=true)
  (Ztu:W.plainOver K n=true)
  (Ztd:W.findIn K (.ref n) "__setattr__"=some (some (.builtin "object.__setattr__")))
  (Zun:W.makesIn K n=true)
  (Zuv:Ki K n)
  (Zug:W.findIn K (.ref n) "__init__"=some (some (.builtin "object.__init__")))
  (Ztx:W.plainGet K r Str.empty=true)
  (Zvf:W.hasDictIn K r=true)
  (Ztq:W.plainOver K r=true)
  (Zt9:W.findIn K (.ref r) "__setattr__"=some (some (.builtin "object.__setattr__")))
  (Zum:W.makesIn K r=true)
  (Zur:Ki K r)
  (Zuf:W.findIn K (.ref r) "__init__"=some (some (.builtin "object.__init__")))
  (Zty:W.plainGet K u Str.empty=true)
  (Zvg:W.hasDictIn K u=true)
  (Ztr:W.plainOver K u=true)
  (Zta:W.findIn K (.ref u) "__setattr__"=some (some (.builtin "object.__setattr__")))
  (GR:W.makesIn K u=true)
  (Zus:Ki K u)
  (rM:Fo K u "looking")
  (vJ:Fo K u "tells")
  (xO:W.excIn K aL [.type "ValueError",.type "Exception",.type "BaseException",.type "object"] "ValueError.__new__"=true)
  (ZF:W.excIn K bU [.type "ValueError",.type "Exception",.type "BaseException",.type "object"] "ValueError.__new__"=true)
  (GD:W.excIn K aV [.type "ValueError",.type "Exception",.type "BaseException",.type "object"] "ValueError.__new__"=true)
  (Jw:W.excIn K bD [.type "ValueError",.type "Exception",.type "BaseException",.type "object"] "ValueError.__new__"=true)
  (lR:W.exmOne K (.ref aL) (.ref U)=some true)
  (mX:W.exmOne K (.ref aV) (.ref U)=some true)
  (pN:W.exmOne K (.ref bU) (.ref U)=some true)
  (nY:W.exmOne K (.ref bD) (.ref U)=some true)
  (Og:Fi K n "at_begin" R)
  (Xk:Fi K n "stays" S)
  (Jo:Fi K q "next_look" bY)
  (U8:Fi K q "stays" S)
  (Oe:Fi K r "at_begin" R)
  (ZD:W.nsIn K mainGlobals "bool"=some none)
  (qN:W.nsIn K mainGlobals "enumerate"=some none)
  (Zkz:W.nsIn K mainGlobals "int"=some none)
  (ji:W.nsIn K mainGlobals "isinstance"=some none)
  (mj:W.nsIn K mainGlobals "len"=some none)
  (vW:W.nsIn K mainGlobals "list"=some none)
  (uc:W.nsIn K mainGlobals "range"=some none)
  (Zky:W.nsIn K mainGlobals "str"=some none)
  (Jv:W.nsIn K mainGlobals "tuple"=some none)
  (Zz1:W.nsIn K mainGlobals "NEW"=some (some Zwb))
  (Zyz:RelV (.int 2) Zwb)
  (Zz0:W.nsIn K mainGlobals "OLD"=some (some Zwa))
  (Zyy:RelV (.int 1) Zwa)
  (g1:lD K "__init__" "Cell.__init__" uR dJ)
  (g2:lD K "units" "Cell.units" Bm gF)
  (g3:lD K "has_field" "Cell.has_field" sY dR)
  (g4:lD K "__init__" "Heap.__init__" uP dH)
  (g6:lD K "lay" "Heap.lay" Iu lN)
  (g7:lD K "back" "Heap.back" Es jH)
  (g8:lD K "free" "Heap.free" Er jG)
  (g9:lD K "there" "Heap.there" Bl gD)
  (g10:lD K "cell_at" "cell_at" Mx je)
  (g11:lD K "birth_at" "birth_at" Ir eZ)
  (g12:lD K "reached" "reached" Mj oW)
  (g13:lD K "onward" "onward" SQ qg)
  (g14:lD K "__init__" "Hand.__init__" uQ dI)
  (g15:lD K "__init__" "Sweeper.__init__" qD cN)
  (g16:lD K "__init__" "World.__init__" sU dB)
  (g17:lD K "held" "held" Zi4 xj)
  (g18:lD K "births_held" "births_held" yN gY)
  (g19:lD K "births_at" "births_at" Ec iQ)
  (g20:lD K "looked_at" "looked_at" DY jY)
  (g21:lD K "has_sense" "has_sense" Ea eU)
  (g22:lD K "is_walking" "is_walking" Ba jo)
  (g23:lD K "mark_of" "mark_of" Ml oX)
  (g24:lD K "told_cells" "told_cells" Av fj)
  (g25:lD K "told_cell" "told_cell" DX jX)
  (g26:lD K "begin" "begin" Zal ux)
  (g27:lD K "note" "note" Zi3 xg)
  (g28:lD K "note_all" "note_all" Il ir)
  (g29:lD K "gone" "gone" Zi5 vh)
  (g30:lD K "roots" "roots" Zak rT)
  (g31:lD K "root_of" "root_of" Mi oU)
  (g32:lD K "note_hands" "note_hands" Az ig)
  (g33:lD K "step_at_rest" "step_at_rest" wu cV)
  (g34:lD K "step_in_walk" "step_in_walk" v9 cT)
  (g35:lD K "walk" "walk" Zi1 zU)
  (g36:lD K "look_or_cut" "look_or_cut" yM gW)
  (g37:lD K "cut" "cut" Zp8 Ig)
  (g38:lD K "first_loss" "first_loss" Bb jq)
  (g39:lD K "given_up" "given_up" Im mO)
  (g40:lD K "told_again" "told_again" Aw ie)
  (g41:lD K "step_in_give" "step_in_give" wj cU)
  (g42:lD K "pass_place" "pass_place" Ay jm)
  (g43:lD K "end" "end" s_end Ie)
  (g44:lD K "step_when_lost" "step_when_lost" sS bW)
  (g45:lD K "step" "step" Zi2 zV)
  (g46:lD K "all_of" "all_of" S7 pB)
  (g47:lD K "at_begin" "Looking.at_begin" qF R)
  (g48:lD K "next_look" "Looking.next_look" pX bY)
  (g49:lD K "stays" "Looking.stays" uN S)
  (g50:lD K "at_begin" "First.at_begin" sW dN)
  (g51:lD K "next_look" "Each.next_look" sX dO)
  (g52:lD K "next_look" "Last.next_look" sV dM)
  (g53:lD K "stays" "Last.stays" Bk iw)
  (g54:lD K "__init__" "Kind.__init__" uO dG)
  (g55:lD K "slots_of" "slots_of" Ik eY)
  (g56:lD K "cell_in" "cell_in" Mw lB)
  (g57:lD K "fields_in" "fields_in" Eb jF)
  (g58:lD K "told_as_old" "told_as_old" yJ gR)
  (g59:lD K "told_as_new" "told_as_new" yK gk)
  (g60:lD K "do_make" "do_make" Mr iH)
  (g61:lD K "do_get" "do_get" S6 jT)
  (g62:lD K "do_put" "do_put" S5 jR)
  (g63:lD K "do_copy" "do_copy" Mv iK)
  (g64:lD K "do_drop" "do_drop" Mu iJ)
  (g65:lD K "do_give" "do_give" Ms iI)
  (g66:lD K "do_write" "do_write" Io gb)
  (g67:lD K "do_read" "do_read" Mp iD)
  (g68:lD K "do_name" "do_name" Mq iG)
  (g69:lD K "do_seek" "do_seek" Mm iC)
  (g70:lD K "place_named" "place_named" yL gU)
  (g71:lD K "do" "do" Zx6 XH)
  (g72:lD K "_law_cell" "_law_cell" Ep gJ)
  (g73:lD K "_law_draw" "_law_draw" En eV)
  (g74:lD K "_law_word" "_law_word" Ed iR)
  (g75:lD K "_law_hands" "_law_hands" Bf jw)
  (g76:lD K "_law_room" "_law_room" Ei kj)
  (g77:lD K "_law_kind" "_law_kind" El kO)
  (g78:lD K "_law_made" "_law_made" Ej kE)
  (g79:lD K "_law_load" "_law_load" Ek kJ)
  (g80:lD K "_law_deed" "_law_deed" Eo kY)
  (g81:lD K "_law_deeds" "_law_deeds" Bj jA)
  (g82:lD K "_law_start" "_law_start" Bd jt)
  (g83:lD K "_law_rows" "_law_rows" Eh kh)
  (g84:lD K "_law_number" "_law_number" yP eN)
  (g85:lD K "_law_event" "_law_event" Bg iu)
  (g86:lD K "_law_hand" "_law_hand" Em kW)
  (g87:lD K "_law_with" "_law_with" Ef iT)
  (g88:lD K "_law_marked" "_law_marked" yQ gw)
  (g89:lD K "_law_state" "_law_state" Bc jr)
  (g90:lD K "_law_without" "_law_without" wz gm)
  (g91:lD K "_law_ended" "_law_ended" Bh jz)
  (g92:lD K "_law_passed" "_law_passed" yO gZ)
  (g93:lD K "_law_names" "_law_names" Be ju)
  (g94:lD K "_law_unnoted" "_law_unnoted" wA gq)
  (g95:lD K "_law_step" "_law_step" Eg jZ)
  :∃fd:AK,(∀(s:AJ) (v:AI),BindsTo s fd ⟨[v],[]⟩ [("_law_script",v)])/\∀base:Heap,K.In base->base.Ns mainGlobals mg->xJ l.prog w K mg base (G.VG l.prog w) 11 fa fd ["_law_script"] (Zlz K):=by
 have e:=hfa.symm.trans (W.mg_of p k a96);cases e;have b:∀{s:Str}{v:AI},W.nsIn K mainGlobals s=some (some v)->mg s=some v:=λh=>W.mg_of p k h
 let a:Cs:=⟨m,i,f,u,x,c,q,n,r⟩
 obtain⟨_,F1,k1⟩:=fg g1;obtain⟨_,F2,k2⟩:=fg g2;obtain⟨_,F3,k3⟩:=fg g3;obtain⟨_,F4,k4⟩:=fg g4;obtain⟨_,F6,k6⟩:=fg g6;obtain⟨_,F7,k7⟩:=fg g7;obtain⟨_,F8,k8⟩:=fg g8;obtain⟨_,F9,k9⟩:=fg g9;obtain⟨_,F10,k10⟩:=fg g10;obtain⟨_,F11,k11⟩:=fg g11;obtain⟨_,F12,k12⟩:=fg g12;obtain⟨_,F13,k13⟩:=fg g13;obtain⟨_,F14,k14⟩:=fg g14;obtain⟨_,F15,X⟩:=fg g15;obtain⟨_,F16,k16⟩:=fg g16;obtain⟨_,F17,k17⟩:=fg g17;obtain⟨_,F18,k18⟩:=fg g18;obtain⟨_,F19,k19⟩:=fg g19;obtain⟨_,F20,k20⟩:=fg g20;obtain⟨_,F21,k21⟩:=fg g21;obtain⟨_,F22,k22⟩:=fg g22;obtain⟨_,F23,k23⟩:=fg g23;obtain⟨_,F24,k24⟩:=fg g24;obtain⟨_,F25,k25⟩:=fg g25;obtain⟨_,F26,k26⟩:=fg g26;obtain⟨_,F27,k27⟩:=fg g27;obtain⟨_,F28,k28⟩:=fg g28;obtain⟨_,F29,k29⟩:=fg g29;obtain⟨_,F30,k30⟩:=fg g30;obtain⟨_,F31,k31⟩:=fg g31;obtain⟨_,V,k32⟩:=fg g32;obtain⟨_,F33,k33⟩:=fg g33;obtain⟨_,Z,k34⟩:=fg g34;obtain⟨_,F35,k35⟩:=fg g35;obtain⟨_,F36,k36⟩:=fg g36;obtain⟨_,F37,k37⟩:=fg g37;obtain⟨_,F38,k38⟩:=fg g38;obtain⟨_,F39,k39⟩:=fg g39;obtain⟨_,F40,k40⟩:=fg g40;obtain⟨_,F41,k41⟩:=fg g41;obtain⟨_,F42,k42⟩:=fg g42;obtain⟨_,F43,k43⟩:=fg g43;obtain⟨_,F44,k44⟩:=fg g44;obtain⟨_,F45,k45⟩:=fg g45;obtain⟨_,F46,k46⟩:=fg g46;obtain⟨_,F47,E⟩:=fg g47;obtain⟨_,F48,N⟩:=fg g48;obtain⟨_,F49,B⟩:=fg g49;obtain⟨_,F50,k50⟩:=fg g50;obtain⟨_,F51,k51⟩:=fg g51;obtain⟨_,F52,k52⟩:=fg g52;obtain⟨_,Y,k53⟩:=fg g53;obtain⟨_,F54,k54⟩:=fg g54;obtain⟨_,F55,k55⟩:=fg g55;obtain⟨_,F56,k56⟩:=fg g56;obtain⟨_,F57,k57⟩:=fg g57;obtain⟨_,F58,k58⟩:=fg g58;obtain⟨_,F59,k59⟩:=fg g59;obtain⟨_,F60,k60⟩:=fg g60;obtain⟨_,F61,k61⟩:=fg g61;obtain⟨_,F62,k62⟩:=fg g62;obtain⟨_,F63,k63⟩:=fg g63;obtain⟨_,F64,k64⟩:=fg g64;obtain⟨_,F65,k65⟩:=fg g65;obtain⟨_,F66,k66⟩:=fg g66;obtain⟨_,F67,k67⟩:=fg g67;obtain⟨_,F68,k68⟩:=fg g68;obtain⟨_,F69,k69⟩:=fg g69;obtain⟨_,F70,k70⟩:=fg g70;obtain⟨_,F71,k71⟩:=fg g71;obtain⟨_,F72,k72⟩:=fg g72;obtain⟨_,F73,k73⟩:=fg g73;obtain⟨_,F74,k74⟩:=fg g74;obtain⟨_,F75,k75⟩:=fg g75;obtain⟨_,F76,k76⟩:=fg g76;obtain⟨_,F77,k77⟩:=fg g77;obtain⟨_,F78,k78⟩:=fg g78;obtain⟨_,F79,k79⟩:=fg g79;obtain⟨_,F80,k80⟩:=fg g80;obtain⟨_,F81,k81⟩:=fg g81;obtain⟨_,F82,k82⟩:=fg g82;obtain⟨_,F83,k83⟩:=fg g83;obtain⟨_,F84,k84⟩:=fg g84;obtain⟨_,F85,k85⟩:=fg g85;obtain⟨_,F86,k86⟩:=fg g86;obtain⟨_,F87,k87⟩:=fg g87;obtain⟨_,F88,k88⟩:=fg g88;obtain⟨_,F89,k89⟩:=fg g89;obtain⟨_,F90,k90⟩:=fg g90;obtain⟨_,F91,k91⟩:=fg g91;obtain⟨_,F92,k92⟩:=fg g92;obtain⟨_,F93,k93⟩:=fg g93;obtain⟨_,F94,k94⟩:=fg g94;obtain⟨_,F95,k95⟩:=fg g95;have T:Txt w K mg f i x c m q n r u U aL aV bU bD dJ gF dR dH iU lN jH jG gD je eZ oW qg dI cN dB xj gY iQ jY eU jo oX fj jX ux xg ir vh rT oU ig cV cT zU gW Ig jq mO ie cU jm Ie bW zV pB R bY S dN dO dM iw dG eY lB jF gR gk iH jT jR iK iJ iI gb iD iG iC gU XH gJ eV iR jw kj kO kE kJ kY jA jt kh eN iu kW iT gw jr gm jz gZ ju gq jZ:={
  Yx:=⟨Vk,_,_,Zg6,W.mg_of p k Zqj,Zr1,⟨rfl,rfl,rfl⟩,rfl,Zni,⟨Ym,rfl⟩,rfl,Znh,⟨Yl,rfl⟩,rfl,Zng,⟨Yk,rfl⟩,rfl,Znf,⟨Yj,rfl⟩,rfl,trivial⟩
  Yy:=⟨Vl,_,_,Zg7,W.mg_of p k Zqk,Zr2,⟨rfl,rfl,rfl⟩,rfl,Zns,⟨Yw,rfl⟩,rfl,Znr,⟨Yv,rfl⟩,rfl,Znq,⟨Yu,rfl⟩,rfl,Znp,⟨Yt,rfl⟩,rfl,Zno,⟨Ys,rfl⟩,rfl,Znn,⟨Yr,rfl⟩,rfl,Znm,⟨Yq,rfl⟩,rfl,Znl,⟨Yp,rfl⟩,rfl,Znk,⟨Yo,rfl⟩,rfl,Znj,⟨Yn,rfl⟩,rfl,trivial⟩
  dz:=⟨Zu2,Zvk,Ztv,Zte⟩
  Zqx:=b Zzo
  Rv:=⟨Rv,a1,i1,Zuw⟩
  d9:=d9
  nM:=nM
  nJ:=nJ
  jW:=jW
  fL:=fL
  RB:=⟨Zs8,Zs7⟩
  cA:=⟨Ztz,Zvh,Zts,Ztb⟩
  Zqt:=b Zzk
  Rt:=⟨Rt,a4,i4,Zut⟩
  pA:=pA
  bO:=bO
  fG:=fG
  nH:=nH
  Zlw:=⟨Zu0,Zvi,Ztt,Ztc⟩
  Zqu:=b Zzl
  Ru:=⟨Ru,a14,i14,Zuu⟩
  yd:=yd
  vK:=vK
  Vm:=⟨Zif,Zjs,Zid,Zi0⟩
  YZ:=b Zod
  Cz:=⟨Cz,a15,i15,Zji⟩
  qt:=qt
  qu:=qu
  rK:=rK
  pK:=pK
  rG:=rG
  vI:=vI
  rH:=rH
  qp:=qp
  qw:=qw
  pJ:=pJ
  rJ:=rJ
  Zgd:=⟨Zpr,Zrr,Zpn,Zp6⟩
  Zlg:=b Zw3
  J8:=⟨J8,a16,i16,Zr8⟩
  vH:=vH
  vG:=vG
  ur:=ur
  uq:=uq
  qm:=qm
  Gr:=⟨Zps,Zrs,Zpo,Zp7⟩
  Zlh:=b Zw4
  YM:=⟨Zqm,Zqa,Zr9⟩
  K7:=⟨Zu1,Zvj,Ztu,Ztd⟩
  Zqw:=b Zzn
  Zf8:=⟨Zun,Zug,Zuv⟩
  K6:=⟨Ztx,Zvf,Ztq,Zt9⟩
  Zqs:=b Zzi
  Zf7:=⟨Zum,Zuf,Zur⟩
  Zlv:=⟨Zty,Zvg,Ztr,Zta⟩
  Zbs:=b Zzj
  GR:=⟨GR,a54,i54,Zus⟩
  rM:=rM
  vJ:=vJ
  Qc:=b Zgj
  Qd:=b Zgk
  Y0:=b Zoe
  Zqv:=b Zzm
  Zfc:=b Zsm
  xO:=xO
  ZF:=ZF
  GD:=GD
  Jw:=Jw
  lR:=lR
  mX:=mX
  pN:=pN
  nY:=nY
  Ae:=⟨Og,H,E⟩
  zK:=⟨Xk,O,B⟩
  wU:=⟨Jo,i48,N⟩
  wR:=⟨U8,O,B⟩
  Ad:=⟨Oe,H,E⟩
  Ny:=⟨a1,i1,k1⟩
  uv:=⟨a2,i2,k2⟩
  yh:=⟨a3,i3,k3⟩
  Nv:=⟨a4,i4,k4⟩
  Ka:=⟨a5,i5,k5⟩
  Px:=⟨a6,i6,k6⟩
  Kd:=⟨a7,i7,k7⟩
  Kc:=⟨a8,i8,k8⟩
  zJ:=⟨a9,i9,k9⟩
  tX:=b a10
  mK:=b a11
  YW:=b a12
  Us:=b a13
  Nx:=⟨a14,i14,k14⟩
  Hw:=⟨a15,i15,X⟩
  J9:=⟨a16,i16,k16⟩
  Zjb:=b a17
  zM:=b a18
  yj:=b a19
  Pz:=b a20
  nP:=b a21
  Kg:=b a22
  YX:=b a23
  pL:=b a24
  Py:=b a25
  Zlf:=b a26
  Zja:=b a27
  tW:=b a28
  Zbr:=b a29
  Zbq:=b a30
  YT:=b a31
  CJ:=b a32
  Ur:=b a33
  Up:=b a34
  Zqp:=b a35
  HY:=b a36
  Zwi:=b a37
  Kh:=b a38
  Ut:=b a39
  CG:=b a40
  Uq:=b a41
  Kf:=b a42
  Zwh:=b a43
  Nz:=b a44
  Zj9:=b a45
  Uu:=b a46
  Hz:=⟨a47,H,E⟩
  FZ:=⟨a48,i48,N⟩
  Nt:=⟨a49,O,B⟩
  yf:=⟨a50,i50,k50⟩
  yg:=⟨a51,i51,k51⟩
  ye:=⟨a52,i52,k52⟩
  zH:=⟨a53,i53,k53⟩
  Nu:=⟨a54,i54,k54⟩
  lJ:=b a55
  Af:=b a56
  Ga:=b a57
  HW:=b a58
  zL:=b a59
  Zn3:=b a60
  Zqr:=b a61
  Zqq:=b a62
  Zn6:=b a63
  Zn5:=b a64
  Zn4:=b a65
  Zjc:=b a66
  Zn1:=b a67
  Zn2:=b a68
  Zn0:=b a69
  HX:=b a70
  ZAj:=b a71
  nQ:=b a72
  di:=b a73
  yl:=b a74
  Km:=b a75
  PK:=b a76
  PX:=b a77
  PL:=b a78
  PN:=b a79
  Qa:=b a80
  Kq:=b a81
  Kl:=b a82
  PJ:=b a83
  oR:=b a84
  CQ:=b a85
  P0:=b a86
  ym:=b a87
  zN:=b a88
  vL:=b a89
  Gb:=b a90
  Ko:=b a91
  Ia:=b a92
  CP:=b a93
  Gd:=b a94
  PB:=b a95
  ZD:=W.mg_none_of p k ZD
  qN:=W.mg_none_of p k qN
  Zkz:=W.mg_none_of p k Zkz
  ji:=W.mg_none_of p k ji
  mj:=W.mg_none_of p k mj
  vW:=W.mg_none_of p k vW
  uc:=W.mg_none_of p k uc
  Zky:=W.mg_none_of p k Zky
  Jv:=W.mg_none_of p k Jv
  Zwn:=⟨_,W.mg_of p k Zz1,Zyz⟩
  Zwm:=⟨_,W.mg_of p k Zz0,Zyy⟩
 }
 have b1:=bd5 F1 "self" "birth" "many" "bulk" "tone";have b2:=HF F2 "self";have b3:=Dc F3 "self" "field";have b4:=Dc F4 "self" "room";have F5:=G.Zvo (st:=xT) l5 c5 k5;have b5:=G.Zkq (ps:=["self","many","bulk","tone"]) (ds:=[]) l5 t5 λus hl=>by obtain⟨_,_,rfl,l1⟩:=cn1 (n:=3) hl;obtain⟨_,_,rfl,l2⟩:=cn1 (n:=2) l1;obtain⟨_,_,rfl,l3⟩:=cn1 (n:=1) l2;obtain⟨_,_,rfl,l4⟩:=cn1 (n:=0) l3;cases List.eq_nil_of_length_eq_zero l4;exact ⟨_,rfl,rfl⟩
 have ZL0:=G.Zkq (ps:=["self","many","bulk","tone"]) (ds:=[A]) l5 t5 λus hl=>by obtain⟨_,_,rfl,l1⟩:=cn1 (n:=2) (Nat.add_right_cancel (m:=1) hl);obtain⟨_,_,rfl,l2⟩:=cn1 (n:=1) l1;obtain⟨_,_,rfl,l3⟩:=cn1 (n:=0) l2;cases List.eq_nil_of_length_eq_zero l3;exact ⟨_,rfl,rfl⟩
 have ZKz:=G.Zkq (ps:=["self","many","bulk","tone"]) (ds:=[J,A]) l5 t5 λus hl=>by obtain⟨_,_,rfl,l1⟩:=cn1 (n:=1) (Nat.add_right_cancel (m:=2) hl);obtain⟨_,_,rfl,l2⟩:=cn1 (n:=0) l1;cases List.eq_nil_of_length_eq_zero l2;exact ⟨_,rfl,rfl⟩
 have b6:=Dc F6 "self" "cell";have b7:=Dc F7 "self" "place";have b8:=HF F8 "self";have b9:=HF F9 "self";have b10:=Dc F10 "heap" "place";have b11:=Dc F11 "heap" "place";have b12:=Dc F12 "heap" "rows";have b13:=bd3 F13 "heap" "places" "way";have b14:=bd3 F14 "self" "name" "many";have b15:=HF F15 "self";have b16:=bd4 F16 "self" "room" "kind" "hands";have b17:=HF F17 "world";have b18:=HF F18 "world";have b19:=Dc F19 "heap" "places";have b20:=Dc F20 "world" "hand";have b21:=Dc F21 "world" "cell";have b22:=HF F22 "world";have b23:=Dc F23 "world" "place";have b24:=HF F24 "world";have b25:=Dc F25 "world" "place";have b26:=HF F26 "world";have b27:=Dc F27 "world" "place";have b28:=Dc F28 "world" "places";have b29:=bd3 F29 "world" "place" "birth";have b30:=HF F30 "world";have b31:=bd3 F31 "world" "place" "birth";have b32:=Dc V "world" "hands";have b33:=HF F33 "world";have b34:=HF Z "world";have b35:=HF F35 "world";have b36:=HF F36 "world";have b37:=HF F37 "world";have b38:=HF F38 "world";have b39:=HF F39 "world";have b40:=HF F40 "event";have b41:=HF F41 "world";have b42:=HF F42 "world";have b43:=HF F43 "world";have b44:=HF F44 "world";have b45:=HF F45 "world";have b46:=HF F46 "hands";have b47:=Dc F47 "self" "hands";have b48:=bd3 F48 "self" "looked" "hands";have b49:=HF F49 "self";have b50:=Dc F50 "self" "hands";have b51:=bd3 F51 "self" "looked" "hands";have b52:=bd3 F52 "self" "looked" "hands";have b53:=HF Y "self";have b54:=bd3 F54 "self" "looking" "tells";have b55:=Dc F55 "world" "hand";have b56:=bd3 F56 "world" "hand" "slot";have b57:=bd4 F57 "world" "hand" "slot" "field";have b58:=Dc F58 "world" "place";have b59:=bd3 F59 "world" "hand" "place";have b60:=Dc F60 "world" "deed";have b61:=Dc F61 "world" "deed";have b62:=Dc F62 "world" "deed";have b63:=Dc F63 "world" "deed";have b64:=Dc F64 "world" "deed";have b65:=Dc F65 "world" "deed";have b66:=Dc F66 "world" "deed";have b67:=Dc F67 "world" "deed";have b68:=Dc F68 "world" "deed";have b69:=Dc F69 "world" "deed";have b70:=Dc F70 "world" "word";have b71:=Dc F71 "world" "deed";have b72:=Dc F72 "_law_script" "_law_k";have b73:=bd3 F73 "_law_cell_here" "_law_prime" "_law_many";have b74:=Dc F74 "_law_cell_here" "_law_w";have b75:=HF F75 "_law_script";have b76:=HF F76 "_law_script";have b77:=HF F77 "_law_number_here";have b78:=bd3 F78 "_law_n" "_law_h" "_law_s";have b79:=HF F79 "_law_n";have b80:=bd3 F80 "_law_n" "_law_hands_here" "_law_seed";have b81:=bd3 F81 "_law_n" "_law_hands_here" "_law_seed";have b82:=bd3 F82 "_law_hands_here" "_law_cell_here" "_law_seed";have b83:=Dc F83 "_law_script" "_law_hands_here";have b84:=HF F84 "_law_found";have b85:=Dc F85 "_law_found" "_law_due";have b86:=Dc F86 "_law_world" "_law_deed_here";have b87:=bd3 F87 "_law_cells" "_law_births" "_law_mark";have b88:=bd3 F88 "_law_after" "_law_before" "_law_marks";have b89:=HF F89 "_law_sweeper";have b90:=Dc F90 "_law_cells" "_law_birth";have b91:=bd4 F91 "_law_world" "_law_cells" "_law_state_here" "_law_event_here";have b92:=bd5 F92 "_law_world" "_law_cells" "_law_at" "_law_used" "_law_event_here";have b93:=HF F93 "_law_world";have b94:=Dc F94 "_law_world" "_law_cells";have b95:=Dc F95 "_law_world" "_law_way";have F96:=Zry (st:=SX) l96 c96 k96;refine⟨W.fnOf "law" "law" (o5 SX) (lU SX) (aJ SX) .none ZAo ZBn ZA6 ZBt Q ZBq,λs v=>.of_eq rfl,λbase _ _=>?_⟩;have G1:=hh (w:=w) (Nm l.prog base a T F1 ) b1 k1;have G2:=hh (w:=w) (WX l.prog base a T F2 ) b2 k2;have G3:=hh (w:=w) (J4 l.prog base a T F3 ) b3 k3;have G4:=hh (w:=w) (Nj l.prog base a T F4 ) b4 k4;have G6:=hh (w:=w) (Zev l.prog base a T F6 ) b6 k6;have G8:=hh (w:=w) (Zbk l.prog base a T F8 ) b8 k8;have G9:=hh (w:=w) (WW l.prog base a T F9 ) b9 k9;have t:=hh (w:=w) (Zj0 l.prog base a T F10 ) b10 k10;have G14:=hh (w:=w) (Nk l.prog base a T F14 ) b14 k14
 have G15:=hh (w:=w) (Hu l.prog base a T F15 ) b15 X;have G17:=hh (w:=w) (Zud l.prog base a T F17 ) b17 k17;have G20:=hh (w:=w) (Zb3 l.prog base a T F20 ) b20 k20;have o:=hh (w:=w) (Zb4 l.prog base a T F21 ) b21 k21;have G22:=hh (w:=w) (Wv l.prog base a T F22 ) b22 k22;have G40:=hh (w:=w) (Ws l.prog base a T F40 ) b40 k40;have G43:=hh (w:=w) (Zxj l.prog base a T F43 ) b43 k43;have G46:=hh (w:=w) (Zmv l.prog base a T F46 ) b46 k46;have G47:=hh (w:=w) (Hv l.prog base a T F47 ) b47 E;have G48:=hh (w:=w) (FP l.prog base a T F48 ) b48 N;have G49:=hh (w:=w) (Nh l.prog base a T F49 ) b49 B;have G51:=hh (w:=w) (J3 l.prog base a T F51 ) b51 k51;have G53:=hh (w:=w) (WR l.prog base a T Y ) b53 k53;have G54:=hh (w:=w) (Ni l.prog base a T F54 ) b54 k54;have g:=hh (w:=w) (Zeq l.prog base a T F55 ) b55 k55;have G58:=hh (w:=w) (TV l.prog base a T F58 ) b58 k58;have D:=hh (w:=w) (Zbi l.prog base a T F72 ) b72 k72;have j:=hh (w:=w) (Zbg l.prog base a T F73 ) b73 k73;have P:=hh (w:=w) (Zb7 l.prog base a T F74 ) b74 k74;have G79:=hh (w:=w) (Zbd l.prog base a T F79 ) b79 k79;have F:=hh (w:=w) (Ub l.prog base a T F84 ) b84 k84;have L:=hh (w:=w) (Zb8 l.prog base a T F87 ) b87 k87;have G88:=hh (w:=w) (Uc l.prog base a T F88 ) b88 k88;have G90:=hh (w:=w) (QV l.prog base a T F90 ) b90 k90;have G7:=hh (w:=w) (Zbl l.prog base a T F7 G2) b7 k7;have d:=hh (w:=w) (Zeu l.prog base a T F11 t) b11 k11;have G13:=hh (w:=w) (Zms l.prog base a T F13 t) b13 k13;have G23:=hh (w:=w) (Zir l.prog base a T F23 o) b23 k23;have G27:=hh (w:=w) (Zuc l.prog base a T F27 t o) b27 k27;have M:=hh (w:=w) (Zue l.prog base a T F29 t o) b29 k29;have G39:=hh (w:=w) (Zes l.prog base a T F39 G9 o) b39 k39;have G44:=hh (w:=w) (JZ l.prog base a T F44 G40) b44 k44;have G50:=hh (w:=w) (J2 l.prog base a T F50 G46) b50 k50;have G52:=hh (w:=w) (J1 l.prog base a T F52 G46) b52 k52;have C:=hh (w:=w) (Ziz l.prog base a T F56 t g) b56 k56;have G59:=hh (w:=w) (TX l.prog base a T F59 G20) b59 k59;have G75:=hh (w:=w) (WK l.prog base a T F75 D j P) b75 k75;have G76:=hh (w:=w) (Zbb l.prog base a T F76 D j) b76 k76;have G78:=hh (w:=w) (Zbc l.prog base a T F78 j) b78 k78;have G82:=hh (w:=w) (Wy l.prog base a T F82 j P) b82 k82;have G85:=hh (w:=w) (WL l.prog base a T F85 F) b85 k85;have G89:=hh (w:=w) (Wx l.prog base a T F89 F) b89 k89;have G5:=hh (w:=w) (Zbj l.prog base a T F5 G1 G2 G8 G6) b5 k5;have G12:=hh (w:=w) (Ziq l.prog base a T F12 G13) b12 k12;have G16:=hh (w:=w) (J0 l.prog base a T F16 G14 G4 G15) b16 k16;have I:=hh (w:=w) (Zb6 l.prog base a T F19 d) b19 k19;have G26:=hh (w:=w) (Zq9 l.prog base a T F26 G50 G47) b26 k26;have y:=hh (w:=w) (Zer l.prog base a T F28 G27) b28 k28;have G31:=hh (w:=w) (Zio l.prog base a T F31 M o G22) b31 k31;have G42:=hh (w:=w) (Wt l.prog base a T F42 G7 t o) b42 k42;have G57:=hh (w:=w) (Zb5 l.prog base a T F57 G3 C) b57 k57;have G63:=hh (w:=w) (Ziy l.prog base a T F63 d g) b63 k63;have G64:=hh (w:=w) (Zix l.prog base a T F64 d g) b64 k64;have G66:=hh (w:=w) (Zet l.prog base a T F66 C) b66 k66;have G67:=hh (w:=w) (Zit l.prog base a T F67 C) b67 k67;have G68:=hh (w:=w) (Ziu l.prog base a T F68 C g) b68 k68;have G70:=hh (w:=w) (TY l.prog base a T F70 M) b70 k70;have G77:=hh (w:=w) (Zbe l.prog base a T F77 G54) b77 k77;have G80:=hh (w:=w) (Zbh l.prog base a T F80 j G79 G78 P) b80 k80
 have G18:=hh (w:=w) (T9 l.prog base a T F18 I) b18 k18;have G25:=hh (w:=w) (Zb2 l.prog base a T F25 I G23) b25 k25;have G30:=hh (w:=w) (Zq8 l.prog base a T F30 G17 G31) b30 k30;have G32:=hh (w:=w) (Wu l.prog base a T V y) b32 k32;have G35:=hh (w:=w) (Zua l.prog base a T F35 y) b35 k35;have G41:=hh (w:=w) (QS l.prog base a T F41 G43 G42) b41 k41;have G60:=hh (w:=w) (Ziv l.prog base a T F60 G5 d g) b60 k60;have G61:=hh (w:=w) (Zmu l.prog base a T F61 d G57 g) b61 k61;have G62:=hh (w:=w) (Zmt l.prog base a T F62 d G57 y g G59 G58) b62 k62;have G65:=hh (w:=w) (Ziw l.prog base a T F65 d y g G59) b65 k65;have G69:=hh (w:=w) (Zis l.prog base a T F69 d y G70 g) b69 k69;have G81:=hh (w:=w) (WQ l.prog base a T F81 G80 j) b81 k81;have z:=hh (w:=w) (Wr l.prog base a T F24 G9 G25) b24 k24;have G33:=hh (w:=w) (QT l.prog base a T F33 G26 G32) b33 k33;have G38:=hh (w:=w) (Ww l.prog base a T F38 o G12 G30) b38 k38;have G71:=hh (w:=w) (ZAe l.prog base a T F71 G63 G64 G61 G65 G60 G68 G62 G67 G69 G66) b71 k71;have G83:=hh (w:=w) (Zba l.prog base a T F83 D G81 j G82) b83 k83;have G37:=hh (w:=w) (Zxm l.prog base a T F37 I G38 G39 G40) b37 k37;have G86:=hh (w:=w) (Zbf l.prog base a T F86 G71) b86 k86;have G91:=hh (w:=w) (WM l.prog base a T F91 G85 G88 L z) b91 k91;have G92:=hh (w:=w) (Ua l.prog base a T F92 G85 G88 F L G90 d z) b92 k92;have G93:=hh (w:=w) (Wz l.prog base a T F93 L M G17 G30 z) b93 k93;have G94:=hh (w:=w) (QW l.prog base a T F94 G27 z) b94 k94;have G36:=hh (w:=w) (T7 l.prog base a T F36 G51 G52 G53 G48 G49 G37 G32) b36 k36;have G34:=hh (w:=w) (QM l.prog base a T Z G36 G35) b34 k34;have G45:=hh (w:=w) (Zub l.prog base a T F45 G33 G41 G34 G44) b45 k45;have G95:=hh (w:=w) (Zb9 l.prog base a T F95 G91 G93 F G92 G89 G94 G18 G45 z) b95 k95;exact Zxi _ _ a T F96 G16 D G86 G75 G77 G76 G83 G95
theorem walk{l:W.OpenLaw}{q:AL}{b:AG}{g:(As)->Heap->Prop}{e:AN->Heap->Prop}{d:DefRec}{K:Params->aC}(hn:l.most=some 63)(c:d.params.defaults=[])
  (i:∀(w:AN) (h:Heap),e w h->(K w.params).In h)
  (F:∀(w:AN) (mg:As) (fa:AH) (h:Heap),(K w.params).In h->h.Ns mainGlobals mg->mg d.name=↑fa->
   ∃fd:AK,(∀(s:AJ) (u:AI),BindsTo s fd ⟨[u],[]⟩ [("_law_script",u)])/\∀base:Heap,(K w.params).In base->base.Ns mainGlobals mg->xJ l.prog w (K w.params) mg base (G.VG l.prog w) 11 fa fd ["_law_script"] (Zlz (K w.params))):
  W.WalkO q b g e l.row.toRowW d [] (λf vs=>PySem.call f vs):=
 L2.Zsv (n:=63) (k:=11) (x:="_law_script") (CX:=λw=>G.VG l.prog w) (sp:=λw=>Zlz (K w.params)) hn ε c ⟨rfl,ε,ε⟩ i F (λ_ _ a ns hl _ j=>⟨a,rfl,ns,j,hl,λ_=>rfl⟩) λ_ _ _ _ _ z=>by
  obtain⟨_,_,_,_,_,_,_,_,_,_,_,_,z⟩:=z;exact z
end K28
namespace PySem.W.Fast
def tw6323995045147340880:=0
def tw152802185199701138:=0
def tw8454241668325580087:=0
def tw8792768738884108011:=0
def tw14589025985129337276:=0
def tw18309087750415027351:=0
def tw6560695717233229668:=0
def tw13991934712639844046:=0
def tw2783166593467127335:=0
def tw15733300965686957560:=0
def tw15025700854864242618:=0
def tw10569967621595962553:=0
def tw17281269949414774255:=0
def tw10881712317055711134:=0
def tw11957425387972906077:=0
def tw5057082199640855898:=0
def tw6280249379545468649:=0
def tw14885298591181768232:=0
def tw4787145472626728949:=0
def tw16861872375479984717:=0
def tw12420362194234894094:=0
def tw11951966869340505948:=0
def tw4990953034124376696:=0
def tw3218087301708796645:=0
def tw9644457500015484070:=0
def tw3562170999070626274:=0
def tw8088722374365720971:=0
def tw11390598084862584105:=0
def tw6757342224625462892:=0
def tw3367250529689061935:=0
def tw6499064000721365765:=0
def tw3548076857499855446:=0
def tw4008490984999660381:=0
def tw8847911091914876851:=0
def tw5253982047610762587:=0
def tw3353006403648629315:=0
def tw4847683176311790678:=0
def tw4515050841253141788:=0
def tw17939040242780529537:=0
def tw302484677014688060:=0
def tw15938354458032991743:=0
def tw3885878191999670131:=0
def tw701783219995201259:=0
def tw11832195309441451843:=0
def tw3003837465248734596:=0
def tw16463634726446108471:=0
def tw7138048636318678992:=0
def tw7152363230150110951:=0
def tw794260651373538657:=0
def tw9546623375330999729:=0
def tw5531956911433136335:=0
def tw17482412016228085277:=0
def tw7262286970218007619:=0
def tw1844003028778639088:=0
def tw13618852729710985216:=0
def tw16101225096001498492:=0
def tw2191716018111740415:=0
def tw9983131506384743299:=0
def tw2361035152644262351:=0
def tw17487230038919128380:=0
def tw11791554772359976005:=0
def tw837317368174485261:=0
def tw17502136875651797750:=0
def tw5344591948185607870:=0
def tw10613477034284863158:=0
def tw3668785461369020107:=0
def tw15570352400329477340:=0
def tw2992824312480007143:=0
def tw9101671883006376006:=0
def tw9163514945659268125:=0
def tw9199712541831171768:=0
def tw1805820450854953789:=0
def tw4675532900753477457:=0
def tw2363442838124504191:=0
def tw10567090917650304063:=0
def tw12813300052484196804:=0
def tw11300705384666292250:=0
def tw2920890051763076855:=0
def tw16049286274093179962:=0
def tw11857250407716539079:=0
def tw6765055295307523259:=0
def tw14095515145876466682:=0
def tw10736993660240923917:=0
def tw3394781954471036821:=0
def tw14371191397760668047:=0
def tw8819045278271210187:=0
def tw10704395383609802658:=0
def tw17389974971373811774:=0
def tw10982025368497328895:=0
def tw11657027776398011423:=0
def tw16831203103136097663:=0
def tw8242692569519411217:=0
def tw12681903830123630312:=0
def tw9269971216191118111:=0
def tw10545398727552390250:=0
def tw841337566408557598:=0
def tw15435802514744217416:=0
def tw17351777395277082547:=0
def tw14176444947561847228:=0
def tw8688043840976639125:=0
def tw16416622184091739902:=0
def tw1023204540556560813:=0
def tw12877329084647859999:=0
def tw8133718250964725302:=0
def tw8203213856948211295:=0
def tw4164479452833536664:=0
def tw12523866036912766002:=0
def tw15388299608164967313:=0
def tw5516475710825903289:=0
def tw14164126843798866441:=0
def tw16439597208196887675:=0
def tw17708034592434128317:=0
def tw2905859150186412030:=0
def tw8302223156820536724:=0
def tw8267010008169969837:=0
def tw10259915267722314203:=0
def tw13559292463116279784:=0
def tw11581263032557055274:=0
def tw10715790439220169564:=0
def tw12632673699145363076:=0
def tw10499168482659736891:=0
def tw13460395353265041321:=0
def tw1850687629925690261:=0
def tw2232123651758360161:=0
def tw3044903596996414560:=0
def tw8443297452749571794:=0
def tw7258557766183042200:=0
def tw6985945181329480275:=0
def tw4263075970369356417:=0
def tw2101508122144900932:=0
def tw7689717286041662912:=0
def tw11995513076448121157:=0
def tw4447200165548310097:=0
def tw132892793492697834:=0
def tw16862074526262412119:=0
def tw10397033727720966550:=0
def tw16982385753621147149:=0
def tw17843500727878063390:=0
def tw16182660503990238196:=0
def tw7416746913601877663:=0
def tw6172404535300962926:=0
def tw4793275976257469281:=0
def tw7127266354853098744:=0
def tw3813381319881577393:=0
def tw8564843694806407676:=0
def tw2936384571939836343:=0
def tw10880832598018500017:=0
def tw4558927429841098031:=0
def tw12118861051740923112:=0
def tw12420597898129460227:=0
def tw16847150290433442504:=0
def tw15697486783932535016:=0
def tw1511615162685230884:=0
def tw12476766494059475633:=0
def tw1152913161599400121:=0
def tw10517730504853366143:=0
def tw647325264283061960:=0
def tw8297478873291035696:=0
def tw7988039343134438267:=0
def tw12173345649472806246:=0
def tw6553364324290454971:=0
def tw8732600885758709348:=0
def tw6953715497075881180:=0
def tw17838956301505147517:=0
def tw7624593358945107230:=0
def tw12703940342390685515:=0
def tw16385968767270923358:=0
def tw16172228590378865241:=0
def tw5096561104424012887:=0
def tw13920885406466298637:=0
def tw10940178850528533632:=0
def tw11421234200797588136:=0
def tw18391980109246239410:=0
def tw8495330861590001701:=0
def tw882313454567644673:=0
def tw7780965618772155821:=0
def tw17786798547379087441:=0
def tw14947049592392376961:=0
def tw18356375687553175873:=0
def tw12370045603085106243:=0
def tw3037991387860527617:=0
def tw3950845531071036473:=0
def tw15830440712438276498:=0
def tw6563686302867601687:=0
def tw5118905531986274129:=0
def tw13268820283099257166:=0
def tw12567650613522024893:=0
def tw4414605884775501979:=0
def tw3248312500715328856:=0
def tw1745714947813429417:=0
def tw15759107474650882622:=0
def tw17364194950282548097:=0
def tw1630682523559147593:=0
def tw257822170341651567:=0
def tw14857106402640154622:=0
def tw625471413165525197:=0
def tw12438365005188434949:=0
def tw9357591560347180320:=0
def tw12241214391789283400:=0
def tw2030631183705518318:=0
def tw3628527859091191186:=0
def tw6721600906934190304:=0
def tw3538572623380065499:=0
def tw4471081387124188348:=0
def tw16441239846362772769:=0
def tw1955325854038905932:=0
def tw6759719233516205451:=0
def tw17129139596976538509:=0
def tw17872065529845268722:=0
def tw12714285015075100547:=0
def tw489281329861962173:=0
def tw8697694101282728168:=0
def tw16497751614820131169:=0
def tw16854486778373926729:=0
def tw14518105667992094925:=0
def tw8025948049619913478:=0
def tw11950160966222451770:=0
def tw5279915957128788181:=0
def tw8056144667126552906:=0
def tw11503458389669899674:=0
def tw3761822983683139578:=0
def tw12067149864130459886:=0
def tw15877838908033155752:=0
def tw11975008826503919365:=0
def tw16525193295905862159:=0
def tw4269660307516444853:=0
def tw13531461880540310484:=0
def tw13918984086212052438:=0
def tw7445265099731553816:=0
def tw7616301674387790096:=0
def tw10514877724869282674:=0
def tw11024245707130910381:=0
def tw18401731799536210280:=0
def tw10323881664512131199:=0
def tw2371263105367833215:=0
def tw13072272923471223250:=0
def tw5913157674235030364:=0
def tw15367300770878915832:=0
def tw16107109778945907337:=0
def tw16089238396455200184:=0
def tw16177589657972503136:=0
def tw12960055808711110913:=0
def tw16944720509102282460:=0
def tw14874684894608899594:=0
def tw8590179006693630153:=0
def tw12612409193187809725:=0
def tw15783844926089209593:=0
def tw4124856597856850576:=0
def tw417158882085757189:=0
def tw4621945044429076990:=0
def tw17789607923358150232:=0
def tw15276569732171226723:=0
def tw6258894106079707204:=0
def tw6564088735971218805:=0
def tw600652411730614110:=0
def tw10527563605728851926:=0
def tw15356777685899395215:=0
def tw13199097539196305745:=0
def tw16376409788365512907:=0
def tw1975806551665646339:=0
def tw7446014396254320278:=0
def tw7535242390954181243:=0
def tw8034985556042940669:=0
def tw8654259549951332725:=0
def tw68354763218817677:=0
def tw5819385764901168435:=0
def tw868101294606520524:=0
def tw3015796582356064528:=0
def tw3000111179475830002:=0
def tw12988554853327867370:=0
def tw5637701310654057782:=0
def tw7365562683473135292:=0
def tw18082316648371792695:=0
def tw7837984643325437430:=0
def tw13057293564160960641:=0
def tw13230639321104213748:=0
def tw16181384150217131640:=0
def tw4142648607399661935:=0
def tw15530472736349316540:=0
def tw5231088292183289782:=0
def tw17749575520319978637:=0
def tw1319883662179698421:=0
def tw3760703039718549999:=0
def tw12542181120506244975:=0
def tw8170214469716462685:=0
def tw4368853261795501604:=0
def tw14788787555355234910:=0
def tw270068351406384618:=0
def tw15285801850464497623:=0
def tw2966466577383420487:=0
def tw18347297685954259966:=0
def tw18388153594822417015:=0
def tw10108474738275963818:=0
def tw3445894914585523932:=0
def tw13294477380970587645:=0
def tw18162993849422794982:=0
def tw2231214906635647234:=0
def tw8182090991711653440:=0
def tw11256281848691481495:=0
def tw3759180810973103424:=0
def tw10846058100203539191:=0
def tw3953453528296041005:=0
def tw17612103368973678662:=0
def tw17769755489707623803:=0
def tw1386359099549901439:=0
def tw41217670857095697:=0
def tw6178838800640522577:=0
def tw7405683977751469916:=0
def tw8745318060206349474:=0
def tw3254388471168254235:=0
def tw10815610742143215310:=0
def tw2717007836532819983:=0
def tw1882104353186565090:=0
def tw6908368576396606801:=0
def tw4479349879412253852:=0
def tw13944229390899734549:=0
def tw2096656164081399864:=0
def tw1855134035128206602:=0
def tw850322456679146604:=0
def tw11920753691548255376:=0
def tw11650989253701886536:=0
def tw6650542044346055645:=0
def tw14969478262440773915:=0
def tw1355931881568053605:=0
def tw15654561420120301367:=0
def tw4532658700203660842:=0
def tw2044129597966625115:=0
def tw8225369287953385494:=0
def tw9334057060053467495:=0
def tw10144059307338052729:=0
def tw11414508868131310349:=0
def tw5976632644490951523:=0
def tw6801584130485055444:=0
def tw13641795568923891839:=0
def tw1409284344135974004:=0
def tw17537073321279198691:=0
def tw15964854396042710309:=0
def tw11520521662798130426:=0
def tw16258637984423860290:=0
def tw15040743745777741614:=0
def tw11622801777448403708:=0
def tw15713329930938968352:=0
def tw9661676476983747116:=0
def tw3098797674867342514:=0
def tw10681175577418743272:=0
def tw16824139927721114190:=0
def tw8997776026742498948:=0
def tw2575034306515605026:=0
def tw18259008123840102333:=0
def tw12182658039029725286:=0
def tw6734796625191092883:=0
def tw11365006176061938711:=0
def tw12801852622408254281:=0
def tw8481600442887428351:=0
def tw10333485024013390202:=0
def tw11029153628427281591:=0
def tw14323813350121233497:=0
def tw11810557529450027722:=0
def tw2138787909741917676:=0
def tw6374525306086243654:=0
def tw9946034344373084558:=0
def tw482570281602776239:=0
def tw195849883874976644:=0
def tw12410757422700489499:=0
def tw11571713376240360465:=0
def tw14866935472945962859:=0
def tw2220821018125153094:=0
def tw6328853417149787795:=0
def tw10374461715722216128:=0
def tw5625316569165216520:=0
def tw12616398790361141078:=0
def tw7311269993576155399:=0
def tw10558892110124903622:=0
def tw10057325699415318683:=0
def tw13843272261819643087:=0
def tw7509734558929411229:=0
def tw4898771834842863717:=0
def tw8591409779170216246:=0
def tw12580138101994503778:=0
def tw8475312631373851010:=0
def tw8475694984015841255:=0
def tw4978245364918467049:=0
def tw7622863599159960208:=0
def tw10701419095514852830:=0
def tw2549959539380397281:=0
def tw564355654836846864:=0
def tw10389062168867131295:=0
def tw10701387360316004173:=0
def tw12069586280569876448:=0
def tw13722629488753217731:=0
def tw6150992495469232234:=0
def tw2240578793925599930:=0
def tw15243885196542208621:=0
def tw1615482064467049867:=0
def tw9633502839738719572:=0
def tw8929613868739878380:=0
def tw14905616136299938863:=0
def tw9420234558200527805:=0
def tw16948695302975880214:=0
def tw3162503796439194199:=0
def tw12048993681106902126:=0
def tw442404200741084857:=0
def tw2111006768088500225:=0
def tw12191104664304519581:=0
def tw2939088519825463518:=0
def tw1204275331987738002:=0
def tw7617548933962585359:=0
def tw9865683405099077766:=0
def tw9605483675661758402:=0
def tw1634018570227556953:=0
def tw6553487888080944033:=0
def tw9740329651247593588:=0
def tw10342119811723675364:=0
def tw946857785071489689:=0
def tw11255330759437258103:=0
def tw6283551024474203265:=0
def tw12709555407367246491:=0
def tw13931107910492568699:=0
def tw1167752164485556121:=0
def tw11571910297350153121:=0
def tw11615007712110438596:=0
def tw16081340057532144884:=0
def tw11729199571695014981:=0
def tw15356629559466606551:=0
def tw12394788016842364685:=0
def tw847318699939267757:=0
def tw7144125934916824894:=0
def tw6074987977916616944:=0
def tw16082386733584835500:=0
def tw16071477973472568445:=0
def tw5808761018042485850:=0
def tw1105824694132495536:=0
def tw4465994737143807880:=0
def tw12383628045581469791:=0
def tw5865860212599231254:=0
def tw12343812614831638342:=0
def tw6770749226089293284:=0
def tw13004715373462734766:=0
def tw7433059938542050859:=0
def tw10269789217208849323:=0
def tw7088967127759780107:=0
def tw11368647346225037485:=0
def tw40420573287523949:=0
def tw4416765342067127846:=0
def tw8482266798654587472:=0
def tw11356160207017914305:=0
def tw16371142470831124784:=0
def tw8086589225162091805:=0
def tw6934433570180280904:=0
def tw2115257787366018522:=0
def tw14536271443508559646:=0
def tw5237379924891762283:=0
def tw9750082855084734304:=0
def tw10105081144359269396:=0
def tw6932010993083508166:=0
def tw17290407369470440326:=0
def tw1238212600378586603:=0
def tw18133125584429373248:=0
def tw11121199466502463137:=0
def tw7758068473388926900:=0
def tw320742613008639965:=0
def tw9741039586718400122:=0
def tw3639700367237926039:=0
def tw11290836967748889000:=0
def tw9905618943630033972:=0
def tw12698986314569553587:=0
def tw15555061773190132837:=0
def tw11478420338063083883:=0
def tw16908396187026528417:=0
def tw15638254746076334764:=0
def tw17428888799566845765:=0
def tw6025447700322204065:=0
def tw14381051381140915527:=0
def tw11144091245102491466:=0
def tw9219482951532429705:=0
def tw15593723138314548233:=0
def tw9816251051153959145:=0
def tw17403012623708463940:=0
def tw6163326809966797116:=0
def tw6653948425787009768:=0
def tw16966556637032693656:=0
def tw15899841241387288622:=0
def tw16484706933387924938:=0
def tw3606795672218200519:=0
def tw15450813106828940523:=0
def tw10543615573362052872:=0
def tw384485437156908346:=0
def tw14787364826009825562:=0
def tw13229073809593143388:=0
def tw8563474811222797007:=0
def tw9956780200312753401:=0
def tw1565503694566236218:=0
def tw2414155184921964807:=0
def tw7260769522350403215:=0
def tw4450230231034249252:=0
def tw14634190936241681874:=0
def tw10382310319369668148:=0
def tw17369200794098168128:=0
def tw13680665525833968935:=0
def tw7383555150524891717:=0
def tw4202510295109663830:=0
def tw5446426124785826091:=0
def tw8111298041503497107:=0
def tw6489526132565206788:=0
def tw5044775562137987209:=0
def tw13896317353673431376:=0
def tw15800073117244598482:=0
def tw1565300784773837426:=0
def tw5228872749104790435:=0
def tw2104283440838963528:=0
def tw5311636307568563971:=0
def tw1909443095022990294:=0
def tw5523391473380389660:=0
def tw9832231706311398461:=0
def tw15819213220750879286:=0
def tw1331959968407485715:=0
def tw10809171229815796885:=0
def tw8401191426123928870:=0
def tw14633777249575297817:=0
def tw3476103977209284570:=0
def tw6448800474621552112:=0
def tw10530735380235685739:=0
def tw3954933200764105926:=0
def tw5981229963612152779:=0
def tw8613921596040792485:=0
def tw5019598405773128943:=0
def tw6035153278363582204:=0
def tw10231297064526327965:=0
def tw12825541228959255777:=0
def tw10206740489448615170:=0
def tw1437445027191835908:=0
def tw4618826649642450692:=0
def tw14178044322728671685:=0
def tw1821131647369378309:=0
def tw7734614833755833895:=0
def tw16098538365191947049:=0
def tw11864490968069493866:=0
def tw9482748848091296970:=0
def tw13080236045559676875:=0
def tw18090504736883690861:=0
def tw14469148719573895438:=0
def tw9059255395890531886:=0
def tw2365353915334167697:=0
def tw16055197562462220818:=0
def tw13862693480201288628:=0
def tw9377432206749694581:=0
def tw7724842827531624855:=0
def tw4037235064562174168:=0
def tw13723855991566986936:=0
def tw205167011123007448:=0
def tw3711921747798219963:=0
def tw3721268369967064284:=0
def tw11623225751902149085:=0
def tw13400255788865632959:=0
def tw1995811976042346488:=0
def tw11457656279483455675:=0
def tw3537165970442221600:=0
def tw5007383173227275517:=0
def tw17501513916570292147:=0
def tw11453600923064239859:=0
def tw6858588149149229037:=0
def tw9032786963280855326:=0
def tw5146943522255441162:=0
def tw16383919111133300960:=0
def tw8411338315483887877:=0
def tw5202635850804297160:=0
def tw2633707468637353277:=0
def tw9505519223845167089:=0
def tw14308057351113369027:=0
def tw18045984064800483649:=0
def tw3134001876031331665:=0
def tw11284237964171478600:=0
def tw12505702344152714404:=0
def tw7412058137748364687:=0
def tw18285343095110875680:=0
def tw1178601071154791882:=0
def tw7910966930695565117:=0
def tw13665045445195847786:=0
def tw7666209234733573002:=0
def tw8465460787486373032:=0
def tw10902308570606651314:=0
def tw16906285651931414386:=0
def tw8480318799088230308:=0
def tw7418536103589473958:=0
def tw12686491443390420968:=0
def tw13929146811165033814:=0
def tw11025822783728637671:=0
def tw17973606845340883151:=0
def tw6536410337176203033:=0
def tw6085712971607023311:=0
def tw8507014682759179574:=0
def tw9701557911694293233:=0
def tw8538121921394123577:=0
def tw17159984841874667940:=0
def tw5518587337006395066:=0
def tw9501882699139275610:=0
def tw14237727376273879941:=0
def tw12061287170543550449:=0
def tw16445705188831130788:=0
def tw5325436940038392039:=0
def tw1030546268581035096:=0
def tw2074162994133223642:=0
def tw16502361286496281896:=0
def tw9702753184003358280:=0
def tw13184075236468811519:=0
def tw14500151686192859453:=0
def tw4076420627377727784:=0
def tw15826931331845175174:=0
def tw14140170809938275406:=0
def tw14037459746046647259:=0
def tw1649424650150013899:=0
def tw6791990648067910834:=0
def tw14657908360686075078:=0
def tw4490925245549175726:=0
def tw14346680387807156123:=0
def tw7565500392315384352:=0
def tw7943024409962229081:=0
def tw5454583988290385318:=0
def tw12445505801145672:=0
def tw12933712822390873133:=0
def tw69740263085075073:=0
def tw2888572311925188064:=0
def tw18412800269815937007:=0
def tw4291726887313303820:=0
def tw6849745664334261990:=0
def tw9524908420749627854:=0
def tw8644579754254067434:=0
def tw11066172329861727674:=0
def tw519804788460464893:=0
def tw11540708560026766845:=0
def tw8373320976978484721:=0
def tw12797421431465256280:=0
def tw7451036122762127363:=0
def tw4033349947146919350:=0
def tw5068824162012815668:=0
def tw17625871631330741448:=0
def tw15907838367564186595:=0
def tw16277509870940272160:=0
def tw9755915240336379292:=0
def tw16504087706707584689:=0
def tw2383502473710717053:=0
def tw6946390585420011332:=0
def tw16182665005720490504:=0
def tw6285331783360657405:=0
def tw12411199345301028280:=0
def tw5402614893601987646:=0
def tw16777742394355876475:=0
def tw16788056147527417571:=0
def tw8047252891520503225:=0
def tw14480207825086348981:=0
def tw16881102026686469040:=0
def tw7030041682392335978:=0
def tw3141024087984129089:=0
def tw829530914752270397:=0
def tw9775708590462177160:=0
def tw7699854071763664447:=0
def tw8952550886475675956:=0
def tw5018381662853302377:=0
def tw3958290644421472868:=0
def tw7989495622337947298:=0
def tw2067306519981622842:=0
def tw6960830385750227229:=0
def tw4083909216769183843:=0
def tw9482697654989962170:=0
def tw13230540266107758431:=0
def tw5938889887867178692:=0
def tw10484608033077046768:=0
def tw15004210189293538874:=0
def tw5398647656938460681:=0
def tw2272324733195059580:=0
def tw15892394512066326022:=0
def tw17794096152437058158:=0
def tw7784365477544011251:=0
def tw14408295849415981896:=0
def tw17498864123580899082:=0
def tw8806767277945848109:=0
def tw1054516891160263773:=0
def tw7257523253368070496:=0
def tw16771092503664681511:=0
def tw17182053766604872738:=0
def tw10830415224847792461:=0
def tw10608383543098808344:=0
def tw14355009564436023922:=0
def tw9117040106374550822:=0
def tw8709731123311794290:=0
def tw5995756094188522778:=0
def tw6375968750401404565:=0
def tw8541516171772526687:=0
def tw13088792334898324786:=0
def tw9640508639990567348:=0
def tw16006477365954989854:=0
def tw17940573262153647375:=0
def tw15313425415018182395:=0
def tw12333610728781677547:=0
def tw17779830793427491676:=0
def tw4534738120868153160:=0
def tw1841258037651162127:=0
def tw4495914840320644282:=0
def tw4201507185039634735:=0
def tw8775825596667682325:=0
def tw16788988351408707359:=0
def tw6349318140397770595:=0
def tw16381610276545968352:=0
def tw5687099021656446775:=0
def tw8571067142917237623:=0
def tw2973142914082835201:=0
def tw16674428890919007506:=0
def tw4389236364336701016:=0
def tw16893270005793067533:=0
def tw9866495271939789906:=0
def tw13517826406203929432:=0
def tw17298990974246641443:=0
def tw3592268787750693023:=0
def tw18299745903882384026:=0
def tw9544358627146416454:=0
def tw14935748221543876724:=0
def tw15964813141827000918:=0
def tw9380672141104799267:=0
def tw10171310268836213799:=0
def tw15174894599483439736:=0
def tw1837573754971111511:=0
def tw8024616979456232322:=0
def tw17916581450308779802:=0
def tw10056678367810386378:=0
def tw9856617844862498295:=0
def tw17391432431113620919:=0
def tw672594110929743640:=0
def tw17804126994014507202:=0
def tw2793308517303531793:=0
def tw394050622576290205:=0
def tw9635333358610277229:=0
def tw17604555556344449868:=0
def tw4407443324449134003:=0
def tw1168471145452513512:=0
def tw4132594559404363814:=0
def tw10542503940052596614:=0
def tw11173392315680591142:=0
def tw14375713143476382628:=0
def tw7151535546748910987:=0
def tw7617426315704354319:=0
def tw15716165014678666995:=0
def tw6371142087948078870:=0
def tw17698853218256149007:=0
def tw17000649777232129779:=0
def tw1191528050888647361:=0
def tw14084846345669544725:=0
def tw1512909729570029372:=0
def tw5654799087459054020:=0
def tw17987711032151855355:=0
def tw4481538072249007200:=0
def tw12057460996497796258:=0
def tw6998035831745335748:=0
def tw9753033405876819915:=0
def tw14971190463004128530:=0
def tw7436226550521857362:=0
def tw13837623268074295389:=0
def tw10514911169258440364:=0
def tw2325020871894123703:=0
def tw1261196959756241310:=0
def tw14638857441208589109:=0
def tw14224875765825304953:=0
def tw4656491572974466664:=0
def tw6415285890041000298:=0
def tw11108116508599936989:=0
def tw3237735849176339465:=0
def tw7530229742912368328:=0
def tw759638345633157251:=0
def tw14171838729883487275:=0
def tw3245096502259359491:=0
def tw12317582134683108886:=0
def tw1691207820917992607:=0
def tw6645474343929990238:=0
def tw1948794794246562199:=0
def tw7518107888981289174:=0
def tw16640953659893290414:=0
def tw7599994091261868759:=0
def tw6915377625554820088:=0
def tw2465243733214141432:=0
def tw12207816919551569925:=0
def tw1706164563309171772:=0
def tw8282954331941322747:=0
def tw2444141067922377802:=0
def tw6993343220143401651:=0
def tw11927386953952925047:=0
def tw3928889540900576141:=0
def tw14778067234695191274:=0
def tw15234115442720859666:=0
def tw1701057735528103249:=0
def tw4571161812249653678:=0
def tw9501045971107959815:=0
def tw552913621958152895:=0
def tw11795641279954336000:=0
def tw8589221993318231499:=0
def tw9174172475181008907:=0
def tw438415776425644016:=0
def tw9381736015064609772:=0
def tw347118504094141399:=0
def tw14069631222955868616:=0
def tw8689723127753936644:=0
def tw5609076061121794932:=0
def tw8788302706787511389:=0
def tw12498371127075587272:=0
def tw4824341991614551122:=0
def tw5899569243018617611:=0
def tw9365631167473774702:=0
def tw10548154965662744850:=0
def tw3679850960596171328:=0
def tw4305229323672863065:=0
def tw6782620419735418796:=0
def tw2727615163386545471:=0
def tw7631347344512599976:=0
def tw11127746323047163805:=0
def tw12650668574668796770:=0
def tw3367752101301007533:=0
def tw11733617721945143773:=0
def tw9569414632525665081:=0
def tw3405169446947784648:=0
def tw6779921950837026353:=0
def tw14968281396801545584:=0
def tw5980599061207896043:=0
def tw18311363095011019263:=0
def tw16358668329774550731:=0
def tw15343422268298658769:=0
def tw232114386626160860:=0
def tw14468708597295699701:=0
def tw15556103249436509033:=0
def tw13877130320155147534:=0
def tw549413206330716677:=0
def tw13555629386237560698:=0
def tw12290841132071209585:=0
def tw10037866689692032414:=0
def tw9969500936601195552:=0
def tw17627543772723628309:=0
def tw14322203100283967189:=0
def tw14557644076727673826:=0
def tw533625874721167768:=0
def tw3578615184841291254:=0
def tw11401547821902592673:=0
def tw17922379694645484:=0
def tw14757552882192492456:=0
def tw6509731108465304905:=0
def tw5196686890219311110:=0
def tw17555707010166832176:=0
def tw16503999690779394649:=0
def tw11593178467411648869:=0
def tw1763565843714912876:=0
def tw5502179680733155026:=0
def tw7191076200081041567:=0
def tw8389155493905876380:=0
def tw10576784317121900848:=0
def tw15394501739547153429:=0
def tw11321228045525834319:=0
def tw9579974727056440369:=0
def tw4255947326998988951:=0
def tw16366708742875009585:=0
def tw11202230463928887787:=0
def tw13273307037462709360:=0
def tw3523593662018747016:=0
def tw11068404698966015690:=0
def tw3410241416549767839:=0
def tw13070073738539281613:=0
def tw16000342208405059445:=0
def tw5623394145482826711:=0
def tw16624399724247013457:=0
def tw16143362019076071857:=0
def tw5205643302248367216:=0
def tw10723093108739057632:=0
def tw17618273428213340638:=0
def tw2168499827556029478:=0
def tw5641631368207684077:=0
def tw7469457159235917952:=0
def tw16573491253193343314:=0
def tw16756192435201471049:=0
def tw15157472594688182879:=0
def tw1720440973927095169:=0
def tw18344391563815725826:=0
def tw9783007190255720014:=0
def tw12706638242933842485:=0
def tw7643463511561564294:=0
def tw4594162190485264218:=0
def tw17989326279278568238:=0
def tw14240186220841706222:=0
def tw12895449108310173453:=0
end PySem.W.Fast
open PySem PySem.W PyProof.Rows
set_option maxRecDepth 100000 in
set_option maxHeartbeats 0 in
theorem PySem.Challenge.cw_greywalk_k28_places_passed_holds : PySem.Challenge.rw_greywalk_k28_places_passed.Holds := by
 w_on;o_law;k_head;(case hw=>w_witness2)
 k_fill
 refine K28.walk (l:=PySem.Challenge.rw_greywalk_k28_places_passed) rfl rfl (fun w h Y=>PySem.W.kIn_of Y) ?F
 case F=>
  intro w mg fa h KX G hmg
  refine' K28.all_mk KX G hmg ?h0 ?h1 ?h2 ?h3 ?h4 ?h5 ?h6 ?h7 ?h8 ?h9 ?h10 ?h11 ?h12 ?h13 ?h14 ?h15 ?h16 ?h17 ?h18 ?h19 ?h20 ?h21 ?h22 ?h23 ?h24 ?h25 ?h26 ?h27 ?h28 ?h29 ?h30 ?h31 ?h32 ?h33 ?h34 ?h35 ?h36 ?h37 ?h38 ?h39 ?h40 ?h41 ?h42 ?h43 ?h44 ?h45 ?h46 ?h47 ?h48 ?h49 ?h50 ?h51 ?h52 ?h53 ?h54 ?h55 ?h56 ?h57 ?h58 ?h59 ?h60 ?h61 ?h62 ?h63 ?h64 ?h65 ?h66 ?h67 ?h68 ?h69 ?h70 ?h71 ?h72 ?h73 ?h74 ?h75 ?h76 ?h77 ?h78 ?h79 ?h80 ?h81 ?h82 ?h83 ?h84 ?h85 ?h86 ?h87 ?h88 ?h89 ?h90 ?h91 ?h92 ?h93 ?h94 ?h95 ?h96 ?h97 ?h98 ?h99 ?h100 ?ZKo ?ZKn ?ZKm ?ZKl ?ZKk ?ZKj ?ZKi ?ZKh ?ZKg ?ZKf ?ZKe ?ZKd ?ZKc ?ZKb ?ZKa ?ZK9 ?ZK8 ?ZK7 ?ZK6 ?ZK5 ?ZK4 ?ZK3 ?ZK2 ?ZK1 ?ZK0 ?ZJz ?ZJy ?ZJx ?ZJw ?ZJv ?ZJu ?ZJt ?ZJs ?ZJr ?ZJq ?ZJp ?ZJo ?ZJn ?ZJm ?ZJl ?ZJk ?ZJj ?ZJi ?ZJh ?ZJg ?ZJf ?ZJe ?ZJd ?ZJc ?ZJb ?ZJa ?ZJ9 ?ZJ8 ?ZJ7 ?ZJ6 ?ZJ5 ?ZJ4 ?ZJ3 ?ZJ2 ?ZJ1 ?ZJ0 ?ZIz ?ZIy ?ZIx ?ZIw ?ZIv ?ZIu ?ZIt ?ZIs ?ZIr ?ZIq ?ZIp ?ZIo ?ZIn ?ZIm ?ZIl ?ZIk ?ZIj ?ZIi ?ZIh ?ZIg ?ZIf ?ZIe ?ZId ?ZIc ?ZIb ?ZIa ?ZI9 ?ZI8 ?ZI7 ?ZI6 ?ZI5 ?ZI4 ?ZI2 ?ZI1 ?ZI0 ?ZHz ?ZHy ?ZHx ?ZHw ?ZHv ?ZHu ?ZHt ?ZHs ?ZHr ?ZHq ?ZHp ?ZHo ?ZHn ?ZHm ?ZHl ?ZHk ?ZHj ?ZHi ?ZHh ?ZHg ?ZHf ?ZHe ?ZHd ?ZHc ?ZHb ?ZHa ?ZH9 ?ZH8 ?ZH7 ?ZH6 ?ZH5 ?ZH4 ?ZH3 ?ZH2 ?ZH1 ?ZH0 ?ZGz ?ZGy ?ZGx ?ZGw ?ZGv ?ZGu ?ZGt ?ZGs ?ZGr ?ZGq ?ZGp ?ZGn ?ZGm ?ZGl ?ZGk ?ZGj ?ZGi ?ZGh ?ZGg ?ZGf ?ZGe ?ZGd ?ZGc ?ZGb ?ZGa ?ZG9 ?ZG8 ?ZG7 ?ZG6 ?ZG5 ?ZG4 ?ZG3 ?ZG2 ?ZG1 ?ZG0 ?ZFz ?ZFy ?ZFx ?ZFw ?ZFv ?ZFu ?ZFt ?ZFs ?ZFr ?ZFq ?ZFp ?ZFo ?ZFn ?ZFm ?ZFl ?ZFk ?ZFj ?ZFi ?ZFh ?ZFg ?ZFf ?ZFe ?ZFd ?ZFc ?ZFb ?ZFa ?ZF9 ?ZF8 ?ZF7 ?ZF6 ?ZF5 ?ZF4 ?ZF3 ?ZF2 ?ZF1 ?ZF0 ?ZEz ?ZEy ?ZEx ?ZEw ?ZEv ?ZEu ?ZEt ?ZEs ?ZEr ?ZEq ?ZEp ?ZEo ?ZEn ?ZEm ?ZEl ?ZEk ?ZEj ?ZEi ?ZEh ?ZEg ?ZEf ?ZEe ?ZEd ?ZEc ?ZEb ?ZEa ?ZE9 ?ZE8 ?ZE7 ?ZE6 ?ZE5 ?ZE4 ?ZE3 ?ZE1 ?ZE0 ?ZDz ?ZDy ?ZDx ?ZDw ?ZDv ?ZDu ?ZDt ?ZDs ?ZDr ?ZDq ?ZDp ?ZDo ?ZDn ?ZDm ?ZDl ?ZDk ?ZDj ?ZDi ?ZDh ?ZDg ?ZDf ?ZDe ?ZDd ?ZDc ?ZDb ?ZDa
  case h0 | h1 | h2 | h3 | h4 | h5 | h6 | h7 | h8 | h9 | h10 | h11 | h12 | h13 | h14 | h15 | h16 | h17 | h18 | h19 | h20 | h21 | h22 | h23 | h24 | h25=>(show _=_;k_is)
  case h26 | h27=>first | exact rfl | exact ⟨_,rfl⟩
  case h28 | h29 | h30 | h31 | h32 | h33 | h34 | h35 | h36 | h37 | h38 | h39 | h40 | h41 | h42 | h43 | h44 | h45 | h46 | h47 | h48 | h49 | h50 | h51 | h52 | h53 | h54 | h55 | h56 | h57 | h58 | h59 | h60 | h61 | h62 | h63 | h64 | h65 | h66 | h67 | h68 | h69 | h70 | h71 | h72 | h73 | h74 | h75 | h76 | h77 | h78 | h79 | h80 | h81 | h82 | h83 | h84 | h85 | h86 | h87 | h88 | h89 | h90 | h91 | h92 | h93 | h94 | h95 | h96 | h97 | h98 | h99 | h100 | ZKo | ZKn | ZKm | ZKl | ZKk | ZKj | ZKi | ZKh | ZKg | ZKf | ZKe | ZKd | ZKc | ZKb | ZKa | ZK9 | ZK8 | ZK7 | ZK6 | ZK5 | ZK4 | ZK3 | ZK2 | ZK1 | ZK0 | ZJz | ZJy | ZJx | ZJw | ZJv | ZJu | ZJt | ZJs | ZJr | ZJq | ZJp | ZJo | ZJn | ZJm | ZJl=>(show _=_;k_is)
  case ZJk | ZJj | ZJi | ZJh=>exact rfl
  case ZJg | ZJf=>(show _=_;k_is)
  case ZJe | ZJd | ZJc | ZJb | ZJa | ZJ9 | ZJ8 | ZJ7 | ZJ6 | ZJ5=>exact rfl
  case ZJ4 | ZJ3 | ZJ2 | ZJ1 | ZJ0 | ZIz | ZIy | ZIx | ZIw | ZIv | ZIu | ZIt | ZIs | ZIr | ZIq | ZIp | ZIo | ZIn | ZIm | ZIl | ZIk | ZIj | ZIi | ZIh | ZIg | ZIf | ZIe | ZId | ZIc | ZIb | ZIa | ZI9 | ZI8 | ZI7 | ZI6 | ZI5 | ZI4 | ZI2 | ZI1 | ZI0 | ZHz | ZHy | ZHx | ZHw | ZHv | ZHu | ZHt | ZHs | ZHr | ZHq | ZHp | ZHo | ZHn | ZHm | ZHl | ZHk | ZHj | ZHi | ZHh | ZHg | ZHf | ZHe | ZHd | ZHc | ZHb | ZHa | ZH9 | ZH8 | ZH7 | ZH6 | ZH5 | ZH4 | ZH3 | ZH2 | ZH1 | ZH0 | ZGz | ZGy | ZGx | ZGw | ZGv | ZGu | ZGt | ZGs | ZGr | ZGq | ZGp | ZGn=>(show _=_;k_is)
  case ZGm | ZGl | ZGk | ZGj=>k_exc
  case ZGi | ZGh | ZGg | ZGf=>kts_exm
  case ZGe | ZGd | ZGc | ZGb | ZGa | ZG9 | ZG8 | ZG7 | ZG6 | ZG5 | ZG4 | ZG3 | ZG2 | ZG1 | ZG0=>(show _=_;k_is)
  case ZFz=>first | exact rfl | exact ⟨_,rfl⟩
  case ZFy=>(show _=_;k_is)
  case ZFx=>first | exact rfl | exact ⟨_,rfl⟩
  case ZFw | ZFv | ZFu | ZFt | ZFs | ZFr | ZFq | ZFp | ZFo | ZFn | ZFm | ZFl | ZFk | ZFj | ZFi | ZFh | ZFg | ZFf | ZFe | ZFd | ZFc | ZFb | ZFa | ZF9 | ZF8 | ZF7 | ZF6 | ZF5 | ZF4 | ZF3 | ZF2 | ZF1 | ZF0 | ZEz | ZEy | ZEx | ZEw | ZEv | ZEu | ZEt | ZEs | ZEr | ZEq | ZEp | ZEo | ZEn | ZEm | ZEl | ZEk | ZEj | ZEi | ZEh | ZEg | ZEf | ZEe | ZEd | ZEc | ZEb | ZEa | ZE9 | ZE8 | ZE7 | ZE6 | ZE5 | ZE4 | ZE3 | ZE1 | ZE0 | ZDz | ZDy | ZDx | ZDw | ZDv | ZDu | ZDt | ZDs | ZDr | ZDq | ZDp | ZDo | ZDn | ZDm | ZDl | ZDk | ZDj | ZDi | ZDh | ZDg | ZDf | ZDe | ZDd | ZDc | ZDb | ZDa=>(refine' K28.fgm ?l ?c ?k;(case l=>show _=_;k_is);(case c=>show _=_;k_is);(case k=>show _=_;k_is))
#print axioms PySem.Challenge.cw_greywalk_k28_places_passed_holds
